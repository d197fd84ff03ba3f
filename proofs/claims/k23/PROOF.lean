import PyProof.Rows.All
import Wide.All
import KE.KDictOf
import KE.KFromBytes
import KE.KIntText
import KE.KItemsList
import KE.KRevIter
import KE.KSortTup
import KE.KTryMore
import KE.LcSums
import Wide.FinOn
import Lean
import PyProof.EqAt
import PyProof.EqKinds
import PyProof.TupleCall
import PySem.Challenge.RW_tieseek_k23_runs_and_rooms
set_option Elab.async false
set_option linter.all false
set_option maxRecDepth 100000
set_option Elab.async false
set_option linter.all false
set_option maxRecDepth 100000
namespace L2
open PySem PySem.Spec PyProof.Rows
abbrev Key := Sum Int Str
def keyIs : Key → Value → Bool
  | .inl k, v => Value.isInt k v
  | .inr x, v => Value.isStrOf x v
def keyH (w : World) : Key → Int
  | .inl k => hashInt k
  | .inr x => hashStr w x
theorem keyIs_shape : ∀ {k : Key} {v : Value}, keyIs k v = true → (∃ i t, k = Sum.inl i ∧ v = Value.int i t) ∨ (∃ x t, k = Sum.inr x ∧ v = Value.str x t)
  | .inl i, v, h => by
    obtain ⟨t, e⟩ := Value.isInt_shape (k := i) (v := v) h
    exact .inl ⟨i, t, rfl, e⟩
  | .inr x, v, h => by
    obtain ⟨t, e⟩ := Value.isStrOf_shape (x := x) (v := v) h
    exact .inr ⟨x, t, rfl, e⟩
theorem keyIs_int (i : Int) (t : Tok) : keyIs (.inl i) (.int i t) = true := by simp [keyIs, Value.isInt]
theorem keyIs_str (x : Str) (t : Tok) : keyIs (.inr x) (.str x t) = true := by simp [keyIs, Value.isStrOf]
theorem key_ll (a b : Int) : decide ((Sum.inl a : Key) = Sum.inl b) = (a == b) := by
  by_cases e : a = b
  · subst e; simp
  · have h : ¬ (Sum.inl a : Key) = Sum.inl b := fun q => e (Sum.inl.inj q)
    rw [decide_eq_false h]
    exact (beq_eq_false_iff_ne.mpr e).symm
theorem key_rr (a b : Str) : decide ((Sum.inr a : Key) = Sum.inr b) = decide (a = b) := by
  by_cases e : a = b
  · subst e; simp
  · have h : ¬ (Sum.inr a : Key) = Sum.inr b := fun q => e (Sum.inr.inj q)
    rw [decide_eq_false h, decide_eq_false e]
theorem key_lr (a : Int) (b : Str) : decide ((Sum.inl a : Key) = Sum.inr b) = false := decide_eq_false (fun q => nomatch q)
theorem key_rl (a : Str) (b : Int) : decide ((Sum.inr a : Key) = Sum.inl b) = false := decide_eq_false (fun q => nomatch q)
def mixKind (prog : Program) (w : World) : PySem.KeyKind prog w Key where
  is := keyIs
  hash := keyH w
  inj := fun v a b ha hb => by
    rcases keyIs_shape ha with ⟨i, t, rfl, rfl⟩ | ⟨x, t, rfl, rfl⟩
    · rcases keyIs_shape hb with ⟨j, u, rfl, e⟩ | ⟨y, u, rfl, e⟩
      · injection e with e1 _; rw [e1]
      · exact nomatch e
    · rcases keyIs_shape hb with ⟨j, u, rfl, e⟩ | ⟨y, u, rfl, e⟩
      · exact nomatch e
      · injection e with e1 _; rw [e1]
  byValue := fun k v h => by
    rcases keyIs_shape h with ⟨i, t, rfl, rfl⟩ | ⟨x, t, rfl, rfl⟩ <;> rfl
  pyHash := fun hv h => by
    rcases keyIs_shape hv with ⟨i, t, rfl, rfl⟩ | ⟨x, t, rfl, rfl⟩
    · exact wpAny_pyHash_int h
    · exact wpAny_pyHash_str h
  eqBool := fun hu hv h => by
    rcases keyIs_shape hu with ⟨i, t, rfl, rfl⟩ | ⟨x, t, rfl, rfl⟩
    · rcases keyIs_shape hv with ⟨j, u, rfl, rfl⟩ | ⟨y, u, rfl, rfl⟩
      · rw [key_ll] at h; exact wpAny_eqBool_int h
      · rw [key_lr] at h; exact SeqAt.EqAt.int_str i t y u _ _ _ _ h
    · rcases keyIs_shape hv with ⟨j, u, rfl, rfl⟩ | ⟨y, u, rfl, rfl⟩
      · rw [key_rl] at h; exact SeqAt.EqAt.str_int x t j u _ _ _ _ h
      · rw [key_rr] at h; exact wpAny_eqBool_str h
  «strs» := fun k x t v h => by
    rcases keyIs_shape h with ⟨i, u, rfl, e⟩ | ⟨y, u, rfl, e⟩
    · exact nomatch e
    · injection e with e1 _
      subst e1
      cases v <;> rfl
theorem mixKind_int (prog : Program) (w : World) (i : Int) (t : Tok) : (mixKind prog w).is (.inl i) (.int i t) = true := keyIs_int i t
theorem mixKind_str (prog : Program) (w : World) (x : Str) (t : Tok) : (mixKind prog w).is (.inr x) (.str x t) = true := keyIs_str x t
end L2
namespace L2
open PySem PySem.Spec PyProof.Rows
inductive V where
  | non | bl (b : Bool) | int (i : Int) | str (x : Str) | byt (b : Array UInt8) | flt (b : UInt64) | ref (a : Addr) | ty (n : String)
  deriving DecidableEq
def RelV : V → Value → Prop
  | .non, u => u = Value.none
  | .bl b, u => u = Value.bool b
  | .int i, u => ∃ t, u = Value.int i t
  | .str x, u => ∃ t, u = Value.str x t
  | .byt b, u => ∃ t, u = Value.bytes b t
  | .flt b, u => ∃ t, u = Value.float b t
  | .ref a, u => u = Value.ref a
  | .ty n, u => u = Value.type n
abbrev Vals : List V → List Value → Prop := Paired RelV
theorem Vals.length {xs : List V} {us : List Value} (r : Vals xs us) : xs.length = us.length := Paired.length r
theorem Vals.get : ∀ {xs : List V} {us : List Value} {i : Nat} {x : V}, Vals xs us → xs[i]? = some x → ∃ u, us[i]? = some u ∧ RelV x u
  | _, _, _, _, .nil, e => by simp at e
  | _, _, 0, _, .cons r _, e => by simp at e; subst e; exact ⟨_, rfl, r⟩
  | _, _, i + 1, x, .cons _ t, e => by
    obtain ⟨u, h1, h2⟩ := Vals.get (i := i) (x := x) t (by simpa using e)
    exact ⟨u, by simpa using h1, h2⟩
theorem Vals.set {x : V} {u : Value} (r : RelV x u) : ∀ {xs : List V} {us : List Value} (i : Nat), Vals xs us → Vals (xs.set i x) (us.set i u)
  | _, _, _, .nil => .nil
  | _, _, 0, .cons _ t => .cons r t
  | _, _, i + 1, .cons q t => .cons q (Vals.set r i t)
theorem Vals.append : ∀ {xs ys : List V} {us ws : List Value}, Vals xs us → Vals ys ws → Vals (xs ++ ys) (us ++ ws)
  | _, _, _, _, .nil, s => s
  | _, _, _, _, .cons r t, s => .cons r (Vals.append t s)
theorem Vals.take : ∀ {xs : List V} {us : List Value} (n : Nat), Vals xs us → Vals (xs.take n) (us.take n)
  | _, _, 0, _ => .nil
  | _, _, _ + 1, .nil => .nil
  | _, _, n + 1, .cons r t => .cons r (Vals.take n t)
theorem Vals.drop : ∀ {xs : List V} {us : List Value} (n : Nat), Vals xs us → Vals (xs.drop n) (us.drop n)
  | _, _, 0, r => r
  | _, _, _ + 1, .nil => .nil
  | _, _, n + 1, .cons _ t => Vals.drop n t
theorem Vals.none_of : ∀ {xs : List V} {us : List Value} {i : Nat}, Vals xs us → xs[i]? = none → us[i]? = none := fun {xs us i} r e => by
  have h1 := r.length
  have h2 : xs.length ≤ i := List.getElem?_eq_none_iff.mp e
  exact List.getElem?_eq_none_iff.mpr (by omega)
def RelO : Option V → Option Value → Prop
  | some v, some u => RelV v u
  | none, none => True
  | _, _ => False
def KV {κ : Type} : List (κ × V) → List (κ × Value) → Prop := Paired fun (p : κ × V) (q : κ × Value) => p.1 = q.1 ∧ RelV p.2 q.2
def kV : Key → V
  | .inl i => .int i
  | .inr x => .str x
inductive HO where
    | lst (xs : List V)
    | tup (xs : List V)
    | dK (kvs : List (Key × V)) | dT (kvs : List (List Key × V))
    | set (S : Int → Bool) (n : Nat)
    | ins (C dx : Addr) (fs : List (Str × V))
    | own (x : Addr)
    | xd (fs : List (Str × V))
    | met (f x : Addr)
    | rng (lo hi : Int)
    | frz (o : Obj) (u : HO)
    | tbl (ps : Array Value)
    | ext (φ : Heap → Prop)
abbrev Hp := Addr → Option HO
def upd (H : Hp) (a : Addr) (o : HO) : Hp := fun b => if b = a then some o else H b
theorem upd_same {H : Hp} {a : Addr} {o : HO} : upd H a o a = some o := by unfold upd; rw [if_pos rfl]
theorem upd_ne {H : Hp} {a b : Addr} {o : HO} (h : b ≠ a) : upd H a o b = H b := by unfold upd; rw [if_neg h]
theorem ne_of {H : Hp} {a b : Addr} {o u : HO} (h : H a = some o) (h' : H b = some u) (d : o ≠ u) : a ≠ b := by
  intro e; subst e; rw [h] at h'; exact d (Option.some.inj h')
theorem ne_of_none {H : Hp} {a b : Addr} {o : HO} (h : H a = some o) (h' : H b = none) : a ≠ b := by
  intro e; subst e; rw [h] at h'; cases h'
section
variable (P : Program) (w : World)
def ObjOk (H : Hp) (h : Heap) (a : Addr) : HO → Prop
  | .lst xs => xs.length ≤ sizeLine ∧ ∃ (its : List Value) (n : Nat), Vals xs its ∧ h.get? a = some { cls := .type "list", data := .seq its.toArray n }
  | .tup xs => xs.length ≤ sizeLine ∧ ∃ its : List Value, Vals xs its ∧ IsTup h a its.toArray
  | .dK kvs => kvs.length ≤ sizeLine ∧ (a == sysModules) = false ∧ ∃ vs, KV kvs vs ∧ h.DictOf (mixKind P w) a vs
  | .dT kvs => kvs.length ≤ sizeLine ∧ (a == sysModules) = false ∧ ∃ xs : List (List Key × Addr × Value),
      Paired (fun (p : List Key × V) (q : List Key × Addr × Value) => p.1 = q.1 ∧ H q.2.1 = some (.tup (p.1.map kV)) ∧ RelV p.2 q.2.2) kvs xs ∧
      ∃ o es ep, h.get? a = some o ∧ o.ExactDict ∧ o.data = .dict es ep ∧ es.toList = xs.map (entryOfKey (tupleKind (mixKind P w))) ∧ (xs.map (·.1)).Nodup
  | .set S n => h.SetOf (intKind P w) a S n
  | .ins C dx fs => H dx = some (.own a) ∧ fs.length ≤ 1000 ∧ dx ≠ a ∧ h.get? a = some (PySem.W.instObj C dx) ∧
      ∃ mA, h.Ns1 dx mA ∧ (∀ f, RelO (fs.lookup f) (mA f)) ∧ PySem.Within mA (fs.map (·.1))
  | .own _ => ∃ o, h.get? a = some o
  | .xd fs => ∃ mA, h.Ns1 a mA ∧ ∀ f, RelO (fs.lookup f) (mA f)
  | .rng lo hi => ∃ t u v, h.get? a = some { cls := .type "range", data := .fields #[.int lo t, .int hi u, .int 1 v] }
  | .frz o u => h.get? a = some o ∧ ObjOk H h a u
  | .tbl ps => h.get? a = some { cls := .none, data := .fields ps }
  | .met f x => h.get? a = some (PySem.W.methodObj (.ref f) (.ref x))
  | .ext φ => φ h ∧ (∃ o, h.get? a = some o) ∧ ∀ h1 h2 : Heap, φ h1 → (∀ o, h1.get? a = some o → h2.get? a = some o) → φ h2
def HOk (H : Hp) (h : Heap) : Prop := ∀ a o, H a = some o → ObjOk P w H h a o
end
section
variable {P : Program} {w : World} {H H' : Hp} {h h' : Heap} {a : Addr} {o : HO}
theorem ObjOk.lt (x : ObjOk P w H h a o) : a < h.objs.size := by
  cases o with
  | lst xs => obtain ⟨_, _, _, _, e⟩ := x; exact Heap.lt_size e
  | tup xs => obtain ⟨_, _, _, p⟩ := x; exact p.lt
  | dK kvs => obtain ⟨_, _, _, _, o, _, _, e, _⟩ := x; exact Heap.lt_size e
  | dT kvs => obtain ⟨_, _, _, _, o, _, _, e, _⟩ := x; exact Heap.lt_size e
  | set S n => obtain ⟨o, _, _, _, e, _⟩ := x; exact Heap.lt_size e
  | ins C dx fs => obtain ⟨_, _, _, e, _⟩ := x; exact Heap.lt_size e
  | own y => obtain ⟨_, e⟩ := x; exact Heap.lt_size e
  | xd fs => obtain ⟨_, ⟨_, _, _, e, _⟩, _⟩ := x; exact Heap.lt_size e
  | rng lo hi => obtain ⟨_, _, _, e⟩ := x; exact Heap.lt_size e
  | frz ob u => obtain ⟨e, _⟩ := x; exact Heap.lt_size e
  | tbl ps => exact Heap.lt_size (show h.get? a = some _ from x)
  | met f y => exact Heap.lt_size (show h.get? a = some _ from x)
  | ext φ => obtain ⟨_, ⟨_, e⟩, _⟩ := x; exact Heap.lt_size e
theorem Paired.mapP {α β : Type} {F G : α → β → Prop} : ∀ {l₁ : List α} {l₂ : List β}, Paired F l₁ l₂ → (∀ a b, F a b → G a b) → Paired G l₁ l₂
  | _, _, .nil, _ => .nil
  | _, _, .cons r t, f => .cons (f _ _ r) (Paired.mapP t f)
theorem ObjOk.stay (x : ObjOk P w H h a o) (k : ∀ b u, (b = a ∨ H b = some (.own a)) → h.get? b = some u → h'.get? b = some u)
    (ho : ∀ b, H b = some (.own a) → H' b = some (.own a)) (ht : ∀ b xs, H b = some (.tup xs) → H' b = some (.tup xs)) : ObjOk P w H' h' a o := by
  induction o with
  | lst xs => obtain ⟨z, its, n, r, e⟩ := x; exact ⟨z, its, n, r, k _ _ (.inl rfl) e⟩
  | tup xs => obtain ⟨z, its, r, ob, e, c⟩ := x; exact ⟨z, its, r, ob, k _ _ (.inl rfl) e, c⟩
  | dK kvs => obtain ⟨z, y, vs, r, ob, es, ep, e, c⟩ := x; exact ⟨z, y, vs, r, ob, es, ep, k _ _ (.inl rfl) e, c⟩
  | dT kvs =>
    obtain ⟨z, y, xs, r, ob, es, ep, e, c⟩ := x
    exact ⟨z, y, xs, Paired.mapP r fun p q z => ⟨z.1, ht _ _ z.2.1, z.2.2⟩, ob, es, ep, k _ _ (.inl rfl) e, c⟩
  | set S n => obtain ⟨ob, es, ep, t, e, c⟩ := x; exact ⟨ob, es, ep, t, k _ _ (.inl rfl) e, c⟩
  | ins C dx fs =>
    obtain ⟨d, z, ne, e, mA, ⟨od, es, ep, e2, c⟩, r⟩ := x
    exact ⟨ho _ d, z, ne, k _ _ (.inl rfl) e, mA, ⟨od, es, ep, k _ _ (.inr d) e2, c⟩, r⟩
  | own y => obtain ⟨ob, e⟩ := x; exact ⟨ob, k _ _ (.inl rfl) e⟩
  | xd fs => obtain ⟨mA, ⟨od, es, ep, e, c⟩, r⟩ := x; exact ⟨mA, ⟨od, es, ep, k _ _ (.inl rfl) e, c⟩, r⟩
  | rng lo hi => obtain ⟨t, u, v, e⟩ := x; exact ⟨t, u, v, k _ _ (.inl rfl) e⟩
  | frz ob u ih => obtain ⟨e, q⟩ := x; exact ⟨k _ _ (.inl rfl) e, ih q⟩
  | tbl ps =>
    have e : h.get? a = some { cls := .none, data := .fields ps } := x
    show h'.get? a = some { cls := .none, data := .fields ps }
    exact k a _ (.inl rfl) e
  | met f y =>
    have e : h.get? a = some (PySem.W.methodObj (.ref f) (.ref y)) := x
    show h'.get? a = some (PySem.W.methodObj (.ref f) (.ref y))
    exact k a _ (.inl rfl) e
  | ext φ => obtain ⟨p, ⟨o, e⟩, st⟩ := x; exact ⟨st _ _ p fun o q => k _ _ (.inl rfl) q, ⟨o, k _ _ (.inl rfl) e⟩, st⟩
theorem HOk.lt (x : HOk P w H h) (e : H a = some o) : a < h.objs.size := (x a o e).lt
theorem HOk.fresh (x : HOk P w H h) (e : h.objs.size ≤ a) : H a = none := by
  cases q : H a with
  | none => rfl
  | some u => exact absurd (Nat.lt_of_lt_of_le (x.lt q) e) (Nat.lt_irrefl _)
theorem HOk.kept (x : HOk P w H h) (k : ∀ b u, h.get? b = some u → h'.get? b = some u) : HOk P w H h' := fun a o e =>
  (x a o e).stay (fun b u _ q => k b u q) (fun _ q => q) fun _ _ q => q
theorem HOk.laid (x : HOk P w H h) (k : ∀ b u, h.get? b = some u → h'.get? b = some u) (hp : h.objs.size ≤ a) (new : ObjOk P w (upd H a o) h' a o) : HOk P w (upd H a o) h' := fun b u e => by
  have hn := x.fresh hp
  by_cases hb : b = a
  · subst hb; rw [upd_same] at e; cases e; exact new
  · rw [upd_ne hb] at e
    exact (x b u e).stay (fun c v _ q => k c v q) (fun c q => by rw [upd_ne (ne_of_none q hn)]; exact q) fun c xs q => by rw [upd_ne (ne_of_none q hn)]; exact q
end
def Rd (H : Hp) (a : Addr) (u : HO) : Prop := H a = some u ∨ ∃ o, H a = some (.frz o u)
theorem Rd.of {H : Hp} {a : Addr} {u : HO} (h : H a = some u) : Rd H a u := .inl h
theorem Rd.ok {P : Program} {w : World} {H : Hp} {h : Heap} {a : Addr} {u : HO} (r : Rd H a u) (x : HOk P w H h) : ObjOk P w H h a u := by
  rcases r with r | ⟨o, r⟩
  · exact x a u r
  · obtain ⟨_, q⟩ := x a _ r
    exact q
def Mut : Option HO → Prop
  | some (.lst _) => True
  | some (.dK _) => True
  | some (.dT _) => True
  | some (.set _ _) => True
  | some (.ins _ _ _) => True
  | some (.ext _) => True
  | _ => False
section
variable {P : Program} {w : World} {H : Hp} {h h' : Heap} {x e : Addr} {o' : HO}
theorem HOk.write (ok : HOk P w H h) (mu : Mut (H x)) (he : e = x ∨ H e = some (.own x)) (k : ∀ b u, b ≠ e → h.get? b = some u → h'.get? b = some u) (heo : ∃ u, h'.get? e = some u)
    (new : ObjOk P w (upd H x o') h' x o') : HOk P w (upd H x o') h' := fun b u q => by
  have nown : ∀ c y, H c = some (.own y) → c ≠ x := fun c y r z => by subst z; rw [r] at mu; exact mu
  have ntup : ∀ c xs, H c = some (.tup xs) → c ≠ x := fun c xs r z => by subst z; rw [r] at mu; exact mu
  by_cases hb : b = x
  · subst hb; rw [upd_same] at q; cases q; exact new
  · rw [upd_ne hb] at q
    by_cases hbe : b = e
    · have q' : H b = some (.own x) := by
        rcases he with z | z
        · exact absurd (hbe.trans z) hb
        · rw [hbe]; exact z
      rw [q] at q'; cases q'
      obtain ⟨v, hv⟩ := heo
      exact ⟨v, by rw [hbe]; exact hv⟩
    · refine (ok b u q).stay (fun c v hc r => k c v ?_ r) (fun c r => by rw [upd_ne (nown c b r)]; exact r) fun c xs r => by rw [upd_ne (ntup c xs r)]; exact r
      rcases hc with rfl | hc
      · exact hbe
      · rintro rfl
        rcases he with z | z
        · exact nown c b hc z
        · rw [hc] at z; cases z; exact hb rfl
end
structure Un (fs ex : List Addr) (H H' : Hp) (h h' : Heap) : Prop where
  keep : ∀ b o, h.get? b = some o → H b = none → b ∉ fs → b ∉ ex → h'.get? b = some o
  slot : ∀ b o, h.get? b = some o → H b = none → b ∈ fs → b ∉ ex → ∃ sl, h'.get? b = some { o with slots := sl }
  free : ∀ b o, h.get? b = some o → H b = none → b ∉ ex → H' b = none
  there : ∀ b o, h.get? b = some o → b ∉ ex → ∃ o', h'.get? b = some o'
  tups : ∀ b xs, H b = some (.tup xs) → H' b = some (.tup xs)
  frzs : ∀ b o u, H b = some (.frz o u) → H' b = some (.frz o u)
  tbls : ∀ b ps, H b = some (.tbl ps) → ∃ more, H' b = some (.tbl (ps ++ more))
section
variable {fs fs' ex ex' : List Addr} {H H1 H2 : Hp} {h h1 h2 h' : Heap} {a x e : Addr} {o : HO}
theorem Un.any (u : Un fs ex H H1 h h1) {b : Addr} {ob : Obj} (q : h.get? b = some ob) (n : H b = none) (hx : b ∉ ex) : ∃ sl, h1.get? b = some { ob with slots := sl } := by
  by_cases hb : b ∈ fs
  · exact u.slot b ob q n hb hx
  · exact ⟨ob.slots, u.keep b ob q n hb hx⟩
theorem Un.trans (a : Un fs ex H H1 h h1) (b : Un fs ex H1 H2 h1 h2) : Un fs ex H H2 h h2 where
  keep := fun c ob q n hc hx => b.keep c ob (a.keep c ob q n hc hx) (a.free c ob q n hx) hc hx
  slot := fun c ob q n hc hx => by
    obtain ⟨sl, e1⟩ := a.slot c ob q n hc hx
    obtain ⟨sl', e2⟩ := b.slot c _ e1 (a.free c ob q n hx) hc hx
    exact ⟨sl', e2⟩
  free := fun c ob q n hx => by
    obtain ⟨o', e1⟩ := a.there c ob q hx
    exact b.free c o' e1 (a.free c ob q n hx) hx
  there := fun c ob q hx => by
    obtain ⟨o', e1⟩ := a.there c ob q hx
    exact b.there c o' e1 hx
  tups := fun c xs q => b.tups c xs (a.tups c xs q)
  frzs := fun c ob xs q => b.frzs c ob xs (a.frzs c ob xs q)
  tbls := fun c ps q => by
    obtain ⟨m1, e1⟩ := a.tbls c ps q
    obtain ⟨m2, e2⟩ := b.tbls c _ e1
    exact ⟨m1 ++ m2, by rw [e2, Array.append_assoc]⟩
theorem Un.kept (k : ∀ b u, h.get? b = some u → h'.get? b = some u) : Un fs ex H H h h' :=
  ⟨fun b ob q _ _ _ => k b ob q, fun b ob q _ _ _ => ⟨ob.slots, k b ob q⟩, fun _ _ _ n _ => n, fun b ob q _ => ⟨ob, k b ob q⟩, fun _ _ q => q, fun _ _ _ q => q, fun _ ps q => ⟨#[], by rw [q]; simp⟩⟩
theorem Un.refl : Un fs ex H H h h := Un.kept fun _ _ q => q
theorem Un.laid (k : ∀ b u, h.get? b = some u → h'.get? b = some u) (hp : h.objs.size ≤ a) (hn : H a = none) : Un fs ex H (upd H a o) h h' where
  keep := fun b u q _ _ _ => k b u q
  slot := fun b u q _ _ _ => ⟨u.slots, k b u q⟩
  free := fun b u q n _ => by rw [upd_ne (Nat.ne_of_lt (Nat.lt_of_lt_of_le (Heap.lt_size q) hp))]; exact n
  there := fun b u q _ => ⟨u, k b u q⟩
  tups := fun b xs q => by rw [upd_ne (ne_of_none q hn)]; exact q
  frzs := fun b u xs q => by rw [upd_ne (ne_of_none q hn)]; exact q
  tbls := fun b ps q => ⟨#[], by rw [upd_ne (ne_of_none q hn), q]; simp⟩
theorem Un.write (mu : Mut (H x)) (he : e = x ∨ H e = some (.own x)) (k : ∀ b u, b ≠ e → h.get? b = some u → h'.get? b = some u) (heo : ∃ u, h'.get? e = some u) : Un fs ex H (upd H x o) h h' := by
  have hx : ∀ b, H b = none → b ≠ x := fun b n z => by subst z; rw [n] at mu; exact mu
  have hb : ∀ b, H b = none → b ≠ e := fun b n z => by
    subst z
    rcases he with r | r
    · exact hx b n r
    · rw [n] at r; cases r
  have hm : ∀ b u, H b = some u → ¬ Mut (some u) → b ≠ x := fun b u q nm z => by subst z; rw [q] at mu; exact nm mu
  refine ⟨fun b u q n _ _ => k b u (hb b n) q, fun b u q n _ _ => ⟨u.slots, k b u (hb b n) q⟩, fun b u q n _ => by rw [upd_ne (hx b n)]; exact n, fun b u q _ => ?_,
    fun b xs q => by rw [upd_ne (hm b _ q fun z => z)]; exact q, fun b u xs q => by rw [upd_ne (hm b _ q fun z => z)]; exact q, fun b ps q => ⟨#[], by rw [upd_ne (hm b _ q fun z => z), q]; simp⟩⟩
  by_cases hbe : b = e
  · subst hbe; exact heo
  · exact ⟨u, k b u hbe q⟩
theorem Un.mono (u : Un fs ex H H1 h h1) (hs : ∀ b ∈ fs, b ∈ fs') (hx : ∀ b ∈ ex, b ∈ ex') : Un fs' ex' H H1 h h1 :=
  ⟨fun b ob q n hb he => u.keep b ob q n (fun z => hb (hs b z)) fun z => he (hx b z), fun _ _ q n _ he => u.any q n fun z => he (hx _ z), fun b ob q n he => u.free b ob q n fun z => he (hx b z), fun b ob q he => u.there b ob q fun z => he (hx b z), u.tups, u.frzs, u.tbls⟩
end
def trk (h : Heap) (H : Hp) : List Addr := (List.range h.objs.size).filter fun a => (H a).isSome
def hidT (h : Heap) (H : Hp) : Heap := PySem.W.hideAll h (trk h H)
theorem hidT_size (h : Heap) (H : Hp) : (hidT h H).objs.size = h.objs.size := PySem.W.hideAll_size _ _
theorem hidT_get {h : Heap} {H : Hp} {b : Addr} {o : Obj} (e : h.get? b = some o) (n : H b = none) : (hidT h H).get? b = some o :=
  PySem.W.hideAll_get _ e fun hm => by
    have q : (H b).isSome = true := (List.mem_filter.mp hm).2
    rw [n] at q; simp at q
theorem of_hidT {h : Heap} {H : Hp} {b : Addr} {o : Obj} (e : (hidT h H).get? b = some o) : h.get? b = some o ∧ H b = none := by
  have e' : h.get? b = some o := PySem.W.of_hideAll (trk h H) e
  refine ⟨e', ?_⟩
  cases q : H b with
  | none => rfl
  | some x =>
    have hm : b ∈ trk h H := List.mem_filter.mpr ⟨List.mem_range.mpr (Heap.lt_size e'), by simp [q]⟩
    have z : (hidT h H).get? b = none := PySem.W.hideAll_none (trk h H) hm
    rw [z] at e; cases e
def allNews (g h : Heap) (L : Addr) : List (Addr × Obj) := (List.range h.objs.size).filterMap fun a => if a = L ∨ (g.get? a).isSome = true then none else (h.get? a).map fun o => (a, o)
def rest (g h : Heap) (L d : Addr) : List (Addr × Obj) := (allNews g h L).filter fun p => decide (p.1 ≠ d)
end L2
namespace L2
open PySem PySem.Spec PyProof.Rows
structure Mod (K : PySem.W.Frag) (mg : Str → Option Value) (base : Heap) : Prop where
  kin : K.In base
  glob : base.Ns mainGlobals mg
  blt : ∃ mb, base.Ns builtinsNs mb ∧ ∀ x : Str, x ≠ "__name__" → mb x = bootBuiltins x
  nolimit : base.NoLimit
structure Cx where
  prog : Program
  w : World
  K : PySem.W.Frag
  mg : Str → Option Value
  base : Heap
  A : Around
  N : List Str
  s₀ : Shared
  H₀ : Hp
  env : Env
  outer : List Env
  stack : List Env
  ex : List Addr
  fn : Str → Bool
  calm : Bool
  pn : List (Addr × Obj)
  xe : Value → Shared → Prop
def frs (l : List Env) : List Addr := l.filterMap (·.frame)
abbrev Cx.fs (X : Cx) : List Addr := frs X.outer
def Vis (sc : Scope) (x : Str) : Prop := sc.names.lookup x = some .local ∨ sc.names.lookup x = some .cell ∨ sc.names.lookup x = some .free
def Loc (sc : Scope) (x : Str) : Prop := sc.names.lookup x = some .local ∨ sc.names.lookup x = some .cell
def Look (env : Env) (h : Heap) (m : Str → Option Value) (x : Str) (u : Value) : Prop :=
  (env.kindOf x = some .local ∧ m x = some u) ∨ ((env.kindOf x = some .cell ∨ env.kindOf x = some .free) ∧ ∃ c, env.cells.lookup x = some c ∧ h.IsCell c (some u))
structure Cx.Ok (X : Cx) : Prop where
  mod : Mod X.K X.mg X.base
  kind : X.env.scope.kind = .function
  glob : X.env.globals = mainGlobals
  blt : X.env.builtins = builtinsNs
  above : X.s₀.heap.objs.size ≤ X.env.locals
  inj : ∀ x y c, X.env.cells.lookup x = some c → X.env.cells.lookup y = some c → x = y
  has : ∀ x, (X.env.kindOf x = some .cell ∨ X.env.kindOf x = some .free) → ∃ c, X.env.cells.lookup x = some c
  cab : ∀ x c, X.fn x = true → X.env.cells.lookup x = some c → X.s₀.heap.objs.size ≤ c
  hd : X.calm = true → X.A.handled = none
  frames : X.A.frames = some X.stack
  stk : X.stack = X.outer ∨ (X.stack = X.env :: X.outer ∧ X.env.frame = some X.env.locals)
  exf : ∀ b ∈ X.ex, b ≠ X.env.locals ∧ ∀ x c, X.env.cells.lookup x = some c → c ≠ b
  bs : ∀ b o, X.base.get? b = some o → X.s₀.heap.get? b = some o ∧ X.H₀ b = none
  bsz : X.base.objs.size ≤ X.s₀.heap.objs.size
  noex : ∀ b o, X.base.get? b = some o → b ∉ X.ex
  exfs : ∀ b ∈ X.ex, b ∉ X.fs
  funs : X.s₀.heap.FunFrames X.base X.outer
  frf : ∀ b ∈ X.fs, X.H₀ b = none
structure Inv (X : Cx) (pins : List (Addr × Obj)) (σ : List (Option V)) (H : Hp) (s : Shared) : Prop where
  ok : X.Ok
  os : s.os = X.s₀.os
  bare : AllBare s.gens
  base : Un X.fs X.ex X.H₀ H X.s₀.heap s.heap
  loc : ∃ m, s.heap.Ns X.env.locals m ∧ ∀ (i : Nat) (x : Str) (v : V), X.N[i]? = some x → σ[i]? = some (some v) → Vis X.env.scope x → ∃ u, RelV v u ∧ Look X.env s.heap m x u
  cell : ∀ x c, X.env.cells.lookup x = some c → ∃ v, s.heap.IsCell c v
  free : H X.env.locals = none
  freeC : ∀ x c, X.env.cells.lookup x = some c → H c = none
  pin : ∀ p ∈ X.pn ++ pins, s.heap.get? p.1 = some p.2 ∧ H p.1 = none ∧ p.1 ≠ X.env.locals ∧ p.1 ∉ X.fs ∧ ∀ v, p.2.data ≠ .cell v
  hok : HOk X.prog X.w H s.heap
  len : σ.length = X.N.length
section
variable {X : Cx} {pins : List (Addr × Obj)} {σ : List (Option V)} {H H' : Hp} {s : Shared} {h' : Heap}
theorem Cx.Ok.nofr (ok : X.Ok) {b : Addr} {o : Obj} (e : X.base.get? b = some o) : b ∉ X.fs := fun hb => by
  have := (ok.funs.mem hb).1
  rw [e] at this; cases this
theorem Inv.bs (I : Inv X pins σ H s) : ∀ b o, X.base.get? b = some o → s.heap.get? b = some o ∧ H b = none := fun b o e =>
  ⟨I.base.keep b o (I.ok.bs b o e).1 (I.ok.bs b o e).2 (I.ok.nofr e) (I.ok.noex b o e), I.base.free b o (I.ok.bs b o e).1 (I.ok.bs b o e).2 (I.ok.noex b o e)⟩
theorem Inv.bk (I : Inv X pins σ H s) : ∀ b o, X.base.get? b = some o → s.heap.get? b = some o := fun b o e => (I.bs b o e).1
theorem Inv.mod (I : Inv X pins σ H s) : Mod X.K X.mg X.base := I.ok.mod
theorem Inv.kIn (I : Inv X pins σ H s) : X.K.In s.heap := I.ok.mod.kin.keeps I.bk
theorem Inv.nolimit (I : Inv X pins σ H s) : s.heap.NoLimit := I.ok.mod.nolimit.keeps I.bk
theorem Inv.fr (I : Inv X pins σ H s) : ∃ m, Fr X.base X.env.locals s.heap m :=
  let ⟨m, hn, _⟩ := I.loc
  ⟨m, hn, I.bk, Nat.le_trans I.ok.bsz I.ok.above⟩
theorem Inv.lt (I : Inv X pins σ H s) : X.env.locals < s.heap.objs.size := let ⟨_, hn, _⟩ := I.loc; hn.lt
theorem Inv.sz (I : Inv X pins σ H s) : X.s₀.heap.objs.size ≤ s.heap.objs.size := Nat.le_trans I.ok.above (Nat.le_of_lt I.lt)
theorem Inv.nofs (I : Inv X pins σ H s) {a : Addr} (h : s.heap.objs.size ≤ a) : a ∉ X.fs := fun hb => by
  obtain ⟨_, o, ho, _⟩ := I.ok.funs.mem hb
  exact absurd (Nat.lt_of_lt_of_le (Heap.lt_size ho) (Nat.le_trans I.sz h)) (Nat.lt_irrefl _)
theorem Inv.cne (I : Inv X pins σ H s) : ∀ x c, X.env.cells.lookup x = some c → c ≠ X.env.locals := fun x c e z => by
  obtain ⟨v, o, ho, hd⟩ := I.cell x c e
  obtain ⟨m, ⟨o', es, ep, ho', hd', _⟩, _⟩ := I.loc
  rw [z, ho'] at ho; cases ho; rw [hd'] at hd; cases hd
theorem Inv.funs (I : Inv X pins σ H s) : s.heap.FunFrames X.base X.outer := by
  have all : ∀ (l : List Env), (∀ b ∈ frs l, b ∈ X.fs) → X.s₀.heap.FunFrames X.base l → s.heap.FunFrames X.base l := by
    intro l
    induction l with
    | nil => intro _ _; trivial
    | cons env r ih =>
      intro hs hl
      obtain ⟨hk, ⟨L, o, hf, hn, ho, hd⟩, hr⟩ := hl
      have hL : L ∈ X.fs := hs L (by unfold frs; rw [List.filterMap_cons, hf]; exact List.mem_cons_self)
      obtain ⟨sl, e⟩ := I.base.slot L o ho (I.ok.frf L hL) hL fun z => I.ok.exfs L z hL
      exact ⟨hk, ⟨L, _, hf, hn, e, hd⟩, ih (fun b hb => hs b (by unfold frs; rw [List.filterMap_cons, hf]; exact List.mem_cons_of_mem _ hb)) hr⟩
  exact all X.outer (fun _ hb => hb) I.ok.funs
theorem Inv.stack (I : Inv X pins σ H s) : s.heap.FunFrames X.base X.stack := by
  rcases I.ok.stk with e | ⟨e, hf⟩
  · rw [e]; exact I.funs
  · rw [e]
    obtain ⟨m, hn, _⟩ := I.loc
    refine .cons (by rw [I.ok.kind]; decide) hf hn ?_ I.funs
    exact Heap.get?_none_of_le (Nat.le_trans I.ok.bsz I.ok.above)
theorem Inv.stkSub (I : Inv X pins σ H s) : ∀ b ∈ frs X.stack, b ∈ X.env.locals :: X.fs := fun b hb => by
  rcases I.ok.stk with e | ⟨e, hf⟩
  · rw [e] at hb; exact List.mem_cons_of_mem _ hb
  · rw [e] at hb
    unfold frs at hb
    rw [List.filterMap_cons, hf] at hb
    exact hb
theorem Inv.stkFree (I : Inv X pins σ H s) : ∀ b ∈ frs X.stack, H b = none := fun b hb => by
  rcases List.mem_cons.mp (I.stkSub b hb) with e | hb
  · rw [e]; exact I.free
  · obtain ⟨_, o, ho, _⟩ := I.ok.funs.mem hb
    exact I.base.free b o ho (I.ok.frf b hb) fun z => I.ok.exfs b z hb
theorem Inv.step {g' : Array GenState} {t' : Nat} {d' : Drawn} {ch : List Addr} (I : Inv X pins σ H s)
    (hch : ∀ b ∈ ch, (b ∈ X.ex ∨ X.s₀.heap.objs.size ≤ b) ∧ b ≠ X.env.locals ∧ (∀ x c, X.env.cells.lookup x = some c → c ≠ b) ∧ ∀ p ∈ X.pn ++ pins, p.1 ≠ b)
    (keep : ∀ b o, b ≠ X.env.locals → b ∉ X.fs → b ∉ ch → s.heap.get? b = some o → H b = none → h'.get? b = some o)
    (slot : ∀ b o, b ≠ X.env.locals → b ∈ X.fs → b ∉ ch → s.heap.get? b = some o → H b = none → ∃ sl, h'.get? b = some { o with slots := sl }) (free : ∀ b o, b ∉ ch → s.heap.get? b = some o → H b = none → H' b = none)
    (there : ∀ b o, b ∉ ch → s.heap.get? b = some o → ∃ o', h'.get? b = some o')
    (tups : ∀ b xs, H b = some (.tup xs) → H' b = some (.tup xs)) (frzs : ∀ b o u, H b = some (.frz o u) → H' b = some (.frz o u)) (tbls : ∀ b ps, H b = some (.tbl ps) → ∃ more, H' b = some (.tbl (ps ++ more)))
    (ns : ∀ m, s.heap.Ns X.env.locals m → h'.Ns X.env.locals m) (hok : HOk X.prog X.w H' h') (hg : AllBare g') :
    Inv X pins σ H' { s with heap := h', gens := g', drawn := d', toks := t' } := by
  have neL : ∀ b o, X.s₀.heap.get? b = some o → b ≠ X.env.locals := fun b o e => Nat.ne_of_lt (Nat.lt_of_lt_of_le (Heap.lt_size e) I.ok.above)
  have neC : ∀ b o, X.s₀.heap.get? b = some o → b ∉ X.ex → b ∉ ch := fun b o e hx hb => by
    rcases (hch b hb).1 with z | z
    · exact hx z
    · exact absurd (Nat.lt_of_lt_of_le (Heap.lt_size e) z) (Nat.lt_irrefl _)
  have cellK : ∀ x c, X.env.cells.lookup x = some c → ∀ v, s.heap.IsCell c v → h'.IsCell c v := fun x c e v ⟨o, ho, hd⟩ => by
    have nch : c ∉ ch := fun z => (hch c z).2.2.1 x c e rfl
    by_cases hc : c ∈ X.fs
    · obtain ⟨sl, q⟩ := slot c o (I.cne x c e) hc nch ho (I.freeC x c e)
      exact ⟨_, q, hd⟩
    · exact ⟨o, keep c o (I.cne x c e) hc nch ho (I.freeC x c e), hd⟩
  refine ⟨I.ok, I.os, hg, ⟨fun b o e n hb hx => ?_, fun b o e n hb hx => ?_, fun b o e n hx => ?_, fun b o e hx => ?_, fun b xs e => tups b xs (I.base.tups b xs e), fun b o xs e => frzs b o xs (I.base.frzs b o xs e), fun b ps e => ?_⟩, ?_, fun x c e => ?_, ?_, fun x c e => ?_, fun p hp => ?_, hok, I.len⟩
  · exact keep b o (neL b o e) hb (neC b o e hx) (I.base.keep b o e n hb hx) (I.base.free b o e n hx)
  · obtain ⟨sl, e1⟩ := I.base.slot b o e n hb hx
    obtain ⟨sl', e2⟩ := slot b _ (neL b o e) hb (neC b o e hx) e1 (I.base.free b o e n hx)
    exact ⟨sl', e2⟩
  · obtain ⟨o', e1⟩ := I.base.there b o e hx
    exact free b o' (neC b o e hx) e1 (I.base.free b o e n hx)
  · obtain ⟨o', e1⟩ := I.base.there b o e hx
    exact there b o' (neC b o e hx) e1
  · obtain ⟨m1, e1⟩ := I.base.tbls b ps e
    obtain ⟨m2, e2⟩ := tbls b _ e1
    exact ⟨m1 ++ m2, by rw [e2, Array.append_assoc]⟩
  · obtain ⟨m, hn, hl⟩ := I.loc
    refine ⟨m, ns m hn, fun i x v e1 e2 e3 => ?_⟩
    obtain ⟨u, r, l⟩ := hl i x v e1 e2 e3
    refine ⟨u, r, ?_⟩
    rcases l with l | ⟨k, c, e, z⟩
    · exact .inl l
    · exact .inr ⟨k, c, e, cellK x c e _ z⟩
  · obtain ⟨v, z⟩ := I.cell x c e
    exact ⟨v, cellK x c e v z⟩
  · obtain ⟨m, ⟨o, _, _, ho, _⟩, _⟩ := I.loc
    exact free _ o (fun z => (hch _ z).2.1 rfl) ho I.free
  · obtain ⟨v, o, ho, hd⟩ := I.cell x c e
    exact free c o (fun z => (hch c z).2.2.1 x c e rfl) ho (I.freeC x c e)
  · obtain ⟨e, n, ne, nf, d⟩ := I.pin p hp
    have nch : p.1 ∉ ch := fun z => (hch p.1 z).2.2.2 p hp rfl
    exact ⟨keep p.1 p.2 ne nf nch e n, free p.1 p.2 nch e n, ne, nf, d⟩
theorem Inv.un {t' : Nat} (I : Inv X pins σ H s) (u : Un X.fs [] H H' s.heap h') (hok : HOk X.prog X.w H' h') : Inv X pins σ H' { s with heap := h', toks := t' } := by
  obtain ⟨m, ⟨o, es, ep, ho, r⟩, _⟩ := id I.loc
  obtain ⟨sl, hL⟩ := u.any ho I.free (by simp)
  exact I.step (g' := s.gens) (d' := s.drawn) (ch := []) (fun _ z => nomatch z) (fun b o _ hb _ e n => u.keep b o e n hb (by simp)) (fun b o _ hb _ e n => u.slot b o e n hb (by simp)) (fun b o _ e n => u.free b o e n (by simp)) (fun b o _ e => u.there b o e (by simp)) u.tups u.frzs u.tbls (fun m' hm => by
    obtain ⟨o', es', ep', ho', r'⟩ := hm
    rw [ho] at ho'; cases ho'
    exact ⟨_, es', ep', hL, r'⟩) hok I.bare
theorem Inv.call {g' : Array GenState} {t' : Nat} {d' : Drawn} {ch : List Addr} (I : Inv X pins σ H s) (u : Un (frs X.stack) ch H H' s.heap h') (hok : HOk X.prog X.w H' h') (hg : AllBare g')
    (hch : ∀ b ∈ ch, (b ∈ X.ex ∨ X.s₀.heap.objs.size ≤ b) ∧ b ≠ X.env.locals ∧ (∀ x c, X.env.cells.lookup x = some c → c ≠ b) ∧ ∀ p ∈ X.pn ++ pins, p.1 ≠ b) :
    Inv X pins σ H' { s with heap := h', gens := g', drawn := d', toks := t' } := by
  obtain ⟨m, ⟨o, es, ep, ho, r⟩, _⟩ := id I.loc
  obtain ⟨sl, hL⟩ := u.any ho I.free fun z => (hch _ z).2.1 rfl
  exact I.step (ch := ch) hch (fun b o hL hb hc e n => u.keep b o e n (fun z => (List.mem_cons.mp (I.stkSub b z)).elim hL hb) hc) (fun b o _ _ hc e n => u.any e n hc) (fun b o hc e n => u.free b o e n hc) (fun b o hc e => u.there b o e hc) u.tups u.frzs u.tbls (fun m' hm => by
    obtain ⟨o', es', ep', ho', r'⟩ := hm
    rw [ho] at ho'; cases ho'
    exact ⟨_, es', ep', hL, r'⟩) hok hg
theorem Inv.turned {t' : Nat} {it : Addr} (I : Inv X pins σ H s) (k : ∀ b o, b ≠ it → s.heap.get? b = some o → h'.get? b = some o) (hn : H it = none) (hL : it ≠ X.env.locals)
    (h1 : it ∈ X.ex ∨ X.s₀.heap.objs.size ≤ it) (h2 : ∀ x c, X.env.cells.lookup x = some c → c ≠ it) (h3 : ∀ p ∈ X.pn ++ pins, p.1 ≠ it) : Inv X pins σ H { s with heap := h', toks := t' } := by
  have nit : ∀ b u, H b = some u → b ≠ it := fun b u e z => by rw [z, hn] at e; cases e
  refine I.step (g' := s.gens) (d' := s.drawn) (ch := [it]) (fun b hb => ?_) (fun b o _ _ hc e _ => k b o (fun z => hc (by simp [z])) e) (fun b o _ _ hc e _ => ⟨o.slots, k b o (fun z => hc (by simp [z])) e⟩) (fun _ _ _ _ n => n)
    (fun b o hc e => ⟨o, k b o (fun z => hc (by simp [z])) e⟩) (fun _ _ e => e) (fun _ _ _ e => e) (fun b ps e => ⟨#[], by rw [e]; simp⟩) (fun m hm => ?_) (fun b u e => ?_) I.bare
  · have e : b = it := by simpa using hb
    subst e
    exact ⟨h1, hL, h2, h3⟩
  · obtain ⟨o, es, ep, ho, r⟩ := hm
    exact ⟨o, es, ep, k _ o (Ne.symm hL) ho, r⟩
  · refine (I.hok b u e).stay (fun c v hc q => k c v ?_ q) (fun _ q => q) fun _ _ q => q
    rcases hc with z | z
    · rw [z]; exact nit b u e
    · exact nit c _ z
theorem Inv.tok (I : Inv X pins σ H s) (t : Nat) : Inv X pins σ H { s with toks := t } := I.un (h' := s.heap) (t' := t) Un.refl I.hok
theorem Inv.kept {t' : Nat} (I : Inv X pins σ H s) (k : ∀ b u, s.heap.get? b = some u → h'.get? b = some u) : Inv X pins σ H { s with heap := h', toks := t' } := I.un (Un.kept k) (I.hok.kept k)
theorem Inv.laid {a : Addr} {o : HO} {t' : Nat} (I : Inv X pins σ H s) (k : ∀ b u, s.heap.get? b = some u → h'.get? b = some u) (hp : s.heap.objs.size ≤ a) (new : ObjOk X.prog X.w (upd H a o) h' a o) :
    Inv X pins σ (upd H a o) { s with heap := h', toks := t' } := I.un (Un.laid k hp (I.hok.fresh hp)) (I.hok.laid k hp new)
theorem Inv.write {x e : Addr} {o : HO} {t' : Nat} (I : Inv X pins σ H s) (mu : Mut (H x)) (he : e = x ∨ H e = some (.own x)) (k : ∀ b u, b ≠ e → s.heap.get? b = some u → h'.get? b = some u) (heo : ∃ u, h'.get? e = some u)
    (new : ObjOk X.prog X.w (upd H x o) h' x o) : Inv X pins σ (upd H x o) { s with heap := h', toks := t' } := I.un (Un.write mu he k heo) (I.hok.write mu he k heo new)
theorem Inv.weak {σ' : List (Option V)} (I : Inv X pins σ H s) (hl : σ'.length = σ.length) (w : ∀ (i : Nat) v, σ'[i]? = some (some v) → σ[i]? = some (some v)) : Inv X pins σ' H s :=
  ⟨I.ok, I.os, I.bare, I.base, let ⟨m, hn, hl'⟩ := I.loc; ⟨m, hn, fun i x v e1 e2 e3 => hl' i x v e1 (w i v e2) e3⟩, I.cell, I.free, I.freeC, I.pin, I.hok, hl.trans I.len⟩
theorem Inv.pins_of {pins' : List (Addr × Obj)} (I : Inv X pins σ H s) (h : ∀ p ∈ pins', s.heap.get? p.1 = some p.2 ∧ H p.1 = none ∧ p.1 ≠ X.env.locals ∧ p.1 ∉ X.fs ∧ ∀ v, p.2.data ≠ .cell v) : Inv X pins' σ H s :=
  ⟨I.ok, I.os, I.bare, I.base, I.loc, I.cell, I.free, I.freeC, fun p hp => (List.mem_append.mp hp).elim (fun z => I.pin p (List.mem_append_left _ z)) (h p), I.hok, I.len⟩
theorem nodup_ix {N : List Str} (hN : N.Nodup) {i j : Nat} {x : Str} (a : N[i]? = some x) (b : N[j]? = some x) : i = j := by
  obtain ⟨h1, e1⟩ := List.getElem?_eq_some_iff.mp a
  obtain ⟨h2, e2⟩ := List.getElem?_eq_some_iff.mp b
  exact (List.getElem_inj hN).mp (e1.trans e2.symm)
theorem store_ok2 {M : Model} {A : Around} {E : Value → Shared → Prop} {i : Nat} {x : Str} {v : V} {u : Value} {Q : Unit → Shared → Prop} (I : Inv X pins σ H s) (hN : X.N.Nodup) (hi : X.N[i]? = some x) (hx : Loc X.env.scope x) (r : RelV v u)
    (h : ∀ s', Inv X pins (σ.set i (some v)) H s' → (∃ a, Heap.SameBut a s.heap s'.heap ∧ (a = X.env.locals ∨ X.env.cells.lookup x = some a)) → Q () s') (hf : X.fn x = true ∨ X.env.scope.names.lookup x = some .local := by first | exact .inl rfl | exact .inr rfl | assumption) : wpAny M A (storeName X.env x u) Q E s := by
  obtain ⟨m, hn, hl⟩ := id I.loc
  have hcls : (X.env.scope.kind == .class || (X.env.scope.kind == .module && X.env.locals != X.env.globals)) = false := by rw [I.ok.kind]; rfl
  have hiσ : i < σ.length := by rw [I.len]; exact (List.getElem?_eq_some_iff.mp hi).1
  have cne := I.cne
  have tracked : ∀ {a : Addr} {h' : Heap}, (∃ o, s.heap.get? a = some o ∧ H a = none) → Heap.SameBut a s.heap h' → HOk X.prog X.w H h' := fun {a h'} ha hs b ob e => by
    obtain ⟨_, _, hfree⟩ := ha
    refine (I.hok b ob e).stay (fun c w' hc q => (hs.2 c ?_).trans q) (fun _ q => q) fun _ _ q => q
    rintro rfl
    rcases hc with rfl | hc
    · rw [hfree] at e; cases e
    · rw [hfree] at hc; cases hc
  rcases hx with hk | hk
  · refine wpAny_storeName_local hk hn (fun h' hn' hs => ?_) hcls
    obtain ⟨oL, _, _, hoL, _⟩ := id hn
    refine h _ ⟨I.ok, I.os, I.bare, ⟨fun b o e n hb hx => ?_, fun b o e n hb hx => ?_, I.base.free, fun b o e hx => ?_, I.base.tups, I.base.frzs, I.base.tbls⟩, ⟨_, hn', fun j y v' e1 e2 e3 => ?_⟩, fun y c e => ?_, I.free, I.freeC, fun p hp => ?_, tracked ⟨oL, hoL, I.free⟩ hs, by simpa using I.len⟩ ⟨_, hs, .inl rfl⟩
    · exact (hs.2 b (Nat.ne_of_lt (Nat.lt_of_lt_of_le (Heap.lt_size e) I.ok.above))).trans (I.base.keep b o e n hb hx)
    · obtain ⟨sl, e1⟩ := I.base.slot b o e n hb hx
      exact ⟨sl, (hs.2 b (Nat.ne_of_lt (Nat.lt_of_lt_of_le (Heap.lt_size e) I.ok.above))).trans e1⟩
    · obtain ⟨o', e1⟩ := I.base.there b o e hx
      exact ⟨o', (hs.2 b (Nat.ne_of_lt (Nat.lt_of_lt_of_le (Heap.lt_size e) I.ok.above))).trans e1⟩
    · by_cases hj : j = i
      · subst hj
        rw [hi] at e1; cases e1
        rw [List.getElem?_set_self hiσ] at e2
        cases e2
        exact ⟨u, r, .inl ⟨hk, by simp⟩⟩
      · rw [List.getElem?_set_ne (Ne.symm hj)] at e2
        obtain ⟨u', r', q⟩ := hl j y v' e1 e2 e3
        refine ⟨u', r', ?_⟩
        rcases q with ⟨k, e⟩ | ⟨k, c, e, z⟩
        · refine .inl ⟨k, ?_⟩
          have : y ≠ x := fun e => hj (nodup_ix hN e1 (e ▸ hi))
          simp [this, e]
        · exact .inr ⟨k, c, e, z.sameBut hs (cne y c e)⟩
    · obtain ⟨w', z⟩ := I.cell y c e
      exact ⟨w', z.sameBut hs (cne y c e)⟩
    · obtain ⟨e, n, ne, nf, d⟩ := I.pin p hp
      exact ⟨(hs.2 p.1 ne).trans e, n, ne, nf, d⟩
  · have hfn : X.fn x = true := by
      rcases hf with z | z
      · exact z
      · rw [z] at hk; cases hk
    obtain ⟨c, hc⟩ := I.ok.has x (.inl hk)
    obtain ⟨w', z⟩ := I.cell x c hc
    refine wpAny_storeName_cell I.ok.kind hk hc z (fun h' hc' hs => ?_)
    obtain ⟨oc, hoc, hocd⟩ := id z
    refine h { s with heap := h' } ⟨I.ok, I.os, I.bare, ⟨fun b o e n hb hx => ?_, fun b o e n hb hx => ?_, I.base.free, fun b o e hx => ?_, I.base.tups, I.base.frzs, I.base.tbls⟩, ⟨m, hn.sameBut hs (Ne.symm (cne x c hc)), fun j y v' e1 e2 e3 => ?_⟩, fun y c' e => ?_, I.free, I.freeC, fun p hp => ?_, tracked ⟨oc, hoc, I.freeC x c hc⟩ hs, by simpa using I.len⟩ ⟨c, hs, .inr hc⟩
    · exact (hs.2 b (Nat.ne_of_lt (Nat.lt_of_lt_of_le (Heap.lt_size e) (I.ok.cab x c hfn hc)))).trans (I.base.keep b o e n hb hx)
    · obtain ⟨sl, e1⟩ := I.base.slot b o e n hb hx
      exact ⟨sl, (hs.2 b (Nat.ne_of_lt (Nat.lt_of_lt_of_le (Heap.lt_size e) (I.ok.cab x c hfn hc)))).trans e1⟩
    · obtain ⟨o', e1⟩ := I.base.there b o e hx
      exact ⟨o', (hs.2 b (Nat.ne_of_lt (Nat.lt_of_lt_of_le (Heap.lt_size e) (I.ok.cab x c hfn hc)))).trans e1⟩
    · by_cases hj : j = i
      · subst hj
        rw [hi] at e1; cases e1
        rw [List.getElem?_set_self hiσ] at e2
        cases e2
        exact ⟨u, r, .inr ⟨.inl hk, c, hc, hc'⟩⟩
      · rw [List.getElem?_set_ne (Ne.symm hj)] at e2
        obtain ⟨u', r', q⟩ := hl j y v' e1 e2 e3
        refine ⟨u', r', ?_⟩
        rcases q with q | ⟨k, c', e, z'⟩
        · exact .inl q
        · refine .inr ⟨k, c', e, z'.sameBut hs ?_⟩
          rintro rfl
          exact hj (nodup_ix hN e1 (I.ok.inj _ _ _ e hc ▸ hi))
    · by_cases hcc : c' = c
      · subst hcc; exact ⟨_, hc'⟩
      · obtain ⟨w2, z2⟩ := I.cell y c' e
        exact ⟨w2, z2.sameBut hs hcc⟩
    · obtain ⟨e, n, ne, nf, d⟩ := I.pin p hp
      refine ⟨(hs.2 p.1 ?_).trans e, n, ne, nf, d⟩
      intro q
      rw [q, hoc] at e
      have q' : oc = p.2 := Option.some.inj e
      exact d w' (by rw [← q']; exact hocd)
theorem store_ok {M : Model} {A : Around} {E : Value → Shared → Prop} {i : Nat} {x : Str} {v : V} {u : Value} {Q : Unit → Shared → Prop} (I : Inv X pins σ H s) (hN : X.N.Nodup) (hi : X.N[i]? = some x) (hx : Loc X.env.scope x) (r : RelV v u)
    (h : ∀ s', Inv X pins (σ.set i (some v)) H s' → Q () s') (hf : X.fn x = true ∨ X.env.scope.names.lookup x = some .local := by first | exact .inl rfl | exact .inr rfl | assumption) : wpAny M A (storeName X.env x u) Q E s :=
  store_ok2 I hN hi hx r (fun s' I' _ => h s' I') hf
theorem Inv.call' {s' : Shared} {ch : List Addr} (I : Inv X pins σ H s) (ho : s'.os = s.os) (u : Un (frs X.stack) ch H H' s.heap s'.heap) (hok : HOk X.prog X.w H' s'.heap) (hg : AllBare s'.gens)
    (hch : ∀ b ∈ ch, (b ∈ X.ex ∨ X.s₀.heap.objs.size ≤ b) ∧ b ≠ X.env.locals ∧ (∀ x c, X.env.cells.lookup x = some c → c ≠ b) ∧ ∀ p ∈ X.pn ++ pins, p.1 ≠ b) : Inv X pins σ H' s' := by
  obtain ⟨h', g', d', t', o'⟩ := s'
  have e : o' = s.os := ho
  subst e
  exact I.call (g' := g') (t' := t') (d' := d') u hok hg hch
end
abbrev XK := Value → Option Addr → Hp → Prop
abbrev St := List (Option V)
abbrev VK := V → Hp → Prop
abbrev TE := St → Hp → VK → Prop
abbrev TT := St → Hp → (Bool → Hp → Prop) → Prop
abbrev TA := St → Hp → (List V → Hp → Prop) → Prop
structure Ends where
  nx : St → Hp → Prop
  rt : VK
  bk : St → Hp → Prop := fun _ _ => False
  ct : St → Hp → Prop := fun _ _ => False
abbrev TS := Ends → St → Hp → Prop
def EP (X : Cx) (pins : List (Addr × Obj)) (σ : St) (Q : VK) (u : Value) (s' : Shared) : Prop := ∃ v H', Inv X pins σ H' s' ∧ RelV v u ∧ Q v H'
def TP (X : Cx) (pins : List (Addr × Obj)) (σ : St) (Q : Bool → Hp → Prop) (b : Bool) (s' : Shared) : Prop := ∃ H', Inv X pins σ H' s' ∧ Q b H'
def AP (X : Cx) (pins : List (Addr × Obj)) (σ : St) (Q : List V → Hp → Prop) (us : List Value) (s' : Shared) : Prop := ∃ vs H', Inv X pins σ H' s' ∧ Vals vs us ∧ Q vs H'
def SP (X : Cx) (pins : List (Addr × Obj)) (D : Ends) (f : Flow) (s' : Shared) : Prop :=
  match f with
  | .next => ∃ σ' H', Inv X pins σ' H' s' ∧ D.nx σ' H'
  | .brk => ∃ σ' H', Inv X pins σ' H' s' ∧ D.bk σ' H'
  | .cont => ∃ σ' H', Inv X pins σ' H' s' ∧ D.ct σ' H'
  | .ret u => ∃ v σ' H', Inv X pins σ' H' s' ∧ RelV v u ∧ D.rt v H'
def PE (X : Cx) (e : Expr) (t : TE) : Prop :=
  ∀ (pins : List (Addr × Obj)) (s : Shared) (σ : St) (H : Hp) (Q : VK), Inv X pins σ H s → t σ H Q → wpAny (model X.prog X.w) X.A (eval e X.env) (EP X pins σ Q) X.xe s
def PT (X : Cx) (e : Expr) (t : TT) : Prop :=
  ∀ (pins : List (Addr × Obj)) (s : Shared) (σ : St) (H : Hp) (Q : Bool → Hp → Prop), Inv X pins σ H s → t σ H Q → wpAny (model X.prog X.w) X.A (isTrue e X.env (eval e X.env)) (TP X pins σ Q) X.xe s
def PW (X : Cx) (e : Expr) (t : TT) : Prop :=
  ∀ (whole : Sem Value) (pins : List (Addr × Obj)) (s : Shared) (σ : St) (H : Hp) (Q : Bool → Hp → Prop), Inv X pins σ H s → t σ H Q → wpAny (model X.prog X.w) X.A (isTrue e X.env whole) (TP X pins σ Q) X.xe s
theorem PW.pt {X : Cx} {e : Expr} {t : TT} (h : PW X e t) : PT X e t := h _
def PA (X : Cx) (es : List Expr) (t : TA) : Prop :=
  ∀ (pos : Pos) (pins : List (Addr × Obj)) (s : Shared) (σ : St) (H : Hp) (Q : List V → Hp → Prop), Inv X pins σ H s → t σ H Q → wpAny (model X.prog X.w) X.A (spliced (backTo pos (starEach es X.env))) (AP X pins σ Q) X.xe s
def PS (X : Cx) (st : Stmt) (t : TS) : Prop :=
  ∀ (pins : List (Addr × Obj)) (s : Shared) (σ : St) (H : Hp) (D : Ends), Inv X pins σ H s → t D σ H → wpAny (model X.prog X.w) X.A (exec st X.env) (SP X pins D) X.xe s
def PSs (X : Cx) (st : List Stmt) (t : TS) : Prop :=
  ∀ (pins : List (Addr × Obj)) (s : Shared) (σ : St) (H : Hp) (D : Ends), Inv X pins σ H s → t D σ H → wpAny (model X.prog X.w) X.A (execs st X.env) (SP X pins D) X.xe s
theorem thn {α : Type} {t : Sem α} {Q Q' : α → Shared → Prop} {M : Model} {A : Around} {E : Value → Shared → Prop} {s : Shared} (h : wpAny M A t Q E s) (hQ : ∀ a s, Q a s → Q' a s) : wpAny M A t Q' E s := wpAny_mono h hQ fun _ _ x => x
end L2
namespace L2
open PySem PySem.Spec PyProof.Rows
section
variable {X : Cx}
def tVar (i : Nat) : TE := fun σ H Q => ∃ v, σ[i]? = some (some v) ∧ Q v H
def tC (v : V) : TE := fun _ H Q => Q v H
theorem pe_var {i : Nat} {x : Str} {pos : Pos} (hN : X.N[i]? = some x) (hv : Vis X.env.scope x) (hd : (x == ("__debug__" : Str)) = false := by decide) (hcd : (x == ("__classdict__" : Str)) = false := by decide) : PE X (.Name x pos) (tVar i) := by
  intro pins s σ H Q I h
  obtain ⟨v, e, h⟩ := h
  obtain ⟨m, hn, hl⟩ := I.loc
  obtain ⟨u, r, l⟩ := hl i x v hN e hv
  have fin : EP X pins σ Q u s := ⟨v, H, I, r, h⟩
  rcases l with ⟨hk, hm⟩ | ⟨hk, c, hc, hcell⟩
  · exact wpAny_Name (wpAny_loadName_local I.ok.kind hk hn hm fin) hd
  · rcases hk with hk | hk
    · exact wpAny_Name (wpAny_loadName_cell I.ok.kind hk hc hcell fin) hd
    · exact wpAny_Name (wpAny_loadName_free I.ok.kind hk hc hcell fin hcd) hd
theorem pe_int {i j pos} : PE X (.Constant (.int i) j pos) (tC (.int i)) := fun _ _ _ H _ I h => wpAny_Constant_int ⟨.int i, H, I.tok _, ⟨_, rfl⟩, h⟩
theorem pe_bl {b j pos} : PE X (.Constant (.bool b) j pos) (tC (.bl b)) := fun _ _ _ H _ I h => Constant_bool ⟨.bl b, H, I, rfl, h⟩
theorem pe_non {j pos} : PE X (.Constant .none j pos) (tC .non) := fun _ _ _ H _ I h => Constant_none ⟨.non, H, I, rfl, h⟩
theorem pe_str {x j pos} : PE X (.Constant (.str x) j pos) (tC (.str x)) := fun _ _ _ H _ I h => Calls.Constant_str ⟨.str x, H, I.tok _, ⟨_, rfl⟩, h⟩
def Gl (X : Cx) (x : Str) : Prop := X.env.kindOf x = some .globalImplicit
theorem ld_glob {E : Value → Shared → Prop} {pins : List (Addr × Obj)} {s : Shared} {σ : St} {H : Hp} {x : Str} {u : Value} {pos : Pos} {Q : Value → Shared → Prop} (I : Inv X pins σ H s) (hg : Gl X x) (hm : X.mg x = some u) (h : Q u s)
    (hd : (x == ("__debug__" : Str)) = false := by decide) : wpAny (model X.prog X.w) X.A (eval (.Name x pos) X.env) Q E s :=
  Calls.Name_function_global I.ok.kind hg (Calls.loadGlobal_global (by rw [I.ok.glob]; exact I.mod.glob.keeps I.bk) hm h) hd
theorem ld_blt {E : Value → Shared → Prop} {pins : List (Addr × Obj)} {s : Shared} {σ : St} {H : Hp} {x : Str} {u : Value} {pos : Pos} {Q : Value → Shared → Prop} (I : Inv X pins σ H s) (hg : Gl X x) (hm : X.mg x = none) (hv : bootBuiltins x = some u) (h : Q u s)
    (hn : x ≠ "__name__" := by decide) (hd : (x == ("__debug__" : Str)) = false := by decide) : wpAny (model X.prog X.w) X.A (eval (.Name x pos) X.env) Q E s := by
  obtain ⟨mb, h1, h2⟩ := I.mod.blt
  exact Calls.Name_function_global I.ok.kind hg (Calls.loadGlobal_builtin (by rw [I.ok.glob]; exact I.mod.glob.keeps I.bk) hm (by rw [I.ok.blt]; exact h1.keeps I.bk) ((h2 x hn).trans hv) h) hd
theorem pe_glob {x : Str} {v : V} {u : Value} {pos : Pos} (hg : Gl X x) (hm : X.mg x = some u) (r : RelV v u) (hd : (x == ("__debug__" : Str)) = false := by decide) : PE X (.Name x pos) (tC v) :=
  fun _ _ _ H _ I h => ld_glob I hg hm ⟨v, H, I, r, h⟩ hd
theorem pe_bltn {x : Str} {v : V} {u : Value} {pos : Pos} (hg : Gl X x) (hm : X.mg x = none) (hv : bootBuiltins x = some u) (r : RelV v u) (hn : x ≠ "__name__" := by decide) (hd : (x == ("__debug__" : Str)) = false := by decide) : PE X (.Name x pos) (tC v) :=
  fun _ _ _ H _ I h => ld_blt I hg hm hv ⟨v, H, I, r, h⟩ hn hd
def t2I (ta tb : TE) (k : Int → Int → Hp → Prop) : St → Hp → Prop := fun σ H => ta σ H fun x H1 => tb σ H1 fun y H2 => ∃ i j, x = .int i ∧ y = .int j ∧ k i j H2
def tAdd (ta tb : TE) : TE := fun σ H Q => t2I ta tb (fun i j H2 => Q (.int (i + j)) H2) σ H
def tSub (ta tb : TE) : TE := fun σ H Q => t2I ta tb (fun i j H2 => Q (.int (i - j)) H2) σ H
def tMul (ta tb : TE) : TE := fun σ H Q => t2I ta tb (fun i j H2 => (-(2 ^ 64) < i ∧ i < 2 ^ 64) ∧ Q (.int (i * j)) H2) σ H
variable {a b : Expr} {ta tb : TE} {pos : Pos}
def PC (X : Cx) (op : CmpOp) (a b : Expr) (t : TE) : Prop :=
  ∀ (pins : List (Addr × Obj)) (s : Shared) (σ : St) (H : Hp) (Q : VK), Inv X pins σ H s → t σ H Q →
    wpAny (model X.prog X.w) X.A (eval a X.env) (fun v s₁ => wpAny (model X.prog X.w) X.A (eval b X.env) (fun u s₂ => wpAny (model X.prog X.w) X.A (compareOp op v u) (EP X pins σ Q) X.xe s₂) X.xe s₁) X.xe s
def tCmp (p : Int → Int → Bool) (ta tb : TE) : TE := fun σ H Q => t2I ta tb (fun i j H2 => Q (.bl (p i j)) H2) σ H
abbrev tLt : TE → TE → TE := tCmp fun i j => decide (i < j)
abbrev tLe : TE → TE → TE := tCmp fun i j => decide (i ≤ j)
abbrev tGt : TE → TE → TE := tCmp fun i j => decide (j < i)
abbrev tGe : TE → TE → TE := tCmp fun i j => decide (j ≤ i)
abbrev tEqI : TE → TE → TE := tCmp fun i j => decide (i = j)
abbrev tNeI : TE → TE → TE := tCmp fun i j => !decide (i = j)
def tIsN (ta : TE) : TE := fun σ H Q => ta σ H fun x H1 => Q (.bl (decide (x = .non))) H1
def tNotN (ta : TE) : TE := fun σ H Q => ta σ H fun x H1 => Q (.bl (!decide (x = .non))) H1
def tB (t : TE) : TT := fun σ H Q => t σ H fun x H1 => ∃ c, x = .bl c ∧ Q c H1
theorem pt_val {e : Expr} {t : TE} (h : PE X e t) (he : ∀ whole, isTrue e X.env whole = (do let v ← whole; standAt e.pos; holding [v] (truthy v)) := by intro _; rfl) : PT X e (tB t) := by
  intro pins s σ H Q I hw
  refine isTrue_plain (thn (h pins s σ H _ I hw) fun v s1 ⟨x, H1, I1, r1, q1⟩ => ?_) (he _)
  obtain ⟨d, rfl, q⟩ := q1
  cases r1
  exact wpAny_truthy_bool ⟨H1, I1, q⟩
variable {tA tB' : TT} {rest : List Expr}
def tAnd (t u : TT) : TT := fun σ H Q => t σ H fun c H1 => if c = true then u σ H1 Q else Q false H1
def tOr (t u : TT) : TT := fun σ H Q => t σ H fun c H1 => if c = true then Q true H1 else u σ H1 Q
def tNot (t : TT) : TT := fun σ H Q => t σ H fun c H1 => Q (!c) H1
theorem pw_and1 (ha : PT X a tA) : PW X (.BoolOp .And [a] pos) tA := by
  intro wh pins s σ H Q I h
  refine isTrue_and (thn (ha pins s σ H Q I h) fun c s1 e => ?_)
  cases c with
  | true => exact isTrue_and_nil e
  | false => exact e
theorem pw_or1 (ha : PT X a tA) : PW X (.BoolOp .Or [a] pos) tA := by
  intro wh pins s σ H Q I h
  refine isTrue_or (thn (ha pins s σ H Q I h) fun c s1 e => ?_)
  cases c with
  | false => exact isTrue_or_nil e
  | true => exact e
theorem pw_and (ha : PT X a tA) (hb : PW X (.BoolOp .And (b :: rest) pos) tB') : PW X (.BoolOp .And (a :: b :: rest) pos) (tAnd tA tB') := by
  intro wh pins s σ H Q I h
  refine isTrue_and (thn (ha pins s σ H _ I h) fun c s1 ⟨H1, I1, q1⟩ => ?_)
  cases c with
  | true => exact hb wh pins s1 σ H1 Q I1 q1
  | false => exact ⟨H1, I1, q1⟩
theorem pw_or (ha : PT X a tA) (hb : PW X (.BoolOp .Or (b :: rest) pos) tB') : PW X (.BoolOp .Or (a :: b :: rest) pos) (tOr tA tB') := by
  intro wh pins s σ H Q I h
  refine isTrue_or (thn (ha pins s σ H _ I h) fun c s1 ⟨H1, I1, q1⟩ => ?_)
  cases c with
  | true => exact ⟨H1, I1, q1⟩
  | false => exact hb wh pins s1 σ H1 Q I1 q1
theorem pt_not (ha : PT X a tA) : PT X (.UnaryOp .Not a pos) (tNot tA) := by
  intro pins s σ H Q I h
  exact isTrue_not (ha pins s σ H (fun c H1 => Q (!c) H1) I h)
def tAndV (ta tb : TE) : TE := fun σ H Q => ta σ H fun x H1 => ∃ c, x = .bl c ∧ if c = true then tb σ H1 Q else Q (.bl false) H1
def tOrV (ta tb : TE) : TE := fun σ H Q => ta σ H fun x H1 => ∃ c, x = .bl c ∧ if c = true then Q (.bl true) H1 else tb σ H1 Q
def tNotV (ta : TE) : TE := fun σ H Q => ta σ H fun x H1 => ∃ c, x = .bl c ∧ Q (.bl (!c)) H1
theorem pe_one {op} {t : TE} (h : PE X a t) : PE X (.BoolOp op [a] pos) t := fun pins s σ H Q I hw => BoolOp_one (h pins s σ H Q I hw)
theorem pe_and (ha : PE X a ta) (hb : PE X (.BoolOp .And (b :: rest) pos) tb) : PE X (.BoolOp .And (a :: b :: rest) pos) (tAndV ta tb) := by
  intro pins s σ H Q I h
  refine BoolOp_and (thn (ha pins s σ H _ I h) fun v s1 ⟨x, H1, I1, r1, q1⟩ => ?_)
  obtain ⟨c, rfl, q1⟩ := q1
  cases r1
  refine wpAny_truthy_bool ?_
  cases c with
  | true => exact hb pins s1 σ H1 Q I1 q1
  | false => exact ⟨.bl false, H1, I1, rfl, q1⟩
theorem pe_or (ha : PE X a ta) (hb : PE X (.BoolOp .Or (b :: rest) pos) tb) : PE X (.BoolOp .Or (a :: b :: rest) pos) (tOrV ta tb) := by
  intro pins s σ H Q I h
  refine BoolOp_or (thn (ha pins s σ H _ I h) fun v s1 ⟨x, H1, I1, r1, q1⟩ => ?_)
  obtain ⟨c, rfl, q1⟩ := q1
  cases r1
  refine wpAny_truthy_bool ?_
  cases c with
  | false => exact hb pins s1 σ H1 Q I1 q1
  | true => exact ⟨.bl true, H1, I1, rfl, q1⟩
theorem pe_not (ha : PE X a ta) : PE X (.UnaryOp .Not a pos) (tNotV ta) := by
  intro pins s σ H Q I h
  refine UnaryOp_ (thn (ha pins s σ H _ I h) fun v s1 ⟨x, H1, I1, r1, q1⟩ => ?_)
  obtain ⟨c, rfl, q1⟩ := q1
  cases r1
  exact not_of (wpAny_truthy_bool ⟨.bl (!c), H1, I1, rfl, q1⟩)
def tIf (t : TT) (ta tb : TE) : TE := fun σ H Q => t σ H fun c H1 => if c = true then ta σ H1 Q else tb σ H1 Q
end
end L2
namespace L2
open PySem PySem.Spec PyProof.Rows
def SqL (K : PySem.W.Frag) (H : Hp) (a : Addr) (xs : List V) : Prop :=
  Rd H a (.lst xs) ∨
    ∃ (o : Obj) (its : Array Value) (n : Nat), K.lookup a = some o ∧ o.cls = .type "list" ∧ o.dict = none ∧ o.data = .seq its n ∧ its.size ≤ sizeLine ∧ Vals xs its.toList
def SqT (K : PySem.W.Frag) (H : Hp) (a : Addr) (xs : List V) : Prop :=
  Rd H a (.tup xs) ∨
    ∃ (o : Obj) (its : Array Value) (n : Nat), K.lookup a = some o ∧ o.cls = .type "tuple" ∧ o.data = .seq its n ∧ its.size ≤ sizeLine ∧ Vals xs its.toList
def absV : Value → Option V
  | .none => some .non
  | .bool b => some (.bl b)
  | .int i _ => some (.int i)
  | .str x _ => some (.str x)
  | .bytes b _ => some (.byt b)
  | .float b _ => some (.flt b)
  | .ref a => some (.ref a)
  | .type n => some (.ty n)
  | _ => none
theorem RelV.abs {x : V} {u : Value} (r : RelV x u) : absV u = some x := by
  cases x with
  | non => cases r; rfl
  | bl _ => cases r; rfl
  | int _ => obtain ⟨t, rfl⟩ := r; rfl
  | str _ => obtain ⟨t, rfl⟩ := r; rfl
  | byt _ => obtain ⟨t, rfl⟩ := r; rfl
  | flt _ => obtain ⟨t, rfl⟩ := r; rfl
  | ref _ => cases r; rfl
  | ty _ => cases r; rfl
theorem RelV.inj {x y : V} {u : Value} (r : RelV x u) (q : RelV y u) : x = y := Option.some.inj (r.abs.symm.trans q.abs)
theorem Vals.inj : ∀ {xs ys : List V} {us : List Value}, Vals xs us → Vals ys us → xs = ys
  | _, _, _, .nil, .nil => rfl
  | _, _, _, .cons r t, .cons r' t' => by rw [r.inj r', Vals.inj t t']
section
variable {X : Cx} {pins : List (Addr × Obj)} {σ : St} {H : Hp} {s : Shared} {a : Addr} {xs ys : List V}
theorem SqL.of {K : PySem.W.Frag} (h : H a = some (.lst xs)) : SqL K H a xs := .inl (.inl h)
theorem SqT.of {K : PySem.W.Frag} (h : H a = some (.tup xs)) : SqT K H a xs := .inl (.inl h)
theorem Inv.list (I : Inv X pins σ H s) (h : SqL X.K H a xs) : ∃ its : List Value, Vals xs its ∧ PlainL s.heap a its.toArray ∧ xs.length ≤ sizeLine := by
  rcases h with h | ⟨o, its, n, hk, hc, hd, hs, hz, r⟩
  · obtain ⟨z, its, n, r, e⟩ := h.ok I.hok
    exact ⟨its, r, ⟨_, n, e, rfl, rfl, rfl⟩, z⟩
  · refine ⟨its.toList, r, ⟨o, n, I.kIn a o hk, hc, hd, by simpa using hs⟩, ?_⟩
    have e := r.length
    simp only [Array.length_toList] at e
    omega
theorem Inv.tuple (I : Inv X pins σ H s) (h : SqT X.K H a xs) : ∃ its : List Value, Vals xs its ∧ IsTup s.heap a its.toArray ∧ xs.length ≤ sizeLine := by
  rcases h with h | ⟨o, its, n, hk, hc, hs, hz, r⟩
  · obtain ⟨z, its, r, p⟩ := h.ok I.hok
    exact ⟨its, r, p, z⟩
  · refine ⟨its.toList, r, ⟨o, I.kIn a o hk, hc, n, by simpa using hs⟩, ?_⟩
    have e := r.length
    simp only [Array.length_toList] at e
    omega
theorem Inv.list_inj (I : Inv X pins σ H s) (h : SqL X.K H a xs) (h' : SqL X.K H a ys) : xs = ys := by
  obtain ⟨its, r, ⟨o, n, e, _, _, d⟩, _⟩ := I.list h
  obtain ⟨its', r', ⟨o', n', e', _, _, d'⟩, _⟩ := I.list h'
  rw [e] at e'; cases e'
  rw [d] at d'
  injection d' with d1 _
  have : its = its' := by simpa using congrArg Array.toList d1
  subst this
  exact r.inj r'
end
abbrev Cx.wish (X : Cx) (E : Value → Shared → Prop) : Cx := { X with xe := E }
abbrev Cx.nox (X : Cx) : Cx := X.wish fun _ _ => False
theorem Cx.Ok.wish {X : Cx} (ok : X.Ok) (E : Value → Shared → Prop) : (X.wish E).Ok :=
  ⟨ok.mod, ok.kind, ok.glob, ok.blt, ok.above, ok.inj, ok.has, ok.cab, ok.hd, ok.frames, ok.stk, ok.exf, ok.bs, ok.bsz, ok.noex, ok.exfs, ok.funs, ok.frf⟩
theorem Cx.Ok.unwish {X : Cx} {E : Value → Shared → Prop} (ok : (X.wish E).Ok) : X.Ok :=
  ⟨ok.mod, ok.kind, ok.glob, ok.blt, ok.above, ok.inj, ok.has, ok.cab, ok.hd, ok.frames, ok.stk, ok.exf, ok.bs, ok.bsz, ok.noex, ok.exfs, ok.funs, ok.frf⟩
section
variable {X : Cx} {pins : List (Addr × Obj)} {σ : St} {H : Hp} {s : Shared} {E : Value → Shared → Prop}
theorem Inv.wish (I : Inv X pins σ H s) (E : Value → Shared → Prop) : Inv (X.wish E) pins σ H s := ⟨I.ok.wish E, I.os, I.bare, I.base, I.loc, I.cell, I.free, I.freeC, I.pin, I.hok, I.len⟩
theorem Inv.unwish (I : Inv (X.wish E) pins σ H s) : Inv X pins σ H s := ⟨I.ok.unwish, I.os, I.bare, I.base, I.loc, I.cell, I.free, I.freeC, I.pin, I.hok, I.len⟩
theorem SP.unwish {D : Ends} {f : Flow} {s' : Shared} (h : SP (X.wish E) pins D f s') : SP X pins D f s' := by
  cases f with
  | next => obtain ⟨σ', H', I, q⟩ := h; exact ⟨σ', H', I.unwish, q⟩
  | brk => obtain ⟨σ', H', I, q⟩ := h; exact ⟨σ', H', I.unwish, q⟩
  | cont => obtain ⟨σ', H', I, q⟩ := h; exact ⟨σ', H', I.unwish, q⟩
  | ret u => obtain ⟨v, σ', H', I, r, q⟩ := h; exact ⟨v, σ', H', I.unwish, r, q⟩
theorem PE.nox {e : Expr} {t : TE} (h : PE X.nox e t) : PE X e t := fun pins s σ H Q I hw =>
  wpAny_mono (h pins s σ H Q (I.wish _) hw) (fun _ _ ⟨v, H', I', r, q⟩ => ⟨v, H', I'.unwish, r, q⟩) fun _ _ z => False.elim z
theorem PT.nox {e : Expr} {t : TT} (h : PT X.nox e t) : PT X e t := fun pins s σ H Q I hw =>
  wpAny_mono (h pins s σ H Q (I.wish _) hw) (fun _ _ ⟨H', I', q⟩ => ⟨H', I'.unwish, q⟩) fun _ _ z => False.elim z
theorem PSs.nox {st : List Stmt} {t : TS} (h : PSs X.nox st t) : PSs X st t := fun pins s σ H D I hw =>
  wpAny_mono (h pins s σ H D (I.wish _) hw) (fun _ _ q => q.unwish) fun _ _ z => False.elim z
end
section
variable {X : Cx} {st : Stmt} {rest : List Stmt} {t u : TS} {e : Expr} {te : TE} {pos : Pos}
def tNext : TS := fun D σ H => D.nx σ H
def tSeq (t u : TS) : TS := fun D σ H => t { D with nx := u D } σ H
theorem pss_nil : PSs X [] tNext := fun _ _ σ H _ I h => wpAny_execs_nil ⟨σ, H, I, h⟩
theorem pss_cons (h1 : PS X st t) (h2 : PSs X rest u) : PSs X (st :: rest) (tSeq t u) := by
  intro pins s σ H D I h
  refine wpAny_execs_cons (thn (h1 pins s σ H { D with nx := u D } I h) fun f s1 q => ?_)
  cases f with
  | next =>
    obtain ⟨σ', H', I', q⟩ := q
    exact h2 pins s1 σ' H' D I' q
  | ret v => exact q
  | brk => exact q
  | cont => exact q
theorem pss_one (h1 : PS X st t) : PSs X [st] t := by
  intro pins s σ H D I h
  refine wpAny_execs_cons (thn (h1 pins s σ H D I h) fun f s1 q => ?_)
  cases f with
  | next => exact wpAny_execs_nil q
  | ret v => exact q
  | brk => exact q
  | cont => exact q
def tBreak : TS := fun D σ H => D.bk σ H
def tCont : TS := fun D σ H => D.ct σ H
theorem Inv.quiet {pins : List (Addr × Obj)} {σ : St} {H : Hp} {s : Shared} (I : Inv X pins σ H s) : interactive X.env = false := by simp [interactive, I.ok.kind]
def tDrop (te : TE) : TS := fun D σ H => te σ H fun _ H1 => D.nx σ H1
theorem ps_expr (he : PE X e te) (hs : swapsWith e none pos.line X.env = pure false := by rfl) : PS X (.Expr e pos) (tDrop te) := by
  intro pins s σ H D I h
  exact wpAny_Expr_any (thn (he pins s σ H _ I h) fun v s1 ⟨x, H1, I1, r1, q1⟩ => ⟨σ, H1, I1, q1⟩) I.quiet hs
def tRet (te : TE) : TS := fun D σ H => te σ H D.rt
theorem ps_ret (he : PE X e te) : PS X (.Return (some e) pos) (tRet te) := by
  intro pins s σ H D I h
  exact wpAny_Return_some (thn (he pins s σ H _ I h) fun v s1 ⟨x, H1, I1, r1, q1⟩ => ⟨x, σ, H1, I1, r1, q1⟩)
def tRetN : TS := fun D _ H => D.rt .non H
def tIfS (c : TT) (t u : TS) : TS := fun D σ H => c σ H fun b H1 => if b = true then t D σ H1 else u D σ H1
theorem ps_if {c : Expr} {a b : List Stmt} {tc : TT} (hc : PT X c tc) (ha : PSs X a t) (hb : PSs X b u) : PS X (.If c a b pos) (tIfS tc t u) := by
  intro pins s σ H D I h
  refine wpAny_If (thn (hc pins s σ H _ I h) fun d s1 ⟨H1, I1, q1⟩ => ?_)
  cases d with
  | true => exact ha pins s1 σ H1 D I1 q1
  | false => exact hb pins s1 σ H1 D I1 q1
def tNever : TS := fun _ _ _ => False
end
abbrev TG := V → St → Hp → (St → Hp → Prop) → Prop
abbrev TGs := List V → St → Hp → (St → Hp → Prop) → Prop
def PG (X : Cx) (target : Expr) (t : TG) : Prop :=
  ∀ (pins : List (Addr × Obj)) (s : Shared) (σ : St) (H : Hp) (v : V) (u : Value) (Q : St → Hp → Prop), Inv X pins σ H s → RelV v u → t v σ H Q →
    wpAny (model X.prog X.w) X.A (assign target X.env u) (fun _ s' => ∃ σ' H', Inv X pins σ' H' s' ∧ Q σ' H') X.xe s
def PGs (X : Cx) (ts : List Expr) (t : TGs) : Prop :=
  ∀ (pins : List (Addr × Obj)) (s : Shared) (σ : St) (H : Hp) (vs : List V) (us : List Value) (Q : St → Hp → Prop), Inv X pins σ H s → Vals vs us → t vs σ H Q →
    wpAny (model X.prog X.w) X.A (assignInOrder ((assignEach ts X.env).map (·.2)) us) (fun _ s' => ∃ σ' H', Inv X pins σ' H' s' ∧ Q σ' H') X.xe s
abbrev TSet := V → V → V → Hp → (Hp → Prop) → Prop
def PSet (X : Cx) (t : TSet) : Prop :=
  ∀ (pins : List (Addr × Obj)) (s : Shared) (σ : St) (H : Hp) (o i v : V) (ov iv u : Value) (Q : Hp → Prop), Inv X pins σ H s → RelV o ov → RelV i iv → RelV v u → t o i v H Q →
    wpAny (model X.prog X.w) X.A (setItem ov iv u) (fun _ s' => ∃ H', Inv X pins σ H' s' ∧ Q H') X.xe s
abbrev TIp := V → V → Hp → VK → Prop
def PIp (X : Cx) (op : Operator) (t : TIp) : Prop :=
  ∀ (pins : List (Addr × Obj)) (s : Shared) (σ : St) (H : Hp) (x y : V) (v u : Value) (Q : VK), Inv X pins σ H s → RelV x v → RelV y u → t x y H Q →
    wpAny (model X.prog X.w) X.A (inplaceOp op v u) (EP X pins σ Q) X.xe s
section
variable {X : Cx} {pos : Pos}
def gName (i : Nat) : TG := fun v σ H Q => Q (σ.set i (some v)) H
theorem pg_name {i : Nat} {x : Str} (hN : X.N.Nodup) (hi : X.N[i]? = some x) (hx : Loc X.env.scope x) (hf : X.fn x = true ∨ X.env.scope.names.lookup x = some .local := by first | exact .inl rfl | exact .inr rfl | assumption) : PG X (.Name x pos) (gName i) := by
  intro pins s σ H v u Q I r h
  exact wpAny_assign_Name (store_ok I hN hi hx r (fun s' I' => ⟨_, H, I', h⟩) hf)
def gNil : TGs := fun vs σ H Q => vs = [] ∧ Q σ H
def gCons (t : TG) (u : TGs) : TGs := fun vs σ H Q => ∃ v r, vs = v :: r ∧ t v σ H fun σ' H' => u r σ' H' Q
theorem pgs_nil : PGs X [] gNil := by
  intro pins s σ H vs us Q I r h
  obtain ⟨e, h⟩ := h
  subst e
  cases r
  exact assignInOrder_nil ⟨σ, H, I, h⟩
theorem pgs_cons {e : Expr} {es : List Expr} {t : TG} {u : TGs} (h1 : PG X e t) (h2 : PGs X es u)
    (hs : (assignEach (e :: es) X.env).map (·.2) = assign e X.env :: (assignEach es X.env).map (·.2) := by rfl) : PGs X (e :: es) (gCons t u) := by
  intro pins s σ H vs us Q I r h
  obtain ⟨v, vr, e1, h⟩ := h
  subst e1
  cases r with
  | cons r rr =>
    rw [hs]
    refine assignInOrder_cons (thn (h1 pins s σ H _ _ _ I r h) fun _ s1 ⟨σ1, H1, I1, q1⟩ => ?_)
    exact h2 pins s1 σ1 H1 _ _ Q I1 rr q1
def gTup (K : PySem.W.Frag) (n : Nat) (t : TGs) : TG := fun v σ H Q => ∃ a xs, v = .ref a ∧ SqT K H a xs ∧ xs.length = n ∧ t xs σ H Q
theorem pg_tup {es : List Expr} {k : Nat} {t : TGs} {n : Nat} (hc : X.calm = true) (h : PGs X es t)
    (hn : (assignEach es X.env).length = n := by rfl) (hst : (assignEach es X.env).findIdx? (·.1) = none := by rfl) : PG X (.Tuple es k pos) (gTup X.K n t) := by
  intro pins s σ H v u Q I r hw
  obtain ⟨a, xs, e1, hq, hl, hw⟩ := hw
  subst e1
  cases r
  obtain ⟨its, rv, ht, hz⟩ := I.tuple hq
  refine assign_Tuple_tuple (I.ok.hd hc) ht (by simp [hn, ← hl, rv.length]) hst fun h' hx => ?_
  have I1 : Inv X pins σ H { s with heap := h' } := I.kept (t' := s.toks) fun b o e => hx b o (Nat.ne_of_lt (Heap.lt_size e)) e
  exact h pins _ σ H xs _ Q I1 (by simpa using rv) hw
def gSub (to ti : TE) (t : TSet) : TG := fun v σ H Q => to σ H fun o H1 => ti σ H1 fun i H2 => t o i v H2 fun H3 => Q σ H3
theorem pg_sub {o i : Expr} {to ti : TE} {t : TSet} (ho : PE X o to) (hi : PE X i ti) (hs : PSet X t)
    (ha : ∀ v, assign (.Subscript o i pos) X.env v = (do
      let ov ← holding [v] (eval o X.env)
      let iv ← holding [v, ov] (eval i X.env)
      standAt pos
      holding [v, ov, iv] (setItem ov iv v)
      release [v, ov, iv] []) := by intro _; rfl) : PG X (.Subscript o i pos) (gSub to ti t) := by
  intro pins s σ H v u Q I r h
  rw [ha]
  refine wpAny_bind (wpAny_holding (thn (ho pins s σ H _ I h) fun ov s1 ⟨x, H1, I1, r1, q1⟩ => ?_))
  refine wpAny_bind (wpAny_holding (thn (hi pins s1 σ H1 _ I1 q1) fun iv s2 ⟨y, H2, I2, r2, q2⟩ => ?_))
  refine wpAny_bind (wpAny_standAt (wpAny_bind (wpAny_holding (thn (hs pins s2 σ H2 x y v ov iv u _ I2 r1 r2 r q2) fun _ s3 ⟨H3, I3, q3⟩ => ?_))))
  exact wpAny_release ⟨σ, H3, I3, q3⟩
def tAsg (te : TE) (g : TG) : TS := fun D σ H => te σ H fun x H1 => g x σ H1 D.nx
theorem ps_asg {tg e : Expr} {te : TE} {g : TG} (he : PE X e te) (hg : PG X tg g) (hs : swapsWithSole [tg] e pos.line X.env = pure false := by rfl) (hw : swappedStores [tg] e X.env = pure none := by rfl)
    (h1 : (assignEach [tg] X.env).map (·.2) = [assign tg X.env] := by rfl) : PS X (.Assign [tg] e pos) (tAsg te g) := by
  intro pins s σ H D I h
  refine wpAny_Assign_stores (thn (he pins s σ H _ I h) fun v s1 ⟨x, H1, I1, r1, q1⟩ => ?_) hs hw
  rw [h1]
  exact thn (hg pins s1 σ H1 x v _ I1 r1 q1) fun _ s2 q => q
theorem ps_set {i : Nat} {x : Str} {e : Expr} {te : TE} {pos' : Pos} (hN : X.N.Nodup) (hi : X.N[i]? = some x) (hx : Loc X.env.scope x) (he : PE X e te) (hs : swapsWith e (some (.Name x pos')) pos.line X.env = pure false := by rfl) (hf : X.fn x = true ∨ X.env.scope.names.lookup x = some .local := by first | exact .inl rfl | exact .inr rfl | assumption) :
    PS X (.Assign [.Name x pos'] e pos) (tAsg te (gName i)) := by
  intro pins s σ H D I h
  refine wpAny_Assign_Name (thn (he pins s σ H _ I h) fun v s1 ⟨y, H1, I1, r1, q1⟩ => ?_) hs
  exact store_ok I1 hN hi hx r1 (fun s2 I2 => ⟨_, H1, I2, q1⟩) hf
def tPar (i j : Nat) (ta : TA) : TS := fun D σ H => ta σ H fun vs H1 => ∃ v w, vs = [v, w] ∧ D.nx ((σ.set i (some v)).set j (some w)) H1
def tAug (i : Nat) (te : TE) (ti : TIp) : TS := fun D σ H => ∃ x, σ[i]? = some (some x) ∧ te σ H fun y H1 => ti x y H1 fun z H2 => D.nx (σ.set i (some z)) H2
def tAugS (to ti te : TE) (tget : V → V → Hp → VK → Prop) (tip : TIp) (tset : TSet) : TS := fun D σ H => to σ H fun o H1 => ti σ H1 fun i H2 => tget o i H2 fun x H3 => te σ H3 fun y H4 => tip x y H4 fun z H5 => tset o i z H5 fun H6 => D.nx σ H6
def PGet (X : Cx) (t : V → V → Hp → VK → Prop) : Prop :=
  ∀ (pins : List (Addr × Obj)) (s : Shared) (σ : St) (H : Hp) (o i : V) (ov iv : Value) (Q : VK), Inv X pins σ H s → RelV o ov → RelV i iv → t o i H Q →
    wpAny (model X.prog X.w) X.A (getItem ov iv) (EP X pins σ Q) X.xe s
def ipI (f : Int → Int → Int) : TIp := fun x y H Q => ∃ i j, x = .int i ∧ y = .int j ∧ Q (.int (f i j)) H
end
section
variable {X : Cx} {pos : Pos}
def tWhile (c : TT) (tb : TS) : TS := fun D σ H => ∃ W : Nat → St → Hp → Prop, (∃ m, W m σ H) ∧ ∀ m σ H, W m σ H →
  c σ H fun b H1 => if b = true then ∃ N : St → Hp → Prop, (∀ σ' H', N σ' H' → ∃ m', m' < m ∧ W m' σ' H') ∧ tb { D with nx := N, ct := N, bk := D.nx } σ H1 else D.nx σ H1
end
structure It where
  go : Nat → Hp → Prop
  yld : Nat → Hp → V → Hp → Prop
  stop : Nat → Hp → Prop
def FpOk (X : Cx) (pins : List (Addr × Obj)) (H : Hp) (b : Addr) : Prop :=
  H b = none ∧ b ≠ X.env.locals ∧ b ∉ X.fs ∧ (b ∈ X.ex ∨ X.s₀.heap.objs.size ≤ b) ∧ (∀ x c, X.env.cells.lookup x = some c → c ≠ b) ∧ ∀ p ∈ X.pn ++ pins, p.1 ≠ b
theorem Inv.fpOk {X : Cx} {pins : List (Addr × Obj)} {σ : St} {H H' : Hp} {s : Shared} {b : Addr} (I : Inv X pins σ H s) (hb : s.heap.objs.size ≤ b) (hn : H' b = none) : FpOk X pins H' b := by
  refine ⟨hn, Nat.ne_of_gt (Nat.lt_of_lt_of_le I.lt hb), I.nofs hb, .inr (Nat.le_trans I.sz hb), fun x c e z => ?_, fun p hp z => ?_⟩
  · obtain ⟨v, q⟩ := I.cell x c e
    exact absurd (Nat.lt_of_lt_of_le q.lt (by rw [z]; exact hb)) (Nat.lt_irrefl _)
  · exact absurd (Nat.lt_of_lt_of_le (Heap.lt_size (I.pin p hp).1) (by rw [z]; exact hb)) (Nat.lt_irrefl _)
structure Turn (P : Program) (w : World) (K : PySem.W.Frag) (tg : Expr) (J : It) (fp : List Addr) (it : Addr) (tn : Nat → Heap → Prop) : Prop where
  mem : it ∈ fp
  obj : ∀ i h, tn i h → ∀ b ∈ fp, ∃ o, h.get? b = some o ∧ ∀ v, o.data ≠ .cell v
  keep : ∀ i h h', tn i h → (∀ b ∈ fp, ∀ o, h.get? b = some o → h'.get? b = some o) → tn i h'
  item : ∀ (X : Cx), X.prog = P → X.w = w → X.K = K → X.calm = true → ∀ (i : Nat) (pins : List (Addr × Obj)) (s : Shared) (σ : St) (H : Hp) (E : Value → Shared → Prop), Inv X pins σ H s → (∀ b ∈ fp, FpOk X pins H b) → tn i s.heap → J.go i H →
    wpAny (model P w) X.A (pyNext (.ref it)) (fun r s1 => ∃ u, r = some u ∧
      wpAny (model P w) X.A (letOwnedTupleGo tg (.ref it) u) (fun _ s2 => ∃ x H', Inv X pins σ H' s2 ∧ RelV x u ∧ J.yld i H x H' ∧ tn (i + 1) s2.heap ∧ ∀ b ∈ fp, H' b = none) E s1) E s
  done : ∀ (X : Cx), X.prog = P → X.w = w → X.K = K → X.calm = true → ∀ (i : Nat) (pins : List (Addr × Obj)) (s : Shared) (σ : St) (H : Hp) (E : Value → Shared → Prop), Inv X pins σ H s → (∀ b ∈ fp, FpOk X pins H b) → tn i s.heap → J.stop i H →
    wpAny (model P w) X.A (pyNext (.ref it)) (fun r s1 => r = none ∧ Inv X pins σ H s1) E s
  self : ∀ (A : Around) (i : Nat) (s : Shared) (Q : Value → Shared → Prop) (E : Value → Shared → Prop), tn i s.heap → Q (.ref it) s → wpAny (model P w) A (pyIter (.ref it)) Q E s
abbrev TI := St → Hp → (It → Hp → Prop) → Prop
def PIE (X : Cx) (pins : List (Addr × Obj)) (σ : St) (tg : Expr) (R : It → Hp → Prop) (itv : Value) (s2 : Shared) : Prop :=
  ∃ (it : Addr) (fp : List Addr) (tn : Nat → Heap → Prop) (J : It) (H' : Hp), itv = .ref it ∧ Inv X pins σ H' s2 ∧ Turn X.prog X.w X.K tg J fp it tn ∧ tn 0 s2.heap ∧ (∀ b ∈ fp, FpOk X pins H' b) ∧ R J H'
def PI (X : Cx) (tg iter : Expr) (wi : TI) : Prop :=
  ∀ (pins : List (Addr × Obj)) (s : Shared) (σ : St) (H : Hp) (R : It → Hp → Prop), Inv X pins σ H s → wi σ H R →
    wpAny (model X.prog X.w) X.A (eval iter X.env) (fun v s1 => wpAny (model X.prog X.w) X.A (pyIter v) (PIE X pins σ tg R) X.xe s1) X.xe s
theorem go_of {M : Model} {A : Around} {E : Value → Shared → Prop} {s : Shared} {tg : Expr} {it : Addr} {u : Value} {o : Obj} {n : String} {vs : Array Value} {Q : Unit → Shared → Prop} (ho : s.heap.get? it = some o) (hc : o.cls = .type n) (hd : o.data = .fields vs)
    (hn : ["enumerate", "zip", "dict_itemiterator", "dict_reverseitemiterator", "odict_iterator", "itertools.zip_longest", "itertools.pairwise"].contains n = false) (hQ : Q () s) : wpAny M A (letOwnedTupleGo tg (.ref it) u) Q E s := by
  unfold letOwnedTupleGo
  cases tg <;> first
    | exact wpAny_pure hQ
    | (cases u <;> first
        | exact wpAny_pure hQ
        | (refine wpAny_bind (wpAny_load ho ?_)
           rw [hc, hd]
           show wpAny M A (if (["enumerate", "zip", "dict_itemiterator", "dict_reverseitemiterator", "odict_iterator", "itertools.zip_longest", "itertools.pairwise"].contains n && vs[0]? == some (rawInt _)) = true then _ else _) Q E s
           rw [if_neg (by intro h; rw [hn, Bool.false_and] at h; cases h)]
           exact wpAny_pure hQ))
def Itl (K : PySem.W.Frag) (a : Addr) : It :=
  ⟨fun i H => ∃ xs x, SqL K H a xs ∧ xs[i]? = some x, fun i H x H' => H' = H ∧ ∀ xs, SqL K H a xs → xs[i]? = some x, fun i H => ∃ xs, SqL K H a xs ∧ xs.length ≤ i⟩
def Itt (K : PySem.W.Frag) (a : Addr) : It :=
  ⟨fun i H => ∃ xs x, SqT K H a xs ∧ xs[i]? = some x, fun i H x H' => H' = H ∧ ∀ xs, SqT K H a xs → xs[i]? = some x, fun i H => ∃ xs, SqT K H a xs ∧ xs.length ≤ i⟩
def Itr (lo : Int) (n : Nat) : It := ⟨fun i _ => i < n, fun i H x H' => H' = H ∧ x = .int (lo + i), fun i _ => n ≤ i⟩
theorem turn_list {P : Program} {w : World} {K : PySem.W.Frag} {tg : Expr} (a it : Addr) : Turn P w K tg (Itl K a) [it] it (fun i h => h.IsListIter it a i) where
  mem := by simp
  obj := fun i h st b hb => by
    have e : b = it := by simpa using hb
    subst e
    obtain ⟨o, e, c, d⟩ := st
    exact ⟨o, e, fun v z => by rw [d] at z; cases z⟩
  keep := fun i h h' st k => st.at fun o e => k it (by simp) o e
  item := by
    intro X hP hw hK hc i pins s σ H E I hf st hg
    subst hP hw hK
    obtain ⟨xs, x, hq, hx⟩ := hg
    obtain ⟨its, rv, p, hz⟩ := I.list hq
    obtain ⟨u, hu, ru⟩ := rv.get hx
    obtain ⟨f0, f1, f2, f3, f4, f5⟩ := hf it (by simp)
    refine wpAny_pyNext_list_item st p.isList (x := u) (by simpa using hu) fun h' st' sb => ?_
    have I1 : Inv X pins σ H { s with heap := h' } := I.turned (t' := s.toks) (fun b o hb e => (sb.2 b hb).trans e) f0 f1 f3 f4 f5
    obtain ⟨o, e, c, d⟩ := id st'
    exact ⟨u, rfl, go_of (s := { s with heap := h' }) e c d (by decide) ⟨x, H, I1, ru, ⟨rfl, fun ys hy => by rw [I.list_inj hy hq]; exact hx⟩, st', fun b hb => (hf b hb).1⟩⟩
  done := by
    intro X hP hw hK hc i pins s σ H E I hf st hg
    subst hP hw hK
    obtain ⟨xs, hq, hx⟩ := hg
    obtain ⟨its, rv, p, hz⟩ := I.list hq
    obtain ⟨f0, f1, f2, f3, f4, f5⟩ := hf it (by simp)
    have hl := rv.length
    exact wpAny_pyNext_list_end (I.ok.hd hc) st p.isList (by simp; omega) fun h' eb => ⟨rfl, I.turned (t' := s.toks) (fun b o hb e => eb b o hb e) f0 f1 f3 f4 f5⟩
  self := fun _ _ _ _ _ st h => wpAny_pyIter_listiter st h
theorem turn_range {P : Program} {w : World} {K : PySem.W.Frag} {tg : Expr} (it : Addr) (lo : Int) (n : Nat) : Turn P w K tg (Itr lo n) [it] it (fun i h => IsRangeIter h it (lo + (i : Nat) * 1) ((n : Int) - (i : Nat)) 1) where
  mem := by simp
  obj := fun i h st b hb => by
    have e : b = it := by simpa using hb
    subst e
    exact ⟨_, st, fun v z => by
      have z' : Data.fields _ = Data.cell v := z
      cases z'⟩
  keep := fun i h h' st k => k it (by simp) _ st
  item := by
    intro X hP hw hK hc i pins s σ H E I hf st hg
    subst hP hw hK
    obtain ⟨f0, f1, f2, f3, f4, f5⟩ := hf it (by simp)
    have W := Walks.range (prog := X.prog) (w := X.w) (I.ok.hd hc) it lo 1 n
    refine W.item i s _ _ hg st fun v h' tk hv st' kk => ?_
    obtain ⟨t, rfl⟩ := hv
    have I1 : Inv X pins σ H { s with heap := h', toks := tk } := I.turned (fun b o hb e => kk b o (by simpa using hb) e) f0 f1 f3 f4 f5
    refine ⟨_, rfl, go_of (s := { s with heap := h', toks := tk }) (n := "range_iterator") st' rfl rfl (by decide) ⟨.int (lo + i), H, I1, ⟨t, ?_⟩, ⟨rfl, rfl⟩, st', fun b hb => (hf b hb).1⟩⟩
    rw [Int.mul_one]
  done := by
    intro X hP hw hK hc i pins s σ H E I hf st hg
    subst hP hw hK
    obtain ⟨f0, f1, f2, f3, f4, f5⟩ := hf it (by simp)
    exact wpAny_pyNext_range_end (I.ok.hd hc) st (by have : n ≤ i := hg; omega) fun h' eb => ⟨rfl, I.turned (t' := s.toks) (fun b o hb e => eb b o hb e) f0 f1 f3 f4 f5⟩
  self := fun _ _ _ _ _ st h => wpAny_pyIter_rangeiter st h
end L2
namespace L2
open PySem PySem.Spec PyProof.Rows
section
variable {X : Cx} {tg : Expr}
def iList (K : PySem.W.Frag) (tl : TE) : TI := fun σ H R => tl σ H fun x H1 => ∃ a, x = .ref a ∧ (∃ xs, SqL K H1 a xs) ∧ R (Itl K a) H1
def iTup (K : PySem.W.Frag) (tl : TE) : TI := fun σ H R => tl σ H fun x H1 => ∃ a, x = .ref a ∧ (∃ xs, SqT K H1 a xs) ∧ R (Itt K a) H1
theorem pi_list {l : Expr} {tl : TE} (hl : PE X l tl) : PI X tg l (iList X.K tl) := by
  intro pins s σ H R I h
  refine thn (hl pins s σ H _ I h) fun v s1 ⟨x, H1, I1, r1, q1⟩ => ?_
  obtain ⟨a, e, ⟨xs, hq⟩, q⟩ := q1
  subst e
  cases r1
  obtain ⟨its, rv, p, hz⟩ := I1.list hq
  refine wpAny_pyIter_list p.isList ?_
  refine ⟨s1.heap.objs.size, [s1.heap.objs.size], _, _, H1, rfl, I1.kept (t' := s1.toks) fun b o e => Heap.get?_push_of_some _ e, turn_list a _, ⟨_, Heap.get?_push_size _ rfl, rfl, rfl⟩, fun b hb => ?_, q⟩
  have e : b = s1.heap.objs.size := by simpa using hb
  subst e
  exact I1.fpOk (Nat.le_refl _) (I1.hok.fresh (Nat.le_refl _))
theorem range_it {pins : List (Addr × Obj)} {σ : St} {H : Hp} {s : Shared} {R : It → Hp → Prop} {E : Value → Shared → Prop} {lo hi : Int} {t u v : Tok} {tk : Nat} (I : Inv X pins σ H s) (h1 : -(2 ^ 62) ≤ lo) (h2 : lo < 2 ^ 62) (h3 : -(2 ^ 62) ≤ hi) (h4 : hi < 2 ^ 62)
    (q : R (Itr lo (hi - lo).toNat) H) : wpAny (model X.prog X.w) X.A (pyIter (.ref s.heap.objs.size)) (PIE X pins σ tg R) E { s with heap := s.heap.push { cls := .type "range", data := .fields #[.int lo t, .int hi u, .int 1 v] }, toks := tk } := by
  refine wpAny_pyIter_range (IsRange.new ..) (small_one h1 h2 h3 h4) ?_
  have I1 : Inv X pins σ H { s with heap := s.heap.push { cls := .type "range", data := .fields #[.int lo t, .int hi u, .int 1 v] }, toks := tk } := I.kept fun b o e => Heap.get?_push_of_some _ e
  refine ⟨(s.heap.push { cls := .type "range", data := .fields #[.int lo t, .int hi u, .int 1 v] }).objs.size, [(s.heap.push { cls := .type "range", data := .fields #[.int lo t, .int hi u, .int 1 v] }).objs.size], _, _, H, rfl,
    I1.kept (t' := tk) fun b o e => Heap.get?_push_of_some _ e, turn_range _ lo (hi - lo).toNat, ?_, fun b hb => ?_, q⟩
  · have e1 : lo + ((0 : Nat) : Int) * 1 = lo := by simp
    have e2 : (((hi - lo).toNat : Nat) : Int) - ((0 : Nat) : Int) = Builtin.Range.rangeSize lo hi 1 := by rw [rangeSize_one]; split <;> omega
    show IsRangeIter _ _ (lo + ((0 : Nat) : Int) * 1) ((((hi - lo).toNat : Nat) : Int) - ((0 : Nat) : Int)) 1
    rw [e1, e2]
    exact Heap.get?_push_size _ rfl
  · have e : b = (s.heap.push { cls := .type "range", data := .fields #[.int lo t, .int hi u, .int 1 v] }).objs.size := by simpa using hb
    subst e
    exact I1.fpOk (Nat.le_refl _) (I1.hok.fresh (Nat.le_refl _))
def iRng1 (ta : TA) : TI := fun σ H R => ta σ H fun vs H1 => ∃ j : Int, vs = [.int j] ∧ -(2 ^ 62) ≤ j ∧ j < 2 ^ 62 ∧ R (Itr 0 j.toNat) H1
def iRng2 (ta : TA) : TI := fun σ H R => ta σ H fun vs H1 => ∃ i j : Int, vs = [.int i, .int j] ∧ (-(2 ^ 62) ≤ i ∧ i < 2 ^ 62 ∧ -(2 ^ 62) ≤ j ∧ j < 2 ^ 62) ∧ R (Itr i (j - i).toNat) H1
theorem pi_range1 {a : Expr} {ta : TA} {p pos : Pos} (hg : Gl X "range") (hm : X.mg "range" = none) (ha : PA X [a] ta) (hs : starEach [a] X.env = [(false, eval a X.env)] := by rfl) : PI X tg (.Call (.Name "range" p) [a] [] pos) (iRng1 ta) := by
  intro pins s σ H R I h
  refine Call_ (ld_blt I hg hm boot_range (PyProof.Rows.callWith_type1 (thn (ha pos pins s σ H _ I h) fun us s1 ⟨vs, H1, I1, r1, q1⟩ => ?_) hs rfl))
  obtain ⟨j, e, q1, q2, q⟩ := q1
  subst e
  cases r1 with
  | cons r rr =>
    cases rr
    obtain ⟨t, rfl⟩ := r
    exact call_range_1 (range_it I1 (by omega) (by omega) q1 q2 (by simpa using q))
theorem pi_range2 {a b : Expr} {ta : TA} {p pos : Pos} (hg : Gl X "range") (hm : X.mg "range" = none) (ha : PA X [a, b] ta) (hs : starEach [a, b] X.env = [(false, eval a X.env), (false, eval b X.env)] := by rfl) (hs2 : starEach [b] X.env = [(false, eval b X.env)] := by rfl) :
    PI X tg (.Call (.Name "range" p) [a, b] [] pos) (iRng2 ta) := by
  intro pins s σ H R I h
  refine Call_ (ld_blt I hg hm boot_range (PyProof.Rows.callWith_type1 (thn (ha pos pins s σ H _ I h) fun us s1 ⟨vs, H1, I1, r1, q1⟩ => ?_) (by rw [hs, hs2]) (by rw [hs2]; rfl)))
  obtain ⟨i, j, e, ⟨q1, q2, q3, q4⟩, q⟩ := q1
  subst e
  cases r1 with
  | cons r rr =>
    cases rr with
    | cons r' rr =>
      cases rr
      obtain ⟨t, rfl⟩ := r
      obtain ⟨t', rfl⟩ := r'
      exact call_range_2 (range_it I1 q1 q2 q3 q4 q)
def tFor (wi : TI) (g : TG) (tb : TS) : TS := fun D σ H => wi σ H fun J H1 => ∃ W : Nat → Nat → St → Hp → Prop, (∃ m, W 0 m σ H1) ∧ ∀ i m σ H, W i m σ H →
  (J.stop i H ∧ D.nx σ H) ∨ (J.go i H ∧ ∃ N : St → Hp → Prop, (∀ σ' H', N σ' H' → ∃ m', m' < m ∧ W (i + 1) m' σ' H') ∧ ∀ x H', J.yld i H x H' → g x σ H' fun σ2 H2 => tb { D with nx := N, ct := N, bk := D.nx } σ2 H2)
def pinsAt (fp : List Addr) (h : Heap) : List (Addr × Obj) := fp.filterMap fun b => (h.get? b).map fun o => (b, o)
theorem mem_pinsAt {fp : List Addr} {h : Heap} {b : Addr} {o : Obj} (hb : b ∈ fp) (e : h.get? b = some o) : (b, o) ∈ pinsAt fp h := List.mem_filterMap.mpr ⟨b, hb, by rw [e]; rfl⟩
theorem of_pinsAt {fp : List Addr} {h : Heap} {p : Addr × Obj} (hp : p ∈ pinsAt fp h) : p.1 ∈ fp ∧ h.get? p.1 = some p.2 := by
  obtain ⟨b, hb, e⟩ := List.mem_filterMap.mp hp
  cases q : h.get? b with
  | none => rw [q] at e; cases e
  | some o =>
    rw [q] at e
    have e' : (b, o) = p := Option.some.inj e
    subst e'
    exact ⟨hb, q⟩
theorem Inv.pinned {pins : List (Addr × Obj)} {σ : St} {H : Hp} {s : Shared} {fp : List Addr} (I : Inv X pins σ H s) (hf : ∀ b ∈ fp, FpOk X pins H b) (ho : ∀ b ∈ fp, ∃ o, s.heap.get? b = some o ∧ ∀ v, o.data ≠ .cell v) : Inv X (pins ++ pinsAt fp s.heap) σ H s :=
  I.pins_of fun p hp => (List.mem_append.mp hp).elim (fun z => I.pin p (List.mem_append_right _ z)) fun z => by
    obtain ⟨hb, e⟩ := of_pinsAt z
    obtain ⟨f0, f1, f2, _⟩ := hf p.1 hb
    obtain ⟨o, e', d⟩ := ho p.1 hb
    rw [e] at e'; cases e'
    exact ⟨e, f0, f1, f2, d⟩
theorem Inv.unpinned {pins pl : List (Addr × Obj)} {σ : St} {H : Hp} {s : Shared} (I : Inv X (pins ++ pl) σ H s) : Inv X pins σ H s := I.pins_of fun p hp => I.pin p (List.mem_append_right _ (List.mem_append_left _ hp))
theorem ps_for {iter : Expr} {body : List Stmt} {wi : TI} {g : TG} {tb : TS} {pos : Pos} (hp : PassesOwn (model X.prog X.w) X.A X.env X.xe) (hc : X.calm = true) (hi : PI X tg iter wi) (hg : PG X tg g) (hb : PSs X body tb)
    (hs : ∀ x, foldedSetIterable iter X.env x = pure x := by intro _; rfl) : PS X (.For tg iter body [] pos) (tFor wi g tb) := by
  intro pins s σ H D I h
  refine wpAny_For (thn (hi pins s σ H _ I h) fun v s1 h1 => thn h1 fun itv s2 h2 => ?_) hs
  obtain ⟨it, fp, tn, J, H2, e, I2, T, st2, f2, W, ⟨m0, w0⟩, turn⟩ := h2
  subst e
  have stat : ∀ {H' : Hp}, (∀ b ∈ fp, H' b = none) → ∀ b ∈ fp, FpOk X pins H' b := fun hn b hb => ⟨hn b hb, (f2 b hb).2⟩
  refine codeAny_forLoop_any (fun n s' => ∃ i σ' H', Inv X pins σ' H' s' ∧ tn i s'.heap ∧ (∀ b ∈ fp, H' b = none) ∧ W i n σ' H') ?_ m0 ⟨0, σ, H2, I2, st2, fun b hb => (f2 b hb).1, w0⟩
  rintro n s3 ⟨i, σ3, H3, I3, st3, fr3, w3⟩
  rcases turn i n σ3 H3 w3 with ⟨stop, qn⟩ | ⟨go, N, hN, step⟩
  · refine wpAny_passesOwn hp (thn (T.done X rfl rfl rfl hc i pins s3 σ3 H3 X.xe I3 (stat fr3) st3 stop) fun r s4 ⟨hr, I4⟩ => ?_)
    subst hr
    exact wpAny_execs_nil ⟨σ3, H3, I4, qn⟩
  · refine wpAny_passesOwn hp (thn (T.item X rfl rfl rfl hc i pins s3 σ3 H3 X.xe I3 (stat fr3) st3 go) fun r s4 ⟨u, hr, h4⟩ => ?_)
    subst hr
    refine wpAny_passesOwn hp (thn h4 fun _ s5 ⟨x, H5, I5, r5, y5, st5, fr5⟩ => ?_)
    have I5' := I5.pinned (stat fr5) (T.obj _ _ st5)
    refine wpAny_passesOwn hp (thn (hg _ s5 σ3 H5 x u _ I5' r5 (step x H5 y5)) fun _ s6 ⟨σ6, H6, I6, q6⟩ => ?_)
    refine wpAny_passesOwn hp (thn (hb _ s6 σ6 H6 _ I6 q6) fun f s7 q7 => ?_)
    have again : ∀ {σ7 : St} {H7 : Hp}, Inv X (pins ++ pinsAt fp s5.heap) σ7 H7 s7 → N σ7 H7 → ∃ m, m < n ∧ ∃ i σ' H', Inv X pins σ' H' s7 ∧ tn i s7.heap ∧ (∀ b ∈ fp, H' b = none) ∧ W i m σ' H' := fun {σ7 H7} I7 n7 => by
      obtain ⟨m', hm, w7⟩ := hN σ7 H7 n7
      refine ⟨m', hm, i + 1, σ7, H7, I7.unpinned, T.keep _ _ _ st5 fun b hb o e => (I7.pin (b, o) (List.mem_append_right _ (List.mem_append_right _ (mem_pinsAt hb e)))).1, fun b hb => ?_, w7⟩
      obtain ⟨o, e, d⟩ := T.obj _ _ st5 b hb
      exact (I7.pin (b, o) (List.mem_append_right _ (List.mem_append_right _ (mem_pinsAt hb e)))).2.1
    cases f with
    | next => obtain ⟨σ7, H7, I7, n7⟩ := q7; exact again I7 n7
    | cont => obtain ⟨σ7, H7, I7, n7⟩ := q7; exact again I7 n7
    | brk => obtain ⟨σ7, H7, I7, q7⟩ := q7; exact ⟨σ7, H7, I7.unpinned, q7⟩
    | ret v => obtain ⟨x7, σ7, H7, I7, r7, q7⟩ := q7; exact ⟨x7, σ7, H7, I7.unpinned, r7, q7⟩
end
theorem for_list {K : PySem.W.Frag} {a : Addr} {xs : List V} {g : TG} {tb : TS} {D : Ends} {σ : St} {H : Hp} (Pv : Nat → St → Hp → Prop) (h0 : Pv 0 σ H) (hl : ∀ i σ H, i ≤ xs.length → Pv i σ H → SqL K H a xs)
    (hs : ∀ i x σ H, xs[i]? = some x → Pv i σ H → g x σ H fun σ2 H2 => tb { D with nx := Pv (i + 1), ct := Pv (i + 1), bk := D.nx } σ2 H2) (hd : ∀ σ H, Pv xs.length σ H → D.nx σ H) :
    ∃ W : Nat → Nat → St → Hp → Prop, (∃ m, W 0 m σ H) ∧ ∀ i m σ H, W i m σ H →
      ((Itl K a).stop i H ∧ D.nx σ H) ∨ ((Itl K a).go i H ∧ ∃ N : St → Hp → Prop, (∀ σ' H', N σ' H' → ∃ m', m' < m ∧ W (i + 1) m' σ' H') ∧ ∀ x H', (Itl K a).yld i H x H' → g x σ H' fun σ2 H2 => tb { D with nx := N, ct := N, bk := D.nx } σ2 H2) := by
  refine ⟨fun i m σ H => m = xs.length - i ∧ i ≤ xs.length ∧ Pv i σ H, ⟨xs.length, by simp, Nat.zero_le _, h0⟩, ?_⟩
  rintro i m σ H ⟨rfl, hi, p⟩
  have q := hl i σ H hi p
  by_cases hlt : i < xs.length
  · refine .inr ⟨⟨xs, xs[i], q, by simp [hlt]⟩, Pv (i + 1), fun σ' H' p' => ⟨xs.length - (i + 1), by omega, rfl, hlt, p'⟩, fun x H' y => ?_⟩
    obtain ⟨e, y⟩ := y
    subst e
    exact hs i x σ _ (y xs q) p
  · have e : i = xs.length := by omega
    subst e
    exact .inl ⟨⟨xs, q, Nat.le_refl _⟩, hd σ H p⟩
theorem for_range {lo : Int} {n : Nat} {g : TG} {tb : TS} {D : Ends} {σ : St} {H : Hp} (Pv : Nat → St → Hp → Prop) (h0 : Pv 0 σ H)
    (hs : ∀ i σ H, i < n → Pv i σ H → g (.int (lo + i)) σ H fun σ2 H2 => tb { D with nx := Pv (i + 1), ct := Pv (i + 1), bk := D.nx } σ2 H2) (hd : ∀ σ H, Pv n σ H → D.nx σ H) :
    ∃ W : Nat → Nat → St → Hp → Prop, (∃ m, W 0 m σ H) ∧ ∀ i m σ H, W i m σ H →
      ((Itr lo n).stop i H ∧ D.nx σ H) ∨ ((Itr lo n).go i H ∧ ∃ N : St → Hp → Prop, (∀ σ' H', N σ' H' → ∃ m', m' < m ∧ W (i + 1) m' σ' H') ∧ ∀ x H', (Itr lo n).yld i H x H' → g x σ H' fun σ2 H2 => tb { D with nx := N, ct := N, bk := D.nx } σ2 H2) := by
  refine ⟨fun i m σ H => m = n - i ∧ i ≤ n ∧ Pv i σ H, ⟨n, by simp, Nat.zero_le _, h0⟩, ?_⟩
  rintro i m σ H ⟨rfl, hi, p⟩
  by_cases hlt : i < n
  · refine .inr ⟨hlt, Pv (i + 1), fun σ' H' p' => ⟨n - (i + 1), by omega, rfl, hlt, p'⟩, fun x H' y => ?_⟩
    obtain ⟨e, y⟩ := y
    subst e y
    exact hs i σ _ hlt p
  · have e : i = n := by omega
    subst e
    exact .inl ⟨Nat.le_refl _, hd σ H p⟩
end L2
namespace L2
open PySem PySem.Spec PyProof.Rows
abbrev R2 := V → V → Hp → VK → Prop
def OpR (X : Cx) (f : Value → Value → Sem Value) (r : R2) : Prop :=
  ∀ (pins : List (Addr × Obj)) (s : Shared) (σ : St) (H : Hp) (x y : V) (v u : Value) (Q : VK), Inv X pins σ H s → RelV x v → RelV y u → r x y H Q →
    wpAny (model X.prog X.w) X.A (f v u) (EP X pins σ Q) X.xe s
def UnR (X : Cx) (f : Value → Sem Value) (r : V → Hp → VK → Prop) : Prop :=
  ∀ (pins : List (Addr × Obj)) (s : Shared) (σ : St) (H : Hp) (x : V) (v : Value) (Q : VK), Inv X pins σ H s → RelV x v → r x H Q →
    wpAny (model X.prog X.w) X.A (f v) (EP X pins σ Q) X.xe s
def CallR (X : Cx) (f : Value) (r : List V → Hp → VK → Prop) : Prop :=
  ∀ (pins : List (Addr × Obj)) (s : Shared) (σ : St) (H : Hp) (xs : List V) (us : List Value) (Q : VK), Inv X pins σ H s → Vals xs us → r xs H Q →
    wpAny (model X.prog X.w) X.A (call f us) (EP X pins σ Q) X.xe s
def TruR (X : Cx) (r : V → Hp → (Bool → Hp → Prop) → Prop) : Prop :=
  ∀ (pins : List (Addr × Obj)) (s : Shared) (σ : St) (H : Hp) (x : V) (v : Value) (Q : Bool → Hp → Prop), Inv X pins σ H s → RelV x v → r x H Q →
    wpAny (model X.prog X.w) X.A (truthy v) (TP X pins σ Q) X.xe s
def tOp (r : R2) (ta tb : TE) : TE := fun σ H Q => ta σ H fun x H1 => tb σ H1 fun y H2 => r x y H2 Q
def tUn (r : V → Hp → VK → Prop) (ta : TE) : TE := fun σ H Q => ta σ H fun x H1 => r x H1 Q
def rI (C : Int → Int → Prop) (g : Int → Int → V) : R2 := fun x y H Q => ∃ i j, x = .int i ∧ y = .int j ∧ C i j ∧ Q (g i j) H
def rI0 (g : Int → Int → V) : R2 := fun x y H Q => ∃ i j, x = .int i ∧ y = .int j ∧ Q (g i j) H
def rU (g : Int → V) : V → Hp → VK → Prop := fun x H Q => ∃ i, x = .int i ∧ Q (g i) H
section
variable {X : Cx} {a b c : Expr} {ta tb tc : TE} {pos : Pos}
theorem binT (ha : PE X a ta) (hb : PE X b tb) {pins : List (Addr × Obj)} {s : Shared} {σ : St} {H : Hp} {R : V → V → Hp → Prop} (I : Inv X pins σ H s)
    (h : ta σ H fun x H1 => tb σ H1 fun y H2 => R x y H2) {Q : Value → Shared → Prop} {f : Value → Value → Sem Value}
    (hf : ∀ v u s2 x y H2, Inv X pins σ H2 s2 → RelV x v → RelV y u → R x y H2 → wpAny (model X.prog X.w) X.A (f v u) Q X.xe s2) :
    wpAny (model X.prog X.w) X.A (eval a X.env) (fun v s₁ => wpAny (model X.prog X.w) X.A (eval b X.env) (fun u s₂ => wpAny (model X.prog X.w) X.A (f v u) Q X.xe s₂) X.xe s₁) X.xe s := by
  refine thn (ha pins s σ H _ I h) fun v s1 ⟨x, H1, I1, r1, q1⟩ => ?_
  refine thn (hb pins s1 σ H1 _ I1 q1) fun u s2 ⟨y, H2, I2, r2, q2⟩ => ?_
  exact hf v u s2 x y H2 I2 r1 r2 q2
theorem pe_op {op : Operator} {r : R2} (ho : OpR X (binaryOp op) r) (ha : PE X a ta) (hb : PE X b tb) : PE X (.BinOp a op b pos) (tOp r ta tb) := by
  intro pins s σ H Q I h
  exact wpAny_BinOp (binT ha hb I h fun v u s2 x y H2 I2 rx ry q => ho pins s2 σ H2 x y v u Q I2 rx ry q)
theorem pe_un {op : UnaryOp} {r : V → Hp → VK → Prop} (ho : UnR X (unaryOp op) r) (ha : PE X a ta) : PE X (.UnaryOp op a pos) (tUn r ta) := by
  intro pins s σ H Q I h
  exact UnaryOp_ (thn (ha pins s σ H _ I h) fun v s1 ⟨x, H1, I1, r1, q1⟩ => ho pins s1 σ H1 x v Q I1 r1 q1)
theorem opI {f : Value → Value → Sem Value} {C : Int → Int → Prop} {g : Int → Int → Int}
    (rule : ∀ (i j : Int) (t u : Tok) (s : Shared) (Q : Value → Shared → Prop) (E : Value → Shared → Prop), C i j → Q (.int (g i j) s.toks) { s with toks := s.toks + 1 } → wpAny (model X.prog X.w) X.A (f (.int i t) (.int j u)) Q E s) :
    OpR X f (rI C fun i j => .int (g i j)) := by
  intro pins s σ H x y v u Q I rx ry h
  obtain ⟨i, j, rfl, rfl, hc, q⟩ := h
  obtain ⟨t, rfl⟩ := rx
  obtain ⟨t', rfl⟩ := ry
  exact rule i j t t' s _ _ hc ⟨.int (g i j), H, I.tok _, ⟨_, rfl⟩, q⟩
theorem opI0 {f : Value → Value → Sem Value} {g : Int → Int → Int}
    (rule : ∀ (i j : Int) (t u : Tok) (s : Shared) (Q : Value → Shared → Prop) (E : Value → Shared → Prop), Q (.int (g i j) s.toks) { s with toks := s.toks + 1 } → wpAny (model X.prog X.w) X.A (f (.int i t) (.int j u)) Q E s) :
    OpR X f (rI0 fun i j => .int (g i j)) := by
  intro pins s σ H x y v u Q I rx ry h
  obtain ⟨i, j, rfl, rfl, q⟩ := h
  obtain ⟨t, rfl⟩ := rx
  obtain ⟨t', rfl⟩ := ry
  exact rule i j t t' s _ _ ⟨.int (g i j), H, I.tok _, ⟨_, rfl⟩, q⟩
theorem opB0 {f : Value → Value → Sem Value} {g : Int → Int → Bool}
    (rule : ∀ (i j : Int) (t u : Tok) (s : Shared) (Q : Value → Shared → Prop) (E : Value → Shared → Prop), Q (.bool (g i j)) s → wpAny (model X.prog X.w) X.A (f (.int i t) (.int j u)) Q E s) :
    OpR X f (rI0 fun i j => .bl (g i j)) := by
  intro pins s σ H x y v u Q I rx ry h
  obtain ⟨i, j, rfl, rfl, q⟩ := h
  obtain ⟨t, rfl⟩ := rx
  obtain ⟨t', rfl⟩ := ry
  exact rule i j t t' s _ _ ⟨.bl (g i j), H, I, rfl, q⟩
def CDiv (i j : Int) : Prop := 0 < j ∧ j < 1073741824
def CDivN (i j : Int) : Prop := j ≠ 0 ∧ j.natAbs < 1073741824
def CPow (i j : Int) : Prop := 0 ≤ j ∧ j ≤ 1000000 ∧ i.natAbs < 2 ^ 64
def CMul (i j : Int) : Prop := (-(2 ^ 64) < i ∧ i < 2 ^ 64) ∨ (-(2 ^ 64) < j ∧ j < 2 ^ 64)
theorem CMul.ok {i j : Int} (h : CMul i j) : IntMulOk i j := by
  rcases h with ⟨h1, h2⟩ | ⟨h1, h2⟩
  · exact .of_left (intBits_le_64 h1 h2)
  · exact .of_right (intBits_le_64 h1 h2)
theorem op_add : OpR X (binaryOp .Add) (rI0 fun i j => .int (i + j)) := opI0 fun _ _ _ _ _ _ _ q => add_int q
theorem op_sub : OpR X (binaryOp .Sub) (rI0 fun i j => .int (i - j)) := opI0 fun _ _ _ _ _ _ _ q => sub_int q
theorem op_mul : OpR X (binaryOp .Mult) (rI CMul fun i j => .int (i * j)) := opI fun _ _ _ _ _ _ _ hc q => mul_int q hc.ok
theorem op_fdiv : OpR X (binaryOp .FloorDiv) (rI CDiv fun i j => .int (i / j)) := opI fun i j _ _ _ _ _ hc q => by
  have h1 : (0 : Int) < j := hc.1
  have h2 : j < 1073741824 := hc.2
  exact floordiv_int (by omega) (by rw [Int.fdiv_eq_ediv_of_nonneg i (by omega)]; exact q) (.inl (PyProof.noPylong_small (by omega)))
theorem op_mod : OpR X (binaryOp .Mod) (rI (fun _ j => 0 < j) fun i j => .int (i % j)) := opI fun i j _ _ _ _ _ hc q => by
  have h1 : (0 : Int) < j := hc
  exact mod_int' (by omega) (by rw [Int.fmod_eq_emod_of_nonneg i (by omega)]; exact q)
theorem op_pow : OpR X (binaryOp .Pow) (rI CPow fun i j => .int (i ^ j.toNat)) := opI fun _ _ _ _ _ _ _ hc q => pow_int_small hc.1 hc.2.1 hc.2.2 q
theorem unI {f : Value → Sem Value} {g : Int → Int}
    (rule : ∀ (i : Int) (t : Tok) (s : Shared) (Q : Value → Shared → Prop) (E : Value → Shared → Prop), Q (.int (g i) s.toks) { s with toks := s.toks + 1 } → wpAny (model X.prog X.w) X.A (f (.int i t)) Q E s) :
    UnR X f (rU fun i => .int (g i)) := by
  intro pins s σ H x v Q I rx h
  obtain ⟨i, rfl, q⟩ := h
  obtain ⟨t, rfl⟩ := rx
  exact rule i t s _ _ ⟨.int (g i), H, I.tok _, ⟨_, rfl⟩, q⟩
theorem un_neg : UnR X (unaryOp .USub) (rU fun i => .int (-i)) := unI fun _ _ _ _ _ q => neg_int q
end
def scal : V → V → Bool
  | .non, .non => true | .non, .int _ => true | .int _, .non => true | .non, .bl _ => true | .bl _, .non => true | .non, .str _ => true | .str _, .non => true
  | .int _, .int _ => true | .bl _, .bl _ => true | .str _, .str _ => true | .byt _, .byt _ => true
  | .int _, .str _ => true | .str _, .int _ => true | .bl _, .str _ => true | .str _, .bl _ => true
  | _, _ => false
def rEq : R2 := fun x y H Q => scal x y = true ∧ Q (.bl (decide (x = y))) H
def rNe : R2 := fun x y H Q => scal x y = true ∧ Q (.bl (!decide (x = y))) H
theorem dec_int {i j : Int} : decide (V.int i = V.int j) = (i == j) := by
  rw [Bool.eq_iff_iff]
  simp
theorem dec_bl {i j : Bool} : decide (V.bl i = V.bl j) = (i == j) := by
  rw [Bool.eq_iff_iff]
  simp
theorem dec_str {i j : Str} : decide (V.str i = V.str j) = (i == j) := by
  rw [Bool.eq_iff_iff]
  simp
theorem dec_byt {i j : Array UInt8} : decide (V.byt i = V.byt j) = (i.toList == j.toList) := by
  rw [Bool.eq_iff_iff]
  cases i
  cases j
  simp
section
variable {X : Cx} {a b c : Expr} {ta tb tc : TE} {pos : Pos}
theorem fin_bl {pins : List (Addr × Obj)} {σ : St} {H : Hp} {s : Shared} {Q : VK} {k k' : Bool} (I : Inv X pins σ H s) (q : Q (.bl k) H) (e : k = k') : EP X pins σ Q (.bool k') s := by
  subst e
  exact ⟨.bl k, H, I, rfl, q⟩
theorem op_eq : OpR X (compareOp .Eq) rEq := by
  intro pins s σ H x y v u Q I rx ry h
  obtain ⟨hs, q⟩ := h
  cases x with
  | non =>
    cases rx
    cases y with
    | non => cases ry; exact PySem.EqNone.eq_none_none (fin_bl I q (by simp))
    | bl j => cases ry; exact PySem.EqNone.eq_none_bool (fin_bl I q (by simp))
    | int j => obtain ⟨t', rfl⟩ := ry; exact PySem.EqNone.eq_none_int (fin_bl I q (by simp))
    | str j => obtain ⟨t', rfl⟩ := ry; exact PySem.EqNone.eq_none_str (fin_bl I q (by simp))
    | _ => exact absurd (show false = true from hs) Bool.false_ne_true
  | bl i =>
    cases rx
    cases y with
    | non => cases ry; exact PySem.EqNone.eq_bool_none (fin_bl I q (by simp))
    | bl j => cases ry; exact eq_bool (fin_bl I q dec_bl)
    | str j => obtain ⟨t', rfl⟩ := ry; exact PySem.EqMixed.eq_bool_str (fin_bl I q (by simp))
    | _ => exact absurd (show false = true from hs) Bool.false_ne_true
  | int i =>
    obtain ⟨t, rfl⟩ := rx
    cases y with
    | non => cases ry; exact PySem.EqNone.eq_int_none (fin_bl I q (by simp))
    | int j => obtain ⟨t', rfl⟩ := ry; exact eq_int (fin_bl I q dec_int)
    | str j => obtain ⟨t', rfl⟩ := ry; exact PySem.EqMixed.eq_int_str (fin_bl I q (by simp))
    | _ => exact absurd (show false = true from hs) Bool.false_ne_true
  | str i =>
    obtain ⟨t, rfl⟩ := rx
    cases y with
    | non => cases ry; exact PySem.EqNone.eq_str_none (fin_bl I q (by simp))
    | bl j => cases ry; exact PySem.EqMixed.eq_str_bool (fin_bl I q (by simp))
    | int j => obtain ⟨t', rfl⟩ := ry; exact PySem.EqMixed.eq_str_int (fin_bl I q (by simp))
    | str j => obtain ⟨t', rfl⟩ := ry; exact eq_str (fin_bl I q dec_str)
    | _ => exact absurd (show false = true from hs) Bool.false_ne_true
  | byt i =>
    obtain ⟨t, rfl⟩ := rx
    cases y with
    | byt j => obtain ⟨t', rfl⟩ := ry; exact PySem.W.eq_bytes (fin_bl I q dec_byt)
    | _ => exact absurd (show false = true from hs) Bool.false_ne_true
  | _ => cases y <;> exact absurd (show false = true from hs) Bool.false_ne_true
theorem op_ne : OpR X (compareOp .NotEq) rNe := by
  intro pins s σ H x y v u Q I rx ry h
  obtain ⟨hs, q⟩ := h
  cases x with
  | non =>
    cases rx
    cases y with
    | non => cases ry; exact PySem.EqNone.ne_none_none (fin_bl I q (by simp))
    | bl j => cases ry; exact PySem.EqNone.ne_none_bool (fin_bl I q (by simp))
    | int j => obtain ⟨t', rfl⟩ := ry; exact PySem.EqNone.ne_none_int (fin_bl I q (by simp))
    | str j => obtain ⟨t', rfl⟩ := ry; exact PySem.EqNone.ne_none_str (fin_bl I q (by simp))
    | _ => exact absurd (show false = true from hs) Bool.false_ne_true
  | bl i =>
    cases rx
    cases y with
    | non => cases ry; exact PySem.EqNone.ne_bool_none (fin_bl I q (by simp))
    | bl j => cases ry; exact ne_bool (fin_bl I q (congrArg not dec_bl))
    | str j => obtain ⟨t', rfl⟩ := ry; exact PySem.EqMixed.ne_bool_str (fin_bl I q (by simp))
    | _ => exact absurd (show false = true from hs) Bool.false_ne_true
  | int i =>
    obtain ⟨t, rfl⟩ := rx
    cases y with
    | non => cases ry; exact PySem.EqNone.ne_int_none (fin_bl I q (by simp))
    | int j => obtain ⟨t', rfl⟩ := ry; exact ne_int (fin_bl I q (congrArg not dec_int))
    | str j => obtain ⟨t', rfl⟩ := ry; exact PySem.EqMixed.ne_int_str (fin_bl I q (by simp))
    | _ => exact absurd (show false = true from hs) Bool.false_ne_true
  | str i =>
    obtain ⟨t, rfl⟩ := rx
    cases y with
    | non => cases ry; exact PySem.EqNone.ne_str_none (fin_bl I q (by simp))
    | bl j => cases ry; exact PySem.EqMixed.ne_str_bool (fin_bl I q (by simp))
    | int j => obtain ⟨t', rfl⟩ := ry; exact PySem.EqMixed.ne_str_int (fin_bl I q (by simp))
    | str j => obtain ⟨t', rfl⟩ := ry; exact ne_str (fin_bl I q (congrArg not dec_str))
    | _ => exact absurd (show false = true from hs) Bool.false_ne_true
  | byt i =>
    obtain ⟨t, rfl⟩ := rx
    cases y with
    | byt j => obtain ⟨t', rfl⟩ := ry; exact PySem.W.ne_bytes (fin_bl I q (congrArg not dec_byt))
    | _ => exact absurd (show false = true from hs) Bool.false_ne_true
  | _ => cases y <;> exact absurd (show false = true from hs) Bool.false_ne_true
theorem op_lt : OpR X (compareOp .Lt) (rI0 fun i j => .bl (decide (i < j))) := opB0 fun _ _ _ _ _ _ _ q => lt_int q
theorem op_gt : OpR X (compareOp .Gt) (rI0 fun i j => .bl (decide (j < i))) := opB0 fun _ _ _ _ _ _ _ q => gt_int q
theorem op_isN : OpR X (compareOp .Is) (fun x y H Q => y = .non ∧ Q (.bl (decide (x = .non))) H) := by
  intro pins s σ H x y v u Q I rx ry h
  obtain ⟨rfl, q⟩ := h
  cases ry
  refine is_none_gen (fin_bl I q ?_)
  cases x <;> first
    | (cases rx; rfl)
    | (obtain ⟨t, rfl⟩ := rx; rfl)
def isObj : HO → Bool
  | .lst _ => true
  | .ins _ _ _ => true
  | _ => false
theorem OpR.or {f : Value → Value → Sem Value} {r r' : R2} (h : OpR X f r) (h' : OpR X f r') : OpR X f (fun x y H Q => r x y H Q ∨ r' x y H Q) := by
  intro pins s σ H x y v u Q I rx ry q
  rcases q with q | q
  · exact h pins s σ H x y v u Q I rx ry q
  · exact h' pins s σ H x y v u Q I rx ry q
theorem nomark (b : Expr) {op : CmpOp} (h : op ≠ .In := by decide) (h2 : op ≠ .NotIn := by decide) : behindInMarks op b = false := by
  have e1 : (op == CmpOp.In) = false := by cases op <;> first | rfl | exact absurd rfl h
  have e2 : (op == CmpOp.NotIn) = false := by cases op <;> first | rfl | exact absurd rfl h2
  cases b <;> simp [behindInMarks, e1, e2]
theorem pe_cmpR {op : CmpOp} {r : R2} (ho : OpR X (compareOp op) r) (ha : PE X a ta) (hb : PE X b tb) (hm : behindInMarks op b = false) : PE X (.Compare a [op] [b] pos) (tOp r ta tb) := by
  intro pins s σ H Q I h
  exact wpAny_Compare1 (binT ha hb I h fun v u s2 x y H2 I2 rx ry q => ho pins s2 σ H2 x y v u Q I2 rx ry q) hm
def tTest (t : TE) : TT := fun σ H Q => t σ H fun x H' => ∃ k, x = .bl k ∧ Q k H'
theorem pt_cmpR {op : CmpOp} {r : R2} (ho : OpR X (compareOp op) r) (ha : PE X a ta) (hb : PE X b tb) (hm : behindInMarks op b = false) : PT X (.Compare a [op] [b] pos) (tTest (tOp r ta tb)) := by
  intro pins s σ H Q I h
  refine wpAny_isTrue_Compare1 (thn (ha pins s σ H _ I h) fun v s1 ⟨x, H1, I1, r1, q1⟩ => thn (hb pins s1 σ H1 _ I1 q1) fun u s2 ⟨y, H2, I2, r2, q2⟩ =>
    thn (ho pins s2 σ H2 x y v u _ I2 r1 r2 q2) fun c s3 ⟨z, H3, I3, r3, k, e, q3⟩ => ?_) hm
  subst e
  cases r3
  exact wpAny_truthy_bool ⟨H3, I3, q3⟩
def tChain (r r' : R2) (ta tb tc : TE) : TE := fun σ H Q => ta σ H fun x H1 => tb σ H1 fun y H2 => r x y H2 fun z H3 => ∃ k, z = .bl k ∧
  (if k = true then tc σ H3 fun w' H4 => r' y w' H4 Q else Q (.bl false) H3)
def TruV (K : PySem.W.Frag) (x : V) (H : Hp) (k : Bool) : Prop :=
  match x with
  | .non => k = false
  | .bl b => k = b
  | .int i => k = (i != 0)
  | .str y => y.length ≤ sizeLine ∧ k = ((y.length : Int) != 0)
  | .byt y => y.size ≤ sizeLine ∧ k = ((y.size : Int) != 0)
  | .ref p => (∃ xs, SqL K H p xs ∧ k = !xs.isEmpty) ∨ (∃ xs, SqT K H p xs ∧ k = !xs.isEmpty) ∨ ∃ kvs, H p = some (.dK kvs) ∧ k = !kvs.isEmpty
  | _ => False
theorem isEmpty_kv {κ : Type} {kvs : List (κ × V)} {vs : List (κ × Value)} (r : KV kvs vs) : (!vs.isEmpty) = !kvs.isEmpty := by
  cases r <;> rfl
theorem isEmpty_of {xs : List V} {its : List Value} (r : Vals xs its) : (!its.toArray.isEmpty) = !xs.isEmpty := by
  cases r <;> simp
theorem line63 : (sizeLine : Nat) < 2 ^ 63 := by rw [sizeLine_eq]; decide
theorem tru_ok : TruR X (fun x H Q => ∃ k, TruV X.K x H k ∧ Q k H) := by
  intro pins s σ H x v Q I rx h
  obtain ⟨k, e, q⟩ := h
  have hl := line63
  have hs : sizeLine = 16777216 := sizeLine_eq
  cases x with
  | non =>
    cases rx
    have e' : k = false := e
    subst e'
    exact truthy_none ⟨H, I, q⟩
  | bl b =>
    cases rx
    have e' : k = b := e
    subst e'
    exact wpAny_truthy_bool ⟨H, I, q⟩
  | int i =>
    obtain ⟨t, rfl⟩ := rx
    have e' : k = (i != 0) := e
    subst e'
    exact PySem.P.truthy_int ⟨H, I, q⟩
  | str y =>
    obtain ⟨t, rfl⟩ := rx
    obtain ⟨hy, e'⟩ : y.length ≤ sizeLine ∧ k = ((y.length : Int) != 0) := e
    subst e'
    exact PySem.P.truthy_str (by omega) ⟨H, I.tok _, q⟩
  | byt y =>
    obtain ⟨t, rfl⟩ := rx
    obtain ⟨hy, e'⟩ : y.size ≤ sizeLine ∧ k = ((y.size : Int) != 0) := e
    subst e'
    exact PySem.W.truthy_bytes (by omega) ⟨H, I.tok _, q⟩
  | ref p =>
    cases rx
    have e' : (∃ xs, SqL X.K H p xs ∧ k = !xs.isEmpty) ∨ (∃ xs, SqT X.K H p xs ∧ k = !xs.isEmpty) ∨ ∃ kvs, H p = some (.dK kvs) ∧ k = !kvs.isEmpty := e
    rcases e' with ⟨xs, hx, e'⟩ | ⟨xs, hx, e'⟩ | ⟨kvs, hx, e'⟩
    · subst e'
      obtain ⟨its, r, pl, hz⟩ := I.list hx
      have hlen := r.length
      exact wpAny_truthy_list pl.isList (by simp only [List.size_toArray]; omega) ⟨H, I.tok _, by rw [isEmpty_of r]; exact q⟩
    · subst e'
      obtain ⟨its, r, pl, hz⟩ := I.tuple hx
      have hlen := r.length
      exact truthy_tuple pl (by simp only [List.size_toArray]; omega) ⟨H, I.tok _, by rw [isEmpty_of r]; exact q⟩
    · subst e'
      obtain ⟨hz, hS, vs, r, m⟩ : kvs.length ≤ sizeLine ∧ (p == sysModules) = false ∧ ∃ vs, KV kvs vs ∧ s.heap.DictOf (mixKind X.prog X.w) p vs := I.hok p _ hx
      have hlen : kvs.length = vs.length := Paired.length r
      exact wpAny_truthy_dict hS m (by omega) ⟨H, I.tok _, by rw [isEmpty_kv r]; exact q⟩
  | _ => exact (show False from e).elim
theorem pt_truth (ha : PE X a ta) (he : ∀ whole, isTrue a X.env whole = (do let v ← whole; standAt a.pos; holding [v] (truthy v))) :
    PT X a (fun σ H Q => ta σ H fun x H' => ∃ k, TruV X.K x H' k ∧ Q k H') := by
  intro pins s σ H Q I h
  exact isTrue_plain (thn (ha pins s σ H _ I h) fun v s1 ⟨x, H1, I1, r1, q1⟩ => tru_ok pins s1 σ H1 x v Q I1 r1 q1) (he _)
theorem op_add_str : OpR X (binaryOp .Add) (fun x y H Q => ∃ i j, x = .str i ∧ y = .str j ∧ i.length + j.length ≤ sizeLine ∧ Q (.str (i ++ j)) H) := by
  intro pins s σ H x y v u Q I rx ry h
  obtain ⟨i, j, rfl, rfl, hz, q⟩ := h
  obtain ⟨t, rfl⟩ := rx
  obtain ⟨t', rfl⟩ := ry
  exact add_str (fun t' tk => ⟨.str (i ++ j), H, I.tok _, ⟨_, rfl⟩, q⟩) hz
def PlainIxT (b : Expr) : Prop := ∀ o i, subscripted b false o i = operate [o, i] (getItem o i)
theorem vals1 {x : V} {us : List Value} (r : Vals [x] us) : ∃ u, us = [u] ∧ RelV x u := by
  cases r with
  | cons r1 r2 => cases r2; exact ⟨_, rfl, r1⟩
def LenV (K : PySem.W.Frag) (x : V) (H : Hp) (n : Nat) : Prop :=
  match x with
  | .str y => y.length ≤ sizeLine ∧ n = y.length
  | .byt y => y.size ≤ sizeLine ∧ n = y.size
  | .ref p => (∃ xs, SqL K H p xs ∧ n = xs.length) ∨ ∃ xs, SqT K H p xs ∧ n = xs.length
  | _ => False
end
end L2
namespace L2
open PySem PySem.Spec PyProof.Rows
structure ObjM (h : Heap) (x dx C : Addr) (mA : Str → Option Value) : Prop where
  obj : h.get? x = some (PySem.W.instObj C dx)
  ns : h.Ns1 dx mA
  ne : dx ≠ x
theorem lookIn_ns {h : Heap} {dx : Addr} {mA : Str → Option Value} (n : h.Ns1 dx mA) : ∃ od, h.get? dx = some od ∧ ∀ name, PySem.W.lookIn name od = some (mA name) := by
  obtain ⟨o, es, ep, ho, hd, hk, _, hm⟩ := n
  refine ⟨o, ho, fun name => ?_⟩
  have e := hm name
  unfold nsFind findBy at e
  rw [← Array.find?_toList] at e
  unfold PySem.W.lookIn
  rw [hd]
  dsimp only
  split
  · rename_i y q
    rw [q] at e
    exact congrArg some e
  · rename_i q
    rw [q] at e
    have a : es.toList.any (·.refKey) = false := by
      rw [List.any_eq_false]
      intro y hy
      obtain ⟨z, t, hkey⟩ := hk y (Array.mem_toList_iff.mp hy)
      simp [DictEntry.refKey, hkey]
    have a' : ¬ es.toList.any (·.refKey) = true := by rw [a]; exact Bool.false_ne_true
    rw [if_neg a']
    exact congrArg some e
theorem ObjM.look {h : Heap} {x dx C : Addr} {mA : Str → Option Value} (I : ObjM h x dx C mA) : ∃ od, PySem.W.InstAt h x (PySem.W.instObj C dx) C (some od) ∧ ∀ name, PySem.W.lookIn name od = some (mA name) :=
  let ⟨od, ho, hl⟩ := lookIn_ns I.ns
  ⟨od, ⟨I.obj, rfl, rfl, ho⟩, hl⟩
section
variable {prog : Program} {w : World} {A : Around} {E : Value → Shared → Prop} {s : Shared} {K : PySem.W.Frag} {x dx C f : Addr} {mA : Str → Option Value} {name : Str} {v : Value}
end
def putF (f : Str) (v : V) : List (Str × V) → List (Str × V)
  | [] => [(f, v)]
  | (g, x) :: r => if g = f then (g, v) :: r else (g, x) :: putF f v r
theorem RelO.some_of {v : V} {o : Option Value} (r : RelO (some v) o) : ∃ u, o = some u ∧ RelV v u := by
  cases o with
  | none => exact (show False from r).elim
  | some u => exact ⟨u, rfl, r⟩
theorem RelO.none_of {o : Option Value} (r : RelO none o) : o = none := by
  cases o with
  | none => rfl
  | some u => exact (show False from r).elim
section
variable {P : Program} {w : World} {H H' : Hp} {h h' : Heap} {a C dx : Addr} {fs fs' : List (Str × V)}
theorem ins_get (hok : HOk P w H h) (e : H a = some (.ins C dx fs)) : ∃ mA, ObjM h a dx C mA ∧ (∀ f, RelO (fs.lookup f) (mA f)) ∧ PySem.Within mA (fs.map (·.1)) ∧ fs.length ≤ 1000 ∧ H dx = some (.own a) := by
  obtain ⟨d, z, ne, ob, mA, n, r, q⟩ := (show ObjOk P w H h a (.ins C dx fs) from hok a _ e)
  exact ⟨mA, ⟨ob, n, ne⟩, r, q, z, d⟩
end
structure Cls (K : PySem.W.Frag) (C : Addr) : Prop where
  pg : PySem.W.plainGet K C Str.empty = true
  hd : PySem.W.hasDictIn K C = true
  po : PySem.W.plainOver K C = true
  sa : PySem.W.findIn K (.ref C) "__setattr__" = some (some (.builtin "object.__setattr__"))
theorem Cls.get {K : PySem.W.Frag} {C : Addr} (c : Cls K C) (f : Str) : PySem.W.plainGet K C f = true := c.pg
def NoAttr (K : PySem.W.Frag) (C : Addr) (f : Str) : Prop := PySem.W.findIn K (.ref C) f = some none
structure Con (K : PySem.W.Frag) (C : Addr) (f : Str) (v : V) (u : Value) : Prop where
  at_ : PySem.W.findIn K (.ref C) f = some (some u)
  rel : RelV v u
  get : PySem.W.specialIn K u "__get__" = some none
  cp : PySem.W.copiedNames.contains f = false
structure Meth (K : PySem.W.Frag) (C : Addr) (m : Str) (f : Addr) : Prop where
  at_ : PySem.W.findIn K (.ref C) m = some (some (.ref f))
  fn : PySem.W.isFn K (.ref f) = true
  kp : PySem.W.keepIn K (.ref f) = true
section
variable {X : Cx} {pins : List (Addr × Obj)} {σ : St} {H : Hp} {s : Shared} {a C dx : Addr} {fs : List (Str × V)} {f : Str} {v : V} {A : Around} {E : Value → Shared → Prop}
theorem Inv.made (I : Inv X pins σ H s) : Inv X pins σ (upd (upd H s.heap.objs.size (.own (s.heap.objs.size + 1))) (s.heap.objs.size + 1) (.ins C s.heap.objs.size []))
    { s with heap := (s.heap.push PySem.W.emptyDict).push (PySem.W.instObj C s.heap.objs.size) } := by
  have e1 : (s.heap.push PySem.W.emptyDict).get? s.heap.objs.size = some PySem.W.emptyDict := Heap.get?_push_size s.heap rfl
  have e2 : ((s.heap.push PySem.W.emptyDict).push (PySem.W.instObj C s.heap.objs.size)).get? (s.heap.objs.size + 1) = some (PySem.W.instObj C s.heap.objs.size) := by
    have := Heap.get?_push_size (s.heap.push PySem.W.emptyDict) (o := PySem.W.instObj C s.heap.objs.size) rfl
    rwa [Heap.size_push] at this
  have e3 : (s.heap.push PySem.W.emptyDict).Ns s.heap.objs.size (fun _ => none) := ⟨PySem.W.emptyDict, #[], _, e1, rfl, (fun e he => absurd he (by simp)), fun _ => rfl⟩
  have I1 := I.laid (a := s.heap.objs.size) (o := .own (s.heap.objs.size + 1)) (h' := s.heap.push PySem.W.emptyDict) (t' := s.toks) (fun b u q => Heap.get?_push_of_some _ q) (Nat.le_refl _) ⟨_, e1⟩
  refine I1.laid (a := s.heap.objs.size + 1) (o := .ins C s.heap.objs.size []) (t' := s.toks) (fun b u q => Heap.get?_push_of_some _ q) (Nat.le_of_eq (Heap.size_push _ _)) ?_
  have ne : s.heap.objs.size ≠ s.heap.objs.size + 1 := Nat.ne_of_lt (Nat.lt_succ_self _)
  refine ⟨by rw [upd_ne ne, upd_same], Nat.zero_le _, ne, e2, fun _ => none, (Heap.Ns1.of_empty e3).at fun o q => Heap.get?_push_of_some _ q, fun _ => True.intro, fun y hy => absurd rfl hy⟩
end
def tFld (K : PySem.W.Frag) (ta : TE) (f : Str) : TE := fun σ H Q => ta σ H fun x H1 => ∃ a C dx fs v, x = .ref a ∧ H1 a = some (.ins C dx fs) ∧ Cls K C ∧ NoAttr K C f ∧ fs.lookup f = some v ∧ Q v H1
def tCon (K : PySem.W.Frag) (ta : TE) (f : Str) : TE := fun σ H Q => ta σ H fun x H1 => ∃ a C dx fs v u, x = .ref a ∧ H1 a = some (.ins C dx fs) ∧ Cls K C ∧ Con K C f v u ∧ fs.lookup f = none ∧ Q v H1
def sFld (K : PySem.W.Frag) (ta tv : TE) (f : Str) : TS := fun D σ H => tv σ H fun y H1 => ta σ H1 fun x H2 => ∃ a C dx fs, x = .ref a ∧ H2 a = some (.ins C dx fs) ∧ Cls K C ∧ NoAttr K C f ∧ fs.length < 1000 ∧
  D.nx σ (upd H2 a (.ins C dx (putF f y fs)))
def InOp (X : Cx) (op : Operator) (rd : V → V → Hp → VK → Prop) : Prop :=
  ∀ (pins : List (Addr × Obj)) (s : Shared) (σ : St) (H : Hp) (x y : V) (u v : Value) (Q : VK), Inv X pins σ H s → RelV x u → RelV y v → rd x y H Q → wpAny (model X.prog X.w) X.A (inplaceOp op u v) (EP X pins σ Q) X.xe s
def sFldAug (K : PySem.W.Frag) (ta tv : TE) (rd : V → V → Hp → VK → Prop) (f : Str) : TS := fun D σ H => ta σ H fun x H1 => ∃ a C dx fs v, x = .ref a ∧ H1 a = some (.ins C dx fs) ∧ Cls K C ∧ NoAttr K C f ∧ fs.lookup f = some v ∧
  tv σ H1 fun y H2 => rd v y H2 fun z H3 => ∃ dx' fs', H3 a = some (.ins C dx' fs') ∧ fs'.length < 1000 ∧ D.nx σ (upd H3 a (.ins C dx' (putF f z fs')))
section
variable {X : Cx} {o e value : Expr} {f : Str} {pos pos' tpos : Pos} {ta tv : TE}
def rAdd : V → V → Hp → VK → Prop := fun x y H Q => ∃ i j, x = .int i ∧ y = .int j ∧ Q (.int (i + j)) H
def rSub : V → V → Hp → VK → Prop := fun x y H Q => ∃ i j, x = .int i ∧ y = .int j ∧ Q (.int (i - j)) H
end
section
variable {X : Cx} {pins : List (Addr × Obj)} {σ : St} {H : Hp} {s : Shared} {A : Around} {E : Value → Shared → Prop} {Q : Value → Shared → Prop} {c : Value} {b : Bool}
inductive TyOf (K : PySem.W.Frag) (H : Hp) : V → Value → Prop where
  | non : TyOf K H .non (.type "NoneType")
  | bl (x : Bool) : TyOf K H (.bl x) (.type "bool")
  | int (i : Int) : TyOf K H (.int i) (.type "int")
  | str (x : Str) : TyOf K H (.str x) (.type "str")
  | flt (x : UInt64) : TyOf K H (.flt x) (.type "float")
  | lst {a : Addr} {xs : List V} (e : H a = some (.lst xs)) : TyOf K H (.ref a) (.type "list")
  | frz {a : Addr} {o : Obj} {xs : List V} (e : H a = some (.frz o (.lst xs))) : TyOf K H (.ref a) (.type "list")
  | tup {a : Addr} {xs : List V} (e : H a = some (.tup xs)) : TyOf K H (.ref a) (.type "tuple")
  | dK {a : Addr} {kvs : List (Key × V)} (e : H a = some (.dK kvs)) : TyOf K H (.ref a) (.type "dict")
  | dT {a : Addr} {kvs : List (List Key × V)} (e : H a = some (.dT kvs)) : TyOf K H (.ref a) (.type "dict")
  | ins {a C dx : Addr} {fs : List (Str × V)} (e : H a = some (.ins C dx fs)) (cl : Cls K C) (ha : PySem.W.findIn K (.ref C) "__class__" = some (some (.builtin "object.__class__")))
      (hn : PySem.W.specialIn K (.builtin "object.__class__") "__get__" = some (some (.builtin "getset_descriptor.__get__"))) (htk : PySem.W.takesIn K (.builtin "object.__class__") = some true)
      (hm : PySem.W.mroIn K C (.type "object") = some true) : TyOf K H (.ref a) (.ref C)
theorem isinst_ok {x : V} {u t : Value} (I : Inv X pins σ H s) (rx : RelV x u) (ty : TyOf X.K H x t) (e : PySem.W.kitOne X.K t c = some b) (h : ∀ tk, Q (.bool b) { s with toks := tk }) :
    wpAny (model X.prog X.w) A (call (.builtin "isinstance") [u, c]) Q E s := by
  cases ty with
  | non => cases (show u = Value.none from rx); exact PySem.W.kia_one PySem.W.kitx_none I.kIn True.intro e (fun z => nomatch z) h
  | bl y => cases (show u = Value.bool y from rx); exact PySem.W.kia_one PySem.W.kitx_bool I.kIn True.intro e (fun z => nomatch z) h
  | int i => obtain ⟨t, q⟩ := (show ∃ t, u = Value.int i t from rx); cases q; exact PySem.W.kia_one PySem.W.kitx_int I.kIn True.intro e (fun z => nomatch z) h
  | str y => obtain ⟨t, q⟩ := (show ∃ t, u = Value.str y t from rx); cases q; exact PySem.W.kia_one PySem.W.kitx_str I.kIn True.intro e (fun z => nomatch z) h
  | flt y => obtain ⟨t, q⟩ := (show ∃ t, u = Value.float y t from rx); cases q; exact PySem.W.kia_one PySem.W.kitx_float I.kIn True.intro e (fun z => nomatch z) h
  | @lst a xs ea =>
    cases (show u = Value.ref a from rx)
    obtain ⟨_, _, n, _, h1⟩ := (show ObjOk X.prog X.w H s.heap a (.lst xs) from I.hok a _ ea)
    exact PySem.W.kia_one PySem.W.kitx_list I.kIn ⟨_, h1, rfl⟩ e (fun z => nomatch z) h
  | @frz a ob xs ea =>
    cases (show u = Value.ref a from rx)
    obtain ⟨_, _, _, n, _, h1⟩ := (show ObjOk X.prog X.w H s.heap a (.frz ob (.lst xs)) from I.hok a _ ea)
    exact PySem.W.kia_one PySem.W.kitx_list I.kIn ⟨_, h1, rfl⟩ e (fun z => nomatch z) h
  | @tup a xs ea =>
    cases (show u = Value.ref a from rx)
    obtain ⟨_, _, _, p⟩ := (show ObjOk X.prog X.w H s.heap a (.tup xs) from I.hok a _ ea)
    obtain ⟨o, h1, h2, _⟩ := p
    exact PySem.W.kia_one PySem.W.kitx_tuple I.kIn ⟨o, h1, h2⟩ e (fun z => nomatch z) h
  | @dK a kvs ea =>
    cases (show u = Value.ref a from rx)
    obtain ⟨_, _, vs, _, p⟩ := (show ObjOk X.prog X.w H s.heap a (.dK kvs) from I.hok a _ ea)
    obtain ⟨o, es, ep, h1, h2, _⟩ := p
    exact PySem.W.kia_one PySem.W.kitx_dict I.kIn ⟨o, h1, h2.1⟩ e (fun z => nomatch z) h
  | @dT a kvs ea =>
    cases (show u = Value.ref a from rx)
    obtain ⟨_, _, xs, _, o, es, ep, h1, h2, _⟩ := (show ObjOk X.prog X.w H s.heap a (.dT kvs) from I.hok a _ ea)
    exact PySem.W.kia_one PySem.W.kitx_dict I.kIn ⟨o, h1, h2.1⟩ e (fun z => nomatch z) h
  | @ins a C dx fs ea cl ha hn htk hm =>
    cases (show u = Value.ref a from rx)
    obtain ⟨mA, O, _⟩ := ins_get I.hok ea
    obtain ⟨od, J, _⟩ := O.look
    exact PySem.W.kia_one (PySem.W.kitx_own (cl.get _) cl.hd ha hn htk hm) I.kIn J e (fun z => nomatch z) h
end
end L2
namespace L2
open PySem PySem.Spec PyProof.Rows
structure Room (k : Nat) (A : Around) : Prop where
  hd : A.handled = none
  dp : A.depth + 3 * k + 5 < recursionLimit
  un : A.units + 16 * k + 200 < cLine
theorem Room.mono {j k : Nat} {A : Around} (r : Room k A) (h : j ≤ k) : Room j A := ⟨r.hd, by have := r.dp; omega, by have := r.un; omega⟩
theorem Room.deeper {k : Nat} {A : Around} (r : Room (k + 1) A) (env : Env) : Room k (A.deeper env) :=
  ⟨r.hd, by have := r.dp; show A.depth + 1 + 3 * k + 5 < _; omega, by have := r.un; show A.units + 3 + 16 * k + 200 < _; omega⟩
theorem Room.in1 {k : Nat} {A : Around} (r : Room (k + 1) A) : Room k A.in1 :=
  ⟨r.hd, by have := r.dp; show A.depth + 3 * k + 5 < _; omega, by have := r.un; show A.units + 1 + 16 * k + 200 < _; omega⟩
theorem make_depth {A : Around} {C : Addr} {us : List Value} {kw : List (Str × Value)} : (A.under (.builtin "type.__call__" ⟨.ref C :: us, kw⟩)).depth = A.depth + 1 := by
  first | rfl | simp [Around.under, Code.weight, Code.isCreation, Code.isGuard, Code.isCaller, Code.frames, Code.isFrame, guardIds]
theorem make_units {A : Around} {C : Addr} {us : List Value} {kw : List (Str × Value)} : (A.under (.builtin "type.__call__" ⟨.ref C :: us, kw⟩)).units = A.units + 1 := by
  first | rfl | simp [Around.under, Code.cUnits, Code.frames, Code.isFrame]
theorem Room.make {k : Nat} {A : Around} (r : Room (k + 1) A) (C : Addr) (us : List Value) (kw : List (Str × Value)) : Room k (A.under (.builtin "type.__call__" ⟨.ref C :: us, kw⟩)) :=
  ⟨r.hd, by have := r.dp; rw [make_depth]; omega, by have := r.un; rw [make_units]; omega⟩
theorem Room.depth {k : Nat} {A : Around} (r : Room k A) : A.depth < recursionLimit := by have := r.dp; omega
theorem Room.units {k : Nat} {A : Around} (r : Room k A) : A.units + 64 < cLine := by have := r.un; omega
def tNil : TA := fun _ H Q => Q [] H
def tCons (ta : TE) (tr : TA) : TA := fun σ H Q => ta σ H fun x H1 => tr σ H1 fun xs H2 => Q (x :: xs) H2
section
variable {X : Cx} {e : Expr} {es : List Expr} {te : TE} {t : TA} {pos : Pos}
theorem pa_nil : PA X [] tNil := fun _ _ _ _ H Q I h => Calls.spliced_nil ⟨[], H, I, .nil, h⟩
theorem pa_cons (ha : PE X e te) (hr : PA X es t) (hs : starEach (e :: es) X.env = (false, eval e X.env) :: starEach es X.env := by rfl) : PA X (e :: es) (tCons te t) := by
  intro pos pins s σ H Q I h
  rw [hs]
  show wpAny _ _ (spliced ((false, eval e X.env) :: backTo pos (starEach es X.env))) _ _ s
  refine Calls.spliced_cons (thn (ha pins s σ H _ I h) fun u s1 ⟨x, H1, I1, r1, q1⟩ => ?_)
  exact thn (hr pos pins s1 σ H1 _ I1 q1) fun us s2 ⟨xs, H2, I2, r2, q2⟩ => ⟨x :: xs, H2, I2, .cons r1 r2, q2⟩
def tTup (t : TA) : TE := fun σ H Q => t σ H fun xs H1 => xs.length ≤ sizeLine ∧ ∀ p, H1 p = none → Q (.ref p) (upd H1 p (.tup xs))
def tLst (t : TA) : TE := fun σ H Q => t σ H fun xs H1 => xs.length ≤ sizeLine ∧ ∀ p, H1 p = none → Q (.ref p) (upd H1 p (.lst xs))
theorem pe_tup {x1} (h : PA X es t) : PE X (.Tuple es x1 pos) (tTup t) := by
  intro pins s σ H Q I hq
  refine wpAny_Tuple_spliced (thn (h pos pins s σ H _ I hq) fun us s1 ⟨xs, H1, I1, r, z, q⟩ => ⟨by rw [← r.length]; exact z, ?_⟩)
  have hf : H1 s1.heap.objs.size = none := I1.hok.fresh (Nat.le_refl _)
  refine ⟨.ref s1.heap.objs.size, upd H1 s1.heap.objs.size (.tup xs), I1.laid (t' := s1.toks) (fun b u e => Heap.get?_push_of_some _ e) (Nat.le_refl _) ?_, rfl, q _ hf⟩
  exact ⟨z, us, r, ⟨_, Heap.get?_push_size _ rfl, rfl, _, rfl⟩⟩
theorem pe_lst (h : PA X es t) : PE X (.List es pos) (tLst t) := by
  intro pins s σ H Q I hq
  refine wpAny_List_spliced (thn (h pos pins s σ H _ I hq) fun us s1 ⟨xs, H1, I1, r, z, q⟩ => ⟨by rw [← r.length]; exact z, ?_⟩)
  have hf : H1 s1.heap.objs.size = none := I1.hok.fresh (Nat.le_refl _)
  refine ⟨.ref s1.heap.objs.size, upd H1 s1.heap.objs.size (.lst xs), I1.laid (t' := s1.toks) (fun b u e => Heap.get?_push_of_some _ e) (Nat.le_refl _) ?_, rfl, q _ hf⟩
  exact ⟨z, us, 0, r, Heap.get?_push_size _ rfl⟩
end
abbrev Sp := List V → Hp → VK → XK → Prop
abbrev CXT := List Env → Hp → Shared → XK → Value → Shared → Prop
structure Env0 (P : Program) (w : World) (K : PySem.W.Frag) (mg : Str → Option Value) (base : Heap) (A : Around) (outer : List Env) (s : Shared) (H : Hp) : Prop where
  frames : A.frames = some outer
  mod : Mod K mg base
  bs : ∀ b o, base.get? b = some o → s.heap.get? b = some o ∧ H b = none
  bsz : base.objs.size ≤ s.heap.objs.size
  funs : s.heap.FunFrames base outer
  frf : ∀ b ∈ frs outer, H b = none
  hok : HOk P w H s.heap
  bare : AllBare s.gens
def CE (outer : List Env) (P : Program) (w : World) (H : Hp) (s : Shared) (Q : VK) (u : Value) (s' : Shared) : Prop :=
  ∃ v H', s'.os = s.os ∧ AllBare s'.gens ∧ Un (frs outer) [] H H' s.heap s'.heap ∧ HOk P w H' s'.heap ∧ RelV v u ∧ Q v H'
def CR (CX : CXT) (outer : List Env) (P : Program) (w : World) (H : Hp) (s : Shared) (Q : VK) (E : XK) (r : Result) (s' : Shared) : Prop :=
  match r with
  | .ok (.ret u) => CE outer P w H s Q u s'
  | .ok _ => False
  | .error e => CX outer H s E e s'
structure FnOk (P : Program) (w : World) (K : PySem.W.Frag) (mg : Str → Option Value) (base : Heap) (CX : CXT) (k : Nat) (f : Addr) (fd : FuncData) (ps : List Str) (sp : Sp) : Prop where
  len : ∀ vs H Q E, sp vs H Q E → vs.length = ps.length
  run : ∀ (A : Around) (outer : List Env) (s : Shared) (H : Hp) (args : Args) (us : List Value) (vs : List V) (Q : VK) (E : XK), Room k A → Env0 P w K mg base A outer s H → BindsTo s fd args (ps.zip us) → Vals vs us → sp vs H Q E →
    codeAny (model P w) A (.call (.ref f) args) (CR CX outer P w H s Q E) s
theorem FnOk.mono {P : Program} {w : World} {K : PySem.W.Frag} {mg : Str → Option Value} {base : Heap} {CX : CXT} {j k : Nat} {f : Addr} {fd : FuncData} {ps : List Str} {sp : Sp} (F : FnOk P w K mg base CX j f fd ps sp) (h : j ≤ k) :
    FnOk P w K mg base CX k f fd ps sp := ⟨F.len, fun A outer s H args us vs Q E hr => F.run A outer s H args us vs Q E (hr.mono h)⟩
theorem FnOk.imp {P : Program} {w : World} {K : PySem.W.Frag} {mg : Str → Option Value} {base : Heap} {CX : CXT} {k : Nat} {f : Addr} {fd : FuncData} {ps : List Str} {sp sp' : Sp} (F : FnOk P w K mg base CX k f fd ps sp)
    (h : ∀ vs H Q E, sp' vs H Q E → sp vs H Q E) : FnOk P w K mg base CX k f fd ps sp' :=
  ⟨fun vs H Q E q => F.len vs H Q E (h _ _ _ _ q), fun A outer s H args us vs Q E hr he hb hv hs => F.run A outer s H args us vs Q E hr he hb hv (h _ _ _ _ hs)⟩
theorem Env0.make {P : Program} {w : World} {K : PySem.W.Frag} {mg : Str → Option Value} {base : Heap} {A : Around} {outer : List Env} {s : Shared} {H : Hp} (e : Env0 P w K mg base A outer s H) (C : Addr) (us : List Value) (kw : List (Str × Value)) :
    Env0 P w K mg base (A.under (.builtin "type.__call__" ⟨.ref C :: us, kw⟩)) outer s H := ⟨by first | exact e.frames | (simpa [Around.under, Code.envs, Code.isFrame, pushEnvs] using e.frames), e.mod, e.bs, e.bsz, e.funs, e.frf, e.hok, e.bare⟩
theorem Env0.in1 {P : Program} {w : World} {K : PySem.W.Frag} {mg : Str → Option Value} {base : Heap} {A : Around} {outer : List Env} {s : Shared} {H : Hp} (e : Env0 P w K mg base A outer s H) :
    Env0 P w K mg base A.in1 outer s H := ⟨e.frames, e.mod, e.bs, e.bsz, e.funs, e.frf, e.hok, e.bare⟩
section
variable {X : Cx} {pins : List (Addr × Obj)} {σ : St} {H : Hp} {s s' : Shared}
theorem Inv.env0 (I : Inv X pins σ H s) : Env0 X.prog X.w X.K X.mg X.base X.A X.stack s H :=
  ⟨I.ok.frames, I.ok.mod, I.bs, Nat.le_trans I.ok.bsz I.sz, I.stack, I.stkFree, I.hok, I.bare⟩
theorem Inv.after {Q : VK} {u : Value} (I : Inv X pins σ H s) (h : CE X.stack X.prog X.w H s Q u s') : EP X pins σ Q u s' := by
  obtain ⟨v, H', os, bare, un, hok, r, q⟩ := h
  obtain ⟨hh, g, d, t, os'⟩ := s'
  obtain rfl : os' = s.os := os
  exact ⟨v, H', I.call (h' := hh) (g' := g) (d' := d) (t' := t) (ch := []) un hok bare (fun b z => absurd z (by simp)), r, q⟩
end
def tCall (sp : Sp) (dvs : List V) (E : XK) (t : TA) : TE := fun σ H Q => t σ H fun vs H1 => sp (vs ++ dvs) H1 Q E
def tMeth (C : Addr) (m : Str) (sp : Sp) (dvs : List V) (E : XK) (ta : TE) (t : TA) : TE := fun σ H Q => ta σ H fun x H1 => ∃ a dx fs, x = .ref a ∧ H1 a = some (.ins C dx fs) ∧ fs.lookup m = none ∧
  t σ H1 fun vs H2 => sp (x :: (vs ++ dvs)) H2 Q E
def tMake (C : Addr) (sp : Sp) (dvs : List V) (E : XK) (t : TA) : TE := fun σ H Q => t σ H fun vs H1 => ∀ x dx, H1 x = none → H1 dx = none → dx ≠ x →
  sp (.ref x :: (vs ++ dvs)) (upd (upd H1 dx (.own x)) x (.ins C dx [])) (fun v H2 => v = .non ∧ Q (.ref x) H2) E
def Binds (K : PySem.W.Frag) (fd : FuncData) (ps : List Str) (ds : List Value) : Prop :=
  ∀ (s : Shared) (us : List Value), K.In s.heap → (us ++ ds).length = ps.length → BindsTo s fd ⟨us, []⟩ (ps.zip (us ++ ds))
theorem Binds.all {K : PySem.W.Frag} {fd : FuncData} {ps : List Str} (h : ∀ us : List Value, us.length = ps.length → bindArgs fd ⟨us, []⟩ = pure (ps.zip us)) : Binds K fd ps [] := fun s us _ hl => by
  rw [List.append_nil] at hl ⊢
  exact .of_eq (h us hl)
def Passes (CX : CXT) (X : Cx) (E : XK) : Prop := ∀ (pins : List (Addr × Obj)) (σ : St) (H : Hp) (s : Shared) (e : Value) (s' : Shared), Inv X pins σ H s → CX X.stack H s E e s' → X.xe e s'
section
variable {X : Cx} {CX : CXT} {k : Nat} {f C : Addr} {fd : FuncData} {ps : List Str} {sp : Sp} {dvs : List V} {ds : List Value} {E : XK} {x m : Str} {p pos apos : Pos} {e o : Expr} {es : List Expr} {ta : TE} {t : TA}
theorem run_fn {pins : List (Addr × Obj)} {σ : St} {H : Hp} {s : Shared} {Q : VK} {us : List Value} {vs : List V} (F : FnOk X.prog X.w X.K X.mg X.base CX k f fd ps sp) (hr : Room k X.A) (hb : Binds X.K fd ps ds) (hd : Vals dvs ds) (hx : Passes CX X E)
    (I : Inv X pins σ H s) (r : Vals vs us) (h : sp (vs ++ dvs) H Q E) : wpAny (model X.prog X.w) X.A (call (.ref f) us) (EP X pins σ Q) X.xe s := by
  have r2 : Vals (vs ++ dvs) (us ++ ds) := r.append hd
  have hl : (us ++ ds).length = ps.length := by rw [← r2.length]; exact F.len _ _ _ _ h
  refine wpAny_call (codeAny_mono (F.run X.A X.stack s H ⟨us, []⟩ (us ++ ds) (vs ++ dvs) Q E hr I.env0 (hb s us I.kIn hl) r2 h) fun r s' hq => ?_)
  cases r with
  | error e => exact hx pins σ H s e s' I hq
  | ok fl =>
    cases fl with
    | ret u => exact I.after hq
    | next => exact False.elim hq
    | brk => exact False.elim hq
    | cont => exact False.elim hq
theorem pe_call (F : FnOk X.prog X.w X.K X.mg X.base CX k f fd ps sp) (hr : Room k X.A) (hg : Gl X x) (hm : X.mg x = some (.ref f)) (hk : PySem.W.keepIn X.K (.ref f) = true) (hb : Binds X.K fd ps ds) (hd : Vals dvs ds) (hx : Passes CX X E)
    (ha : PA X (e :: es) t) (hdb : (x == ("__debug__" : Str)) = false := by decide) (he : starEach (e :: es) X.env = (false, eval e X.env) :: starEach es X.env := by rfl) (hpl : (backTo pos (starEach es X.env)).any (·.1) = false := by rfl) :
    PE X (.Call (.Name x p) (e :: es) [] pos) (tCall sp dvs E t) := by
  intro pins s σ H Q I h
  refine wpAny_Call_Name_kw (ld_glob I hg hm ?_ hdb)
  refine PySem.W.callWith_K (h₀ := X.base) I.ok.mod.kin hk (thn (ha pos pins s σ H _ I h) fun us s1 ⟨vs, H1, I1, r, q⟩ => ⟨I1.kIn, ?_⟩) he hpl
  exact run_fn F hr hb hd hx I1 r q
structure Mk (K : PySem.W.Frag) (C f : Addr) : Prop where
  makes : PySem.W.makesIn K C = true
  init : PySem.W.findIn K (.ref C) "__init__" = some (some (.ref f))
  fn : PySem.W.isFn K (.ref f) = true
  kp : PySem.W.keepIn K (.ref C) = true
end
def PK (X : Cx) (kws : List Keyword) (t : TA) : Prop :=
  ∀ (pos : Pos) (pins : List (Addr × Obj)) (s : Shared) (σ : St) (H : Hp) (Q : List V → Hp → Prop), Inv X pins σ H s → t σ H Q → wpAny (model X.prog X.w) X.A (evalAll ((backToKw pos (keywordEach kws X.env)).map (·.2))) (AP X pins σ Q) X.xe s
section
variable {X : Cx} {CX : CXT} {k : Nat} {f C : Addr} {fd : FuncData} {ps ks : List Str} {sp : Sp} {E : XK} {x m : Str} {p pos apos kpos : Pos} {e o : Expr} {es : List Expr} {kws : List Keyword} {te ta : TE} {t tk : TA} {nm : Option Str}
structure KBinds (K : PySem.W.Frag) (fd : FuncData) (ps ks : List Str) (g : List Value → List Value → List Value) (gV : List V → List V → List V) : Prop where
  to : ∀ (s : Shared) (us ws : List Value), K.In s.heap → (g us ws).length = ps.length → BindsTo s fd ⟨us, ks.zip ws⟩ (ps.zip (g us ws))
  rel : ∀ {vs : List V} {us : List Value} {zs : List V} {ws : List Value}, Vals vs us → Vals zs ws → Vals (gV vs zs) (g us ws)
def tCallK (sp : Sp) (gV : List V → List V → List V) (E : XK) (t tk : TA) : TE := fun σ H Q => t σ H fun vs H1 => tk σ H1 fun zs H2 => sp (gV vs zs) H2 Q E
variable {g : List Value → List Value → List Value} {gV : List V → List V → List V}
end
structure FnScope (N P : List Str) (sc : Scope) : Prop where
  kind : sc.kind = .function
  co : sc.isCoroutine = false
  gen : sc.isGenerator = false
  nd : N.Nodup
  pre : N.take P.length = P
  par : ∀ x ∈ P, sc.names.lookup x = some .local ∨ sc.names.lookup x = some .cell
  nofree : ∀ y ∈ sc.names, y.2 ≠ .free
theorem bindL_out {kindOf : Str → Option NameKind} {x : Str} : ∀ {binds : List (Str × Value)} {m : Str → Option Value}, (∀ v, (x, v) ∉ binds) → bindL kindOf binds m x = m x
  | [], _, _ => rfl
  | (n, v) :: r, m, h => by
    unfold bindL
    rw [bindL_out fun w hw => h w (List.mem_cons_of_mem _ hw)]
    split
    · have : x ≠ n := by rintro rfl; exact h v List.mem_cons_self
      simp [this]
    · rfl
theorem bindC_out {kindOf : Str → Option NameKind} {x : Str} : ∀ {binds : List (Str × Value)} {m : Str → Option Value}, (∀ v, (x, v) ∉ binds) → bindC kindOf binds m x = m x
  | [], _, _ => rfl
  | (n, v) :: r, m, h => by
    unfold bindC
    rw [bindC_out fun w hw => h w (List.mem_cons_of_mem _ hw)]
    split
    · rfl
    · have : x ≠ n := by rintro rfl; exact h v List.mem_cons_self
      simp [this]
theorem bindL_get {kindOf : Str → Option NameKind} {x : Str} {v : Value} : ∀ {P : List Str} {vs : List Value} {i : Nat} {m : Str → Option Value}, P.Nodup → P[i]? = some x → vs[i]? = some v → kindOf x = some .local →
    bindL kindOf (P.zip vs) m x = some v
  | [], _, _, _, _, h, _, _ => by simp at h
  | _ :: _, [], _, _, _, _, h, _ => by simp at h
  | p :: P, w :: vs, 0, m, nd, h1, h2, hk => by
    simp at h1 h2; subst h1; subst h2
    show bindL kindOf ((p, w) :: P.zip vs) m p = _
    unfold bindL
    rw [bindL_out fun v hv => (List.nodup_cons.mp nd).1 (List.of_mem_zip hv).1, if_pos hk]
    simp
  | p :: P, w :: vs, i + 1, m, nd, h1, h2, hk => by
    show bindL kindOf ((p, w) :: P.zip vs) m x = _
    unfold bindL
    exact bindL_get (i := i) (List.nodup_cons.mp nd).2 (by simpa using h1) (by simpa using h2) hk
theorem bindC_get {kindOf : Str → Option NameKind} {x : Str} {v : Value} : ∀ {P : List Str} {vs : List Value} {i : Nat} {m : Str → Option Value}, P.Nodup → P[i]? = some x → vs[i]? = some v → kindOf x ≠ some .local →
    bindC kindOf (P.zip vs) m x = some v
  | [], _, _, _, _, h, _, _ => by simp at h
  | _ :: _, [], _, _, _, _, h, _ => by simp at h
  | p :: P, w :: vs, 0, m, nd, h1, h2, hk => by
    simp at h1 h2; subst h1; subst h2
    show bindC kindOf ((p, w) :: P.zip vs) m p = _
    unfold bindC
    rw [bindC_out fun v hv => (List.nodup_cons.mp nd).1 (List.of_mem_zip hv).1, if_neg hk]
    simp
  | p :: P, w :: vs, i + 1, m, nd, h1, h2, hk => by
    show bindC kindOf ((p, w) :: P.zip vs) m x = _
    unfold bindC
    exact bindC_get (i := i) (List.nodup_cons.mp nd).2 (by simpa using h1) (by simpa using h2) hk
def start (N : List Str) (vs : List V) : St := vs.map some ++ List.replicate (N.length - vs.length) none
def cxOf (CX : CXT) (P : Program) (w : World) (K : PySem.W.Frag) (mg : Str → Option Value) (base : Heap) (N : List Str) (qual : Str) (scope : Scope) (f : Addr) (cd : Value) (A : Around) (outer : List Env) (s : Shared) (H : Hp) (E : XK) : Cx where
  prog := P
  w := w
  K := K
  mg := mg
  base := base
  A := A.deeper (envOfC qual scope s.heap.objs.size f cd)
  N := N
  s₀ := s
  H₀ := H
  env := envOfC qual scope s.heap.objs.size f cd
  outer := outer
  stack := envOfC qual scope s.heap.objs.size f cd :: outer
  ex := []
  calm := true
  fn := fun _ => true
  pn := []
  xe := fun e s' => wpAny (model P w) (A.deeper (envOfC qual scope s.heap.objs.size f cd)) (leaving (envOfC qual scope s.heap.objs.size f cd) e) (fun _ s'' => CX outer H s E e s'') (fun e' s'' => CX outer H s E e' s'') s'
theorem cell_has {sc : Scope} {n : Nat} {x : Str} (h : sc.names.lookup x = some .cell) : ∃ c, (cellsFrom n sc.names []).lookup x = some c := by
  have q := PySem.W.cellsFrom_some sc.names n [] (.inl h)
  exact Option.isSome_iff_exists.mp q
theorem inv_start {CX : CXT} {P : Program} {w : World} {K : PySem.W.Frag} {mg : Str → Option Value} {base : Heap} {N ps : List Str} {qual : Str} {scope : Scope} {f : Addr} {cd : Value} {A : Around} {outer : List Env} {s s1 : Shared} {H : Hp} {E : XK} {us : List Value} {vs : List V}
    (S : FnScope N ps scope) (hd : A.handled = none) (e0 : Env0 P w K mg base A outer s H) (hl : vs.length = ps.length) (r : Vals vs us)
    (x : InCallC s s.heap.objs.size (bindL (envOfC qual scope s.heap.objs.size f cd).kindOf (ps.zip us) fun _ => none) (cellsFrom (s.heap.objs.size + 1) scope.names []) (bindC (envOfC qual scope s.heap.objs.size f cd).kindOf (ps.zip us) fun _ => none) s1) :
    Inv (cxOf CX P w K mg base N qual scope f cd A outer s H E) [] (start N vs) H s1 := by
  have hpl : ps.length ≤ N.length := by have := congrArg List.length S.pre; rw [List.length_take] at this; omega
  obtain ⟨h1, tk, rfl, hk⟩ := x.done
  have noA : ∀ b : Addr, b ∉ (cxOf CX P w K mg base N qual scope f cd A outer s H E).ex := fun b z => absurd (show b ∈ ([] : List Addr) from z) (by simp)
  refine ⟨⟨e0.mod, S.kind, rfl, rfl, Nat.le_refl _, fun y z c h1 h2 => ?_, fun y hy => ?_, fun y c _ h => ?_, fun _ => hd, Around.frames_deeper e0.frames, .inr ⟨rfl, rfl⟩, fun b z => absurd z (noA b), e0.bs, e0.bsz, fun b _ _ => noA b, fun b z => absurd z (noA b), e0.funs, e0.frf⟩,
    rfl, e0.bare, Un.kept hk, ⟨_, x.toInCall.ns, fun i y v h1 h2 h3 => ?_⟩, fun y c h => ⟨_, x.cell y c h⟩, e0.hok.fresh (Nat.le_refl _), fun y c h => ?_, fun p hp => absurd (show p ∈ ([] : List (Addr × Obj)) from hp) (by simp), e0.hok.kept hk, ?_⟩
  · exact name_of_addr x.apart (PySem.mem_of_lookup h1) (PySem.mem_of_lookup h2)
  · have hy : scope.names.lookup y = some .cell ∨ scope.names.lookup y = some .free := hy
    rcases hy with hy | hy
    · exact cell_has hy
    · exact absurd rfl (S.nofree _ (PySem.mem_of_lookup hy))
  · exact Nat.le_of_lt (x.above y c (PySem.mem_of_lookup h))
  · have hi : i < vs.length := by
      unfold start at h2
      by_cases hi : i < vs.length
      · exact hi
      · rw [List.getElem?_append_right (by simpa using hi)] at h2
        rw [List.getElem?_replicate] at h2
        split at h2 <;> cases h2
    have ha : vs[i]? = some v := by
      unfold start at h2
      rw [List.getElem?_append_left (by simpa using hi), List.getElem?_map] at h2
      cases e : vs[i]? with
      | none => rw [e] at h2; cases h2
      | some a => rw [e] at h2; cases h2; rfl
    obtain ⟨u, hu, rv⟩ := r.get ha
    have hp : ps[i]? = some y := by
      rw [← S.pre, List.getElem?_take_of_lt (by omega)]; exact h1
    have ndP : ps.Nodup := by rw [← S.pre]; exact S.nd.sublist (List.take_sublist _ _)
    refine ⟨u, rv, ?_⟩
    rcases S.par y (List.mem_of_getElem? hp) with k | k
    · exact .inl ⟨k, bindL_get ndP hp hu k⟩
    · obtain ⟨c, e⟩ := cell_has (n := s.heap.objs.size + 1) k
      refine .inr ⟨.inl k, c, e, ?_⟩
      have q := x.cell y c e
      rw [bindC_get ndP hp hu (by show scope.names.lookup y ≠ _; rw [k]; decide)] at q
      exact q
  · exact e0.hok.fresh (Nat.le_of_lt (x.above y c (PySem.mem_of_lookup h)))
  · unfold start
    show _ = N.length
    rw [List.length_append, List.length_map, List.length_replicate]
    omega
theorem fn_of {CX : CXT} {P : Program} {w : World} {K : PySem.W.Frag} {mg : Str → Option Value} {base : Heap} {k : Nat} {f : Addr} {name qual : Str} {params : Arguments} {body : List Stmt} {scope : Scope} {dV kV doc pm cdv ct oc : Value} {an od : Option Addr}
    {osl : Array (Option Value)} {N ps : List Str} {sp : Sp} (lk : K.lookup f = some ⟨oc, od, .func (PySem.W.fnOf name qual params body scope dV kV doc pm an cdv ct), osl⟩) (hcd : PySem.W.codeIn K cdv qual = true) (S : FnScope N ps scope)
    (len : ∀ vs H Q E, sp vs H Q E → vs.length = ps.length)
    (hbody : ∀ (A : Around) (outer : List Env) (s : Shared) (H : Hp) (vs : List V) (Q : VK) (E : XK), Room k (A.deeper (envOfC qual scope s.heap.objs.size f cdv)) → sp vs H Q E →
      ∃ t, PSs (cxOf CX P w K mg base N qual scope f cdv A outer s H E) body t ∧ t { nx := fun _ H' => Q .non H', rt := Q } (start N vs) H) :
    FnOk P w K mg base CX (k + 1) f (PySem.W.fnOf name qual params body scope dV kV doc pm an cdv ct) ps sp := by
  refine ⟨len, fun A outer s H args us vs Q E hr e0 hb r hsp => ?_⟩
  have hl := len _ _ _ _ hsp
  have KX : K.In s.heap := e0.mod.kin.keeps fun b o e => (e0.bs b o e).1
  have lim : s.heap.NoLimit := e0.mod.nolimit.keeps fun b o e => (e0.bs b o e).1
  have hkind : ∀ y ∈ ps.zip us, scope.names.lookup y.1 = some .local ∨ (scope.names.lookup y.1 = some .cell ∧ ((cellsFrom (s.heap.objs.size + 1) scope.names []).lookup y.1).isSome = true) := fun ⟨n, v⟩ hy => by
    rcases S.par n (List.of_mem_zip hy).1 with q | q
    · exact .inl q
    · exact .inr ⟨q, PySem.W.cellsFrom_some _ _ _ (.inl q)⟩
  refine codeAny_call_function hr.depth (KX _ _ lk) rfl S.co S.gen rfl (PySem.W.codeRec_of KX hcd) (hb _ _ _ _ ?_)
  refine wpAny_newFunctionEnv_cells S.kind hkind fun env he s1 x => ?_
  subst he
  refine ⟨lim.keeps x.toInCall.keep, codeAny_func ?_⟩
  obtain ⟨t, ht, hq⟩ := hbody A outer s H vs Q E (hr.deeper _) hsp
  have I : Inv (cxOf CX P w K mg base N qual scope f cdv A outer s H E) [] (start N vs) H s1 := inv_start S hr.hd e0 hl r x
  refine wpAny_mono (ht [] s1 (start N vs) H _ I hq) (fun fl s' hs => ?_) fun e s' hs => hs
  have fin : ∀ {σ' : St} {H' : Hp} {v : V} {u : Value}, Inv (cxOf CX P w K mg base N qual scope f cdv A outer s H E) [] σ' H' s' → RelV v u → Q v H' → CE outer P w H s Q u s' :=
    fun {σ' H' v u} J rv q => ⟨v, H', J.os, J.bare, J.base, J.hok, rv, q⟩
  cases fl with
  | ret u =>
    obtain ⟨v, σ', H', J, rv, q⟩ := hs
    exact fin J rv q
  | next =>
    obtain ⟨σ', H', J, q⟩ := hs
    exact fin (v := V.non) (u := Value.none) J rfl q
  | brk =>
    obtain ⟨_, _, _, q⟩ := hs
    exact False.elim q
  | cont =>
    obtain ⟨_, _, _, q⟩ := hs
    exact False.elim q
end L2
namespace L2
open PySem PySem.Spec PyProof.Rows
section
variable {X : Cx} {x : Str} {p pos : Pos} {e : Expr} {es : List Expr} {t : TA} {id T : String} {r : List V → Hp → VK → Prop}
def tCB (r : List V → Hp → VK → Prop) (t : TA) : TE := fun σ H Q => t σ H fun vs H1 => r vs H1 Q
theorem pe_callB (hc : CallR X (.builtin id) r) (hg : Gl X x) (hm : X.mg x = none) (hv : bootBuiltins x = some (.builtin id)) (ha : PA X (e :: es) t) (hn : x ≠ "__name__" := by decide) (hdb : (x == ("__debug__" : Str)) = false := by decide)
    (he : starEach (e :: es) X.env = (false, eval e X.env) :: starEach es X.env := by rfl) (hpl : (backTo pos (starEach es X.env)).any (·.1) = false := by rfl) : PE X (.Call (.Name x p) (e :: es) [] pos) (tCB r t) := by
  intro pins s σ H Q I h
  refine wpAny_Call_Name_kw (ld_blt I hg hm hv ?_ hn hdb)
  exact PyProof.Rows.callWith_builtin1 (thn (ha pos pins s σ H _ I h) fun us s1 ⟨vs, H1, I1, r1, q1⟩ => hc pins s1 σ H1 vs us Q I1 r1 q1) he hpl
theorem pe_callTy (hc : CallR X (.type T) r) (hg : Gl X x) (hm : X.mg x = none) (hv : bootBuiltins x = some (.type T)) (ha : PA X (e :: es) t) (hn : x ≠ "__name__" := by decide) (hdb : (x == ("__debug__" : Str)) = false := by decide)
    (he : starEach (e :: es) X.env = (false, eval e X.env) :: starEach es X.env := by rfl) (hpl : (backTo pos (starEach es X.env)).any (·.1) = false := by rfl) : PE X (.Call (.Name x p) (e :: es) [] pos) (tCB r t) := by
  intro pins s σ H Q I h
  refine wpAny_Call_Name_kw (ld_blt I hg hm hv ?_ hn hdb)
  exact PyProof.Rows.callWith_type1 (thn (ha pos pins s σ H _ I h) fun us s1 ⟨vs, H1, I1, r1, q1⟩ => hc pins s1 σ H1 vs us Q I1 r1 q1) he hpl
end
end L2
namespace HT
open PySem PyProof.Rows
def lexLt : List Int → List Int → Bool
  | [], [] => false
  | [], _ :: _ => true
  | _ :: _, [] => false
  | x :: xs, y :: ys => if x = y then lexLt xs ys else decide (x < y)
section
open PySem.SeqAt
open PySem.AutoSeq1 (wpAny_loadPart')
open PySem.MeetsSeq PySem.MeetsSeq2 PySem.MeetsSeq3
end
section
variable {prog : Program} {w : World} {A : Around} {E : Value → Shared → Prop} {s : Shared}
def sIx (n d : Nat) : Option Int → Nat
  | none => d
  | some v => if v < 0 then (v + (n : Int)).toNat else min v.toNat n
theorem sIx_none (n d : Nat) : sIx n d none = d := rfl
theorem sIx_nat (n d k : Nat) : sIx n d (some (k : Int)) = min k n := by
  show (if (k : Int) < 0 then ((k : Int) + (n : Int)).toNat else min (k : Int).toNat n) = min k n
  rw [if_neg (by omega), Int.toNat_natCast]
end
end HT
namespace L2
open PySem PySem.Spec PyProof.Rows
abbrev TO := St → Hp → (Option Int → Hp → Prop) → Prop
def PO (X : Cx) (e : Option Expr) (t : TO) : Prop :=
  ∀ (pins : List (Addr × Obj)) (s : Shared) (σ : St) (H : Hp) (Q : Option Int → Hp → Prop), Inv X pins σ H s → t σ H Q →
    wpAny (model X.prog X.w) X.A (evalPart e X.env) (fun u s' => ∃ o H', Inv X pins σ H' s' ∧ IsPart u o ∧ Q o H') X.xe s
def tNoPart : TO := fun _ H Q => Q none H
def tPart (t : TE) : TO := fun σ H Q => t σ H fun x H1 => ∃ i, x = .int i ∧ Q (some i) H1
theorem intsAre_of {ns : List Int} : ∀ {us : List Value}, Vals (ns.map V.int) us → IntsAre us ns := by
  induction ns with
  | nil => intro us r; rw [List.map_nil] at r; cases r; exact .nil
  | cons n ns ih =>
    intro us r
    rw [List.map_cons] at r
    cases r with
    | cons r1 r2 =>
      obtain ⟨t, e⟩ := r1
      subst e
      exact .cons n t (ih r2)
section
variable {X : Cx} {e : Expr} {te : TE} {lo hi : Option Expr} {tl th : TO} {pos p2 : Pos}
theorem po_none : PO X none tNoPart := by
  intro pins s σ H Q I h
  rw [evalPart_none]
  exact wpAny_pure ⟨none, H, I, .none, h⟩
theorem po_some (h : PE X e te) : PO X (some e) (tPart te) := by
  intro pins s σ H Q I hw
  rw [evalPart_some]
  refine thn (h pins s σ H _ I hw) fun u s1 ⟨x, H1, I1, r1, q1⟩ => ?_
  obtain ⟨i, rfl, q⟩ := q1
  obtain ⟨t, rfl⟩ := r1
  exact ⟨some i, H1, I1, .int i t, q⟩
def SlR (X : Cx) (r : V → Option Int → Option Int → Hp → VK → Prop) : Prop :=
  ∀ (pins : List (Addr × Obj)) (s : Shared) (σ : St) (H : Hp) (x : V) (v vl vu : Value) (lo hi : Option Int) (sl : Addr) (Q : VK), Inv X pins σ H s → RelV x v → s.heap.IsSliceOf sl vl vu .none → IsPart vl lo → IsPart vu hi → r x lo hi H Q →
    ∃ T id, typeLookup (.type T) "__getitem__" = pure (some (.builtin id)) ∧ s.TypeIs v T ∧ wpAny (model X.prog X.w) X.A (getItem v (.ref sl)) (EP X pins σ Q) X.xe s
theorem SlR.or {r r' : V → Option Int → Option Int → Hp → VK → Prop} (h : SlR X r) (h' : SlR X r') : SlR X (fun x lo hi H Q => r x lo hi H Q ∨ r' x lo hi H Q) := by
  intro pins s σ H x v vl vu lo hi sl Q I rx hs pl pu q
  rcases q with q | q
  · exact h pins s σ H x v vl vu lo hi sl Q I rx hs pl pu q
  · exact h' pins s σ H x v vl vu lo hi sl Q I rx hs pl pu q
def tSl (r : V → Option Int → Option Int → Hp → VK → Prop) (te : TE) (tl th : TO) : TE := fun σ H Q => te σ H fun x H1 => tl σ H1 fun l H2 => th σ H2 fun u H3 => r x l u H3 Q
theorem pe_slice {r : V → Option Int → Option Int → Hp → VK → Prop} (hr : SlR X r) (he : PE X e te) (hl : PO X lo tl) (hu : PO X hi th) : PE X (.Subscript e (.Slice lo hi none p2) pos) (tSl r te tl th) := by
  intro pins s σ H Q I h
  refine Subscript_ (thn (he pins s σ H _ I h) fun v s1 ⟨x, H1, I1, r1, q1⟩ => ?_)
  refine wpAny_Slice (thn (hl pins s1 σ H1 _ I1 q1) fun vl s2 ⟨l, H2, I2, pl, q2⟩ => thn (hu pins s2 σ H2 _ I2 q2) fun vu s3 ⟨u, H3, I3, pu, q3⟩ => ?_)
  rw [evalPart_none]
  refine wpAny_pure ?_
  have I4 : Inv X pins σ H3 { s3 with heap := s3.heap.push { cls := .type "slice", data := .fields #[vl, vu, .none] } } := I3.kept (t' := s3.toks) fun b ob q => Heap.get?_push_of_some _ q
  obtain ⟨T, id, hT, ht, hg⟩ := hr pins { s3 with heap := s3.heap.push { cls := .type "slice", data := .fields #[vl, vu, .none] } } σ H3 x v vl vu l u s3.heap.objs.size Q I4 r1 (Heap.IsSliceOf.new ..) pl pu q3
  show wpAny (model X.prog X.w) X.A (subscriptTail e (.Slice lo hi none p2) v (.ref s3.heap.objs.size)) (EP X pins σ Q) X.xe { s3 with heap := s3.heap.push { cls := .type "slice", data := .fields #[vl, vu, .none] } }
  exact tail_any (ops := [.ref s3.heap.objs.size, v]) ht hT hg (by with_unfolding_all rfl)
def cutV (xs : List V) (lo hi : Option Int) : List V := (xs.drop (HT.sIx xs.length 0 lo)).take (HT.sIx xs.length xs.length hi - HT.sIx xs.length 0 lo)
theorem cutV_length (xs : List V) (lo hi : Option Int) : (cutV xs lo hi).length ≤ xs.length := by
  unfold cutV
  rw [List.length_take, List.length_drop]
  omega
def rSlT (K : PySem.W.Frag) : V → Option Int → Option Int → Hp → VK → Prop := fun x lo hi H Q => ∃ a xs, x = .ref a ∧ SqT K H a xs ∧
  ¬ (HT.sIx xs.length 0 lo = 0 ∧ HT.sIx xs.length xs.length hi = xs.length) ∧ ∀ p, H p = none → Q (.ref p) (upd H p (.tup (cutV xs lo hi)))
def rLtT (K : PySem.W.Frag) : R2 := fun x y H Q => ∃ a b ns ms, x = .ref a ∧ y = .ref b ∧ SqT K H a (ns.map V.int) ∧ SqT K H b (ms.map V.int) ∧ Q (.bl (HT.lexLt ns ms)) H
def rCatT (K : PySem.W.Frag) : R2 := fun x y H Q => ∃ a b xs ys, x = .ref a ∧ y = .ref b ∧ SqT K H a xs ∧ SqT K H b ys ∧ xs ≠ [] ∧ xs.length + ys.length ≤ sizeLine ∧
  (ys = [] → Q (.ref a) H) ∧ (ys ≠ [] → ∀ p, H p = none → Q (.ref p) (upd H p (.tup (xs ++ ys))))
end
end L2
namespace L2
open PySem PySem.Spec PyProof.Rows
def ixN (n : Nat) (i : Int) : Option Nat := if 0 ≤ i then (if i < n then some i.toNat else none) else if -(n : Int) ≤ i then some (i + n).toNat else none
def atI {α : Type} (xs : List α) (i : Int) : Option α := (ixN xs.length i).bind fun j => xs[j]?
theorem ixN_seq {n : Nat} {i : Int} {j : Nat} (h : ixN n i = some j) : seqIndex? i n = some j ∧ j < n ∧ -(n : Int) ≤ i ∧ i < n := by
  unfold ixN at h
  by_cases h0 : 0 ≤ i
  · rw [if_pos h0] at h
    by_cases h1 : i < n
    · rw [if_pos h1] at h
      have e : i.toNat = j := Option.some.inj h
      exact ⟨by rw [seqIndex_of h0 h1, e], by omega, by omega, h1⟩
    · rw [if_neg h1] at h; cases h
  · rw [if_neg h0] at h
    by_cases h1 : -(n : Int) ≤ i
    · rw [if_pos h1] at h
      have e : (i + n).toNat = j := Option.some.inj h
      exact ⟨by rw [seqIndex_neg (by omega) h1, e], by omega, h1, by omega⟩
    · rw [if_neg h1] at h; cases h
theorem atI_get {α : Type} {xs : List α} {i : Int} {v : α} (h : atI xs i = some v) : ∃ j, seqIndex? i xs.length = some j ∧ xs[j]? = some v ∧ j < xs.length ∧ -(xs.length : Int) ≤ i ∧ i < xs.length := by
  unfold atI at h
  cases e : ixN xs.length i with
  | none => rw [e] at h; cases h
  | some j =>
    rw [e] at h
    obtain ⟨h1, h2, h3, h4⟩ := ixN_seq e
    exact ⟨j, h1, h, h2, h3, h4⟩
theorem atI_nat {α : Type} {xs : List α} {j : Nat} {v : α} (h : xs[j]? = some v) : atI xs (j : Int) = some v := by
  have hj : j < xs.length := (List.getElem?_eq_some_iff.mp h).1
  have e : ixN xs.length (j : Int) = some j := by
    unfold ixN
    rw [if_pos (by omega), if_pos (by omega)]; simp
  unfold atI; rw [e]; exact h
def PlainIx (b : Expr) : Prop := ∀ o i, subscripted b false o i = operate [o, i] (getItem o i)
def IxR (X : Cx) (r : R2) : Prop :=
  ∀ (value slice : Expr) (pins : List (Addr × Obj)) (s : Shared) (σ : St) (H : Hp) (x y : V) (v u : Value) (Q : VK), Inv X pins σ H s → RelV x v → RelV y u → r x y H Q →
    subscripted slice false v u = operate [v, u] (getItem v u) → wpAny (model X.prog X.w) X.A (subscriptTail value slice v u) (EP X pins σ Q) X.xe s
def MtR (X : Cx) (id : String) (r : V → List V → Hp → VK → Prop) : Prop :=
  ∀ (pins : List (Addr × Obj)) (s : Shared) (σ : St) (H : Hp) (x : V) (xs : List V) (v : Value) (us : List Value) (Q : VK), Inv X pins σ H s → RelV x v → Vals xs us → r x xs H Q →
    wpAny (model X.prog X.w) X.A (call (.builtin id) (v :: us)) (EP X pins σ Q) X.xe s
section
variable {X : Cx} {a b : Expr} {ta tb : TE} {pos : Pos}
theorem IxR.or {r r' : R2} (h : IxR X r) (h' : IxR X r') : IxR X (fun x y H Q => r x y H Q ∨ r' x y H Q) := by
  intro value slice pins s σ H x y v u Q I rx ry q hs
  rcases q with q | q
  · exact h value slice pins s σ H x y v u Q I rx ry q hs
  · exact h' value slice pins s σ H x y v u Q I rx ry q hs
theorem MtR.or {id : String} {r r' : V → List V → Hp → VK → Prop} (h : MtR X id r) (h' : MtR X id r') : MtR X id (fun x xs H Q => r x xs H Q ∨ r' x xs H Q) := by
  intro pins s σ H x xs v us Q I rx rs q
  rcases q with q | q
  · exact h pins s σ H x xs v us Q I rx rs q
  · exact h' pins s σ H x xs v us Q I rx rs q
theorem pe_ix {r : R2} (hr : IxR X r) (ha : PE X a ta) (hb : PE X b tb) (hs : PlainIx b) : PE X (.Subscript a b pos) (tOp r ta tb) := by
  intro pins s σ H Q I h
  exact Subscript_ (binT ha hb I h fun v u s2 x y H2 I2 rx ry q => hr a b pins s2 σ H2 x y v u Q I2 rx ry q (hs _ _))
def rIxL (K : PySem.W.Frag) : R2 := fun x y H Q => ∃ p xs i v, x = .ref p ∧ y = .int i ∧ SqL K H p xs ∧ atI xs i = some v ∧ Q v H
def rIxT (K : PySem.W.Frag) : R2 := fun x y H Q => ∃ p xs i v, x = .ref p ∧ y = .int i ∧ SqT K H p xs ∧ atI xs i = some v ∧ Q v H
def rIxS : R2 := fun x y H Q => ∃ z i c, x = .str z ∧ y = .int i ∧ z.length ≤ sizeLine ∧ atI z.cps.toList i = some c ∧ Q (.str ⟨#[c]⟩) H
theorem ix_list : IxR X (rIxL X.K) := by
  intro value slice pins s σ H x y v u Q I rx ry h hs
  obtain ⟨p, xs, i, z, rfl, rfl, hq, he, q⟩ := h
  cases rx
  obtain ⟨t, rfl⟩ := ry
  obtain ⟨its, r, pl, hz⟩ := I.list hq
  obtain ⟨j, h1, h2, h3, h4, h5⟩ := atI_get he
  obtain ⟨w, ew, rw'⟩ := r.get h2
  have hl := r.length
  have hn := line63
  have fin : EP X pins σ Q w s := ⟨z, H, I, rw', q⟩
  by_cases h0 : 0 ≤ i
  · have hj : i.toNat = j := by
      rw [seqIndex_of h0 h5] at h1
      exact Option.some.inj h1
    exact item_listR pl.isList h0 (by omega) (by rw [hj]; simpa using ew) fin hs
  · have hj : (i + (its.toArray.size : Int)).toNat = j := by
      rw [seqIndex_neg (by omega) h4] at h1
      rw [List.size_toArray, ← hl]
      exact Option.some.inj h1
    exact subscriptTail_builtinR (x := w) pl.isList.typeIs slot_list_getitem.lookup
      (wpAny_getItem_list_neg (Q := fun r s' => r = w ∧ EP X pins σ Q r s') pl.isList (by omega) (by rw [List.size_toArray] <;> omega) (by omega) (by rw [hj]; simpa using ew) ⟨rfl, fin⟩) hs
theorem ix_tup : IxR X (rIxT X.K) := by
  intro value slice pins s σ H x y v u Q I rx ry h hs
  obtain ⟨p, xs, i, z, rfl, rfl, hq, he, q⟩ := h
  cases rx
  obtain ⟨t, rfl⟩ := ry
  obtain ⟨its, r, pl, hz⟩ := I.tuple hq
  obtain ⟨j, h1, h2, h3, h4, h5⟩ := atI_get he
  obtain ⟨w, ew, rw'⟩ := r.get h2
  have hl := r.length
  have hn := line63
  have fin : EP X pins σ Q w s := ⟨z, H, I, rw', q⟩
  exact subscriptTail_builtinR (x := w) pl.typeIs slot_tuple_getitem.lookup
    (getItem_tuple (j := j) (Q := fun r s' => r = w ∧ EP X pins σ Q r s') pl (by omega) (by omega) (by rw [List.size_toArray, ← hl]; exact h1) (by simpa using ew) ⟨rfl, fin⟩) hs
theorem ix_str : IxR X rIxS := by
  intro value slice pins s σ H x y v u Q I rx ry h hs
  obtain ⟨z, i, c, rfl, rfl, hz, he, q⟩ := h
  obtain ⟨t, rfl⟩ := rx
  obtain ⟨t', rfl⟩ := ry
  obtain ⟨j, h1, h2, h3, h4, h5⟩ := atI_get he
  have hl : z.cps.toList.length = z.length := by simp [Str.length]
  rw [hl] at h1 h4 h5
  have hn := line63
  exact tail_any (typeIs_str s z t) slot_str_getitem.lookup (getItem_str (c := c) (by
    have e1 : decide (i < -(2 ^ 63 : Int)) = false := decide_eq_false (by omega)
    have e2 : decide (i ≥ 2 ^ 63) = false := decide_eq_false (by omega)
    rw [e1, e2, Bool.or_false]) (by rw [h1]; simpa using h2) ⟨.str ⟨#[c]⟩, H, I.tok _, ⟨_, rfl⟩, q⟩) hs
def rIx (K : PySem.W.Frag) : R2 := fun x y H Q => rIxL K x y H Q ∨ rIxT K x y H Q ∨ rIxS x y H Q
theorem mapSeq_set (its : List Value) (n j : Nat) (u : Value) : Obj.mapSeq (·.setIfInBounds j u) { cls := .type "list", data := .seq its.toArray n } = { cls := .type "list", data := .seq (its.set j u).toArray n } := by
  simp [Obj.mapSeq]
theorem Inv.lst {pins : List (Addr × Obj)} {σ : St} {H : Hp} {s : Shared} {p : Addr} {xs : List V} (I : Inv X pins σ H s) (h : H p = some (.lst xs)) :
    ∃ (its : List Value) (n : Nat), Vals xs its ∧ s.heap.get? p = some { cls := .type "list", data := .seq its.toArray n } ∧ xs.length ≤ sizeLine := by
  obtain ⟨z, its, n, r, e⟩ := I.hok p _ h
  exact ⟨its, n, r, e, z⟩
theorem Inv.lstUpd {pins : List (Addr × Obj)} {σ : St} {H : Hp} {s : Shared} {p : Addr} {xs ys : List V} {its its' : List Value} {n n' : Nat} {f : Obj → Obj} (I : Inv X pins σ H s) (h : H p = some (.lst xs))
    (ho : s.heap.get? p = some { cls := .type "list", data := .seq its.toArray n }) (hf : f { cls := .type "list", data := .seq its.toArray n } = { cls := .type "list", data := .seq its'.toArray n' }) (r : Vals ys its') (hz : ys.length ≤ sizeLine) (t : Nat) :
    Inv X pins σ (upd H p (.lst ys)) { s with heap := s.heap.update p f, toks := t } := by
  have e : (s.heap.update p f).get? p = some { cls := .type "list", data := .seq its'.toArray n' } := by
    rw [Heap.get?_update_self f ho (by rw [hf] <;> rfl), hf]
  refine I.write (x := p) (e := p) (by rw [h]; trivial) (.inl rfl) (fun b u hb q => (Heap.get?_update_other _ _ (Ne.symm hb)).trans q) ⟨_, e⟩ ?_
  exact ⟨hz, its', n', r, e⟩
def rSetL : V → V → V → Hp → (Hp → Prop) → Prop := fun o i v H Q => ∃ p xs k j, o = .ref p ∧ i = .int k ∧ H p = some (.lst xs) ∧ ixN xs.length k = some j ∧ Q (upd H p (.lst (xs.set j v)))
theorem set_list : PSet X rSetL := by
  intro pins s σ H o i v ov iv u Q I ro ri rv h
  obtain ⟨p, xs, k, j, rfl, rfl, hp, hj, q⟩ := h
  cases ro
  obtain ⟨t, rfl⟩ := ri
  obtain ⟨its, n, r, ho, hz⟩ := I.lst hp
  obtain ⟨h1, h2, h3, h4⟩ := ixN_seq hj
  have hl := r.length
  have hn := line63
  have I' : Inv X pins σ (upd H p (.lst (xs.set j v))) { s with heap := s.heap.update p (Obj.mapSeq (·.setIfInBounds j u)) } :=
    I.lstUpd hp ho (mapSeq_set its n j u) (r.set rv j) (by rw [List.length_set]; exact hz) s.toks
  by_cases h0 : 0 ≤ k
  · have hk : k.toNat = j := by
      rw [seqIndex_of h0 h4] at h1
      exact Option.some.inj h1
    exact PySem.W.ki_setAt ho h0 (by omega) (by rw [List.size_toArray, ← hl]; exact h4) (by rw [hk]; exact ⟨_, I', q⟩)
  · have hk : (k + (its.toArray.size : Int)).toNat = j := by
      rw [seqIndex_neg (by omega) h3] at h1
      rw [List.size_toArray, ← hl]
      exact Option.some.inj h1
    exact PySem.W.ki_setBack ho (by omega) (by rw [List.size_toArray, ← hl]; exact h3) (by omega) (by rw [hk]; exact ⟨_, I', q⟩)
theorem slice_bounds (lo hi : Option Int) (n : Nat) : (sliceBounds lo hi none n).1 = ((HT.sIx n 0 lo : Nat) : Int) ∧ (sliceBounds lo hi none n).2.1 = ((HT.sIx n n hi : Nat) : Int) ∧ (sliceBounds lo hi none n).2.2 = 1 := by
  refine ⟨?_, ?_, rfl⟩
  · cases lo with
    | none => simp [sliceBounds, HT.sIx]
    | some i =>
      simp only [sliceBounds, HT.sIx, Option.getD_none, show (1 : Int) > 0 by decide, if_true]
      by_cases h : i < 0
      · simp only [h, if_true] <;> omega
      · simp only [h, if_false] <;> omega
  · cases hi with
    | none => simp [sliceBounds, HT.sIx]
    | some i =>
      simp only [sliceBounds, HT.sIx, Option.getD_none, show (1 : Int) > 0 by decide, if_true]
      by_cases h : i < 0
      · simp only [h, if_true] <;> omega
      · simp only [h, if_false] <;> omega
theorem slicePick_cut (its : List Value) (lo hi : Option Int) : slicePick its.toArray lo hi none = ((its.drop (HT.sIx its.length 0 lo)).take (HT.sIx its.length its.length hi - HT.sIx its.length 0 lo)).toArray := by
  obtain ⟨h1, h2, h3⟩ := slice_bounds lo hi its.toArray.size
  unfold slicePick
  rw [h1, h2, h3]
  simp only [sliceRange_one, pick_run, List.size_toArray] <;> rfl
def rSlL (K : PySem.W.Frag) : V → Option Int → Option Int → Hp → VK → Prop := fun x lo hi H Q => ∃ a xs, x = .ref a ∧ SqL K H a xs ∧ ∀ p, H p = none → Q (.ref p) (upd H p (.lst (cutV xs lo hi)))
theorem sl_list : SlR X (rSlL X.K) := by
  intro pins s σ H x v vl vu lo hi sl Q I rx hs pl pu h
  obtain ⟨a, xs, rfl, hx, q⟩ := h
  cases rx
  obtain ⟨its, r, ht, hz⟩ := I.list hx
  have hlen := r.length
  refine ⟨"list", _, slot_list_getitem.lookup, ht.isList.typeIs, ?_⟩
  refine wpAny_getItem_list_slice ht.isList hs pl pu .none (by simp) ?_ (by rw [List.size_toArray] <;> omega)
  rw [slicePick_cut, ← hlen]
  refine ⟨.ref s.heap.objs.size, _, I.laid (t' := s.toks) (o := .lst (cutV xs lo hi)) (fun b ob q => Heap.get?_push_of_some _ q) (Nat.le_refl _) ?_, rfl, q _ (I.hok.fresh (Nat.le_refl _))⟩
  exact ⟨Nat.le_trans (cutV_length xs lo hi) hz, _, 0, (r.drop (HT.sIx xs.length 0 lo)).take (HT.sIx xs.length xs.length hi - HT.sIx xs.length 0 lo), Heap.get?_push_size _ rfl⟩
def flatV : V → Bool
  | .non => true
  | .bl _ => true
  | .int _ => true
  | .str _ => true
  | _ => false
def eqV : V → V → Bool
  | .non, .non => true
  | .bl a, .bl b => a == b
  | .bl a, .int b => (if a then 1 else 0) == b
  | .int a, .bl b => a == (if b then 1 else 0)
  | .int a, .int b => a == b
  | .str a, .str b => a == b
  | _, _ => false
theorem eqAt_V {A : Around} {s : Shared} {y x : V} {u v : Value} (ry : RelV y u) (rx : RelV x v) (fy : flatV y = true) (fx : flatV x = true) : SeqAt.EqAt A s u v (eqV y x) := by
  cases y with
  | non =>
    cases ry
    cases x with
    | non => cases rx; exact SeqAt.EqAt.same _
    | bl b => cases rx; exact SeqAt.EqAt.none_bool b
    | int b => obtain ⟨t, rfl⟩ := rx; exact SeqAt.EqAt.none_int b t
    | str b => obtain ⟨t, rfl⟩ := rx; exact SeqAt.EqAt.none_str b t
    | _ => exact absurd (show false = true from fx) Bool.false_ne_true
  | bl a =>
    cases ry
    cases x with
    | non => cases rx; exact SeqAt.EqAt.bool_none a
    | bl b => cases rx; exact SeqAt.EqAt.bool_bool a b
    | int b => obtain ⟨t, rfl⟩ := rx; exact SeqAt.EqAt.bool_int a b t
    | str b => obtain ⟨t, rfl⟩ := rx; exact SeqAt.EqAt.bool_str a b t
    | _ => exact absurd (show false = true from fx) Bool.false_ne_true
  | int a =>
    obtain ⟨t', rfl⟩ := ry
    cases x with
    | non => cases rx; exact SeqAt.EqAt.int_none a t'
    | bl b => cases rx; exact SeqAt.EqAt.int_bool a t' b
    | int b => obtain ⟨t, rfl⟩ := rx; exact SeqAt.EqAt.int_int a t' b t
    | str b => obtain ⟨t, rfl⟩ := rx; exact SeqAt.EqAt.int_str a t' b t
    | _ => exact absurd (show false = true from fx) Bool.false_ne_true
  | str a =>
    obtain ⟨t', rfl⟩ := ry
    cases x with
    | non => cases rx; exact SeqAt.EqAt.str_none a t'
    | bl b => cases rx; exact SeqAt.EqAt.str_bool a t' b
    | int b => obtain ⟨t, rfl⟩ := rx; exact SeqAt.EqAt.str_int a t' b t
    | str b => obtain ⟨t, rfl⟩ := rx; exact SeqAt.EqAt.str_str a t' b t
    | _ => exact absurd (show false = true from fx) Bool.false_ne_true
  | _ => exact absurd (show false = true from fy) Bool.false_ne_true
def eqU (x : V) (u : Value) : Bool := match u with
  | .none => eqV .non x
  | .bool b => eqV (.bl b) x
  | .int i _ => eqV (.int i) x
  | .str z _ => eqV (.str z) x
  | _ => false
theorem eqU_of {x y : V} {u : Value} (r : RelV y u) (f : flatV y = true) : eqU x u = eqV y x := by
  cases y with
  | non => cases r; rfl
  | bl b => cases r; rfl
  | int i => obtain ⟨t, rfl⟩ := r; rfl
  | str z => obtain ⟨t, rfl⟩ := r; rfl
  | _ => exact absurd (show false = true from f) Bool.false_ne_true
theorem any_eqU {x : V} : ∀ {xs : List V} {us : List Value}, Vals xs us → xs.all flatV = true → us.any (eqU x) = xs.any fun y => eqV y x
  | _, _, .nil, _ => rfl
  | y :: xs, u :: us, .cons r t, f => by
    rw [List.all_cons, Bool.and_eq_true] at f
    rw [List.any_cons, List.any_cons, eqU_of r f.1, any_eqU t f.2]
theorem mem_eqAt {A : Around} {s : Shared} {x : V} {v : Value} (rx : RelV x v) (fx : flatV x = true) : ∀ {xs : List V} {us : List Value}, Vals xs us → xs.all flatV = true → ∀ u ∈ us, SeqAt.EqAt A s u v (eqU x u)
  | _, _, .nil, _ => fun u hu => by cases hu
  | y :: xs, u :: us, .cons r t, f => fun u' hu => by
    rw [List.all_cons, Bool.and_eq_true] at f
    rcases List.mem_cons.mp hu with rfl | hu
    · rw [eqU_of r f.1]; exact eqAt_V r rx f.1 fx
    · exact mem_eqAt rx fx t f.2 u' hu
def inV (x : V) (xs : List V) : Bool := xs.any fun y => eqV y x
def rIn (K : PySem.W.Frag) (neg : Bool) : R2 := fun x y H Q => ∃ p xs, y = .ref p ∧ (SqL K H p xs ∨ SqT K H p xs) ∧ flatV x = true ∧ xs.all flatV = true ∧ Q (.bl (if neg then !inV x xs else inV x xs)) H
theorem op_in_seq : OpR X (compareOp .In) (rIn X.K false) := by
  intro pins s σ H x y v u Q I rx ry h
  obtain ⟨p, xs, rfl, hq, fx, fs, q⟩ := h
  cases ry
  rcases hq with hq | hq
  · obtain ⟨its, r, pl, hz⟩ := I.list hq
    refine SeqAt.in_listAt (eqU x) pl.isList (fun w hw => mem_eqAt rx fx r fs w (by simpa using hw)) ⟨.bl _, H, I, rfl, ?_⟩
    rw [show its.toArray.any (eqU x) = its.any (eqU x) by simp, any_eqU r fs]
    exact q
  · obtain ⟨its, r, pl, hz⟩ := I.tuple hq
    refine SeqAt.in_tupleAt (eqU x) pl (fun w hw => mem_eqAt rx fx r fs w (by simpa using hw)) ⟨.bl _, H, I, rfl, ?_⟩
    rw [show its.toArray.any (eqU x) = its.any (eqU x) by simp, any_eqU r fs]
    exact q
theorem op_notIn_seq : OpR X (compareOp .NotIn) (rIn X.K true) := by
  intro pins s σ H x y v u Q I rx ry h
  obtain ⟨p, xs, rfl, hq, fx, fs, q⟩ := h
  cases ry
  rcases hq with hq | hq
  · obtain ⟨its, r, pl, hz⟩ := I.list hq
    refine SeqAt.notIn_listAt (eqU x) pl.isList (fun w hw => mem_eqAt rx fx r fs w (by simpa using hw)) ⟨.bl _, H, I, rfl, ?_⟩
    rw [show its.toArray.any (eqU x) = its.any (eqU x) by simp, any_eqU r fs]
    exact q
  · obtain ⟨its, r, pl, hz⟩ := I.tuple hq
    refine SeqAt.notIn_tupleAt (eqU x) pl (fun w hw => mem_eqAt rx fx r fs w (by simpa using hw)) ⟨.bl _, H, I, rfl, ?_⟩
    rw [show its.toArray.any (eqU x) = its.any (eqU x) by simp, any_eqU r fs]
    exact q
theorem call_len_seq : CallR X (.builtin "len") (fun xs H Q => ∃ p ys, xs = [.ref p] ∧ (SqL X.K H p ys ∨ SqT X.K H p ys) ∧ Q (.int ys.length) H) := by
  intro pins s σ H xs us Q I r h
  obtain ⟨p, ys, rfl, hq, q⟩ := h
  obtain ⟨u, rfl, rx⟩ := vals1 r
  cases rx
  have hn := line63
  rcases hq with hq | hq
  · obtain ⟨its, r', pl, hz⟩ := I.list hq
    have hlen := r'.length
    exact Calls.call_len_list pl.isList (by simp only [List.size_toArray] <;> omega) ⟨.int ys.length, H, I.tok _, ⟨s.toks + 1, by rw [List.size_toArray, hlen]⟩, q⟩
  · obtain ⟨its, r', pl, hz⟩ := I.tuple hq
    have hlen := r'.length
    exact len_tuple pl (by simp only [List.size_toArray] <;> omega) ⟨.int ys.length, H, I.tok _, ⟨s.toks + 1, by rw [List.size_toArray, hlen]⟩, q⟩
theorem CallR.or {f : Value} {r r' : List V → Hp → VK → Prop} (h : CallR X f r) (h' : CallR X f r') : CallR X f (fun xs H Q => r xs H Q ∨ r' xs H Q) := by
  intro pins s σ H xs us Q I rs q
  rcases q with q | q
  · exact h pins s σ H xs us Q I rs q
  · exact h' pins s σ H xs us Q I rs q
theorem call_list_of : CallR X (.type "list") (fun xs H Q => ∃ p ys, xs = [.ref p] ∧ (SqL X.K H p ys ∨ SqT X.K H p ys) ∧ ∀ l, H l = none → Q (.ref l) (upd H l (.lst ys))) := by
  intro pins s σ H xs us Q I r h
  obtain ⟨p, ys, rfl, hq, q⟩ := h
  obtain ⟨u, rfl, rx⟩ := vals1 r
  cases rx
  have fin : ∀ (its : List Value), Vals ys its → ys.length ≤ sizeLine → ∀ (h' : Heap) (c' : Nat), (∀ b o', s.heap.get? b = some o' → h'.get? b = some o') →
      h'.get? s.heap.objs.size = some { cls := .type "list", dict := none, data := .seq its.toArray c', slots := #[] } → EP X pins σ Q (.ref s.heap.objs.size) { s with heap := h' } := fun its r' hz h' c' kp e =>
    ⟨.ref s.heap.objs.size, _, I.laid (t' := s.toks) kp (Nat.le_refl _) (show ObjOk X.prog X.w _ h' _ (.lst ys) from ⟨hz, its, c', r', e⟩), rfl, q _ (I.hok.fresh (Nat.le_refl _))⟩
  rcases hq with hq | hq
  · obtain ⟨its, r', pl, hz⟩ := I.list hq
    have hlen := r'.length
    obtain ⟨o, ho, hc, n, hd⟩ := pl.isList
    exact call_list_seq p (.inl rfl) ho hc hd (fun h' c' kp e => fin its r' hz h' c' kp e) (by simp only [List.size_toArray] <;> omega)
  · obtain ⟨its, r', pl, hz⟩ := I.tuple hq
    have hlen := r'.length
    obtain ⟨o, ho, hc, n, hd⟩ := pl
    exact call_list_seq p (.inr rfl) ho hc hd (fun h' c' kp e => fin its r' hz h' c' kp e) (by simp only [List.size_toArray] <;> omega)
def tyV (K : PySem.W.Frag) (T : String) (x : V) (H : Hp) : Prop := match x with
  | .str _ => T = "str"
  | .int _ => T = "int"
  | .ref p => (T = "list" ∧ ∃ xs, SqL K H p xs) ∨ (T = "tuple" ∧ ∃ o, K.lookup p = some o ∧ o.cls = .type "tuple" ∧ o.dict = none) ∨
      (T = "dict" ∧ ((∃ kvs, H p = some (.dK kvs)) ∨ ∃ kvs, H p = some (.dT kvs))) ∨ (T = "set" ∧ ∃ S n, H p = some (.set S n))
  | _ => False
theorem tyV_is {pins : List (Addr × Obj)} {σ : St} {H : Hp} {s : Shared} {T : String} {x : V} {v : Value} (I : Inv X pins σ H s) (r : RelV x v) (ty : tyV X.K T x H) :
    s.TypeIs v T ∧ ∀ a, v = .ref a → ∃ ob, s.heap.get? a = some ob ∧ ob.dict = none := by
  cases x with
  | str z =>
    obtain ⟨t, rfl⟩ := r
    cases (show T = "str" from ty)
    exact ⟨typeIs_str s z t, fun _ e => nomatch e⟩
  | int i =>
    obtain ⟨t, rfl⟩ := r
    cases (show T = "int" from ty)
    exact ⟨typeIs_int s i t, fun _ e => nomatch e⟩
  | ref p =>
    cases r
    rcases ty with ⟨rfl, xs, hq⟩ | ⟨rfl, o, hk, hc, hd⟩ | ⟨rfl, hk⟩ | ⟨rfl, S, n, hk⟩
    · obtain ⟨its, _, pl, _⟩ := I.list hq
      refine ⟨pl.isList.typeIs, fun a e => ?_⟩
      cases e
      obtain ⟨o, n, e, c, hd, _⟩ := pl
      exact ⟨o, e, hd⟩
    · refine ⟨⟨o, I.kIn p o hk, hc⟩, fun a e => ?_⟩
      cases e
      exact ⟨o, I.kIn _ o hk, hd⟩
    · have z : ∃ o, s.heap.get? p = some o ∧ o.ExactDict := by
        rcases hk with ⟨kvs, hk⟩ | ⟨kvs, hk⟩
        · obtain ⟨_, _, _, _, o, _, _, e, ex, _⟩ := I.hok p _ hk
          exact ⟨o, e, ex⟩
        · obtain ⟨_, _, _, _, o, _, _, e, ex, _⟩ := I.hok p _ hk
          exact ⟨o, e, ex⟩
      obtain ⟨o, e, ex⟩ := z
      refine ⟨⟨o, e, ex.1⟩, fun a e2 => ?_⟩
      cases e2
      exact ⟨o, e, ex.2.1⟩
    · obtain ⟨o, _, _, _, e, ex, _⟩ := I.hok p _ hk
      refine ⟨⟨o, e, ex.1⟩, fun a e2 => ?_⟩
      cases e2
      exact ⟨o, e, ex.2.1⟩
  | _ => exact False.elim ty
def tBM0 (K : PySem.W.Frag) (T : String) (r : V → List V → Hp → VK → Prop) (to : TE) : TE := fun σ H Q => to σ H fun x H1 => tyV K T x H1 ∧ r x [] H1 Q
def tBM (K : PySem.W.Frag) (T : String) (r : V → List V → Hp → VK → Prop) (to : TE) (t : TA) : TE := fun σ H Q => to σ H fun x H1 => tyV K T x H1 ∧ t σ H1 fun xs H2 => r x xs H2 Q
variable {o e : Expr} {es : List Expr} {to : TE} {t : TA} {name : Str} {apos cpos : Pos} {T id : String} {r : V → List V → Hp → VK → Prop}
theorem pe_bm0 (pa : PlainAttrs T) (slot : Slot T name id) (hty : typeOf (.builtin id) = pure (.type "method_descriptor")) (hm : MtR X id r) (ho : PE X o to)
    (hbase : attributeBase o name X.env (eval o X.env) = eval o X.env := by rfl) (hline : (apos.endLine == cpos.line) = true := by rfl) : PE X (.Call (.Attribute o name apos) [] [] cpos) (tBM0 X.K T r to) := by
  intro pins s σ H Q I h
  refine wpAny_Call_method0_late hbase hline (thn (ho pins s σ H _ I h) fun v s1 ⟨x, H1, I1, r1, ty, q1⟩ => ?_)
  obtain ⟨h1, h2⟩ := tyV_is I1 r1 ty
  exact ⟨T, id, pa, slot, hty, h1, h2, Calls.callWith_builtin rfl (PySem.evalArgs_none (hm pins s1 σ H1 x [] v [] Q I1 r1 .nil q1))⟩
theorem pe_bm (pa : PlainAttrs T) (slot : Slot T name id) (hty : typeOf (.builtin id) = pure (.type "method_descriptor")) (hm : MtR X id r) (ho : PE X o to) (ha : PA X (e :: es) t)
    (hbase : attributeBase o name X.env (eval o X.env) = eval o X.env := by rfl)
    (hfew : ((backTo cpos (starEach (e :: es) X.env)).all (fun x => !x.1) && (backToKw cpos (keywordEach [] X.env)).all (fun x => x.1.isSome)
      && decide ((e :: es).length + ([] : List Keyword).length + (if ([] : List Keyword).isEmpty then 0 else 1) < 30)) = true := by rfl)
    (hline : (apos.endLine == cpos.line) = true := by rfl) (hs : starEach (e :: es) X.env = (false, eval e X.env) :: starEach es X.env := by rfl) (hplain : (backTo cpos (starEach es X.env)).any (·.1) = false := by rfl) :
    PE X (.Call (.Attribute o name apos) (e :: es) [] cpos) (tBM X.K T r to t) := by
  intro pins s σ H Q I h
  refine wpAny_Call_method_late hbase hfew hline rfl (thn (ho pins s σ H _ I h) fun v s1 ⟨x, H1, I1, r1, ty, q1⟩ => ?_)
  obtain ⟨h1, h2⟩ := tyV_is I1 r1 ty
  refine ⟨T, id, pa, slot, hty, h1, h2, ?_⟩
  have hA := ha cpos pins s1 σ H1 _ I1 q1
  rw [hs] at hA ⊢
  refine Calls.callWith_builtin (by show (false || (backTo cpos (starEach es X.env)).any (·.1)) = false; rw [hplain] <;> rfl) (Calls.evalArgs_plain ?_)
  exact thn hA fun us s2 ⟨vs, H2, I2, r2, q2⟩ => hm pins s2 σ H2 x vs v us Q I2 r1 r2 q2
/- xs.append(e), list.index on a module's tuple .. are MtR facts of 06m -/
end
end L2
namespace L2
open PySem PySem.Spec PyProof.Rows
def MtM (X : Cx) (id : String) (r : V → List V → Hp → VK → Prop) : Prop :=
  ∀ (pins : List (Addr × Obj)) (s : Shared) (σ : St) (H : Hp) (x : V) (xs : List V) (v : Value) (us : List Value) (Q : VK), Inv X pins σ H s → RelV x v → Vals xs us → r x xs H Q →
    wpAny (model X.prog X.w) X.A (call (.builtin id) (v :: us)) (EP X pins σ Q) X.xe s
theorem Vals.one : ∀ {x : V} {us : List Value}, Vals [x] us → ∃ u, us = [u] ∧ RelV x u
  | _, _, .cons r .nil => ⟨_, rfl, r⟩
theorem Vals.two : ∀ {x y : V} {us : List Value}, Vals [x, y] us → ∃ u v, us = [u, v] ∧ RelV x u ∧ RelV y v
  | _, _, _, .cons r (.cons q .nil) => ⟨_, _, rfl, r, q⟩
theorem Vals.zero : ∀ {us : List Value}, Vals [] us → us = []
  | _, .nil => rfl
theorem Vals.dropLast {xs : List V} {us : List Value} (h : Vals xs us) : Vals xs.dropLast us.dropLast := by
  induction h with
  | nil => exact .nil
  | cons r t ih =>
    cases t with
    | nil => exact .nil
    | cons q t' => exact .cons r ih
theorem Vals.eraseIdx : ∀ {xs : List V} {us : List Value} (i : Nat), Vals xs us → Vals (xs.eraseIdx i) (us.eraseIdx i)
  | _, _, _, .nil => .nil
  | _, _, 0, .cons _ t => t
  | _, _, i + 1, .cons r t => .cons r (Vals.eraseIdx i t)
theorem Vals.reverse {xs : List V} {us : List Value} (h : Vals xs us) : Vals xs.reverse us.reverse := by
  induction h with
  | nil => exact .nil
  | cons r t ih => rw [List.reverse_cons, List.reverse_cons]; exact Vals.append ih (.cons r .nil)
theorem Vals.rep {xs : List V} {us : List Value} (h : Vals xs us) : ∀ k : Nat, Vals (List.replicate k xs).flatten (List.replicate k us).flatten
  | 0 => .nil
  | k + 1 => by
    rw [List.replicate_succ, List.replicate_succ, List.flatten_cons, List.flatten_cons]
    exact Vals.append h (Vals.rep h k)
theorem foldl_rep (its : List Value) : ∀ (k : Nat) (acc : List Value),
    List.foldl (fun x1 x2 => x1 ++ x2) acc.toArray (List.replicate k its.toArray) = (acc ++ (List.replicate k its).flatten).toArray
  | 0, acc => by simp
  | k + 1, acc => by
    have e : acc.toArray ++ its.toArray = (acc ++ its).toArray := by simp
    have e2 : (acc ++ its) ++ (List.replicate k its).flatten = acc ++ (List.replicate (k + 1) its).flatten := by
      rw [List.replicate_succ, List.flatten_cons, List.append_assoc]
    rw [← e2, ← foldl_rep its k (acc ++ its), ← e, List.replicate_succ, List.foldl_cons]
section
variable {X : Cx} {pins : List (Addr × Obj)} {σ : St} {H : Hp} {s : Shared} {l b : Addr} {xs ys zs : List V}
theorem Inv.lset {its its' : List Value} {n : Nat} {f : Array Value → Array Value} {t' : Nat} (I : Inv X pins σ H s) (hH : H l = some (.lst xs))
    (e : s.heap.get? l = some { cls := .type "list", data := .seq its.toArray n }) (hf : f its.toArray = its'.toArray) (hv : Vals ys its') (hz : ys.length ≤ sizeLine) :
    Inv X pins σ (upd H l (.lst ys)) { s with heap := s.heap.update l (Obj.mapSeq f), toks := t' } := by
  have q := PySem.IsL.update e f
  rw [hf] at q
  refine I.write (x := l) (e := l) (by rw [hH]; exact trivial) (.inl rfl) (fun b' u hb hu => (Heap.get?_update_other s.heap (Obj.mapSeq f) (Ne.symm hb)).trans hu) ⟨_, q⟩ ?_
  exact ⟨hz, its', _, hv, q⟩
theorem Inv.lnew {its : List Value} {t' : Nat} (I : Inv X pins σ H s) (hv : Vals ys its) (hz : ys.length ≤ sizeLine) :
    Inv X pins σ (upd H s.heap.objs.size (.lst ys)) { s with heap := s.heap.push { cls := .type "list", data := .seq its.toArray }, toks := t' } :=
  I.laid (fun _ _ q => Heap.get?_push_of_some _ q) (Nat.le_refl _) ⟨hz, its, 0, hv, Heap.get?_push_size _ rfl⟩
theorem Inv.fresh (I : Inv X pins σ H s) : H s.heap.objs.size = none := I.hok.fresh (Nat.le_refl _)
theorem Inv.lstM (I : Inv X pins σ H s) (hH : H l = some (.lst xs)) : xs.length ≤ sizeLine ∧ ∃ (its : List Value) (n : Nat), Vals xs its ∧ xs.length = its.length ∧ s.heap.get? l = some { cls := .type "list", data := .seq its.toArray n } := by
  obtain ⟨z, its, n, r, e⟩ := I.hok l _ hH
  exact ⟨z, its, n, r, r.length, e⟩
theorem notLongL {n : Nat} (h : n ≤ sizeLine) : Builtin.List.listTooLong n = false := by
  unfold Builtin.List.listTooLong
  exact decide_eq_false (by omega)
end
section
variable {X : Cx}
def rAppend : V → List V → Hp → VK → Prop := fun x vs H Q => ∃ l xs y, x = .ref l ∧ vs = [y] ∧ H l = some (.lst xs) ∧ xs.length < sizeLine ∧ Q .non (upd H l (.lst (xs ++ [y])))
theorem mt_append : MtM X "list.append" rAppend := by
  intro pins s σ H x vs v us Q I rx rv h
  obtain ⟨l, xs, y, rfl, rfl, hH, hz, q⟩ := h
  cases rx
  obtain ⟨u, rfl, ru⟩ := rv.one
  obtain ⟨z, its, n, r, hl, e⟩ := I.lstM hH
  refine call_meets F.slot_list_append ⟨_, e, rfl⟩ F.entry_list_append (F.args_list_append_2 _ _) (PySem.list_append l its.toArray n u (by rw [List.size_toArray]; omega)) ⟨e, ?_⟩
  refine ⟨.non, _, I.lset (its' := its ++ [u]) hH e (by simp) (r.append (.cons ru .nil)) ?_, rfl, q⟩
  rw [List.length_append, List.length_singleton]
  omega
def rExtend : V → List V → Hp → VK → Prop := fun x vs H Q => ∃ l b xs zs, x = .ref l ∧ vs = [.ref b] ∧ H l = some (.lst xs) ∧ H b = some (.lst zs) ∧ xs.length + zs.length ≤ sizeLine ∧ Q .non (upd H l (.lst (xs ++ zs)))
def rPop : V → List V → Hp → VK → Prop := fun x vs H Q => ∃ l xs y, x = .ref l ∧ vs = [] ∧ H l = some (.lst xs) ∧ xs[xs.length - 1]? = some y ∧ Q y (upd H l (.lst xs.dropLast))
def rPopAt : V → List V → Hp → VK → Prop := fun x vs H Q => ∃ l xs i k y, x = .ref l ∧ vs = [.int i] ∧ H l = some (.lst xs) ∧ -(2 ^ 63) ≤ i ∧ i < 2 ^ 63 ∧ seqIndex? i xs.length = some k ∧ xs[k]? = some y ∧ Q y (upd H l (.lst (xs.eraseIdx k)))
def rReverse : V → List V → Hp → VK → Prop := fun x vs H Q => ∃ l xs, x = .ref l ∧ vs = [] ∧ H l = some (.lst xs) ∧ Q .non (upd H l (.lst xs.reverse))
theorem mt_reverse : MtM X "list.reverse" rReverse := by
  intro pins s σ H x vs v us Q I rx rv h
  obtain ⟨l, xs, rfl, rfl, hH, q⟩ := h
  cases rx
  have hus := rv.zero
  subst hus
  obtain ⟨z, its, n, r, hl, e⟩ := I.lstM hH
  refine call_meets F.slot_list_reverse ⟨_, e, rfl⟩ F.entry_list_reverse (F.args_list_reverse_1 _) (AutoSeq1.list_reverse_list_0 l its.toArray n (by rw [List.size_toArray]; omega)) ⟨e, ?_⟩
  refine ⟨.non, _, I.lset (its' := its.reverse) hH e (by simp) r.reverse ?_, rfl, q⟩
  rw [List.length_reverse]
  omega
def rClear : V → List V → Hp → VK → Prop := fun x vs H Q => ∃ l xs, x = .ref l ∧ vs = [] ∧ H l = some (.lst xs) ∧ Q .non (upd H l (.lst []))
def rCat : R2 := fun x y H Q => ∃ l b xs zs, x = .ref l ∧ y = .ref b ∧ H l = some (.lst xs) ∧ H b = some (.lst zs) ∧ xs.length + zs.length ≤ sizeLine ∧ ∀ p, H p = none → Q (.ref p) (upd H p (.lst (xs ++ zs)))
theorem op_cat : OpR X (binaryOp .Add) rCat := by
  intro pins s σ H x y v u Q I rx ry h
  obtain ⟨l, b, xs, zs, rfl, rfl, hH, hB, hz, q⟩ := h
  cases rx
  cases ry
  obtain ⟨z, its, n, r, hl, e⟩ := I.lstM hH
  obtain ⟨z2, its2, n2, r2, hl2, e2⟩ := I.lstM hB
  refine PySem.P.add_list e e2 ?_ (by rw [List.size_toArray, List.size_toArray]; omega)
  have ea : its.toArray ++ its2.toArray = (its ++ its2).toArray := by simp
  rw [ea]
  exact ⟨.ref _, _, I.lnew (t' := s.toks) (r.append r2) (by rw [List.length_append]; omega), rfl, q _ I.fresh⟩
def rRep : R2 := fun x y H Q => ∃ l k xs, x = .ref l ∧ y = .int k ∧ H l = some (.lst xs) ∧ -(2 ^ 63) ≤ k ∧ k < 2 ^ 63 ∧ xs.length * k.toNat ≤ sizeLine ∧
  ∀ p, H p = none → Q (.ref p) (upd H p (.lst (List.replicate k.toNat xs).flatten))
theorem len_rep {α : Type} (xs : List α) (k : Nat) : (List.replicate k xs).flatten.length = k * xs.length := by
  induction k with
  | zero => simp
  | succ k ih => rw [List.replicate_succ, List.flatten_cons, List.length_append, ih, Nat.succ_mul, Nat.add_comm]
theorem op_rep : OpR X (binaryOp .Mult) rRep := by
  intro pins s σ H x y v u Q I rx ry h
  obtain ⟨l, k, xs, rfl, rfl, hH, h1, h2, hz, q⟩ := h
  cases rx
  obtain ⟨t, rfl⟩ := ry
  obtain ⟨z, its, n, r, hl, e⟩ := I.lstM hH
  have hlen : its.toArray.size * k.toNat ≤ sizeLine := by rw [List.size_toArray, ← hl]; exact hz
  have hcap : ¬ its.toArray.size * k.toNat > (2 ^ 63 - 1) / 8 := by
    have : (sizeLine : Nat) ≤ (2 ^ 63 - 1) / 8 := by decide
    omega
  have hfit : ¬ (!Builtin.List.listFitsIndex k) = true := by
    rw [fitsIndex_both h1 h2]
    exact Bool.false_ne_true
  have hlong : ¬ Builtin.List.listTooLong (its.toArray.size * k.toNat) = true := by
    rw [notLongL hlen]
    exact Bool.false_ne_true
  have hnew : List.foldl (fun x1 x2 => x1 ++ x2) #[] (List.replicate (if its.toArray.isEmpty = true then 0 else k.toNat) its.toArray) = (List.replicate k.toNat its).flatten.toArray := by
    have f0 : ∀ m : Nat, List.foldl (fun x1 x2 => x1 ++ x2) #[] (List.replicate m its.toArray) = (List.replicate m its).flatten.toArray := fun m => by
      have := foldl_rep its m []
      rw [List.nil_append] at this
      exact this
    rw [f0]
    cases its with
    | nil => simp
    | cons a r' => rw [if_neg (by simp)]
  refine wpAny_binaryOp_repeat_ref (T := "list") (U := "int") (by decide) ⟨_, e, rfl⟩ (fun s' => typeIs_int s' k t) noFill_list_mul F.fills_int_mul F.slot_int_rmul repeat_list F.slot_int_index.lookup
    (call_meets F.slot_int_rmul (typeIs_int s k t) F.entry_int_rmul (F.args_int_rmul_2 _ _) (int___rmul___int_list k t l its.toArray n)
      ⟨e, rfl, ⟨_, e, rfl⟩, call_meets F.slot_list_mul ⟨_, e, rfl⟩ F.entry_list_mul (F.args_list_mul_2 _ _) (AutoListH.list___mul___list_int_3 l its.toArray n k t hfit hcap hlong) ⟨e, ?_⟩⟩)
  rw [hnew]
  exact ⟨.ref _, _, I.lnew (t' := s.toks) (r.rep k.toNat) (by rw [len_rep, Nat.mul_comm]; exact hz), rfl, q _ I.fresh⟩
end
section
variable {prog : Program} {w : World} {A : Around} {E : Value → Shared → Prop} {s : Shared}
end
section
variable {X : Cx}
end
end L2
namespace Att
open PySem PySem.W PySem.Calls PyProof.Rows
theorem ints_of_wellAll {P : Params} {h : Heap} : ∀ (ns : List Int) (vs : List Value), WellAll P h vs (ns.map WData.int) → IntsAre vs ns := by
  intro ns
  induction ns with
  | nil =>
    intro vs w
    rw [List.map_nil] at w
    cases w
    exact .nil
  | cons n ns ih =>
    intro vs w
    rw [List.map_cons] at w
    cases w with
    | cons a b =>
      cases a
      exact .cons _ _ (ih _ b)
theorem script_of {l : OpenLaw} {n : Nat} (hn : l.most = some n) {P : Params} {h : Heap} {args : List WData} {vals : List Value}
    (hpre : l.row.toRowW.claim.pre args = true) (hwl : WellAll P h vals args) :
    ∃ a vs ns, vals = [Value.ref a] ∧ args = [WData.list (ns.map WData.int)] ∧ h.get? a = some { cls := .type "list", data := .seq vs.toArray } ∧ IntsAre vs ns ∧ ns.length ≤ n := by
  have hsh : WShape.hasAll [] args [.list .int] = true := (pre_splitW hpre).1
  have hc : l.pre.holds [] { args := args } = true := (pre_splitW hpre).2
  obtain ⟨d, r, rfl, h1, h2⟩ := hasAllW_cons hsh
  obtain rfl := hasAllW_nil h2
  obtain ⟨xs, rfl, h3⟩ := hasW_list h1
  obtain ⟨ns, rfl⟩ := items_int h3
  have hlen : ns.length ≤ n := by
    unfold OpenLaw.pre at hc
    have h4 : (WTm.not (.lt (.lit (.int (n : Int))) (.len (.arg 0)))).holds [] { args := [.list (ns.map .int)] } = true := by
      have h4 := (holds_andW hc).1
      rw [hn] at h4
      exact h4
    have h5 := condW_of h4 (w_not (w_lt w_lit (w_len_list (w_arg rfl))))
    rw [List.length_map] at h5
    refine Nat.le_of_not_lt fun q => ?_
    have q' : (n : Int) < ((ns.length : Nat) : Int) := by omega
    first
      | (rw [decide_eq_true q'] at h5; exact absurd h5 (by decide))
      | (simp at h5; omega)
  cases hwl with
  | cons w1 w2 =>
    cases w2
    cases w1 with
    | list ho hall => exact ⟨_, _, ns, rfl, rfl, ho, ints_of_wellAll ns _ hall, hlen⟩
theorem post_true (l : OpenLaw) (args : List WData) : l.row.toRowW.claim.post args (.bool true) args = true :=
  postW_of (r := l.row.toRowW) (X := (true == true))
    (show WShape.has [] (.bool true) .bool = true by first | rfl | decide | simp [WShape.has, WShape.arms, WShape.armsAll])
    (show (WTm.eq .res (.lit (.bool true))).value [] { args := args, res := some (.bool true), after := args } = some (.bool (true == true)) from w_eq_bool (w_res rfl) w_lit) rfl
theorem attach_call {l : OpenLaw} {n : Nat} {q : Program} {loose : List Str} {XP : (Str → Option Value) → Heap → Prop} {YP : World → Heap → Prop} {d : DefRec}
    (hn : l.most = some n) (hdf : d.params.defaults = [])
    (call : ∀ (w : World) (s₀ s₁ : Shared) (mg mb : Str → Option Value) (fa : Addr) (o : Obj) (pm cd doc : Value) (a : Addr) (vs : List Value) (ns : List Int),
      Ground q loose [] XP w s₀ mg mb s₁.heap → YP w s₁.heap →
      s₁.heap.get? fa = some o → o.data = .func (docDef d.name d.params d.body d.scope pm cd doc) → s₁.heap.CodeRec cd d.name → mg d.name = some (.ref fa) →
      s₁.heap.get? a = some { cls := .type "list", data := .seq vs.toArray } → IntsAre vs ns → ns.length ≤ n → s₁.gens = #[] →
      codeAny (model l.prog w) callerA (.call (.ref fa) ⟨[.ref a], []⟩) (fun r s' => r = .ok (.ret (.bool true)) ∧ OldK s₁.heap s'.heap ∧ s'.os = s₁.os ∧ AllBare s'.gens) s₁) :
    WalkO q loose XP YP l.row.toRowW d [] (fun f vs => PySem.call f vs) := by
  intro w s₀ s₁ mg mb G Y fa o pm cd doc dV kV ho hd hcd hD hmg hg args vals as hpre hlay hrd hwl hlo
  obtain rfl : dV = .none := Dflts.none hD hdf
  obtain rfl : kV = .none := Dflts.noKw hD
  obtain ⟨a, vs, ns, rfl, rfl, hobj, hints, hlen⟩ := script_of hn hpre hwl
  refine enter_call (codeAny_mono (call w s₀ s₁ mg mb fa o pm cd doc a vs ns G Y ho (fd_plain hd) hcd hmg hobj hints hlen hg) fun r s' hq => ?_)
  obtain ⟨rfl, h2, h3, h4⟩ := hq
  exact ⟨.inl ⟨.bool true, .bool true, [], rfl, fun _ => rfl, .bool true, post_true l _, fun _ => ⟨List.Pairwise.nil, fun _ hm => (nomatch hm)⟩⟩, h2, h3, h4⟩
section
variable {prog : Program} {w : World} {A : Around} {E : Value → Shared → Prop} {s : Shared} {K : Frag}
def noObjs (h : Heap) : Heap := { h with objs := #[] }
def ledger (h : Heap) (L d : Addr) : List (Addr × Obj) := (List.range h.objs.size).filterMap fun a => if a = L ∨ a = d then none else (h.get? a).map fun o => (a, o)
end
end Att
namespace L2
open PySem PySem.Spec PyProof.Rows
theorem vals_ints : ∀ {vs : List Value} {ns : List Int}, IntsAre vs ns → Vals (ns.map V.int) vs
  | _, _, .nil => .nil
  | _, _, .cons n t h => .cons ⟨t, rfl⟩ (vals_ints h)
def Only (H : Hp) : Prop := ∀ b, H b = none ∨ ∃ o xs, H b = some (.frz o (.lst xs))
theorem law_call {P : Program} {w : World} {K : PySem.W.Frag} {mg mb : Str → Option Value} {CX : CXT} {k : Nat} {fa a : Addr} {fd : FuncData} {x : Str} {sp : Sp} {s₁ : Shared} {vs : List Value} {ns : List Int}
    (KX : K.In s₁.heap) (hns : s₁.heap.Ns mainGlobals mg) (hb : s₁.heap.Ns builtinsNs mb) (hbb : ∀ x : Str, x ≠ "__name__" → mb x = bootBuiltins x) (hlim : s₁.heap.NoLimit) (hg : s₁.gens = #[])
    (ha : s₁.heap.get? a = some { cls := .type "list", data := .seq vs.toArray }) (hi : IntsAre vs ns) (hl : ns.length ≤ sizeLine) (hr : Room k callerA)
    (F : ∀ base : Heap, K.In base → base.Ns mainGlobals mg → FnOk P w K mg base CX k fa fd [x] sp) (hbind : ∀ (s : Shared) (u : Value), BindsTo s fd ⟨[u], []⟩ [(x, u)])
    (hsp : ∀ H : Hp, Only H → SqL K H a (ns.map V.int) → sp [.ref a] H (fun v _ => v = .bl true) fun _ _ _ => False)
    (hCX : ∀ H e s', CX [] H s₁ (fun _ _ _ => False) e s' → False) :
    codeAny (model P w) callerA (.call (.ref fa) ⟨[.ref a], []⟩) (fun r s' => r = .ok (.ret (.bool true)) ∧ OldK s₁.heap s'.heap ∧ s'.os = s₁.os ∧ AllBare s'.gens) s₁ := by
  have rv := vals_ints hi
  have lenV := hi.length
  have core : ∀ H : Hp, Only H → SqL K H a (ns.map V.int) → HOk P w H s₁.heap → (∀ b, H b ≠ none → b = a) → (H a ≠ none → K.lookup a = none) →
      codeAny (model P w) callerA (.call (.ref fa) ⟨[.ref a], []⟩) (fun r s' => r = .ok (.ret (.bool true)) ∧ OldK s₁.heap s'.heap ∧ s'.os = s₁.os ∧ AllBare s'.gens) s₁ := by
    intro H hO hS hok hA hK
    have base_of : ∀ {b : Addr} {o : Obj}, s₁.heap.get? b = some o → H b = none → (hidT s₁.heap H).get? b = some o := fun e n => hidT_get e n
    have noA : ∀ {b : Addr} {o : Obj} {es : Array DictEntry} {ep : Nat}, s₁.heap.get? b = some o → o.data = .dict es ep → H b = none := fun {b o es ep} e d => by
      cases q : H b with
      | none => rfl
      | some u =>
        have e' : b = a := hA b (by rw [q]; simp)
        subst e'
        rw [ha] at e; cases e
        have d' : Data.seq vs.toArray _ = Data.dict es ep := d
        cases d'
    have nsK : ∀ {b : Addr} {m : Str → Option Value}, s₁.heap.Ns b m → (hidT s₁.heap H).Ns b m := fun {b m} ⟨o, es, ep, e, d, r⟩ => ⟨o, es, ep, base_of e (noA e d), d, r⟩
    have hKb : K.In (hidT s₁.heap H) := fun b o e => base_of (KX b o e) (by
      cases q : H b with
      | none => rfl
      | some u =>
        have e' : b = a := hA b (by rw [q]; simp)
        subst e'
        rw [hK (by rw [q]; simp)] at e; cases e)
    have hM : Mod K mg (hidT s₁.heap H) := ⟨hKb, nsK hns, ⟨mb, nsK hb, hbb⟩, let ⟨mc, h1, h2⟩ := hlim; ⟨mc, nsK h1, h2⟩⟩
    have e0 : Env0 P w K mg (hidT s₁.heap H) callerA [] s₁ H := ⟨rfl, hM, fun b o e => of_hidT e, Nat.le_of_eq (hidT_size _ _), trivial, fun b hb => absurd (show b ∈ ([] : List Addr) from hb) (by simp), hok, .of_eq hg⟩
    refine codeAny_mono ((F _ hKb (nsK hns)).run callerA [] s₁ H ⟨[.ref a], []⟩ [.ref a] [.ref a] _ _ hr e0 (hbind s₁ (.ref a)) (.cons rfl .nil) (hsp H hO hS)) fun r s' h => ?_
    cases r with
    | error e => exact (hCX H e s' h).elim
    | ok fl =>
      cases fl with
      | next => exact False.elim h
      | brk => exact False.elim h
      | cont => exact False.elim h
      | ret u =>
        obtain ⟨v, H', os, bare, un, hok', r', q⟩ := h
        have q' : v = .bl true := q
        subst q'
        obtain rfl : u = Value.bool true := r'
        refine ⟨rfl, OldK.of_keep fun b o e => ?_, os, bare⟩
        cases q : H b with
        | none => exact un.keep b o e q (by intro z; exact absurd (show b ∈ ([] : List Addr) from z) (by simp)) (by simp)
        | some u =>
          rcases hO b with z | ⟨ob, xs, z⟩
          · rw [q] at z; cases z
          · have z2 := un.frzs b ob _ z
            obtain ⟨e1, _⟩ := hok b _ z
            obtain ⟨e2, _⟩ := hok' b _ z2
            rw [e] at e1; cases e1
            exact e2
  cases hk : K.lookup a with
  | some o =>
    have e := KX a o hk
    rw [ha] at e
    cases e
    refine core (fun _ => none) (fun _ => .inl rfl) (.inr ⟨_, vs.toArray, _, hk, rfl, rfl, rfl, by rw [List.size_toArray, lenV]; exact hl, by simpa using rv⟩) (fun b u z => by have z' : (none : Option HO) = some u := z; cases z') (fun b z => absurd rfl z) fun z => absurd rfl z
  | none =>
    refine core (fun b => if b = a then some (.frz { cls := .type "list", data := .seq vs.toArray } (.lst (ns.map V.int))) else none) (fun b => ?_) (.inl (.inr ⟨{ cls := .type "list", data := .seq vs.toArray }, if_pos rfl⟩)) (fun b u z => ?_) (fun b z => ?_) fun _ => hk
    · by_cases hb : b = a
      · exact .inr ⟨_, _, if_pos hb⟩
      · exact .inl (if_neg hb)
    · by_cases hb : b = a
      · have z' := (if_pos hb).symm.trans z
        cases z'
        subst hb
        exact ⟨ha, by rw [List.length_map]; exact hl, vs, _, rv, ha⟩
      · have z' := (if_neg hb).symm.trans z
        cases z'
    · by_cases hb : b = a
      · exact hb
      · exact absurd (if_neg hb) z
end L2
namespace L2
open PySem PySem.Spec PyProof.Rows
abbrev KOf {K : PySem.W.Frag} {h : Heap} (_ : K.In h) : PySem.W.Frag := K
theorem walk_of {l : PySem.W.OpenLaw} {n k : Nat} {q : Program} {loose : List Str} {XP : (Str → Option Value) → Heap → Prop} {YP : World → Heap → Prop} {d : DefRec} {K : Params → PySem.W.Frag} {CX : World → CXT} {sp : World → Sp} {x : Str}
    (hn : l.most = some n) (hn2 : n ≤ sizeLine) (hdf : d.params.defaults = []) (hr : Room k callerA)
    (hY : ∀ (w : World) (h : Heap), YP w h → (K w.params).In h)
    (F : ∀ (w : World) (mg : Str → Option Value) (fa : Addr) (h : Heap), (K w.params).In h → h.Ns mainGlobals mg → mg d.name = some (.ref fa) →
      ∃ fd : FuncData, (∀ (s : Shared) (u : Value), BindsTo s fd ⟨[u], []⟩ [(x, u)]) ∧
        ∀ base : Heap, (K w.params).In base → base.Ns mainGlobals mg → FnOk l.prog w (K w.params) mg base (CX w) k fa fd [x] (sp w))
    (hsp : ∀ (w : World) (H : Hp) (a : Addr) (ns : List Int), ns.length ≤ n → Only H → SqL (K w.params) H a (ns.map V.int) → sp w [.ref a] H (fun v _ => v = .bl true) fun _ _ _ => False)
    (hCX : ∀ (w : World) (H : Hp) (s : Shared) (e : Value) (s' : Shared), CX w [] H s (fun _ _ _ => False) e s' → False) :
    PySem.W.WalkO q loose XP YP l.row.toRowW d [] (fun f vs => PySem.call f vs) := by
  refine Att.attach_call hn hdf fun w s₀ s₁ mg mb fa o pm cd doc a vs ns G Y ho hd hcd hmg hobj hints hlen hg => ?_
  have KX := hY w _ Y
  obtain ⟨fd, hb, hF⟩ := F w mg fa _ KX G.T.g hmg
  exact law_call KX G.T.g G.T.b G.T.builtins G.T.nolimit hg hobj hints (Nat.le_trans hlen hn2) hr hF hb (fun H hO hS => hsp w H a ns hlen hO hS) fun H e s' => hCX w H s₁ e s'
end L2
/- THE LAST THEOREM (shape; LID, My.* are yours):
   My.Adr: a structure of the addresses that your layer names (classes, functions); My.Txt K t: a structure (Prop) of the equations over K;
   My.txt_mk : {K} {implicit addresses ..} (e1 : nsIn K mainGlobals "law" = some (some (.ref f))) (e2 : K.lookup f = some ⟨oc, od, .func (fnOf "law" "law" params body scope dV kV doc pm an cdv ct), sl⟩) (e3 : codeIn K cdv "law" = true) .. : ∃ t, My.Txt K t
set_option maxRecDepth 100000 in
set_option maxHeartbeats 0 in
theorem PySem.Challenge.cw_LID_holds : PySem.Challenge.rw_LID.Holds := by
  w_on; o_law; k_head; (case hw => w_witness2)
  k_fill
  refine L2.walk_of (l := PySem.Challenge.rw_LID) (n := 63) (k := 40) (x := "script") (CX := fun w => ..) (sp := fun _ => My.sp_law) rfl (by decide) rfl ⟨rfl, by decide, by decide⟩ (fun w h Y => PySem.W.kIn_of Y) ?F ?S ?C
  case F =>
    intro w mg fa h KX G hmg
    have T : ∃ t, My.Txt (L2.KOf KX) t := by
      dsimp only [L2.KOf]                          -- K must stand as «<heap const> w.params» for k_is
      refine' My.txt_mk ?e1 ?e2 ?e3 ..
      (case e1 => PySem.W.k_is)                    -- in the order: a name -> its address -> its object -> its parts
      (case e2 => PySem.W.k_is)
      ..
    obtain ⟨t, T⟩ := T
    have e0 := hmg.symm.trans (PySem.W.mg_of KX G T.law)
    cases e0                                       -- fa is the law's own address
    exact ⟨_, fun s u => .of_eq rfl, fun base kb nb => My.law_fn T kb nb⟩     -- if «.of_eq rfl» comes too early: refine' ⟨_, ?b, fun base kb nb => My.law_fn T kb nb⟩; exact fun s u => .of_eq rfl
  case S => exact fun w H a ns hl hO hS => ..
  case C => exact ..
(the tactic k_is has no namespace: write k_is) -/
namespace L2
open PySem PySem.Spec PyProof.Rows
def inClass (s : Stmt) (j : Nat) : Stmt := match s with
  | .ClassDef _ _ _ body _ _ _ _ _ _ _ => body.getD j (.Pass ⟨0, 0, 0, 0⟩)
  | _ => .Pass ⟨0, 0, 0, 0⟩
def defArgs (s : Stmt) : Arguments := match s with
  | .FunctionDef _ a _ _ _ _ _ _ _ _ => a
  | _ => { posonlyargs := [], args := [], vararg := none, kwonlyargs := [], kw_defaults := [], kwarg := none, defaults := [] }
def defBody (s : Stmt) : List Stmt := match s with
  | .FunctionDef _ _ b _ _ _ _ _ _ _ => b
  | _ => []
def defScope (s : Stmt) : Scope := match s with
  | .FunctionDef _ _ _ _ _ _ sc _ _ _ => sc
  | _ => { kind := .function, names := [], isGenerator := false, isCoroutine := false }
abbrev CX0 : CXT := fun _ _ _ _ _ _ => False
abbrev E0 : XK := fun _ _ _ => False
structure Fun (K : PySem.W.Frag) (x qual : Str) (st : Stmt) (f : Addr) (fd : FuncData) : Prop where
  ex : ∃ (oc : Value) (od : Option Addr) (kV doc pm : Value) (an : Option Addr) (cdv ct : Value) (osl : Array (Option Value)),
    fd = PySem.W.fnOf x qual (defArgs st) (defBody st) (defScope st) .none kV doc pm an cdv ct ∧ K.lookup f = some ⟨oc, od, .func fd, osl⟩ ∧ PySem.W.codeIn K cdv qual = true
  kp : PySem.W.keepIn K (.ref f) = true
section
variable {P : Program} {w : World} {K : PySem.W.Frag} {mg : Str → Option Value} {base : Heap}
theorem Fun.ok {x qual : Str} {st : Stmt} {f : Addr} {fd : FuncData} {N ps : List Str} {k : Nat} {sp : Sp} (F : Fun K x qual st f fd) (S : FnScope N ps (defScope st)) (len : ∀ vs H Q E, sp vs H Q E → vs.length = ps.length)
    (hbody : ∀ (cdv : Value) (A : Around) (outer : List Env) (s : Shared) (H : Hp) (vs : List V) (Q : VK) (E : XK), Room k (A.deeper (envOfC qual (defScope st) s.heap.objs.size f cdv)) → sp vs H Q E →
      ∃ t, PSs (cxOf CX0 P w K mg base N qual (defScope st) f cdv A outer s H E).nox (defBody st) t ∧ t { nx := fun _ H' => Q .non H', rt := Q } (start N vs) H) : FnOk P w K mg base CX0 (k + 1) f fd ps sp := by
  obtain ⟨oc, od, kV, doc, pm, an, cdv, ct, osl, rfl, lk, hcd⟩ := F.ex
  refine fn_of lk hcd S len fun A outer s H vs Q E hr hsp => ?_
  obtain ⟨t, h, q⟩ := hbody cdv A outer s H vs Q E hr hsp
  exact ⟨t, h.nox, q⟩
theorem Fun.binds {x qual : Str} {st : Stmt} {f : Addr} {fd : FuncData} {ps : List Str} (F : Fun K x qual st f fd)
    (h : ∀ (kV doc pm : Value) (an : Option Addr) (cdv ct : Value) (us : List Value), us.length = ps.length → bindArgs (PySem.W.fnOf x qual (defArgs st) (defBody st) (defScope st) .none kV doc pm an cdv ct) ⟨us, []⟩ = pure (ps.zip us)) : Binds K fd ps [] := by
  obtain ⟨oc, od, kV, doc, pm, an, cdv, ct, osl, rfl, lk, hcd⟩ := F.ex
  exact .all (h kV doc pm an cdv ct)
theorem fun_mk {x qual : Str} {st : Stmt} {f : Addr} {oc : Value} {od an : Option Addr} {osl : Array (Option Value)} {kV doc pm cdv ct : Value} (l : K.lookup f = some ⟨oc, od, .func (PySem.W.fnOf x qual (defArgs st) (defBody st) (defScope st) .none kV doc pm an cdv ct), osl⟩)
    (c : PySem.W.codeIn K cdv qual = true) (k : PySem.W.keepIn K (.ref f) = true) : Fun K x qual st f (PySem.W.fnOf x qual (defArgs st) (defBody st) (defScope st) .none kV doc pm an cdv ct) := ⟨⟨oc, od, kV, doc, pm, an, cdv, ct, osl, rfl, l, c⟩, k⟩
end
theorem hu_of {A : Around} {k : Nat} (hr : Room k A) : A.units + 1 < cLine := Nat.lt_of_le_of_lt (Nat.add_le_add_left (by decide : 1 ≤ 64) _) hr.units
section
variable {X : Cx}
theorem pv (i : Nat) {x : Str} {pos : Pos} (hN : X.N[i]? = some x := by rfl) (hv : Vis X.env.scope x := by first | exact Or.inl rfl | exact Or.inr (Or.inl rfl) | exact Or.inr (Or.inr rfl)) (hd : (x == ("__debug__" : Str)) = false := by decide)
    (hcd : (x == ("__classdict__" : Str)) = false := by decide) : PE X (.Name x pos) (tVar i) := pe_var hN hv hd hcd
end
def Same (H H' : Hp) : Prop := ∀ b o, H b = some o → H' b = some o
theorem Same.refl (H : Hp) : Same H H := fun _ _ h => h
theorem Same.trans {H H1 H2 : Hp} (a : Same H H1) (b : Same H1 H2) : Same H H2 := fun c o h => b c o (a c o h)
theorem Same.free {H H' : Hp} (e : Same H H') {l : Addr} (h : H' l = Option.none) : H l = Option.none := by
  cases q : H l with
  | none => rfl
  | some o =>
    rw [e l o q] at h
    cases h
theorem Same.seq {K : PySem.W.Frag} {H H' : Hp} {a : Addr} {xs : List V} (e : Same H H') (h : SqL K H a xs) : SqL K H' a xs := by
  rcases h with (h | ⟨o, h⟩) | h
  · exact .inl (.inl (e _ _ h))
  · exact .inl (.inr ⟨o, e _ _ h⟩)
  · exact .inr h
end L2
set_option Elab.async false
set_option linter.all false
set_option maxRecDepth 100000
namespace L2
open PySem PySem.Spec PyProof.Rows
section
variable {κ : Type} [DecidableEq κ]
def valV (kvs : List (κ × V)) (k : κ) : Option V := (kvs.find? fun kv => decide (kv.1 = k)).map (·.2)
def putK (kvs : List (κ × V)) (k : κ) (v : V) : List (κ × V) :=
  if (kvs.any fun kv => decide (kv.1 = k)) = true then kvs.map (fun kv => if kv.1 = k then (kv.1, v) else kv) else kvs ++ [(k, v)]
def dropK (kvs : List (κ × V)) (k : κ) : List (κ × V) := kvs.filter fun kv => decide (kv.1 ≠ k)
theorem valV_pos {p : κ × V} {r : List (κ × V)} {k : κ} (e : p.1 = k) : valV (p :: r) k = some p.2 := by simp [valV, List.find?_cons, e]
theorem valV_neg {p : κ × V} {r : List (κ × V)} {k : κ} (e : ¬ p.1 = k) : valV (p :: r) k = valV r k := by simp [valV, List.find?_cons, e]
theorem valV_any (k : κ) : ∀ kvs : List (κ × V), (kvs.any fun kv => decide (kv.1 = k)) = (valV kvs k).isSome
  | [] => rfl
  | p :: r => by
    rw [List.any_cons]
    by_cases e : p.1 = k
    · simp only [valV_pos e, decide_eq_true e, Bool.true_or, Option.isSome_some]
    · rw [valV_neg e, decide_eq_false e, Bool.false_or]; exact valV_any k r
theorem length_putK (kvs : List (κ × V)) (k : κ) (v : V) : (putK kvs k v).length ≤ kvs.length + 1 := by
  unfold putK
  split
  · rw [List.length_map]; omega
  · rw [List.length_append, List.length_cons, List.length_nil]; omega
theorem RelO.isSome_eq {o : Option V} {u : Option Value} (r : RelO o u) : o.isSome = u.isSome := by
  cases o with
  | none => cases u with
    | none => rfl
    | some _ => exact (show False from r).elim
  | some _ => cases u with
    | none => exact (show False from r).elim
    | some _ => rfl
theorem RelO.getD {o : Option V} {u : Option Value} {d : V} {d' : Value} (r : RelO o u) (rd : RelV d d') : RelV (o.getD d) (u.getD d') := by
  cases o with
  | none => cases u with
    | none => exact rd
    | some _ => exact (show False from r).elim
  | some _ => cases u with
    | none => exact (show False from r).elim
    | some _ => exact r
theorem KV.val {kvs : List (κ × V)} {vs : List (κ × Value)} (r : KV kvs vs) (k : κ) : RelO (valV kvs k) (valueAt vs k) := by
  unfold KV at r
  induction r with
  | nil => exact True.intro
  | @cons p q ps qs h t ih =>
    obtain ⟨h1, h2⟩ := h
    by_cases e : p.1 = k
    · have e' : q.1 = k := h1.symm.trans e
      have b : valueAt (q :: qs) k = some q.2 := by simp [valueAt, List.find?_cons, e']
      rw [valV_pos e, b]; exact h2
    · have e' : ¬ q.1 = k := fun z => e (h1.trans z)
      have b : valueAt (q :: qs) k = valueAt qs k := by simp [valueAt, List.find?_cons, e']
      rw [valV_neg e, b]; exact ih
theorem KV.any {kvs : List (κ × V)} {vs : List (κ × Value)} (r : KV kvs vs) (k : κ) : (kvs.any fun kv => decide (kv.1 = k)) = vs.any fun kv => decide (kv.1 = k) := by
  unfold KV at r
  induction r with
  | nil => rfl
  | cons h t ih => rw [List.any_cons, List.any_cons, ih, h.1]
theorem KV.repl {kvs : List (κ × V)} {vs : List (κ × Value)} (r : KV kvs vs) (k : κ) {y : V} {u : Value} (ry : RelV y u) :
    KV (kvs.map fun kv => if kv.1 = k then (kv.1, y) else kv) (vs.map fun kv => if kv.1 = k then (kv.1, u) else kv) := by
  unfold KV at r ⊢
  induction r with
  | nil => exact .nil
  | @cons p q ps qs h t ih =>
    rw [List.map_cons, List.map_cons]
    refine .cons ?_ ih
    obtain ⟨h1, h2⟩ := h
    by_cases e : p.1 = k
    · rw [if_pos e, if_pos (h1.symm.trans e)]; exact ⟨h1, ry⟩
    · rw [if_neg e, if_neg (fun z => e (h1.trans z))]; exact ⟨h1, h2⟩
theorem KV.put {kvs : List (κ × V)} {vs : List (κ × Value)} (r : KV kvs vs) (k : κ) {y : V} {u : Value} (ry : RelV y u) : KV (putK kvs k y) (stored vs k u) := by
  unfold putK stored
  rw [r.any k]
  by_cases e : (vs.any fun kv => decide (kv.1 = k)) = true
  · rw [if_pos e, if_pos e]; exact r.repl k ry
  · rw [if_neg e, if_neg e]; exact Paired.snoc r ⟨rfl, ry⟩
theorem KV.drop {kvs : List (κ × V)} {vs : List (κ × Value)} (r : KV kvs vs) (k : κ) : KV (dropK kvs k) (without vs k) := by
  unfold KV at r ⊢
  unfold dropK without
  induction r with
  | nil => exact .nil
  | @cons p q ps qs h t ih =>
    obtain ⟨h1, h2⟩ := h
    rw [List.filter_cons, List.filter_cons]
    by_cases e : p.1 = k
    · have a : ¬ decide (p.1 ≠ k) = true := by simp [e]
      have b : ¬ decide (q.1 ≠ k) = true := by simp [h1.symm.trans e]
      rw [if_neg a, if_neg b]; exact ih
    · have e' : ¬ q.1 = k := fun z => e (h1.trans z)
      have a : decide (p.1 ≠ k) = true := by simp [e]
      have b : decide (q.1 ≠ k) = true := by simp [e']
      rw [if_pos a, if_pos b]; exact .cons ⟨h1, h2⟩ ih
theorem KV.keys {kvs : List (κ × V)} {vs : List (κ × Value)} (r : KV kvs vs) : kvs.map (·.1) = vs.map (·.1) := by
  unfold KV at r
  induction r with
  | nil => rfl
  | cons h t ih => rw [List.map_cons, List.map_cons, ih, h.1]
theorem KV.length {kvs : List (κ × V)} {vs : List (κ × Value)} (r : KV kvs vs) : kvs.length = vs.length := Paired.length r
end
theorem kV_is {P : Program} {w : World} {k : Key} {u : Value} (r : RelV (kV k) u) : (mixKind P w).is k u = true := by
  cases k with
  | inl i => obtain ⟨t, e⟩ := (show ∃ t, u = Value.int i t from r); subst e; exact mixKind_int P w i t
  | inr x => obtain ⟨t, e⟩ := (show ∃ t, u = Value.str x t from r); subst e; exact mixKind_str P w x t
theorem items_are {P : Program} {w : World} : ∀ {ks : List Key} {us : List Value}, Vals (ks.map kV) us → ItemsAre (mixKind P w) ks us
  | [], _, r => by rw [List.map_nil] at r; cases r; exact .nil
  | k :: ks, _, r => by
    rw [List.map_cons] at r
    cases r with
    | cons h t => exact .cons (kV_is h) (items_are t)
abbrev KT (H : Hp) : List (List Key × V) → List (List Key × Addr × Value) → Prop := Paired fun p q => p.1 = q.1 ∧ H q.2.1 = some (.tup (p.1.map kV)) ∧ RelV p.2 q.2.2
theorem KT.val {H : Hp} {kvs : List (List Key × V)} {xs : List (List Key × Addr × Value)} (r : KT H kvs xs) (k : List Key) : RelO (valV kvs k) ((atKey xs k).map (·.2)) := by
  induction r with
  | nil => exact True.intro
  | @cons p q ps qs h t ih =>
    obtain ⟨h1, _, h2⟩ := h
    by_cases e : p.1 = k
    · have e' : q.1 = k := h1.symm.trans e
      have b : atKey (q :: qs) k = some q.2 := by simp [atKey, List.find?_cons, e']
      rw [valV_pos e, b]; exact h2
    · have e' : ¬ q.1 = k := fun z => e (h1.trans z)
      have b : atKey (q :: qs) k = atKey qs k := by simp [atKey, List.find?_cons, e']
      rw [valV_neg e, b]; exact ih
theorem KT.repl {H : Hp} {kvs : List (List Key × V)} {xs : List (List Key × Addr × Value)} (r : KT H kvs xs) (k : List Key) {y : V} {u : Value} (ry : RelV y u) :
    KT H (kvs.map fun kv => if kv.1 = k then (kv.1, y) else kv) (xs.map (putAt k u)) := by
  induction r with
  | nil => exact .nil
  | @cons p q ps qs h t ih =>
    rw [List.map_cons, List.map_cons]
    refine .cons ?_ ih
    obtain ⟨h1, h2, h3⟩ := h
    unfold putAt
    by_cases e : p.1 = k
    · rw [if_pos e, if_pos (h1.symm.trans e)]; exact ⟨h1, h2, ry⟩
    · rw [if_neg e, if_neg (fun z => e (h1.trans z))]; exact ⟨h1, h2, h3⟩
theorem KT.put {H : Hp} {kvs : List (List Key × V)} {xs : List (List Key × Addr × Value)} (r : KT H kvs xs) (k : List Key) {b : Addr} {y : V} {u : Value} (hb : H b = some (.tup (k.map kV))) (ry : RelV y u) :
    KT H (putK kvs k y) (storedH xs k b u) := by
  have e : (kvs.any fun kv => decide (kv.1 = k)) = (atKey xs k).isSome := by
    rw [valV_any, (r.val k).isSome_eq, Option.isSome_map]
  unfold putK storedH
  rw [e]
  by_cases q : (atKey xs k).isSome = true
  · rw [if_pos q, if_pos q]; exact r.repl k ry
  · rw [if_neg q, if_neg q]; exact Paired.snoc r ⟨rfl, hb, ry⟩
theorem KT.keeps {H H' : Hp} {kvs : List (List Key × V)} {xs : List (List Key × Addr × Value)} (r : KT H kvs xs) (ht : ∀ b ys, H b = some (.tup ys) → H' b = some (.tup ys)) : KT H' kvs xs :=
  Paired.mapP r fun _ _ z => ⟨z.1, ht _ _ z.2.1, z.2.2⟩
section
variable {P : Program} {w : World} {H : Hp} {h : Heap} {a : Addr}
theorem rd_of {u : HO} (ok : HOk P w H h) (e : Rd H a u) : ObjOk P w H h a u := e.ok ok
theorem dk_rd {kvs : List (Key × V)} (ok : HOk P w H h) (e : Rd H a (.dK kvs)) : kvs.length ≤ sizeLine ∧ (a == sysModules) = false ∧ ∃ vs, KV kvs vs ∧ h.DictOf (mixKind P w) a vs :=
  show ObjOk P w H h a (.dK kvs) from rd_of ok e
theorem dk_of {kvs : List (Key × V)} (ok : HOk P w H h) (e : H a = some (.dK kvs)) : kvs.length ≤ sizeLine ∧ (a == sysModules) = false ∧ ∃ vs, KV kvs vs ∧ h.DictOf (mixKind P w) a vs := dk_rd ok (.inl e)
theorem key_of {ks : List Key} (ok : HOk P w H h) (e : H a = some (.tup (ks.map kV))) : (tupleKind (mixKind P w)).is h ks a := by
  obtain ⟨_, its, r, o, h1, h2, n, h3⟩ := (show ObjOk P w H h a (.tup (ks.map kV)) from ok a _ e)
  exact ⟨o, its.toArray, n, h1, h2, h3, by simpa using items_are r⟩
theorem dt_rd {kvs : List (List Key × V)} (ok : HOk P w H h) (e : Rd H a (.dT kvs)) : kvs.length ≤ sizeLine ∧ (a == sysModules) = false ∧
    ∃ xs, KT H kvs xs ∧ h.DictOfH (tupleKind (mixKind P w)) a xs := by
  obtain ⟨z, y, xs, r, o, es, ep, h1, h2, h3, h4, h5⟩ := (show ObjOk P w H h a (.dT kvs) from rd_of ok e)
  refine ⟨z, y, xs, r, o, es, ep, h1, h2, h3, h4, fun x hx => ?_, h5⟩
  have all : ∀ {l : List (List Key × V)} {m : List (List Key × Addr × Value)}, KT H l m → ∀ x ∈ m, (tupleKind (mixKind P w)).is h x.1 x.2.1 := by
    intro l m q
    induction q with
    | nil => intro x hx; exact nomatch hx
    | @cons p q ps qs hq t ih =>
      intro x hx
      rcases List.mem_cons.mp hx with e | hx
      · subst e
        exact key_of ok (by rw [← hq.1]; exact hq.2.1)
      · exact ih x hx
  exact all r x hx
theorem dt_of {kvs : List (List Key × V)} (ok : HOk P w H h) (e : H a = some (.dT kvs)) : kvs.length ≤ sizeLine ∧ (a == sysModules) = false ∧
    ∃ xs, KT H kvs xs ∧ h.DictOfH (tupleKind (mixKind P w)) a xs := dt_rd ok (.inl e)
end
def DGet (H : Hp) (a : Addr) (y : V) (r : Option V) : Prop :=
  (∃ kvs k, Rd H a (.dK kvs) ∧ y = kV k ∧ r = valV kvs k) ∨ ∃ kvs k b, Rd H a (.dT kvs) ∧ y = .ref b ∧ H b = some (.tup (k.map kV)) ∧ r = valV kvs k
def DPut (H : Hp) (a : Addr) (y v : V) (H' : Hp) : Prop :=
  (∃ kvs k, H a = some (.dK kvs) ∧ y = kV k ∧ kvs.length < sizeLine ∧ H' = upd H a (.dK (putK kvs k v))) ∨
  ∃ kvs k b, H a = some (.dT kvs) ∧ y = .ref b ∧ H b = some (.tup (k.map kV)) ∧ kvs.length < sizeLine ∧ H' = upd H a (.dT (putK kvs k v))
theorem DGet.k {H : Hp} {a : Addr} {kvs : List (Key × V)} {k : Key} (e : H a = some (.dK kvs)) : DGet H a (kV k) (valV kvs k) := .inl ⟨kvs, k, .inl e, rfl, rfl⟩
theorem DGet.t {H : Hp} {a b : Addr} {kvs : List (List Key × V)} {k : List Key} (e : H a = some (.dT kvs)) (eb : H b = some (.tup (k.map kV))) : DGet H a (.ref b) (valV kvs k) := .inr ⟨kvs, k, b, .inl e, rfl, eb, rfl⟩
theorem DPut.k {H : Hp} {a : Addr} {kvs : List (Key × V)} {k : Key} {v : V} (e : H a = some (.dK kvs)) (hl : kvs.length < sizeLine) : DPut H a (kV k) v (upd H a (.dK (putK kvs k v))) := .inl ⟨kvs, k, e, rfl, hl, rfl⟩
theorem DPut.t {H : Hp} {a b : Addr} {kvs : List (List Key × V)} {k : List Key} {v : V} (e : H a = some (.dT kvs)) (eb : H b = some (.tup (k.map kV))) (hl : kvs.length < sizeLine) :
    DPut H a (.ref b) v (upd H a (.dT (putK kvs k v))) := .inr ⟨kvs, k, b, e, rfl, eb, hl, rfl⟩
section
variable {X : Cx} {pins : List (Addr × Obj)} {σ : St} {H : Hp} {s : Shared} {a : Addr} {y v : V} {u r : Value} {o : Option V} {A : Around} {E : Value → Shared → Prop}
theorem Inv.big (I : Inv X pins σ H s) : sysModules < s.heap.objs.size := by
  have h : mainGlobals < s.heap.objs.size := (I.mod.glob.keeps I.bk).lt
  exact Nat.lt_trans (by decide) h
theorem d_getItem {Q : Value → Shared → Prop} (hu : A.units + 1 < cLine) (I : Inv X pins σ H s) (g : DGet H a y (some v)) (ry : RelV y u) (h : ∀ w' s', Inv X pins σ H s' → RelV v w' → Q w' s') :
    wpAny (model X.prog X.w) A (getItem (.ref a) u) Q E s := by
  rcases g with ⟨kvs, k, e, ey, l⟩ | ⟨kvs, k, b, e, ey, eb, l⟩
  · subst ey
    obtain ⟨z, hd, vs, rel, dd⟩ := dk_rd I.hok e
    obtain ⟨w', hw, rw'⟩ := RelO.some_of (v := v) (o := valueAt vs k) (by rw [l]; exact rel.val k)
    exact wpAny_getItem_of (kV_is ry) dd.mapOf hw (h w' _ (I.tok _) rw')
  · subst ey
    cases (show u = Value.ref b from ry)
    obtain ⟨z, hd, xs, rel, dd⟩ := dt_rd I.hok e
    obtain ⟨w', hw, rw'⟩ := RelO.some_of (v := v) (o := (atKey xs k).map (·.2)) (by rw [l]; exact rel.val k)
    obtain ⟨p, hp, hp2⟩ := Option.map_eq_some_iff.mp hw
    refine wpAny_getItem_heap (tupleKind_room_in1 hu) (key_of I.hok eb) dd hp ?_
    rw [hp2]
    exact h w' _ (I.tok _) rw'
theorem d_write {h' : Heap} {t' : Nat} {ob : HO} (I : Inv X pins σ H s) (mu : Mut (H a)) (hs : Heap.SameBut a s.heap h') (he : ∃ q, h'.get? a = some q) (new : ObjOk X.prog X.w (upd H a ob) h' a ob) :
    Inv X pins σ (upd H a ob) { s with heap := h', toks := t' } :=
  I.write (x := a) (e := a) mu (.inl rfl) (fun b q hb z => (hs.2 b hb).trans z) he new
theorem dk_new {P : Program} {w : World} {H' : Hp} {h' : Heap} {kvs : List (Key × V)} {vs : List (Key × Value)} (z : kvs.length ≤ sizeLine) (hd : (a == sysModules) = false) (rel : KV kvs vs) (dd : h'.DictOf (mixKind P w) a vs) :
    ObjOk P w H' h' a (.dK kvs) := ⟨z, hd, vs, rel, dd⟩
theorem d_setItem {H' : Hp} {Q : Unit → Shared → Prop} (hu : A.units + 1 < cLine) (I : Inv X pins σ H s) (g : DPut H a y v H') (ry : RelV y u) (rv : RelV v r) (h : ∀ s', Inv X pins σ H' s' → Q () s') :
    wpAny (model X.prog X.w) A (setItem (.ref a) u r) Q E s := by
  rcases g with ⟨kvs, k, e, ey, l, eH⟩ | ⟨kvs, k, b, e, ey, eb, l, eH⟩
  · subst ey eH
    obtain ⟨z, hd, vs, rel, dd⟩ := dk_of I.hok e
    have hz : vs.length ≤ sizeLine := by rw [← rel.length]; exact z
    have hl : (putK kvs k v).length ≤ sizeLine := by have := length_putK kvs k v; omega
    refine wpAny_setItem_pairs (hsz := hz) (kV_is ry) dd fun h' dd' hs => h _ ?_
    have he : ∃ q, h'.get? a = some q := let ⟨q, _, _, hq, _⟩ := dd'; ⟨q, hq⟩
    exact d_write I (by rw [e]; exact True.intro) hs he (dk_new hl hd (rel.put k rv) dd')
  · subst ey eH
    cases (show u = Value.ref b from ry)
    obtain ⟨z, hd, xs, rel, dd⟩ := dt_of I.hok e
    have hz : xs.length ≤ sizeLine := by rw [← Paired.length rel]; exact z
    have hl : (putK kvs k v).length ≤ sizeLine := by have := length_putK kvs k v; omega
    refine wpAny_setItem_heap (hsz := hz) (tupleKind_room_in1 hu) (key_of I.hok eb) dd fun h' dd' hs => h _ ?_
    obtain ⟨q, es, ep, hq, h2, h3, h4, _, h5⟩ := dd'
    refine d_write I (by rw [e]; exact True.intro) hs ⟨q, hq⟩ ⟨hl, hd, _, (rel.put k eb rv).keeps fun c ys ec => ?_, q, es, ep, hq, h2, h3, h4, h5⟩
    rw [upd_ne (ne_of ec e (fun z => nomatch z))]
    exact ec
end
section
variable {X : Cx} {pins : List (Addr × Obj)} {σ : St} {H : Hp} {s : Shared} {a : Addr} {kvs : List (Key × V)} {k : Key} {u : Value} {A : Around} {E : Value → Shared → Prop}
end
def NoSl (i : Expr) : Prop := ∀ ov iv, subscripted i false ov iv = operate [ov, iv] (getItem ov iv)
theorem subD_of {prog : Program} {w : World} {A : Around} {E : Value → Shared → Prop} {s : Shared} {env : Env} {value slice : Expr} {pos : Pos} {T id : String} {Q : Value → Shared → Prop}
    (hl : typeLookup (.type T) "__getitem__" = pure (some (.builtin id))) (hs : NoSl slice)
    (h : wpAny (model prog w) A (eval value env) (fun o s₁ => wpAny (model prog w) A (eval slice env) (fun i s₂ => s₂.TypeIs o T ∧ wpAny (model prog w) A (getItem o i) Q E s₂) E s₁) E s) :
    wpAny (model prog w) A (eval (.Subscript value slice pos) env) Q E s := by
  refine Subscript_ (wpAny_mono h (fun o s₁ h₁ => wpAny_mono h₁ (fun i s₂ h₂ => ?_) fun _ _ x => x) fun _ _ x => x)
  obtain ⟨hT, h₂⟩ := h₂
  unfold subscriptTail
  refine wpAny_bind ?_
  rw [getitemInPython_of_ne hT.not_modules]
  refine wpAny_bind (wpAny_specialOf hT hl ?_)
  have fin : wpAny (model prog w) A (subscripted slice false o i) (fun r s₃ => wpAny (model prog w) A (letTemporaryGo value o r >>= fun _ => pure r) Q E s₃) E s₂ := by
    rw [hs o i]
    exact wpAny_operating (wpAny_mono h₂ (fun r s₃ h₃ => wpAny_bind (wpAny_letTemporaryGo (wpAny_pure h₃))) fun _ _ x => x)
  first
    | exact wpAny_pure (wpAny_bind fin)
    | exact wpAny_bind (wpAny_pure (wpAny_bind fin))
    | exact wpAny_bind fin
theorem dict_typeIs {X : Cx} {pins : List (Addr × Obj)} {σ : St} {H : Hp} {s : Shared} {a : Addr} {y : V} {o : Option V} (I : Inv X pins σ H s) (g : DGet H a y o) : s.TypeIs (.ref a) "dict" := by
  rcases g with ⟨kvs, k, e, _, _⟩ | ⟨kvs, k, b, e, _, _, _⟩
  · obtain ⟨_, _, vs, _, dd⟩ := dk_rd I.hok e
    exact dd.typeIs
  · obtain ⟨_, _, xs, _, dd⟩ := dt_rd I.hok e
    exact dd.typeIs
def tDGet (td ty : TE) : TE := fun σ H Q => td σ H fun x H1 => ty σ H1 fun y H2 => ∃ a v, x = .ref a ∧ DGet H2 a y (some v) ∧ Q v H2
def tDIn (ty td : TE) : TE := fun σ H Q => ty σ H fun y H1 => td σ H1 fun x H2 => ∃ a o, x = .ref a ∧ DGet H2 a y o ∧ Q (.bl o.isSome) H2
def tDNotIn (ty td : TE) : TE := fun σ H Q => ty σ H fun y H1 => td σ H1 fun x H2 => ∃ a o, x = .ref a ∧ DGet H2 a y o ∧ Q (.bl (!o.isSome)) H2
def sDPut (td ty tv : TE) : TS := fun D σ H => tv σ H fun v H1 => td σ H1 fun x H2 => ty σ H2 fun y H3 => ∃ a H4, x = .ref a ∧ DPut H3 a y v H4 ∧ D.nx σ H4
def sDAug (td ty tv : TE) (rd : V → V → Hp → VK → Prop) : TS := fun D σ H => td σ H fun x H1 => ty σ H1 fun y H2 => ∃ a v, x = .ref a ∧ DGet H2 a y (some v) ∧
  tv σ H2 fun y2 H3 => rd v y2 H3 fun z H4 => ∃ H5, DPut H4 a y z H5 ∧ D.nx σ H5
def sDDel (td ty : TE) : TS := fun D σ H => td σ H fun x H1 => ty σ H1 fun y H2 => ∃ a kvs k, x = .ref a ∧ H2 a = some (.dK kvs) ∧ y = kV k ∧ (valV kvs k).isSome = true ∧ D.nx σ (upd H2 a (.dK (dropK kvs k)))
section
variable {X : Cx} {o i e value : Expr} {pos pos' tpos : Pos} {td ty tv : TE}
theorem pe_dget (hu : X.A.units + 1 < cLine) (ho : PE X o td) (hi : PE X i ty) (hs : NoSl i) : PE X (.Subscript o i pos) (tDGet td ty) := by
  intro pins s σ H Q I h
  refine subD_of PySem.F.slot_dict_getitem.lookup hs (thn (ho pins s σ H _ I h) fun u s1 ⟨x, H1, I1, rx, q1⟩ => thn (hi pins s1 σ H1 _ I1 q1) fun iv s2 ⟨y, H2, I2, ry, a, v, ex, g, q2⟩ => ?_)
  subst ex
  obtain rfl : u = Value.ref a := rx
  exact ⟨dict_typeIs I2 g, d_getItem hu I2 g ry fun w' s3 I3 rw' => ⟨v, H2, I3, rw', q2⟩⟩
theorem ps_dput (hu : X.A.units + 1 < cLine) (ho : PE X o td) (hi : PE X i ty) (hv : PE X value tv) (hs : swapsWith value (some (.Subscript o i pos')) pos.line X.env = pure false) :
    PS X (.Assign [.Subscript o i pos'] value pos) (sDPut td ty tv) := by
  intro pins s σ H D I h
  refine wpAny_Assign_Subscript (thn (hv pins s σ H _ I h) fun r s1 ⟨v, H1, I1, rv, q1⟩ => thn (ho pins s1 σ H1 _ I1 q1) fun u s2 ⟨x, H2, I2, rx, q2⟩ => thn (hi pins s2 σ H2 _ I2 q2) fun iv s3 ⟨y, H3, I3, ry, a, H4, ex, g, q3⟩ => ?_) hs
  subst ex
  obtain rfl : u = Value.ref a := rx
  exact d_setItem hu I3 g ry rv fun s4 I4 => ⟨σ, H4, I4, q3⟩
end
theorem dk_empty {P : Program} {w : World} {H : Hp} (h : Heap) (hb : sysModules < h.objs.size) : ObjOk P w H (h.push { cls := .type "dict", data := .dict #[] }) h.objs.size (.dK []) :=
  ⟨Nat.zero_le _, beq_eq_false_iff_ne.mpr (Ne.symm (Nat.ne_of_lt hb)), [], .nil, Heap.DictOf.new h⟩
def tDNewK : TE := fun _ H Q => ∀ p, H p = none → Q (.ref p) (upd H p (.dK []))
def tDNewT : TE := fun _ H Q => ∀ p, H p = none → Q (.ref p) (upd H p (.dT []))
section
variable {X : Cx} {pos : Pos}
theorem pe_dnewK : PE X (.Dict [] [] pos) tDNewK := fun pins s σ H Q I h =>
  wpAny_Dict_empty ⟨.ref s.heap.objs.size, _, I.laid (a := s.heap.objs.size) (o := .dK []) (t' := s.toks) (fun _ _ q => Heap.get?_push_of_some _ q) (Nat.le_refl _) (dk_empty s.heap I.big), rfl, h _ (I.hok.fresh (Nat.le_refl _))⟩
end
def tPairs : List (TE × TE) → St → Hp → (List (V × V) → Hp → Prop) → Prop
  | [], _, H, Q => Q [] H
  | (tk, tv) :: r, σ, H, Q => tk σ H fun x H1 => tv σ H1 fun y H2 => tPairs r σ H2 fun ps H3 => Q ((x, y) :: ps) H3
abbrev VV : List (V × V) → List (Value × Value) → Prop := Paired fun p q => RelV p.1 q.1 ∧ RelV p.2 q.2
def PPs (X : Cx) (pos : Pos) (keys : List (Option Expr)) (values : List Expr) (trs : List (TE × TE)) : Prop :=
  ∀ (pins : List (Addr × Obj)) (s : Shared) (σ : St) (H : Hp) (Q : List (V × V) → Hp → Prop), Inv X pins σ H s → tPairs trs σ H Q →
    wpAny (model X.prog X.w) X.A (evalPairs (pairTrees keys values X.env pos)) (fun vs s' => ∃ ps H', Inv X pins σ H' s' ∧ VV ps vs ∧ Q ps H') X.xe s
theorem pps_nil {X : Cx} {pos : Pos} : PPs X pos [] [] [] := fun pins s σ H Q I h => pairTrees_nil_walk ⟨[], H, I, .nil, h⟩
theorem pps_cons {X : Cx} {pos : Pos} {k v : Expr} {ks : List (Option Expr)} {vs : List Expr} {tk tv : TE} {trs : List (TE × TE)} (hk : PE X k tk) (hv : PE X v tv) (hr : PPs X pos ks vs trs) :
    PPs X pos (some k :: ks) (v :: vs) ((tk, tv) :: trs) := fun pins s σ H Q I h =>
  pairTrees_cons_walk (thn (hk pins s σ H _ I h) fun u s1 ⟨x, H1, I1, rx, q1⟩ => thn (hv pins s1 σ H1 _ I1 q1) fun w2 s2 ⟨y, H2, I2, ry, q2⟩ =>
    thn (hr pins s2 σ H2 _ I2 q2) fun ws s3 ⟨ps, H3, I3, rel, q3⟩ => ⟨(x, y) :: ps, H3, I3, .cons ⟨rx, ry⟩ rel, q3⟩)
def mergeK (kvs more : List (Key × V)) : List (Key × V) := more.foldl (fun acc kv => putK acc kv.1 kv.2) kvs
theorem KV.merge : ∀ {more : List (Key × V)} {rs : List (Key × Value)} {kvs : List (Key × V)} {vs : List (Key × Value)}, KV more rs → KV kvs vs → KV (mergeK kvs more) (merged vs rs) := by
  intro more rs kvs vs r
  unfold KV at r
  induction r generalizing kvs vs with
  | nil => intro q; exact q
  | @cons p q ps qs h t ih =>
    intro r0
    have e : KV (putK kvs p.1 p.2) (stored vs q.1 q.2) := by
      have := r0.put p.1 h.2
      rw [← h.1]; exact this
    exact ih e
theorem length_mergeK : ∀ (more kvs : List (Key × V)), (mergeK kvs more).length ≤ kvs.length + more.length
  | [], kvs => by show kvs.length ≤ kvs.length + 0; omega
  | p :: r, kvs => by
    have h1 := length_mergeK r (putK kvs p.1 p.2)
    have h2 := length_putK kvs p.1 p.2
    show (mergeK (putK kvs p.1 p.2) r).length ≤ _
    rw [List.length_cons]; omega
theorem carries_of {P : Program} {w : World} : ∀ {kvs : List (Key × V)} {ws : List (Value × Value)}, VV (kvs.map fun kv => (kV kv.1, kv.2)) ws → ∃ rs, Carries (mixKind P w) ws rs ∧ KV kvs rs
  | [], _, r => by rw [List.map_nil] at r; cases r; exact ⟨[], True.intro, .nil⟩
  | p :: kvs, _, r => by
    rw [List.map_cons] at r
    cases r with
    | @cons a b as bs h t =>
      obtain ⟨rs, c, q⟩ := carries_of (P := P) (w := w) t
      obtain ⟨b1, b2⟩ := b
      exact ⟨(p.1, b2) :: rs, ⟨kV_is h.1, rfl, c⟩, .cons ⟨rfl, h.2⟩ q⟩
def tDisp (trs : List (TE × TE)) : TE := fun σ H Q => ∀ p, H p = none → tPairs trs σ (upd H p (.dK [])) fun ps H2 => H2 p = some (.dK []) ∧ ∃ kvs : List (Key × V), ps = kvs.map (fun kv => (kV kv.1, kv.2)) ∧ kvs.length ≤ 15 ∧ Q (.ref p) (upd H2 p (.dK (mergeK [] kvs)))
theorem pe_disp {X : Cx} {pos : Pos} {keys : List (Option Expr)} {values : List Expr} {trs : List (TE × TE)} (h : PPs X pos keys values trs) (hall : keys.all (·.isSome) = true) (hl : keys.length = values.length) (h0 : keys ≠ [])
    (h15 : keys.length ≤ 15) : PE X (.Dict keys values pos) (tDisp trs) := by
  intro pins s σ H Q I q
  have hn := I.hok.fresh (Nat.le_refl s.heap.objs.size)
  have I1 := I.laid (a := s.heap.objs.size) (o := .dK []) (h' := s.heap.push { cls := .type "dict", data := .dict #[] }) (t' := s.toks) (fun _ _ q => Heap.get?_push_of_some _ q) (Nat.le_refl _) (dk_empty s.heap I.big)
  refine wpAny_Dict_walk (knd := mixKind X.prog X.w) hall hl h0 h15 (thn (h pins _ σ _ _ I1 (q _ hn)) fun ws s2 ⟨ps, H2, I2, rel, e, kvs, ep, lk, q2⟩ => ?_)
  subst ep
  obtain ⟨rs, c, rk⟩ := carries_of (P := X.prog) (w := X.w) rel
  obtain ⟨z, hd, vs0, r0, dd⟩ := dk_of I2.hok e
  cases r0
  refine ⟨rs, c, dd, fun h' dd' hs => ⟨.ref s.heap.objs.size, _, ?_, rfl, q2⟩⟩
  have hz : (mergeK [] kvs).length ≤ sizeLine := by
    have h1 := length_mergeK kvs []
    rw [List.length_nil] at h1
    rw [sizeLine_eq]; omega
  have he : ∃ q, h'.get? s.heap.objs.size = some q := let ⟨q, _, _, hq, _⟩ := dd'; ⟨q, hq⟩
  exact d_write I2 (by rw [e]; exact True.intro) hs he (dk_new hz hd (rk.merge .nil) dd')
structure M1 (X : Cx) (o : Expr) (m : Str) (apos : Pos) (e : Expr) (cpos : Pos) : Prop where
  base : attributeBase o m X.env (eval o X.env) = eval o X.env
  few : ((backTo cpos (starEach [e] X.env)).all (fun x => !x.1) && (backToKw cpos (keywordEach [] X.env)).all (fun x => x.1.isSome)
    && decide (([e] : List Expr).length + ([] : List Keyword).length + (if ([] : List Keyword).isEmpty then 0 else 1) < 30)) = true
  line : (apos.endLine == cpos.line) = true
  trees : backTo cpos (starEach [e] X.env) = [(false, eval e X.env)]
structure M2 (X : Cx) (o : Expr) (m : Str) (apos : Pos) (e f : Expr) (cpos : Pos) : Prop where
  base : attributeBase o m X.env (eval o X.env) = eval o X.env
  few : ((backTo cpos (starEach [e, f] X.env)).all (fun x => !x.1) && (backToKw cpos (keywordEach [] X.env)).all (fun x => x.1.isSome)
    && decide (([e, f] : List Expr).length + ([] : List Keyword).length + (if ([] : List Keyword).isEmpty then 0 else 1) < 30)) = true
  line : (apos.endLine == cpos.line) = true
  trees : backTo cpos (starEach [e, f] X.env) = [(false, eval e X.env), (false, eval f X.env)]
def IsD (H : Hp) (a : Addr) : Prop := (∃ kvs, Rd H a (.dK kvs)) ∨ ∃ kvs, Rd H a (.dT kvs)
section
variable {X : Cx} {pins : List (Addr × Obj)} {σ : St} {H : Hp} {s : Shared} {a : Addr} {y d : V} {u r : Value} {o : Option V} {A : Around} {E : Value → Shared → Prop}
end
def tDGet1 (td ty : TE) : TE := fun σ H Q => td σ H fun x H1 => ∃ a, x = .ref a ∧ IsD H1 a ∧ ty σ H1 fun y H2 => ∃ o, DGet H2 a y o ∧ Q (o.getD .non) H2
def tDGet2 (td ty tx : TE) : TE := fun σ H Q => td σ H fun x H1 => ∃ a, x = .ref a ∧ IsD H1 a ∧ ty σ H1 fun y H2 => tx σ H2 fun z H3 => ∃ o, DGet H3 a y o ∧ Q (o.getD z) H3
def tDPop1 (td ty : TE) : TE := fun σ H Q => td σ H fun x H1 => ∃ a, x = .ref a ∧ IsD H1 a ∧ ty σ H1 fun y H2 => ∃ kvs k v, H2 a = some (.dK kvs) ∧ y = kV k ∧ valV kvs k = some v ∧ Q v (upd H2 a (.dK (dropK kvs k)))
def tDPop2 (td ty tx : TE) : TE := fun σ H Q => td σ H fun x H1 => ∃ a, x = .ref a ∧ IsD H1 a ∧ ty σ H1 fun y H2 => tx σ H2 fun z H3 => ∃ kvs k, H3 a = some (.dK kvs) ∧ y = kV k ∧
  (∀ v, valV kvs k = some v → Q v (upd H3 a (.dK (dropK kvs k)))) ∧ (valV kvs k = none → Q z H3)
section
variable {X : Cx} {o e f : Expr} {apos cpos : Pos} {td ty tx : TE}
end
section
variable {X : Cx} {pins : List (Addr × Obj)} {σ : St} {H : Hp} {s : Shared} {a : Addr} {kvs : List (Key × V)} {A : Around} {E : Value → Shared → Prop}
end
section
variable {X : Cx} {pins : List (Addr × Obj)} {σ : St} {H : Hp} {s : Shared} {a : Addr} {y : V} {u : Value} {A : Around} {E : Value → Shared → Prop}
end
end L2
namespace L2
open PySem
section
variable {X : Cx}
end
section
variable {κ : Type} [DecidableEq κ]
end
end L2
set_option Elab.async false
set_option linter.all false
set_option maxRecDepth 100000
namespace L2
open PySem PySem.Spec PyProof.Rows
def Its (z : Str) : It := ⟨fun i _ => i < z.cps.size, fun i H v H' => H' = H ∧ ∃ c, z.cps[i]? = some c ∧ v = .str ⟨#[c]⟩, fun i _ => i = z.cps.size⟩
section
variable {X : Cx} {y : Str} {py : Pos}
def iStr (te : TE) : TI := fun σ H R => te σ H fun v H1 => ∃ z, v = .str z ∧ R (Its z) H1
end
end L2
set_option Elab.async false
set_option linter.all false
set_option maxRecDepth 100000
namespace L2
open PySem PySem.Spec PyProof.Rows
theorem comp_loop {prog : Program} {w : World} {A : Around} {R : Result → Shared → Prop} {s : Shared} {elt tg iter : Expr} {ifs : List Expr} {scope : Scope} {pos : Pos} {it acc : Value} {env : Env} (J : Nat → Shared → Prop)
    (turn : ∀ n s, J n s → wpAny (model prog w) A (pyNext it) (fun r s₁ => match r with
      | none => R (.ok .next) s₁
      | some v => wpAny (model prog w) A (letOwnedTupleGo tg it v) (fun _ s₁' => wpAny (model prog w) A (assign tg env v) (fun _ s₂ =>
          wpAny (model prog w) A (forIn ifs true fun c r => if r = true then do let ok ← isTrue c env (eval c env); pure (ForInStep.yield ok) else pure (ForInStep.yield r)) (fun ok s₃ =>
            if ok = true then wpAny (model prog w) A (eval elt env) (fun x s₄ => wpAny (model prog w) A (call (.builtin "list.append") [acc, x]) (fun _ s₅ => ∃ m, m < n ∧ J m s₅) (fun _ _ => False) s₄) (fun _ _ => False) s₃
            else ∃ m, m < n ∧ J m s₃) (fun _ _ => False) s₂) (fun _ _ => False) s₁') (fun _ _ => False) s₁) (fun _ _ => False) s)
    (n : Nat) (h : J n s) : codeAny (model prog w) A (.compLoop (.ListComp elt [⟨tg, iter, ifs, 0⟩] scope pos) 0 it acc env) R s := by
  refine codeAny_loop rfl J (fun n s hJ => ?_) n h
  show wpAny (model prog w) A (Sem.onRaise (compTurn (.ListComp elt [⟨tg, iter, ifs, 0⟩] scope pos) 0 it acc env) (fun e => do noteFrame e env; theTreesLotGoes e)) _ _ s
  refine wpAny_noted ?_
  rw [compTurn_list]
  have no : ∀ {E : Value → Shared → Prop} (a : Value) (b : Shared), False → E a b := fun _ _ z => z.elim
  refine wpAny_bind (wpAny_standAt (wpAny_bind (wpAny_mono (turn n s hJ) (fun r s₁ h₁ => ?_) no)))
  cases r with
  | none => exact wpAny_pure h₁
  | some v =>
    refine wpAny_bind (wpAny_mono h₁ (fun _ s₁' h₁ => ?_) no)
    refine wpAny_bind (wpAny_mono h₁ (fun _ s₂ h₂ => ?_) no)
    refine wpAny_bind (wpAny_mono h₂ (fun ok s₃ h₃ => ?_) no)
    cases ok with
    | false => exact wpAny_pure ⟨rfl, h₃⟩
    | true =>
      refine wpAny_bind (wpAny_bind (wpAny_mono h₃ (fun x s₄ h₄ => ?_) no))
      exact wpAny_bind (wpAny_mono h₄ (fun _ s₅ h₅ => wpAny_pure (wpAny_pure ⟨rfl, h₅⟩)) no)
abbrev Cx.blk (X : Cx) (scope : Scope) (cl : List (Str × Addr)) (C : Addr) (N : List Str) (s₀ : Shared) (H₀ : Hp) (ex : List Addr) : Cx :=
  { X with env := compEnvC scope cl C X.env, N := N, s₀ := s₀, H₀ := H₀, outer := X.stack, stack := X.stack, ex := ex, fn := fun _ => false, pn := [], xe := fun _ _ => False }
structure CSc (sc so : Scope) (x : Str) (N XN : List Str) (fr : List Nat) : Prop where
  kind : sc.kind = .function
  nocell : ∀ y ∈ sc.names, y.2 ≠ .cell
  names : ∀ y ∈ sc.names, y.2 = .local → sc.names.lookup y.1 = some .local
  hx : sc.names.lookup x = some .local
  nd : N.Nodup
  eqN : N = x :: fr.map (fun j => XN.getD j "")
  inN : ∀ j ∈ fr, j < XN.length
  fre : ∀ y ∈ sc.names, y.2 = .free → so.names.lookup y.1 = some .cell ∨ so.names.lookup y.1 = some .free
  isf : ∀ j ∈ fr, sc.names.lookup (XN.getD j "") = some .free
  cel : ∀ j ∈ fr, so.names.lookup (XN.getD j "") ≠ some .local
def closOf (env : Env) : List (Str × NameKind) → List (Str × Addr) → List (Str × Addr)
  | [], acc => acc
  | (n, k) :: r, acc => if k == .free then (match env.cells.lookup n with | some c => closOf env r ((n, c) :: acc) | none => closOf env r acc) else closOf env r acc
theorem clos_run (env : Env) : ∀ (l : List (Str × NameKind)) (acc : List (Str × Addr)), (∀ y ∈ l, y.2 = .free → ∃ c, env.cells.lookup y.1 = some c) →
    (forIn (m := Sem) l acc fun (y : Str × NameKind) (cs : List (Str × Addr)) => if y.2 == .free then do let a ← cellOf env y.1; pure (ForInStep.yield ((y.1, a) :: cs)) else pure (ForInStep.yield cs)) = pure (closOf env l acc)
  | [], acc, _ => rfl
  | (n, k) :: r, acc, h => by
    have ih := fun acc => clos_run env r acc fun y hy => h y (List.mem_cons_of_mem _ hy)
    rw [List.forIn_cons]
    by_cases hk : k = .free
    · subst hk
      obtain ⟨c, e⟩ := h (n, .free) List.mem_cons_self rfl
      simp only [cellOf, e, closOf, beq_self_eq_true, if_true]
      exact ih _
    · have hb : (k == NameKind.free) = false := by simpa using hk
      simp only [hb, closOf, Bool.false_eq_true, if_false]
      exact ih _
theorem clos_eq (env : Env) (sc : Scope) (h : ∀ y ∈ sc.names, y.2 = .free → ∃ c, env.cells.lookup y.1 = some c) : closureFor sc env = pure (closOf env sc.names []) := by
  unfold closureFor
  have e := clos_run env sc.names [] h
  exact (congrArg (fun t : Sem _ => t >>= fun cs => pure cs) e).trans rfl
theorem closOf_sub (env : Env) : ∀ (l : List (Str × NameKind)) (acc : List (Str × Addr)), (∀ y c, acc.lookup y = some c → env.cells.lookup y = some c) → ∀ y c, (closOf env l acc).lookup y = some c → env.cells.lookup y = some c
  | [], acc, h => h
  | (n, k) :: r, acc, h => by
    unfold closOf
    split
    · split
      · rename_i c e
        refine closOf_sub env r _ fun y c' q => ?_
        rw [List.lookup_cons] at q
        cases hy : y == n with
        | true =>
          rw [hy] at q
          cases q
          have : y = n := by simpa using hy
          subst this
          exact e
        | false =>
          rw [hy] at q
          exact h y c' q
      · exact closOf_sub env r acc h
    · exact closOf_sub env r acc h
theorem closOf_acc (env : Env) : ∀ (l : List (Str × NameKind)) (acc : List (Str × Addr)) (y : Str), (∃ c, acc.lookup y = some c) → ∃ c, (closOf env l acc).lookup y = some c
  | [], _, _, h => h
  | (n, k) :: r, acc, y, h => by
    unfold closOf
    split
    · split
      · refine closOf_acc env r _ y ?_
        rw [List.lookup_cons]
        cases y == n with
        | true => exact ⟨_, rfl⟩
        | false => exact h
      · exact closOf_acc env r acc y h
    · exact closOf_acc env r acc y h
theorem closOf_has (env : Env) : ∀ (l : List (Str × NameKind)) (acc : List (Str × Addr)) (y : Str), (y, NameKind.free) ∈ l → (∃ c, env.cells.lookup y = some c) → ∃ c, (closOf env l acc).lookup y = some c
  | [], _, _, h, _ => nomatch h
  | (n, k) :: r, acc, y, h, hc => by
    unfold closOf
    rcases List.mem_cons.mp h with e | hm
    · cases e
      obtain ⟨c, e⟩ := hc
      rw [if_pos (by rfl), e]
      exact closOf_acc env r _ _ ⟨c, by simp [List.lookup_cons]⟩
    · split
      · split
        · exact closOf_has env r _ y hm hc
        · exact closOf_has env r acc y hm hc
      · exact closOf_has env r acc y hm hc
def RelF (f : Str × NameKind → Str × NameKind) : Prop := ∀ p, f p = p ∨ (p.2 = .free ∧ f p = (p.1, .cell))
theorem lookup_hd {y n : Str} {k : NameKind} {r : List (Str × NameKind)} : List.lookup y ((n, k) :: r) = if y = n then some k else r.lookup y := by
  rw [List.lookup_cons]
  by_cases h : y = n
  · rw [if_pos h, show (y == n) = true by simpa using h]
  · rw [if_neg h, show (y == n) = false by simpa using h]
theorem relF_free {f : Str × NameKind → Str × NameKind} (hf : RelF f) : ∀ {names : List (Str × NameKind)} {y : Str} {k : NameKind}, (names.map f).lookup y = some k → (k = .cell ∨ k = .free) → (∀ z ∈ names, z.2 ≠ .cell) → (y, NameKind.free) ∈ names
  | [], _, _, h, _, _ => by simp at h
  | (n, j) :: r, y, k, h, hk, hc => by
    rw [List.map_cons] at h
    have go : r.lookup y = r.lookup y → (r.map f).lookup y = some k → (y, NameKind.free) ∈ (n, j) :: r := fun _ h' => List.mem_cons_of_mem _ (relF_free hf h' hk fun z hz => hc z (List.mem_cons_of_mem _ hz))
    rcases hf (n, j) with e | ⟨e1, e⟩
    · rw [e, lookup_hd] at h
      by_cases hy : y = n
      · rw [if_pos hy] at h
        cases h
        rcases hk with rfl | rfl
        · exact absurd rfl (hc (n, .cell) List.mem_cons_self)
        · rw [hy]; exact List.mem_cons_self
      · rw [if_neg hy] at h
        exact go rfl h
    · rw [e, lookup_hd] at h
      by_cases hy : y = n
      · rw [hy, show j = NameKind.free from e1]; exact List.mem_cons_self
      · rw [if_neg hy] at h
        exact go rfl h
theorem relF_isfree {f : Str × NameKind → Str × NameKind} (hf : RelF f) : ∀ {names : List (Str × NameKind)} {y : Str}, names.lookup y = some .free → (names.map f).lookup y = some .cell ∨ (names.map f).lookup y = some .free
  | [], _, h => by simp at h
  | (n, j) :: r, y, h => by
    rw [lookup_hd] at h
    rw [List.map_cons]
    rcases hf (n, j) with e | ⟨e1, e⟩
    · rw [e, lookup_hd]
      by_cases hy : y = n
      · rw [if_pos hy] at h ⊢
        cases h
        exact .inr rfl
      · rw [if_neg hy] at h ⊢
        exact relF_isfree hf h
    · rw [e, lookup_hd]
      by_cases hy : y = n
      · rw [if_pos hy]
        exact .inl rfl
      · rw [if_neg hy] at h ⊢
        exact relF_isfree hf h
theorem relF_env (env : Env) : RelF fun (n, k) => if (k == NameKind.free && env.scope.kind == .function && env.kindOf n == some .cell) then (n, NameKind.cell) else (n, k) := fun ⟨n, k⟩ => by
  by_cases h : (k == NameKind.free && env.scope.kind == .function && env.kindOf n == some .cell) = true
  · refine .inr ⟨?_, if_pos h⟩
    have h1 := (Bool.and_eq_true_iff.mp (Bool.and_eq_true_iff.mp h).1).1
    simpa using h1
  · exact .inl (if_neg h)
theorem relabel_free {env : Env} {sc : Scope} {y : Str} {k : NameKind} (h : (relabel sc env).names.lookup y = some k) (hk : k = .cell ∨ k = .free) (hc : ∀ z ∈ sc.names, z.2 ≠ .cell) : (y, NameKind.free) ∈ sc.names :=
  relF_free (relF_env env) h hk hc
theorem relabel_isfree {env : Env} {sc : Scope} {y : Str} (h : sc.names.lookup y = some .free) : (relabel sc env).names.lookup y = some .cell ∨ (relabel sc env).names.lookup y = some .free :=
  relF_isfree (relF_env env) h
end L2
set_option Elab.async false
set_option linter.all false
set_option maxRecDepth 100000
namespace L2
open PySem PySem.Spec PyProof.Rows
def PTs (X : Cx) (ifs : List Expr) (t : TT) : Prop :=
  ∀ (pins : List (Addr × Obj)) (s : Shared) (σ : St) (H : Hp) (Q : Bool → Hp → Prop), Inv X pins σ H s → t σ H Q →
    wpAny (model X.prog X.w) X.A (forIn ifs true fun c r => if r = true then do let ok ← isTrue c X.env (eval c X.env); pure (ForInStep.yield ok) else pure (ForInStep.yield r)) (TP X pins σ Q) X.xe s
def tYes : TT := fun _ H Q => Q true H
theorem pts_nil {X : Cx} : PTs X [] tYes := fun _ _ _ H _ I h => wpAny_tests_nil ⟨H, I, h⟩
theorem pts_one {X : Cx} {c : Expr} {t : TT} (h : PT X c t) : PTs X [c] t := fun pins s σ H Q I hw => wpAny_tests_one (h pins s σ H Q I hw)
def stB (fr : List Nat) (σ : St) : St := none :: fr.map fun j => (σ[j]?).join
def stB1 (x : V) (fr : List Nat) (σ : St) : St := some x :: fr.map fun j => (σ[j]?).join
def CompR (J : It) (H1 : Hp) (fr : List Nat) (σ : St) (tt : TT) (te : TE) (Q : VK) : Prop :=
  ∀ D, H1 D = none → ∃ W : Nat → Nat → List V → Hp → Prop, (∃ m, W 0 m [] (upd H1 D (.lst []))) ∧
    ∀ i m ys H2, W i m ys H2 → ((J.stop i H2 ∧ Q (.ref D) H2) ∨ (J.go i H2 ∧ ∀ x H3, J.yld i H2 x H3 → tt (stB1 x fr σ) H3 fun b H4 =>
      if b = true then te (stB1 x fr σ) H4 fun y H5 => H5 D = some (.lst ys) ∧ ys.length < sizeLine ∧ ∃ m', m' < m ∧ W (i + 1) m' (ys ++ [y]) (upd H5 D (.lst (ys ++ [y])))
      else ∃ m', m' < m ∧ W (i + 1) m' ys H4))
def tComp (wi : TI) (fr : List Nat) (tt : TT) (te : TE) : TE := fun σ H Q => wi σ H fun J H1 => CompR J H1 fr σ tt te Q
section
variable {X : Cx} {x : Str} {px : Pos} {elt iter : Expr} {ifs : List Expr} {scope : Scope} {pos : Pos} {N : List Str} {fr : List Nat} {tt : TT} {te : TE} {wi : TI}
theorem csc_has {pins : List (Addr × Obj)} {σ : St} {H : Hp} {s : Shared} (S : CSc scope X.env.scope x N X.N fr) (I : Inv X pins σ H s) : ∀ y ∈ scope.names, y.2 = .free → ∃ c, X.env.cells.lookup y.1 = some c :=
  fun y hy hf => I.ok.has y.1 (S.fre y hy hf)
theorem comp_block {pins : List (Addr × Obj)} {σ : St} {H : Hp} {s₂ : Shared} {J : It} {fp : List Addr} {it : Addr} {tn : Nat → Heap → Prop} {Q : VK} {RR : Value → Addr → Result → Shared → Prop} {E : Value → Shared → Prop}
    (hc : X.calm = true) (S : CSc scope X.env.scope x N X.N fr) (ht : ∀ cl C s₀ H₀ ex, PTs (X.blk scope cl C N s₀ H₀ ex) ifs tt) (he : ∀ cl C s₀ H₀ ex, PE (X.blk scope cl C N s₀ H₀ ex) elt te)
    (I : Inv X pins σ H s₂) (T : Turn X.prog X.w X.K (.Name x px) J fp it tn) (st : tn 0 s₂.heap) (f2 : ∀ b ∈ fp, FpOk X pins H b) (R : CompR J H fr σ tt te Q)
    (hRR : ∀ (D C : Addr) (s' : Shared) (m : Str → Option Value) (H' : Hp), Inv X pins σ H' s' → s'.heap.Ns C m → FpOk X pins H' C → Q (.ref D) H' → RR (.ref D) C (.ok .next) s') :
    wpAny (model X.prog X.w) X.A (newList []) (fun acc s₃ => wpAny (model X.prog X.w) X.A (newFunctionEnv scope X.env.globals (closOf X.env scope.names []) [] X.env.qual none .none (some X.env)) (fun cenv s₄ =>
      codeAny (model X.prog X.w) X.A (.compStart (.ListComp elt [⟨.Name x px, iter, ifs, 0⟩] scope pos) 0 (.ref it) acc { cenv with scope := relabel scope X.env }) (RR acc cenv.locals) s₄) E s₃) E s₂ := by
  refine wpAny_newObj_type (wpAny_newFunctionEnv S.nocell (by intro y hy; simp at hy) (fun h₁ hns₁ hsb₁ => ?_) S.kind)
  dsimp only at hns₁ hsb₁ ⊢
  have hD : H s₂.heap.objs.size = none := I.fresh
  have I0 : Inv X pins σ (upd H s₂.heap.objs.size (.lst [])) { s₂ with heap := s₂.heap.push { cls := .type "list", dict := none, data := .seq ([] : List Value).toArray } } := I.lnew (t' := s₂.toks) (its := []) .nil (Nat.zero_le _)
  have hGp : ∀ b o, s₂.heap.get? b = some o → (s₂.heap.push { cls := .type "list", dict := none, data := .seq ([] : List Value).toArray }).get? b = some o := fun b o e => Heap.get?_push_of_some _ e
  have hGs : (s₂.heap.push { cls := .type "list", dict := none, data := .seq ([] : List Value).toArray }).objs.size = s₂.heap.objs.size + 1 := Heap.size_push ..
  generalize hG : s₂.heap.push { cls := .type "list", dict := none, data := .seq ([] : List Value).toArray } = G at hns₁ hsb₁ I0 hGp hGs ⊢
  generalize hDD : s₂.heap.objs.size = D at hD I0 hGs ⊢
  obtain ⟨W, ⟨m0, w0⟩, turn⟩ := R D hD
  have old : ∀ b o, G.get? b = some o → h₁.get? b = some o := fun b o e => hsb₁.extBut b o (Nat.ne_of_lt (Heap.lt_size e)) (Heap.get?_push_of_some _ e)
  have sub := closOf_sub X.env scope.names [] (fun y c z => by simp at z)
  have IY : Inv (X.blk scope (closOf X.env scope.names []) G.objs.size N { s₂ with heap := G } (upd H D (.lst [])) fp) [] (stB fr σ) (upd H D (.lst [])) { s₂ with heap := h₁, toks := s₂.toks + ([] : List (Str × Value)).length } := by
    refine ⟨⟨I.ok.mod, S.kind, I.ok.glob, I.ok.blt, Nat.le_refl _, fun y z c e1 e2 => I.ok.inj y z c (sub y c e1) (sub z c e2), fun y hy => ?_, fun y c z => (nomatch z), I.ok.hd, I.ok.frames, .inl rfl, fun b hb => ⟨?_, fun y c e => (f2 b hb).2.2.2.2.1 y c (sub y c e)⟩,
      I0.bs, Nat.le_trans I.ok.bsz I0.sz, fun b o e hb => ?_, fun b hb z => ?_, I0.stack, I0.stkFree⟩, rfl, I.bare, Un.kept old, ⟨_, hns₁, fun i y v e1 e2 e3 => ?_⟩, fun y c e => ?_, I0.hok.fresh (Nat.le_refl _), fun y c e => I0.freeC y c (sub y c e), fun p hp => absurd (show p ∈ ([] : List (Addr × Obj)) from hp) (by simp), I0.hok.kept old, ?_⟩
    · have hm : (y, NameKind.free) ∈ scope.names := by
        rcases hy with hy | hy
        · exact relabel_free hy (.inl rfl) S.nocell
        · exact relabel_free hy (.inr rfl) S.nocell
      exact closOf_has X.env scope.names [] y hm (csc_has S I _ hm rfl)
    · obtain ⟨o, e, _⟩ := T.obj 0 _ st b hb
      have h1 : @LT.lt Nat _ b s₂.heap.objs.size := Heap.lt_size e
      show b ≠ G.objs.size
      intro z
      have z' : @Eq Nat b G.objs.size := z
      rw [hGs] at z'
      omega
    · rcases (f2 b hb).2.2.2.1 with z | z
      · exact I.ok.noex b o e z
      · have h1 : @LT.lt Nat _ b X.base.objs.size := Heap.lt_size e
        have h2 : @LE.le Nat _ X.base.objs.size X.s₀.heap.objs.size := I.ok.bsz
        have z' : @LE.le Nat _ X.s₀.heap.objs.size b := z
        omega
    · rcases List.mem_cons.mp (I.stkSub b z) with e | e
      · exact (f2 b hb).2.1 e
      · exact (f2 b hb).2.2.1 e
    · cases i with
      | zero => simp [stB] at e2
      | succ k =>
        have e1' : (fr.map fun j => X.N.getD j "")[k]? = some y := by
          have z : N[k + 1]? = some y := e1
          rw [S.eqN] at z
          simpa using z
        have e2' : (fr.map fun j => (σ[j]?).join)[k]? = some (some v) := by simpa [stB] using e2
        rw [List.getElem?_map] at e1' e2'
        cases hj : fr[k]? with
        | none => rw [hj] at e1'; cases e1'
        | some j =>
          rw [hj] at e1' e2'
          have ey : X.N.getD j "" = y := Option.some.inj e1'
          have ev : (σ[j]?).join = some v := Option.some.inj e2'
          have hjm : j ∈ fr := List.mem_of_getElem? hj
          have hjl := S.inN j hjm
          have eN : X.N[j]? = some y := by rw [← ey]; simp [List.getD, hjl]
          have eσ : σ[j]? = some (some v) := by
            cases q : σ[j]? with
            | none => rw [q] at ev; cases ev
            | some w => rw [q] at ev; rw [show w = some v from ev]
          have hfree : scope.names.lookup y = some .free := by rw [← ey]; exact S.isf j hjm
          have hm : (y, NameKind.free) ∈ scope.names := PySem.mem_of_lookup hfree
          obtain ⟨m, hn, hl⟩ := I.loc
          obtain ⟨u, r, l⟩ := hl j y v eN eσ (by rcases S.fre _ hm rfl with z | z; exact .inr (.inl z); exact .inr (.inr z))
          refine ⟨u, r, ?_⟩
          rcases l with ⟨k1, _⟩ | ⟨_, c, ec, o, ho, hd⟩
          · exact absurd k1 (by rw [← ey]; exact S.cel j hjm)
          · obtain ⟨c', e'⟩ := closOf_has X.env scope.names [] y hm ⟨c, ec⟩
            have e2 := sub y c' e'
            rw [ec] at e2
            cases e2
            exact .inr ⟨relabel_isfree hfree, c, e', o, old _ _ (hGp _ _ ho), hd⟩
    · obtain ⟨v, o, ho, hd⟩ := I.cell y c (sub y c e)
      exact ⟨v, o, old _ _ (hGp _ _ ho), hd⟩
    · show (stB fr σ).length = N.length
      rw [S.eqN]
      simp [stB]
  have fr0 : ∀ b ∈ fp, (upd H D (.lst [])) b = none := fun b hb => by
    obtain ⟨o, e, _⟩ := T.obj 0 _ st b hb
    rw [upd_ne (by intro z; rw [z, ← hDD] at e; exact absurd (Heap.lt_size e) (Nat.lt_irrefl _))]
    exact (f2 b hb).1
  have st₁ : tn 0 h₁ := T.keep _ _ _ st fun b _ o e => old _ _ (hGp _ _ e)
  have stat : ∀ {H' : Hp}, (∀ b ∈ fp, H' b = none) → ∀ b ∈ fp, FpOk (X.blk scope (closOf X.env scope.names []) G.objs.size N { s₂ with heap := G } (upd H D (.lst [])) fp) [] H' b := fun hn b hb =>
    ⟨hn b hb, (IY.ok.exf b hb).1, IY.ok.exfs b hb, .inl hb, (IY.ok.exf b hb).2, fun p hp => absurd (show p ∈ ([] : List (Addr × Obj)) from hp) (by simp)⟩
  have loop : codeAny (model X.prog X.w) X.A (.compLoop (.ListComp elt [⟨.Name x px, iter, ifs, 0⟩] scope pos) 0 (.ref it) (.ref D) (compEnvC scope (closOf X.env scope.names []) G.objs.size X.env)) (RR (.ref D) G.objs.size)
      { s₂ with heap := h₁, toks := s₂.toks + ([] : List (Str × Value)).length } := by
    refine comp_loop (fun n s' => ∃ i ys H', Inv (X.blk scope (closOf X.env scope.names []) G.objs.size N { s₂ with heap := G } (upd H D (.lst [])) fp) [] (stB fr σ) H' s' ∧ tn i s'.heap ∧ (∀ b ∈ fp, H' b = none) ∧ W i n ys H') ?_ m0 ⟨0, [], _, IY, st₁, fr0, w0⟩
    rintro n s3 ⟨i, ys, H3, I3, st3, fr3, w3⟩
    rcases turn i n ys H3 w3 with ⟨stop, q⟩ | ⟨go, step⟩
    · refine thn (T.done (X.blk scope (closOf X.env scope.names []) G.objs.size N { s₂ with heap := G } (upd H D (.lst [])) fp) rfl rfl rfl hc i [] s3 _ H3 _ I3 (stat fr3) st3 stop) fun r s4 ⟨hr, I4⟩ => ?_
      subst hr
      obtain ⟨m', hn', _⟩ := I4.loc
      have u : Un (frs X.stack) fp H H3 s₂.heap s4.heap := Un.trans (Un.laid hGp (Nat.le_of_eq hDD) hD) I4.base
      refine hRR D G.objs.size s4 m' H3 (I.call' I4.os u I4.hok I4.bare fun b hb => ⟨(f2 b hb).2.2.2.1, (f2 b hb).2.1, (f2 b hb).2.2.2.2.1, (f2 b hb).2.2.2.2.2⟩) hn' (I.fpOk (by omega) I4.free) q
    · refine thn (T.item (X.blk scope (closOf X.env scope.names []) G.objs.size N { s₂ with heap := G } (upd H D (.lst [])) fp) rfl rfl rfl hc i [] s3 _ H3 _ I3 (stat fr3) st3 go) fun r s4 ⟨u, hr, h4⟩ => ?_
      subst hr
      refine thn h4 fun _ s5 ⟨x', H5, I5, r5, y5, st5, fr5⟩ => ?_
      have I5' := I5.pinned (stat fr5) (T.obj _ _ st5)
      refine wpAny_assign_Name (store_ok (i := 0) I5' S.nd (by show N[0]? = some x; rw [S.eqN]; rfl) (.inl (lookup_relabel_local S.hx)) r5 (fun s6 I6 => ?_) (.inr (lookup_relabel_local S.hx)))
      have I6' : Inv (X.blk scope (closOf X.env scope.names []) G.objs.size N { s₂ with heap := G } (upd H D (.lst [])) fp) ([] ++ pinsAt fp s5.heap) (stB1 x' fr σ) H5 s6 := I6
      have again : ∀ {H8 : Hp} {s8 : Shared} {ys' : List V}, Inv (X.blk scope (closOf X.env scope.names []) G.objs.size N { s₂ with heap := G } (upd H D (.lst [])) fp) ([] ++ pinsAt fp s5.heap) (stB1 x' fr σ) H8 s8 → (∃ m', m' < n ∧ W (i + 1) m' ys' H8) →
          ∃ m, m < n ∧ ∃ i ys H', Inv (X.blk scope (closOf X.env scope.names []) G.objs.size N { s₂ with heap := G } (upd H D (.lst [])) fp) [] (stB fr σ) H' s8 ∧ tn i s8.heap ∧ (∀ b ∈ fp, H' b = none) ∧ W i m ys H' := fun {H8 s8 ys'} I8 ⟨m', hm, w8⟩ => by
        refine ⟨m', hm, i + 1, ys', H8, I8.unpinned.weak (by simp [stB, stB1]) (fun j v e => ?_), T.keep _ _ _ st5 fun b hb o e => (I8.pin (b, o) (List.mem_append_right _ (List.mem_append_right _ (mem_pinsAt hb e)))).1, fun b hb => ?_, w8⟩
        · cases j with
          | zero => simp [stB] at e
          | succ k => simpa [stB, stB1] using e
        · obtain ⟨o, e, d⟩ := T.obj _ _ st5 b hb
          exact (I8.pin (b, o) (List.mem_append_right _ (List.mem_append_right _ (mem_pinsAt hb e)))).2.1
      refine thn (ht _ _ _ _ _ _ s6 (stB1 x' fr σ) H5 _ I6' (step x' H5 y5)) fun b s7 ⟨H7, I7, q7⟩ => ?_
      cases b with
      | false => exact again I7 q7
      | true =>
        refine thn (he _ _ _ _ _ _ s7 _ H7 _ I7 q7) fun yv s8 ⟨y, H8, I8, r8, hD8, hz, q8⟩ => ?_
        refine thn (mt_append _ s8 _ H8 (.ref D) [y] (.ref D) [yv] (fun _ H9 => H9 = upd H8 D (.lst (ys ++ [y]))) I8 rfl (.cons r8 .nil) ⟨D, ys, y, rfl, rfl, hD8, hz, rfl⟩) fun _ s9 ⟨_, H9, I9, _, e9⟩ => ?_
        subst e9
        exact again I9 q8
  exact codeAny_compStart_list loop (T.self _ 0 _ _ _ st₁ loop)
theorem pe_comp (hc : X.calm = true) (S : CSc scope X.env.scope x N X.N fr) (hi : PI X (.Name x px) iter wi) (ht : ∀ cl C s₀ H₀ ex, PTs (X.blk scope cl C N s₀ H₀ ex) ifs tt) (he : ∀ cl C s₀ H₀ ex, PE (X.blk scope cl C N s₀ H₀ ex) elt te)
    (hs : ∀ v, foldedSetIterable iter X.env v = pure v := by intro _; rfl) : PE X (.ListComp elt [⟨.Name x px, iter, ifs, 0⟩] scope pos) (tComp wi fr tt te) := by
  intro pins s σ H Q I h
  rw [eval_ListComp]
  refine wpAny_comprehension_free (use := none) rfl hs (clos_eq X.env scope (csc_has S I)) S.kind S.names (thn (hi pins s σ H _ I h) fun v s1 h1 => thn h1 fun itv s2 h2 => ?_)
  obtain ⟨it, fp, tn, J, H2, e, I2, T, st2, f2, R⟩ := h2
  subst e
  refine comp_block (RR := fun acc C => compPost (model X.prog X.w) X.A X.xe none (EP X pins σ Q) acc C) hc S ht he I2 T st2 f2 R fun D C s' m H' I' hn hf q => ?_
  exact ⟨m, hn, fun h' hs' => ⟨.ref D, H', I'.turned (t' := s'.toks) (fun b o hb e => hs'.extBut b o hb e) hf.1 hf.2.1 hf.2.2.2.1 hf.2.2.2.2.1 hf.2.2.2.2.2, rfl, q⟩⟩
theorem ps_setC {i : Nat} {y : Str} {py spos : Pos} (hN : X.N.Nodup) (hi' : X.N[i]? = some y) (hy : Loc X.env.scope y) (hc : X.calm = true) (S : CSc scope X.env.scope x N X.N fr) (hi : PI X (.Name x px) iter wi)
    (ht : ∀ cl C s₀ H₀ ex, PTs (X.blk scope cl C N s₀ H₀ ex) ifs tt) (he : ∀ cl C s₀ H₀ ex, PE (X.blk scope cl C N s₀ H₀ ex) elt te)
    (hsw : swapsWith (.ListComp elt [⟨.Name x px, iter, ifs, 0⟩] scope pos) (some (.Name y py)) spos.line X.env = pure true := by rfl)
    (hs : ∀ v, foldedSetIterable iter X.env v = pure v := by intro _; rfl) (hf : X.fn y = true ∨ X.env.scope.names.lookup y = some .local := by first | exact .inl rfl | exact .inr rfl | assumption) :
    PS X (.Assign [.Name y py] (.ListComp elt [⟨.Name x px, iter, ifs, 0⟩] scope pos) spos) (tAsg (tComp wi fr tt te) (gName i)) := by
  intro pins s σ H D I h
  rw [exec_Assign_Name_used _ _ _ _ hsw]
  refine wpAny_bind (wpAny_standAt (wpAny_bind ?_))
  show wpAny (model X.prog X.w) X.A (comprehension (.ListComp elt [⟨.Name x px, iter, ifs, 0⟩] scope pos) scope X.env _ (newList []) false (eval iter X.env) (some (assign (.Name y py) X.env)) >>= fun _ => pure ()) _ _ s
  refine wpAny_bind (wpAny_mono (wpAny_comprehension_free (use := some (assign (.Name y py) X.env)) (Q := fun _ s' => SP X pins D .next s') rfl hs (clos_eq X.env scope (csc_has S I)) S.kind S.names
    (thn (hi pins s σ H _ I h) fun v s1 h1 => thn h1 fun itv s2 h2 => ?_)) (fun _ s' hq => wpAny_pure (wpAny_pure hq)) fun _ _ e => e)
  obtain ⟨it, fp, tn, J, H2, e, I2, T, st2, f2, R⟩ := h2
  subst e
  refine comp_block (RR := fun acc C => compPost (model X.prog X.w) X.A X.xe (some (assign (.Name y py) X.env)) (fun _ s' => SP X pins D .next s') acc C) hc S ht he I2 T st2 f2 R fun Dl C s' m H' I' hn hf' q => ?_
  show wpAny (model X.prog X.w) X.A (assign (.Name y py) X.env (.ref Dl)) _ _ _
  refine wpAny_assign_Name (store_ok2 I' hN hi' hy (show RelV (.ref Dl) (.ref Dl) from rfl) (fun s'' I'' ⟨a, sb, ha⟩ => ?_) hf)
  have hCa : C ≠ a := by
    rcases ha with z | z
    · rw [z]; exact hf'.2.1
    · exact fun w => hf'.2.2.2.2.1 y a z w.symm
  exact ⟨m, hn.sameBut sb hCa, fun h' hs' => ⟨_, H', I''.turned (t' := s''.toks) (fun b o hb e => hs'.extBut b o hb e) hf'.1 hf'.2.1 hf'.2.2.2.1 hf'.2.2.2.2.1 hf'.2.2.2.2.2, q⟩⟩
end
end L2
set_option Elab.async false
set_option linter.all false
set_option maxRecDepth 100000
namespace L2
open PySem PySem.Spec PyProof.Rows
abbrev tx (l : List Nat) : Str := ⟨l.toArray⟩
theorem tx_len (l : List Nat) : (tx l).length = l.length := by simp [Str.length]
theorem tx_list (l : List Nat) : (tx l).cps.toList = l := by simp [tx]
theorem tx_app (a b : List Nat) : tx a ++ tx b = tx (a ++ b) := by
  show (⟨a.toArray ++ b.toArray⟩ : Str) = ⟨(a ++ b).toArray⟩
  simp
theorem tx_inj {a b : List Nat} : tx a = tx b ↔ a = b := by simp [tx]
def cutS (z : Str) (lo hi : Option Int) : Str := Txt.slice z lo hi
def rSlS : V → Option Int → Option Int → Hp → VK → Prop := fun x lo hi H Q => ∃ z, x = .str z ∧ z.length ≤ sizeLine ∧
  ((∃ j, lo = none ∧ hi = some j ∧ 0 ≤ j ∧ Q (.str (tx (z.cps.toList.take j.toNat))) H) ∨ (∃ i, lo = some i ∧ hi = none ∧ 0 ≤ i ∧ Q (.str (tx (z.cps.toList.drop i.toNat))) H))
section
variable {X : Cx}
def rStarts : V → List V → Hp → VK → Prop := fun x xs H Q => ∃ z y, x = .str z ∧ xs = [.str y] ∧ Q (.bl (Txt.startswith z y)) H
def rFind : V → List V → Hp → VK → Prop := fun x xs H Q => ∃ z y, x = .str z ∧ xs = [.str y] ∧ Q (.int (Txt.find z y)) H
theorem strsAre_of : ∀ {ys : List Str} {us : List Value}, Vals (ys.map V.str) us → StrsAre us ys
  | [], us, r => by
    cases r
    exact .nil
  | y :: ys, us, r => by
    rw [List.map_cons] at r
    cases r with
    | cons r1 r2 =>
      obtain ⟨t, rfl⟩ := r1
      exact .cons y t (strsAre_of r2)
def rJoin (K : PySem.W.Frag) : V → List V → Hp → VK → Prop := fun x xs H Q => ∃ (p : Addr) (ys : List (List Nat)), x = .str ⟨#[]⟩ ∧ xs = [.ref p] ∧ SqL K H p (ys.map fun l => V.str (tx l)) ∧ (ys.map List.length).sum ≤ 16777216 ∧ Q (.str (tx ys.flatten)) H
theorem join_codes (ys : List (List Nat)) : Txt.join ⟨#[]⟩ (ys.map tx) = tx ys.flatten := by
  unfold Txt.join
  rw [StrLaws.glued_eq_join]
  induction ys with
  | nil => rfl
  | cons a r ih =>
    cases r with
    | nil => simp [Str.join, tx]
    | cons b r =>
      show tx a ++ ⟨#[]⟩ ++ Str.join ⟨#[]⟩ ((b :: r).map tx) = _
      rw [ih, show tx a ++ (⟨#[]⟩ : Str) = tx a from (tx_app a []).trans (by rw [List.append_nil]), tx_app]
      rfl
theorem mt_join : MtR X "str.join" (rJoin X.K) := by
  intro pins s σ H x xs v us Q I rx rs h
  obtain ⟨p, ys, rfl, rfl, hq, hz, q⟩ := h
  obtain ⟨t, rfl⟩ := rx
  obtain ⟨u, rfl, hu⟩ := rs.one
  cases hu
  obtain ⟨its, r, pl, _⟩ := I.list hq
  have r' : Vals ((ys.map tx).map V.str) its := by rw [List.map_map]; exact r
  refine join_list pl.isList (strsAre_of r') ?_ fun t' k => ⟨.str (tx ys.flatten), H, I.tok _, ⟨t', ?_⟩, q⟩
  · have e : (ys.map tx).map (·.length) = ys.map List.length := by
      rw [List.map_map]
      exact List.map_congr_left fun a _ => tx_len a
    rw [e]
    show _ + _ * 0 ≤ _
    omega
  · rw [join_codes]
theorem boolsAre_of : ∀ {bs : List Bool} {us : List Value}, Vals (bs.map V.bl) us → LSm.BoolsAre us bs
  | [], us, r => by
    cases r
    exact .nil
  | b :: bs, us, r => by
    rw [List.map_cons] at r
    cases r with
    | cons r1 r2 =>
      cases r1
      exact .cons b (boolsAre_of r2)
theorem call_isinst : CallR X (.builtin "isinstance") (fun xs H Q => ∃ x t c b, xs = [x, .ty c] ∧ TyOf X.K H x t ∧ PySem.W.kitOne X.K t (.type c) = some b ∧ Q (.bl b) H) := by
  intro pins s σ H xs us Q I r h
  obtain ⟨x, t, c, b, rfl, ty, e, q⟩ := h
  obtain ⟨u, v, rfl, ru, rv⟩ := r.two
  cases rv
  exact isinst_ok I ru ty e fun tk => ⟨.bl b, H, I.tok _, rfl, q⟩
end
theorem kit_bb (K : PySem.W.Frag) : PySem.W.kitOne K (.type "bool") (.type "bool") = some true := by rfl
theorem kit_ib (K : PySem.W.Frag) : PySem.W.kitOne K (.type "int") (.type "bool") = some false := by rfl
theorem kit_ii (K : PySem.W.Frag) : PySem.W.kitOne K (.type "int") (.type "int") = some true := by rfl
theorem kit_ll (K : PySem.W.Frag) : PySem.W.kitOne K (.type "list") (.type "list") = some true := by rfl
end L2
set_option Elab.async false
set_option linter.all false
set_option maxRecDepth 100000
namespace L2
open PySem PySem.Spec PyProof.Rows
theorem Same.upd_new {H H' : Hp} {a : Addr} {o : HO} (s : Same H H') (h : H a = none) : Same H (upd H' a o) := fun b u e => by
  rw [upd_ne (ne_of_none e h)]
  exact s b u e
theorem Same.new {H : Hp} {a : Addr} {o : HO} (h : H a = none) : Same H (upd H a o) := (Same.refl H).upd_new h
structure Tells (J : It) (H1 : Hp) (xs : List V) : Prop where
  go : ∀ i H, i < xs.length → Same H1 H → J.go i H
  stop : ∀ H, Same H1 H → J.stop xs.length H
  yld : ∀ i H x H', Same H1 H → i < xs.length → J.yld i H x H' → H' = H ∧ xs[i]? = some x
theorem comp_by {α : Type} {J : It} {H1 : Hp} {fr : List Nat} {σ : St} {tt : TT} {te : TE} {Q : VK} {cs : List α} {g : α → V} (T : Tells J H1 (cs.map g)) (p : α → Bool) (f : α → V) (hz : cs.length ≤ sizeLine)
    (ht : ∀ c H2 Q2, c ∈ cs → Same H1 H2 → (∀ H3, Same H2 H3 → Q2 (p c) H3) → tt (stB1 (g c) fr σ) H2 Q2)
    (he : ∀ c H2 Q2, c ∈ cs → p c = true → Same H1 H2 → (∀ H3, Same H2 H3 → Q2 (f c) H3) → te (stB1 (g c) fr σ) H2 Q2)
    (hQ : ∀ D H2, H1 D = none → Same H1 H2 → H2 D = some (.lst ((cs.filter p).map f)) → Q (.ref D) H2) : CompR J H1 fr σ tt te Q := by
  intro D hD
  have hlen : (cs.map g).length = cs.length := List.length_map ..
  refine ⟨fun i m ys H2 => m = cs.length - i ∧ i ≤ cs.length ∧ ys = ((cs.take i).filter p).map f ∧ Same H1 H2 ∧ H2 D = some (.lst ys), ⟨_, rfl, Nat.zero_le _, rfl, Same.new hD, upd_same⟩, ?_⟩
  rintro i m ys H2 ⟨rfl, hi, rfl, s2, d2⟩
  by_cases hlt : i < cs.length
  · refine .inr ⟨T.go i H2 (by rw [hlen]; exact hlt) s2, fun x H3 y => ?_⟩
    obtain ⟨rfl, hx⟩ := T.yld i H2 x H3 s2 (by rw [hlen]; exact hlt) y
    rw [List.getElem?_map] at hx
    cases hc : cs[i]? with
    | none => rw [hc] at hx; cases hx
    | some c =>
      rw [hc] at hx
      obtain rfl : g c = x := Option.some.inj hx
      have hm : c ∈ cs := List.mem_of_getElem? hc
      have tk : (cs.take (i + 1)).filter p = (cs.take i).filter p ++ (if p c then [c] else []) := take_succ_filter p cs i c hc
      refine ht c H3 _ hm s2 fun H4 s4 => ?_
      cases hp : p c with
      | false =>
        rw [hp] at tk
        refine ⟨_, ?_, rfl, hlt, by rw [tk]; simp, s2.trans s4, s4 _ _ d2⟩
        omega
      | true =>
        rw [hp] at tk
        refine he c H4 _ hm hp (s2.trans s4) fun H5 s5 => ⟨s5 _ _ (s4 _ _ d2), ?_, _, ?_, rfl, hlt, by rw [tk]; simp, ((s2.trans s4).trans s5).upd_new hD, upd_same⟩
        · have h1 := List.length_filter_le p (cs.take i)
          rw [List.length_take] at h1
          rw [List.length_map]
          omega
        · omega
  · obtain rfl : i = cs.length := by omega
    exact .inl ⟨by have := T.stop H2 s2; rw [hlen] at this; exact this, hQ D H2 hD s2 (by rw [List.take_length] at d2; exact d2)⟩
theorem tells_range {H1 : Hp} {lo : Int} {n : Nat} : Tells (Itr lo n) H1 ((List.range n).map fun k : Nat => V.int (lo + (k : Int))) where
  go := fun i H hi _ => by
    rw [List.length_map, List.length_range] at hi
    exact hi
  stop := fun H _ => by
    rw [List.length_map, List.length_range]
    exact Nat.le_refl _
  yld := fun i H x H' _ hi y => by
    obtain ⟨e, rfl⟩ := y
    rw [List.length_map, List.length_range] at hi
    refine ⟨e, ?_⟩
    rw [List.getElem?_map, List.getElem?_range hi]
    rfl
theorem tells_list {K : PySem.W.Frag} {H1 : Hp} {a : Addr} {xs : List V} (h : SqL K H1 a xs) : Tells (Itl K a) H1 xs where
  go := fun i H hi s => ⟨xs, xs[i], s.seq h, by simp [hi]⟩
  stop := fun H s => ⟨xs, s.seq h, Nat.le_refl _⟩
  yld := fun i H x H' s _ y => ⟨y.1, y.2 xs (s.seq h)⟩
theorem comp_map {α : Type} {J : It} {H1 : Hp} {fr : List Nat} {σ : St} {te : TE} {Q : VK} {cs : List α} {g : α → V} (T : Tells J H1 (cs.map g)) (f : α → V) (hz : cs.length ≤ sizeLine)
    (he : ∀ c H2 Q2, c ∈ cs → Same H1 H2 → (∀ H3, Same H2 H3 → Q2 (f c) H3) → te (stB1 (g c) fr σ) H2 Q2)
    (hQ : ∀ D H2, H1 D = none → Same H1 H2 → H2 D = some (.lst (cs.map f)) → Q (.ref D) H2) : CompR J H1 fr σ tYes te Q :=
  comp_by T (fun _ => true) f hz (fun c H2 Q2 _ _ h => h H2 (Same.refl _)) (fun c H2 Q2 hm _ s h => he c H2 Q2 hm s h) fun D H2 hD s d => hQ D H2 hD s (by rw [List.filter_eq_self.mpr (fun _ _ => rfl)] at d; exact d)
end L2
set_option Elab.async false
set_option linter.all false
set_option maxRecDepth 100000
namespace L2
open PySem PySem.Spec PyProof.Rows
structure DefOk (K : PySem.W.Frag) (mg : Str → Option Value) (x : Str) (st : Stmt) (ps : List Str) (f : Addr) (fd : FuncData) : Prop where
  fn : Fun K x x st f fd
  b : Binds K fd ps []
  g : mg x = some (.ref f)
section
variable {X : Cx}
theorem pe_const {x : Str} {v : V} {pos : Pos} (h : ∃ u, X.mg x = some u ∧ RelV v u) (hg : Gl X x := by rfl) (hd : (x == ("__debug__" : Str)) = false := by decide) : PE X (.Name x pos) (tC v) := by
  obtain ⟨u, e, r⟩ := h
  exact pe_glob hg e r hd
theorem pe_ty {x : Str} {T : String} {pos : Pos} (hm : X.mg x = none) (hv : bootBuiltins x = some (.type T)) (hg : Gl X x := by rfl) (hn : x ≠ "__name__" := by decide) (hd : (x == ("__debug__" : Str)) = false := by decide) : PE X (.Name x pos) (tC (.ty T)) :=
  pe_bltn hg hm hv rfl hn hd
end
def cscOk (sc so : Scope) (x : Str) (N XN : List Str) (fr : List Nat) : Bool :=
  decide (sc.kind = .function) && sc.names.all (fun y => decide (y.2 ≠ .cell)) && sc.names.all (fun y => decide (y.2 = .local → sc.names.lookup y.1 = some .local)) && decide (sc.names.lookup x = some .local) && decide N.Nodup &&
  decide (N = x :: fr.map (fun j => XN.getD j "")) && fr.all (fun j => decide (j < XN.length)) && sc.names.all (fun y => decide (y.2 = .free → so.names.lookup y.1 = some .cell ∨ so.names.lookup y.1 = some .free)) &&
  fr.all (fun j => decide (sc.names.lookup (XN.getD j "") = some .free)) && fr.all (fun j => decide (so.names.lookup (XN.getD j "") ≠ some .local))
theorem CSc.of {sc so : Scope} {x : Str} {N XN : List Str} {fr : List Nat} (h : cscOk sc so x N XN fr = true) : CSc sc so x N XN fr := by
  unfold cscOk at h
  simp only [Bool.and_eq_true, List.all_eq_true, decide_eq_true_eq] at h
  obtain ⟨⟨⟨⟨⟨⟨⟨⟨⟨h1, h2⟩, h3⟩, h4⟩, h5⟩, h6⟩, h7⟩, h8⟩, h9⟩, h10⟩ := h
  exact ⟨h1, h2, h3, h4, h5, h6, h7, h8, h9, h10⟩
theorem map_get {α β : Type} {f : α → β} {l : List α} {i : Nat} {y : β} (h : (l.map f)[i]? = some y) : ∃ z, l[i]? = some z ∧ y = f z := by
  rw [List.getElem?_map] at h
  cases e : l[i]? with
  | none => rw [e] at h; cases h
  | some z => rw [e] at h; exact ⟨z, rfl, (Option.some.inj h).symm⟩
theorem take_get {α : Type} {l : List α} {i : Nat} {z : α} (h : l[i]? = some z) : l.take (i + 1) = l.take i ++ [z] := by
  rw [List.take_add_one, h]
  rfl
theorem cxOf_K {CX : CXT} {P : Program} {w : World} {K : PySem.W.Frag} {mg : Str → Option Value} {base : Heap} {N : List Str} {qual : Str} {scope : Scope} {f : Addr} {cd : Value} {A : Around} {outer : List Env} {s : Shared} {H : Hp} {E : XK} :
    (cxOf CX P w K mg base N qual scope f cd A outer s H E).K = K := rfl
def tBetw (ta tb : TE) (k : Int) : TE := fun σ H Q => ta σ H fun x H1 => tb σ H1 fun y H2 => ∃ i j, x = .int i ∧ y = .int j ∧ Q (.bl (decide (i ≤ j) && decide (j ≤ k))) H2
def tBetwT (ta tb : TE) (k : Int) : TT := fun σ H Q => ta σ H fun x H1 => tb σ H1 fun y H2 => ∃ i j, x = .int i ∧ y = .int j ∧ Q (decide (i ≤ j) && decide (j ≤ k)) H2
def rTo : V → Option Int → Option Int → Hp → VK → Prop := fun x lo hi H Q => ∃ z j, x = .str z ∧ lo = none ∧ hi = some j ∧ z.length ≤ sizeLine ∧ 0 ≤ j ∧ Q (.str (tx (z.cps.toList.take j.toNat))) H
def rFr : V → Option Int → Option Int → Hp → VK → Prop := fun x lo hi H Q => ∃ z j, x = .str z ∧ lo = some j ∧ hi = none ∧ z.length ≤ sizeLine ∧ 0 ≤ j ∧ Q (.str (tx (z.cps.toList.drop j.toNat))) H
theorem starts1 (l : List Nat) (c : Nat) : Txt.startswith (tx l) (tx [c]) = decide (l.head? = some c) := by
  unfold Txt.startswith
  cases l with
  | nil => rfl
  | cons a r =>
    rw [Bool.eq_iff_iff]
    simp [Builtin.Str.subAt, Str.length, tx]
end L2
set_option Elab.async false
set_option linter.all false
set_option maxRecDepth 100000
namespace L2
open PySem
def digs : List Nat := [48, 49, 50, 51, 52, 53, 54, 55, 56, 57]
def numC (n : Int) : List Nat := (Str.ofString (toString n)).cps.toList
def figsC (l : List Nat) : Bool := decide (1 ≤ l.length ∧ l.length ≤ 60) && (!(decide (l.head? = some 48) && decide (l ≠ [48]))) && l.all fun c => decide (c ∈ digs)
def readC (l : List Nat) : Option Int :=
  if l = [45, 48] ∨ figsC (if l.head? = some 45 then l.drop 1 else l) = false then none
  else some (if l.head? = some 45 then -((NumText.digitsVal (l.drop 1) : Nat) : Int) else ((NumText.digitsVal l : Nat) : Int))
def digC (m : Nat) : List Nat := (Nat.toDigits 10 m).map Char.toNat
theorem atI_zero {α : Type} {a : α} {r : List α} : atI (a :: r) 0 = some a := by
  have e := atI_nat (xs := a :: r) (j := 0) (v := a) rfl
  simpa using e
end L2
set_option Elab.async false
set_option linter.all false
set_option maxRecDepth 100000
namespace L2
open PySem PySem.Spec PyProof.Rows
abbrev veB : List Value := [.type "ValueError", .type "Exception", .type "BaseException", .type "object"]
structure XCls (K : PySem.W.Frag) (mg : Str → Option Value) (x : Str) (C : Addr) : Prop where
  g : mg x = some (.ref C)
  ex : PySem.W.excIn K C veB "ValueError.__new__" = true
theorem XCls.own {K : PySem.W.Frag} {mg : Str → Option Value} {x : Str} {C : Addr} {h : Heap} (T : XCls K mg x C) (X : K.In h) : OwnCls x C veB "ValueError.__new__" mg h := by
  refine ⟨T.g, ?_⟩
  have q := T.ex
  unfold PySem.W.excIn at q
  split at q
  · rename_i dd cd sl ho
    split at q
    · rename_i C' bm k0 k1 k2 k3 n k5 hm hs
      simp only [Bool.and_eq_true, beq_iff_eq, Bool.not_eq_true'] at q
      obtain ⟨⟨⟨⟨⟨e1, e2⟩, e3⟩, e4⟩, e5⟩, e6⟩ := q
      subst e1 e2
      obtain ⟨nm, bs, mro, ns, qn, hd, sn, sub, ab, col, del⟩ := cd
      dsimp only at hm e3 e5 e6
      subst hm e3
      obtain rfl : sl = #[k0, k1, k2, k3, some (.builtin "ValueError.__new__"), k5] := by
        obtain ⟨l⟩ := sl
        simp only at hs
        rw [hs]
      exact ⟨bm, ns, nm, qn, bs, hd, sn, sub, ab, col, dd, k0, k1, k2, k3, k5, _, X _ _ ho, .of_isNs (PySem.W.isNs_of_in X e5), PySem.W.nsMap_none_of_in X e5 e6, PySem.W.tail_of_in X e4⟩
    · cases q
  · cases q
structure Fly (P : Program) (w : World) (outer : List Env) (H : Hp) (s : Shared) (H' : Hp) (a C : Addr) (s' : Shared) : Prop where
  os : s'.os = s.os
  bare : AllBare s'.gens
  fly : ∃ a0 B, Heap.FlyingW B outer a (.ref C) a0 s'.heap ∧ HOk P w H' B ∧ (∀ b o, s.heap.get? b = some o → H b = none → b ∉ frs outer → B.get? b = some o) ∧ ∀ b o, s.heap.get? b = some o → b ∉ frs outer → ∃ o', B.get? b = some o'
  slot : ∀ b o, s.heap.get? b = some o → H b = none → b ∈ frs outer → ∃ sl, s'.heap.get? b = some { o with slots := sl }
  free : ∀ b o, s.heap.get? b = some o → H b = none → H' b = none
  tups : ∀ b xs, H b = some (.tup xs) → H' b = some (.tup xs)
  frzs : ∀ b o u, H b = some (.frz o u) → H' b = some (.frz o u)
  tbls : ∀ b ps, H b = some (.tbl ps) → ∃ more, H' b = some (.tbl (ps ++ more))
def CX1 (P : Program) (w : World) : CXT := fun outer H s E e s' => ∃ a C H', e = .ref a ∧ Fly P w outer H s H' a C s' ∧ E (.ref C) none H'
def Raises (X : Cx) (E : XK) : Prop := ∀ (pins : List (Addr × Obj)) (σ : St) (H : Hp) (s : Shared) (h' : Heap) (e C : Addr) (vs : List Value), Inv X pins σ H s → Heap.MadeExcOf s.heap h' e (.ref C) vs → E (.ref C) none H → X.xe (.ref e) { s with heap := h' }
section
variable {P : Program} {w : World} {K : PySem.W.Frag} {mg : Str → Option Value} {base : Heap} {N : List Str} {qual : Str} {scope : Scope} {f : Addr} {cd : Value} {A : Around} {outer : List Env} {s : Shared} {H : Hp} {E : XK}
end
theorem pass0' {P : Program} {w : World} {X : Cx} : Passes (CX1 P w) X E0 := fun _ _ _ _ _ _ _ ⟨_, _, _, _, _, z⟩ => z.elim
def tRaise (E : XK) (C : Addr) (te : TE) : TS := fun _ σ H => te σ H fun _ H1 => E (.ref C) none H1
end L2
set_option Elab.async false
set_option linter.all false
set_option maxRecDepth 100000
namespace L2
open PySem PySem.Spec PyProof.Rows PySem.W PySem.Builtin PySem.Builtin.ObjectAttr PySem.Builtin.Getset_descriptor
structure XLook (K : Frag) (C : Addr) : Prop where
  ga : findIn K (.ref C) "__getattribute__" = some (some (.builtin "BaseException.__getattribute__"))
  gn : findIn K (.ref C) "__getattr__" = some none
  cl : findIn K (.ref C) "__class__" = some (some (.builtin "object.__class__"))
  hc : (clsIn K C).isSome = true
  hn : specialIn K (.builtin "object.__class__") "__get__" = some (some (.builtin "getset_descriptor.__get__"))
  tk : takesIn K (.builtin "object.__class__") = some true
  mo : mroIn K C (.type "object") = some true
  mb : mroIn K C (.type "BaseException") = some true
def OfCls (h : Heap) (x C : Addr) : Prop := ∃ ox, h.get? x = some ox ∧ ox.cls = .ref C
theorem OfCls.type {M : Model} {h : Heap} {x C : Addr} (I : OfCls h x C) : Looks M h (typeOf (.ref x)) (.ref C) := by
  obtain ⟨ox, e, c⟩ := I
  exact c ▸ (Looks.ld e).andThen .now
section
variable {prog : Program} {w : World} {A : Around} {E : Value → Shared → Prop} {s : Shared} {K : Frag} {x C : Addr}
end
abbrev hoExc (a C : Addr) : HO := .ext fun h => OfCls h a C
section
variable {X : Cx}
end
end L2
set_option Elab.async false
set_option linter.all false
set_option maxRecDepth 100000
namespace L2
open PySem PySem.Spec PyProof.Rows
theorem objok_there {P : Program} {w : World} {H : Hp} {h : Heap} {a : Addr} {o : HO} (x : ObjOk P w H h a o) : ∃ ob, h.get? a = some ob := by
  cases o with
  | lst xs => obtain ⟨_, _, _, _, e⟩ := x; exact ⟨_, e⟩
  | tup xs => obtain ⟨_, _, _, ob, e, _⟩ := x; exact ⟨ob, e⟩
  | dK kvs => obtain ⟨_, _, _, _, o, _, _, e, _⟩ := x; exact ⟨o, e⟩
  | dT kvs => obtain ⟨_, _, _, _, o, _, _, e, _⟩ := x; exact ⟨o, e⟩
  | set S n => obtain ⟨o, _, _, _, e, _⟩ := x; exact ⟨o, e⟩
  | ins C dx fs => obtain ⟨_, _, _, e, _⟩ := x; exact ⟨_, e⟩
  | own y => obtain ⟨o, e⟩ := x; exact ⟨o, e⟩
  | xd fs => obtain ⟨_, ⟨o, _, _, e, _⟩, _⟩ := x; exact ⟨o, e⟩
  | rng lo hi => obtain ⟨_, _, _, e⟩ := x; exact ⟨_, e⟩
  | frz ob u => obtain ⟨e, _⟩ := x; exact ⟨ob, e⟩
  | tbl ps => exact ⟨_, x⟩
  | met f y => exact ⟨_, x⟩
  | ext φ => obtain ⟨_, e, _⟩ := x; exact e
def PEat (X : Cx) (pins : List (Addr × Obj)) (σ : St) (e : Expr) (t : TE) : Prop := ∀ (s : Shared) (H : Hp) (Q : VK), Inv X pins σ H s → t σ H Q → wpAny (model X.prog X.w) X.A (eval e X.env) (EP X pins σ Q) X.xe s
def PassesAt (CX : CXT) (X : Cx) (pins : List (Addr × Obj)) (σ : St) (E : XK) : Prop := ∀ (H : Hp) (s : Shared) (e : Value) (s' : Shared), Inv X pins σ H s → CX X.stack H s E e s' → X.xe e s'
section
variable {X : Cx} {CX : CXT} {k : Nat} {f C : Addr} {fd : FuncData} {ps : List Str} {sp : Sp} {dvs : List V} {ds : List Value} {E : XK} {x m : Str} {p pos apos : Pos} {e o : Expr} {es : List Expr} {ta : TE} {t : TA} {pins : List (Addr × Obj)} {σ : St}
end
def XPX (X : Cx) (CX : CXT) (pins : List (Addr × Obj)) (EX : St → XK) : Value → Shared → Prop := fun e s' => ∃ σ H s, Inv X pins σ H s ∧ CX X.stack H s (EX σ) e s'
abbrev TSX := Ends → (St → XK) → St → Hp → Prop
def PSX1 (CX : CXT) (X : Cx) (st : Stmt) (t : TSX) : Prop := ∀ (pins : List (Addr × Obj)) (s : Shared) (σ : St) (H : Hp) (D : Ends) (EX : St → XK), Inv X pins σ H s → t D EX σ H → wpAny (model X.prog X.w) X.A (exec st X.env) (SP X pins D) (XPX X CX pins EX) s
def PSX (CX : CXT) (X : Cx) (sts : List Stmt) (t : TSX) : Prop := ∀ (pins : List (Addr × Obj)) (s : Shared) (σ : St) (H : Hp) (D : Ends) (EX : St → XK), Inv X pins σ H s → t D EX σ H → wpAny (model X.prog X.w) X.A (execs sts X.env) (SP X pins D) (XPX X CX pins EX) s
section
variable {X : Cx} {CX : CXT} {st : Stmt} {rest : List Stmt} {t u : TSX} {e : Expr} {pos : Pos} {te : XK → TE}
def xSeq (t u : TSX) : TSX := fun D EX σ H => t { D with nx := u D EX } EX σ H
def XE (CX : CXT) (X : Cx) (e : Expr) (te : XK → TE) : Prop := ∀ (xe : Value → Shared → Prop) (pins : List (Addr × Obj)) (σ : St) (E : XK), PassesAt CX (X.wish xe) pins σ E → PEat (X.wish xe) pins σ e (te E)
end
end L2
set_option Elab.async false
set_option linter.all false
set_option maxRecDepth 100000
namespace L2
open PySem PySem.Spec PyProof.Rows
abbrev Cx.hdl (X : Cx) (a : Addr) : Cx := { X with A := X.A.mark (some (.ref a)), calm := false, xe := fun _ _ => False }
section
variable {X : Cx} {pins : List (Addr × Obj)} {σ : St} {H : Hp} {s : Shared} {a : Addr}
theorem Inv.hdl (I : Inv X pins σ H s) (a : Addr) : Inv (X.hdl a) pins σ H s :=
  ⟨⟨I.ok.mod, I.ok.kind, I.ok.glob, I.ok.blt, I.ok.above, I.ok.inj, I.ok.has, I.ok.cab, fun z => (nomatch z), I.ok.frames, I.ok.stk, I.ok.exf, I.ok.bs, I.ok.bsz, I.ok.noex, I.ok.exfs, I.ok.funs, I.ok.frf⟩, I.os, I.bare, I.base, I.loc, I.cell, I.free, I.freeC, I.pin, I.hok, I.len⟩
theorem Inv.goes {i : Nat} {n : Str} {h' : Heap} {v : Option Value} {m : Str → Option Value} {t' : Nat} (I : Inv X pins σ H s) (hN : X.N.Nodup) (hi : X.N[i]? = some n)
    (hl : ∀ (j : Nat) (x : Str) (v : V), X.N[j]? = some x → σ[j]? = some (some v) → Vis X.env.scope x → ∃ u, RelV v u ∧ Look X.env s.heap m x u)
    (hn' : h'.Ns X.env.locals (fun x => if x = n then v else m x)) (sb : Heap.SameBut X.env.locals s.heap h') : Inv X pins (σ.set i none) H { s with heap := h', toks := t' } := by
  have ne : ∀ b o, X.s₀.heap.get? b = some o → b ≠ X.env.locals := fun b o e => Nat.ne_of_lt (Nat.lt_of_lt_of_le (Heap.lt_size e) I.ok.above)
  have hcell : ∀ x c, X.env.cells.lookup x = some c → ∀ u, s.heap.IsCell c u → h'.IsCell c u := fun x c e u ⟨o, ho, hd⟩ => ⟨o, (sb.2 c (I.cne x c e)).trans ho, hd⟩
  refine ⟨I.ok, I.os, I.bare, ⟨fun b o e n hb hx => (sb.2 b (ne b o e)).trans (I.base.keep b o e n hb hx), fun b o e n hb hx => ?_, I.base.free, fun b o e hx => ?_, I.base.tups, I.base.frzs, I.base.tbls⟩, ⟨_, hn', fun j x v' e1 e2 e3 => ?_⟩, fun x c e => ?_, I.free, I.freeC, fun p hp => ?_, fun b u e => ?_, by simpa using I.len⟩
  · obtain ⟨sl, q⟩ := I.base.slot b o e n hb hx
    exact ⟨sl, (sb.2 b (ne b o e)).trans q⟩
  · obtain ⟨o', q⟩ := I.base.there b o e hx
    exact ⟨o', (sb.2 b (ne b o e)).trans q⟩
  · by_cases hj : j = i
    · subst hj
      have hl2 : j < σ.length := by
        have := (List.getElem?_eq_some_iff.mp e2).1
        simpa using this
      rw [List.getElem?_set_self hl2] at e2
      cases e2
    · rw [List.getElem?_set_ne (Ne.symm hj)] at e2
      obtain ⟨u, r, q⟩ := hl j x v' e1 e2 e3
      refine ⟨u, r, ?_⟩
      rcases q with ⟨k, q⟩ | ⟨k, c, q, z⟩
      · have hxn : x ≠ n := fun z => hj (nodup_ix hN e1 (z ▸ hi))
        exact .inl ⟨k, (if_neg hxn).trans q⟩
      · exact .inr ⟨k, c, q, hcell x c q _ z⟩
  · obtain ⟨u, z⟩ := I.cell x c e
    exact ⟨u, hcell x c e u z⟩
  · obtain ⟨e, nn, ne', nf, d⟩ := I.pin p hp
    exact ⟨(sb.2 p.1 ne').trans e, nn, ne', nf, d⟩
  · refine (I.hok b u e).stay (fun c w hc q => (sb.2 c ?_).trans q) (fun _ q => q) fun _ _ q => q
    rintro rfl
    rcases hc with z | z
    · rw [← z, I.free] at e
      cases e
    · rw [I.free] at z
      cases z
end
def tTry (Ok : Addr → Prop) (i : Nat) (tb : TSX) (th : TS) : TS := fun D σ H => tb D (fun σ' c _ H' => ∃ C, c = .ref C ∧ Ok C ∧
  ∀ a, H' a = none → th { nx := fun σ2 H2 => D.nx (σ2.set i none) H2, rt := D.rt } (σ'.set i (some (.ref a))) (upd H' a (hoExc a C))) σ H
end L2
set_option Elab.async false
set_option linter.all false
set_option maxRecDepth 100000
namespace L2
open PySem PySem.Spec PyProof.Rows
structure RoomH (k : Nat) (A : Around) : Prop where
  dp : A.depth + 3 * k + 5 < recursionLimit
  un : A.units + 16 * k + 200 < cLine
theorem Room.h {k : Nat} {A : Around} (r : Room k A) (e : Option Value) : RoomH k (A.mark e) := ⟨r.dp, r.un⟩
theorem RoomH.deeper {k : Nat} {A : Around} (r : RoomH (k + 1) A) (env : Env) : RoomH k (A.deeper env) :=
  ⟨by have := r.dp; show A.depth + 1 + 3 * k + 5 < _; omega, by have := r.un; show A.units + 3 + 16 * k + 200 < _; omega⟩
theorem RoomH.mono {j k : Nat} {A : Around} (r : RoomH k A) (h : j ≤ k) : RoomH j A := ⟨by have := r.dp; omega, by have := r.un; omega⟩
structure FnOkH (P : Program) (w : World) (K : PySem.W.Frag) (mg : Str → Option Value) (base : Heap) (k : Nat) (f : Addr) (fd : FuncData) (ps : List Str) (sp : Sp) : Prop where
  len : ∀ vs H Q E, sp vs H Q E → vs.length = ps.length
  run : ∀ (A : Around) (outer : List Env) (s : Shared) (H : Hp) (args : Args) (us : List Value) (vs : List V) (Q : VK), RoomH k A → Env0 P w K mg base A outer s H → BindsTo s fd args (ps.zip us) → Vals vs us → sp vs H Q E0 →
    codeAny (model P w) A (.call (.ref f) args) (CR CX0 outer P w H s Q E0) s
theorem FnOkH.mono {P : Program} {w : World} {K : PySem.W.Frag} {mg : Str → Option Value} {base : Heap} {j k : Nat} {f : Addr} {fd : FuncData} {ps : List Str} {sp : Sp} (F : FnOkH P w K mg base j f fd ps sp) (h : j ≤ k) : FnOkH P w K mg base k f fd ps sp :=
  ⟨F.len, fun A outer s H args us vs Q hr => F.run A outer s H args us vs Q (hr.mono h)⟩
def cxH (P : Program) (w : World) (K : PySem.W.Frag) (mg : Str → Option Value) (base : Heap) (N : List Str) (qual : Str) (scope : Scope) (f : Addr) (cd : Value) (A : Around) (outer : List Env) (s : Shared) (H : Hp) : Cx :=
  { cxOf CX0 P w K mg base N qual scope f cd A outer s H E0 with calm := false, xe := fun _ _ => False }
section
variable {P : Program} {w : World} {K : PySem.W.Frag} {mg : Str → Option Value} {base : Heap}
theorem Fun.okX {x qual : Str} {st : Stmt} {f : Addr} {fd : FuncData} {N ps : List Str} {k : Nat} {sp : Sp} (F : Fun K x qual st f fd) (S : FnScope N ps (defScope st)) (len : ∀ vs H Q E, sp vs H Q E → vs.length = ps.length)
    (hbody : ∀ (cdv : Value) (A : Around) (outer : List Env) (s : Shared) (H : Hp) (vs : List V) (Q : VK) (E : XK), Room k (A.deeper (envOfC qual (defScope st) s.heap.objs.size f cdv)) → sp vs H Q E →
      ∃ t, PSs (cxOf (CX1 P w) P w K mg base N qual (defScope st) f cdv A outer s H E) (defBody st) t ∧ t { nx := fun _ H' => Q .non H', rt := Q } (start N vs) H) : FnOk P w K mg base (CX1 P w) (k + 1) f fd ps sp := by
  obtain ⟨oc, od, kV, doc, pm, an, cdv, ct, osl, rfl, lk, hcd⟩ := F.ex
  exact fn_of lk hcd S len fun A outer s H vs Q E hr hsp => hbody cdv A outer s H vs Q E hr hsp
theorem Fun.okN {x qual : Str} {st : Stmt} {f : Addr} {fd : FuncData} {N ps : List Str} {k : Nat} {sp : Sp} (F : Fun K x qual st f fd) (S : FnScope N ps (defScope st)) (len : ∀ vs H Q E, sp vs H Q E → vs.length = ps.length)
    (hbody : ∀ (cdv : Value) (A : Around) (outer : List Env) (s : Shared) (H : Hp) (vs : List V) (Q : VK) (E : XK), Room k (A.deeper (envOfC qual (defScope st) s.heap.objs.size f cdv)) → sp vs H Q E →
      ∃ t, PSs (cxOf (CX1 P w) P w K mg base N qual (defScope st) f cdv A outer s H E).nox (defBody st) t ∧ t { nx := fun _ H' => Q .non H', rt := Q } (start N vs) H) : FnOk P w K mg base (CX1 P w) (k + 1) f fd ps sp :=
  F.okX S len fun cdv A outer s H vs Q E hr hsp => by
    obtain ⟨t, h, q⟩ := hbody cdv A outer s H vs Q E hr hsp
    exact ⟨t, h.nox, q⟩
end
section
variable {X : Cx}
theorem pe_fnx {P : Program} {w : World} {k : Nat} {f : Addr} {fd : FuncData} {ps : List Str} {sp : Sp} {E : XK} {x : Str} {st : Stmt} {p pos : Pos} {e : Expr} {es : List Expr} {t : TA} (D : DefOk X.K X.mg x st ps f fd) (F : FnOk X.prog X.w X.K X.mg X.base (CX1 P w) k f fd ps sp) (hr : Room k X.A)
    (hx : Passes (CX1 P w) X E) (ha : PA X (e :: es) t) (hg : Gl X x := by rfl) (hdb : (x == ("__debug__" : Str)) = false := by decide) (he : starEach (e :: es) X.env = (false, eval e X.env) :: starEach es X.env := by rfl) (hpl : (backTo pos (starEach es X.env)).any (·.1) = false := by rfl) :
    PE X (.Call (.Name x p) (e :: es) [] pos) (tCall sp [] E t) := pe_call F hr hg D.g D.fn.kp D.b .nil hx ha hdb he hpl
end
end L2
set_option Elab.async false
set_option linter.all false
set_option maxRecDepth 100000
namespace L2
open PySem PySem.Spec PyProof.Rows PySem.W
abbrev xRow (K : Frag) (S : Addr) (cs : List Addr) (C : Addr) :=
  ((excIn K C veB "ValueError.__new__", findIn K (.ref C) "__getattribute__", findIn K (.ref C) "__getattr__", findIn K (.ref C) "__class__"),
   ((clsIn K C).isSome, specialIn K (.builtin "object.__class__") "__get__", takesIn K (.builtin "object.__class__"), mroIn K C (.type "object")),
   (mroIn K C (.type "BaseException"), exmOne K (.ref C) (.ref S), kitOne K (.ref C) (.type "ValueError"), cs.map fun D => kitOne K (.ref C) (.ref D)))
abbrev xRow0 (cs : List Addr) (C : Addr) : (Bool × Option (Option Value) × Option (Option Value) × Option (Option Value)) × (Bool × Option (Option Value) × Option Bool × Option Bool) × (Option Bool × Option Bool × Option Bool × List (Option Bool)) :=
  ((true, some (some (.builtin "BaseException.__getattribute__")), some none, some (some (.builtin "object.__class__"))),
   (true, some (some (.builtin "getset_descriptor.__get__")), some true, some true),
   (some true, some true, some true, cs.map fun D => some (decide ((C : Nat) = D))))
structure XSet (K : Frag) (S : Addr) (cs : List Addr) : Prop where
  rows : cs.map (xRow K S cs) = cs.map (xRow0 cs)
  nd : decide (@List.Nodup Nat cs) = true
section
variable {K : Frag} {S : Addr} {cs : List Addr} {C D : Addr}
theorem XSet.row (T : XSet K S cs) (h : C ∈ cs) : xRow K S cs C = xRow0 cs C := (List.map_inj_left.mp T.rows) C h
theorem XSet.look (T : XSet K S cs) (h : C ∈ cs) : XLook K C := by
  have e := T.row h
  simp only [Prod.mk.injEq] at e
  exact ⟨e.1.2.1, e.1.2.2.1, e.1.2.2.2, e.2.1.1, e.2.1.2.1, e.2.1.2.2.1, e.2.1.2.2.2, e.2.2.1⟩
theorem XSet.exc (T : XSet K S cs) (h : C ∈ cs) : excIn K C veB "ValueError.__new__" = true := by
  have e := T.row h
  simp only [Prod.mk.injEq] at e
  exact e.1.1
theorem XSet.val (T : XSet K S cs) (h : C ∈ cs) : kitOne K (.ref C) (.type "ValueError") = some true := by
  have e := T.row h
  simp only [Prod.mk.injEq] at e
  exact e.2.2.2.2.1
theorem XSet.two (T : XSet K S cs) (h : C ∈ cs) (h' : D ∈ cs) : kitOne K (.ref C) (.ref D) = some (decide ((C : Nat) = D)) := by
  have e := T.row h
  simp only [Prod.mk.injEq] at e
  exact (List.map_inj_left.mp e.2.2.2.2.2) D h'
theorem XSet.ne (T : XSet K S cs) {i j : Nat} (h : cs[i]? = some C) (h' : cs[j]? = some D) (hij : i ≠ j) : ¬ (C : Nat) = D := fun e => by
  have nd := of_decide_eq_true T.nd
  obtain ⟨hi, e1⟩ := List.getElem?_eq_some_iff.mp h
  obtain ⟨hj, e2⟩ := List.getElem?_eq_some_iff.mp h'
  exact hij ((List.getElem_inj nd).mp (show @getElem (List Nat) Nat Nat _ _ cs i hi = cs[j] from e1.trans (e.trans e2.symm)))
theorem XSet.cls {mg : Str → Option Value} {x : Str} (T : XSet K S cs) (h : C ∈ cs) (g : mg x = some (.ref C)) : XCls K mg x C := ⟨g, T.exc h⟩
end
section
variable {X : Cx} {S : Addr} {cs : List Addr}
def rIsX (cs : List Addr) : List V → Hp → VK → Prop := fun xs H Q => ∃ (a : Addr) (d : V), xs = [.ref a, d] ∧ ∃ C : Addr, H a = some (hoExc a C) ∧ C ∈ cs ∧ ∃ D : Addr, d = .ref D ∧ D ∈ cs ∧ Q (.bl (decide ((C : Nat) = D))) H
def rIsV (cs : List Addr) : List V → Hp → VK → Prop := fun xs H Q => ∃ (a : Addr) (d : V), xs = [.ref a, d] ∧ d = .ty "ValueError" ∧ ∃ C : Addr, H a = some (hoExc a C) ∧ C ∈ cs ∧ Q (.bl true) H
end
section
variable {X : Cx} {CX : CXT} {e : Expr} {es : List Expr} {t : TE}
def XA (CX : CXT) (X : Cx) (es : List Expr) (ta : XK → TA) : Prop := ∀ (xe : Value → Shared → Prop) (pins : List (Addr × Obj)) (σ : St) (E : XK), PassesAt CX (X.wish xe) pins σ E →
  ∀ (pos : Pos) (s : Shared) (H : Hp) (Q : List V → Hp → Prop), Inv (X.wish xe) pins σ H s → ta E σ H Q → wpAny (model X.prog X.w) X.A (spliced (backTo pos (starEach es X.env))) (AP (X.wish xe) pins σ Q) xe s
end
structure MethOk (K : PySem.W.Frag) (C : Addr) (m qual : Str) (st : Stmt) (ps : List Str) (f : Addr) (fd : FuncData) : Prop where
  at_ : Meth K C m f
  fn : Fun K m qual st f fd
  b : Binds K fd ps []
section
variable {X : Cx} {P : Program} {w : World} {k : Nat} {f C : Addr} {fd : FuncData} {ps : List Str} {sp : Sp} {E : XK} {m qual : Str} {st : Stmt} {apos pos : Pos} {e o : Expr} {es : List Expr} {ta : TE} {t : TA}
end
end L2
set_option Elab.async false
set_option linter.all false
set_option maxRecDepth 100000
namespace L2
open PySem PySem.Spec PyProof.Rows
end L2
set_option Elab.async false
set_option linter.all false
set_option maxRecDepth 100000
namespace L2
open PySem PySem.Spec PyProof.Rows
theorem atI_in {α : Type} {xs : List α} {i : Int} (h0 : 0 ≤ i) (h1 : i < xs.length) : ∃ v, atI xs i = some v ∧ xs[i.toNat]? = some v := by
  obtain ⟨j, rfl⟩ := Int.eq_ofNat_of_zero_le h0
  have hj : j < xs.length := by omega
  exact ⟨xs[j], atI_nat (by simp [hj]), by simp [hj]⟩
theorem rd_pick {K : PySem.W.Frag} {H : Hp} {p : Addr} {xs : List V} {i : Int} {Q : VK} (h0 : 0 ≤ i) (h1 : i < xs.length) (k : ∀ v ∈ xs, Q v (upd H p (.lst xs))) : rIxL K (.ref p) (.int i) (upd H p (.lst xs)) Q := by
  obtain ⟨v, e, e2⟩ := atI_in h0 h1
  exact ⟨p, xs, i, v, rfl, rfl, SqL.of upd_same, e, k v (List.mem_of_getElem? e2)⟩
theorem rd_sign {H : Hp} {l : List Nat} {i : Int} {Q : VK} (hz : l.length ≤ sizeLine) (h0 : 0 ≤ i) (h1 : i < l.length) (k : ∀ c, l[i.toNat]? = some c → Q (.str (tx [c])) H) : rIxS (.str (tx l)) (.int i) H Q := by
  obtain ⟨v, e, e2⟩ := atI_in h0 h1
  exact ⟨_, i, v, rfl, rfl, by rw [tx_len]; exact hz, by rw [tx_list]; exact e, k v e2⟩
theorem sz_of {n : Nat} (h : n ≤ 100000) : n ≤ sizeLine := Nat.le_trans h (by rw [sizeLine_eq]; decide)
abbrev dgs : V := .str (tx [48, 49, 50, 51, 52, 53, 54, 55, 56, 57])
def dueV (l : List Nat) : V := match readC l with | some n => .int n | none => .non
end L2
set_option Elab.async false
set_option linter.all false
set_option maxRecDepth 100000
namespace L2
open PySem PySem.Spec PyProof.Rows PySem.P
theorem mul_one (c : Nat) {n : Int} (h : 0 ≤ n) : Txt.mul (tx [c]) n = tx (List.replicate n.toNat c) := by
  obtain ⟨k, rfl⟩ := Int.eq_ofNat_of_zero_le h
  have fo : ∀ (k : Nat) (acc : List Nat), (List.replicate k (tx [c]).cps).foldl (· ++ ·) acc.toArray = (acc ++ List.replicate k c).toArray := by
    intro k
    induction k with
    | zero => intro acc; simp
    | succ k ih =>
      intro acc
      rw [List.replicate_succ, List.foldl_cons]
      have e : acc.toArray ++ (tx [c]).cps = (acc ++ [c]).toArray := by simp [tx]
      rw [e, ih, List.append_assoc]
      rfl
  unfold Txt.mul
  by_cases h1 : ((k : Nat) : Int) < 1
  · rw [if_pos h1]
    have : k = 0 := by omega
    subst this
    rfl
  · rw [if_neg h1]
    by_cases h2 : k = 1
    · subst h2
      rfl
    · have e : ((((k : Nat) : Int) == 1) || (tx [c]).length == 0) = false := by
        have a : (((k : Nat) : Int) == 1) = false := by
          rw [beq_eq_false_iff_ne]
          omega
        rw [a]
        rfl
      first
        | rw [e, if_neg (by simp)]
        | skip
      have f := fo k []
      simp only [List.nil_append] at f
      simp [f]
      try omega
section
variable {X : Cx}
def rMulS : R2 := fun x y H Q => ∃ (c : Nat) (n : Int), x = .str (tx [c]) ∧ y = .int n ∧ 0 ≤ n ∧ n ≤ 1000 ∧ Q (.str (tx (List.replicate n.toNat c))) H
def rCount : V → List V → Hp → VK → Prop := fun x vs H Q => ∃ l xs y, x = .ref l ∧ vs = [y] ∧ H l = some (.lst xs) ∧ flatV y = true ∧ xs.all flatV = true ∧ Q (.int ((xs.countP fun z => eqV z y : Nat) : Int)) H
theorem get_eqU {x : V} : ∀ {xs : List V} {us : List Value} {m : Nat} (hm : m < us.length), Vals xs us → xs.all flatV = true → ∃ y, xs[m]? = some y ∧ eqU x us[m] = eqV y x
  | [], [], _, hm, _, _ => absurd hm (Nat.not_lt_zero _)
  | y :: xs, u :: us, 0, hm, .cons r t, f => by
    rw [List.all_cons, Bool.and_eq_true] at f
    exact ⟨y, rfl, eqU_of r f.1⟩
  | y :: xs, u :: us, m + 1, hm, .cons r t, f => by
    rw [List.all_cons, Bool.and_eq_true] at f
    exact get_eqU (xs := xs) (us := us) (m := m) (Nat.lt_of_succ_lt_succ hm) t f.2
def rIndex : V → List V → Hp → VK → Prop := fun x vs H Q => ∃ (l : Addr) (xs : List V) (y : V) (j : Nat) (z : V), x = .ref l ∧ vs = [y] ∧ H l = some (.lst xs) ∧ flatV y = true ∧ xs.all flatV = true ∧ xs[j]? = some z ∧ eqV z y = true ∧ (∀ (m : Nat) (z' : V), m < j → xs[m]? = some z' → eqV z' y = false) ∧ Q (.int (j : Int)) H
theorem mt_index : MtM X "list.index" rIndex := by
  intro pins s σ H x vs v us Q I rx rv h
  obtain ⟨l, xs, y, j, z', rfl, rfl, hH, fy, fx, hj, hit, hno, q⟩ := h
  cases rx
  obtain ⟨u, rfl, ru⟩ := rv.one
  obtain ⟨z, its, n, r, hl, e⟩ := I.lstM hH
  have hjl : j < its.length := by rw [← hl]; exact (List.getElem?_eq_some_iff.mp hj).1
  have big : (sizeLine : Int) < 2 ^ 63 - 1 := by rw [sizeLine_eq]; decide
  refine call_meets F.slot_list_index ⟨_, e, rfl⟩ F.entry_list_index (F.args_list_index_2 _ _) (SeqAt.list_indexAt l its.toArray n none #[] u (eqU y) j (by simpa using hjl) (by omega) ?_ ?_) ⟨e, fun w hw => mem_eqAt ru fy r fx w (by simpa using hw), ?_⟩
  · obtain ⟨y', e1, e2⟩ := get_eqU (x := y) hjl r fx
    rw [hj] at e1
    cases e1
    simpa using e2.trans hit
  · intro m hm hmj
    have hm' : m < its.length := by simpa using hm
    obtain ⟨y', e1, e2⟩ := get_eqU (x := y) hm' r fx
    simpa using e2.trans (hno m y' hmj e1)
  · exact ⟨.int _, H, I.tok _, ⟨_, rfl⟩, q⟩
def rRemove : V → List V → Hp → VK → Prop := fun x vs H Q => ∃ (l : Addr) (ns : List (List Nat)) (a : List Nat), x = .ref l ∧ vs = [.str (tx a)] ∧ H l = some (.lst (ns.map fun z => .str (tx z))) ∧ a ∈ ns ∧ Q .non (upd H l (.lst ((ns.erase a).map fun z => .str (tx z))))
end
end L2
set_option Elab.async false
set_option linter.all false
set_option maxRecDepth 100000
namespace L2
open PySem PySem.Spec PyProof.Rows PySem.P
def NF (X : Cx) (a : Addr) : Prop := ∀ o u, X.H₀ a ≠ some (.frz o u)
section
variable {X : Cx} {pins : List (Addr × Obj)} {σ : St} {H : Hp} {s : Shared} {a : Addr} {o o' : HO}
theorem Inv.retag (I : Inv X pins σ H s) (e : H a = some o) (h1 : ∀ xs, o ≠ .tup xs) (h2 : ∀ y, o ≠ .own y) (h3 : ∀ ps, o ≠ .tbl ps) (h4 : NF X a) (new : ObjOk X.prog X.w (upd H a o') s.heap a o') : Inv X pins σ (upd H a o') s := by
  have nn : ∀ b, H b = none → b ≠ a := fun b z w => by rw [w, e] at z; cases z
  have un : ∀ b, H b = none → upd H a o' b = none := fun b z => by rw [upd_ne (nn b z)]; exact z
  refine ⟨I.ok, I.os, I.bare, ⟨I.base.keep, I.base.slot, fun b ob q n hx => un b (I.base.free b ob q n hx), I.base.there, fun b xs q => ?_, fun b ob u q => ?_, fun b ps q => ?_⟩, I.loc, I.cell, un _ I.free, fun x c q => un _ (I.freeC x c q), fun p hp => ?_, fun b u q => ?_, I.len⟩
  · have z := I.base.tups b xs q
    rw [upd_ne (fun w => by rw [w, e] at z; exact h1 xs (Option.some.inj z))]
    exact z
  · have hb : b ≠ a := fun w => h4 ob u (by rw [← w]; exact q)
    rw [upd_ne hb]
    exact I.base.frzs b ob u q
  · obtain ⟨more, z⟩ := I.base.tbls b ps q
    exact ⟨more, by rw [upd_ne (fun w => by rw [w, e] at z; exact h3 _ (Option.some.inj z))]; exact z⟩
  · obtain ⟨p1, p2, p3⟩ := I.pin p hp
    exact ⟨p1, un _ p2, p3⟩
  · by_cases hb : b = a
    · subst hb
      rw [upd_same] at q
      cases q
      exact new
    · rw [upd_ne hb] at q
      refine (I.hok b u q).stay (fun _ _ _ z => z) (fun c z => ?_) fun c xs z => ?_
      · rw [upd_ne (fun w => by rw [w, e] at z; exact h2 b (Option.some.inj z))]
        exact z
      · rw [upd_ne (fun w => by rw [w, e] at z; exact h1 xs (Option.some.inj z))]
        exact z
theorem objok_dK {P : Program} {w : World} {H H' : Hp} {h : Heap} {kvs : List (Key × V)} (x : ObjOk P w H h a (.dK kvs)) : ObjOk P w H' h a (.dK kvs) := x
theorem Inv.freeze {kvs : List (Key × V)} (I : Inv X pins σ H s) (e : H a = some (.dK kvs)) : ∃ ob, s.heap.get? a = some ob ∧ NF X a ∧ Inv X pins σ (upd H a (.frz ob (.dK kvs))) s := by
  obtain ⟨ob, ho⟩ := objok_there (I.hok a _ e)
  have nf : NF X a := fun o u z => by
    have := I.base.frzs a o u z
    rw [e] at this
    cases this
  exact ⟨ob, ho, nf, I.retag e (fun _ z => nomatch z) (fun _ z => nomatch z) (fun _ z => nomatch z) nf ⟨ho, objok_dK (I.hok a _ e)⟩⟩
theorem Inv.thaw {ob : Obj} {kvs : List (Key × V)} (I : Inv X pins σ H s) (e : H a = some (.frz ob (.dK kvs))) (nf : NF X a) : Inv X pins σ (upd H a (.dK kvs)) s :=
  I.retag e (fun _ z => nomatch z) (fun _ z => nomatch z) (fun _ z => nomatch z) nf (objok_dK (I.hok a _ e).2)
def Thaw (X : Cx) (P : Hp → Prop) (H : Hp) : Prop := ∃ a ob kvs, NF X a ∧ H a = some (.frz ob (.dK kvs)) ∧ P (upd H a (.dK kvs))
end
theorem key_rel {P : Program} {w : World} {k : Key} {v : Value} (h : (mixKind P w).is k v = true) : RelV (kV k) v := by
  rcases keyIs_shape (show keyIs k v = true from h) with ⟨i, t, rfl, rfl⟩ | ⟨x, t, rfl, rfl⟩
  · exact ⟨t, rfl⟩
  · exact ⟨t, rfl⟩
def Itd (d : Addr) (ob : Obj) (kvs : List (Key × V)) : It :=
  ⟨fun i H => i < kvs.length ∧ H d = some (.frz ob (.dK kvs)), fun i H x H' => H' = H ∧ (kvs.map fun kv => kV kv.1)[i]? = some x, fun i H => i = kvs.length ∧ H d = some (.frz ob (.dK kvs))⟩
theorem dictAt_frz {X : Cx} {pins : List (Addr × Obj)} {σ : St} {H : Hp} {s : Shared} {d : Addr} {ob : Obj} {kvs : List (Key × V)} {es : Array DictEntry} {ep : Nat} (I : Inv X pins σ H s) (e : H d = some (.frz ob (.dK kvs))) (he : ob.data = .dict es ep) :
    (d == sysModules) = false ∧ kvs.length ≤ sizeLine ∧ ∃ vs, KV kvs vs ∧ s.heap.DictAt (mixKind X.prog X.w) d vs ep := by
  obtain ⟨ho, z, y, vs, r, o2, es2, ep2, e2, c1, c2, c3⟩ := I.hok d _ e
  rw [ho] at e2
  cases e2
  rw [he] at c2
  cases c2
  exact ⟨y, z, vs, r, ob, es, ho, c1, he, c3⟩
theorem turn_dict {P : Program} {w : World} {K : PySem.W.Frag} {y : Str} {py : Pos} (d it : Addr) (ob : Obj) (kvs : List (Key × V)) {es : Array DictEntry} {ep : Nat} (he : ob.data = .dict es ep) :
    Turn P w K (.Name y py) (Itd d ob kvs) [it] it (fun i h => h.IsKeyIter it d i kvs.length ep) where
  mem := by simp
  obj := fun i h st b hb => by
    have e : b = it := by simpa using hb
    subst e
    obtain ⟨o, e, c, d⟩ := st
    exact ⟨o, e, fun v z => by rw [d] at z; cases z⟩
  keep := fun i h h' st k => st.at fun o e => k it (by simp) o e
  item := by
    intro X hP hw hK hc i pins s σ H E I hf st hg
    subst hP hw hK
    obtain ⟨hi, hd⟩ := hg
    obtain ⟨_, _, vs, r, da⟩ := dictAt_frz I hd he
    have hl : kvs.length = vs.length := r.length
    have hiv : i < vs.length := by omega
    obtain ⟨⟨k, x⟩, hx⟩ : ∃ p, vs[i]? = some p := ⟨vs[i], by simp [hiv]⟩
    have hkey : (kvs.map fun kv => kV kv.1)[i]? = some (kV k) := by
      have e1 : (kvs.map (·.1))[i]? = some k := by
        rw [r.keys, List.getElem?_map, hx]
        rfl
      rw [List.getElem?_map] at e1 ⊢
      cases q : kvs[i]? with
      | none => rw [q] at e1; cases e1
      | some p =>
        rw [q] at e1
        have : p.1 = k := Option.some.inj e1
        rw [← this]
        rfl
    rw [hl] at st
    obtain ⟨f0, f1, f2, f3, f4, f5⟩ := hf it (by simp)
    refine wpAny_pyNext_dict_item st da hx fun key h' hk st' sb => ?_
    have I1 : Inv X pins σ H { s with heap := h' } := I.turned (t' := s.toks) (fun b o hb e => (sb.2 b hb).trans e) f0 f1 f3 f4 f5
    rw [← hl] at st'
    exact ⟨key, rfl, wpAny_pure ⟨kV k, H, I1, key_rel hk, ⟨rfl, hkey⟩, st', fun b hb => (hf b hb).1⟩⟩
  done := by
    intro X hP hw hK hc i pins s σ H E I hf st hg
    subst hP hw hK
    obtain ⟨hi, hd⟩ := hg
    obtain ⟨_, _, vs, r, da⟩ := dictAt_frz I hd he
    have hl : kvs.length = vs.length := r.length
    rw [hl] at st
    obtain ⟨f0, f1, f2, f3, f4, f5⟩ := hf it (by simp)
    exact wpAny_pyNext_dict_end (I.ok.hd hc) st da (by rw [List.getElem?_eq_none_iff]; omega) fun h' eb => ⟨rfl, I.turned (t' := s.toks) (fun b o hb e => eb b o hb e) f0 f1 f3 f4 f5⟩
  self := fun _ _ _ _ _ st h => wpAny_pyIter_keyiter st h
section
variable {X : Cx} {y : Str} {py : Pos}
def iDict (X : Cx) (te : TE) : TI := fun σ H R => te σ H fun x H1 => ∃ a kvs, x = .ref a ∧ H1 a = some (.dK kvs) ∧ ∀ ob, NF X a → R (Itd a ob kvs) (upd H1 a (.frz ob (.dK kvs)))
theorem pi_dict {e : Expr} {te : TE} (h : PE X e te) : PI X (.Name y py) e (iDict X te) := by
  intro pins s σ H R I hw
  refine thn (h pins s σ H _ I hw) fun v s1 ⟨x, H1, I1, r1, a, kvs, ex, ha, q⟩ => ?_
  subst ex
  cases (show v = Value.ref a from r1)
  obtain ⟨ob, ho, nf, I2⟩ := I1.freeze ha
  obtain ⟨_, _, _, _, o2, es, ep, e2, _, c2, _⟩ := I1.hok a _ ha
  rw [ho] at e2
  cases e2
  obtain ⟨hsm, hz, vs, r, da⟩ := dictAt_frz I2 upd_same c2
  refine wpAny_pyIter_dict hsm da ?_
  refine ⟨s1.heap.objs.size, [s1.heap.objs.size], _, Itd a ob kvs, _, rfl, I2.kept (t' := s1.toks) fun b o e => Heap.get?_push_of_some _ e, turn_dict a s1.heap.objs.size ob kvs c2, ⟨_, Heap.get?_push_size _ rfl, rfl, by rw [show kvs.length = vs.length from r.length]; rfl⟩, fun b hb => ?_, q ob nf⟩
  obtain rfl : b = s1.heap.objs.size := by simpa using hb
  exact I2.fpOk (Nat.le_refl _) (I2.hok.fresh (Nat.le_refl _))
def Dthaw (X : Cx) (D : Ends) : Ends := ⟨fun σ H => Thaw X (D.nx σ) H, fun v H => Thaw X (D.rt v) H, fun σ H => Thaw X (D.bk σ) H, fun σ H => Thaw X (D.ct σ) H⟩
def tForD (X : Cx) (te : TE) (g : TG) (tb : TS) : TS := fun D σ H => tFor (iDict X te) g tb (Dthaw X D) σ H
theorem SP.thaw {pins : List (Addr × Obj)} {D : Ends} {f : Flow} {s : Shared} (h : SP X pins (Dthaw X D) f s) : SP X pins D f s := by
  cases f with
  | next => obtain ⟨σ, H, I, a, ob, kvs, nf, e, q⟩ := h; exact ⟨σ, _, I.thaw e nf, q⟩
  | brk => obtain ⟨σ, H, I, a, ob, kvs, nf, e, q⟩ := h; exact ⟨σ, _, I.thaw e nf, q⟩
  | cont => obtain ⟨σ, H, I, a, ob, kvs, nf, e, q⟩ := h; exact ⟨σ, _, I.thaw e nf, q⟩
  | ret u => obtain ⟨v, σ, H, I, r, a, ob, kvs, nf, e, q⟩ := h; exact ⟨v, σ, _, I.thaw e nf, r, q⟩
theorem ps_forD {iter : Expr} {body : List Stmt} {te : TE} {g : TG} {tb : TS} {pos : Pos} (hp : PassesOwn (model X.prog X.w) X.A X.env X.xe) (hc : X.calm = true) (hi : PE X iter te) (hg : PG X (.Name y py) g) (hb : PSs X body tb)
    (hs : ∀ x, foldedSetIterable iter X.env x = pure x := by intro _; rfl) : PS X (.For (.Name y py) iter body [] pos) (tForD X te g tb) := fun pins s σ H D I h =>
  thn (ps_for hp hc (pi_dict hi) hg hb hs pins s σ H (Dthaw X D) I h) fun f s' q => q.thaw
def tCompD (X : Cx) (te : TE) (fr : List Nat) (tt : TT) (tel : TE) : TE := fun σ H Q => tComp (iDict X te) fr tt tel σ H fun v H2 => Thaw X (Q v) H2
section
variable {elt iter : Expr} {ifs : List Expr} {scope : Scope} {pos : Pos} {N : List Str} {fr : List Nat} {tt : TT} {te tel : TE}
end
end
theorem comp_dict {X : Cx} {H : Hp} {fr : List Nat} {σ : St} {te : TE} {tt : TT} {tel : TE} {Q : VK} {d : Addr} {kvs : List (Key × V)} (hte : ∀ R : VK, R (.ref d) H → te σ H R) (hd : H d = some (.dK kvs)) (hz : kvs.length ≤ sizeLine) (p : Key → Bool) (f : Key → V)
    (ht : ∀ k H2 Q2, k ∈ kvs.map (·.1) → (∀ b u, b ≠ d → H b = some u → H2 b = some u) → Rd H2 d (.dK kvs) → (∀ H3, Same H2 H3 → Q2 (p k) H3) → tt (stB1 (kV k) fr σ) H2 Q2)
    (he : ∀ k H2 Q2, k ∈ kvs.map (·.1) → p k = true → (∀ b u, b ≠ d → H b = some u → H2 b = some u) → Rd H2 d (.dK kvs) → (∀ H3, Same H2 H3 → Q2 (f k) H3) → tel (stB1 (kV k) fr σ) H2 Q2)
    (hQ : ∀ D H2, H D = none → Same H H2 → H2 D = some (.lst (((kvs.map (·.1)).filter p).map f)) → Q (.ref D) H2) : tCompD X te fr tt tel σ H Q := by
  refine hte _ ⟨d, kvs, rfl, hd, fun ob nf => ?_⟩
  have T : Tells (Itd d ob kvs) (upd H d (.frz ob (.dK kvs))) ((kvs.map (·.1)).map kV) := by
    have hl : ((kvs.map (·.1)).map kV).length = kvs.length := by simp
    refine ⟨fun i H2 hi s2 => ⟨by rw [← hl]; exact hi, s2 _ _ upd_same⟩, fun H2 s2 => ⟨hl, s2 _ _ upd_same⟩, fun i H2 x H3 s2 hi y => ⟨y.1, ?_⟩⟩
    have e := y.2
    rw [List.map_map]
    exact e
  have off : ∀ H2, Same (upd H d (.frz ob (.dK kvs))) H2 → (∀ b u, b ≠ d → H b = some u → H2 b = some u) ∧ Rd H2 d (.dK kvs) := fun H2 s2 =>
    ⟨fun b u hb e => s2 b u (by rw [upd_ne hb]; exact e), .inr ⟨ob, s2 _ _ upd_same⟩⟩
  refine comp_by T p f (by rw [List.length_map]; exact hz) (fun k H2 Q2 hk s2 h => ht k H2 Q2 hk (off H2 s2).1 (off H2 s2).2 h) (fun k H2 Q2 hk hp s2 h => he k H2 Q2 hk hp (off H2 s2).1 (off H2 s2).2 h) fun D H2 hD s2 d2 => ?_
  have hDd : D ≠ d := fun z => by
    rw [z, upd_same] at hD
    cases hD
  rw [upd_ne hDd] at hD
  refine ⟨d, ob, kvs, nf, s2 _ _ upd_same, hQ D _ hD (fun b u e => ?_) (by rw [upd_ne hDd]; exact d2)⟩
  by_cases hb : b = d
  · subst hb
    rw [hd] at e
    cases e
    exact upd_same
  · rw [upd_ne hb]
    exact (off H2 s2).1 b u hb e
end L2
set_option Elab.async false
set_option linter.all false
set_option maxRecDepth 100000
namespace L2
open PySem PySem.Spec PyProof.Rows PySem.P
mutual
inductive DatV (K : PySem.W.Frag) (H : Hp) : V → PyData → Prop
  | non : DatV K H .non .none
  | bl (b : Bool) : DatV K H (.bl b) (.bool b)
  | int (i : Int) : DatV K H (.int i) (.int i)
  | str (x : Str) : DatV K H (.str x) (.str x)
  | lst {a : Addr} {xs : List V} {ds : List PyData} : SqL K H a xs → DatVs K H xs ds → DatV K H (.ref a) (.list ds)
  | tup {a : Addr} {xs : List V} {ds : List PyData} : SqT K H a xs → DatVs K H xs ds → DatV K H (.ref a) (.tuple ds)
inductive DatVs (K : PySem.W.Frag) (H : Hp) : List V → List PyData → Prop
  | nil : DatVs K H [] []
  | cons {x : V} {xs : List V} {d : PyData} {ds : List PyData} : DatV K H x d → DatVs K H xs ds → DatVs K H (x :: xs) (d :: ds)
end
section
variable {X : Cx} {pins : List (Addr × Obj)} {σ : St} {H : Hp} {s : Shared}
mutual
theorem DatV.reads (I : Inv X pins σ H s) : ∀ {v : V} {d : PyData} {u : Value}, DatV X.K H v d → RelV v u → ∃ as, Reads s.heap u d as
  | _, _, _, .non, r => by cases r; exact ⟨_, .none⟩
  | _, _, _, .bl b, r => by cases r; exact ⟨_, .bool b⟩
  | _, _, _, .int i, r => by obtain ⟨t, rfl⟩ := r; exact ⟨_, .int i t⟩
  | _, _, _, .str x, r => by obtain ⟨t, rfl⟩ := r; exact ⟨_, .str x t⟩
  | _, _, _, .lst hq hs, r => by
    cases r
    obtain ⟨its, rv, pl, _⟩ := I.list hq
    obtain ⟨as, ra⟩ := DatVs.reads I hs rv
    obtain ⟨o, ho, hc, n, hd⟩ := pl.isList
    exact ⟨_, .list ho hc hd (by simpa using ra)⟩
  | _, _, _, .tup hq hs, r => by
    cases r
    obtain ⟨its, rv, pl, _⟩ := I.tuple hq
    obtain ⟨as, ra⟩ := DatVs.reads I hs rv
    obtain ⟨o, ho, hc, n, hd⟩ := pl
    exact ⟨_, .tuple ho hc hd (by simpa using ra)⟩
theorem DatVs.reads (I : Inv X pins σ H s) : ∀ {vs : List V} {ds : List PyData} {us : List Value}, DatVs X.K H vs ds → Vals vs us → ∃ as, ReadsAll s.heap us ds as
  | _, _, _, .nil, r => by cases r; exact ⟨_, .nil⟩
  | _, _, _, .cons h hs, r => by
    cases r with
    | cons r1 r2 =>
      obtain ⟨as, a1⟩ := DatV.reads I h r1
      obtain ⟨bs, b1⟩ := DatVs.reads I hs r2
      exact ⟨_, .cons a1 b1⟩
end
end
mutual
theorem eqv_refl : ∀ d : PyData, d.canLay0 = true → PyData.eqv d d = true
  | .none, _ => by simp [PyData.eqv]
  | .bool b, _ => by simp [PyData.eqv]
  | .int i, _ => by simp [PyData.eqv]
  | .str x, _ => by simp [PyData.eqv]
  | .list xs, h => by
    rw [PyData.eqv]
    exact eqvAll_refl xs (by simpa [PyData.canLay0] using h)
  | .tuple xs, h => by
    rw [PyData.eqv]
    exact eqvAll_refl xs (by simpa [PyData.canLay0] using h)
  | .dict _, h => by simp [PyData.canLay0] at h
theorem eqvAll_refl : ∀ ds : List PyData, PyData.canLayAll0 ds = true → PyData.eqvAll ds ds = true
  | [], _ => by simp [PyData.eqvAll]
  | d :: ds, h => by
    rw [PyData.canLayAll0, Bool.and_eq_true] at h
    rw [PyData.eqvAll, eqv_refl d h.1, eqvAll_refl ds h.2]
    rfl
end
def rEqD (K : PySem.W.Frag) : R2 := fun x y H Q => ∃ d, DatV K H x d ∧ DatV K H y d ∧ SeqAt.shaped d = true ∧ Q (.bl true) H
def rNeD (K : PySem.W.Frag) : R2 := fun x y H Q => ∃ d, DatV K H x d ∧ DatV K H y d ∧ SeqAt.shaped d = true ∧ Q (.bl false) H
section
variable {X : Cx}
theorem op_neD (hu : X.A.units + 64 < cLine) : OpR X (compareOp .NotEq) (rNeD X.K) := by
  intro pins s σ H x y v u Q I rx ry h
  obtain ⟨d, h1, h2, h3, q⟩ := h
  obtain ⟨as, a1⟩ := h1.reads I rx
  obtain ⟨bs, b1⟩ := h2.reads I ry
  refine ne_dataH a1 b1 h3 h3 hu ?_
  rw [eqv_refl d (SeqAt.canLay_of_shaped h3)]
  exact ⟨.bl false, H, I, rfl, q⟩
end
theorem hu64 {k : Nat} {A : Around} (r : Room k A) : A.units + 64 < cLine := r.units
theorem datVs_ints {K : PySem.W.Frag} {H : Hp} : ∀ ns : List Int, DatVs K H (ns.map V.int) (ns.map PyData.int)
  | [] => .nil
  | _ :: r => .cons (.int _) (datVs_ints r)
def okT (l : List Nat) : Prop := ∀ c ∈ l, c < 1114112
theorem strOk_tx {l : List Nat} (h : okT l) : PyData.strOk (tx l) = true := by
  unfold PyData.strOk
  simp only [tx, Array.all_eq_true, decide_eq_true_eq]
  intro i hi
  exact h _ (by simp)
structure Step (H : Hp) (F : List Addr) (H' : Hp) (F' : List Addr) : Prop where
  off : ∀ b o, b ∉ F → H b = some o → H' b = some o
  own : ∀ b ∈ F', b ∈ F ∨ H b = none
  tup : ∀ b xs, H b = some (.tup xs) → H' b = some (.tup xs)
theorem Step.refl (H : Hp) (F : List Addr) : Step H F H F := ⟨fun _ _ _ e => e, fun _ h => .inl h, fun _ _ e => e⟩
theorem Step.same {H H' : Hp} {F : List Addr} (s : Same H H') : Step H F H' F := ⟨fun b o _ e => s b o e, fun _ h => .inl h, fun b xs e => s _ _ e⟩
theorem Step.trans {H H1 H2 : Hp} {F F1 F2 : List Addr} (a : Step H F H1 F1) (b : Step H1 F1 H2 F2) : Step H F H2 F2 := by
  refine ⟨fun c o hc e => b.off c o (fun h1 => ?_) (a.off c o hc e), fun c hc => ?_, fun c xs e => b.tup c xs (a.tup c xs e)⟩
  · rcases a.own c h1 with z | z
    · exact hc z
    · rw [e] at z
      cases z
  · rcases b.own c hc with h1 | h1
    · exact a.own c h1
    · by_cases hF : c ∈ F
      · exact .inl hF
      · refine .inr ?_
        cases q : H c with
        | none => rfl
        | some o =>
          rw [a.off c o hF q] at h1
          cases h1
theorem Step.apart {H H' : Hp} {F F' : List Addr} (a : Step H F H' F') {b : Addr} {o : HO} (hb : b ∉ F) (e : H b = some o) : b ∉ F' := fun h => by
  rcases a.own b h with z | z
  · exact hb z
  · rw [e] at z
    cases z
end L2
set_option Elab.async false
set_option linter.all false
set_option maxRecDepth 100000
namespace L2
open PySem
abbrev Nm := List Nat
def abc : List Nat := [97, 98, 99, 100, 101, 102, 103, 104, 105, 106, 107, 108, 109, 110, 111, 112, 113, 114, 115, 116, 117, 118, 119, 120, 121, 122]
theorem mem_abc {c : Nat} : c ∈ abc ↔ 97 ≤ c ∧ c ≤ 122 := by
  unfold abc
  simp only [List.mem_cons, List.not_mem_nil, or_false]
  omega
def goodC (l : Nm) : Bool := decide (1 ≤ l.length ∧ l.length ≤ 12) && l.all fun c => decide (c ∈ abc)
inductive Rf where
  | noName | noNumber | noThing | noKey | noTie | twice | stillTied | full
  deriving DecidableEq
def Rf.ix : Rf → Nat
  | .noName => 0 | .noNumber => 1 | .noThing => 2 | .noKey => 3 | .noTie => 4 | .twice => 5 | .stillTied => 6 | .full => 7
structure Tie where
  start : Nm
  name : Nm
  stop : Nm
  weight : Int
  deriving DecidableEq
structure WA where
  things : List (Nm × List (Nm × Int))
  ties : List (Int × Tie)
  next : Int
def WA.names (A : WA) : List Nm := A.things.map (·.1)
def WA.addThing (A : WA) (l : Nm) : Except Rf WA :=
  if goodC l = false then .error .noName else if l ∈ A.names then .error .twice else if 100 ≤ A.things.length then .error .full else .ok { A with things := A.things ++ [(l, [])] }
def WA.at_ (A : WA) (f : Tie → Nm) (l : Nm) : List Int := (A.ties.filter fun x => decide (f x.2 = l)).map (·.1)
def WA.dropThing (A : WA) (l : Nm) : Except Rf WA :=
  if l ∉ A.names then .error .noThing else if A.at_ Tie.start l ≠ [] ∨ A.at_ Tie.stop l ≠ [] then .error .stillTied else .ok { A with things := A.things.filter fun x => decide (x.1 ≠ l) }
structure WS where
  dx : Addr
  dv : Addr
  dt : Addr
  vals : List (Nm × Addr × List (Nm × Int))
  ties : List (Int × Addr × Tie)
  next : Int
def WS.abs (W : WS) : WA := ⟨W.vals.map fun x => (x.1, x.2.2), W.ties.map fun x => (x.1, x.2.2), W.next⟩
def WS.own (W : WS) (p : Addr) : List Addr := p :: W.dv :: W.dt :: W.vals.map (·.2.1)
def kvVals (vals : List (Nm × Addr × List (Nm × Int))) : List (Key × V) := vals.map fun x => (.inr (tx x.1), .ref x.2.1)
def kvTies (ties : List (Int × Addr × Tie)) : List (Key × V) := ties.map fun x => (.inl x.1, .ref x.2.1)
def kvNums (m : List (Nm × Int)) : List (Key × V) := m.map fun y => (.inr (tx y.1), .int y.2)
def tieV (t : Tie) : List V := [.str (tx t.start), .str (tx t.name), .str (tx t.stop), .int t.weight]
structure WebAt (C : Addr) (H : Hp) (p : Addr) (W : WS) : Prop where
  obj : H p = some (.ins C W.dx [("kept_values", .ref W.dv), ("kept_ties", .ref W.dt), ("coming_number", .int W.next)])
  val : H W.dv = some (.dK (kvVals W.vals))
  tie : H W.dt = some (.dK (kvTies W.ties))
  each : ∀ x ∈ W.vals, H x.2.1 = some (.dK (kvNums x.2.2))
  tups : ∀ x ∈ W.ties, H x.2.1 = some (.tup (tieV x.2.2))
  nd : (W.dv :: W.dt :: W.vals.map (·.2.1)).Nodup
  names : (W.vals.map (·.1)).Nodup
  nums : (W.ties.map (·.1)).Nodup
  few : W.vals.length ≤ 100
  fewT : W.ties.length ≤ 400
theorem find_none {α β : Type} [DecidableEq β] {f : α → β} {b : β} {l : List α} : l.find? (fun x => decide (f x = b)) = none ↔ b ∉ l.map f := by
  rw [List.find?_eq_none]
  constructor
  · intro h m
    obtain ⟨x, hx, e⟩ := List.mem_map.mp m
    exact h x hx (decide_eq_true e)
  · intro h x hx e
    exact h (List.mem_map.mpr ⟨x, hx, of_decide_eq_true e⟩)
theorem find_some {α β : Type} [DecidableEq β] {f : α → β} {b : β} {l : List α} (h : b ∈ l.map f) : ∃ x, l.find? (fun x => decide (f x = b)) = some x ∧ x ∈ l ∧ f x = b := by
  cases q : l.find? (fun x => decide (f x = b)) with
  | none => exact absurd h (find_none.mp q)
  | some x => exact ⟨x, rfl, List.mem_of_find?_eq_some q, by have z := List.find?_some q; simpa using z⟩
theorem dropK_vals (l : Nm) (vals : List (Nm × Addr × List (Nm × Int))) : dropK (kvVals vals) (.inr (tx l)) = kvVals (vals.filter fun x => decide (x.1 ≠ l)) := by
  unfold dropK kvVals
  rw [List.filter_map]
  congr 1
  apply List.filter_congr
  intro x _
  simp only [Function.comp]
  rw [decide_eq_decide]
  exact not_congr ⟨fun z => tx_inj.mp (Sum.inr.inj z), fun z => by rw [z]⟩
theorem dropK_ties (n : Int) (ties : List (Int × Addr × Tie)) : dropK (kvTies ties) (.inl n) = kvTies (ties.filter fun x => decide (x.1 ≠ n)) := by
  unfold dropK kvTies
  rw [List.filter_map]
  congr 1
  apply List.filter_congr
  intro x _
  simp only [Function.comp]
  rw [decide_eq_decide]
  exact not_congr ⟨fun z => Sum.inl.inj z, fun z => by rw [z]⟩
theorem WebAt.dvdt {C : Addr} {H : Hp} {p : Addr} {W : WS} (w : WebAt C H p W) : W.dv ≠ W.dt := fun z => by
  have := (List.nodup_cons.mp w.nd).1
  exact this (by rw [z]; exact List.mem_cons_self)
theorem WebAt.pdv {C : Addr} {H : Hp} {p : Addr} {W : WS} (w : WebAt C H p W) : W.dv ≠ p := ne_of w.val w.obj (by intro z; cases z)
theorem WebAt.pdt {C : Addr} {H : Hp} {p : Addr} {W : WS} (w : WebAt C H p W) : W.dt ≠ p := ne_of w.tie w.obj (by intro z; cases z)
theorem WebAt.dvx {C : Addr} {H : Hp} {p : Addr} {W : WS} (w : WebAt C H p W) {x : Nm × Addr × List (Nm × Int)} (h : x ∈ W.vals) : x.2.1 ≠ W.dv := fun z => by
  have := (List.nodup_cons.mp w.nd).1
  exact this (List.mem_cons_of_mem _ (by rw [← z]; exact List.mem_map.mpr ⟨x, h, rfl⟩))
theorem WebAt.dtx {C : Addr} {H : Hp} {p : Addr} {W : WS} (w : WebAt C H p W) {x : Nm × Addr × List (Nm × Int)} (h : x ∈ W.vals) : x.2.1 ≠ W.dt := fun z => by
  have := (List.nodup_cons.mp (List.nodup_cons.mp w.nd).2).1
  exact this (by rw [← z]; exact List.mem_map.mpr ⟨x, h, rfl⟩)
theorem WebAt.keep {C : Addr} {H H' : Hp} {p : Addr} {W : WS} (w : WebAt C H p W) (h : ∀ b o, b ∈ W.own p → H b = some o → H' b = some o) (ht : ∀ b xs, H b = some (.tup xs) → H' b = some (.tup xs)) : WebAt C H' p W := by
  refine ⟨h _ _ (by simp [WS.own]) w.obj, h _ _ (by simp [WS.own]) w.val, h _ _ (by simp [WS.own]) w.tie, fun x hx => h _ _ ?_ (w.each x hx), fun x hx => ht _ _ (w.tups x hx), w.nd, w.names, w.nums, w.few, w.fewT⟩
  simp only [WS.own, List.mem_cons, List.mem_map]
  exact .inr (.inr (.inr ⟨x, hx, rfl⟩))
theorem WebAt.same {C : Addr} {H H' : Hp} {p : Addr} {W : WS} (w : WebAt C H p W) (s : Same H H') : WebAt C H' p W := w.keep (fun b o _ e => s b o e) fun b xs e => s b _ e
theorem WebAt.own_some {C : Addr} {H : Hp} {p : Addr} {W : WS} (w : WebAt C H p W) {b : Addr} (h : b ∈ W.own p) : ∃ o, H b = some o ∧ ∀ xs, o ≠ .tup xs := by
  simp only [WS.own, List.mem_cons, List.mem_map] at h
  rcases h with rfl | rfl | rfl | ⟨x, hx, rfl⟩
  · exact ⟨_, w.obj, fun _ z => nomatch z⟩
  · exact ⟨_, w.val, fun _ z => nomatch z⟩
  · exact ⟨_, w.tie, fun _ z => nomatch z⟩
  · exact ⟨_, w.each x hx, fun _ z => nomatch z⟩
theorem WebAt.step {C : Addr} {H H' : Hp} {p : Addr} {W : WS} {F F' : List Addr} (w : WebAt C H p W) (s : Step H F H' F') (d : ∀ b ∈ W.own p, b ∉ F) : WebAt C H' p W ∧ ∀ b ∈ W.own p, b ∉ F' :=
  ⟨w.keep (fun b o hb e => s.off b o (d b hb) e) s.tup, fun b hb => let ⟨_, e, _⟩ := w.own_some hb; s.apart (d b hb) e⟩
theorem WebAt.dropped {C : Addr} {H : Hp} {p : Addr} {W : WS} {l : Nm} (w : WebAt C H p W) :
    WebAt C (upd H W.dv (.dK (dropK (kvVals W.vals) (.inr (tx l))))) p { W with vals := W.vals.filter fun x => decide (x.1 ≠ l) } ∧
    Step H (W.own p) (upd H W.dv (.dK (dropK (kvVals W.vals) (.inr (tx l))))) (WS.own { W with vals := W.vals.filter fun x => decide (x.1 ≠ l) } p) := by
  rw [dropK_vals]
  have oth : ∀ b o, b ≠ W.dv → H b = some o → upd H W.dv (.dK (kvVals (W.vals.filter fun x => decide (x.1 ≠ l)))) b = some o := fun b o hb e => by
    rw [upd_ne hb]
    exact e
  have sub : ∀ x ∈ W.vals.filter (fun x => decide (x.1 ≠ l)), x ∈ W.vals := fun x hx => (List.mem_filter.mp hx).1
  refine ⟨⟨oth _ _ w.pdv.symm w.obj, upd_same, oth _ _ w.dvdt.symm w.tie, fun x hx => oth _ _ (w.dvx (sub x hx)) (w.each x (sub x hx)), fun x hx => oth _ _ (ne_of (w.tups x hx) w.val (by intro z; cases z)) (w.tups x hx), ?_, ?_, w.nums, Nat.le_trans (List.length_filter_le _ _) w.few, w.fewT⟩,
    ⟨fun b o hb e => oth b o (fun z => hb (by simp [WS.own, z])) e, fun b hb => .inl ?_, fun b xs e => oth b _ (ne_of e w.val (by intro z; cases z)) e⟩⟩
  · exact List.Sublist.nodup (List.Sublist.cons_cons _ (List.Sublist.cons_cons _ (List.Sublist.map _ List.filter_sublist))) w.nd
  · exact List.Sublist.nodup (List.Sublist.map _ List.filter_sublist) w.names
  · simp only [WS.own, List.mem_cons, List.mem_map] at hb ⊢
    rcases hb with h | h | h | ⟨x, hx, h⟩
    · exact .inl h
    · exact .inr (.inl h)
    · exact .inr (.inr (.inl h))
    · exact .inr (.inr (.inr ⟨x, sub x hx, h⟩))
end L2
set_option Elab.async false
set_option linter.all false
set_option maxRecDepth 100000
namespace L2
open PySem PySem.Spec PyProof.Rows
section
variable {X : Cx} {a b e o i : Expr} {ta tb td ty : TE} {pos : Pos} {f : Str} {r : R2}
theorem pe_ixA (hr : IxR X r) (ha : PE X a ta) (hb : PE X b tb) (hs : PlainIx b := by exact fun _ _ => rfl) : PE X (.Subscript a b pos) (tOp r ta tb) := pe_ix hr ha hb hs
theorem pe_dgetA (hu : X.A.units + 1 < cLine) (ho : PE X o td) (hi : PE X i ty) (hs : NoSl i := by exact fun _ _ => rfl) : PE X (.Subscript o i pos) (tDGet td ty) := pe_dget hu ho hi hs
end
end L2
namespace L2
open PySem PySem.Spec PyProof.Rows
section
variable {X : Cx} {e : Expr} {ta : TE} {pos : Pos} {f : Str}
theorem ix_listK (K : PySem.W.Frag) (h : X.K = K := by rfl) : IxR X (rIxL K) := h ▸ ix_list
theorem ix_tupK (K : PySem.W.Frag) (h : X.K = K := by rfl) : IxR X (rIxT K) := h ▸ ix_tup
end
end L2
namespace L2
open PySem PySem.Spec PyProof.Rows
def tieP (ties : List (Int × Addr × Tie)) (f : Tie → Nm) (l : Nm) : Key → Bool
  | .inl n => ((ties.find? fun x => decide (x.1 = n)).map fun x => decide (f x.2.2 = l)).getD false
  | .inr _ => false
end L2
set_option Elab.async false
set_option linter.all false
set_option maxRecDepth 100000
namespace L2
open PySem
def letC (n : Int) : Nat := 97 + (n % 26).toNat
theorem let_at (n : Int) : abc[(n % 26).toNat]? = some (letC n) := by
  unfold letC
  have h1 : (n % 26).toNat < 26 := by omega
  generalize (n % 26).toNat = k at h1
  have all : ∀ k < 26, abc[k]? = some (97 + k) := by decide
  exact all k h1
def sizeC (w : Int) : Int := 2 + w / 52 % 11
def atC (w : Int) : Int := w / 572 % (sizeC w - 1)
def nameC (n w : Int) : Nm :=
  if w % 2 = 0 then letC (n / 12 + w / 52) :: List.replicate (n % 12).toNat (letC (w / 2))
  else List.replicate (atC w).toNat (letC (w / 2)) ++ [letC n] ++ [letC (n / 26)] ++ List.replicate (sizeC w - 2 - atC w).toNat (letC (w / 2))
def Rf.word : Rf → Nm
  | .noName => [78, 111, 78, 97, 109, 101]
  | .noNumber => [78, 111, 78, 117, 109, 98, 101, 114]
  | .noThing => [78, 111, 84, 104, 105, 110, 103]
  | .noKey => [78, 111, 75, 101, 121]
  | .noTie => [78, 111, 84, 105, 101]
  | .twice => [84, 119, 105, 99, 101]
  | .stillTied => [83, 116, 105, 108, 108, 84, 105, 101, 100]
  | .full => [70, 117, 108, 108]
def doneC : Nm := [100, 111, 110, 101]
structure Mine (H0 H : Hp) (F : List Addr) : Prop where
  same : Same H0 H
  new : ∀ b ∈ F, H0 b = none
theorem Mine.step {H0 H H' : Hp} {F F1 F2 : List Addr} (m : Mine H0 H F) (s : Step H F1 H' F2) (h : ∀ b ∈ F1, b ∈ F) : Mine H0 H' (F2 ++ F) := by
  have back : ∀ b, H b = none → H0 b = none := fun b z => by
    cases q : H0 b with
    | none => rfl
    | some o =>
      rw [m.same b o q] at z
      cases z
  refine ⟨fun b o e => s.off b o (fun z => ?_) (m.same b o e), fun b hb => ?_⟩
  · have := m.new b (h b z)
    rw [e] at this
    cases this
  · rcases List.mem_append.mp hb with z | z
    · rcases s.own b z with y | y
      · exact m.new b (h b y)
      · exact back b y
    · exact m.new b z
theorem Mine.mono {H0 H : Hp} {F F' : List Addr} (m : Mine H0 H F) (h : ∀ b ∈ F', b ∈ F) : Mine H0 H F' := ⟨m.same, fun b hb => m.new b (h b hb)⟩
theorem Mine.more {H0 H H' : Hp} {F : List Addr} (m : Mine H0 H F) (s : Same H H') : Mine H0 H' F := ⟨m.same.trans s, m.new⟩
theorem Mine.upd {H0 H : Hp} {F : List Addr} {b : Addr} {o : HO} (m : Mine H0 H F) (h : b ∈ F) : Mine H0 (upd H b o) F := ⟨fun c u e => by
  rw [upd_ne (fun z => by rw [z, m.new b h] at e; cases e)]
  exact m.same c u e, m.new⟩
theorem Mine.fresh {H0 H : Hp} {F : List Addr} {b : Addr} (m : Mine H0 H F) (h : H b = none) : H0 b = none := m.same.free h
end L2
set_option Elab.async false
set_option linter.all false
set_option maxRecDepth 100000
namespace L2
open PySem PySem.Spec PyProof.Rows
def strConsts : List Expr → Option (List Str)
  | [] => some []
  | .Constant (.str x) _ _ :: r => (strConsts r).map (x :: ·)
  | _ => none
def tLstC (vs : List V) : TE := fun _ H Q => vs.length ≤ sizeLine ∧ ∀ p, H p = none → Q (.ref p) (upd H p (.lst vs))
theorem pa_strs {X : Cx} : ∀ {es : List Expr} {xs : List Str}, strConsts es = some xs → PA X es (fun _ H Q => Q (xs.map V.str) H)
  | [], xs, h => by
    cases h
    exact pa_nil
  | e :: r, xs, h => by
    cases e with
    | Constant c j pos =>
      cases c with
      | str x =>
        unfold strConsts at h
        cases q : strConsts r with
        | none => rw [q] at h; cases h
        | some ys =>
          rw [q] at h
          cases h
          exact pa_cons (X := X) pe_str (pa_strs q) rfl
      | _ => cases h
    | _ => cases h
theorem pe_lstS {X : Cx} {es : List Expr} {xs : List Str} {pos : Pos} (h : strConsts es = some xs := by rfl) : PE X (.List es pos) (tLstC (xs.map V.str)) := fun pins s σ H Q I hq => pe_lst (pa_strs h) pins s σ H Q I hq
theorem seq_rule {t u : TS} {D : Ends} {σ : St} {H : Hp} (h : ∀ N : St → Hp → Prop, (∀ σ' H', u D σ' H' → N σ' H') → t { D with nx := N } σ H) : tSeq t u D σ H := h _ fun _ _ z => z
theorem rd_inS {K : PySem.W.Frag} {H : Hp} {a : Addr} {ns : List Nm} {l : Nm} {neg : Bool} {Q : VK} (ha : SqL K H a (ns.map fun z => V.str (tx z))) (q : Q (.bl (if neg then !decide (l ∈ ns) else decide (l ∈ ns))) H) : rIn K neg (.str (tx l)) (.ref a) H Q := by
  refine ⟨a, _, rfl, .inl ha, rfl, ?_, ?_⟩
  · rw [List.all_eq_true]
    intro v hv
    obtain ⟨b, _, rfl⟩ := List.mem_map.mp hv
    rfl
  · have e : inV (.str (tx l)) (ns.map fun z => V.str (tx z)) = decide (l ∈ ns) := by
      unfold inV
      rw [Bool.eq_iff_iff, List.any_eq_true, decide_eq_true_eq]
      constructor
      · rintro ⟨v, hv, e⟩
        obtain ⟨b, hb, rfl⟩ := List.mem_map.mp hv
        have : tx b = tx l := by simpa [eqV] using e
        rw [← tx_inj.mp this]
        exact hb
      · intro h
        exact ⟨_, List.mem_map.mpr ⟨l, h, rfl⟩, by simp [eqV]⟩
    rw [e]
    exact q
end L2
set_option Elab.async false
set_option linter.all false
set_option maxRecDepth 100000
namespace L2
open PySem PySem.Spec PyProof.Rows
structure Bx (p : Prop) : Prop where
  un : p
theorem bpss_nil {X : Cx} : Bx (PSs X [] tNext) := ⟨pss_nil ⟩
theorem bpss_one {X : Cx} {st : Stmt} {t : TS} (h1 : Bx (PS X st t)) : Bx (PSs X [st] t) := ⟨pss_one h1.un⟩
theorem bpss_cons {X : Cx} {st : Stmt} {rest : List Stmt} {t u : TS} (h1 : Bx (PS X st t)) (h2 : Bx (PSs X rest u)) : Bx (PSs X (st :: rest) (tSeq t u)) := ⟨pss_cons h1.un h2.un⟩
theorem bps_set {X : Cx} {pos : Pos} {i : Nat} {x : Str} {e : Expr} {te : TE} {pos' : Pos} (hN : List.Nodup (Cx.N X)) (hi : (Cx.N X)[i]? = some x) (hx : L2.Loc (Env.scope (Cx.env X)) x) (he : Bx (PE X e te)) (hs : swapsWith e (some (Expr.Name x pos')) (Pos.line pos) (Cx.env X) = pure false := by rfl) (hf : Cx.fn X x = true ∨ List.lookup x (Scope.names (Env.scope (Cx.env X))) = some NameKind.local := by first | exact .inl rfl | exact .inr rfl | assumption) : Bx (PS X (Stmt.Assign [Expr.Name x pos'] e pos) (tAsg te (gName i))) := ⟨ps_set hN hi hx he.un hs hf⟩
theorem bps_setC {X : Cx} {x : Str} {px : Pos} {elt iter : Expr} {ifs : List Expr} {scope : Scope} {pos : Pos} {N : List Str} {fr : List Nat} {tt : TT} {te : TE} {wi : TI} {i : Nat} {y : Str} {py spos : Pos} (hN : List.Nodup (Cx.N X)) (hi' : (Cx.N X)[i]? = some y) (hy : L2.Loc (Env.scope (Cx.env X)) y) (hc : Cx.calm X = true) (S : CSc scope (Env.scope (Cx.env X)) x N (Cx.N X) fr) (hi : Bx (PI X (Expr.Name x px) iter wi)) (ht : ∀ (cl : List (Str × Addr)) (C : Addr) (s₀ : Shared) (H₀ : Hp) (ex : List Addr), Bx (PTs (Cx.blk X scope cl C N s₀ H₀ ex) ifs tt)) (he : ∀ (cl : List (Str × Addr)) (C : Addr) (s₀ : Shared) (H₀ : Hp) (ex : List Addr), Bx (PE (Cx.blk X scope cl C N s₀ H₀ ex) elt te)) (hsw : swapsWith (Expr.ListComp elt [{ target := Expr.Name x px, iter := iter, ifs := ifs, is_async := (0 : Int) }] scope pos) (some (Expr.Name y py)) (Pos.line spos) (Cx.env X) = pure true := by rfl) (hs : ∀ (v : Value), foldedSetIterable iter (Cx.env X) v = pure v := by intro _; rfl) (hf : Cx.fn X y = true ∨ List.lookup y (Scope.names (Env.scope (Cx.env X))) = some NameKind.local := by first | exact .inl rfl | exact .inr rfl | assumption) : Bx (PS X (Stmt.Assign [Expr.Name y py] (Expr.ListComp elt [{ target := Expr.Name x px, iter := iter, ifs := ifs, is_async := (0 : Int) }] scope pos) spos) (tAsg (tComp wi fr tt te) (gName i))) := ⟨ps_setC hN hi' hy hc S hi.un (fun y0 y1 y2 y3 y4 => (ht y0 y1 y2 y3 y4).un) (fun y0 y1 y2 y3 y4 => (he y0 y1 y2 y3 y4).un) hsw hs hf⟩
theorem bps_dput {X : Cx} {o i value : Expr} {pos pos' : Pos} {td ty tv : TE} (hu : Around.units (Cx.A X) + (1 : Nat) < cLine) (ho : Bx (PE X o td)) (hi : Bx (PE X i ty)) (hv : Bx (PE X value tv)) (hs : swapsWith value (some (Expr.Subscript o i pos')) (Pos.line pos) (Cx.env X) = pure false := by rfl) : Bx (PS X (Stmt.Assign [Expr.Subscript o i pos'] value pos) (sDPut td ty tv)) := ⟨ps_dput hu ho.un hi.un hv.un hs⟩
theorem bps_asg {X : Cx} {pos : Pos} {tg e : Expr} {te : TE} {g : TG} (he : Bx (PE X e te)) (hg : Bx (PG X tg g)) (hs : swapsWithSole [tg] e (Pos.line pos) (Cx.env X) = pure false := by rfl) (hw : swappedStores [tg] e (Cx.env X) = pure none := by rfl) (h1 : List.map (fun (x : Bool × (Value → Sem Unit)) => Prod.snd x) (assignEach [tg] (Cx.env X)) = [assign tg (Cx.env X)] := by rfl) : Bx (PS X (Stmt.Assign [tg] e pos) (tAsg te g)) := ⟨ps_asg he.un hg.un hs hw h1⟩
theorem bps_if {X : Cx} {t u : TS} {pos : Pos} {c : Expr} {a b : List Stmt} {tc : TT} (hc : Bx (PT X c tc)) (ha : Bx (PSs X a t)) (hb : Bx (PSs X b u)) : Bx (PS X (Stmt.If c a b pos) (tIfS tc t u)) := ⟨ps_if hc.un ha.un hb.un⟩
theorem bps_ret {X : Cx} {e : Expr} {te : TE} {pos : Pos} (he : Bx (PE X e te)) : Bx (PS X (Stmt.Return (some e) pos) (tRet te)) := ⟨ps_ret he.un⟩
theorem bps_for {X : Cx} {tg iter : Expr} {body : List Stmt} {wi : TI} {g : TG} {tb : TS} {pos : Pos} (hp : PassesOwn (model (Cx.prog X) (Cx.w X)) (Cx.A X) (Cx.env X) (Cx.xe X)) (hc : Cx.calm X = true) (hi : Bx (PI X tg iter wi)) (hg : Bx (PG X tg g)) (hb : Bx (PSs X body tb)) (hs : ∀ (x : Value), foldedSetIterable iter (Cx.env X) x = pure x := by intro _; rfl) : Bx (PS X (Stmt.For tg iter body [] pos) (tFor wi g tb)) := ⟨ps_for hp hc hi.un hg.un hb.un hs⟩
theorem bps_forD {X : Cx} {y : Str} {py : Pos} {iter : Expr} {body : List Stmt} {te : TE} {g : TG} {tb : TS} {pos : Pos} (hp : PassesOwn (model (Cx.prog X) (Cx.w X)) (Cx.A X) (Cx.env X) (Cx.xe X)) (hc : Cx.calm X = true) (hi : Bx (PE X iter te)) (hg : Bx (PG X (Expr.Name y py) g)) (hb : Bx (PSs X body tb)) (hs : ∀ (x : Value), foldedSetIterable iter (Cx.env X) x = pure x := by intro _; rfl) : Bx (PS X (Stmt.For (Expr.Name y py) iter body [] pos) (tForD X te g tb)) := ⟨ps_forD hp hc hi.un hg.un hb.un hs⟩
theorem bps_expr {X : Cx} {e : Expr} {te : TE} {pos : Pos} (he : Bx (PE X e te)) (hs : swapsWith e none (Pos.line pos) (Cx.env X) = pure false := by rfl) : Bx (PS X (Stmt.Expr e pos) (tDrop te)) := ⟨ps_expr he.un hs⟩
theorem bpi_range1 {X : Cx} {tg a : Expr} {ta : TA} {p pos : Pos} (hg : Gl X (Str.ofString "range")) (hm : Cx.mg X (Str.ofString "range") = none) (ha : Bx (PA X [a] ta)) (hs : starEach [a] (Cx.env X) = [(false, eval a (Cx.env X))] := by rfl) : Bx (PI X tg (Expr.Call (Expr.Name (Str.ofString "range") p) [a] [] pos) (iRng1 ta)) := ⟨pi_range1 hg hm ha.un hs⟩
theorem bpi_range2 {X : Cx} {tg a b : Expr} {ta : TA} {p pos : Pos} (hg : Gl X (Str.ofString "range")) (hm : Cx.mg X (Str.ofString "range") = none) (ha : Bx (PA X [a, b] ta)) (hs : starEach [a, b] (Cx.env X) = [(false, eval a (Cx.env X)), (false, eval b (Cx.env X))] := by rfl) (hs2 : starEach [b] (Cx.env X) = [(false, eval b (Cx.env X))] := by rfl) : Bx (PI X tg (Expr.Call (Expr.Name (Str.ofString "range") p) [a, b] [] pos) (iRng2 ta)) := ⟨pi_range2 hg hm ha.un hs hs2⟩
theorem bpi_list {X : Cx} {tg l : Expr} {tl : TE} (hl : Bx (PE X l tl)) : Bx (PI X tg l (iList (Cx.K X) tl)) := ⟨pi_list hl.un⟩
theorem bpg_name {X : Cx} {pos : Pos} {i : Nat} {x : Str} (hN : List.Nodup (Cx.N X)) (hi : (Cx.N X)[i]? = some x) (hx : L2.Loc (Env.scope (Cx.env X)) x) (hf : Cx.fn X x = true ∨ List.lookup x (Scope.names (Env.scope (Cx.env X))) = some NameKind.local := by first | exact .inl rfl | exact .inr rfl | assumption) : Bx (PG X (Expr.Name x pos) (gName i)) := ⟨pg_name hN hi hx hf⟩
theorem bpg_sub {X : Cx} {pos : Pos} {o i : Expr} {to ti : TE} {t : TSet} (ho : Bx (PE X o to)) (hi : Bx (PE X i ti)) (hs : PSet X t)
    (ha : ∀ v, assign (.Subscript o i pos) X.env v = (do
      let ov ← holding [v] (eval o X.env)
      let iv ← holding [v, ov] (eval i X.env)
      standAt pos
      holding [v, ov, iv] (setItem ov iv v)
      release [v, ov, iv] []) := by intro _; rfl) : Bx (PG X (.Subscript o i pos) (gSub to ti t)) := ⟨pg_sub ho.un hi.un hs ha⟩
theorem bpe_comp {X : Cx} {x : Str} {px : Pos} {elt iter : Expr} {ifs : List Expr} {scope : Scope} {pos : Pos} {N : List Str} {fr : List Nat} {tt : TT} {te : TE} {wi : TI} (hc : Cx.calm X = true) (S : CSc scope (Env.scope (Cx.env X)) x N (Cx.N X) fr) (hi : Bx (PI X (Expr.Name x px) iter wi)) (ht : ∀ (cl : List (Str × Addr)) (C : Addr) (s₀ : Shared) (H₀ : Hp) (ex : List Addr), Bx (PTs (Cx.blk X scope cl C N s₀ H₀ ex) ifs tt)) (he : ∀ (cl : List (Str × Addr)) (C : Addr) (s₀ : Shared) (H₀ : Hp) (ex : List Addr), Bx (PE (Cx.blk X scope cl C N s₀ H₀ ex) elt te)) (hs : ∀ (v : Value), foldedSetIterable iter (Cx.env X) v = pure v := by intro _; rfl) : Bx (PE X (Expr.ListComp elt [{ target := Expr.Name x px, iter := iter, ifs := ifs, is_async := (0 : Int) }] scope pos) (tComp wi fr tt te)) := ⟨pe_comp hc S hi.un (fun y0 y1 y2 y3 y4 => (ht y0 y1 y2 y3 y4).un) (fun y0 y1 y2 y3 y4 => (he y0 y1 y2 y3 y4).un) hs⟩
theorem bpts_nil {X : Cx} : Bx (PTs X [] tYes) := ⟨pts_nil ⟩
theorem bpts_one {X : Cx} {c : Expr} {t : TT} (h : Bx (PT X c t)) : Bx (PTs X [c] t) := ⟨pts_one h.un⟩
theorem bpa_nil {X : Cx} : Bx (PA X [] tNil) := ⟨pa_nil ⟩
theorem bpa_cons {X : Cx} {e : Expr} {es : List Expr} {te : TE} {t : TA} (ha : Bx (PE X e te)) (hr : Bx (PA X es t)) (hs : starEach (e :: es) (Cx.env X) = (false, eval e (Cx.env X)) :: starEach es (Cx.env X) := by rfl) : Bx (PA X (e :: es) (tCons te t)) := ⟨pa_cons ha.un hr.un hs⟩
theorem bpt_cmpR {X : Cx} {a b : Expr} {ta tb : TE} {pos : Pos} {op : CmpOp} {r : R2} (ho : OpR X (compareOp op) r) (ha : Bx (PE X a ta)) (hb : Bx (PE X b tb)) (hm : behindInMarks op b = false) : Bx (PT X (Expr.Compare a [op] [b] pos) (tTest (tOp r ta tb))) := ⟨pt_cmpR ho ha.un hb.un hm⟩
theorem bpw_and1 {X : Cx} {a : Expr} {pos : Pos} {tA : TT} (ha : Bx (PT X a tA)) : Bx (PW X (Expr.BoolOp BoolOp.And [a] pos) tA) := ⟨pw_and1 ha.un⟩
theorem bpw_and {X : Cx} {a b : Expr} {pos : Pos} {tA tB' : TT} {rest : List Expr} (ha : Bx (PT X a tA)) (hb : Bx (PW X (Expr.BoolOp BoolOp.And (b :: rest) pos) tB')) : Bx (PW X (Expr.BoolOp BoolOp.And (a :: b :: rest) pos) (tAnd tA tB')) := ⟨pw_and ha.un hb.un⟩
theorem bpw_or1 {X : Cx} {a : Expr} {pos : Pos} {tA : TT} (ha : Bx (PT X a tA)) : Bx (PW X (Expr.BoolOp BoolOp.Or [a] pos) tA) := ⟨pw_or1 ha.un⟩
theorem bpw_or {X : Cx} {a b : Expr} {pos : Pos} {tA tB' : TT} {rest : List Expr} (ha : Bx (PT X a tA)) (hb : Bx (PW X (Expr.BoolOp BoolOp.Or (b :: rest) pos) tB')) : Bx (PW X (Expr.BoolOp BoolOp.Or (a :: b :: rest) pos) (tOr tA tB')) := ⟨pw_or ha.un hb.un⟩
theorem bpt_not {X : Cx} {a : Expr} {pos : Pos} {tA : TT} (ha : Bx (PT X a tA)) : Bx (PT X (Expr.UnaryOp UnaryOp.Not a pos) (tNot tA)) := ⟨pt_not ha.un⟩
theorem bpt_val {X : Cx} {e : Expr} {t : TE} (h : Bx (PE X e t)) (he : ∀ whole, isTrue e X.env whole = (do let v ← whole; standAt e.pos; holding [v] (truthy v)) := by intro _; rfl) : Bx (PT X e (tB t)) := ⟨pt_val h.un he⟩
theorem bpt_truth {X : Cx} {a : Expr} {ta : TE} (ha : Bx (PE X a ta)) (he : ∀ whole, isTrue a X.env whole = (do let v ← whole; standAt a.pos; holding [v] (truthy v)) := by intro _; rfl) : Bx (PT X a (fun σ H Q => ta σ H fun x H' => ∃ k, TruV X.K x H' k ∧ Q k H')) := ⟨pt_truth ha.un he⟩
theorem bpe_cmpR {X : Cx} {a b : Expr} {ta tb : TE} {pos : Pos} {op : CmpOp} {r : R2} (ho : OpR X (compareOp op) r) (ha : Bx (PE X a ta)) (hb : Bx (PE X b tb)) (hm : behindInMarks op b = false) : Bx (PE X (Expr.Compare a [op] [b] pos) (tOp r ta tb)) := ⟨pe_cmpR ho ha.un hb.un hm⟩
theorem bpv {X : Cx} (i : Nat) {x : Str} {pos : Pos} (hN : (Cx.N X)[i]? = some x := by rfl) (hv : Vis (Env.scope (Cx.env X)) x := by first | exact Or.inl rfl | exact Or.inr (Or.inl rfl) | exact Or.inr (Or.inr rfl)) (hd : (x == Str.ofString "__debug__") = false := by decide) (hcd : (x == Str.ofString "__classdict__") = false := by decide) : Bx (PE X (Expr.Name x pos) (tVar i)) := ⟨pv i hN hv hd hcd⟩
theorem bpe_const {X : Cx} {x : Str} {v : V} {pos : Pos} (h : ∃ (u : Value), Cx.mg X x = some u ∧ L2.RelV v u) (hg : Gl X x := by rfl) (hd : (x == Str.ofString "__debug__") = false := by decide) : Bx (PE X (Expr.Name x pos) (tC v)) := ⟨pe_const h hg hd⟩
theorem bpe_ty {X : Cx} {x : Str} {T : String} {pos : Pos} (hm : Cx.mg X x = none) (hv : bootBuiltins x = some (Value.type T)) (hg : Gl X x := by rfl) (hn : x ≠ Str.ofString "__name__" := by decide) (hd : (x == Str.ofString "__debug__") = false := by decide) : Bx (PE X (Expr.Name x pos) (tC (V.ty T))) := ⟨pe_ty hm hv hg hn hd⟩
theorem bpe_non {X : Cx} {j : Nat} {pos : Pos} : Bx (PE X (Expr.Constant Const.none j pos) (tC V.non)) := ⟨pe_non ⟩
theorem bpe_bl {X : Cx} {b : Bool} {j : Nat} {pos : Pos} : Bx (PE X (Expr.Constant (Const.bool b) j pos) (tC (V.bl b))) := ⟨pe_bl ⟩
theorem bpe_int {X : Cx} {i : Int} {j : Nat} {pos : Pos} : Bx (PE X (Expr.Constant (Const.int i) j pos) (tC (V.int i))) := ⟨pe_int ⟩
theorem bpe_str {X : Cx} {x : Str} {j : Nat} {pos : Pos} : Bx (PE X (Expr.Constant (Const.str x) j pos) (tC (V.str x))) := ⟨pe_str ⟩
theorem bpe_op {X : Cx} {a b : Expr} {ta tb : TE} {pos : Pos} {op : Operator} {r : R2} (ho : OpR X (binaryOp op) r) (ha : Bx (PE X a ta)) (hb : Bx (PE X b tb)) : Bx (PE X (Expr.BinOp a op b pos) (tOp r ta tb)) := ⟨pe_op ho ha.un hb.un⟩
theorem bpe_un {X : Cx} {a : Expr} {ta : TE} {pos : Pos} {op : UnaryOp} {r : V → Hp → VK → Prop} (ho : UnR X (unaryOp op) r) (ha : Bx (PE X a ta)) : Bx (PE X (Expr.UnaryOp op a pos) (tUn r ta)) := ⟨pe_un ho ha.un⟩
theorem bpe_not {X : Cx} {a : Expr} {ta : TE} {pos : Pos} (ha : Bx (PE X a ta)) : Bx (PE X (Expr.UnaryOp UnaryOp.Not a pos) (tNotV ta)) := ⟨pe_not ha.un⟩
theorem bpe_one {X : Cx} {a : Expr} {pos : Pos} {op : BoolOp} {t : TE} (h : Bx (PE X a t)) : Bx (PE X (Expr.BoolOp op [a] pos) t) := ⟨pe_one h.un⟩
theorem bpe_and {X : Cx} {a b : Expr} {ta tb : TE} {pos : Pos} {rest : List Expr} (ha : Bx (PE X a ta)) (hb : Bx (PE X (Expr.BoolOp BoolOp.And (b :: rest) pos) tb)) : Bx (PE X (Expr.BoolOp BoolOp.And (a :: b :: rest) pos) (tAndV ta tb)) := ⟨pe_and ha.un hb.un⟩
theorem bpe_or {X : Cx} {a b : Expr} {ta tb : TE} {pos : Pos} {rest : List Expr} (ha : Bx (PE X a ta)) (hb : Bx (PE X (Expr.BoolOp BoolOp.Or (b :: rest) pos) tb)) : Bx (PE X (Expr.BoolOp BoolOp.Or (a :: b :: rest) pos) (tOrV ta tb)) := ⟨pe_or ha.un hb.un⟩
theorem bpe_slice {X : Cx} {e : Expr} {te : TE} {lo hi : Option Expr} {tl th : TO} {pos p2 : Pos} {r : V → Option Int → Option Int → Hp → VK → Prop} (hr : SlR X r) (he : Bx (PE X e te)) (hl : Bx (PO X lo tl)) (hu : Bx (PO X hi th)) : Bx (PE X (Expr.Subscript e (Expr.Slice lo hi none p2) pos) (tSl r te tl th)) := ⟨pe_slice hr he.un hl.un hu.un⟩
theorem bpo_none {X : Cx} : Bx (PO X none tNoPart) := ⟨po_none ⟩
theorem bpo_some {X : Cx} {e : Expr} {te : TE} (h : Bx (PE X e te)) : Bx (PO X (some e) (tPart te)) := ⟨po_some h.un⟩
theorem bpe_ixA {X : Cx} {a b : Expr} {ta tb : TE} {pos : Pos} {r : R2} (hr : IxR X r) (ha : Bx (PE X a ta)) (hb : Bx (PE X b tb)) (hs : PlainIx b := by exact fun _ _ => rfl) : Bx (PE X (Expr.Subscript a b pos) (tOp r ta tb)) := ⟨pe_ixA hr ha.un hb.un hs⟩
theorem bpe_dgetA {X : Cx} {o i : Expr} {td ty : TE} {pos : Pos} (hu : Around.units (Cx.A X) + (1 : Nat) < cLine) (ho : Bx (PE X o td)) (hi : Bx (PE X i ty)) (hs : NoSl i := by exact fun _ _ => rfl) : Bx (PE X (Expr.Subscript o i pos) (tDGet td ty)) := ⟨pe_dgetA hu ho.un hi.un hs⟩
theorem bpe_lst {X : Cx} {es : List Expr} {t : TA} {pos : Pos} (h : Bx (PA X es t)) : Bx (PE X (Expr.List es pos) (tLst t)) := ⟨pe_lst h.un⟩
theorem bpe_lstS {X : Cx} {es : List Expr} {xs : List Str} {pos : Pos} (h : strConsts es = some xs := by rfl) : Bx (PE X (Expr.List es pos) (tLstC (List.map V.str xs))) := ⟨pe_lstS h⟩
theorem bpe_tup {X : Cx} {es : List Expr} {t : TA} {pos : Pos} {x1 : Nat} (h : Bx (PA X es t)) : Bx (PE X (Expr.Tuple es x1 pos) (tTup t)) := ⟨pe_tup h.un⟩
theorem bpe_dnewK {X : Cx} {pos : Pos} : Bx (PE X (Expr.Dict [] [] pos) tDNewK) := ⟨pe_dnewK ⟩
theorem bpe_fnx {X : Cx} {P : Program} {w : World} {k : Nat} {f : Addr} {fd : FuncData} {ps : List Str} {sp : Sp} {E : XK} {x : Str} {st : Stmt} {p pos : Pos} {e : Expr} {es : List Expr} {t : TA} (D : DefOk (Cx.K X) (Cx.mg X) x st ps f fd) (F : FnOk (Cx.prog X) (Cx.w X) (Cx.K X) (Cx.mg X) (Cx.base X) (CX1 P w) k f fd ps sp) (hr : Room k (Cx.A X)) (hx : Passes (CX1 P w) X E) (ha : Bx (PA X (e :: es) t)) (hg : Gl X x := by rfl) (hdb : (x == Str.ofString "__debug__") = false := by decide) (he : starEach (e :: es) (Cx.env X) = (false, eval e (Cx.env X)) :: starEach es (Cx.env X) := by rfl) (hpl : (List.any (backTo pos (starEach es (Cx.env X))) fun (x : Bool × Sem Value) => Prod.fst x) = false := by rfl) : Bx (PE X (Expr.Call (Expr.Name x p) (e :: es) [] pos) (tCall sp [] E t)) := ⟨pe_fnx D F hr hx ha.un hg hdb he hpl⟩
theorem bpe_callB {X : Cx} {x : Str} {p pos : Pos} {e : Expr} {es : List Expr} {t : TA} {id : String} {r : List V → Hp → VK → Prop} (hc : CallR X (Value.builtin id) r) (hg : Gl X x) (hm : Cx.mg X x = none) (hv : bootBuiltins x = some (Value.builtin id)) (ha : Bx (PA X (e :: es) t)) (hn : x ≠ Str.ofString "__name__" := by decide) (hdb : (x == Str.ofString "__debug__") = false := by decide) (he : starEach (e :: es) (Cx.env X) = (false, eval e (Cx.env X)) :: starEach es (Cx.env X) := by rfl) (hpl : (List.any (backTo pos (starEach es (Cx.env X))) fun (x : Bool × Sem Value) => Prod.fst x) = false := by rfl) : Bx (PE X (Expr.Call (Expr.Name x p) (e :: es) [] pos) (tCB r t)) := ⟨pe_callB hc hg hm hv ha.un hn hdb he hpl⟩
theorem bpe_callTy {X : Cx} {x : Str} {p pos : Pos} {e : Expr} {es : List Expr} {t : TA} {T : String} {r : List V → Hp → VK → Prop} (hc : CallR X (Value.type T) r) (hg : Gl X x) (hm : Cx.mg X x = none) (hv : bootBuiltins x = some (Value.type T)) (ha : Bx (PA X (e :: es) t)) (hn : x ≠ Str.ofString "__name__" := by decide) (hdb : (x == Str.ofString "__debug__") = false := by decide) (he : starEach (e :: es) (Cx.env X) = (false, eval e (Cx.env X)) :: starEach es (Cx.env X) := by rfl) (hpl : (List.any (backTo pos (starEach es (Cx.env X))) fun (x : Bool × Sem Value) => Prod.fst x) = false := by rfl) : Bx (PE X (Expr.Call (Expr.Name x p) (e :: es) [] pos) (tCB r t)) := ⟨pe_callTy hc hg hm hv ha.un hn hdb he hpl⟩
theorem bpe_bm0 {X : Cx} {o : Expr} {to : TE} {name : Str} {apos cpos : Pos} {T id : String} {r : V → List V → Hp → VK → Prop} (pa : PlainAttrs T) (slot : Slot T name id) (hty : typeOf (Value.builtin id) = pure (Value.type "method_descriptor")) (hm : MtR X id r) (ho : Bx (PE X o to)) (hbase : attributeBase o name (Cx.env X) (eval o (Cx.env X)) = eval o (Cx.env X) := by rfl) (hline : (Pos.endLine apos == Pos.line cpos) = true := by rfl) : Bx (PE X (Expr.Call (Expr.Attribute o name apos) [] [] cpos) (tBM0 (Cx.K X) T r to)) := ⟨pe_bm0 pa slot hty hm ho.un hbase hline⟩
theorem bpe_bm {X : Cx} {o e : Expr} {es : List Expr} {to : TE} {t : TA} {name : Str} {apos cpos : Pos} {T id : String} {r : V → List V → Hp → VK → Prop} (pa : PlainAttrs T) (slot : Slot T name id) (hty : typeOf (.builtin id) = pure (.type "method_descriptor")) (hm : MtR X id r) (ho : Bx (PE X o to)) (ha : Bx (PA X (e :: es) t))
    (hbase : attributeBase o name X.env (eval o X.env) = eval o X.env := by rfl)
    (hfew : ((backTo cpos (starEach (e :: es) X.env)).all (fun x => !x.1) && (backToKw cpos (keywordEach [] X.env)).all (fun x => x.1.isSome) && decide ((e :: es).length + ([] : List Keyword).length + (if ([] : List Keyword).isEmpty then 0 else 1) < 30)) = true := by rfl)
    (hline : (apos.endLine == cpos.line) = true := by rfl) (hs : starEach (e :: es) X.env = (false, eval e X.env) :: starEach es X.env := by rfl) (hplain : (backTo cpos (starEach es X.env)).any (·.1) = false := by rfl) :
    Bx (PE X (.Call (.Attribute o name apos) (e :: es) [] cpos) (tBM X.K T r to t)) := ⟨pe_bm pa slot hty hm ho.un ha.un hbase hfew hline hs hplain⟩
theorem Bx.bpt {X : Cx} {e : Expr} {t : TT} (h : Bx (PW X e t)) : Bx (PT X e t) := ⟨PW.pt h.un⟩
end L2
set_option Elab.async false
set_option linter.all false
set_option maxRecDepth 100000
namespace L2
open PySem PySem.Spec PyProof.Rows
theorem cxH_K {P : Program} {w : World} {K : PySem.W.Frag} {mg : Str → Option Value} {base : Heap} {N : List Str} {qual : Str} {scope : Scope} {f : Addr} {cd : Value} {A : Around} {outer : List Env} {s : Shared} {H : Hp} :
    (cxH P w K mg base N qual scope f cd A outer s H).K = K := rfl
theorem tyV_str {K : PySem.W.Frag} {z : Str} {H : Hp} : tyV K "str" (.str z) H = True := eq_true rfl
theorem tyV_lst {K : PySem.W.Frag} {p : Addr} {H : Hp} {xs : List V} (h : SqL K H p xs) : tyV K "list" (.ref p) H := .inl ⟨rfl, xs, h⟩
theorem ite_T {A B : Prop} {c : Prop} [Decidable c] (hc : c) (h : A) : if c then A else B := by rw [if_pos hc]; exact h
theorem ite_F {A B : Prop} {c : Prop} [Decidable c] (hc : ¬ c) (h : B) : if c then A else B := by rw [if_neg hc]; exact h
end L2
namespace L2
open PySem PySem.Spec PyProof.Rows
end L2
set_option Elab.async false
set_option linter.all false
set_option maxRecDepth 100000
namespace L2
open PySem PySem.Spec PyProof.Rows
section
variable {prog : Program} {w : World} {A : Around} {E : Value → Shared → Prop} {s : Shared} {a₀ : Array Keyed} {κ : PyProof.Rows.KeyKind}
end
end L2
namespace L2
open PySem PySem.Spec PyProof.Rows
section
variable {prog : Program} {w : World} {A : Around} {E : Value → Shared → Prop} {s : Shared}
theorem sort_shell {a : Addr} {vs : List Value} {n : Nat} {R : Array Value → Prop} {P : PySem.Fin → Shared → Prop} (ho : s.heap.get? a = some (seqObj "list" vs.toArray n)) (hz : vs.length ≤ sizeLine) (hR : ∀ out, R out → out.size = vs.length)
    (short : vs.length < 2 → R vs.toArray)
    (long : 2 ≤ vs.length → ∀ z : Shared, (∀ b o, b ≠ a → s.heap.get? b = some o → z.heap.get? b = some o) → ∃ kd, wpAny (model prog w) A (keyKind' vs.toArray) (fun k z' => k = kd ∧ z' = z) E z ∧
      wpS (model prog w) A E z sortRuns' (fun _ y => failedOf y = none ∧ R ((arrOf y).map (·.2))) (SortSt.mk' kd (pairsOf vs) #[] 7 none))
    (h : ∀ out h' c, R out → (∀ b o, b ≠ a → s.heap.get? b = some o → h'.get? b = some o) → h'.get? a = some (seqObj "list" out c) → P (.done (.ret .none)) { s with heap := h' }) :
    wpAny (model prog w) A (Builtin.«list.sort» ⟨[.ref a], []⟩) P E s := by
  have la : a < s.heap.objs.size := Heap.lt_size ho
  have vsz : vs.toArray.size = vs.length := by simp
  rw [list_sort_plain]
  refine wpAny_bind (listItems_at ho rfl (wpAny_bind (listUpdate_at ho rfl ?_ (by rw [vsz]; exact hz) (Nat.zero_le _))))
  obtain ⟨ep, he⟩ : ∃ ep, (s.heap.update a (Obj.mapSeq fun _ => (#[] : Array Value))).get? a = some (seqObj "list" #[] ep) := ⟨_, get?_update_seq ho fun _ => #[]⟩
  have oth : ∀ b o, b ≠ a → s.heap.get? b = some o → (s.heap.update a (Obj.mapSeq fun _ => (#[] : Array Value))).get? b = some o := fun b o hb e => by
    rw [Heap.get?_update_ne _ _ _ _ hb]
    exact e
  refine wpAny_bind (seqEpoch_at he rfl (wpAny_bind (wpAny_newTuple (wpAny_bind (wpAny_newList (wpAny_holding ?_) (Nat.zero_le _))) (by simpa using hz))))
  generalize hg : s.heap.update a (Obj.mapSeq fun _ => (#[] : Array Value)) = g at he oth
  have he3 : ((g.push (seqObj "tuple" vs.toArray 0)).push (seqObj "list" #[] 0)).get? a = some (seqObj "list" #[] ep) := Heap.get?_push_of_some _ (Heap.get?_push_of_some _ he)
  have oth3 : ∀ b o, b ≠ a → s.heap.get? b = some o → ((g.push (seqObj "tuple" vs.toArray 0)).push (seqObj "list" #[] 0)).get? b = some o := fun b o hb e => Heap.get?_push_of_some _ (Heap.get?_push_of_some _ (oth b o hb e))
  show wpAny (model prog w) A _ P E { s with heap := (g.push (seqObj "tuple" vs.toArray 0)).push (seqObj "list" #[] 0) }
  generalize (g.push (seqObj "tuple" vs.toArray 0)).push (seqObj "list" #[] 0) = G at he3 oth3
  dsimp only
  have last : ∀ out : Array Value, R out → wpAny (model prog w) A (do
      let touched := (← seqEpoch a) != ep
      Builtin.List.listUpdate (.ref a) fun _ => out
      if touched then rule "list.sort.modified"; raiseError "ValueError" "list modified during sort"
      ret .none) P E { s with heap := G } := fun out ro => by
    refine wpAny_bind (seqEpoch_at he3 rfl (wpAny_bind (listUpdate_at he3 rfl ?_ (Nat.zero_le _) (by show out.size ≤ _; rw [hR out ro]; exact Nat.le_succ_of_le hz))))
    rw [bne_self_eq_false, if_neg Bool.false_ne_true]
    refine wpAny_pure (h out _ _ ro (fun b o hb e => ?_) (get?_update_seq he3 fun _ => out))
    rw [Heap.get?_update_ne _ _ _ _ hb]
    exact oth3 b o hb e
  by_cases few : vs.length < 2
  · rw [if_pos (by rw [vsz]; exact few), if_pos (by rw [vsz]; exact few)]
    refine wpAny_bind (wpAny_pure ?_)
    rw [StateT.run_pure]
    refine wpAny_bind (wpAny_pure ?_)
    have eo : (arrOf (SortSt.mk' general' (vs.toArray.zip vs.toArray) #[] 7 none)).map (·.2) = vs.toArray := by
      show (vs.toArray.zip vs.toArray).map (·.2) = vs.toArray
      apply Array.toList_inj.mp
      simp [List.map_snd_zip]
    have := last vs.toArray (short few)
    dsimp only
    rw [eo]
    exact this
  · rw [if_neg (by rw [vsz]; exact few), if_neg (by rw [vsz]; exact few)]
    obtain ⟨kd, hk, hr⟩ := long (by omega) { s with heap := G } oth3
    refine wpAny_bind (wpAny_mono hk ?_ fun _ _ e => e)
    rintro k z' ⟨rfl, rfl⟩
    refine wpAny_bind (wpAny_mono hr ?_ fun _ _ e => e)
    rintro ⟨⟨⟩, y⟩ z' ⟨rfl, hf, ro⟩
    have := last _ ro
    dsimp only at hf ro ⊢
    rw [hf]
    exact this
end
end L2
set_option Elab.async false
set_option linter.all false
set_option maxRecDepth 100000
namespace L2
open PySem PySem.Spec PyProof.Rows PySem.Builtin PySem.Builtin.Str
def cutC (c : Nat) : List Nat → List (List Nat)
  | [] => [[]]
  | a :: r => if a = c then [] :: cutC c r else match cutC c r with
    | [] => [[a]]
    | p :: q => (a :: p) :: q
def joinC (c : Nat) : List (List Nat) → List Nat
  | [] => []
  | [p] => p
  | p :: q :: r => p ++ c :: joinC c (q :: r)
section
variable {X : Cx}
def rSplit : V → List V → Hp → VK → Prop := fun x xs H Q => ∃ (c : Nat) (l : List Nat), x = .str (tx l) ∧ xs = [.str ⟨#[c]⟩] ∧ l.length + 2 ≤ sizeLine ∧ ∀ p, H p = none → Q (.ref p) (upd H p (.lst ((cutC c l).map fun z => .str (tx z))))
def rJoinS (K : PySem.W.Frag) : V → List V → Hp → VK → Prop := fun x xs H Q => ∃ (p : Addr) (ys : List (List Nat)) (c : Nat), x = .str (tx [c]) ∧ xs = [.ref p] ∧ SqL K H p (ys.map fun l => V.str (tx l)) ∧ (ys.map List.length).sum + ys.length ≤ 16777216 ∧ Q (.str (tx (joinC c ys))) H
end
def PEp (X : Cx) (e : Expr) (t : TE) : Prop := ∀ (pins : List (Addr × Obj)) (s : Shared) (σ : St) (H : Hp) (Q : VK), 1 ≤ s.toks → Inv X pins σ H s → t σ H Q → wpAny (model X.prog X.w) X.A (eval e X.env) (EP X pins σ Q) X.xe s
def PAp (X : Cx) (es : List Expr) (t : TA) : Prop := ∀ (pos : Pos) (pins : List (Addr × Obj)) (s : Shared) (σ : St) (H : Hp) (Q : List V → Hp → Prop), 1 ≤ s.toks → Inv X pins σ H s → t σ H Q → wpAny (model X.prog X.w) X.A (spliced (backTo pos (starEach es X.env))) (AP X pins σ Q) X.xe s
def PSp (X : Cx) (st : Stmt) (t : TS) : Prop := ∀ (pins : List (Addr × Obj)) (s : Shared) (σ : St) (H : Hp) (D : Ends), 1 ≤ s.toks → Inv X pins σ H s → t D σ H → wpAny (model X.prog X.w) X.A (exec st X.env) (SP X pins D) X.xe s
def PSsp (X : Cx) (st : List Stmt) (t : TS) : Prop := ∀ (pins : List (Addr × Obj)) (s : Shared) (σ : St) (H : Hp) (D : Ends), 1 ≤ s.toks → Inv X pins σ H s → t D σ H → wpAny (model X.prog X.w) X.A (execs st X.env) (SP X pins D) X.xe s
section
variable {X : Cx} {st : Stmt} {rest : List Stmt} {t u : TS} {e : Expr} {es : List Expr} {te : TE} {ta : TA}
def tRepl (c : Str) (d : Str) (to : TE) : TE := fun σ H Q => to σ H fun x H1 => ∃ (l : List Nat) (k : Nat), x = .str (tx l) ∧ c = ⟨#[k]⟩ ∧ d = ⟨#[]⟩ ∧ l.length ≤ 100000 ∧ Q (.str (tx (l.filter (· != k)))) H1
end
end L2
namespace L2
open PySem PySem.Spec PyProof.Rows
section
variable {X : Cx} {st : Stmt} {rest : List Stmt} {t u : TS} {e : Expr} {es : List Expr} {te : TE} {ta : TA}
end
end L2
namespace L2
end L2
set_option Elab.async false
set_option linter.all false
set_option maxRecDepth 100000
namespace L2
open PySem PySem.Spec PyProof.Rows
section
variable {X : Cx}
end
structure Mrk where
  nm : List Nat
  back : Bool
  sg : List Nat
  num : Int
structure MrkOk (m : Mrk) : Prop where
  nm : okT m.nm
  sg : okT m.sg
def markC : List Nat := [109, 97, 114, 107]
def rowC : List Nat := [114, 111, 119]
def orC : List Nat := [111, 114]
def manyC : List Nat := [109, 97, 110, 121]
def someC : List Nat := [115, 111, 109, 101]
def maybeC : List Nat := [109, 97, 121, 98, 101]
def ones : List (List Nat) := [manyC, someC, maybeC]
def twos : List (List Nat) := [rowC, orC]
inductive Tr where
  | mark (m : Mrk)
  | two (k : List Nat) (l r : Tr)
  | one (k : List Nat) (t : Tr)
def Tr.deep : Tr → Nat
  | .mark _ => 1
  | .two _ l r => max l.deep r.deep + 1
  | .one _ t => t.deep + 1
def Tr.marks : Tr → List Mrk
  | .mark m => [m]
  | .two _ l r => l.marks ++ r.marks
  | .one _ t => t.marks
def Mrk.turn (m : Mrk) : Mrk := { m with back := !m.back }
def Tr.turn : Tr → Tr
  | .mark m => .mark m.turn
  | .two k l r => if k = rowC then .two k r.turn l.turn else .two k l.turn r.turn
  | .one k t => .one k t.turn
def mkV (m : Mrk) : List V := [.str (tx markC), .str (tx m.nm), .bl m.back, .str (tx m.sg), .int m.num]
inductive TreeAt (H : Hp) : Addr → Tr → Prop
  | mark {a : Addr} {m : Mrk} : H a = some (.tup (mkV m)) → MrkOk m → TreeAt H a (.mark m)
  | two {a l r : Addr} {k : List Nat} {x y : Tr} : H a = some (.tup [.str (tx k), .ref l, .ref r]) → k ∈ twos → TreeAt H l x → TreeAt H r y → TreeAt H a (.two k x y)
  | one {a i : Addr} {k : List Nat} {x : Tr} : H a = some (.tup [.str (tx k), .ref i]) → k ∈ ones → TreeAt H i x → TreeAt H a (.one k x)
theorem TreeAt.keep {H H' : Hp} {a : Addr} {t : Tr} (k : ∀ b xs, H b = some (.tup xs) → H' b = some (.tup xs)) (h : TreeAt H a t) : TreeAt H' a t := by
  induction h with
  | mark e o => exact .mark (k _ _ e) o
  | two e hk _ _ i1 i2 => exact .two (k _ _ e) hk i1 i2
  | one e hk _ i1 => exact .one (k _ _ e) hk i1
theorem TreeAt.same {H H' : Hp} {a : Addr} {t : Tr} (s : Same H H') (h : TreeAt H a t) : TreeAt H' a t := h.keep fun b xs e => s b _ e
theorem TreeAt.step {H H' : Hp} {F F' : List Addr} {a : Addr} {t : Tr} (s : Step H F H' F') (h : TreeAt H a t) : TreeAt H' a t := h.keep s.tup
theorem TreeAt.some {H : Hp} {a : Addr} {t : Tr} (h : TreeAt H a t) : ∃ xs, H a = some (.tup xs) := by
  cases h with
  | mark e _ => exact ⟨_, e⟩
  | two e _ _ _ => exact ⟨_, e⟩
  | one e _ _ => exact ⟨_, e⟩
theorem Mrk.turn_turn (m : Mrk) : m.turn.turn = m := by
  cases m
  simp [Mrk.turn]
theorem Tr.turn_turn : ∀ t : Tr, t.turn.turn = t
  | .mark m => by simp [Tr.turn, Mrk.turn_turn]
  | .two k l r => by
    have h1 := l.turn_turn
    have h2 := r.turn_turn
    by_cases h : k = rowC
    · simp [Tr.turn, h, h1, h2]
    · simp [Tr.turn, h, h1, h2]
  | .one k t => by
    have h1 := t.turn_turn
    simp [Tr.turn, h1]
def Tr.Low (t : Tr) : Prop := t.deep + 1 ≤ 24 + t.marks.length
theorem datMark {K : PySem.W.Frag} {H : Hp} {a : Addr} {m : Mrk} (h : H a = some (.tup (mkV m))) : DatV K H (.ref a) (.tuple [.str (tx markC), .str (tx m.nm), .bool m.back, .str (tx m.sg), .int m.num]) :=
  .tup (SqT.of h) (.cons (.str _) (.cons (.str _) (.cons (.bl _) (.cons (.str _) (.cons (.int _) .nil)))))
end L2
namespace L2
open PySem PySem.Spec PyProof.Rows
inductive All2 {α β : Type} (R : α → β → Prop) : List α → List β → Prop
  | nil : All2 R [] []
  | cons {a : α} {b : β} {as : List α} {bs : List β} : R a b → All2 R as bs → All2 R (a :: as) (b :: bs)
theorem All2.imp {α β : Type} {R S : α → β → Prop} (h : ∀ a b, R a b → S a b) : ∀ {as : List α} {bs : List β}, All2 R as bs → All2 S as bs
  | _, _, .nil => .nil
  | _, _, .cons r t => .cons (h _ _ r) (t.imp h)
theorem All2.snoc {α β : Type} {R : α → β → Prop} {a : α} {b : β} (r : R a b) : ∀ {as : List α} {bs : List β}, All2 R as bs → All2 R (as ++ [a]) (bs ++ [b])
  | _, _, .nil => .cons r .nil
  | _, _, .cons r' t => .cons r' (t.snoc r)
theorem All2.append {α β : Type} {R : α → β → Prop} : ∀ {as cs : List α} {bs ds : List β}, All2 R as bs → All2 R cs ds → All2 R (as ++ cs) (bs ++ ds)
  | _, _, _, _, .nil, h => h
  | _, _, _, _, .cons r t, h => .cons r (t.append h)
theorem All2.len {α β : Type} {R : α → β → Prop} : ∀ {as : List α} {bs : List β}, All2 R as bs → as.length = bs.length
  | _, _, .nil => rfl
  | _, _, .cons _ t => by simp [t.len]
theorem All2.get {α β : Type} {R : α → β → Prop} : ∀ {as : List α} {bs : List β} {i : Nat} {a : α} {b : β}, All2 R as bs → as[i]? = some a → bs[i]? = some b → R a b
  | _, _, 0, _, _, .cons r _, h1, h2 => by
    simp at h1 h2
    rw [← h1, ← h2]
    exact r
  | _, _, i + 1, _, _, .cons _ t, h1, h2 => t.get (i := i) (by simpa using h1) (by simpa using h2)
theorem comp_rel {α : Type} {J : It} {H1 : Hp} {fr : List Nat} {σ : St} {te : TE} {Q : VK} {cs : List α} {g : α → V} (T : Tells J H1 (cs.map g)) (R : Hp → α → V → Prop) (mono : ∀ c v H H', Same H H' → R H c v → R H' c v) (hz : cs.length ≤ sizeLine)
    (he : ∀ c H2 Q2, c ∈ cs → Same H1 H2 → (∀ v H3, Same H2 H3 → R H3 c v → Q2 v H3) → te (stB1 (g c) fr σ) H2 Q2)
    (off : ∀ H c v D ys zs, H D = some (.lst ys) → R H c v → R (upd H D (.lst zs)) c v)
    (hQ : ∀ D H2 ys, H1 D = none → Same H1 H2 → H2 D = some (.lst ys) → All2 (R H2) cs ys → Q (.ref D) H2) : CompR J H1 fr σ tYes te Q := by
  intro D hD
  have hlen : (cs.map g).length = cs.length := List.length_map ..
  refine ⟨fun i m ys H2 => m = cs.length - i ∧ i ≤ cs.length ∧ All2 (R H2) (cs.take i) ys ∧ Same H1 H2 ∧ H2 D = some (.lst ys), ⟨_, rfl, Nat.zero_le _, .nil, Same.new hD, upd_same⟩, ?_⟩
  rintro i m ys H2 ⟨rfl, hi, a2, s2, d2⟩
  by_cases hlt : i < cs.length
  · refine .inr ⟨T.go i H2 (by rw [hlen]; exact hlt) s2, fun x H3 y => ?_⟩
    obtain ⟨rfl, hx⟩ := T.yld i H2 x H3 s2 (by rw [hlen]; exact hlt) y
    rw [List.getElem?_map] at hx
    cases hc : cs[i]? with
    | none => rw [hc] at hx; cases hx
    | some c =>
      rw [hc] at hx
      obtain rfl : g c = x := Option.some.inj hx
      have hm : c ∈ cs := List.mem_of_getElem? hc
      unfold tYes
      dsimp only
      rw [if_pos rfl]
      refine he c H3 _ hm s2 fun v H5 s5 r5 => ⟨s5 _ _ d2, ?_, _, ?_, rfl, hlt, ?_, (s2.trans s5).upd_new hD, upd_same⟩
      · have := a2.len
        rw [List.length_take] at this
        omega
      · omega
      · rw [take_get hc]
        exact All2.snoc (off _ _ _ _ _ _ (s5 _ _ d2) r5) ((a2.imp fun a b r => mono a b _ _ s5 r).imp fun a b r => off _ _ _ _ _ _ (s5 _ _ d2) r)
  · obtain rfl : i = cs.length := by omega
    exact .inl ⟨by have := T.stop H2 s2; rw [hlen] at this; exact this, hQ D H2 ys hD s2 d2 (by rw [List.take_length] at a2; exact a2)⟩
theorem rd_ixT {K : PySem.W.Frag} {H : Hp} {a : Addr} {xs : List V} {i : Int} {v : V} {Q : VK} (h : H a = some (.tup xs)) (e : atI xs i = some v) (q : Q v H) : rIxT K (.ref a) (.int i) H Q := ⟨a, xs, i, v, rfl, rfl, SqT.of h, e, q⟩
theorem rd_ixL {K : PySem.W.Frag} {H : Hp} {a : Addr} {xs : List V} {i : Int} {v : V} {Q : VK} (h : H a = some (.lst xs)) (e : atI xs i = some v) (q : Q v H) : rIxL K (.ref a) (.int i) H Q := ⟨a, xs, i, v, rfl, rfl, SqL.of h, e, q⟩
theorem TreeAt.off {H : Hp} {a D : Addr} {t : Tr} {ys : List V} {o : HO} (h : TreeAt H a t) (d : H D = Option.some (HO.lst ys)) : TreeAt (upd H D o) a t := h.keep fun b xs e => by
  rw [upd_ne (fun z => by rw [z, d] at e; cases e)]
  exact e
def Tr.kids : Tr → List Tr
  | .mark _ => []
  | .two _ l r => [l, r]
  | .one _ t => [t]
def Tr.kind : Tr → List Nat
  | .mark _ => markC
  | .two k _ _ => k
  | .one k _ => k
theorem TreeAt.kids {H : Hp} {a : Addr} {tr : Tr} (h : TreeAt H a tr) : (∃ m, tr = .mark m ∧ H a = Option.some (.tup (mkV m)) ∧ MrkOk m) ∨
    (∃ as : List Addr, H a = Option.some (.tup (.str (tx tr.kind) :: as.map V.ref)) ∧ All2 (TreeAt H) as tr.kids ∧ tr.kind ∈ twos ++ ones ∧ tr.kind ≠ markC ∧ as.length ≤ 2 ∧ 1 ≤ as.length) := by
  have ne : ∀ k ∈ twos ++ ones, k ≠ markC := by decide
  cases h with
  | mark e o => exact .inl ⟨_, rfl, e, o⟩
  | @two _ l r k _ _ e hk hl hr => exact .inr ⟨[l, r], e, .cons hl (.cons hr .nil), List.mem_append_left _ hk, ne _ (List.mem_append_left _ hk), by simp, by simp⟩
  | @one _ i k _ e hk hi => exact .inr ⟨[i], e, .cons hi .nil, List.mem_append_right _ hk, ne _ (List.mem_append_right _ hk), by simp, by simp⟩
theorem cutV_tail (x : V) (xs : List V) : cutV (x :: xs) (Option.some 1) none = xs := by
  unfold cutV
  have e1 : HT.sIx (x :: xs).length 0 (Option.some 1) = 1 := by
    simp [HT.sIx]
  have e2 : HT.sIx (x :: xs).length (x :: xs).length none = (x :: xs).length := by
    simp [HT.sIx]
  rw [e1, e2]
  simp
theorem All2.zip {α β : Type} {R : α → β → Prop} : ∀ {as : List α} {bs : List β}, All2 R as bs → ∀ c ∈ as.zip bs, R c.1 c.2
  | _, _, .nil, c, h => nomatch h
  | _, _, .cons r t, c, h => by
    rcases List.mem_cons.mp h with rfl | h
    · exact r
    · exact t.zip c h
theorem All2.rev {α β : Type} {R : α → β → Prop} : ∀ {as : List α} {bs : List β}, All2 R as bs → All2 R as.reverse bs.reverse
  | _, _, .nil => .nil
  | _, _, .cons r t => by
    rw [List.reverse_cons, List.reverse_cons]
    exact t.rev.snoc r
theorem TreeAt.turned {H0 H : Hp} {a p : Addr} {tr : Tr} {cs : List Addr} (ha : TreeAt H0 a tr) (nm : tr.kind ≠ markC) (e : H p = Option.some (.tup (.str (tx tr.kind) :: cs.map V.ref)))
    (h : All2 (TreeAt H) cs (if tr.kind = rowC then (tr.kids.map Tr.turn).reverse else tr.kids.map Tr.turn)) : TreeAt H p tr.turn := by
  cases ha with
  | mark _ _ => exact absurd rfl nm
  | two _ hk _ _ =>
    simp only [Tr.kind, Tr.kids, Tr.turn, List.map_cons, List.map_nil, List.reverse_cons, List.reverse_nil, List.nil_append, List.cons_append] at *
    split at h
    · rename_i hr
      rw [if_pos hr]
      cases h with
      | cons h1 h =>
        cases h with
        | cons h2 h =>
          cases h
          exact .two e hk h1 h2
    · rename_i hr
      rw [if_neg hr]
      cases h with
      | cons h1 h =>
        cases h with
        | cons h2 h =>
          cases h
          exact .two e hk h1 h2
  | one _ hk _ =>
    have ne : ∀ k ∈ ones, k ≠ rowC := by decide
    simp only [Tr.kind, Tr.kids, Tr.turn, List.map_cons, List.map_nil, if_neg (ne _ hk)] at *
    cases h with
    | cons h1 h =>
      cases h
      exact .one e hk h1
theorem at_last {α : Type} {xs : List α} {v : α} : atI (xs ++ [v]) (-1) = Option.some v := by
  unfold atI ixN
  have hl : (xs ++ [v]).length = xs.length + 1 := by simp
  rw [if_neg (by decide), if_pos (by rw [hl]; omega), show ((-1 : Int) + ((xs ++ [v]).length : Nat)).toNat = xs.length by rw [hl]; omega]
  simp
theorem snoc_of {α : Type} {l : List α} (h : l ≠ []) : ∃ l0 x, l = l0 ++ [x] := by
  rcases List.eq_nil_or_concat l with e | ⟨l0, x, e⟩
  · exact absurd e h
  · exact ⟨l0, x, by rw [e, List.concat_eq_append]⟩
end L2
set_option Elab.async false
set_option linter.all false
set_option maxRecDepth 100000
namespace L2
open PySem PySem.Spec PyProof.Rows PySem.Builtin PySem.Builtin.Str
def firstAt (c : Nat) : List Nat → Option Nat
  | [] => none
  | a :: r => if a = c then some 0 else (firstAt c r).map (· + 1)
def findV (c : Nat) (l : List Nat) (i : Nat) : Int := match firstAt c (l.drop i) with | some j => ((i + j : Nat) : Int) | none => -1
section
variable {X : Cx}
def rStartsF : V → List V → Hp → VK → Prop := fun x xs H Q => ∃ (l : List Nat) (c i : Nat), x = .str (tx l) ∧ xs = [.str (tx [c]), .int (i : Int)] ∧ Q (.bl (decide (l[i]? = some c))) H
def rFindF : V → List V → Hp → VK → Prop := fun x xs H Q => ∃ (l : List Nat) (c i : Nat), x = .str (tx l) ∧ xs = [.str (tx [c]), .int (i : Int)] ∧ Q (.int (findV c l i)) H
def partC (c : Nat) (l : List Nat) : List Nat × List Nat × List Nat := match firstAt c l with | some j => (l.take j, [c], l.drop (j + 1)) | none => (l, [], [])
def rPartition : V → List V → Hp → VK → Prop := fun x xs H Q => ∃ (l : List Nat) (c : Nat), x = .str (tx l) ∧ xs = [.str (tx [c])] ∧ l.length ≤ sizeLine ∧ ∀ p, H p = none → Q (.ref p) (upd H p (.tup [.str (tx (partC c l).1), .str (tx (partC c l).2.1), .str (tx (partC c l).2.2)]))
def rMid : V → Option Int → Option Int → Hp → VK → Prop := fun x lo hi H Q => ∃ (l : List Nat) (i j : Nat), x = .str (tx l) ∧ lo = some (i : Int) ∧ hi = some (j : Int) ∧ i ≤ j ∧ j ≤ l.length ∧ l.length ≤ sizeLine ∧ Q (.str (tx ((l.drop i).take (j - i)))) H
def rInner : V → Option Int → Option Int → Hp → VK → Prop := fun x lo hi H Q => ∃ l : List Nat, x = .str (tx l) ∧ lo = some 1 ∧ hi = some (-1) ∧ 2 ≤ l.length ∧ l.length ≤ sizeLine ∧ Q (.str (tx ((l.drop 1).take (l.length - 2)))) H
end
end L2
namespace L2
open PySem PySem.Spec PyProof.Rows
def singles : List Nat := [46, 124, 42, 43, 63, 40, 41]
def isL (c : Nat) : Bool := decide (c ∈ abc)
def nameLen (r : List Nat) : Nat := if r.head? = some 95 then 1 else (r.takeWhile isL).length
def condLen (r : List Nat) : Option Nat := if r.head? = some 91 then (firstAt 93 r).map (· + 1) else some 0
def pieceLen (r : List Nat) : Option Nat := match r with
  | [] => none
  | c :: _ => if c ∈ singles then some 1 else (condLen (r.drop ((if c = 60 then 1 else 0) + nameLen (r.drop (if c = 60 then 1 else 0))))).map (((if c = 60 then 1 else 0) + nameLen (r.drop (if c = 60 then 1 else 0))) + ·)
structure MrkW (m : Mrk) : Prop where
  nm : m.nm = [95] ∨ (1 ≤ m.nm.length ∧ m.nm.length ≤ 12 ∧ ∀ x ∈ m.nm, x ∈ abc)
  sg : m.sg ∈ [[], [60], [62], [61], [33]]
  num : m.num.natAbs < 10 ^ 60
  non : m.sg = [] → m.num = 0
theorem abc_ok {x : Nat} (h : x ∈ abc) : x < 1114112 := by
  have := mem_abc.mp h
  omega
theorem MrkW.ok {m : Mrk} (h : MrkW m) : MrkOk m := by
  refine ⟨fun x hx => ?_, fun x hx => ?_⟩
  · rcases h.nm with e | ⟨_, _, e⟩
    · rw [e, List.mem_singleton] at hx
      rw [hx]
      decide
    · exact abc_ok (e x hx)
  · have all : ∀ l ∈ [[], [60], [62], [61], [33]], ∀ x ∈ l, x < 1114112 := by decide
    exact all _ h.sg x hx
def condC (m : Mrk) : List Nat := if m.sg = [] then [] else 91 :: (m.sg ++ numC m.num ++ [93])
def markT (m : Mrk) : List Nat := (if m.back = true then [60] else []) ++ (m.nm ++ condC m)
inductive Pc where
  | sign (c : Nat)
  | mark (m : Mrk)
def Pc.shown : Pc → List Nat
  | .sign c => [c]
  | .mark m => markT m
def PcW : Pc → Prop
  | .sign c => c ∈ singles
  | .mark m => MrkW m
def Pc.endsL (p : Pc) : Bool := match p.shown.getLast? with | some c => isL c | none => false
def Pc.startsL (p : Pc) : Bool := match p.shown.head? with | some c => isL c | none => false
end L2
set_option Elab.async false
set_option linter.all false
set_option maxRecDepth 100000
namespace L2
open PySem PySem.Spec PyProof.Rows
@[reducible] def intK : PyProof.Rows.KeyKind where
  α := Int
  blt a b := decide (a < b)
  irrefl a := by simp
  trans a b c h1 h2 := by simp only [decide_eq_true_eq] at *; omega
  negTrans a b c h := by
    simp only [decide_eq_true_eq] at *
    omega
  total a b h1 h2 := by simp only [decide_eq_false_iff_not] at *; omega
  keyOf v := match v with | .int x _ => some x | _ => none
  dflt := 0
section
variable {X : Cx}
end
end L2
set_option Elab.async false
set_option linter.all false
set_option maxRecDepth 100000
namespace L2
open PySem PySem.Spec PyProof.Rows
structure FunD (K : PySem.W.Frag) (x qual : Str) (st : Stmt) (f : Addr) (fd : FuncData) : Prop where
  ex : ∃ (oc : Value) (od : Option Addr) (dV kV doc pm : Value) (an : Option Addr) (cdv ct : Value) (osl : Array (Option Value)),
    fd = PySem.W.fnOf x qual (defArgs st) (defBody st) (defScope st) dV kV doc pm an cdv ct ∧ K.lookup f = some ⟨oc, od, .func fd, osl⟩ ∧ PySem.W.codeIn K cdv qual = true
  kp : PySem.W.keepIn K (.ref f) = true
section
variable {P : Program} {w : World} {K : PySem.W.Frag} {mg : Str → Option Value} {base : Heap}
theorem FunD.okX {x qual : Str} {st : Stmt} {f : Addr} {fd : FuncData} {N ps : List Str} {k : Nat} {sp : Sp} (F : FunD K x qual st f fd) (S : FnScope N ps (defScope st)) (len : ∀ vs H Q E, sp vs H Q E → vs.length = ps.length)
    (hbody : ∀ (cdv : Value) (A : Around) (outer : List Env) (s : Shared) (H : Hp) (vs : List V) (Q : VK) (E : XK), Room k (A.deeper (envOfC qual (defScope st) s.heap.objs.size f cdv)) → sp vs H Q E →
      ∃ t, PSs (cxOf (CX1 P w) P w K mg base N qual (defScope st) f cdv A outer s H E) (defBody st) t ∧ t { nx := fun _ H' => Q .non H', rt := Q } (start N vs) H) : FnOk P w K mg base (CX1 P w) (k + 1) f fd ps sp := by
  obtain ⟨oc, od, dV, kV, doc, pm, an, cdv, ct, osl, rfl, lk, hcd⟩ := F.ex
  exact fn_of lk hcd S len fun A outer s H vs Q E hr hsp => hbody cdv A outer s H vs Q E hr hsp
end
structure MethOkD (K : PySem.W.Frag) (C : Addr) (m qual : Str) (st : Stmt) (ps : List Str) (dvs : List V) (f : Addr) (fd : FuncData) : Prop where
  at_ : Meth K C m f
  fn : FunD K m qual st f fd
  b : Binds K fd ps []
  bd : ∃ ds, Vals dvs ds ∧ Binds K fd ps ds
section
variable {X : Cx} {P : Program} {w : World} {k : Nat} {f C : Addr} {fd : FuncData} {ps : List Str} {sp : Sp} {E : XK} {m qual : Str} {st : Stmt} {apos pos : Pos} {e o : Expr} {es : List Expr} {ta : TE} {t : TA} {dvs : List V}
theorem MethOkD.run {K : PySem.W.Frag} (D : MethOkD K C m qual st ps dvs f fd) : Meth K C m f ∧ Binds K fd ps [] := ⟨D.at_, D.b⟩
end
def WA.addTie (A : WA) (s n e : Nm) (w : Int) : Except Rf WA :=
  if s ∉ A.names ∨ e ∉ A.names then .error .noThing else if goodC n = false then .error .noName else if 10 ^ 60 ≤ w.natAbs then .error .noNumber else if 400 ≤ A.ties.length then .error .full
  else .ok { A with ties := A.ties ++ [(A.next, ⟨s, n, e, w⟩)], next := A.next + 1 }
def WA.cutTie (A : WA) (k : Int) : Except Rf WA :=
  if k ∉ A.ties.map (·.1) then .error .noTie else .ok { A with ties := A.ties.filter fun x => decide (x.1 ≠ k) }
theorem WebAt.cut {C : Addr} {H : Hp} {p : Addr} {W : WS} {n : Int} (w : WebAt C H p W) :
    WebAt C (upd H W.dt (.dK (dropK (kvTies W.ties) (.inl n)))) p { W with ties := W.ties.filter fun x => decide (x.1 ≠ n) } ∧
    Step H (W.own p) (upd H W.dt (.dK (dropK (kvTies W.ties) (.inl n)))) (WS.own { W with ties := W.ties.filter fun x => decide (x.1 ≠ n) } p) := by
  rw [dropK_ties]
  have oth : ∀ b o, b ≠ W.dt → H b = some o → upd H W.dt (.dK (kvTies (W.ties.filter fun x => decide (x.1 ≠ n)))) b = some o := fun b o hb e => by
    rw [upd_ne hb]
    exact e
  have sub : ∀ x ∈ W.ties.filter (fun x => decide (x.1 ≠ n)), x ∈ W.ties := fun x hx => (List.mem_filter.mp hx).1
  refine ⟨⟨oth _ _ w.pdt.symm w.obj, oth _ _ w.dvdt w.val, upd_same, fun x hx => oth _ _ (w.dtx hx) (w.each x hx), fun x hx => oth _ _ (ne_of (w.tups x (sub x hx)) w.tie (by intro z; cases z)) (w.tups x (sub x hx)), w.nd, w.names, ?_, w.few, Nat.le_trans (List.length_filter_le _ _) w.fewT⟩,
    ⟨fun b o hb e => oth b o (fun z => hb (by simp [WS.own, z])) e, fun b hb => .inl hb, fun b xs e => oth b _ (ne_of e w.tie (by intro z; cases z)) e⟩⟩
  exact List.Sublist.nodup (List.Sublist.map _ List.filter_sublist) w.nums
theorem shaped_ints (ns : List Int) : SeqAt.shaped (.list (ns.map PyData.int)) = true := by
  unfold SeqAt.shaped
  have e : PyData.canLayAll0 (ns.map PyData.int) = true := by
    induction ns with
    | nil => simp [PyData.canLayAll0]
    | cons a r ih => rw [List.map_cons, PyData.canLayAll0, PyData.canLay0, ih]; rfl
  have d : PyData.depthAll (ns.map PyData.int) ≤ 1 := by
    induction ns with
    | nil => simp [PyData.depthAll]
    | cons a r ih =>
      have := ih (by rw [List.map_cons, PyData.canLayAll0, Bool.and_eq_true] at e; exact e.2)
      simp only [List.map_cons, PyData.depthAll, PyData.depth]
      omega
  rw [Bool.and_eq_true, decide_eq_true_eq]
  refine ⟨by simpa [PyData.canLay0] using e, ?_⟩
  simp only [PyData.depth]
  omega
end L2
set_option Elab.async false
set_option linter.all false
set_option maxRecDepth 100000
namespace L2
open PySem PySem.Spec PyProof.Rows
section
variable {X : Cx} {y : Str} {py : Pos} {elt iter : Expr} {ifs : List Expr} {scope : Scope} {pos : Pos} {N : List Str} {fr : List Nat} {tt : TT} {te tel : TE}
theorem ps_setCD {i : Nat} {z : Str} {pz spos : Pos} (hN : X.N.Nodup) (hi' : X.N[i]? = some z) (hz : Loc X.env.scope z) (hc : X.calm = true) (S : CSc scope X.env.scope y N X.N fr) (hi : PE X iter te)
    (ht : ∀ cl C s₀ H₀ ex, PTs (X.blk scope cl C N s₀ H₀ ex) ifs tt) (he : ∀ cl C s₀ H₀ ex, PE (X.blk scope cl C N s₀ H₀ ex) elt tel)
    (hsw : swapsWith (.ListComp elt [⟨.Name y py, iter, ifs, 0⟩] scope pos) (some (.Name z pz)) spos.line X.env = pure true := by rfl)
    (hs : ∀ v, foldedSetIterable iter X.env v = pure v := by intro _; rfl) (hf : X.fn z = true ∨ X.env.scope.names.lookup z = some .local := by first | exact .inl rfl | exact .inr rfl | assumption) :
    PS X (.Assign [.Name z pz] (.ListComp elt [⟨.Name y py, iter, ifs, 0⟩] scope pos) spos) (tAsg (tCompD X te fr tt tel) (gName i)) := fun pins s σ H D I h =>
  thn (ps_setC hN hi' hz hc S (pi_dict hi) ht he hsw hs hf pins s σ H (Dthaw X D) I h) fun f s' q => q.thaw
theorem bps_setCD {i : Nat} {z : Str} {pz spos : Pos} (hN : X.N.Nodup) (hi' : X.N[i]? = some z) (hz : Loc X.env.scope z) (hc : X.calm = true) (S : CSc scope X.env.scope y N X.N fr) (hi : Bx (PE X iter te))
    (ht : ∀ cl C s₀ H₀ ex, Bx (PTs (X.blk scope cl C N s₀ H₀ ex) ifs tt)) (he : ∀ cl C s₀ H₀ ex, Bx (PE (X.blk scope cl C N s₀ H₀ ex) elt tel))
    (hsw : swapsWith (.ListComp elt [⟨.Name y py, iter, ifs, 0⟩] scope pos) (some (.Name z pz)) spos.line X.env = pure true := by rfl)
    (hs : ∀ v, foldedSetIterable iter X.env v = pure v := by intro _; rfl) (hf : X.fn z = true ∨ X.env.scope.names.lookup z = some .local := by first | exact .inl rfl | exact .inr rfl | assumption) :
    Bx (PS X (.Assign [.Name z pz] (.ListComp elt [⟨.Name y py, iter, ifs, 0⟩] scope pos) spos) (tAsg (tCompD X te fr tt tel) (gName i))) := ⟨ps_setCD hN hi' hz hc S hi.un (fun y0 y1 y2 y3 y4 => (ht y0 y1 y2 y3 y4).un) (fun y0 y1 y2 y3 y4 => (he y0 y1 y2 y3 y4).un) hsw hs hf⟩
end
theorem nd_len {α : Type} [DecidableEq α] : ∀ (l b : List α), l.Nodup → (∀ x ∈ l, x ∈ b) → l.length ≤ b.length
  | [], _, _, _ => Nat.zero_le _
  | x :: l, b, hn, hs => by
    obtain ⟨h1, h2⟩ := List.nodup_cons.mp hn
    have hb := hs x List.mem_cons_self
    have := nd_len l (b.erase x) h2 fun y hy => by
      have ne : y ≠ x := fun z => h1 (by rw [← z]; exact hy)
      exact (List.mem_erase_of_ne ne).mpr (hs y (List.mem_cons_of_mem _ hy))
    rw [List.length_erase_of_mem hb] at this
    have hp : 0 < b.length := List.length_pos_of_mem hb
    rw [List.length_cons]
    omega
end L2
set_option Elab.async false
set_option linter.all false
set_option maxRecDepth 100000
namespace L2
open PySem PySem.Spec PyProof.Rows PySem.W
def evK {α : Type} (lt : Nat → Nat → Bool) : KasT α → α
  | .ret a => a
  | .ask i j k => evK lt (k (lt i j))
def InK {α : Type} (n : Nat) (P : α → Prop) : KasT α → Prop
  | .ret a => P a
  | .ask i j k => i < n ∧ j < n ∧ ∀ b, InK n P (k b)
theorem InK.bind {α β : Type} {n : Nat} {P : α → Prop} {R : β → Prop} {f : α → KasT β} : ∀ {t : KasT α}, InK n P t → (∀ a, P a → InK n R (f a)) → InK n R (t.bind f)
  | .ret a, h, hf => hf a h
  | .ask _ _ _, h, hf => ⟨h.1, h.2.1, fun b => InK.bind (h.2.2 b) hf⟩
theorem InK.ev {α : Type} {n : Nat} {P : α → Prop} {lt : Nat → Nat → Bool} : ∀ {t : KasT α}, InK n P t → P (evK lt t)
  | .ret _, h => h
  | .ask i j k, h => InK.ev (t := k (lt i j)) (h.2.2 (lt i j))
def PermOk (n : Nat) (p : Array Nat) : Prop := p.toList.Perm (List.range n)
theorem PermOk.lt {n : Nat} {p : Array Nat} (h : PermOk n p) (hn : 0 < n) (i : Nat) : p.getD i 0 < n := by
  by_cases hi : i < p.size
  · have : p.getD i 0 ∈ p.toList := by
      simp [Array.getD, hi]
    exact List.mem_range.mp (h.mem_iff.mp this)
  · simp [Array.getD, hi, hn]
theorem PermOk.rev {n : Nat} {p : Array Nat} (h : PermOk n p) (i j : Nat) : PermOk n (kas_rev p i j) := (Array.perm_iff_toList_perm.mp (mirror_perm _ _ _ _)).trans h
def sortP (lt : Nat → Nat → Bool) (n : Nat) : List Nat := if n < 2 then List.range n else (evK lt (kas_sort n)).toList
end L2
set_option Elab.async false
set_option linter.all false
set_option maxRecDepth 100000
namespace L2
open PySem PySem.Spec PyProof.Rows
section
variable {X : Cx} {pins : List (Addr × Obj)} {σ : List (Option V)} {H H' : Hp} {s : Shared} {h' : Heap}
theorem Inv.lays {t' : Nat} (I : Inv X pins σ H s) (k : ∀ b u, s.heap.get? b = some u → h'.get? b = some u) (ext : ∀ b, b < s.heap.objs.size → H' b = H b)
    (new : ∀ a o, H' a = some o → s.heap.objs.size ≤ a → ObjOk X.prog X.w H' h' a o) : Inv X pins σ H' { s with heap := h', toks := t' } := by
  have low : ∀ b o, H b = some o → H' b = some o := fun b o e => by rw [ext b (I.hok b o e).lt]; exact e
  refine I.un ⟨fun b u q _ _ _ => k b u q, fun b u q _ _ _ => ⟨u.slots, k b u q⟩, fun b u q n _ => by rw [ext b (Heap.lt_size q)]; exact n, fun b u q _ => ⟨u, k b u q⟩, fun b xs q => low b _ q, fun b u xs q => low b _ q, fun b ps q => ⟨#[], by rw [low b _ q]; simp⟩⟩ fun a o e => ?_
  by_cases ha : a < s.heap.objs.size
  · rw [ext a ha] at e
    exact (I.hok a o e).stay (fun c v _ q => k c v q) (fun c q => low c _ q) fun c xs q => low c _ q
  · exact new a o e (Nat.le_of_not_lt ha)
end
def keyAt (m : List (Nm × Int)) (i : Nat) : Nm := (m.getD i ([], 0)).1
def ltN (m : List (Nm × Int)) (i j : Nat) : Bool := decide ((tx (keyAt m i)).cps.toList < (tx (keyAt m j)).cps.toList)
def layT (H : Hp) : List Addr → List (Nm × Int) → Hp
  | a :: as, y :: m => upd (layT H as m) a (.tup [.str (tx y.1), .int y.2])
  | _, _ => H
section
variable {prog : Program} {w : World} {A : Around} {E : Value → Shared → Prop} {z : Shared}
def pairObj (y : Nm × Int) (t u : Tok) : Obj := { cls := .type "tuple", data := .seq #[.str (tx y.1) t, .int y.2 u] }
end
def tSortI (to : TE) : TE := fun σ H Q => to σ H fun x H1 => ∃ (d : Addr) (m : List (Nm × Int)), x = .ref d ∧ Rd H1 d (.dK (kvNums m)) ∧ m.length < 64 ∧ (m.map (·.1)).Nodup ∧
  ∀ (l : Addr) (as : List Addr) (H2 : Hp), H1 l = none → as.length = m.length → Same H1 H2 → H2 l = some (.lst ((sortP (ltN m) m.length).map fun i => .ref (as.getD i 0))) → (∀ a ∈ as, H1 a = none ∧ a ≠ l) →
    (∀ (i : Nat) (a : Addr) (y : Nm × Int), as[i]? = some a → m[i]? = some y → H2 a = some (.tup [.str (tx y.1), .int y.2])) → Q (.ref l) H2
section
variable {X : Cx}
end
def ltT (ks : List Nm) (i j : Nat) : Bool := decide ((tx (ks.getD i [])).cps.toList < (tx (ks.getD j [])).cps.toList)
section
variable {X : Cx}
end
end L2
set_option Elab.async false
set_option linter.all false
set_option maxRecDepth 100000
namespace L2
open PySem PySem.Spec PyProof.Rows
def putN (m : List (Nm × Int)) (k : Nm) (v : Int) : List (Nm × Int) := if k ∈ m.map (·.1) then m.map (fun y => if y.1 = k then (y.1, v) else y) else m ++ [(k, v)]
def dropN (m : List (Nm × Int)) (k : Nm) : List (Nm × Int) := m.filter fun y => decide (y.1 ≠ k)
def lookN (m : List (Nm × Int)) (k : Nm) : Option Int := (m.find? fun y => decide (y.1 = k)).map (·.2)
def WA.look (A : WA) (n : Nm) : Option (List (Nm × Int)) := (A.things.find? fun x => decide (x.1 = n)).map (·.2)
def WA.setv (A : WA) (n : Nm) (m : List (Nm × Int)) : WA := { A with things := A.things.map fun x => if x.1 = n then (x.1, m) else x }
def WA.setValue (A : WA) (n k : Nm) (v : Int) : Except Rf WA :=
  match A.look n with
  | none => .error .noThing
  | some m => if goodC k = false then .error .noName else if 10 ^ 60 ≤ v.natAbs then .error .noNumber else .ok (A.setv n (putN m k v))
def WA.takeValue (A : WA) (n k : Nm) : Except Rf WA :=
  match A.look n with
  | none => .error .noThing
  | some m => if k ∉ m.map (·.1) then .error .noKey else .ok (A.setv n (dropN m k))
def WS.setv (W : WS) (n : Nm) (m : List (Nm × Int)) : WS := { W with vals := W.vals.map fun x => if x.1 = n then (x.1, x.2.1, m) else x }
theorem WS.setv_own (W : WS) (n : Nm) (m : List (Nm × Int)) (p : Addr) : (W.setv n m).own p = W.own p := by
  unfold WS.setv WS.own
  simp only [List.map_map]
  congr 3
  refine List.map_congr_left fun x _ => ?_
  dsimp only [Function.comp]
  split <;> rfl
theorem WS.setv_names (W : WS) (n : Nm) (m : List (Nm × Int)) : (W.setv n m).vals.map (·.1) = W.vals.map (·.1) := by
  unfold WS.setv
  simp only [List.map_map]
  refine List.map_congr_left fun x _ => ?_
  dsimp only [Function.comp]
  split <;> rfl
theorem WebAt.setv {C : Addr} {H : Hp} {p : Addr} {W : WS} {x : Nm × Addr × List (Nm × Int)} {m : List (Nm × Int)} (w : WebAt C H p W) (hx : x ∈ W.vals) :
    WebAt C (upd H x.2.1 (.dK (kvNums m))) p (W.setv x.1 m) ∧ Step H (W.own p) (upd H x.2.1 (.dK (kvNums m))) ((W.setv x.1 m).own p) := by
  have hin : x.2.1 ∈ W.own p := by
    unfold WS.own
    exact List.mem_cons_of_mem _ (List.mem_cons_of_mem _ (List.mem_cons_of_mem _ (List.mem_map.mpr ⟨x, hx, rfl⟩)))
  have oth : ∀ b o, b ≠ x.2.1 → H b = some o → upd H x.2.1 (.dK (kvNums m)) b = some o := fun b o hb e => by
    rw [upd_ne hb]
    exact e
  have exx := w.each x hx
  have kv : kvVals (W.setv x.1 m).vals = kvVals W.vals := by
    unfold kvVals WS.setv
    simp only [List.map_map]
    refine List.map_congr_left fun y _ => ?_
    dsimp only [Function.comp]
    split <;> rfl
  have ad : (W.setv x.1 m).vals.map (·.2.1) = W.vals.map (·.2.1) := by
    unfold WS.setv
    simp only [List.map_map]
    refine List.map_congr_left fun y _ => ?_
    dsimp only [Function.comp]
    split <;> rfl
  refine ⟨⟨oth _ _ (ne_of w.obj exx (by intro z; cases z)) w.obj, ?_, oth _ _ (w.dtx hx).symm w.tie, fun y hy => ?_, fun y hy => oth _ _ (ne_of (w.tups y hy) exx (by intro z; cases z)) (w.tups y hy), ?_, ?_, w.nums, ?_, w.fewT⟩, ?_⟩
  · rw [kv]
    exact oth _ _ (w.dvx hx).symm w.val
  · unfold WS.setv at hy
    obtain ⟨z, hz, rfl⟩ := List.mem_map.mp hy
    by_cases e : z.1 = x.1
    · rw [if_pos e]
      have zx : z = x := by
        have := w.names
        obtain ⟨i, hi⟩ := List.mem_iff_getElem?.mp hz
        obtain ⟨j, hj⟩ := List.mem_iff_getElem?.mp hx
        have li := (List.getElem?_eq_some_iff.mp hi)
        have lj := (List.getElem?_eq_some_iff.mp hj)
        obtain ⟨li, ei⟩ := li
        obtain ⟨lj, ej⟩ := lj
        have ij : i = j := by
          refine (List.getElem_inj (h₀ := by rw [List.length_map]; exact li) (h₁ := by rw [List.length_map]; exact lj) this).mp ?_
          rw [List.getElem_map, List.getElem_map, ei, ej]
          exact e
        subst ij
        rw [← ei, ← ej]
      rw [zx]
      exact upd_same
    · rw [if_neg e]
      refine oth _ _ (fun q => e ?_) (w.each z hz)
      have nda := (List.nodup_cons.mp (List.nodup_cons.mp w.nd).2).2
      obtain ⟨i, hi⟩ := List.mem_iff_getElem?.mp hz
      obtain ⟨j, hj⟩ := List.mem_iff_getElem?.mp hx
      obtain ⟨li, ei⟩ := List.getElem?_eq_some_iff.mp hi
      obtain ⟨lj, ej⟩ := List.getElem?_eq_some_iff.mp hj
      have ij : i = j := by
        refine (List.getElem_inj (h₀ := by rw [List.length_map]; exact li) (h₁ := by rw [List.length_map]; exact lj) nda).mp ?_
        rw [List.getElem_map, List.getElem_map, ei, ej]
        exact q
      subst ij
      rw [← ei, ← ej]
  · rw [ad]
    exact w.nd
  · rw [WS.setv_names]
    exact w.names
  · unfold WS.setv
    dsimp only
    rw [List.length_map]
    exact w.few
  · rw [WS.setv_own]
    exact ⟨fun b o hb e => oth b o (fun z => hb (by rw [z]; exact hin)) e, fun b hb => .inl hb, fun b xs e => oth b _ (ne_of e exx (by intro z; cases z)) e⟩
end L2
set_option Elab.async false
set_option linter.all false
set_option maxRecDepth 100000
namespace L2
open PySem PySem.Spec PyProof.Rows
abbrev Nums := List (Nm × Int)
def lookV (vs : List (Nm × Addr × Nums)) (n : Nm) : Option Nums := (vs.find? fun x => decide (x.1 = n)).map (·.2.2)
structure ValsAt (H : Hp) (g : Addr) (vs : List (Nm × Addr × Nums)) : Prop where
  at_ : H g = some (.dK (kvVals vs))
  each : ∀ x ∈ vs, H x.2.1 = some (.dK (kvNums x.2.2))
  nd : (g :: vs.map (·.2.1)).Nodup
  names : (vs.map (·.1)).Nodup
def ownV (g : Addr) (vs : List (Nm × Addr × Nums)) : List Addr := g :: vs.map (·.2.1)
theorem ValsAt.same {H H' : Hp} {g : Addr} {vs : List (Nm × Addr × Nums)} (h : ValsAt H g vs) (s : Same H H') : ValsAt H' g vs := ⟨s _ _ h.at_, fun x hx => s _ _ (h.each x hx), h.nd, h.names⟩
def setV (vs : List (Nm × Addr × Nums)) (n : Nm) (a : Option Addr) (m : Nums) : List (Nm × Addr × Nums) := vs.map fun x => if x.1 = n then (x.1, a.getD x.2.1, m) else x
theorem setV_names (vs : List (Nm × Addr × Nums)) (n : Nm) (a : Option Addr) (m : Nums) : (setV vs n a m).map (·.1) = vs.map (·.1) := by
  unfold setV
  rw [List.map_map]
  refine List.map_congr_left fun x _ => ?_
  dsimp only [Function.comp]
  split <;> rfl
theorem same_at {vs : List (Nm × Addr × Nums)} {α : Type} [DecidableEq α] {f : Nm × Addr × Nums → α} (nd : (vs.map f).Nodup) {x y : Nm × Addr × Nums} (hx : x ∈ vs) (hy : y ∈ vs) (e : f x = f y) : x = y := by
  obtain ⟨i, hi⟩ := List.mem_iff_getElem?.mp hx
  obtain ⟨j, hj⟩ := List.mem_iff_getElem?.mp hy
  obtain ⟨li, ei⟩ := List.getElem?_eq_some_iff.mp hi
  obtain ⟨lj, ej⟩ := List.getElem?_eq_some_iff.mp hj
  have ij : i = j := by
    refine (List.getElem_inj (h₀ := by rw [List.length_map]; exact li) (h₁ := by rw [List.length_map]; exact lj) nd).mp ?_
    rw [List.getElem_map, List.getElem_map, ei, ej]
    exact e
  subst ij
  rw [← ei, ← ej]
theorem ValsAt.setv {H : Hp} {g : Addr} {vs : List (Nm × Addr × Nums)} {x : Nm × Addr × Nums} {m : Nums} (h : ValsAt H g vs) (hx : x ∈ vs) :
    ValsAt (upd H x.2.1 (.dK (kvNums m))) g (setV vs x.1 none m) ∧ Step H (ownV g vs) (upd H x.2.1 (.dK (kvNums m))) (ownV g (setV vs x.1 none m)) := by
  have ex := h.each x hx
  have hxg : x.2.1 ≠ g := fun z => (List.nodup_cons.mp h.nd).1 (by rw [← z]; exact List.mem_map.mpr ⟨x, hx, rfl⟩)
  have kv : kvVals (setV vs x.1 none m) = kvVals vs := by
    unfold kvVals setV
    rw [List.map_map]
    refine List.map_congr_left fun y _ => ?_
    dsimp only [Function.comp]
    split <;> rfl
  have ad : (setV vs x.1 none m).map (·.2.1) = vs.map (·.2.1) := by
    unfold setV
    rw [List.map_map]
    refine List.map_congr_left fun y _ => ?_
    dsimp only [Function.comp]
    split <;> rfl
  have nda := (List.nodup_cons.mp h.nd).2
  refine ⟨⟨?_, fun y hy => ?_, by rw [ad]; exact h.nd, by rw [setV_names]; exact h.names⟩, ?_⟩
  · rw [kv, upd_ne hxg.symm]
    exact h.at_
  · unfold setV at hy
    obtain ⟨z, hz, rfl⟩ := List.mem_map.mp hy
    by_cases e : z.1 = x.1
    · rw [if_pos e, same_at h.names hz hx e]
      exact upd_same
    · rw [if_neg e, upd_ne (fun q => e (by rw [same_at nda hz hx q]))]
      exact h.each z hz
  · unfold ownV
    rw [ad]
    refine ⟨fun b o hb e => ?_, fun b hb => .inl hb, fun b ys e => ?_⟩
    · rw [upd_ne (fun z => hb (by rw [z]; exact List.mem_cons_of_mem _ (List.mem_map.mpr ⟨x, hx, rfl⟩)))]
      exact e
    · rw [upd_ne (ne_of e ex (by intro z; cases z))]
      exact e
theorem ValsAt.own_some {H : Hp} {g : Addr} {vs : List (Nm × Addr × Nums)} (h : ValsAt H g vs) {b : Addr} (hb : b ∈ ownV g vs) : ∃ kvs, H b = some (.dK kvs) := by
  rcases List.mem_cons.mp hb with z | z
  · rw [z]
    exact ⟨_, h.at_⟩
  · obtain ⟨x, hx, rfl⟩ := List.mem_map.mp z
    exact ⟨_, h.each x hx⟩
theorem ValsAt.step {H H' : Hp} {g : Addr} {vs : List (Nm × Addr × Nums)} {F F' : List Addr} (h : ValsAt H g vs) (s : Step H F H' F') (d : ∀ b ∈ ownV g vs, b ∉ F) : ValsAt H' g vs :=
  ⟨s.off _ _ (d _ List.mem_cons_self) h.at_, fun x hx => s.off _ _ (d _ (List.mem_cons_of_mem _ (List.mem_map.mpr ⟨x, hx, rfl⟩))) (h.each x hx), h.nd, h.names⟩
structure RowsAt (H : Hp) (r : Addr) (rs : List (Int × Addr × Tie)) : Prop where
  at_ : H r = some (.dK (kvTies rs))
  tups : ∀ x ∈ rs, H x.2.1 = some (.tup (tieV x.2.2))
def plain (rs : List (Int × Addr × Tie)) : List (Int × Tie) := rs.map fun x => (x.1, x.2.2)
structure TieOk (x : Tie) : Prop where
  s : okT x.start
  n : okT x.name
  e : okT x.stop
theorem RowsAt.keep {H H' : Hp} {r : Addr} {rs : List (Int × Addr × Tie)} (h : RowsAt H r rs) (e : H' r = H r) (k : ∀ b xs, H b = some (.tup xs) → H' b = some (.tup xs)) : RowsAt H' r rs := ⟨e.trans h.at_, fun x hx => k _ _ (h.tups x hx)⟩
theorem RowsAt.same {H H' : Hp} {r : Addr} {rs : List (Int × Addr × Tie)} (h : RowsAt H r rs) (s : Same H H') : RowsAt H' r rs := ⟨s _ _ h.at_, fun x hx => s _ _ (h.tups x hx)⟩
end L2
set_option Elab.async false
set_option linter.all false
set_option maxRecDepth 100000
namespace L2
open PySem PySem.Spec PyProof.Rows
theorem Step.frame {H H' : Hp} {F F' : List Addr} (s : Step H F H' F') (G : List Addr) : Step H (G ++ F) H' (G ++ F') :=
  ⟨fun b o hb e => s.off b o (fun z => hb (List.mem_append_right _ z)) e, fun b hb => by
    rcases List.mem_append.mp hb with z | z
    · exact .inl (List.mem_append_left _ z)
    · rcases s.own b z with y | y
      · exact .inl (List.mem_append_right _ y)
      · exact .inr y, s.tup⟩
theorem Step.at {H : Hp} {F : List Addr} {b : Addr} {o o' : HO} (hb : b ∈ F) (e : H b = some o) (ht : ∀ xs, o ≠ .tup xs) : Step H F (upd H b o') F :=
  ⟨fun c u hc h => by rw [upd_ne (fun z => hc (by rw [z]; exact hb))]; exact h, fun c h => .inl h, fun c ys h => by
    rw [upd_ne (fun z => by rw [z, e] at h; exact ht ys (Option.some.inj h))]
    exact h⟩
structure Mn where
  b0 : Addr
  g : Addr
  r : Addr
  ns : List Nm
  vs : List (Nm × Addr × Nums)
  rs : List (Int × Addr × Tie)
  c : Int
def Mn.abs (M : Mn) : WA := ⟨M.ns.map fun n => (n, (lookV M.vs n).getD []), plain M.rs, M.c⟩
def Mn.own (M : Mn) (mm : Addr) : List Addr := [mm, M.b0, M.r] ++ ownV M.g M.vs
structure MineAt (H : Hp) (mm : Addr) (M : Mn) : Prop where
  at_ : H mm = some (.lst [.ref M.b0, .ref M.g, .ref M.r, .int M.c])
  lst : H M.b0 = some (.lst (M.ns.map fun z => .str (tx z)))
  vals : ValsAt H M.g M.vs
  rows : RowsAt H M.r M.rs
  mb : mm ≠ M.b0
  rg : M.r ∉ ownV M.g M.vs
  sub : ∀ n ∈ M.ns, n ∈ M.vs.map (·.1)
  nd : M.ns.Nodup
theorem Mn.names (M : Mn) : M.abs.names = M.ns := by
  unfold WA.names Mn.abs
  rw [List.map_map]
  exact List.map_id _
theorem Mn.look (M : Mn) (n : Nm) : M.abs.look n = if n ∈ M.ns then some ((lookV M.vs n).getD []) else none := by
  unfold WA.look Mn.abs
  dsimp only
  rw [List.find?_map]
  by_cases h : n ∈ M.ns
  · rw [if_pos h]
    have : M.ns.find? ((fun x : Nm × Nums => decide (x.1 = n)) ∘ fun n => (n, (lookV M.vs n).getD [])) = some n := by
      obtain ⟨x, e, _, ex⟩ := find_some (f := fun z : Nm => z) (b := n) (l := M.ns) (by rw [List.map_id']; exact h)
      rw [show ((fun x : Nm × Nums => decide (x.1 = n)) ∘ fun n => (n, (lookV M.vs n).getD [])) = fun z => decide (z = n) from rfl, e, ex]
    rw [this]
    rfl
  · rw [if_neg h]
    have : M.ns.find? ((fun x : Nm × Nums => decide (x.1 = n)) ∘ fun n => (n, (lookV M.vs n).getD [])) = none := by
      rw [List.find?_eq_none]
      intro x hx z
      exact h (by rw [← of_decide_eq_true z]; exact hx)
    rw [this]
    rfl
theorem MineAt.same {H H' : Hp} {mm : Addr} {M : Mn} (h : MineAt H mm M) (s : Same H H') : MineAt H' mm M := ⟨s _ _ h.at_, s _ _ h.lst, h.vals.same s, h.rows.same s, h.mb, h.rg, h.sub, h.nd⟩
theorem MineAt.lv {H : Hp} {mm : Addr} {M : Mn} (h : MineAt H mm M) {b : Addr} (hb : b ∈ ownV M.g M.vs) : b ≠ mm ∧ b ≠ M.b0 := by
  obtain ⟨kvs, e⟩ := h.vals.own_some hb
  exact ⟨ne_of e h.at_ (by intro z; cases z), ne_of e h.lst (by intro z; cases z)⟩
theorem MineAt.rv {H : Hp} {mm : Addr} {M : Mn} (h : MineAt H mm M) : M.r ≠ mm ∧ M.r ≠ M.b0 := ⟨ne_of h.rows.at_ h.at_ (by intro z; cases z), ne_of h.rows.at_ h.lst (by intro z; cases z)⟩
theorem MineAt.named {H : Hp} {mm : Addr} {M : Mn} {ns' : List Nm} (h : MineAt H mm M) (sub : ∀ n ∈ ns', n ∈ M.vs.map (·.1)) (nd : ns'.Nodup) :
    MineAt (upd H M.b0 (.lst (ns'.map fun z => .str (tx z)))) mm { M with ns := ns' } ∧ Step H (M.own mm) (upd H M.b0 (.lst (ns'.map fun z => .str (tx z)))) (Mn.own { M with ns := ns' } mm) := by
  have o1 : ∀ b, b ≠ M.b0 → ∀ o, H b = some o → upd H M.b0 (.lst (ns'.map fun z => .str (tx z))) b = some o := fun b hb o e => by
    rw [upd_ne hb]
    exact e
  refine ⟨⟨o1 _ h.mb _ h.at_, upd_same, ⟨o1 _ (h.lv List.mem_cons_self).2 _ h.vals.at_, fun x hx => o1 _ (h.lv (List.mem_cons_of_mem _ (List.mem_map.mpr ⟨x, hx, rfl⟩))).2 _ (h.vals.each x hx), h.vals.nd, h.vals.names⟩, h.rows.keep ?_ fun b xs e => o1 b (ne_of e h.lst (by intro z; cases z)) _ e, h.mb, h.rg, sub, nd⟩, Step.at (by unfold Mn.own; simp) h.lst (by intro xs z; cases z)⟩
  rw [h.rows.at_]
  exact o1 _ h.rv.2 _ h.rows.at_
end L2
set_option Elab.async false
set_option linter.all false
set_option maxRecDepth 100000
namespace L2
open PySem
theorem ite_both {A B : Prop} {c : Prop} [Decidable c] (h1 : c → A) (h2 : ¬ c → B) : if c then A else B := by
  by_cases h : c
  · rw [if_pos h]
    exact h1 h
  · rw [if_neg h]
    exact h2 h
theorem comp_word {K : PySem.W.Frag} {H1 : Hp} {r : Addr} {js : List Int} {fr : List Nat} {σ : St} {te : TE} {Q : VK} (h : SqL K H1 r (js.map V.int)) (hj : ∀ j ∈ js, 0 ≤ j ∧ j < 26) (hl : js.length ≤ 100)
    (he : ∀ j H2 Q2, rIxS (.str (tx abc)) (.int j) H2 Q2 → te (stB1 (.int j) fr σ) H2 Q2)
    (hQ : ∀ D H2, H1 D = none → Same H1 H2 → SqL K H2 D ((js.map fun j => [letC j]).map fun l => V.str (tx l)) → Q (.ref D) H2) : CompR (Itl K r) H1 fr σ tYes te Q := by
  refine comp_map (tells_list h) (fun j => .str (tx [letC j])) (sz_of (by omega)) (fun j H2 Q2 hm s k => he j H2 Q2 ?_) fun D H2 hD s d => hQ D H2 hD s (SqL.of (by rw [List.map_map]; exact d))
  obtain ⟨h0, h1⟩ := hj j hm
  refine rd_sign (by decide) h0 (by show j < 26; exact h1) fun c hc => ?_
  have e := let_at j
  rw [show j % 26 = j by omega] at e
  rw [e] at hc
  cases hc
  exact k _ (Same.refl _)
theorem word_flat (js : List Int) : (js.map fun j => [letC j]).flatten = js.map letC := by
  induction js with
  | nil => rfl
  | cons j r ih => simp [ih]
theorem word_sum (js : List Int) : ((js.map fun j => [letC j]).map List.length).sum = js.length := by
  induction js with
  | nil => rfl
  | cons j r ih =>
    simp only [List.map_cons, List.sum_cons, List.length_cons, List.length_nil] at ih ⊢
    omega
theorem word_abc (js : List Int) : ∀ x ∈ js.map letC, x ∈ abc := fun x hx => by
  obtain ⟨j, _, rfl⟩ := List.mem_map.mp hx
  exact List.mem_of_getElem? (let_at j)
theorem ixN_nat {n : Nat} {i : Int} (h0 : 0 ≤ i) (h1 : i < n) : ixN n i = some i.toNat := by
  unfold ixN
  rw [if_pos h0, if_pos h1]
end L2
namespace L2
open PySem PySem.Spec PyProof.Rows
section
set_option maxHeartbeats 4000000
variable {X : Cx}
def rCatK (K : PySem.W.Frag) : R2 := fun x y H Q => ∃ l b xs zs, x = .ref l ∧ y = .ref b ∧ SqL K H l xs ∧ SqL K H b zs ∧ xs.length + zs.length ≤ sizeLine ∧ ∀ p, H p = none → Q (.ref p) (upd H p (.lst (xs ++ zs)))
end
end L2
set_option Elab.async false
set_option linter.all false
set_option maxRecDepth 100000
set_option maxHeartbeats 4000000
namespace L2
open PySem PySem.Spec PyProof.Rows
section
variable {prog : Program} {w : World} {A : Around} {E : Value → Shared → Prop}
end
section
variable {X : Cx}
def rDictP (K : PySem.W.Frag) : List V → Hp → VK → Prop := fun xs H Q => ∃ (l : Addr) (ps : List (Addr × Key × V)), xs = [.ref l] ∧ H l = some (.lst (ps.map fun x => .ref x.1)) ∧ (∀ x ∈ ps, H x.1 = some (.tup [kV x.2.1, x.2.2])) ∧ ps.length ≤ 1000 ∧ ∀ d, H d = none → Q (.ref d) (upd H d (.dK (mergeK [] (ps.map (·.2)))))
end
end L2
set_option Elab.async false
set_option linter.all false
set_option maxRecDepth 100000
namespace L2
open PySem PySem.Spec PyProof.Rows
def Stay (H H' : Hp) : Prop := ∀ b o, (∀ zs, o ≠ HO.lst zs) → (∀ ob u, o ≠ HO.frz ob u) → H b = some o → H' b = some o
theorem Stay.list {H : Hp} {D : Addr} {zs ys : List V} (h : H D = some (.lst ys)) : Stay H (upd H D (.lst zs)) := fun b o h1 _ e => by
  rw [upd_ne (fun z => h1 ys (by rw [z, h] at e; exact (Option.some.inj e).symm))]
  exact e
def CopyP (H1 : Hp) (vals : List (Nm × Addr × Nums)) (i : Nat) (ys : List V) (H2 : Hp) : Prop := ∃ es : List (Addr × Addr), es.length = i ∧ ys = es.map (fun e => V.ref e.1) ∧
  (∀ (j : Nat) (e : Addr × Addr) (x : Nm × Addr × Nums), es[j]? = some e → vals[j]? = some x → H2 e.1 = some (.tup [.str (tx x.1), .ref e.2]) ∧ H2 e.2 = some (.dK (kvNums x.2.2))) ∧ (es.map (·.2)).Nodup ∧ ∀ e ∈ es, H1 e.2 = none
theorem CopyP.stay {H1 Ha Hb : Hp} {vals : List (Nm × Addr × Nums)} {i : Nat} {ys : List V} (st : Stay Ha Hb) (h : CopyP H1 vals i ys Ha) : CopyP H1 vals i ys Hb := by
  obtain ⟨es, l1, l2, l3, l4, l5⟩ := h
  exact ⟨es, l1, l2, fun j e x he hx => ⟨st _ _ (fun _ z => nomatch z) (fun _ _ z => nomatch z) (l3 j e x he hx).1, st _ _ (fun _ z => nomatch z) (fun _ _ z => nomatch z) (l3 j e x he hx).2⟩, l4, l5⟩
theorem CopyP.nil {H1 H2 : Hp} {vals : List (Nm × Addr × Nums)} : CopyP H1 vals 0 [] H2 := ⟨[], rfl, rfl, fun j e x he => (by cases he), List.nodup_nil, fun e he => (by cases he)⟩
theorem CopyP.len {H1 H2 : Hp} {vals : List (Nm × Addr × Nums)} {i : Nat} {ys : List V} (h : CopyP H1 vals i ys H2) : ys.length = i := by
  obtain ⟨es, l1, l2, _⟩ := h
  rw [l2, List.length_map, l1]
theorem CopyP.more {H1 H2 : Hp} {vals : List (Nm × Addr × Nums)} {i : Nat} {ys : List V} {x : Nm × Addr × Nums} {l p : Addr} (h : CopyP H1 vals i ys H2) (hx : vals[i]? = some x) (hl : H2 l = none) (hl1 : H1 l = none) (hp : upd H2 l (.dK (kvNums x.2.2)) p = none) :
    CopyP H1 vals (i + 1) (ys ++ [.ref p]) (upd (upd H2 l (.dK (kvNums x.2.2))) p (.tup [.str (tx x.1), .ref l])) ∧ Same H2 (upd (upd H2 l (.dK (kvNums x.2.2))) p (.tup [.str (tx x.1), .ref l])) := by
  have s1 := Same.new (o := .dK (kvNums x.2.2)) hl
  have s2 := Same.new (o := .tup [.str (tx x.1), .ref l]) hp
  have lp : l ≠ p := fun z => by
    rw [← z, upd_same] at hp
    cases hp
  obtain ⟨es, l1, l2, l3, l4, l5⟩ := h
  refine ⟨⟨es ++ [(p, l)], by rw [List.length_append, l1]; rfl, by rw [l2, List.map_append]; rfl, fun j e y he hy => ?_, ?_, fun e he => ?_⟩, s1.trans s2⟩
  · by_cases hj : j < es.length
    · rw [List.getElem?_append_left hj] at he
      exact ⟨s2 _ _ (s1 _ _ (l3 j e y he hy).1), s2 _ _ (s1 _ _ (l3 j e y he hy).2)⟩
    · rw [List.getElem?_append_right (by omega)] at he
      have : j = i := by
        obtain ⟨z, _⟩ := List.getElem?_eq_some_iff.mp he
        simp only [List.length_cons, List.length_nil] at z
        omega
      subst this
      rw [hx] at hy
      cases hy
      rw [← l1, Nat.sub_self] at he
      cases he
      exact ⟨upd_same, (upd_ne lp).trans upd_same⟩
  · rw [List.map_append, List.nodup_append]
    refine ⟨l4, by simp, fun a ha b hb z => ?_⟩
    have : b = l := by simpa using hb
    obtain ⟨e, he, rfl⟩ := List.mem_map.mp ha
    obtain ⟨j, hj⟩ := List.mem_iff_getElem?.mp he
    have jl : j < es.length := (List.getElem?_eq_some_iff.mp hj).1
    have iv := (List.getElem?_eq_some_iff.mp hx).1
    have := (l3 j e vals[j] hj (by simp)).2
    rw [z, ‹b = l›, hl] at this
    cases this
  · rcases List.mem_append.mp he with h | h
    · exact l5 e h
    · rw [List.mem_singleton.mp h]
      exact hl1
def copyV (es : List (Addr × Addr)) (vals : List (Nm × Addr × Nums)) : List (Nm × Addr × Nums) := (es.zip vals).map fun z => (z.2.1, z.1.2, z.2.2.2)
theorem for_dict_inv {X : Cx} {te : TE} {g : TG} {tb : TS} {D : Ends} {σ : St} {H : Hp} {d : Addr} {kvs : List (Key × V)} (hte : ∀ R : VK, R (.ref d) H → te σ H R) (hd : H d = some (.dK kvs)) (Pv : Nat → St → Hp → Prop) (h0 : ∀ ob, Pv 0 σ (upd H d (.frz ob (.dK kvs))))
    (hs : ∀ (i : Nat) (k : Key) (σ : St) (H2 : Hp) (N : St → Hp → Prop) (R : V → Hp → Prop) (B : St → Hp → Prop), (kvs.map (·.1))[i]? = some k → Pv i σ H2 → Rd H2 d (.dK kvs) → (∃ ob, H2 d = some (.frz ob (.dK kvs))) → (∀ σ' H', Pv (i + 1) σ' H' → H' d = H2 d → N σ' H') → g (kV k) σ H2 fun σ2 H3 => tb ⟨N, R, B, N⟩ σ2 H3)
    (hx : ∀ σ' H2, Pv kvs.length σ' H2 → (∃ ob, H2 d = some (.frz ob (.dK kvs))) → D.nx σ' (upd H2 d (.dK kvs))) : tForD X te g tb D σ H := by
  refine hte _ ⟨d, kvs, rfl, hd, fun ob nf => ?_⟩
  refine ⟨fun i m σ H2 => m = kvs.length - i ∧ i ≤ kvs.length ∧ Pv i σ H2 ∧ H2 d = some (.frz ob (.dK kvs)), ⟨_, rfl, Nat.zero_le _, h0 ob, upd_same⟩, ?_⟩
  rintro i m σ H2 ⟨rfl, hi, p, f2⟩
  by_cases hlt : i < kvs.length
  · refine .inr ⟨⟨hlt, f2⟩, fun σ' H' => Pv (i + 1) σ' H' ∧ H' d = some (.frz ob (.dK kvs)), fun σ' H' p' => ⟨kvs.length - (i + 1), by omega, rfl, hlt, p'.1, p'.2⟩, fun x H3 y => ?_⟩
    obtain ⟨rfl, hx'⟩ := y
    have hk : (kvs.map (·.1))[i]? = some kvs[i].1 := by simp [hlt]
    have ex : x = kV kvs[i].1 := by
      rw [List.getElem?_map, List.getElem?_eq_getElem hlt] at hx'
      exact (Option.some.inj hx').symm
    rw [ex]
    exact hs i _ σ H3 _ _ _ hk p (.inr ⟨ob, f2⟩) ⟨ob, f2⟩ fun σ' H' p' e => ⟨p', e.trans f2⟩
  · have e : i = kvs.length := by omega
    subst e
    exact .inl ⟨⟨rfl, f2⟩, d, ob, kvs, nf, f2, hx σ H2 p ⟨ob, f2⟩⟩
end L2
set_option Elab.async false
set_option linter.all false
set_option maxRecDepth 100000
namespace L2
open PySem PySem.Spec PyProof.Rows
section
variable {X : Cx}
theorem call_any (hc : X.calm = true) : CallR X (.builtin "any") (fun xs H Q => ∃ (p : Addr) (bs : List Bool), xs = [.ref p] ∧ SqL X.K H p (bs.map V.bl) ∧ Q (.bl (bs.any id)) H) := by
  intro pins s σ H xs us Q I r h
  obtain ⟨p, bs, rfl, hq, q⟩ := h
  obtain ⟨u, rfl, ru⟩ := r.one
  cases ru
  obtain ⟨its, r, pl, _⟩ := I.list hq
  have hb := boolsAre_of r
  obtain ⟨o, n, e, hcl, _, hd⟩ := id pl
  have hlt : p < s.heap.objs.size := Heap.lt_size e
  refine call_any_walk (wpAny_pyIter_list pl.isList ?_)
  refine ⟨s.heap.objs.size, [s.heap.objs.size, p], [s.heap.objs.size], its.toArray.size, _, _, fun i => (bs[i]?).getD false, rfl, Walks.list (A := X.A.in1) (I.ok.hd hc) _ p (Nat.ne_of_lt hlt) its.toArray,
    ⟨⟨_, Heap.get?_push_size _ rfl, rfl, rfl⟩, pl.isList.push _⟩, fun i v s' Q' E' hP hQ => ?_, fun h' tk hk => ?_⟩
  · obtain ⟨b, e, rfl⟩ := hb.get i v (by simpa using hP)
    simp only [e, Option.getD_some] at hQ
    exact wpAny_truthy_bool hQ
  · have e : ((List.range its.toArray.size).any fun i => (bs[i]?).getD false) = bs.any id := by
      rw [List.size_toArray, hb.length]
      exact LSm.range_any bs
    rw [e]
    exact ⟨.bl _, H, I.kept (fun b o e => hk b o (fun z => by rw [List.mem_singleton.mp z] at e; exact Nat.lt_irrefl _ (Heap.lt_size e)) (Heap.get?_push_of_some _ e)), rfl, q⟩
end
def Itv (K : PySem.W.Frag) (a : Addr) (xs : List V) : It := ⟨fun i H => i < xs.length ∧ SqL K H a xs, fun i H x H' => H' = H ∧ xs.reverse[i]? = some x, fun i H => i = xs.length ∧ SqL K H a xs⟩
theorem turn_rev {P : Program} {w : World} {K : PySem.W.Frag} {tg : Expr} (a it : Addr) (xs : List V) : Turn P w K tg (Itv K a xs) [it] it (fun i h => i ≤ xs.length ∧ h.IsRevIter it a ((xs.length : Int) - 1 - (i : Int))) where
  mem := by simp
  obj := fun i h st b hb => by
    have e : b = it := by simpa using hb
    subst e
    obtain ⟨_, o, e, c, d⟩ := st
    exact ⟨o, e, fun v z => by rw [d] at z; cases z⟩
  keep := fun i h h' st k => ⟨st.1, st.2.at fun o e => k it (by simp) o e⟩
  item := by
    intro X hP hw hK hc i pins s σ H E I hf st hg
    subst hP hw hK
    obtain ⟨hlt, hq⟩ := hg
    obtain ⟨its, rv, p, hz⟩ := I.list hq
    have hl := rv.length
    have ej : (xs.length : Int) - 1 - (i : Int) = ((xs.length - 1 - i : Nat) : Int) := by omega
    have hx : xs[xs.length - 1 - i]? = some (xs[xs.length - 1 - i]'(by omega)) := by simp
    obtain ⟨u, hu, ru⟩ := rv.get hx
    obtain ⟨f0, f1, f2, f3, f4, f5⟩ := hf it (by simp)
    have st2 := st.2
    rw [ej] at st2
    refine wpAny_pyNext_rev_item st2 p.isList (x := u) (by simpa using hu) fun h' st' sb => ?_
    have I1 : Inv X pins σ H { s with heap := h' } := I.turned (t' := s.toks) (fun b o hb e => (sb.2 b hb).trans e) f0 f1 f3 f4 f5
    have ek : ((xs.length - 1 - i : Nat) : Int) - 1 = (xs.length : Int) - 1 - ((i + 1 : Nat) : Int) := by omega
    rw [ek] at st'
    obtain ⟨o, e, c, d⟩ := id st'
    refine ⟨u, rfl, go_of (s := { s with heap := h' }) e c d (by decide) ⟨_, H, I1, ru, ⟨rfl, ?_⟩, ⟨hlt, st'⟩, fun b hb => (hf b hb).1⟩⟩
    rw [List.getElem?_reverse hlt]
    exact hx
  done := by
    intro X hP hw hK hc i pins s σ H E I hf st hg
    subst hP hw hK
    obtain ⟨rfl, hq⟩ := hg
    obtain ⟨f0, f1, f2, f3, f4, f5⟩ := hf it (by simp)
    have st2 := st.2
    rw [show (xs.length : Int) - 1 - (xs.length : Int) = -1 by omega] at st2
    exact wpAny_pyNext_rev_end (I.ok.hd hc) st2 fun h' eb => ⟨rfl, I.turned (t' := s.toks) (fun b o hb e => eb b o hb e) f0 f1 f3 f4 f5⟩
  self := fun _ _ _ _ _ st h => wpAny_pyIter_revIter st.2 h
def iRev (K : PySem.W.Frag) (ta : TA) : TI := fun σ H R => ta σ H fun vs H1 => ∃ a xs, vs = [.ref a] ∧ SqL K H1 a xs ∧ R (Itv K a xs) H1
section
variable {X : Cx} {tg : Expr}
theorem pi_rev {a : Expr} {ta : TA} {p pos : Pos} (hg : Gl X "reversed") (hm : X.mg "reversed" = none) (ha : PA X [a] ta) (hs : starEach [a] X.env = [(false, eval a X.env)] := by rfl) : PI X tg (.Call (.Name "reversed" p) [a] [] pos) (iRev X.K ta) := by
  intro pins s σ H R I h
  refine Call_ (ld_blt I hg hm boot_reversed (PyProof.Rows.callWith_type1 (thn (ha pos pins s σ H _ I h) fun us s1 ⟨vs, H1, I1, r1, q1⟩ => ?_) hs rfl))
  obtain ⟨b, xs, rfl, hq, q⟩ := q1
  obtain ⟨u, rfl, ru⟩ := r1.one
  cases ru
  obtain ⟨its, rv, pl, hz⟩ := I1.list hq
  have hl := rv.length
  refine call_reversed_list pl.isList ?_
  have new : (s1.heap.push (revObj b ((its.toArray.size : Int) - 1))).IsRevIter s1.heap.objs.size b ((xs.length : Int) - 1 - ((0 : Nat) : Int)) := by
    refine ⟨_, Heap.get?_push_size _ rfl, rfl, ?_⟩
    unfold revObj
    rw [List.size_toArray, ← hl]
    simp
  refine wpAny_pyIter_revIter new ?_
  refine ⟨s1.heap.objs.size, [s1.heap.objs.size], _, _, H1, rfl, I1.kept (t' := s1.toks) fun b o e => Heap.get?_push_of_some _ e, turn_rev b _ xs, ⟨Nat.zero_le _, new⟩, fun c hb => ?_, q⟩
  have e : c = s1.heap.objs.size := by simpa using hb
  subst e
  exact I1.fpOk (Nat.le_refl _) (I1.hok.fresh (Nat.le_refl _))
theorem bpi_rev {a : Expr} {ta : TA} {p pos : Pos} (hg : Gl X "reversed") (hm : X.mg "reversed" = none) (ha : Bx (PA X [a] ta)) (hs : starEach [a] X.env = [(false, eval a X.env)] := by rfl) : Bx (PI X tg (.Call (.Name "reversed" p) [a] [] pos) (iRev X.K ta)) := ⟨pi_rev hg hm ha.un hs⟩
end
theorem for_rev {K : PySem.W.Frag} {a : Addr} {xs : List V} {g : TG} {tb : TS} {D : Ends} {σ : St} {H : Hp} (Pv : Nat → St → Hp → Prop) (h0 : Pv 0 σ H) (hl : ∀ i σ H, i ≤ xs.length → Pv i σ H → SqL K H a xs)
    (hs : ∀ i x σ H, xs.reverse[i]? = some x → Pv i σ H → g x σ H fun σ2 H2 => tb { D with nx := Pv (i + 1), ct := Pv (i + 1), bk := D.nx } σ2 H2) (hd : ∀ σ H, Pv xs.length σ H → D.nx σ H) :
    ∃ W : Nat → Nat → St → Hp → Prop, (∃ m, W 0 m σ H) ∧ ∀ i m σ H, W i m σ H →
      ((Itv K a xs).stop i H ∧ D.nx σ H) ∨ ((Itv K a xs).go i H ∧ ∃ N : St → Hp → Prop, (∀ σ' H', N σ' H' → ∃ m', m' < m ∧ W (i + 1) m' σ' H') ∧ ∀ x H', (Itv K a xs).yld i H x H' → g x σ H' fun σ2 H2 => tb { D with nx := N, ct := N, bk := D.nx } σ2 H2) := by
  refine ⟨fun i m σ H => m = xs.length - i ∧ i ≤ xs.length ∧ Pv i σ H, ⟨xs.length, by simp, Nat.zero_le _, h0⟩, ?_⟩
  rintro i m σ H ⟨rfl, hi, p⟩
  have q := hl i σ H hi p
  by_cases hlt : i < xs.length
  · refine .inr ⟨⟨hlt, q⟩, Pv (i + 1), fun σ' H' p' => ⟨xs.length - (i + 1), by omega, rfl, hlt, p'⟩, fun x H' y => ?_⟩
    obtain ⟨rfl, y⟩ := y
    exact hs i x σ _ y p
  · have e : i = xs.length := by omega
    subst e
    exact .inl ⟨⟨rfl, q⟩, hd σ H p⟩
section
variable {X : Cx}
theorem vals_of_ints : ∀ {us : List Value} {ns : List Int}, IntsAre us ns → Vals (ns.map V.int) us
  | _, _, .nil => .nil
  | _, _, .cons _ _ h => .cons ⟨_, rfl⟩ (vals_of_ints h)
theorem call_sorted_int (hc : X.calm = true) : CallR X (.builtin "sorted") (fun xs H Q => ∃ (d : Addr) (kvs : List (Key × V)) (ns : List Int), xs = [.ref d] ∧ Rd H d (.dK kvs) ∧ kvs.map (·.1) = ns.map Sum.inl ∧ ns.length < 64 ∧ ∀ (l : Addr) (out : List Int), H l = none → out.Perm ns → out.Pairwise (· ≤ ·) → Q (.ref l) (upd H l (.lst (out.map V.int)))) := by
  intro pins s σ H xs us Q I r h
  obtain ⟨d, kvs, ns, rfl, hd, hk, h64, q⟩ := h
  obtain ⟨u, rfl, ru⟩ := r.one
  cases ru
  obtain ⟨hz, hsm, vs, rel, dd⟩ := dk_rd I.hok hd
  obtain ⟨ep, da⟩ := dd.dictAt
  have hl : kvs.length = vs.length := rel.length
  refine Calls.call_function_entry kind_sorted plain_sorted entry_sorted (args_sorted1 _) ?_
  unfold Builtin.«sorted»
  refine wpAny_bind (m := checkCount "sorted" 1 1 _) (wpAny_pure ?_)
  refine wpAny_bind (PySem.W.kdu_collect (PySem.W.kdl_dict hsm) (I.ok.hd hc) da (by omega) fun h' tk acc kp hacc => ?_)
  have hlen : acc.toList.length = kvs.length := by rw [Array.length_toList, hacc.1, hl]
  have hvals : Vals (kvs.map fun kv => kV kv.1) acc.toList := by
    have key : ∀ (ks : List Key) (us : List Value), ks.length = us.length → (∀ (j : Nat) (k : Key) (v : Value), ks[j]? = some k → us[j]? = some v → (mixKind X.prog X.w).is k v = true) → Vals (ks.map kV) us := by
      intro ks
      induction ks with
      | nil =>
        intro us e _
        cases us with
        | nil => exact .nil
        | cons _ _ => cases e
      | cons k ks ih =>
        intro us e h
        cases us with
        | nil => cases e
        | cons u us => exact .cons (key_rel (h 0 k u rfl rfl)) (ih us (by simpa using e) fun j k' v e1 e2 => h (j + 1) k' v e1 e2)
    have := key (kvs.map (·.1)) acc.toList (by rw [List.length_map, hlen]) fun j k v e1 e2 => by
      obtain ⟨k', x, e3, e4⟩ := hacc.2 j v (by rw [← Array.getElem?_toList]; exact e2)
      rw [rel.keys, List.getElem?_map, e3] at e1
      cases e1
      exact e4
    rw [List.map_map] at this
    exact this
  have ek : (kvs.map fun kv => kV kv.1) = ns.map V.int := by
    have := congrArg (List.map kV) hk
    rw [List.map_map, List.map_map] at this
    exact this
  rw [ek] at hvals
  have ia : IntsAre acc.toList ns := intsAre_of hvals
  have nl : ns.length = kvs.length := by
    have := congrArg List.length hk
    rw [List.length_map, List.length_map] at this
    exact this.symm
  generalize acc.toList = as at *
  refine wpAny_bind (wpAny_newList ?_ (by rw [hlen]; exact hz))
  have hoL : (h'.push (seqObj "list" as.toArray 0)).get? h'.objs.size = some (seqObj "list" as.toArray 0) := Heap.get?_push_size _ rfl
  refine wpAny_bind (wpAny_holding (wpAny_call_entry slot_list_sort ⟨_, hoL, rfl⟩ entry_list_sort (sort_shell (R := fun out => ∃ ns', IntsAre out.toList ns' ∧ ns'.Perm ns ∧ ns'.Pairwise (· ≤ ·)) hoL (by rw [hlen]; exact hz) (fun out ⟨ns', i1, i2, _⟩ => ?_) (fun few => ⟨ns, ia, .refl _, ?_⟩) (fun h2 z _ => ?_) fun out h2 c e kp2 g2 => ⟨_, rfl, ?_⟩) (args_list_sort _)))
  · have := i1.length
    rw [Array.length_toList] at this
    rw [this, i2.length_eq, ← ia.length]
  · have := ia.length
    match ns, this with
    | [], _ => exact .nil
    | [x], _ => simp
    | x :: y :: r, h => simp only [List.length_cons] at h; omega
  · have ps : (pairsOf as).size = as.length := pairsOf_size as
    refine ⟨oneType', ?_, ?_⟩
    · match as, h2, ia with
      | v1 :: v2 :: r2, _, ia =>
        rw [keyKind_ints ia]
        exact wpAny_pure ⟨rfl, rfl⟩
    · refine wpS_sortRuns (a₀ := pairsOf as) ia.intKeys ⟨.refl _, rfl, rfl, rfl⟩ (by rw [ps]; exact h2) (by rw [ps, ia.length]; exact h64) fun st' a1 a2 a3 => ⟨a2, ?_⟩
      obtain ⟨ns', b1, b2, b3⟩ := sorted_out ia a1 a3
      exact ⟨ns', b1, b2, b3⟩
  · obtain ⟨ns', i1, i2, i3⟩ := e
    have I' := I.kept (t' := tk) kp
    refine wpAny_pure ⟨_, rfl, .ref h'.objs.size, _, I'.laid (a := h'.objs.size) (o := .lst (ns'.map V.int)) (t' := tk) (fun b u e => kp2 b u (Nat.ne_of_lt (Heap.lt_size e)) (Heap.get?_push_of_some _ e)) (Nat.le_refl _) ?_, rfl, q _ ns' (I'.hok.fresh (Nat.le_refl _)) i2 i3⟩
    refine ⟨by rw [List.length_map, i2.length_eq, nl]; exact hz, out.toList, c, ?_, by simpa using g2⟩
    exact vals_of_ints i1
end
section
variable {X : Cx}
def rEqN (K : PySem.W.Frag) : R2 := fun x y H Q => ∃ (a b : Addr) (ns ms : List Int), x = .ref a ∧ y = .ref b ∧ SqL K H a (ns.map V.int) ∧ SqL K H b (ms.map V.int) ∧ Q (.bl (decide (ns = ms))) H
theorem op_eqN (hu : X.A.units + 64 < cLine) : OpR X (compareOp .Eq) (rEqN X.K) := by
  rintro pins s σ H x y v u Q I rx ry ⟨a, b, ns, ms, rfl, rfl, ha, hb, q⟩
  cases rx
  cases ry
  obtain ⟨vs, r1, p1, _⟩ := I.list ha
  obtain ⟨us, r2, p2, _⟩ := I.list hb
  exact PySem.W.eq_intsK p1.isList (intsAre_of r1) p2.isList (intsAre_of r2) hu ⟨.bl _, H, I, rfl, q⟩
variable {pos : Pos}
theorem bpgs_nil : Bx (PGs X [] gNil) := ⟨pgs_nil⟩
theorem bpgs_cons {e : Expr} {es : List Expr} {t : TG} {u : TGs} (h1 : Bx (PG X e t)) (h2 : Bx (PGs X es u)) (hs : (assignEach (e :: es) X.env).map (·.2) = assign e X.env :: (assignEach es X.env).map (·.2) := by rfl) : Bx (PGs X (e :: es) (gCons t u)) := ⟨pgs_cons h1.un h2.un hs⟩
theorem bpg_tup {es : List Expr} {k : Nat} {t : TGs} {n : Nat} (hc : X.calm = true) (h : Bx (PGs X es t)) (hn : (assignEach es X.env).length = n := by rfl) (hst : (assignEach es X.env).findIdx? (·.1) = none := by rfl) : Bx (PG X (.Tuple es k pos) (gTup X.K n t)) := ⟨pg_tup hc h.un hn hst⟩
theorem bpps_nil : Bx (PPs X pos [] [] []) := ⟨pps_nil⟩
theorem bpps_cons {k v : Expr} {ks : List (Option Expr)} {vs : List Expr} {tk tv : TE} {trs : List (TE × TE)} (hk : Bx (PE X k tk)) (hv : Bx (PE X v tv)) (hr : Bx (PPs X pos ks vs trs)) : Bx (PPs X pos (some k :: ks) (v :: vs) ((tk, tv) :: trs)) := ⟨pps_cons hk.un hv.un hr.un⟩
theorem bpe_disp {keys : List (Option Expr)} {values : List Expr} {trs : List (TE × TE)} (h : Bx (PPs X pos keys values trs)) (hall : keys.all (·.isSome) = true) (hl : keys.length = values.length) (h0 : keys ≠ []) (h15 : keys.length ≤ 15) : Bx (PE X (.Dict keys values pos) (tDisp trs)) := ⟨pe_disp h.un hall hl h0 h15⟩
end
theorem op_in_seqK {X : Cx} (K : PySem.W.Frag) (h : X.K = K := by rfl) : OpR X (compareOp .In) (rIn K false) := h ▸ op_in_seq
theorem call_list_ofK {X : Cx} (K : PySem.W.Frag) (h : X.K = K := by rfl) : CallR X (.type "list") (fun xs H Q => ∃ p ys, xs = [.ref p] ∧ (SqL K H p ys ∨ SqT K H p ys) ∧ ∀ l, H l = none → Q (.ref l) (upd H l (.lst ys))) := h ▸ call_list_of
end L2
set_option Elab.async false
set_option linter.all false
set_option maxRecDepth 100000
namespace L2
open PySem PySem.Spec PyProof.Rows
structure Stp where
  nm : List Nat
  wt : Int
  back : Bool
def stV (s : Stp) : List V := [.str (tx s.nm), .int s.wt, .bl s.back]
def meetC (w : Int) (sg : List Nat) (n : Int) : Bool := if sg = [60] then decide (w < n) else if sg = [62] then decide (w > n) else if sg = [61] then decide (w = n) else if sg = [33] then !decide (w = n) else true
def fitC (m : Mrk) (s : Stp) : Bool := decide (s.back = m.back) && (decide (m.nm = [95]) || decide (m.nm = s.nm)) && meetC s.wt m.sg m.num
structure Mch where
  mks : List Mrk
  fol : List (List Int)
  ends : List Bool
structure MchOk (m : Mch) : Prop where
  lf : m.fol.length = m.mks.length + 1
  le : m.ends.length = m.mks.length + 1
  rng : ∀ l ∈ m.fol, ∀ r ∈ l, 1 ≤ r ∧ r ≤ m.mks.length
  few : m.mks.length ≤ 24
  short : ∀ l ∈ m.fol, l.length ≤ 100
def MksAt (H : Hp) (a : Addr) (ms : List Mrk) : Prop := ∃ as : List Addr, H a = some (.lst (as.map V.ref)) ∧ All2 (fun x k => H x = some (.tup (mkV k)) ∧ MrkW k) as ms
def FolAt (H : Hp) (a : Addr) (fs : List (List Int)) : Prop := ∃ as : List Addr, H a = some (.lst (as.map V.ref)) ∧ All2 (fun x l => H x = some (.lst (l.map V.int))) as fs
def EndsAt (H : Hp) (a : Addr) (bs : List Bool) : Prop := H a = some (.lst (bs.map V.bl))
def StepsAt (H : Hp) (a : Addr) (ss : List Stp) : Prop := ∃ as : List Addr, H a = some (.lst (as.map V.ref)) ∧ All2 (fun x s => H x = some (.tup (stV s)) ∧ okT s.nm) as ss
theorem MksAt.same {H H' : Hp} {a : Addr} {ms : List Mrk} (h : MksAt H a ms) (s : Same H H') : MksAt H' a ms := by
  obtain ⟨as, e, al⟩ := h
  exact ⟨as, s _ _ e, al.imp fun _ _ r => ⟨s _ _ r.1, r.2⟩⟩
theorem FolAt.same {H H' : Hp} {a : Addr} {fs : List (List Int)} (h : FolAt H a fs) (s : Same H H') : FolAt H' a fs := by
  obtain ⟨as, e, al⟩ := h
  exact ⟨as, s _ _ e, al.imp fun _ _ r => s _ _ r⟩
theorem StepsAt.same {H H' : Hp} {a : Addr} {ss : List Stp} (h : StepsAt H a ss) (s : Same H H') : StepsAt H' a ss := by
  obtain ⟨as, e, al⟩ := h
  exact ⟨as, s _ _ e, al.imp fun _ _ r => ⟨s _ _ r.1, r.2⟩⟩
structure MchAt (H : Hp) (a : Addr) (m : Mch) : Prop where
  at_ : ∃ x y z, H a = some (.tup [.ref x, .ref y, .ref z]) ∧ MksAt H x m.mks ∧ FolAt H y m.fol ∧ EndsAt H z m.ends
theorem MchAt.same {H H' : Hp} {a : Addr} {m : Mch} (h : MchAt H a m) (s : Same H H') : MchAt H' a m := by
  obtain ⟨x, y, z, e, h1, h2, h3⟩ := h.at_
  exact ⟨x, y, z, s _ _ e, h1.same s, h2.same s, s _ _ h3⟩
def folOf (m : Mch) (r : Int) : List Int := (m.fol[r.toNat]?).getD []
def fitO (m : Mch) (s : Stp) (o : Int) : Bool := match m.mks[(o - 1).toNat]? with | some k => fitC k s | none => false
def Goes (m : Mch) (s : Stp) (r o : Int) : Prop := o ∈ folOf m r ∧ fitO m s o = true
def endC (m : Mch) (r : Int) : Bool := (m.ends[r.toNat]?).getD false
theorem folOf_rng {m : Mch} (ok : MchOk m) {r o : Int} (h : o ∈ folOf m r) : 1 ≤ o ∧ o ≤ m.mks.length := by
  unfold folOf at h
  cases q : m.fol[r.toNat]? with
  | none =>
    rw [q] at h
    cases h
  | some l =>
    rw [q] at h
    exact ok.rng l (List.mem_of_getElem? q) o h
def kvI (ks : List (Int × Int)) : List (Key × V) := ks.map fun p => (.inl p.1, .int p.2)
structure Led (m : Mch) (s : Stp) (prev : List Int) (ks : List (Int × Int)) : Prop where
  nd : (ks.map (·.1)).Nodup
  from_ : ∀ p ∈ ks, p.2 ∈ prev ∧ Goes m s p.2 p.1
  all : ∀ r ∈ prev, ∀ o, Goes m s r o → o ∈ ks.map (·.1)
def roomsC (m : Mch) : List Int := (List.range m.mks.length).map fun (k : Nat) => 1 + (k : Int)
def nextC (m : Mch) (s : Stp) (here : List Int) : List Int := (roomsC m).filter fun r => here.any (fun old => decide (r ∈ folOf m old)) && fitO m s r
def walkC (m : Mch) : List Int → List Stp → List Int
  | here, [] => here
  | here, s :: r => walkC m (nextC m s here) r
theorem walkC_snoc (m : Mch) (s : Stp) : ∀ (ss : List Stp) (here : List Int), walkC m here (ss ++ [s]) = nextC m s (walkC m here ss)
  | [], _ => rfl
  | t :: r, here => walkC_snoc m s r (nextC m t here)
theorem mem_rooms {m : Mch} {r : Int} : r ∈ roomsC m ↔ 1 ≤ r ∧ r ≤ m.mks.length := by
  unfold roomsC
  rw [List.mem_map]
  constructor
  · rintro ⟨k, hk, rfl⟩
    have := List.mem_range.mp hk
    omega
  · rintro ⟨h1, h2⟩
    exact ⟨(r - 1).toNat, List.mem_range.mpr (by omega), by omega⟩
theorem rooms_up (m : Mch) : (roomsC m).Pairwise (· < ·) := by
  unfold roomsC
  rw [List.pairwise_map]
  exact List.pairwise_lt_range.imp fun h => by omega
theorem mem_next {m : Mch} (ok : MchOk m) {s : Stp} {here : List Int} {o : Int} : o ∈ nextC m s here ↔ ∃ r ∈ here, Goes m s r o := by
  unfold nextC
  rw [List.mem_filter, Bool.and_eq_true, List.any_eq_true]
  constructor
  · rintro ⟨_, ⟨r, hr, h1⟩, h2⟩
    exact ⟨r, hr, of_decide_eq_true h1, h2⟩
  · rintro ⟨r, hr, h1, h2⟩
    exact ⟨mem_rooms.mpr (folOf_rng ok h1), ⟨r, hr, decide_eq_true h1⟩, h2⟩
theorem next_up (m : Mch) (s : Stp) (here : List Int) : (nextC m s here).Pairwise (· < ·) := (rooms_up m).filter _
theorem walk_up (m : Mch) : ∀ (ss : List Stp) (here : List Int), here.Pairwise (· < ·) → (walkC m here ss).Pairwise (· < ·)
  | [], _, h => h
  | s :: r, here, _ => walk_up m r _ (next_up m s here)
theorem next_rng {m : Mch} {s : Stp} {here : List Int} {o : Int} (h : o ∈ nextC m s here) : 0 ≤ o ∧ o ≤ m.mks.length := by
  unfold nextC at h
  have := mem_rooms.mp (List.mem_filter.mp h).1
  omega
theorem walk_rng {m : Mch} : ∀ {ss : List Stp} {here : List Int}, (∀ o ∈ here, 0 ≤ o ∧ o ≤ m.mks.length) → ∀ o ∈ walkC m here ss, 0 ≤ o ∧ o ≤ m.mks.length
  | [], _, h => h
  | s :: r, here, _ => fun o ho => walk_rng (ss := r) (here := nextC m s here) (fun _ hx => next_rng hx) o ho
theorem up_eq : ∀ {l l' : List Int}, l.Pairwise (· < ·) → l'.Pairwise (· < ·) → (∀ x, x ∈ l ↔ x ∈ l') → l = l'
  | [], [], _, _, _ => rfl
  | [], y :: r, _, _, h => absurd ((h y).mpr (by simp)) (by simp)
  | x :: r, [], _, _, h => absurd ((h x).mp (by simp)) (by simp)
  | x :: r, y :: r', p, p', h => by
    have h1 := List.pairwise_cons.mp p
    have h2 := List.pairwise_cons.mp p'
    have e : x = y := by
      rcases List.mem_cons.mp ((h x).mp (by simp)) with z | z
      · exact z
      · rcases List.mem_cons.mp ((h y).mpr (by simp)) with w | w
        · exact w.symm
        · have := h1.1 y w
          have := h2.1 x z
          omega
    subst e
    congr 1
    refine up_eq h1.2 h2.2 fun z => ⟨fun hz => ?_, fun hz => ?_⟩
    · rcases List.mem_cons.mp ((h z).mp (List.mem_cons_of_mem _ hz)) with w | w
      · have := h1.1 z hz
        omega
      · exact w
    · rcases List.mem_cons.mp ((h z).mpr (List.mem_cons_of_mem _ hz)) with w | w
      · have := h2.1 z hz
        omega
      · exact w
structure Lays (m : Mch) (ss : List Stp) (lays : List (List (Int × Int))) : Prop where
  len : lays.length = ss.length + 1
  first : lays[0]? = some [(0, 0)]
  led : ∀ (i : Nat) (s : Stp) (p n : List (Int × Int)), ss[i]? = some s → lays[i]? = some p → lays[i + 1]? = some n → Led m s (p.map (·.1)) n
theorem Lays.take {m : Mch} {ss : List Stp} {lays : List (List (Int × Int))} (h : Lays m ss lays) : ∀ (i : Nat) (ks : List (Int × Int)), lays[i]? = some ks → MchOk m → ∀ o, o ∈ ks.map (·.1) ↔ o ∈ walkC m [0] (ss.take i)
  | 0, ks, hk, _, o => by
    rw [h.first] at hk
    cases hk
    simp [walkC]
  | i + 1, ks, hk, ok, o => by
    have il : i + 1 < lays.length := (List.getElem?_eq_some_iff.mp hk).1
    have is : i < ss.length := by rw [h.len] at il; omega
    have e1 : ss[i]? = some ss[i] := by simp
    have e2 : lays[i]? = some (lays[i]'(by omega)) := by simp
    have led := h.led i _ _ _ e1 e2 hk
    have ih := h.take i _ e2 ok
    rw [take_get e1, walkC_snoc, mem_next ok]
    constructor
    · intro ho
      obtain ⟨p, hp, rfl⟩ := List.mem_map.mp ho
      obtain ⟨f1, f2⟩ := led.from_ p hp
      exact ⟨p.2, (ih _).mp f1, f2⟩
    · rintro ⟨r, hr, g⟩
      exact led.all r ((ih _).mpr hr) o g
def chainC (m : Mch) : Int → List Stp → List Int → Prop
  | old, [], [] => endC m old = true
  | old, s :: ss, r :: rs => Goes m s old r ∧ chainC m r ss rs
  | _, _, _ => False
theorem zip_ref {β : Type} : ∀ {as : List Addr} {bs : List β}, as.length = bs.length → (as.zip bs).map (fun c => V.ref c.1) = as.map V.ref
  | [], [], _ => rfl
  | [], _ :: _, h => by cases h
  | _ :: _, [], h => by cases h
  | a :: as, b :: bs, h => by
    rw [List.zip_cons_cons, List.map_cons, List.map_cons, zip_ref (by simpa using h)]
theorem zip_val {β γ : Type} {f : β → γ} : ∀ {as : List Addr} {bs : List β}, as.length = bs.length → (as.zip bs).map (fun c => f c.2) = bs.map f
  | [], [], _ => rfl
  | [], _ :: _, h => by cases h
  | _ :: _, [], h => by cases h
  | a :: as, b :: bs, h => by
    rw [List.zip_cons_cons, List.map_cons, List.map_cons, zip_val (by simpa using h)]
def putI (ks : List (Int × Int)) (o r : Int) : List (Int × Int) := if (ks.any fun p => decide (p.1 = o)) = true then ks.map (fun p => if p.1 = o then (p.1, r) else p) else ks ++ [(o, r)]
theorem putK_I (ks : List (Int × Int)) (o r : Int) : putK (kvI ks) (.inl o) (.int r) = kvI (putI ks o r) := by
  have e : ((kvI ks).any fun kv => decide (kv.1 = Sum.inl o)) = ks.any fun p => decide (p.1 = o) := by
    unfold kvI
    rw [List.any_map]
    congr 1
    funext p
    simp
  unfold putK putI
  rw [e]
  split
  · unfold kvI
    rw [List.map_map, List.map_map]
    refine List.map_congr_left fun p _ => ?_
    dsimp only [Function.comp]
    by_cases h : p.1 = o
    · rw [if_pos (by rw [h]), if_pos h]
    · rw [if_neg (fun z => h (Sum.inl.inj z)), if_neg h]
  · unfold kvI
    rw [List.map_append]
    rfl
theorem putI_mem {ks : List (Int × Int)} {o r : Int} {p : Int × Int} (h : p ∈ putI ks o r) : p ∈ ks ∨ p = (o, r) := by
  unfold putI at h
  split at h
  · obtain ⟨q, hq, rfl⟩ := List.mem_map.mp h
    by_cases e : q.1 = o
    · rw [if_pos e, e]
      exact .inr rfl
    · rw [if_neg e]
      exact .inl hq
  · rcases List.mem_append.mp h with z | z
    · exact .inl z
    · exact .inr (List.mem_singleton.mp z)
theorem putI_keys (ks : List (Int × Int)) (o r : Int) : (putI ks o r).map (·.1) = if o ∈ ks.map (·.1) then ks.map (·.1) else ks.map (·.1) ++ [o] := by
  have e : ((ks.any fun p => decide (p.1 = o)) = true) ↔ o ∈ ks.map (·.1) := by
    rw [List.any_eq_true, List.mem_map]
    exact ⟨fun ⟨p, hp, h⟩ => ⟨p, hp, of_decide_eq_true h⟩, fun ⟨p, hp, h⟩ => ⟨p, hp, decide_eq_true h⟩⟩
  unfold putI
  by_cases h : o ∈ ks.map (·.1)
  · rw [if_pos (e.mpr h), if_pos h, List.map_map]
    refine List.map_congr_left fun p _ => ?_
    dsimp only [Function.comp]
    split <;> rfl
  · rw [if_neg (fun z => h (e.mp z)), if_neg h, List.map_append]
    rfl
theorem putI_has (ks : List (Int × Int)) (o r : Int) : o ∈ (putI ks o r).map (·.1) := by
  rw [putI_keys]
  split
  · assumption
  · simp
theorem putI_more {ks : List (Int × Int)} {o r x : Int} (h : x ∈ ks.map (·.1)) : x ∈ (putI ks o r).map (·.1) := by
  rw [putI_keys]
  split
  · exact h
  · exact List.mem_append_left _ h
theorem putI_nd {ks : List (Int × Int)} {o r : Int} (h : (ks.map (·.1)).Nodup) : ((putI ks o r).map (·.1)).Nodup := by
  rw [putI_keys]
  split
  · exact h
  · rename_i n
    rw [List.nodup_append]
    exact ⟨h, by simp, fun a ha b hb z => n (by rw [List.mem_singleton.mp hb] at z; rw [← z]; exact ha)⟩
structure LedP (m : Mch) (s : Stp) (prev : List Int) (ks : List (Int × Int)) : Prop where
  nd : (ks.map (·.1)).Nodup
  from_ : ∀ p ∈ ks, p.2 ∈ prev ∧ Goes m s p.2 p.1
theorem LedP.len {m : Mch} {s : Stp} {prev : List Int} {ks : List (Int × Int)} (h : LedP m s prev ks) (ok : MchOk m) : ks.length ≤ 24 := by
  have := nd_len (ks.map (·.1)) (roomsC m) h.nd fun x hx => by
    obtain ⟨p, hp, rfl⟩ := List.mem_map.mp hx
    exact mem_rooms.mpr (folOf_rng ok (h.from_ p hp).2.1)
  rw [List.length_map] at this
  have l2 : (roomsC m).length = m.mks.length := by
    unfold roomsC
    rw [List.length_map, List.length_range]
  have := ok.few
  omega
theorem LedP.put {m : Mch} {s : Stp} {prev : List Int} {ks : List (Int × Int)} {o r : Int} (h : LedP m s prev ks) (hr : r ∈ prev) (g : Goes m s r o) : LedP m s prev (putI ks o r) :=
  ⟨putI_nd h.nd, fun p hp => by
    rcases putI_mem hp with z | rfl
    · exact h.from_ p z
    · exact ⟨hr, g⟩⟩
theorem folOf_at {m : Mch} (ok : MchOk m) {r : Int} (h0 : 0 ≤ r) (h1 : r ≤ m.mks.length) : m.fol[r.toNat]? = some (folOf m r) := by
  have : r.toNat < m.fol.length := by rw [ok.lf]; omega
  unfold folOf
  rw [List.getElem?_eq_getElem this]
  rfl
theorem mark_at {m : Mch} {o : Int} (h0 : 1 ≤ o) (h1 : o ≤ m.mks.length) : ∃ k, m.mks[(o - 1).toNat]? = some k := by
  have : (o - 1).toNat < m.mks.length := by omega
  exact ⟨_, List.getElem?_eq_getElem this⟩
theorem fitO_at {m : Mch} {o : Int} {s : Stp} {k : Mrk} (h : m.mks[(o - 1).toNat]? = some k) : fitO m s o = fitC k s := by
  unfold fitO
  rw [h]
theorem at_get {α : Type} {xs : List α} {i : Int} {v : α} (h0 : 0 ≤ i) (h : xs[i.toNat]? = some v) : atI xs i = some v := by
  obtain ⟨n, rfl⟩ := Int.eq_ofNat_of_zero_le h0
  exact atI_nat (by simpa using h)
theorem All2.at {α β : Type} {R : α → β → Prop} {as : List α} {bs : List β} {i : Nat} {b : β} (h : All2 R as bs) (hb : bs[i]? = some b) : ∃ a, as[i]? = some a ∧ R a b := by
  have : i < as.length := by
    rw [h.len]
    exact (List.getElem?_eq_some_iff.mp hb).1
  exact ⟨as[i], by simp, h.get (by simp) hb⟩
theorem Lays.snoc {m : Mch} {ss : List Stp} {l0 : List (List (Int × Int))} {kl ks : List (Int × Int)} {s : Stp} (h : Lays m ss (l0 ++ [kl])) (l : Led m s (kl.map (·.1)) ks) : Lays m (ss ++ [s]) (l0 ++ [kl] ++ [ks]) := by
  have len := h.len
  have l1 : l0.length = ss.length := by
    rw [List.length_append] at len
    simp only [List.length_cons, List.length_nil] at len
    omega
  refine ⟨by rw [List.length_append, len, List.length_append]; rfl, by rw [List.getElem?_append_left (by rw [len]; omega)]; exact h.first, fun i t p n h1 h2 h3 => ?_⟩
  by_cases hi : i < ss.length
  · rw [List.getElem?_append_left hi] at h1
    rw [List.getElem?_append_left (by rw [len]; omega)] at h2 h3
    exact h.led i t p n h1 h2 h3
  · have e : i = ss.length := by
      have := (List.getElem?_eq_some_iff.mp h1).1
      rw [List.length_append] at this
      simp only [List.length_cons, List.length_nil] at this
      omega
    subst e
    rw [List.getElem?_append_right (Nat.le_refl _), Nat.sub_self] at h1
    cases h1
    rw [List.getElem?_append_right (by rw [len]; omega), len, Nat.sub_self] at h3
    cases h3
    rw [List.getElem?_append_left (by rw [len]; omega), List.getElem?_append_right (by omega), l1, Nat.sub_self] at h2
    cases h2
    exact l
theorem Lays.one (m : Mch) : Lays m [] [[(0, 0)]] := ⟨rfl, rfl, fun i s p n h => (by simp at h)⟩
theorem Led.p {m : Mch} {s : Stp} {prev : List Int} {ks : List (Int × Int)} (h : Led m s prev ks) : LedP m s prev ks := ⟨h.nd, h.from_⟩
theorem zero_rng {m : Mch} : ∀ o ∈ [(0 : Int)], 0 ≤ o ∧ o ≤ m.mks.length := fun o ho => by
  rw [List.mem_singleton.mp ho]
  omega
theorem Lays.rng {m : Mch} {ss : List Stp} {lays : List (List (Int × Int))} (h : Lays m ss lays) (ok : MchOk m) {i : Nat} {ks : List (Int × Int)} (hk : lays[i]? = some ks) : (∀ p ∈ ks, 0 ≤ p.1 ∧ p.1 ≤ m.mks.length) ∧ ks.length ≤ 25 ∧ (ks.map (·.1)).Nodup := by
  refine ⟨fun p hp => walk_rng (ss := ss.take i) zero_rng _ ((h.take i ks hk ok p.1).mp (List.mem_map.mpr ⟨p, hp, rfl⟩)), ?_⟩
  cases i with
  | zero =>
    rw [h.first] at hk
    cases hk
    simp
  | succ i =>
    have il : i + 1 < lays.length := (List.getElem?_eq_some_iff.mp hk).1
    have is : i < ss.length := by rw [h.len] at il; omega
    have led := h.led i ss[i] (lays[i]'(by omega)) ks (by simp) (by simp) hk
    have := led.p.len ok
    exact ⟨by omega, led.nd⟩
theorem valI_at {r : Int} : ∀ {ks : List (Int × Int)}, r ∈ ks.map (·.1) → ∃ v, valV (kvI ks) (.inl r) = some (.int v) ∧ (r, v) ∈ ks
  | [], h => by cases h
  | p :: ks, h => by
    unfold kvI
    rw [List.map_cons]
    by_cases e : p.1 = r
    · exact ⟨p.2, by rw [valV_pos (by rw [e])], by rw [← e]; simp⟩
    · rcases List.mem_cons.mp h with z | z
      · exact absurd z.symm e
      · obtain ⟨v, h1, h2⟩ := valI_at z
        exact ⟨v, by rw [valV_neg (fun z => e (Sum.inl.inj z))]; exact h1, List.mem_cons_of_mem _ h2⟩
theorem keys_kvI (ks : List (Int × Int)) : (kvI ks).map (·.1) = (ks.map (·.1)).map Sum.inl := by
  unfold kvI
  rw [List.map_map, List.map_map]
  rfl
theorem endC_at {m : Mch} (ok : MchOk m) {r : Int} (h0 : 0 ≤ r) (h1 : r ≤ m.mks.length) : atI (m.ends.map V.bl) r = some (.bl (endC m r)) := by
  have : r.toNat < m.ends.length := by rw [ok.le]; omega
  refine at_get h0 ?_
  unfold endC
  rw [List.getElem?_map, List.getElem?_eq_getElem this]
  rfl
theorem le_lt {l : List Int} (nd : l.Nodup) (h : l.Pairwise (· ≤ ·)) : l.Pairwise (· < ·) := by
  induction l with
  | nil => exact .nil
  | cons x r ih =>
    obtain ⟨n1, n2⟩ := List.nodup_cons.mp nd
    obtain ⟨h1, h2⟩ := List.pairwise_cons.mp h
    refine List.pairwise_cons.mpr ⟨fun y hy => ?_, ih n2 h2⟩
    have := h1 y hy
    have : x ≠ y := fun z => n1 (by rw [z]; exact hy)
    omega
theorem sorted_walk {m : Mch} {ss : List Stp} {lays : List (List (Int × Int))} (h : Lays m ss lays) (ok : MchOk m) {ks : List (Int × Int)} (hk : lays[ss.length]? = some ks) {out : List Int} (p : out.Perm (ks.map (·.1))) (u : out.Pairwise (· ≤ ·)) : out = walkC m [0] ss := by
  have nd := (h.rng ok hk).2.2
  refine up_eq (le_lt (p.nodup_iff.mpr nd) u) (walk_up m ss [0] (by simp)) fun x => ?_
  rw [p.mem_iff, h.take _ _ hk ok, List.take_length]
theorem walk_len {m : Mch} (ok : MchOk m) (ss : List Stp) : (walkC m [0] ss).length ≤ 25 := by
  have := nd_len (walkC m [0] ss) (0 :: roomsC m) ((walk_up m ss [0] (by simp)).imp fun h => Int.ne_of_lt h) fun x hx => by
    have := walk_rng (ss := ss) zero_rng x hx
    by_cases z : x = 0
    · rw [z]
      exact List.mem_cons_self
    · exact List.mem_cons_of_mem _ (mem_rooms.mpr (by omega))
  have l2 : (roomsC m).length = m.mks.length := by
    unfold roomsC
    rw [List.length_map, List.length_range]
  have := ok.few
  rw [List.length_cons] at *
  omega
theorem any_walk {m : Mch} {ss : List Stp} {lays : List (List (Int × Int))} (h : Lays m ss lays) (ok : MchOk m) {ks : List (Int × Int)} (hk : lays[ss.length]? = some ks) : (walkC m [0] ss).any (endC m) = ((ks.map (·.1)).filter (endC m) != []) := by
  have mem : ∀ x, x ∈ ks.map (·.1) ↔ x ∈ walkC m [0] ss := fun x => by
    rw [h.take _ _ hk ok, List.take_length]
  cases q : (walkC m [0] ss).any (endC m) with
  | true =>
    obtain ⟨x, hx, e⟩ := List.any_eq_true.mp q
    have : x ∈ (ks.map (·.1)).filter (endC m) := List.mem_filter.mpr ⟨(mem x).mpr hx, e⟩
    cases z : (ks.map (·.1)).filter (endC m) with
    | nil =>
      rw [z] at this
      cases this
    | cons _ _ => rfl
  | false =>
    cases z : (ks.map (·.1)).filter (endC m) with
    | nil => rfl
    | cons x r =>
      have hx : x ∈ (ks.map (·.1)).filter (endC m) := by rw [z]; simp
      obtain ⟨h1, h2⟩ := List.mem_filter.mp hx
      have : (walkC m [0] ss).any (endC m) = true := List.any_eq_true.mpr ⟨x, (mem x).mp h1, h2⟩
      rw [q] at this
      cases this
def isEnd (m : Mch) : Key → Bool
  | .inl r => endC m r
  | .inr _ => false
theorem ends_of (m : Mch) : ∀ ks : List (Int × Int), (((kvI ks).map (·.1)).filter (isEnd m)).map kV = ((ks.map (·.1)).filter (endC m)).map V.int
  | [] => rfl
  | p :: ks => by
    have := ends_of m ks
    unfold kvI at this ⊢
    simp only [List.map_cons]
    by_cases h : endC m p.1 = true
    · rw [List.filter_cons_of_pos (by exact h), List.filter_cons_of_pos h, List.map_cons, List.map_cons, this]
      rfl
    · rw [List.filter_cons_of_neg (by exact h), List.filter_cons_of_neg h, this]
theorem inV_ints (r : Int) : ∀ l : List Int, inV (.int r) (l.map V.int) = decide (r ∈ l)
  | [] => by simp [inV]
  | x :: l => by
    have := inV_ints r l
    unfold inV at this ⊢
    rw [List.map_cons, List.any_cons, this]
    by_cases h : x = r
    · simp [eqV, h]
    · have h' : ¬ r = x := fun z => h z.symm
      simp [eqV, h, h']
theorem flat_ints (l : List Int) : (l.map V.int).all flatV = true := by
  induction l with
  | nil => rfl
  | cons x r ih => rw [List.map_cons, List.all_cons, ih]; rfl
theorem rd_inN {K : PySem.W.Frag} {H : Hp} {a : Addr} {l : List Int} {r : Int} {neg : Bool} {Q : VK} (ha : SqL K H a (l.map V.int)) (q : Q (.bl (if neg then !decide (r ∈ l) else decide (r ∈ l))) H) : rIn K neg (.int r) (.ref a) H Q :=
  ⟨a, _, rfl, .inl ha, rfl, flat_ints l, by rw [inV_ints]; exact q⟩
theorem filter_pos {α : Type} (p : α → Bool) (l : List α) : (0 < (l.filter p).length) ↔ l.any p = true := by
  rw [List.length_pos_iff, List.any_eq_true]
  constructor
  · intro h
    obtain ⟨x, r, e⟩ := List.exists_cons_of_ne_nil h
    have : x ∈ l.filter p := by rw [e]; simp
    exact ⟨x, (List.mem_filter.mp this).1, (List.mem_filter.mp this).2⟩
  · rintro ⟨x, h1, h2⟩ z
    have : x ∈ l.filter p := List.mem_filter.mpr ⟨h1, h2⟩
    rw [z] at this
    cases this
theorem steps_push {H H1 : Hp} {q p : Addr} {as : List Addr} {ss : List Stp} {st : Stp} (e : H q = some (.lst (as.map V.ref))) (al : All2 (fun x s => H x = some (.tup (stV s)) ∧ okT s.nm) as ss) (s : Same H H1) (hp : H1 p = some (.tup (stV st))) (okn : okT st.nm) :
    StepsAt (upd H1 q (.lst (as.map V.ref ++ [.ref p]))) q (ss ++ [st]) := by
  have q1 := s _ _ e
  have ne : ∀ x (xs : List V), H1 x = some (.tup xs) → x ≠ q := fun x xs h z => by
    rw [z, q1] at h
    cases h
  refine ⟨as ++ [p], by rw [upd_same, List.map_append]; rfl, All2.snoc ⟨(upd_ne (ne _ _ hp)).trans hp, okn⟩ (al.imp fun x t h => ⟨(upd_ne (ne _ _ (s _ _ h.1))).trans (s _ _ h.1), h.2⟩)⟩
theorem StepsAt.nil {H : Hp} {q : Addr} (h : H q = some (.lst [])) : StepsAt H q [] := ⟨[], h, .nil⟩
theorem All2.rep {α β : Type} {R : α → β → Prop} {as : List α} {bs : List β} (h : All2 R as bs) : ∀ n : Nat, All2 R (List.replicate n as).flatten (List.replicate n bs).flatten
  | 0 => .nil
  | n + 1 => by
    rw [List.replicate_succ, List.replicate_succ, List.flatten_cons, List.flatten_cons]
    exact h.append (h.rep n)
theorem All2.drop {α β : Type} {R : α → β → Prop} : ∀ {as : List α} {bs : List β} (n : Nat), All2 R as bs → All2 R (as.drop n) (bs.drop n)
  | _, _, 0, h => h
  | _, _, _ + 1, .nil => .nil
  | _, _, n + 1, .cons _ t => t.drop n
theorem All2.take {α β : Type} {R : α → β → Prop} : ∀ {as : List α} {bs : List β} (n : Nat), All2 R as bs → All2 R (as.take n) (bs.take n)
  | _, _, 0, _ => .nil
  | _, _, _ + 1, .nil => .nil
  | _, _, n + 1, .cons r t => .cons r (t.take n)
theorem cut_refs (as : List Addr) (hi : Int) (h0 : 0 ≤ hi) : cutV (as.map V.ref) none (some hi) = (as.take hi.toNat).map V.ref := by
  obtain ⟨k, rfl⟩ := Int.eq_ofNat_of_zero_le h0
  unfold cutV
  rw [HT.sIx_none, HT.sIx_nat, List.drop_zero, Nat.sub_zero, List.length_map, Int.toNat_natCast, List.map_take]
  have := (List.take_eq_take_min (l := as.map V.ref) (i := k)).symm
  rw [List.length_map] at this
  exact this
theorem rep_refs (as : List Addr) (n : Nat) : (List.replicate n (as.map V.ref)).flatten = ((List.replicate n as).flatten).map V.ref := by
  induction n with
  | zero => rfl
  | succ n ih => rw [List.replicate_succ, List.replicate_succ, List.flatten_cons, List.flatten_cons, ih, List.map_append]
end L2
set_option Elab.async false
set_option linter.all false
set_option maxRecDepth 100000
namespace L2
open PySem PySem.Spec PyProof.Rows
def Fit (n : Nat) (d : PyData) : Prop := d.canLay0 = true ∧ d.depth ≤ n
def FitAll (n : Nat) (ds : List PyData) : Prop := PyData.canLayAll0 ds = true ∧ PyData.depthAll ds ≤ n
theorem fit_all {n : Nat} : ∀ {ds : List PyData}, (∀ d ∈ ds, Fit n d) → FitAll n ds
  | [], _ => ⟨rfl, Nat.zero_le _⟩
  | d :: ds, h => by
    have h1 := h d (by simp)
    have h2 := fit_all (n := n) (ds := ds) fun x hx => h x (List.mem_cons_of_mem _ hx)
    refine ⟨by rw [PyData.canLayAll0, h1.1, h2.1]; rfl, ?_⟩
    rw [PyData.depthAll]
    exact Nat.max_le.mpr ⟨h1.2, h2.2⟩
theorem fit_list {n : Nat} {ds : List PyData} (h : FitAll n ds) : Fit (n + 1) (.list ds) := ⟨by rw [PyData.canLay0]; exact h.1, by rw [PyData.depth]; have := h.2; omega⟩
theorem fit_tup {n : Nat} {ds : List PyData} (h : FitAll n ds) : Fit (n + 1) (.tuple ds) := ⟨by rw [PyData.canLay0]; exact h.1, by rw [PyData.depth]; have := h.2; omega⟩
theorem Fit.more {n k : Nat} {d : PyData} (h : Fit n d) (l : n ≤ k) : Fit k d := ⟨h.1, Nat.le_trans h.2 l⟩
theorem fit_int (i : Int) : Fit 0 (.int i) := ⟨rfl, Nat.le_refl _⟩
theorem fit_bool (b : Bool) : Fit 0 (.bool b) := ⟨rfl, Nat.le_refl _⟩
theorem fit_str {l : List Nat} (h : okT l) : Fit 0 (.str (tx l)) := ⟨by rw [PyData.canLay0]; exact strOk_tx h, Nat.le_refl _⟩
theorem Fit.shaped {n : Nat} {d : PyData} (h : Fit n d) (l : n ≤ 64) : SeqAt.shaped d = true := by
  unfold SeqAt.shaped
  rw [Bool.and_eq_true, decide_eq_true_eq]
  exact ⟨h.1, Nat.le_trans h.2 l⟩
theorem datVs_of {α : Type} {K : PySem.W.Frag} {H : Hp} {f : α → PyData} {R : Addr → α → Prop} (hR : ∀ a x, R a x → DatV K H (.ref a) (f x)) : ∀ {as : List Addr} {xs : List α}, All2 R as xs → DatVs K H (as.map V.ref) (xs.map f)
  | _, _, .nil => .nil
  | _, _, .cons r t => .cons (hR _ _ r) (datVs_of hR t)
theorem datVs_bools {K : PySem.W.Frag} {H : Hp} : ∀ bs : List Bool, DatVs K H (bs.map V.bl) (bs.map PyData.bool)
  | [] => .nil
  | _ :: r => .cons (.bl _) (datVs_bools r)
def markD (m : Mrk) : PyData := .tuple [.str (tx markC), .str (tx m.nm), .bool m.back, .str (tx m.sg), .int m.num]
def stepD (s : Stp) : PyData := .tuple [.str (tx s.nm), .int s.wt, .bool s.back]
def intsD (l : List Int) : PyData := .list (l.map PyData.int)
theorem fit_mark {m : Mrk} (o : MrkOk m) : Fit 1 (markD m) := fit_tup (fit_all fun d hd => by
  simp only [List.mem_cons, List.not_mem_nil, or_false] at hd
  rcases hd with rfl | rfl | rfl | rfl | rfl
  · exact fit_str (by unfold okT; decide)
  · exact fit_str o.nm
  · exact fit_bool _
  · exact fit_str o.sg
  · exact fit_int _)
theorem fit_step {s : Stp} (o : okT s.nm) : Fit 1 (stepD s) := fit_tup (fit_all fun d hd => by
  simp only [List.mem_cons, List.not_mem_nil, or_false] at hd
  rcases hd with rfl | rfl | rfl
  · exact fit_str o
  · exact fit_int _
  · exact fit_bool _)
theorem fit_ints (l : List Int) : Fit 1 (intsD l) := fit_list (fit_all fun d hd => by
  obtain ⟨i, _, rfl⟩ := List.mem_map.mp hd
  exact fit_int i)
theorem fit_bools (l : List Bool) : Fit 1 (.list (l.map PyData.bool)) := fit_list (fit_all fun d hd => by
  obtain ⟨i, _, rfl⟩ := List.mem_map.mp hd
  exact fit_bool i)
theorem MksAt.dat {K : PySem.W.Frag} {H : Hp} {a : Addr} {ms : List Mrk} (h : MksAt H a ms) : DatV K H (.ref a) (.list (ms.map markD)) := by
  obtain ⟨as, e, al⟩ := h
  exact .lst (SqL.of e) (datVs_of (fun x m r => datMark r.1) al)
theorem FolAt.dat {K : PySem.W.Frag} {H : Hp} {a : Addr} {fs : List (List Int)} (h : FolAt H a fs) : DatV K H (.ref a) (.list (fs.map intsD)) := by
  obtain ⟨as, e, al⟩ := h
  exact .lst (SqL.of e) (datVs_of (fun x l r => .lst (SqL.of r) (datVs_ints l)) al)
theorem StepsAt.dat {K : PySem.W.Frag} {H : Hp} {a : Addr} {ss : List Stp} (h : StepsAt H a ss) : DatV K H (.ref a) (.list (ss.map stepD)) := by
  obtain ⟨as, e, al⟩ := h
  exact .lst (SqL.of e) (datVs_of (fun x s r => .tup (SqT.of r.1) (.cons (.str _) (.cons (.int _) (.cons (.bl _) .nil)))) al)
theorem StepsAt.fit {H : Hp} {a : Addr} {ss : List Stp} (h : StepsAt H a ss) : Fit 2 (.list (ss.map stepD)) := by
  obtain ⟨as, e, al⟩ := h
  refine fit_list (fit_all fun d hd => ?_)
  obtain ⟨s, hs, rfl⟩ := List.mem_map.mp hd
  obtain ⟨i, hi⟩ := List.mem_iff_getElem?.mp hs
  obtain ⟨x, _, r⟩ := al.at hi
  exact fit_step r.2
def machD (m : Mch) : PyData := .tuple [.list (m.mks.map markD), .list (m.fol.map intsD), .list (m.ends.map PyData.bool)]
theorem mach_dat {K : PySem.W.Frag} {H : Hp} {a x y z : Addr} {m : Mch} (e : H a = some (.tup [.ref x, .ref y, .ref z])) (h1 : MksAt H x m.mks) (h2 : FolAt H y m.fol) (h3 : EndsAt H z m.ends) : DatV K H (.ref a) (machD m) :=
  .tup (SqT.of e) (.cons h1.dat (.cons h2.dat (.cons (.lst (SqL.of h3) (datVs_bools _)) .nil)))
theorem mach_fit {H : Hp} {x : Addr} {m : Mch} (h1 : MksAt H x m.mks) : Fit 3 (machD m) := by
  refine fit_tup (fit_all fun d hd => ?_)
  simp only [List.mem_cons, List.not_mem_nil, or_false] at hd
  rcases hd with rfl | rfl | rfl
  · refine fit_list (fit_all fun d hd => ?_)
    obtain ⟨k, hk, rfl⟩ := List.mem_map.mp hd
    obtain ⟨as, e, al⟩ := h1
    obtain ⟨i, hi⟩ := List.mem_iff_getElem?.mp hk
    obtain ⟨x, _, r⟩ := al.at hi
    exact fit_mark r.2.ok
  · refine fit_list (fit_all fun d hd => ?_)
    obtain ⟨l, _, rfl⟩ := List.mem_map.mp hd
    exact fit_ints l
  · exact (fit_bools _).more (by decide)
theorem refs_rel {α β : Type} {P : Addr → β → Prop} : ∀ {cs : List α} {ys : List V}, All2 (fun _ v => ∃ p k, v = V.ref p ∧ P p k) cs ys → ∃ (as : List Addr) (ks : List β), ys = as.map V.ref ∧ All2 P as ks ∧ ks.length = cs.length
  | _, _, .nil => ⟨[], [], rfl, .nil, rfl⟩
  | _, _, .cons ⟨p, k, e, r⟩ t => by
    obtain ⟨as, ks, e2, a2, l2⟩ := refs_rel t
    exact ⟨p :: as, k :: ks, by rw [e, e2]; rfl, .cons r a2, by rw [List.length_cons, List.length_cons, l2]⟩
theorem refs_same {β : Type} {P : Addr → β → Prop} {R : α → β} : ∀ {cs : List α} {ys : List V}, All2 (fun c v => ∃ p, v = V.ref p ∧ P p (R c)) cs ys → ∃ as : List Addr, ys = as.map V.ref ∧ All2 P as (cs.map R)
  | _, _, .nil => ⟨[], rfl, .nil⟩
  | _, _, .cons ⟨p, e, r⟩ t => by
    obtain ⟨as, e2, a2⟩ := refs_same t
    exact ⟨p :: as, by rw [e, e2]; rfl, .cons r a2⟩
theorem comp_own {α : Type} {J : It} {H1 : Hp} {fr : List Nat} {σ : St} {te : TE} {Q : VK} {cs : List α} {g : α → V} (T : Tells J H1 (cs.map g)) (R : Hp → α → Addr → Prop) (mono : ∀ c p H H', Same H H' → R H c p → R H' c p) (hz : cs.length ≤ sizeLine)
    (he : ∀ c H2 Q2, c ∈ cs → Same H1 H2 → (∀ p H3, H2 p = none → Same H2 H3 → R H3 c p → Q2 (.ref p) H3) → te (stB1 (g c) fr σ) H2 Q2)
    (off : ∀ H c p D o, p ≠ D → R H c p → R (upd H D o) c p)
    (hQ : ∀ D H2 ys, H1 D = none → Same H1 H2 → H2 D = some (.lst ys) → All2 (fun c v => ∃ p, v = V.ref p ∧ R H2 c p ∧ p ≠ D ∧ H1 p = none) cs ys → Q (.ref D) H2) : CompR J H1 fr σ tYes te Q := by
  intro D hD
  have hlen : (cs.map g).length = cs.length := List.length_map ..
  refine ⟨fun i m ys H2 => m = cs.length - i ∧ i ≤ cs.length ∧ All2 (fun c v => ∃ p, v = V.ref p ∧ R H2 c p ∧ p ≠ D ∧ H1 p = none) (cs.take i) ys ∧ Same H1 H2 ∧ H2 D = some (.lst ys), ⟨_, rfl, Nat.zero_le _, .nil, Same.new hD, upd_same⟩, ?_⟩
  rintro i m ys H2 ⟨rfl, hi, a2, s2, d2⟩
  by_cases hlt : i < cs.length
  · refine .inr ⟨T.go i H2 (by rw [hlen]; exact hlt) s2, fun x H3 y => ?_⟩
    obtain ⟨rfl, hx⟩ := T.yld i H2 x H3 s2 (by rw [hlen]; exact hlt) y
    rw [List.getElem?_map] at hx
    cases hc : cs[i]? with
    | none => rw [hc] at hx; cases hx
    | some c =>
      rw [hc] at hx
      obtain rfl : g c = x := Option.some.inj hx
      unfold tYes
      dsimp only
      rw [if_pos rfl]
      refine he c H3 _ (List.mem_of_getElem? hc) s2 fun p H5 hp s5 r5 => ⟨s5 _ _ d2, ?_, _, ?_, rfl, hlt, ?_, (s2.trans s5).upd_new hD, upd_same⟩
      · have := a2.len
        rw [List.length_take] at this
        omega
      · omega
      · have pD : p ≠ D := fun z => by
          rw [z, d2] at hp
          cases hp
        rw [take_get hc]
        exact All2.snoc ⟨p, rfl, off _ _ _ _ _ pD r5, pD, s2.free hp⟩ (a2.imp fun c v ⟨p, e, r, n, f⟩ => ⟨p, e, off _ _ _ _ _ n (mono _ _ _ _ s5 r), n, f⟩)
  · obtain rfl : i = cs.length := by omega
    exact .inl ⟨by have := T.stop H2 s2; rw [hlen] at this; exact this, hQ D H2 ys hD s2 d2 (by rw [List.take_length] at a2; exact a2)⟩
theorem cut_ints (ns : List Int) (lo hi : Option Int) : ∃ cs : List Int, cutV (ns.map V.int) lo hi = cs.map V.int ∧ cs.length ≤ ns.length := by
  unfold cutV
  refine ⟨(ns.drop (HT.sIx (ns.map V.int).length 0 lo)).take (HT.sIx (ns.map V.int).length (ns.map V.int).length hi - HT.sIx (ns.map V.int).length 0 lo), by rw [List.map_take, List.map_drop], ?_⟩
  rw [List.length_take, List.length_drop]
  omega
end L2
set_option Elab.async false
set_option linter.all false
set_option maxRecDepth 100000
set_option maxHeartbeats 4000000
namespace K23
open PySem L2
def top (i : Nat) : Stmt := PySem.Challenge.pw_tieseek_k23_runs_and_rooms.main.body.getD i (.Pass ⟨0, 0, 0, 0⟩)
abbrev s_weight_meets : Stmt := top 5
abbrev s_fits : Stmt := top 6
abbrev s_rooms_on : Stmt := top 7
abbrev s_trails : Stmt := top 8
abbrev s_rooms_behind : Stmt := top 9
abbrev s_taken : Stmt := top 10
abbrev s_run_of : Stmt := top 11
abbrev s_l_cell_at : Stmt := top 13
abbrev s_l_mixed : Stmt := top 14
abbrev s_l_names : Stmt := top 15
abbrev s_l_whole : Stmt := top 16
abbrev s_l_base : Stmt := top 17
abbrev s_l_number : Stmt := top 18
abbrev s_l_mark_by : Stmt := top 19
abbrev s_l_step_by : Stmt := top 20
abbrev s_l_fit : Stmt := top 21
abbrev s_l_step_for : Stmt := top 22
abbrev s_l_rooms_by : Stmt := top 23
abbrev s_l_walk : Stmt := top 24
abbrev s_l_rising : Stmt := top 25
abbrev s_l_run : Stmt := top 26
abbrev s_l_steps_by : Stmt := top 27
abbrev s_l_steps_led : Stmt := top 28
abbrev s_l_steps_all : Stmt := top 29
abbrev s_law : Stmt := top 30
def v_ANY_NAME : Str := "_"
theorem cs0 : Str.ofString "<" = tx [60] := by decide +kernel
theorem cs1 : Str.ofString ">" = tx [62] := by decide +kernel
theorem cs2 : Str.ofString "=" = tx [61] := by decide +kernel
theorem cs3 : Str.ofString "!" = tx [33] := by decide +kernel
theorem cs4 : Str.ofString "abcdefghijklmnopqrstuvwxyz" = tx [97, 98, 99, 100, 101, 102, 103, 104, 105, 106, 107, 108, 109, 110, 111, 112, 113, 114, 115, 116, 117, 118, 119, 120, 121, 122] := by decide +kernel
theorem cs5 : Str.ofString "" = tx [] := by decide +kernel
theorem cs6 : Str.ofString "mark" = tx [109, 97, 114, 107] := by decide +kernel
theorem cs7 : Str.ofString "_" = tx [95] := by decide +kernel
theorem cv_ANY_NAME : v_ANY_NAME = tx [95] := by decide +kernel
local macro_rules | `(tactic| walk_at "rd") => `(tactic| simp only [L2.start, tVar, tC, tOp, tUn, tCB, tCons, tNil, tRet, tRetN, tDrop, tSeq, tNext, tBreak, tCont, tIfS, tTest, tB, tAnd, tOr, tNot, tAndV, tOrV, tNotV, tIf, tChain, tCall, tMeth, tMake, tTup, tLst, tAsg, gName, tSl, tPart, tNoPart, tBM, tBM0, rI, rI0, rU, List.map_cons, List.map_nil, List.length_cons, List.length_nil, List.replicate, List.cons_append, List.nil_append, List.append_nil, List.getElem?_cons_zero, List.getElem?_cons_succ, List.set_cons_zero, List.set_cons_succ, Option.some.injEq, V.int.injEq, V.str.injEq, V.bl.injEq, V.ref.injEq, V.ty.injEq, List.cons.injEq, and_true, true_and, exists_and_left, exists_eq_left', exists_eq_left, decide_eq_true_eq, Nat.sub_self, Nat.reduceSub, Nat.reduceAdd, tx_len, reduceCtorEq, false_and, exists_false, if_false, if_true, Bool.false_eq_true, and_assoc, stB1, Option.join, Option.bind_some, id_eq, rEq, rNe, scal, cxOf_K, tBetw, tBetwT, rStarts, rFind, Bool.not_eq_true', decide_eq_false_iff_not, Bool.not_true, Bool.not_false, not_true_eq_false, not_false_eq_true, tNever, tIsN, tNotN, decide_true, decide_false, rTo, rFr, tx_list, tx_app, starts1, tx_inj, CDiv, CPow, tyV_str, cxH_K, Int.reduceLT, Int.reduceLE, Int.reducePow, Nat.reduceLT, Nat.reduceLeDiff, Int.reduceToNat, Int.reduceNeg, Nat.reducePow, tRaise, xSeq, rIsX, rIsV, tFld, sFld, tDGet, tDIn, tDNotIn, sDPut, sDDel, tDNewK, tDGet1, tDPop1, rAppend, tTry, rMulS, rCount, rIndex, rRemove, rEqD, rNeD, Dthaw, tLstC, rCat, rCatK, rDictP, rEqN, rRep, gTup, gCons, gNil, tDisp, tPairs, rReverse, tRepl, cs0, cs1, cs2, cs3, cs4, cs5, cs6, cs7, cv_ANY_NAME, gSub, rSetL])
local macro_rules | `(tactic| walk_at "rs") => `(tactic| simp only [L2.start, List.map_cons, List.map_nil, List.length_cons, List.length_nil, List.replicate, List.cons_append, List.nil_append, List.append_nil, Nat.sub_self, Nat.reduceSub, Nat.reduceAdd, cxOf_K, cxH_K])
local macro_rules | `(tactic| walk_at "rg") => `(tactic| simp only [gName, List.set_cons_zero, List.set_cons_succ])
structure Ad where
  a_weight_meets : Addr
  d_weight_meets : FuncData
  a_fits : Addr
  d_fits : FuncData
  a_rooms_on : Addr
  d_rooms_on : FuncData
  a_trails : Addr
  d_trails : FuncData
  a_rooms_behind : Addr
  d_rooms_behind : FuncData
  a_taken : Addr
  d_taken : FuncData
  a_run_of : Addr
  d_run_of : FuncData
  a_l_cell_at : Addr
  d_l_cell_at : FuncData
  a_l_mixed : Addr
  d_l_mixed : FuncData
  a_l_names : Addr
  d_l_names : FuncData
  a_l_whole : Addr
  d_l_whole : FuncData
  a_l_base : Addr
  d_l_base : FuncData
  a_l_number : Addr
  d_l_number : FuncData
  a_l_mark_by : Addr
  d_l_mark_by : FuncData
  a_l_step_by : Addr
  d_l_step_by : FuncData
  a_l_fit : Addr
  d_l_fit : FuncData
  a_l_step_for : Addr
  d_l_step_for : FuncData
  a_l_rooms_by : Addr
  d_l_rooms_by : FuncData
  a_l_walk : Addr
  d_l_walk : FuncData
  a_l_rising : Addr
  d_l_rising : FuncData
  a_l_run : Addr
  d_l_run : FuncData
  a_l_steps_by : Addr
  d_l_steps_by : FuncData
  a_l_steps_led : Addr
  d_l_steps_led : FuncData
  a_l_steps_all : Addr
  d_l_steps_all : FuncData
structure Txt (K : PySem.W.Frag) (mg : Str → Option Value) (t : Ad) : Prop where
  weight_meets : DefOk K mg "weight_meets" s_weight_meets ["weight", "sign", "number"] t.a_weight_meets t.d_weight_meets
  fits : DefOk K mg "fits" s_fits ["mark", "step"] t.a_fits t.d_fits
  rooms_on : DefOk K mg "rooms_on" s_rooms_on ["made", "rooms", "step"] t.a_rooms_on t.d_rooms_on
  trails : DefOk K mg "trails" s_trails ["made", "steps"] t.a_trails t.d_trails
  rooms_behind : DefOk K mg "rooms_behind" s_rooms_behind ["made", "steps"] t.a_rooms_behind t.d_rooms_behind
  taken : DefOk K mg "taken" s_taken ["made", "steps"] t.a_taken t.d_taken
  run_of : DefOk K mg "run_of" s_run_of ["made", "steps"] t.a_run_of t.d_run_of
  l_cell_at : DefOk K mg "_law_cell_at" s_l_cell_at ["script", "k"] t.a_l_cell_at t.d_l_cell_at
  l_mixed : DefOk K mg "_law_mixed" s_l_mixed ["cell"] t.a_l_mixed t.d_l_mixed
  l_names : DefOk K mg "_law_names" s_l_names ["cell"] t.a_l_names t.d_l_names
  l_whole : DefOk K mg "_law_whole" s_l_whole ["found"] t.a_l_whole t.d_l_whole
  l_base : DefOk K mg "_law_base" s_l_base ["cell"] t.a_l_base t.d_l_base
  l_number : DefOk K mg "_law_number" s_l_number ["cell", "turn", "base"] t.a_l_number t.d_l_number
  l_mark_by : DefOk K mg "_law_mark_by" s_l_mark_by ["cell", "names", "base"] t.a_l_mark_by t.d_l_mark_by
  l_step_by : DefOk K mg "_law_step_by" s_l_step_by ["cell", "names", "base"] t.a_l_step_by t.d_l_step_by
  l_fit : DefOk K mg "_law_fit" s_l_fit ["mark", "step"] t.a_l_fit t.d_l_fit
  l_step_for : DefOk K mg "_law_step_for" s_l_step_for ["cell", "mark", "names", "base"] t.a_l_step_for t.d_l_step_for
  l_rooms_by : DefOk K mg "_law_rooms_by" s_l_rooms_by ["cell", "many", "mixed"] t.a_l_rooms_by t.d_l_rooms_by
  l_walk : DefOk K mg "_law_walk" s_l_walk ["marks", "follows", "steps"] t.a_l_walk t.d_l_walk
  l_rising : DefOk K mg "_law_rising" s_l_rising ["found", "due"] t.a_l_rising t.d_l_rising
  l_run : DefOk K mg "_law_run" s_l_run ["run", "marks", "follows", "ends", "steps"] t.a_l_run t.d_l_run
  l_steps_by : DefOk K mg "_law_steps_by" s_l_steps_by ["cells", "marks", "names", "base"] t.a_l_steps_by t.d_l_steps_by
  l_steps_led : DefOk K mg "_law_steps_led" s_l_steps_led ["cells", "marks", "follows", "names", "base"] t.a_l_steps_led t.d_l_steps_led
  l_steps_all : DefOk K mg "_law_steps_all" s_l_steps_all ["head", "cells", "marks", "follows", "ends", "words"] t.a_l_steps_all t.d_l_steps_all
  c_ANY_NAME : ∃ u, mg "ANY_NAME" = some u ∧ RelV (.str v_ANY_NAME) u
  c_MARKS : ∃ u, mg "MARKS" = some u ∧ RelV (.int 0) u
  c_FOLLOWS : ∃ u, mg "FOLLOWS" = some u ∧ RelV (.int 1) u
  c_ENDS : ∃ u, mg "ENDS" = some u ∧ RelV (.int 2) u
  b_len : mg "len" = none
  b_isinstance : mg "isinstance" = none
  b_bool : mg "bool" = none
  b_int : mg "int" = none
  b_range : mg "range" = none
  b_list : mg "list" = none
  b_any : mg "any" = none
  b_sorted : mg "sorted" = none
  b_reversed : mg "reversed" = none
def GoodN (l : List Nat) : Prop := 1 ≤ l.length ∧ l.length ≤ 12 ∧ ∀ x ∈ l, x ∈ abc
def NamesAt (H : Hp) (p : Addr) (ns : List (List Nat)) : Prop := H p = some (.lst (ns.map fun l => .str (tx l))) ∧ ns.length = 4 ∧ ∀ l ∈ ns, GoodN l
def halfB (n : Int) : Prop := n.natAbs ≤ 500000000000000000000000000000000000000000000000000000000000
structure StpW (s : Stp) : Prop where
  nm : GoodN s.nm
  wt : s.wt.natAbs < 10 ^ 60
def sp_l_cell_at (K : PySem.W.Frag) : Sp := fun vs H Q _ => ∃ (a : Addr) (ns : List Int) (k : Int), vs = [.ref a, .int k] ∧ SqL K H a (ns.map V.int) ∧ 0 ≤ k ∧ ∀ c, Q (.int c) H
def sp_l_mixed : Sp := fun vs H Q _ => ∃ c, vs = [.int c] ∧ ∀ m : Int, 0 ≤ m → m < 2147483629 → Q (.int m) H
def sp_l_names : Sp := fun vs H Q _ => ∃ c, vs = [.int c] ∧ ∀ p H' ns, H p = none → Same H H' → NamesAt H' p ns → Q (.ref p) H'
def sp_l_base : Sp := fun vs H Q _ => ∃ c, vs = [.int c] ∧ ∀ n : Int, halfB n → Q (.int n) H
def sp_l_number : Sp := fun vs H Q _ => ∃ c t b, vs = [.int c, .int t, .int b] ∧ halfB b ∧ ∀ n : Int, n.natAbs < 10 ^ 60 → Q (.int n) H
def sp_l_mark_by : Sp := fun vs H Q _ => ∃ c a ns b, vs = [.int c, .ref a, .int b] ∧ NamesAt H a ns ∧ halfB b ∧ ∀ m p H', MrkW m → H p = none → Same H H' → H' p = some (.tup (mkV m)) → Q (.ref p) H'
def sp_l_step_by : Sp := fun vs H Q _ => ∃ c a ns b, vs = [.int c, .ref a, .int b] ∧ NamesAt H a ns ∧ halfB b ∧ ∀ m p H', StpW m → H p = none → Same H H' → H' p = some (.tup (stV m)) → Q (.ref p) H'
def sp_weight_meets : Sp := fun vs H Q _ => ∃ w sg n, vs = [.int w, .str (tx sg), .int n] ∧ Q (.bl (meetC w sg n)) H
def sp_fits : Sp := fun vs H Q _ => ∃ a b m sp, vs = [.ref a, .ref b] ∧ H a = some (.tup (mkV m)) ∧ H b = some (.tup (stV sp)) ∧ Q (.bl (fitC m sp)) H
def sp_l_fit : Sp := fun vs H Q _ => ∃ a b m sp, vs = [.ref a, .ref b] ∧ H a = some (.tup (mkV m)) ∧ H b = some (.tup (stV sp)) ∧ MrkW m ∧ ∀ H', Same H H' → Q (.bl (fitC m sp)) H'
def sp_l_whole : Sp := fun vs H Q _ => ∃ n : Int, vs = [.int n] ∧ Q (.bl true) H
def sp_rooms_on : Sp := fun vs H Q _ => ∃ (a d sa : Addr) (m : Mch) (ks : List (Int × Int)) (st : Stp), vs = [.ref a, .ref d, .ref sa] ∧ MchAt H a m ∧ MchOk m ∧ H d = some (.dK (kvI ks)) ∧ ks.length ≤ 100 ∧ (∀ p ∈ ks, 0 ≤ p.1 ∧ p.1 ≤ m.mks.length) ∧ H sa = some (.tup (stV st)) ∧ ∀ q H' ks', H q = none → Same H H' → H' q = some (.dK (kvI ks')) → Led m st (ks.map (·.1)) ks' → Q (.ref q) H'
def sp_trails : Sp := fun vs H Q _ => ∃ (a ls : Addr) (m : Mch) (ss : List Stp), vs = [.ref a, .ref ls] ∧ MchAt H a m ∧ MchOk m ∧ StepsAt H ls ss ∧ ss.length ≤ 2000 ∧ ∀ q H' ds lays, H q = none → Same H H' → H' q = some (.lst (ds.map V.ref)) → All2 (fun d ks => H' d = some (.dK (kvI ks))) ds lays → Lays m ss lays → Q (.ref q) H'
def sp_rooms_behind : Sp := fun vs H Q _ => ∃ (a ls : Addr) (m : Mch) (ss : List Stp), vs = [.ref a, .ref ls] ∧ MchAt H a m ∧ MchOk m ∧ StepsAt H ls ss ∧ ss.length ≤ 2000 ∧ ∀ q H', H q = none → Same H H' → H' q = some (.lst ((walkC m [0] ss).map V.int)) → Q (.ref q) H'
def sp_taken : Sp := fun vs H Q _ => ∃ (a ls : Addr) (m : Mch) (ss : List Stp), vs = [.ref a, .ref ls] ∧ MchAt H a m ∧ MchOk m ∧ StepsAt H ls ss ∧ ss.length ≤ 2000 ∧ ∀ H', Same H H' → Q (.bl ((walkC m [0] ss).any (endC m))) H'
def sp_run_of : Sp := fun vs H Q _ => ∃ (a ls : Addr) (m : Mch) (ss : List Stp), vs = [.ref a, .ref ls] ∧ MchAt H a m ∧ MchOk m ∧ StepsAt H ls ss ∧ ss.length ≤ 2000 ∧ (∀ H', Same H H' → (walkC m [0] ss).any (endC m) = false → Q .non H') ∧ ∀ q H' run, H q = none → Same H H' → H' q = some (.lst (run.map V.int)) → (walkC m [0] ss).any (endC m) = true → run.length = ss.length → chainC m 0 ss run → Q (.ref q) H'
def sp_l_step_for : Sp := fun vs H Q _ => ∃ (c : Int) (mk nm : Addr) (b : Int) (m : Mrk) (ns : List (List Nat)), vs = [.int c, .ref mk, .ref nm, .int b] ∧ H mk = some (.tup (mkV m)) ∧ MrkW m ∧ NamesAt H nm ns ∧ halfB b ∧ ∀ s p H', okT s.nm → H p = none → Same H H' → H' p = some (.tup (stV s)) → Q (.ref p) H'
def sp_l_rooms_by : Sp := fun vs H Q _ => ∃ (c n : Int) (b : Bool), vs = [.int c, .int n, .bl b] ∧ 0 ≤ n ∧ n ≤ 50 ∧ ∀ q H' (l : List Int), H q = none → Same H H' → H' q = some (.lst (l.map V.int)) → (∀ r ∈ l, 1 ≤ r ∧ r ≤ n) → l.length ≤ 100 → Q (.ref q) H'
def sp_l_walk : Sp := fun vs H Q _ => ∃ (lm lf ls : Addr) (m : Mch) (ss : List Stp), vs = [.ref lm, .ref lf, .ref ls] ∧ MksAt H lm m.mks ∧ FolAt H lf m.fol ∧ MchOk m ∧ StepsAt H ls ss ∧ ∀ q H', H q = none → Same H H' → H' q = some (.lst ((walkC m [0] ss).map V.int)) → Q (.ref q) H'
def sp_l_rising : Sp := fun vs H Q _ => ∃ (a b : Addr) (l : List Int), vs = [.ref a, .ref b] ∧ H a = some (.lst (l.map V.int)) ∧ H b = some (.lst (l.map V.int)) ∧ Q (.bl true) H
def sp_l_run : Sp := fun vs H Q _ => ∃ (r lm lf le ls : Addr) (m : Mch) (ss : List Stp) (run : List Int), vs = [.ref r, .ref lm, .ref lf, .ref le, .ref ls] ∧ H r = some (.lst (run.map V.int)) ∧ MksAt H lm m.mks ∧ FolAt H lf m.fol ∧ EndsAt H le m.ends ∧ MchOk m ∧ StepsAt H ls ss ∧ run.length = ss.length ∧ ss.length ≤ 2000 ∧ chainC m 0 ss run ∧ ∀ H', Same H H' → Q (.bl true) H'
def sp_l_steps_by : Sp := fun vs H Q _ => ∃ (lc lm nm : Addr) (b : Int) (cs : List Int) (ms : List Mrk) (ns : List (List Nat)), vs = [.ref lc, .ref lm, .ref nm, .int b] ∧ H lc = some (.lst (cs.map V.int)) ∧ cs.length ≤ 63 ∧ MksAt H lm ms ∧ ms ≠ [] ∧ ms.length ≤ 24 ∧ NamesAt H nm ns ∧ halfB b ∧ ∀ q H' ss, H q = none → Same H H' → StepsAt H' q ss → ss.length ≤ 63 → Q (.ref q) H'
def sp_l_steps_led : Sp := fun vs H Q _ => ∃ (lc lm lf nm : Addr) (b : Int) (cs : List Int) (m : Mch) (ns : List (List Nat)), vs = [.ref lc, .ref lm, .ref lf, .ref nm, .int b] ∧ H lc = some (.lst (cs.map V.int)) ∧ cs.length ≤ 63 ∧ MksAt H lm m.mks ∧ FolAt H lf m.fol ∧ MchOk m ∧ NamesAt H nm ns ∧ halfB b ∧ ∀ p q H' ss r, H p = none → H q = none → Same H H' → H' p = some (.tup [.ref q, .int r]) → StepsAt H' q ss → ss.length ≤ 63 → 0 ≤ r → r ≤ m.mks.length → Q (.ref p) H'
def sp_l_steps_all : Sp := fun vs H Q _ => ∃ (h : Int) (lc lm lf le lw nm : Addr) (b : Int) (cs : List Int) (m : Mch) (ns : List (List Nat)), vs = [.int h, .ref lc, .ref lm, .ref lf, .ref le, .ref lw] ∧ H lc = some (.lst (cs.map V.int)) ∧ cs.length ≤ 63 ∧ MksAt H lm m.mks ∧ m.mks ≠ [] ∧ FolAt H lf m.fol ∧ EndsAt H le m.ends ∧ lm ≠ le ∧ MchOk m ∧ H lw = some (.tup [.ref nm, .int b]) ∧ NamesAt H nm ns ∧ halfB b ∧
  ∀ q H' ss bs, H q = none → (∀ x o, x ≠ le → H x = some o → H' x = some o) → EndsAt H' le bs → bs.length = m.ends.length → StepsAt H' q ss → ss.length ≤ 1000 → Q (.ref q) H'
section
variable {P : Program} {w : World} {K : PySem.W.Frag} {mg : Str → Option Value} {base : Heap} {t : Ad}
theorem sc_l_cell_at : FnScope ["script", "k"] ["script", "k"] (defScope s_l_cell_at) := ⟨rfl, rfl, rfl, by decide +kernel, rfl, by decide +kernel, by decide +kernel⟩
theorem ok_l_cell_at (T : Txt K mg t) : FnOk P w K mg base (CX1 P w) 1 t.a_l_cell_at t.d_l_cell_at ["script", "k"] (sp_l_cell_at K) := by
  refine T.l_cell_at.fn.okN sc_l_cell_at (fun vs H Q E h => ?_) (fun cdv A outer s H vs Q E hr h => ?_)
  · obtain ⟨a, ns, k0, rfl, hs, h0, k⟩ := h
    rfl
  · obtain ⟨a, ns, k0, rfl, hs, h0, k⟩ := h
    refine ⟨_, Bx.un (bpss_cons (bps_if (bpt_cmpR op_lt (bpv 1) (bpe_callB call_len_seq (by rfl) T.b_len PySem.boot_len (bpa_cons (bpv 0) bpa_nil)) (nomark _))
      (bpss_one (bps_ret (bpe_ixA ix_list (bpv 0) (bpv 1))))
      bpss_nil)
      (bpss_one (bps_ret bpe_int))), ?_⟩
    walk_at "rd"
    refine ⟨_, .inl hs, ?_⟩
    rw [List.length_map]
    split
    · rename_i h
      obtain ⟨v, e1, e2⟩ := atI_in (xs := ns.map V.int) h0 (by rw [List.length_map]; exact h)
      obtain ⟨z, _, rfl⟩ := map_get e2
      exact ⟨a, _, _, _, rfl, rfl, hs, e1, k z⟩
    · exact k 0
theorem sc_l_mixed : FnScope ["cell"] ["cell"] (defScope s_l_mixed) := ⟨rfl, rfl, rfl, by decide +kernel, rfl, by decide +kernel, by decide +kernel⟩
theorem ok_l_mixed (T : Txt K mg t) : FnOk P w K mg base (CX1 P w) 1 t.a_l_mixed t.d_l_mixed ["cell"] (sp_l_mixed) := by
  refine T.l_mixed.fn.okN sc_l_mixed (fun vs H Q E h => ?_) (fun cdv A outer s H vs Q E hr h => ?_)
  · obtain ⟨c, rfl, k⟩ := h
    rfl
  · obtain ⟨c, rfl, k⟩ := h
    refine ⟨_, Bx.un (bpss_one (bps_ret (bpe_op op_mod (bpe_op op_add (bpe_op op_mul (bpe_op op_mod (bpv 0) (bpe_op op_pow bpe_int bpe_int)) bpe_int) bpe_int) bpe_int))), ?_⟩
    walk_at "rd"
    refine ⟨by decide, .inr ⟨by decide, by decide⟩, ?_⟩
    generalize c % 1000000000000000000000000000000000000000000000000000000000000 * 48271 + 12345 = z
    exact k _ (by omega) (by omega)
theorem sc_l_names : FnScope ["cell", "letters", "spread", "size", "base", "at", "names", "turn", "row"] ["cell"] (defScope s_l_names) := ⟨rfl, rfl, rfl, by decide +kernel, rfl, by decide +kernel, by decide +kernel⟩
theorem ok_l_names (T : Txt K mg t) : FnOk P w K mg base (CX1 P w) 1 t.a_l_names t.d_l_names ["cell"] (sp_l_names) := by
  refine T.l_names.fn.okN sc_l_names (fun vs H Q E h => ?_) (fun cdv A outer s H vs Q E hr h => ?_)
  · obtain ⟨c, rfl, k⟩ := h
    rfl
  · obtain ⟨c, rfl, k⟩ := h
    refine ⟨_, Bx.un (bpss_cons (bps_set (i := 1) sc_l_names.nd rfl (by first | exact Or.inl rfl | exact Or.inr rfl) bpe_str)
      (bpss_cons (bps_set (i := 2) sc_l_names.nd rfl (by first | exact Or.inl rfl | exact Or.inr rfl) (bpe_op op_mod (bpv 0) (bpe_op op_pow bpe_int bpe_int)))
      (bpss_cons (bps_set (i := 3) sc_l_names.nd rfl (by first | exact Or.inl rfl | exact Or.inr rfl) (bpe_op op_add bpe_int (bpe_op op_mod (bpv 2) bpe_int)))
      (bpss_cons (bps_setC (i := 4) sc_l_names.nd rfl (by first | exact Or.inl rfl | exact Or.inr rfl) rfl (N := ["k", "spread"]) (fr := [2]) (CSc.of (by kernel_rfl)) (bpi_range1 rfl T.b_range (bpa_cons (bpv 3) bpa_nil)) (fun _ _ _ _ _ => bpts_nil)
        (fun _ _ _ _ _ => (bpe_op op_mod (bpe_op op_add (bpe_op op_fdiv (bpv 1) bpe_int) (bpe_op op_mul (bpe_op op_mod (bpe_op op_fdiv (bpv 1) bpe_int) bpe_int) (bpv 0))) bpe_int)))
      (bpss_cons (bps_set (i := 5) sc_l_names.nd rfl (by first | exact Or.inl rfl | exact Or.inr rfl) (bpe_op op_mod (bpe_op op_fdiv (bpv 2) bpe_int) (bpv 3)))
      (bpss_cons (bps_set (i := 6) sc_l_names.nd rfl (by first | exact Or.inl rfl | exact Or.inr rfl) (bpe_lst bpa_nil))
      (bpss_cons (bps_for PassesOwn.never rfl (bpi_range1 rfl T.b_range (bpa_cons bpe_int bpa_nil)) (bpg_name (i := 7) sc_l_names.nd rfl (by first | exact Or.inl rfl | exact Or.inr rfl))
      (bpss_cons (bps_set (i := 8) sc_l_names.nd rfl (by first | exact Or.inl rfl | exact Or.inr rfl) (bpe_callTy call_list_of (by rfl) T.b_list PyProof.Rows.boot_list (bpa_cons (bpv 4) bpa_nil)))
      (bpss_cons (bps_asg (bpe_op op_mod (bpe_op op_add (bpe_ixA ix_list (bpv 4) (bpv 5)) (bpe_op op_mul (bpv 7) (bpe_op op_add bpe_int (bpe_op op_mod (bpe_op op_fdiv (bpv 2) bpe_int) bpe_int)))) bpe_int) (bpg_sub (bpv 8) (bpv 5) set_list))
      (bpss_one (bps_expr (bpe_bm PySem.F.plainAttrs_list PySem.F.slot_list_append PySem.F.type_list_append mt_append (bpv 6) (bpa_cons (bpe_bm PySem.F.plainAttrs_str PySem.F.slot_str_join PySem.F.type_str_join mt_join bpe_str (bpa_cons (bpe_comp rfl (N := ["k", "letters"]) (fr := [1]) (CSc.of (by kernel_rfl)) (bpi_list (bpv 8)) (fun _ _ _ _ _ => bpts_nil)
        (fun _ _ _ _ _ => (bpe_ixA ix_str (bpv 1) (bpv 0)))) bpa_nil)) bpa_nil)))))))
      (bpss_cons (bps_expr (bpe_bm PySem.F.plainAttrs_list PySem.F.slot_list_append PySem.F.type_list_append mt_append (bpv 6) (bpa_cons (bpe_op op_add_str (bpe_ixA ix_list (bpv 6) bpe_int) (bpe_ixA ix_str (bpv 1) (bpe_op op_mod (bpe_op op_fdiv (bpv 2) bpe_int) bpe_int))) bpa_nil)))
      (bpss_one (bps_ret (bpv 6))))))))))), ?_⟩
    walk_at "rs"
    refine seq_rule fun N hN => ?_
    walk_at "rd"
    refine hN _ _ ?_
    clear hN N
    refine seq_rule fun N hN => ?_
    walk_at "rd"
    refine ⟨by decide, hN _ _ ?_⟩
    clear hN N
    generalize c % 1000000000 = n
    refine seq_rule fun N hN => ?_
    walk_at "rd"
    refine hN _ _ ?_
    clear hN N
    obtain ⟨sz, hsz, z1, z2⟩ : ∃ sz : Int, 1 + n % 11 = sz ∧ 1 ≤ sz ∧ sz ≤ 11 := ⟨_, rfl, by omega, by omega⟩
    rw [hsz]
    refine seq_rule fun N hN => ?_
    walk_at "rd"
    refine ⟨_, rfl, _, rfl, by omega, by omega, comp_map (tells_range (n := sz.toNat)) (fun j => .int ((n / 121 + n / 3146 % 3 * (0 + (j : Int))) % 26)) (sz_of (by rw [List.length_range]; omega)) (fun j H2 Q2 _ _ h => ?_) fun bs H1 hbs s1 d1 => hN _ _ ?_⟩
    · walk_at "rd"
      exact ⟨.inl (by omega), h _ (Same.refl _)⟩
    clear hN N
    obtain ⟨js, e1, ljs, ojs⟩ : ∃ js : List Int, H1 bs = some (.lst (js.map V.int)) ∧ js.length = sz.toNat ∧ ∀ j ∈ js, 0 ≤ j ∧ j < 26 := by
      refine ⟨(List.range sz.toNat).map fun (j : Nat) => (n / 121 + n / 3146 % 3 * (0 + (j : Int))) % 26, by rw [List.map_map]; exact d1, by simp, fun j hj => ?_⟩
      obtain ⟨x, _, rfl⟩ := List.mem_map.mp hj
      omega
    clear d1
    refine seq_rule fun N hN => ?_
    walk_at "rd"
    refine ⟨by omega, hN _ _ ?_⟩
    clear hN N
    obtain ⟨at_, hat, a1, a2⟩ : ∃ at_ : Int, n / 11 % sz = at_ ∧ 0 ≤ at_ ∧ at_ < sz := ⟨_, rfl, Int.emod_nonneg _ (by omega), Int.emod_lt_of_pos _ (by omega)⟩
    rw [hat]
    clear hat hsz
    refine seq_rule fun N hN => ?_
    walk_at "rd"
    refine ⟨Nat.zero_le _, fun ps hps => hN _ _ ?_⟩
    clear hN N
    have n1 : Same H1 (upd H1 ps (.lst [])) := Same.new hps
    have e2 := n1 _ _ e1
    have s2 := s1.trans n1
    have hps0 := s1.free hps
    have nbp : bs ≠ ps := fun z => by rw [← z, e1] at hps; cases hps
    have p2 : upd H1 ps (.lst []) ps = some (.lst []) := upd_same
    generalize upd H1 ps (.lst []) = H2 at e2 s2 p2
    clear e1 n1
    refine seq_rule fun N hN => ?_
    refine ⟨_, rfl, by decide, by decide, for_range (n := 3) (lo := 0) (fun i σ H3 => ∃ v v' ls, σ = [some (.int c), some (.str (tx abc)), some (.int n), some (.int sz), some (.ref bs), some (.int at_), some (.ref ps), v, v'] ∧ Same H H3 ∧ H3 bs = some (.lst (js.map V.int)) ∧ H3 ps = some (.lst (ls.map fun l => .str (tx l))) ∧ ls.length = i ∧ ∀ l ∈ ls, l.length = sz.toNat ∧ ∀ x ∈ l, x ∈ abc)
      ⟨none, none, [], rfl, s2, e2, p2, rfl, fun l hl => nomatch hl⟩ ?_ ?_⟩
    · rintro i σ H3 hi ⟨v, v', ls, rfl, s3, b3, p3, ll, lo⟩
      clear hN
      refine seq_rule fun N2 hN => ?_
      walk_at "rg"
      walk_at "rd"
      refine ⟨_, .inl (SqL.of b3), fun r hr => hN _ _ ?_⟩
      clear hN N2
      have n4 : Same H3 (upd H3 r (.lst (js.map V.int))) := Same.new hr
      have r4 : upd H3 r (.lst (js.map V.int)) r = some (.lst (js.map V.int)) := upd_same
      have s4 := s3.trans n4
      have b4 := n4 _ _ b3
      have p4 := n4 _ _ p3
      have hr0 := s3.free hr
      have nbr : bs ≠ r := fun z => by rw [← z, b3] at hr; cases hr
      have npr : ps ≠ r := fun z => by rw [← z, p3] at hr; cases hr
      clear n4
      generalize upd H3 r (.lst (js.map V.int)) = H4 at r4 s4 b4 p4
      refine seq_rule fun N2 hN => ?_
      walk_at "rd"
      obtain ⟨v1, e1, e2'⟩ := atI_in (xs := js.map V.int) a1 (by rw [List.length_map, ljs]; omega)
      obtain ⟨z, hz, rfl⟩ := map_get e2'
      refine rd_ixL b4 e1 ⟨.inl (by omega), _, rfl, _, r4, _, ixN_nat a1 (by rw [List.length_map, ljs]; omega), hN _ _ ?_⟩
      clear hN N2
      rw [← List.map_set (f := V.int)]
      have hjs2 : ∀ j ∈ js.set at_.toNat ((z + (0 + (i : Int)) * (1 + n / 9438 % 12)) % 26), 0 ≤ j ∧ j < 26 := fun j hj => by
        rcases List.mem_or_eq_of_mem_set hj with h | h
        · exact ojs j h
        · omega
      have ljs2 : (js.set at_.toNat ((z + (0 + (i : Int)) * (1 + n / 9438 % 12)) % 26)).length = sz.toNat := by rw [List.length_set, ljs]
      generalize js.set at_.toNat ((z + (0 + (i : Int)) * (1 + n / 9438 % 12)) % 26) = js2 at hjs2 ljs2
      have s5 : Same H (upd H4 r (.lst (js2.map V.int))) := s4.upd_new hr0
      have r5 : upd H4 r (.lst (js2.map V.int)) r = some (.lst (js2.map V.int)) := upd_same
      have b5 : upd H4 r (.lst (js2.map V.int)) bs = some (.lst (js.map V.int)) := (upd_ne nbr).trans b4
      have p5 : upd H4 r (.lst (js2.map V.int)) ps = some (.lst (ls.map fun l => .str (tx l))) := (upd_ne npr).trans p4
      generalize upd H4 r (.lst (js2.map V.int)) = H5 at s5 r5 b5 p5
      walk_at "rd"
      refine ⟨tyV_lst (SqL.of p5), _, rfl, r, rfl, ⟨_, SqL.of r5⟩, comp_word (SqL.of r5) hjs2 (by omega) (fun j H6 Q6 h => ?_) fun D H6 hD s6 d6 => ⟨D, _, rfl, rfl, d6, by rw [word_sum]; omega, _, s6 _ _ p5, ?_, s5.trans s6 |>.upd_new hps0, (upd_ne nbp).trans (s6 _ _ b5), ls ++ [js2.map letC], ?_, ?_, fun l hl => ?_⟩⟩
      · walk_at "rd"
        exact h
      · rw [List.length_map, ll]
        exact Nat.lt_of_lt_of_le (show i < 3000 by omega) (sz_of (by decide))
      · rw [upd_same, List.map_append, word_flat]
        rfl
      · rw [List.length_append, ll]
        rfl
      · rcases List.mem_append.mp hl with h | h
        · exact lo l h
        · rw [List.mem_singleton.mp h]
          exact ⟨by rw [List.length_map, ljs2], word_abc js2⟩
    · rintro σ H3 ⟨v, v', ls, rfl, s3, b3, p3, ll, lo⟩
      refine hN _ _ ?_
      clear hN N
      refine seq_rule fun N hN => ?_
      walk_at "rd"
      obtain ⟨l0, lr, rfl⟩ : ∃ l0 lr, ls = l0 :: lr := by
        cases ls with
        | nil => cases ll
        | cons a b => exact ⟨a, b, rfl⟩
      obtain ⟨l1, l2⟩ := lo l0 (by simp)
      refine ⟨tyV_lst (SqL.of p3), rd_ixL (v := .str (tx l0)) p3 atI_zero (rd_sign (by decide) (by omega) (by show n / 31 % 26 < 26; omega) fun x hx => ⟨_, rfl, _, rfl, ?_, _, p3, ?_, hN _ _ ?_⟩)⟩
      · rw [tx_len, tx_len]
        exact sz_of (by simp only [List.length_cons, List.length_nil]; omega)
      · rw [List.length_map, ll]
        exact Nat.lt_of_lt_of_le (show 3 < 3000 by decide) (sz_of (by decide))
      clear hN N
      walk_at "rd"
      refine k ps _ ((l0 :: lr) ++ [l0 ++ [x]]) hps0 (s3.upd_new hps0) ⟨?_, ?_, fun l hl => ?_⟩
      · rw [upd_same, List.map_append]
        simp only [List.map_cons, List.map_nil, tx_app, List.cons_append]
      · rw [List.length_append, ll]
        rfl
      · rcases List.mem_append.mp hl with h | h
        · obtain ⟨h1, h2⟩ := lo l h
          exact ⟨by omega, by omega, h2⟩
        · rw [List.mem_singleton.mp h]
          refine ⟨by rw [List.length_append]; simp, by rw [List.length_append, l1]; simp only [List.length_cons, List.length_nil]; omega, fun y hy => ?_⟩
          rcases List.mem_append.mp hy with h | h
          · exact l2 y h
          · rw [List.mem_singleton.mp h]
            exact List.mem_of_getElem? hx
theorem sc_l_base : FnScope ["cell", "size"] ["cell"] (defScope s_l_base) := ⟨rfl, rfl, rfl, by decide +kernel, rfl, by decide +kernel, by decide +kernel⟩
theorem ok_l_base (T : Txt K mg t) : FnOk P w K mg base (CX1 P w) 1 t.a_l_base t.d_l_base ["cell"] (sp_l_base) := by
  refine T.l_base.fn.okN sc_l_base (fun vs H Q E h => ?_) (fun cdv A outer s H vs Q E hr h => ?_)
  · obtain ⟨c, rfl, k⟩ := h
    rfl
  · obtain ⟨c, rfl, k⟩ := h
    refine ⟨_, Bx.un (bpss_cons (bps_set (i := 1) sc_l_base.nd rfl (by first | exact Or.inl rfl | exact Or.inr rfl) (bpe_op op_mod (bpv 0) (bpe_op op_pow bpe_int bpe_int)))
      (bpss_cons (bps_if (bpt_cmpR op_eq (bpe_op op_mod (bpv 1) bpe_int) bpe_int (nomark _))
      (bpss_one (bps_ret (bpe_op op_sub bpe_int (bpe_op op_fdiv (bpv 1) bpe_int))))
      bpss_nil)
      (bpss_one (bps_ret (bpe_op op_fdiv (bpv 1) bpe_int))))), ?_⟩
    walk_at "rd"
    refine ⟨by decide, ?_⟩
    split <;> exact k _ (by unfold halfB; omega)
theorem sc_l_number : FnScope ["cell", "turn", "base"] ["cell", "turn", "base"] (defScope s_l_number) := ⟨rfl, rfl, rfl, by decide +kernel, rfl, by decide +kernel, by decide +kernel⟩
theorem ok_l_number (T : Txt K mg t) : FnOk P w K mg base (CX1 P w) 2 t.a_l_number t.d_l_number ["cell", "turn", "base"] (sp_l_number) := by
  have G_l_base := (ok_l_base (P := P) (w := w) (base := base) T).mono (show 1 ≤ 1 by decide)
  refine T.l_number.fn.okN sc_l_number (fun vs H Q E h => ?_) (fun cdv A outer s H vs Q E hr h => ?_)
  · obtain ⟨c, tu, b, rfl, hb, k⟩ := h
    rfl
  · obtain ⟨c, tu, b, rfl, hb, k⟩ := h
    refine ⟨_, Bx.un (bpss_cons (bps_if (bpt_cmpR op_eq (bpe_op op_mod (bpv 1) bpe_int) bpe_int (nomark _))
      (bpss_one (bps_ret (bpe_op op_sub (bpe_op op_add (bpv 2) (bpe_op op_mod (bpe_op op_fdiv (bpv 1) bpe_int) bpe_int)) bpe_int)))
      bpss_nil)
      (bpss_cons (bps_if (bpt_cmpR op_eq (bpe_op op_mod (bpv 1) bpe_int) bpe_int (nomark _))
      (bpss_one (bps_ret (bpe_op op_sub (bpe_op op_mod (bpe_op op_fdiv (bpv 1) bpe_int) bpe_int) bpe_int)))
      bpss_nil)
      (bpss_one (bps_ret (bpe_fnx T.l_base G_l_base hr pass0' (bpa_cons (bpv 0) bpa_nil)))))), ?_⟩
    walk_at "rd"
    have big : (10 : Nat) ^ 60 = 1000000000000000000000000000000000000000000000000000000000000 := by decide
    unfold halfB at hb
    refine ite_both (fun _ => k _ (by rw [big]; omega)) fun _ => ite_both (fun _ => k _ (by rw [big]; omega)) fun _ => ⟨_, rfl, fun n hn => k n ?_⟩
    unfold halfB at hn
    rw [big]
    omega
theorem sc_l_mark_by : FnScope ["cell", "names", "base", "turn", "sign", "number"] ["cell", "names", "base"] (defScope s_l_mark_by) := ⟨rfl, rfl, rfl, by decide +kernel, rfl, by decide +kernel, by decide +kernel⟩
theorem ok_l_mark_by (T : Txt K mg t) : FnOk P w K mg base (CX1 P w) 3 t.a_l_mark_by t.d_l_mark_by ["cell", "names", "base"] (sp_l_mark_by) := by
  have G_l_mixed := (ok_l_mixed (P := P) (w := w) (base := base) T).mono (show 1 ≤ 2 by decide)
  have G_l_number := (ok_l_number (P := P) (w := w) (base := base) T).mono (show 2 ≤ 2 by decide)
  refine T.l_mark_by.fn.okN sc_l_mark_by (fun vs H Q E h => ?_) (fun cdv A outer s H vs Q E hr h => ?_)
  · obtain ⟨c, a, ns, b, rfl, hn, hb, k⟩ := h
    rfl
  · obtain ⟨c, a, ns, b, rfl, hn, hb, k⟩ := h
    refine ⟨_, Bx.un (bpss_cons (bps_set (i := 3) sc_l_mark_by.nd rfl (by first | exact Or.inl rfl | exact Or.inr rfl) (bpe_op op_fdiv (bpe_fnx T.l_mixed G_l_mixed hr pass0' (bpa_cons (bpv 0) bpa_nil)) bpe_int))
      (bpss_cons (bps_set (i := 4) sc_l_mark_by.nd rfl (by first | exact Or.inl rfl | exact Or.inr rfl) (bpe_ixA ix_list bpe_lstS (bpe_op op_mod (bpe_op op_fdiv (bpv 3) bpe_int) bpe_int)))
      (bpss_cons (bps_set (i := 5) sc_l_mark_by.nd rfl (by first | exact Or.inl rfl | exact Or.inr rfl) bpe_int)
      (bpss_cons (bps_if (bpt_cmpR op_ne (bpv 4) bpe_str (nomark _))
      (bpss_one (bps_set (i := 5) sc_l_mark_by.nd rfl (by first | exact Or.inl rfl | exact Or.inr rfl) (bpe_fnx T.l_number G_l_number hr pass0' (bpa_cons (bpv 0) (bpa_cons (bpe_op op_fdiv (bpv 3) bpe_int) (bpa_cons (bpv 2) bpa_nil))))))
      bpss_nil)
      (bpss_one (bps_ret (bpe_tup (bpa_cons bpe_str (bpa_cons (bpe_ixA ix_list (bpe_op op_cat (bpv 1) (bpe_lst (bpa_cons bpe_str bpa_nil))) (bpe_op op_mod (bpv 3) bpe_int)) (bpa_cons (bpe_cmpR op_eq (bpe_op op_mod (bpe_op op_fdiv (bpv 3) bpe_int) bpe_int) bpe_int (nomark _)) (bpa_cons (bpv 4) (bpa_cons (bpv 5) bpa_nil)))))))))))), ?_⟩
    walk_at "rs"
    obtain ⟨hn1, hn2, hn3⟩ := hn
    refine seq_rule fun N hN => ?_
    walk_at "rd"
    refine ⟨_, rfl, fun m h0 h1 => ⟨_, rfl, hN _ _ ?_⟩⟩
    clear hN N
    obtain ⟨tu, htu⟩ : ∃ tu : Int, m / 8 = tu := ⟨_, rfl⟩
    rw [htu]
    refine seq_rule fun N hN => ?_
    walk_at "rd"
    refine ⟨by decide, fun p hp => rd_pick (by omega) (by show tu / 10 % 6 < 6; omega) fun v hv => hN _ _ ?_⟩
    clear hN N
    have pick : ∃ a, v = .str (tx a) ∧ a ∈ [[], [60], [62], [61], [33]] := by
      simp only [List.mem_cons, List.not_mem_nil, or_false] at hv
      rcases hv with rfl | rfl | rfl | rfl | rfl | rfl <;> exact ⟨_, rfl, by decide⟩
    obtain ⟨sg, rfl, hsg⟩ := pick
    have s1 := Same.new (o := .lst [V.str (tx []), V.str (tx []), V.str (tx [60]), V.str (tx [62]), V.str (tx [61]), V.str (tx [33])]) hp
    generalize upd H p (.lst [V.str (tx []), V.str (tx []), V.str (tx [60]), V.str (tx [62]), V.str (tx [61]), V.str (tx [33])]) = H1 at s1
    refine seq_rule fun N hN => ?_
    walk_at "rd"
    refine hN _ _ ?_
    clear hN N
    refine seq_rule fun N hN => ?_
    have hM : ∀ n : Int, n.natAbs < 10 ^ 60 → (sg = [] → n = 0) → N [some (.int c), some (.ref a), some (.int b), some (.int tu), some (.str (tx sg)), some (.int n)] H1 := by
      intro n hn h0
      refine hN _ _ ?_
      clear hN N
      walk_at "rd"
      refine ⟨by decide, fun q hq => ⟨_, (s1.upd_new (o := .lst [V.str (tx [95])]) (s1.free hq)) _ _ hn1, _, upd_same, by simp only [List.length_map, hn2]; decide, fun r hr => ?_⟩⟩
      obtain ⟨v, e1, e2⟩ := atI_in (xs := (ns.map fun l => V.str (tx l)) ++ [V.str (tx [95])]) (i := tu % 5) (by omega) (by simp only [List.length_append, List.length_map, hn2]; show tu % 5 < 5; omega)
      have pick : ∃ l, v = .str (tx l) ∧ (l = [95] ∨ GoodN l) := by
        have := List.mem_of_getElem? e2
        rcases List.mem_append.mp this with h | h
        · obtain ⟨l, hl, rfl⟩ := List.mem_map.mp h
          exact ⟨l, rfl, .inr (hn3 l hl)⟩
        · rw [List.mem_singleton.mp h]
          exact ⟨[95], rfl, .inl rfl⟩
      obtain ⟨l, rfl, hl⟩ := pick
      have s2 := (Same.new (o := .lst [V.str (tx [95])]) hq).upd_new (o := .lst ((ns.map fun l => V.str (tx l)) ++ [V.str (tx [95])])) ((Same.new (o := .lst [V.str (tx [95])]) hq).free hr)
      refine rd_ixL upd_same e1 ⟨by decide, fun p3 h3 => ?_⟩
      have s3 := s2.upd_new (o := .tup (mkV ⟨l, decide (tu / 5 % 2 = 1), sg, n⟩)) (s2.free h3)
      exact k ⟨l, _, sg, n⟩ p3 _ ⟨hl, hsg, hn, h0⟩ (s1.free (s2.free h3)) (s1.trans s3) upd_same
    walk_at "rd"
    refine ite_both (fun h => ?_) fun h => ?_
    · exact ⟨_, _, _, rfl, hb, fun n hn => hM n hn fun z => absurd z h⟩
    · exact hM 0 (by decide) fun _ => rfl
theorem sc_l_step_by : FnScope ["cell", "names", "base", "turn"] ["cell", "names", "base"] (defScope s_l_step_by) := ⟨rfl, rfl, rfl, by decide +kernel, rfl, by decide +kernel, by decide +kernel⟩
theorem ok_l_step_by (T : Txt K mg t) : FnOk P w K mg base (CX1 P w) 3 t.a_l_step_by t.d_l_step_by ["cell", "names", "base"] (sp_l_step_by) := by
  have G_l_mixed := (ok_l_mixed (P := P) (w := w) (base := base) T).mono (show 1 ≤ 2 by decide)
  have G_l_number := (ok_l_number (P := P) (w := w) (base := base) T).mono (show 2 ≤ 2 by decide)
  refine T.l_step_by.fn.okN sc_l_step_by (fun vs H Q E h => ?_) (fun cdv A outer s H vs Q E hr h => ?_)
  · obtain ⟨c, a, ns, b, rfl, hn, hb, k⟩ := h
    rfl
  · obtain ⟨c, a, ns, b, rfl, hn, hb, k⟩ := h
    refine ⟨_, Bx.un (bpss_cons (bps_set (i := 3) sc_l_step_by.nd rfl (by first | exact Or.inl rfl | exact Or.inr rfl) (bpe_fnx T.l_mixed G_l_mixed hr pass0' (bpa_cons (bpv 0) bpa_nil)))
      (bpss_one (bps_ret (bpe_tup (bpa_cons (bpe_ixA ix_list (bpv 1) (bpe_op op_mod (bpv 3) bpe_int)) (bpa_cons (bpe_fnx T.l_number G_l_number hr pass0' (bpa_cons (bpv 0) (bpa_cons (bpe_op op_fdiv (bpv 3) bpe_int) (bpa_cons (bpv 2) bpa_nil)))) (bpa_cons (bpe_cmpR op_eq (bpe_op op_mod (bpe_op op_fdiv (bpv 3) bpe_int) bpe_int) bpe_int (nomark _)) bpa_nil))))))), ?_⟩
    walk_at "rd"
    obtain ⟨hn1, hn2, hn3⟩ := hn
    refine ⟨_, rfl, fun m h0 h1 => ⟨_, rfl, ?_⟩⟩
    obtain ⟨v, e1, e2⟩ := atI_in (xs := ns.map fun l => V.str (tx l)) (i := m % 4) (by omega) (by rw [List.length_map, hn2]; omega)
    obtain ⟨z, hz, rfl⟩ := map_get e2
    refine rd_ixL hn1 e1 ⟨_, rfl, _, _, _, rfl, hb, fun n hn => ⟨_, rfl, by decide, fun p hp => ?_⟩⟩
    exact k ⟨z, n, _⟩ p _ ⟨hn3 z (List.mem_of_getElem? hz), hn⟩ hp (Same.new hp) upd_same
theorem sc_weight_meets : FnScope ["weight", "sign", "number"] ["weight", "sign", "number"] (defScope s_weight_meets) := ⟨rfl, rfl, rfl, by decide +kernel, rfl, by decide +kernel, by decide +kernel⟩
theorem ok_weight_meets (T : Txt K mg t) : FnOk P w K mg base (CX1 P w) 1 t.a_weight_meets t.d_weight_meets ["weight", "sign", "number"] (sp_weight_meets) := by
  refine T.weight_meets.fn.okN sc_weight_meets (fun vs H Q E h => ?_) (fun cdv A outer s H vs Q E hr h => ?_)
  · obtain ⟨wt, sg, n, rfl, k⟩ := h
    rfl
  · obtain ⟨wt, sg, n, rfl, k⟩ := h
    refine ⟨_, Bx.un (bpss_cons (bps_if (bpt_cmpR op_eq (bpv 1) bpe_str (nomark _))
      (bpss_one (bps_ret (bpe_cmpR op_lt (bpv 0) (bpv 2) (nomark _))))
      bpss_nil)
      (bpss_cons (bps_if (bpt_cmpR op_eq (bpv 1) bpe_str (nomark _))
      (bpss_one (bps_ret (bpe_cmpR op_gt (bpv 0) (bpv 2) (nomark _))))
      bpss_nil)
      (bpss_cons (bps_if (bpt_cmpR op_eq (bpv 1) bpe_str (nomark _))
      (bpss_one (bps_ret (bpe_cmpR op_eq (bpv 0) (bpv 2) (nomark _))))
      bpss_nil)
      (bpss_cons (bps_if (bpt_cmpR op_eq (bpv 1) bpe_str (nomark _))
      (bpss_one (bps_ret (bpe_cmpR op_ne (bpv 0) (bpv 2) (nomark _))))
      bpss_nil)
      (bpss_one (bps_ret bpe_bl)))))), ?_⟩
    walk_at "rd"
    unfold meetC at k
    refine ite_both (fun h => ?_) fun h => ?_
    · rw [if_pos h] at k
      exact k
    rw [if_neg h] at k
    refine ite_both (fun h => ?_) fun h => ?_
    · rw [if_pos h] at k
      exact k
    rw [if_neg h] at k
    refine ite_both (fun h => ?_) fun h => ?_
    · rw [if_pos h] at k
      exact k
    rw [if_neg h] at k
    refine ite_both (fun h => ?_) fun h => ?_
    · rw [if_pos h] at k
      exact k
    rw [if_neg h] at k
    exact k
theorem sc_fits : FnScope ["mark", "step"] ["mark", "step"] (defScope s_fits) := ⟨rfl, rfl, rfl, by decide +kernel, rfl, by decide +kernel, by decide +kernel⟩
theorem ok_fits (T : Txt K mg t) : FnOk P w K mg base (CX1 P w) 2 t.a_fits t.d_fits ["mark", "step"] (sp_fits) := by
  have G_weight_meets := (ok_weight_meets (P := P) (w := w) (base := base) T).mono (show 1 ≤ 1 by decide)
  refine T.fits.fn.okN sc_fits (fun vs H Q E h => ?_) (fun cdv A outer s H vs Q E hr h => ?_)
  · obtain ⟨a, b, m, sp, rfl, ha, hb, k⟩ := h
    rfl
  · obtain ⟨a, b, m, sp, rfl, ha, hb, k⟩ := h
    refine ⟨_, Bx.un (bpss_cons (bps_if (bpt_cmpR op_ne (bpe_ixA ix_tup (bpv 1) bpe_int) (bpe_ixA ix_tup (bpv 0) bpe_int) (nomark _))
      (bpss_one (bps_ret bpe_bl))
      bpss_nil)
      (bpss_cons (bps_if (bpw_and (bpt_cmpR op_ne (bpe_ixA ix_tup (bpv 0) bpe_int) (bpe_const T.c_ANY_NAME) (nomark _)) (bpw_and1 (bpt_cmpR op_ne (bpe_ixA ix_tup (bpv 0) bpe_int) (bpe_ixA ix_tup (bpv 1) bpe_int) (nomark _)))).bpt
      (bpss_one (bps_ret bpe_bl))
      bpss_nil)
      (bpss_one (bps_ret (bpe_fnx T.weight_meets G_weight_meets hr pass0' (bpa_cons (bpe_ixA ix_tup (bpv 1) bpe_int) (bpa_cons (bpe_ixA ix_tup (bpv 0) bpe_int) (bpa_cons (bpe_ixA ix_tup (bpv 0) bpe_int) bpa_nil)))))))), ?_⟩
    walk_at "rd"
    have last : ∀ (_ : sp.back = m.back) (_ : m.nm = [95] ∨ m.nm = sp.nm), rIxT K (V.ref b) (V.int 1) H fun x H1 => rIxT K (V.ref a) (V.int 3) H1 fun x_1 H1 => rIxT K (V.ref a) (V.int 4) H1 fun x_2 H1 => sp_weight_meets [x, x_1, x_2] H1 Q E0 := by
      intro h1 h2
      refine rd_ixT hb rfl (rd_ixT ha rfl (rd_ixT ha rfl ⟨_, _, _, rfl, ?_⟩))
      unfold fitC at k
      rw [decide_eq_true h1] at k
      rcases h2 with h2 | h2
      · rw [decide_eq_true h2] at k
        simpa using k
      · rw [decide_eq_true h2] at k
        simpa using k
    refine rd_ixT hb rfl (rd_ixT ha rfl ⟨rfl, ite_both (fun h => ?_) fun h => rd_ixT ha rfl ⟨rfl, ?_⟩⟩)
    · have h1 : ¬ sp.back = m.back := fun z => h (by rw [z])
      unfold fitC at k
      rw [decide_eq_false h1] at k
      exact k
    have h1 : sp.back = m.back := by
      have := Classical.not_not.mp h
      injection this
    refine ite_both (fun h2 => rd_ixT ha rfl (rd_ixT hb rfl ⟨rfl, ite_both (fun h3 => ?_) fun h3 => ?_⟩)) fun h2 => ?_
    · have n2 : ¬ m.nm = [95] := fun z => h2 (by rw [z])
      have n3 : ¬ m.nm = sp.nm := fun z => h3 (by rw [z])
      unfold fitC at k
      rw [decide_eq_true h1, decide_eq_false n2, decide_eq_false n3] at k
      exact k
    · have := Classical.not_not.mp h3
      exact last h1 (.inr (by injection this with z; exact tx_inj.mp z))
    · have := Classical.not_not.mp h2
      exact last h1 (.inl (by injection this with z; exact tx_inj.mp z))
theorem sc_l_fit : FnScope ["mark", "step", "low", "high"] ["mark", "step"] (defScope s_l_fit) := ⟨rfl, rfl, rfl, by decide +kernel, rfl, by decide +kernel, by decide +kernel⟩
theorem ok_l_fit (T : Txt K mg t) : FnOk P w K mg base (CX1 P w) 1 t.a_l_fit t.d_l_fit ["mark", "step"] (sp_l_fit) := by
  refine T.l_fit.fn.okN sc_l_fit (fun vs H Q E h => ?_) (fun cdv A outer s H vs Q E hr h => ?_)
  · obtain ⟨a, b, m, sp, rfl, ha, hb, om, k⟩ := h
    rfl
  · obtain ⟨a, b, m, sp, rfl, ha, hb, om, k⟩ := h
    refine ⟨_, Bx.un (bpss_cons (bps_if (bpw_or (bpt_cmpR op_notIn_seq (bpe_ixA ix_tup (bpv 0) bpe_int) (bpe_lst (bpa_cons bpe_str (bpa_cons (bpe_ixA ix_tup (bpv 1) bpe_int) bpa_nil))) (by with_unfolding_all rfl)) (bpw_or1 (bpt_cmpR op_ne (bpe_ixA ix_tup (bpv 0) bpe_int) (bpe_ixA ix_tup (bpv 1) bpe_int) (nomark _)))).bpt
      (bpss_one (bps_ret bpe_bl))
      bpss_nil)
      (bpss_cons (bps_set (i := 2) sc_l_fit.nd rfl (by first | exact Or.inl rfl | exact Or.inr rfl) (bpe_cmpR op_lt (bpe_ixA ix_tup (bpv 1) bpe_int) (bpe_ixA ix_tup (bpv 0) bpe_int) (nomark _)))
      (bpss_cons (bps_set (i := 3) sc_l_fit.nd rfl (by first | exact Or.inl rfl | exact Or.inr rfl) (bpe_cmpR op_gt (bpe_ixA ix_tup (bpv 1) bpe_int) (bpe_ixA ix_tup (bpv 0) bpe_int) (nomark _)))
      (bpss_one (bps_ret (bpe_ixA ix_list (bpe_lst (bpa_cons bpe_bl (bpa_cons (bpv 2) (bpa_cons (bpv 3) (bpa_cons (bpe_and (bpe_not (bpv 2)) (bpe_one (bpe_not (bpv 3)))) (bpa_cons (bpe_or (bpv 2) (bpe_one (bpv 3))) bpa_nil)))))) (bpe_bm PySem.F.plainAttrs_list PySem.F.slot_list_index PySem.F.type_list_index mt_index bpe_lstS (bpa_cons (bpe_ixA ix_tup (bpv 0) bpe_int) bpa_nil)))))))), ?_⟩
    walk_at "rs"
    refine seq_rule fun N hN => ?_
    walk_at "rd"
    refine rd_ixT ha rfl (rd_ixT hb rfl ⟨by decide, fun p hp => rd_inS (ns := [[95], sp.nm]) (SqL.of upd_same) ⟨_, rfl, ?_⟩⟩)
    have s1 : Same H (upd H p (.lst [V.str (tx [95]), V.str (tx sp.nm)])) := Same.new hp
    generalize upd H p (.lst [V.str (tx [95]), V.str (tx sp.nm)]) = H1 at s1
    have ha1 := s1 _ _ ha
    have hb1 := s1 _ _ hb
    refine ite_both (fun h => ?_) fun h => rd_ixT ha1 rfl (rd_ixT hb1 rfl ⟨rfl, ite_both (fun h2 => ?_) fun h2 => hN _ _ ?_⟩)
    · have := k H1 s1
      unfold fitC at this
      have n1 : ¬ (m.nm = [95] ∨ m.nm = sp.nm) := fun z => by simp [z] at h
      rw [not_or] at n1
      rw [decide_eq_false n1.1, decide_eq_false n1.2] at this
      simpa using this
    · have := k H1 s1
      unfold fitC at this
      have n1 : ¬ sp.back = m.back := fun z => h2 (by rw [z])
      rw [decide_eq_false n1] at this
      simpa using this
    clear hN N
    have e1 : (decide (sp.back = m.back) && (decide (m.nm = [95]) || decide (m.nm = sp.nm))) = true := by
      have z1 : sp.back = m.back := by
        have := Classical.not_not.mp h2
        injection this with z
        exact z.symm
      have z2 : m.nm = [95] ∨ m.nm = sp.nm := by
        by_cases z : m.nm = [95]
        · exact .inl z
        · exact .inr (by simpa [z] using h)
      simp [z1, z2]
    have k2 : ∀ H', Same H1 H' → Q (.bl (meetC sp.wt m.sg m.num)) H' := fun H' s' => by
      have := k H' (s1.trans s')
      unfold fitC at this
      rw [e1, Bool.true_and] at this
      exact this
    clear k e1 h h2
    refine seq_rule fun N hN => ?_
    walk_at "rd"
    refine rd_ixT hb1 rfl (rd_ixT ha1 rfl ⟨_, rfl, _, rfl, hN _ _ ?_⟩)
    clear hN N
    refine seq_rule fun N hN => ?_
    walk_at "rd"
    refine rd_ixT hb1 rfl (rd_ixT ha1 rfl ⟨_, rfl, _, rfl, hN _ _ ?_⟩)
    clear hN N
    obtain ⟨b1, eb1⟩ : ∃ b1, decide (sp.wt < m.num) = b1 := ⟨_, rfl⟩
    obtain ⟨b2, eb2⟩ : ∃ b2, decide (m.num < sp.wt) = b2 := ⟨_, rfl⟩
    rw [eb1, eb2]
    have go : ∀ (D D2 : Addr) (H2 H3 : Hp), H1 D = none → H2 = upd H1 D (.lst [.bl true, .bl b1, .bl b2, .bl (!b1 && !b2), .bl (b1 || b2)]) → H2 D2 = none → H3 = upd H2 D2 (.lst [.str (tx []), .str (tx [60]), .str (tx [62]), .str (tx [61]), .str (tx [33])]) →
        tyV K "list" (V.ref D2) H3 ∧ rIxT K (V.ref a) (V.int 3) H3 fun x H4 => ∃ x_1, H4 D2 = some (.lst x_1) ∧ flatV x = true ∧ x_1.all flatV = true ∧ ∃ (x_2 : Nat) (x_3 : V), x_1[x_2]? = some x_3 ∧ eqV x_3 x = true ∧ (∀ (m : Nat) (z' : V), m < x_2 → x_1[m]? = some z' → eqV z' x = false) ∧ rIxL K (.ref D) (.int x_2) H4 Q := by
      rintro D D2 H2 H3 hD rfl hD2 rfl
      have s2 := Same.new (o := .lst [.bl true, .bl b1, .bl b2, .bl (!b1 && !b2), .bl (b1 || b2)]) hD
      have n3 := Same.new (o := .lst [.str (tx []), .str (tx [60]), .str (tx [62]), .str (tx [61]), .str (tx [33])]) hD2
      have d3 := n3 D _ upd_same
      have s3 := s2.trans n3
      refine ⟨tyV_lst (SqL.of upd_same), rd_ixT (s3 _ _ ha1) rfl ?_⟩
      have kk := k2 _ s3
      have om1 := om.sg
      unfold meetC at kk
      have c3 : decide (sp.wt = m.num) = (!b1 && !b2) := by
        rw [← eb1, ← eb2]
        by_cases h1 : sp.wt < m.num
        · simp only [h1, decide_true, Bool.not_true, Bool.false_and, decide_eq_false_iff_not]; omega
        · by_cases h2 : m.num < sp.wt
          · simp only [h1, h2, decide_true, decide_false, Bool.not_true, Bool.and_false, decide_eq_false_iff_not]; omega
          · simp only [h1, h2, decide_false, Bool.not_false, Bool.and_true, decide_eq_true_eq]; omega
      have c4 : (!decide (sp.wt = m.num)) = (b1 || b2) := by
        rw [c3]
        cases b1 <;> cases b2 <;> rfl
      rw [c3, eb1, show decide (sp.wt > m.num) = b2 from eb2] at kk
      have no : ∀ (sg : List Nat) (j : Nat), [[], [60], [62], [61], [33]][j]? = some sg → ∀ (i : Nat) (z' : V), i < j → [V.str (tx []), V.str (tx [60]), V.str (tx [62]), V.str (tx [61]), V.str (tx [33])][i]? = some z' → eqV z' (V.str (tx sg)) = false := by
        intro sg j hj i z' hi hz
        have hj5 : j < 5 := by
          obtain ⟨y, _⟩ := List.getElem?_eq_some_iff.mp hj
          exact y
        match j, i, hj5, hi, hj, hz with
        | 1, 0, _, _, hj, hz | 2, 0, _, _, hj, hz | 2, 1, _, _, hj, hz | 3, 0, _, _, hj, hz | 3, 1, _, _, hj, hz | 3, 2, _, _, hj, hz | 4, 0, _, _, hj, hz | 4, 1, _, _, hj, hz | 4, 2, _, _, hj, hz | 4, 3, _, _, hj, hz =>
          cases hj
          cases hz
          rfl
      have nn : (!(!b1 && !b2)) = (b1 || b2) := by cases b1 <;> cases b2 <;> rfl
      rw [nn] at kk
      generalize m.sg = sg at kk om1
      simp only [List.mem_cons, List.not_mem_nil, or_false] at om1
      rcases om1 with rfl | rfl | rfl | rfl | rfl
      · exact ⟨_, upd_same, rfl, rfl, 0, _, rfl, rfl, no _ _ rfl, rd_ixL d3 rfl kk⟩
      · exact ⟨_, upd_same, rfl, rfl, 1, _, rfl, rfl, no _ _ rfl, rd_ixL d3 rfl kk⟩
      · exact ⟨_, upd_same, rfl, rfl, 2, _, rfl, rfl, no _ _ rfl, rd_ixL d3 rfl kk⟩
      · exact ⟨_, upd_same, rfl, rfl, 3, _, rfl, rfl, no _ _ rfl, rd_ixL d3 rfl kk⟩
      · exact ⟨_, upd_same, rfl, rfl, 4, _, rfl, rfl, no _ _ rfl, rd_ixL d3 rfl kk⟩
    cases b1 <;> cases b2
    · walk_at "rd"
      exact ⟨by decide, fun D hD => ⟨by decide, fun D2 hD2 => go D D2 _ _ hD rfl hD2 rfl⟩⟩
    · walk_at "rd"
      exact ⟨by decide, fun D hD => ⟨by decide, fun D2 hD2 => go D D2 _ _ hD rfl hD2 rfl⟩⟩
    · walk_at "rd"
      exact ⟨by decide, fun D hD => ⟨by decide, fun D2 hD2 => go D D2 _ _ hD rfl hD2 rfl⟩⟩
    · walk_at "rd"
      exact ⟨by decide, fun D hD => ⟨by decide, fun D2 hD2 => go D D2 _ _ hD rfl hD2 rfl⟩⟩
theorem sc_l_whole : FnScope ["found"] ["found"] (defScope s_l_whole) := ⟨rfl, rfl, rfl, by decide +kernel, rfl, by decide +kernel, by decide +kernel⟩
theorem ok_l_whole (T : Txt K mg t) : FnOk P w K mg base (CX1 P w) 1 t.a_l_whole t.d_l_whole ["found"] (sp_l_whole) := by
  refine T.l_whole.fn.okN sc_l_whole (fun vs H Q E h => ?_) (fun cdv A outer s H vs Q E hr h => ?_)
  · obtain ⟨n, rfl, k⟩ := h
    rfl
  · obtain ⟨n, rfl, k⟩ := h
    refine ⟨_, Bx.un (bpss_one (bps_ret (bpe_and (bpe_callB call_isinst (by rfl) T.b_isinstance PyProof.Rows.boot_isinstance (bpa_cons (bpv 0) (bpa_cons (bpe_ty T.b_int PyProof.Rows.boot_int) bpa_nil))) (bpe_one (bpe_not (bpe_callB call_isinst (by rfl) T.b_isinstance PyProof.Rows.boot_isinstance (bpa_cons (bpv 0) (bpa_cons (bpe_ty T.b_bool PyProof.Rows.boot_bool) bpa_nil)))))))), ?_⟩
    walk_at "rd"
    exact ⟨_, .int _, _, kit_ii K, ite_T rfl ⟨_, .int _, _, kit_ib K, k⟩⟩
theorem sc_rooms_on : FnScope ["made", "rooms", "step", "fitting", "found", "room", "other"] ["made", "rooms", "step"] (defScope s_rooms_on) := ⟨rfl, rfl, rfl, by decide +kernel, rfl, by decide +kernel, by decide +kernel⟩
theorem ok_rooms_on (T : Txt K mg t) : FnOk P w K mg base (CX1 P w) 3 t.a_rooms_on t.d_rooms_on ["made", "rooms", "step"] (sp_rooms_on) := by
  have G_fits := (ok_fits (P := P) (w := w) (base := base) T).mono (show 2 ≤ 2 by decide)
  refine T.rooms_on.fn.okN sc_rooms_on (fun vs H Q E h => ?_) (fun cdv A outer s H vs Q E hr h => ?_)
  · obtain ⟨a, d, sa, m, ks, st, rfl, hm, ok, hd, few, rng, hs, k⟩ := h
    rfl
  · obtain ⟨a, d, sa, m, ks, st, rfl, hm, ok, hd, few, rng, hs, k⟩ := h
    refine ⟨_, Bx.un (bpss_cons (bps_setC (i := 3) sc_rooms_on.nd rfl (by first | exact Or.inl rfl | exact Or.inr rfl) rfl (N := ["mark", "step"]) (fr := [2]) (CSc.of (by kernel_rfl)) (bpi_list (bpe_ixA ix_tup (bpv 0) (bpe_const T.c_MARKS))) (fun _ _ _ _ _ => bpts_nil)
        (fun _ _ _ _ _ => (bpe_fnx T.fits G_fits hr pass0' (bpa_cons (bpv 0) (bpa_cons (bpv 1) bpa_nil)))))
      (bpss_cons (bps_set (i := 4) sc_rooms_on.nd rfl (by first | exact Or.inl rfl | exact Or.inr rfl) bpe_dnewK)
      (bpss_cons (bps_forD PassesOwn.never rfl (bpv 1) (bpg_name (i := 5) sc_rooms_on.nd rfl (by first | exact Or.inl rfl | exact Or.inr rfl))
      (bpss_one (bps_for PassesOwn.never rfl (bpi_list (bpe_ixA ix_list (bpe_ixA ix_tup (bpv 0) (bpe_const T.c_FOLLOWS)) (bpv 5))) (bpg_name (i := 6) sc_rooms_on.nd rfl (by first | exact Or.inl rfl | exact Or.inr rfl))
      (bpss_one (bps_if (bpt_val (bpe_ixA ix_list (bpv 3) (bpe_op op_sub (bpv 6) bpe_int)))
      (bpss_one (bps_dput (hu_of hr) (bpv 4) (bpv 6) (bpv 5)))
      bpss_nil)))))
      (bpss_one (bps_ret (bpv 4)))))), ?_⟩
    walk_at "rs"
    obtain ⟨xm, xf, xe, ea, ⟨as, eas, alm⟩, ⟨fs, efs, alf⟩, ee⟩ := hm.at_
    have lm := alm.len
    have lf := alf.len
    refine seq_rule fun N hN => ?_
    refine ⟨_, rfl, _, _, _, _, rfl, rfl, SqT.of ea, rfl, xm, rfl, ⟨_, SqL.of eas⟩, comp_map (cs := as.zip m.mks) (g := fun c => V.ref c.1) (tells_list (by rw [zip_ref lm]; exact SqL.of eas)) (fun c => .bl (fitC c.2 st)) (sz_of (by rw [List.length_zip]; have := ok.few; omega)) (fun c H2 Q2 hc s2 h => ?_) fun D H1 hD s1 d1 => hN _ _ ?_⟩
    · obtain ⟨e1, _⟩ := alm.zip c hc
      walk_at "rd"
      exact ⟨_, _, c.2, st, rfl, s2 _ _ e1, s2 _ _ hs, h _ (Same.refl _)⟩
    rw [zip_val (f := fun k => V.bl (fitC k st)) lm] at d1
    clear hN N
    refine seq_rule fun N hN => ?_
    walk_at "rd"
    intro q hq
    refine hN _ _ ?_
    clear hN N
    have n2 := Same.new (o := .dK []) hq
    have hq0 := s1.free hq
    have s2 := s1.trans n2
    have d2 := n2 _ _ d1
    have q2 : upd H1 q (.dK []) q = some (.dK (kvI [])) := upd_same
    generalize upd H1 q (.dK []) = H2 at s2 d2 q2
    clear n2 d1 s1 hD hq
    have a2 := s2 _ _ ea
    have f2 := s2 _ _ efs
    have hd2 := s2 _ _ hd
    have qd : q ≠ d := fun z => by
      rw [z, hd] at hq0
      cases hq0
    have nd' : ∀ b (xs : List V), (H2 b = some (.lst xs) ∨ H2 b = some (.tup xs)) → b ≠ d := fun b xs h z => by
      rw [z, hd2] at h
      rcases h with h | h <;> cases h
    have nq' : ∀ b (xs : List V), (H2 b = some (.lst xs) ∨ H2 b = some (.tup xs)) → b ≠ q := fun b xs h z => by
      rw [z, q2] at h
      rcases h with h | h <;> cases h
    refine seq_rule fun N hN => ?_
    refine for_dict_inv (d := d) (kvs := kvI ks) (fun R hR => ⟨_, rfl, hR⟩) hd2
      (fun i σ H3 => ∃ (v v' : Option V) (ks' : List (Int × Int)), σ = [some (.ref a), some (.ref d), some (.ref sa), some (.ref D), some (.ref q), v, v'] ∧ (∀ b u, b ≠ d → b ≠ q → H2 b = some u → H3 b = some u) ∧ H3 q = some (.dK (kvI ks')) ∧ LedP m st (ks.map (·.1)) ks' ∧ ∀ r ∈ (ks.map (·.1)).take i, ∀ o, Goes m st r o → o ∈ ks'.map (·.1))
      (fun ob => ⟨none, none, [], rfl, fun b u hb _ e => (upd_ne hb).trans e, (upd_ne qd).trans q2, ⟨List.nodup_nil, fun p hp => (by cases hp)⟩, fun r hr => (by cases hr)⟩) ?_ ?_
    · rintro i k' σ H3 N1 R B hk ⟨v, v', ks', rfl, off, q3, lp, al⟩ rd ⟨ob, fz⟩ hN1
      unfold kvI at hk
      rw [List.map_map] at hk
      obtain ⟨x, hx, rfl⟩ := map_get hk
      have xm := List.mem_of_getElem? hx
      obtain ⟨r0, r1⟩ := rng x xm
      have hxk : (ks.map (·.1))[i]? = some x.1 := by rw [List.getElem?_map, hx]; rfl
      have hfo := folOf_at ok r0 r1
      obtain ⟨fa, hfa, efa⟩ := alf.at hfo
      have a3 := off _ _ (nd' _ _ (.inr a2)) (nq' _ _ (.inr a2)) a2
      have f3 := off _ _ (nd' _ _ (.inl f2)) (nq' _ _ (.inl f2)) f2
      have fa2 := s2 _ _ efa
      have fa3 := off _ _ (nd' _ _ (.inl fa2)) (nq' _ _ (.inl fa2)) fa2
      have d3 := off _ _ (nd' _ _ (.inl d2)) (nq' _ _ (.inl d2)) d2
      have fq : fa ≠ q := nq' _ _ (.inl fa2)
      have fd : fa ≠ d := nd' _ _ (.inl fa2)
      have Dq : D ≠ q := nq' _ _ (.inl d2)
      walk_at "rg"
      refine ⟨_, rfl, _, _, _, _, rfl, rfl, SqT.of a3, rfl, _, rfl, _, _, _, .ref fa, rfl, rfl, SqL.of f3, at_get r0 (by rw [List.getElem?_map, hfa]; rfl), fa, rfl, ⟨_, SqL.of fa3⟩, for_list (K := K) (a := fa) (xs := (folOf m x.1).map V.int)
        (fun j σ H4 => ∃ (v' : Option V) (kt : List (Int × Int)), σ = [some (.ref a), some (.ref d), some (.ref sa), some (.ref D), some (.ref q), some (.int x.1), v'] ∧ (∀ b u, b ≠ q → H3 b = some u → H4 b = some u) ∧ H4 q = some (.dK (kvI kt)) ∧ LedP m st (ks.map (·.1)) kt ∧ (∀ o ∈ ks'.map (·.1), o ∈ kt.map (·.1)) ∧ ∀ o ∈ (folOf m x.1).take j, Goes m st x.1 o → o ∈ kt.map (·.1))
        ⟨_, ks', rfl, fun b u _ e => e, q3, lp, fun o ho => ho, fun o ho => (by cases ho)⟩ (fun j σ H4 _ ⟨_, _, _, o4, _⟩ => SqL.of (o4 _ _ fq fa3)) ?_ ?_⟩
      · rintro j y σ H4 hj ⟨v', kt, rfl, o4, q4, l4, m4, t4⟩
        obtain ⟨o, ho, rfl⟩ := map_get hj
        have om := List.mem_of_getElem? ho
        obtain ⟨o0, o1⟩ := folOf_rng ok om
        obtain ⟨kk, hkk⟩ := mark_at o0 o1
        have d4 := o4 _ _ Dq d3
        have tk := take_get ho
        walk_at "rg"
        walk_at "rd"
        refine rd_ixL d4 (v := .bl (fitC kk st)) (at_get (by omega) (by rw [List.getElem?_map, hkk]; rfl)) ⟨_, rfl, ite_both (fun h => ?_) fun h => ?_⟩
        · have g : Goes m st x.1 o := ⟨om, by rw [fitO_at hkk]; exact h⟩
          refine ⟨_, DPut.k (k := .inl o) q4 (by unfold kvI; rw [List.length_map]; exact Nat.lt_of_le_of_lt (l4.len ok) (Nat.lt_of_lt_of_le (show 24 < 3000 by decide) (sz_of (by decide)))), ?_⟩
          rw [putK_I]
          refine ⟨fun b u hb e => (upd_ne hb).trans (o4 b u hb e), putI kt o x.1, upd_same, l4.put (List.mem_map.mpr ⟨x, xm, rfl⟩) g, fun o' h' => putI_more (m4 o' h'), fun o' h' g' => ?_⟩
          rw [tk] at h'
          rcases List.mem_append.mp h' with z | z
          · exact putI_more (t4 o' z g')
          · rw [List.mem_singleton.mp z]
            exact putI_has _ _ _
        · refine ⟨o4, kt, q4, l4, m4, fun o' h' g' => ?_⟩
          rw [tk] at h'
          rcases List.mem_append.mp h' with z | z
          · exact t4 o' z g'
          · have := g'.2
            rw [List.mem_singleton.mp z, fitO_at hkk] at this
            exact absurd this (by simpa using h)
      · rintro σ H4 ⟨v', kt, rfl, o4, q4, l4, m4, t4⟩
        refine hN1 _ _ ⟨_, _, kt, rfl, fun b u hb hb2 e => o4 b u hb2 (off b u hb hb2 e), q4, l4, fun r hr o g => ?_⟩ (by rw [fz]; exact o4 _ _ qd.symm fz)
        rw [take_get hxk] at hr
        rcases List.mem_append.mp hr with z | z
        · exact m4 o (al r z o g)
        · rw [List.mem_singleton.mp z] at g
          refine t4 o ?_ g
          rw [List.length_map, List.take_length]
          exact g.1
    · rintro σ H3 ⟨v, v', ks', rfl, off, q3, lp, al⟩ ⟨ob, fz⟩
      refine hN _ _ ?_
      walk_at "rd"
      refine k q _ ks' hq0 (fun b u e => ?_) ((upd_ne qd).trans q3) ⟨lp.nd, lp.from_, ?_⟩
      · by_cases hb : b = d
        · rw [hb, upd_same, ← hd, ← hb]
          exact e
        · rw [upd_ne hb]
          exact off b u hb (ne_of_none e hq0) (s2 _ _ e)
      · unfold kvI at al
        rw [List.length_map, ← List.length_map (f := fun p : Int × Int => p.1), List.take_length] at al
        exact al
theorem sc_trails : FnScope ["made", "steps", "found", "step"] ["made", "steps"] (defScope s_trails) := ⟨rfl, rfl, rfl, by decide +kernel, rfl, by decide +kernel, by decide +kernel⟩
theorem ok_trails (T : Txt K mg t) : FnOk P w K mg base (CX1 P w) 4 t.a_trails t.d_trails ["made", "steps"] (sp_trails) := by
  have G_rooms_on := (ok_rooms_on (P := P) (w := w) (base := base) T).mono (show 3 ≤ 3 by decide)
  refine T.trails.fn.okN sc_trails (fun vs H Q E h => ?_) (fun cdv A outer s H vs Q E hr h => ?_)
  · obtain ⟨a, ls, m, ss, rfl, hm, ok, hs, few, k⟩ := h
    rfl
  · obtain ⟨a, ls, m, ss, rfl, hm, ok, hs, few, k⟩ := h
    refine ⟨_, Bx.un (bpss_cons (bps_set (i := 2) sc_trails.nd rfl (by first | exact Or.inl rfl | exact Or.inr rfl) (bpe_lst (bpa_cons (bpe_disp (bpps_cons bpe_int bpe_int bpps_nil) rfl rfl (by simp) (by decide)) bpa_nil)))
      (bpss_cons (bps_for PassesOwn.never rfl (bpi_list (bpv 1)) (bpg_name (i := 3) sc_trails.nd rfl (by first | exact Or.inl rfl | exact Or.inr rfl))
      (bpss_one (bps_expr (bpe_bm PySem.F.plainAttrs_list PySem.F.slot_list_append PySem.F.type_list_append mt_append (bpv 2) (bpa_cons (bpe_fnx T.rooms_on G_rooms_on hr pass0' (bpa_cons (bpv 0) (bpa_cons (bpe_ixA ix_list (bpv 2) (bpe_un un_neg bpe_int)) (bpa_cons (bpv 3) bpa_nil)))) bpa_nil)))))
      (bpss_one (bps_ret (bpv 2))))), ?_⟩
    walk_at "rs"
    obtain ⟨as, eas, als⟩ := hs
    have lens := als.len
    refine seq_rule fun N hN => ?_
    walk_at "rd"
    intro p hp
    refine ⟨upd_same, [(.inl 0, .int 0)], rfl, by decide, by decide, fun q hq => hN _ _ ?_⟩
    clear hN N
    have s0 : Same H (upd (upd H p (.dK [])) p (.dK (mergeK [] [(.inl 0, .int 0)]))) := (Same.new hp).upd_new hp
    have p0 : upd (upd H p (.dK [])) p (.dK (mergeK [] [(.inl 0, .int 0)])) p = some (.dK (kvI [(0, 0)])) := upd_same
    generalize upd (upd H p (.dK [])) p (.dK (mergeK [] [(.inl 0, .int 0)])) = H0 at s0 p0 hq
    have n1 := Same.new (o := .lst [V.ref p]) hq
    have hq0 := s0.free hq
    have s1 := s0.trans n1
    have p1 := n1 _ _ p0
    have q1 : upd H0 q (.lst [V.ref p]) q = some (.lst [V.ref p]) := upd_same
    have pq : p ≠ q := ne_of_none p0 hq
    generalize upd H0 q (.lst [V.ref p]) = H1 at s1 p1 q1
    clear n1 p0 s0 hq
    refine seq_rule fun N hN => ?_
    refine ⟨_, rfl, ls, rfl, ⟨_, SqL.of (s1 _ _ eas)⟩, for_list (K := K) (a := ls) (xs := as.map V.ref) (fun i σ H2 => ∃ (v : Option V) (ds : List Addr) (lays : List (List (Int × Int))), σ = [some (.ref a), some (.ref ls), some (.ref q), v] ∧ Same H H2 ∧ H2 q = some (.lst (ds.map V.ref)) ∧ All2 (fun d ks => H2 d = some (.dK (kvI ks)) ∧ d ≠ q) ds lays ∧ Lays m (ss.take i) lays ∧ ds.length ≤ i + 1)
      ⟨none, [p], [[(0, 0)]], rfl, s1, q1, .cons ⟨p1, pq⟩ .nil, Lays.one m, Nat.le_refl _⟩ (fun i σ H2 _ ⟨_, _, _, _, s2, _⟩ => SqL.of (s2 _ _ eas)) ?_ ?_⟩
    · rintro i y σ H2 hi ⟨v, ds, lays, rfl, s2, q2, al, L, dl⟩
      obtain ⟨x, hx, rfl⟩ := map_get hi
      have il : i < as.length := (List.getElem?_eq_some_iff.mp hx).1
      have hst : ss[i]? = some (ss[i]'(by omega)) := by simp
      obtain ⟨ex, _⟩ := als.get hx hst
      have ll := L.len
      have dlen := al.len
      obtain ⟨l0, kl, rfl⟩ := snoc_of (l := lays) (fun z => by rw [z] at ll; cases ll)
      obtain ⟨d0, dk, rfl⟩ := snoc_of (l := ds) (fun z => by rw [z] at dlen; simp at dlen)
      have hkl : (l0 ++ [kl])[l0.length]? = some kl := by simp
      have hdk : (d0 ++ [dk])[l0.length]? = some dk := by
        have : d0.length = l0.length := by simpa using dlen
        rw [← this]
        simp
      obtain ⟨edk, ndk⟩ := al.get hdk hkl
      obtain ⟨r1, r2, r3⟩ := L.rng ok hkl
      walk_at "rg"
      walk_at "rd"
      refine ⟨tyV_lst (SqL.of q2), rd_ixL q2 (v := .ref dk) (by rw [List.map_append]; exact at_last) ⟨a, dk, x, m, kl, _, rfl, hm.same s2, ok, edk, by omega, r1, s2 _ _ ex, fun d' H3 ks' hd' s3 e3 led => ⟨_, s3 _ _ q2, ?_, s2.trans s3 |>.upd_new hq0, d0 ++ [dk] ++ [d'], ?_, l0 ++ [kl] ++ [ks'], ?_, ?_, ?_⟩⟩⟩
      · rw [List.length_map]
        exact Nat.lt_of_lt_of_le (show List.length (d0 ++ [dk]) < 3000 by omega) (sz_of (by decide))
      · rw [upd_same]
        simp
      · have dq : d' ≠ q := fun z => by
          rw [z, q2] at hd'
          cases hd'
        exact All2.snoc ⟨(upd_ne dq).trans e3, dq⟩ (al.imp fun _ _ r => ⟨(upd_ne r.2).trans (s3 _ _ r.1), r.2⟩)
      · rw [take_get hst]
        exact L.snoc led
      · rw [List.length_append]
        simp only [List.length_cons, List.length_nil]
        omega
    · rintro σ H2 ⟨v, ds, lays, rfl, s2, q2, al, L, dl⟩
      refine hN _ _ ?_
      walk_at "rd"
      rw [List.length_map, lens, List.take_length] at L
      exact k q H2 ds lays hq0 s2 q2 (al.imp fun _ _ r => r.1) L
theorem sc_rooms_behind : FnScope ["made", "steps"] ["made", "steps"] (defScope s_rooms_behind) := ⟨rfl, rfl, rfl, by decide +kernel, rfl, by decide +kernel, by decide +kernel⟩
theorem ok_rooms_behind (T : Txt K mg t) : FnOk P w K mg base (CX1 P w) 5 t.a_rooms_behind t.d_rooms_behind ["made", "steps"] (sp_rooms_behind) := by
  have G_trails := (ok_trails (P := P) (w := w) (base := base) T).mono (show 4 ≤ 4 by decide)
  refine T.rooms_behind.fn.okN sc_rooms_behind (fun vs H Q E h => ?_) (fun cdv A outer s H vs Q E hr h => ?_)
  · obtain ⟨a, ls, m, ss, rfl, hm, ok, hs, few, k⟩ := h
    rfl
  · obtain ⟨a, ls, m, ss, rfl, hm, ok, hs, few, k⟩ := h
    refine ⟨_, Bx.un (bpss_one (bps_ret (bpe_callB (call_sorted_int rfl) (by rfl) T.b_sorted PyProof.Rows.boot_sorted (bpa_cons (bpe_ixA ix_list (bpe_fnx T.trails G_trails hr pass0' (bpa_cons (bpv 0) (bpa_cons (bpv 1) bpa_nil))) (bpe_un un_neg bpe_int)) bpa_nil)))), ?_⟩
    walk_at "rd"
    refine ⟨a, ls, m, ss, rfl, hm, ok, hs, few, fun q H1 ds lays hq s1 q1 al L => ?_⟩
    have ll := L.len
    have dlen := al.len
    obtain ⟨l0, kl, rfl⟩ := snoc_of (l := lays) (fun z => by rw [z] at ll; cases ll)
    obtain ⟨d0, dk, rfl⟩ := snoc_of (l := ds) (fun z => by rw [z] at dlen; simp at dlen)
    have l0n : l0.length = ss.length := by simpa using ll
    have d0n : d0.length = ss.length := by rw [← l0n]; simpa using dlen
    have hkl : (l0 ++ [kl])[ss.length]? = some kl := by rw [← l0n]; simp
    have hdk : (d0 ++ [dk])[ss.length]? = some dk := by rw [← d0n]; simp
    have edk := al.get hdk hkl
    obtain ⟨r1, r2, r3⟩ := L.rng ok hkl
    refine rd_ixL q1 (v := .ref dk) (by rw [List.map_append]; exact at_last) ⟨dk, rfl, _, .inl edk, _, keys_kvI kl, by rw [List.length_map]; omega, fun l out hl pm up => ?_⟩
    have e := sorted_walk L ok hkl pm up
    subst e
    exact k l _ (s1.free hl) (s1.upd_new (s1.free hl)) upd_same
theorem sc_taken : FnScope ["made", "steps"] ["made", "steps"] (defScope s_taken) := ⟨rfl, rfl, rfl, by decide +kernel, rfl, by decide +kernel, by decide +kernel⟩
theorem ok_taken (T : Txt K mg t) : FnOk P w K mg base (CX1 P w) 6 t.a_taken t.d_taken ["made", "steps"] (sp_taken) := by
  have G_rooms_behind := (ok_rooms_behind (P := P) (w := w) (base := base) T).mono (show 5 ≤ 5 by decide)
  refine T.taken.fn.okN sc_taken (fun vs H Q E h => ?_) (fun cdv A outer s H vs Q E hr h => ?_)
  · obtain ⟨a, ls, m, ss, rfl, hm, ok, hs, few, k⟩ := h
    rfl
  · obtain ⟨a, ls, m, ss, rfl, hm, ok, hs, few, k⟩ := h
    refine ⟨_, Bx.un (bpss_one (bps_ret (bpe_callB (call_any rfl) (by rfl) T.b_any PyProof.Rows.boot_any (bpa_cons (bpe_comp rfl (N := ["room", "made"]) (fr := [0]) (CSc.of (by kernel_rfl)) (bpi_list (bpe_fnx T.rooms_behind G_rooms_behind hr pass0' (bpa_cons (bpv 0) (bpa_cons (bpv 1) bpa_nil)))) (fun _ _ _ _ _ => bpts_nil)
        (fun _ _ _ _ _ => (bpe_ixA (ix_listK K) (bpe_ixA (ix_tupK K) (bpv 1) (bpe_const T.c_ENDS)) (bpv 0)))) bpa_nil)))), ?_⟩
    walk_at "rd"
    obtain ⟨xm, xf, xe, ea, _, _, ee⟩ := hm.at_
    refine ⟨_, rfl, _, rfl, a, ls, m, ss, rfl, hm, ok, hs, few, fun q H1 hq s1 q1 => ⟨q, rfl, ⟨_, SqL.of q1⟩, comp_map (tells_list (SqL.of q1)) (fun r => .bl (endC m r)) (sz_of ?_) (fun r H2 Q2 hr s2 h => ?_) fun D H2 hD s2 d2 => ⟨D, rfl, (walkC m [0] ss).map (endC m), SqL.of (by rw [List.map_map]; exact d2), ?_⟩⟩⟩
    · have := walk_len ok ss
      omega
    · obtain ⟨r0, r1⟩ := walk_rng (ss := ss) zero_rng r hr
      walk_at "rd"
      exact rd_ixT (s2 _ _ (s1 _ _ ea)) rfl (rd_ixL (s2 _ _ (s1 _ _ ee)) (endC_at ok r0 r1) (h _ (Same.refl _)))
    · rw [List.any_map]
      exact k _ (s1.trans s2)
theorem sc_run_of : FnScope ["made", "steps", "layers", "ends", "room", "run", "layer"] ["made", "steps"] (defScope s_run_of) := ⟨rfl, rfl, rfl, by decide +kernel, rfl, by decide +kernel, by decide +kernel⟩
theorem ok_run_of (T : Txt K mg t) : FnOk P w K mg base (CX1 P w) 5 t.a_run_of t.d_run_of ["made", "steps"] (sp_run_of) := by
  have G_trails := (ok_trails (P := P) (w := w) (base := base) T).mono (show 4 ≤ 4 by decide)
  refine T.run_of.fn.okN sc_run_of (fun vs H Q E h => ?_) (fun cdv A outer s H vs Q E hr h => ?_)
  · obtain ⟨a, ls, m, ss, rfl, hm, ok, hs, few, kn, k⟩ := h
    rfl
  · obtain ⟨a, ls, m, ss, rfl, hm, ok, hs, few, kn, k⟩ := h
    refine ⟨_, Bx.un (bpss_cons (bps_set (i := 2) sc_run_of.nd rfl (by first | exact Or.inl rfl | exact Or.inr rfl) (bpe_fnx T.trails G_trails hr pass0' (bpa_cons (bpv 0) (bpa_cons (bpv 1) bpa_nil))))
      (bpss_cons (bps_setCD (i := 3) sc_run_of.nd rfl (by first | exact Or.inl rfl | exact Or.inr rfl) rfl (N := ["room", "made"]) (fr := [0]) (CSc.of (by kernel_rfl)) (bpe_ixA ix_list (bpv 2) (bpe_un un_neg bpe_int)) (fun _ _ _ _ _ => (bpts_one (bpt_val (bpe_ixA (ix_listK K) (bpe_ixA (ix_tupK K) (bpv 1) (bpe_const T.c_ENDS)) (bpv 0)))))
        (fun _ _ _ _ _ => (bpv 0)))
      (bpss_cons (bps_if (bpt_not (bpt_truth (bpv 3)))
      (bpss_one (bps_ret bpe_non))
      bpss_nil)
      (bpss_cons (bps_set (i := 4) sc_run_of.nd rfl (by first | exact Or.inl rfl | exact Or.inr rfl) (bpe_ixA ix_list (bpv 3) bpe_int))
      (bpss_cons (bps_set (i := 5) sc_run_of.nd rfl (by first | exact Or.inl rfl | exact Or.inr rfl) (bpe_lst bpa_nil))
      (bpss_cons (bps_for PassesOwn.never rfl (bpi_rev rfl T.b_reversed (bpa_cons (bpe_slice sl_list (bpv 2) (bpo_some bpe_int) bpo_none) bpa_nil)) (bpg_name (i := 6) sc_run_of.nd rfl (by first | exact Or.inl rfl | exact Or.inr rfl))
      (bpss_cons (bps_expr (bpe_bm PySem.F.plainAttrs_list PySem.F.slot_list_append PySem.F.type_list_append mt_append (bpv 5) (bpa_cons (bpv 4) bpa_nil)))
      (bpss_one (bps_set (i := 4) sc_run_of.nd rfl (by first | exact Or.inl rfl | exact Or.inr rfl) (bpe_dgetA (hu_of hr) (bpv 6) (bpv 4))))))
      (bpss_cons (bps_expr (bpe_bm0 PySem.F.plainAttrs_list PySem.F.slot_list_reverse PySem.F.type_list_reverse mt_reverse (bpv 5)))
      (bpss_one (bps_ret (bpv 5)))))))))), ?_⟩
    walk_at "rs"
    obtain ⟨xm, xf, xe, ea, _, _, ee⟩ := hm.at_
    refine seq_rule fun N hN => ?_
    walk_at "rd"
    refine ⟨a, ls, m, ss, rfl, hm, ok, hs, few, fun q H1 ds lays hq s1 q1 al L => hN _ _ ?_⟩
    clear hN N
    have ll := L.len
    have dlen := al.len
    have dn : ss.length < ds.length := by omega
    have hkl : lays[ss.length]? = some (lays[ss.length]'(by omega)) := by simp
    obtain ⟨dk, hdk, edk⟩ := al.at hkl
    have anyE := any_walk L ok hkl
    have memE : ∀ x ∈ ((lays[ss.length]'(by omega)).map (·.1)).filter (endC m), x ∈ (lays[ss.length]'(by omega)).map (·.1) ∧ endC m x = true := fun x hx => List.mem_filter.mp hx
    obtain ⟨r1, r2, r3⟩ := L.rng ok hkl
    generalize (lays[ss.length]'(by omega)) = kl at hkl edk anyE memE r1 r2 r3
    have lastD : atI (ds.map V.ref) (-1) = some (.ref dk) := by
      obtain ⟨d0, dl, rfl⟩ := snoc_of (l := ds) (fun z => by rw [z] at dn; cases dn)
      have : d0.length = ss.length := by
        rw [List.length_append] at dlen
        simp only [List.length_cons, List.length_nil] at dlen
        omega
      rw [← this] at hdk
      simp at hdk
      subst hdk
      rw [List.map_append]
      exact at_last
    have a1 := s1 _ _ ea
    have ee1 := s1 _ _ ee
    refine seq_rule fun N hN => ?_
    refine comp_dict (d := dk) (kvs := kvI kl) (fun R hR => ⟨_, rfl, _, rfl, _, _, _, _, rfl, rfl, SqL.of q1, lastD, hR⟩) edk (by unfold kvI; rw [List.length_map]; exact sz_of (by omega)) (isEnd m) kV (fun kk H2 Q2 hk hb hd h => ?_) (fun kk H2 Q2 hk _ hb hd h => ⟨kV kk, rfl, h H2 (Same.refl _)⟩) fun D H2 hD s2 d2 => hN _ _ ?_
    · rw [keys_kvI] at hk
      obtain ⟨r, hr, rfl⟩ := List.mem_map.mp hk
      obtain ⟨p, hp, rfl⟩ := List.mem_map.mp hr
      obtain ⟨p0, p1⟩ := r1 p hp
      walk_at "rd"
      exact rd_ixT (hb _ _ (ne_of a1 edk (by intro z; cases z)) a1) rfl (rd_ixL (hb _ _ (ne_of ee1 edk (by intro z; cases z)) ee1) (endC_at ok p0 p1) ⟨_, rfl, h _ (Same.refl _)⟩)
    clear hN N
    rw [ends_of] at d2
    have s02 := s1.trans s2
    have q2 := s2 _ _ q1
    have al2 := al.imp fun d ks h => s2 _ _ h
    refine seq_rule fun N hN => ?_
    walk_at "rd"
    generalize hes : (kl.map (·.1)).filter (endC m) = es at d2 anyE memE
    cases es with
    | nil => exact ⟨_, .inl ⟨_, SqL.of d2, rfl⟩, ite_T rfl (kn H2 s02 anyE)⟩
    | cons e0 er =>
      obtain ⟨k0, k1⟩ := memE e0 (by simp)
      refine ⟨_, .inl ⟨_, SqL.of d2, rfl⟩, ite_F (by simp) (hN _ _ ?_)⟩
      clear hN N
      refine seq_rule fun N hN => ?_
      walk_at "rd"
      refine rd_ixL d2 atI_zero (hN _ _ ?_)
      clear hN N
      refine seq_rule fun N hN => ?_
      walk_at "rd"
      refine ⟨Nat.zero_le _, fun rr hrr => hN _ _ ?_⟩
      clear hN N
      obtain ⟨d0, dr, rfl⟩ : ∃ d0 dr, ds = d0 :: dr := by
        cases ds with
        | nil => cases dn
        | cons x y => exact ⟨x, y, rfl⟩
      have drn : dr.length = ss.length := by
        rw [List.length_cons] at dlen
        omega
      have hrr0 := s02.free hrr
      have n3 := Same.new (o := .lst []) hrr
      have s3 := s02.trans n3
      have q3 := n3 _ _ q2
      have al3 := al2.imp fun d ks h => n3 _ _ h
      have rr3 : upd H2 rr (.lst []) rr = some (.lst []) := upd_same
      have alne : ∀ (i : Nat) (d : Addr), (d0 :: dr)[i]? = some d → d ≠ rr := fun i d hd z => by
        have il : i < lays.length := by
          rw [← dlen]
          exact (List.getElem?_eq_some_iff.mp hd).1
        have := al2.get hd (show lays[i]? = some lays[i] by simp)
        rw [z, hrr] at this
        cases this
      generalize upd H2 rr (.lst []) = H3 at s3 q3 al3 rr3
      refine seq_rule fun N hN => ?_
      refine ⟨_, rfl, _, rfl, q, _, rfl, SqL.of q3, fun sl hsl => ?_⟩
      rw [List.map_cons, cutV_tail]
      have n4 := Same.new (o := .lst (dr.map V.ref)) hsl
      have s4 := s3.trans n4
      have al4 := al3.imp fun d ks h => n4 _ _ h
      have rr4 := n4 _ _ rr3
      have sl4 : upd H3 sl (.lst (dr.map V.ref)) sl = some (.lst (dr.map V.ref)) := upd_same
      have slr : sl ≠ rr := fun z => by
        rw [z, rr3] at hsl
        cases hsl
      generalize upd H3 sl (.lst (dr.map V.ref)) = H4 at s4 al4 rr4 sl4
      refine ⟨sl, _, rfl, SqL.of sl4, for_rev (K := K) (a := sl) (xs := dr.map V.ref) (fun i σ H5 => ∃ (v : Option V) (room : Int) (run : List Int) (ks : List (Int × Int)), σ = [some (.ref a), some (.ref ls), some (.ref q), some (.ref D), some (.int room), some (.ref rr), v] ∧ (∀ b u, b ≠ rr → H4 b = some u → H5 b = some u) ∧ H5 rr = some (.lst (run.map V.int)) ∧ run.length = i ∧ i ≤ ss.length ∧ lays[ss.length - i]? = some ks ∧ room ∈ ks.map (·.1) ∧ chainC m room (ss.drop (ss.length - i)) run.reverse)
        ⟨none, e0, [], kl, rfl, fun b u _ e => e, rr4, rfl, Nat.zero_le _, hkl, k0, ?_⟩ (fun i σ H5 _ ⟨_, _, _, _, _, o5, _⟩ => SqL.of (o5 _ _ slr sl4)) ?_ ?_⟩
      · rw [Nat.sub_zero, List.drop_length]
        exact k1
      · rintro i y σ H5 hi ⟨v, room, run, ks, rfl, o5, r5, rl, il, hks, hrm, ch⟩
        have il2 : i < dr.length := by
          have := (List.getElem?_eq_some_iff.mp hi).1
          rw [List.length_reverse, List.length_map] at this
          exact this
        rw [List.getElem?_reverse (by rw [List.length_map]; exact il2), List.length_map] at hi
        obtain ⟨d', hd', rfl⟩ := map_get hi
        have hd1 : (d0 :: dr)[ss.length - i]? = some d' := by
          rw [show ss.length - i = (dr.length - 1 - i) + 1 by omega]
          exact hd'
        have ed5 := o5 _ _ (alne _ _ hd1) (al4.get hd1 hks)
        obtain ⟨r', hr', mr'⟩ := valI_at hrm
        have jl : ss.length - i - 1 < ss.length := by omega
        have e1 : ss[ss.length - i - 1]? = some (ss[ss.length - i - 1]) := by simp
        have jl2 : ss.length - i - 1 < lays.length := by omega
        have e2 : lays[ss.length - i - 1]? = some lays[ss.length - i - 1] := by simp
        have led := L.led _ _ _ ks e1 e2 (by rw [show ss.length - i - 1 + 1 = ss.length - i by omega]; exact hks)
        obtain ⟨f1, f2⟩ := led.from_ _ mr'
        walk_at "rg"
        walk_at "rd"
        refine ⟨tyV_lst (SqL.of r5), _, r5, ?_, ?_⟩
        · rw [List.length_map]
          exact Nat.lt_of_lt_of_le (show List.length run < 3000 by omega) (sz_of (by decide))
        have nr := alne _ _ hd1
        refine ⟨.int r', ?_, _, r', rfl, rfl, fun b u hb e => (upd_ne hb).trans (o5 b u hb e), run ++ [room], ?_, ?_, by omega, lays[ss.length - i - 1], ?_, f1, ?_⟩
        · exact .inl ⟨_, .inl room, .inl ((upd_ne nr).trans ed5), rfl, hr'.symm⟩
        · rw [upd_same, List.map_append]
          rfl
        · rw [List.length_append, rl]
          rfl
        · rw [show ss.length - (i + 1) = ss.length - i - 1 by omega]
          exact e2
        · rw [show ss.length - (i + 1) = ss.length - i - 1 by omega, List.reverse_append, List.drop_eq_getElem_cons jl, show ss.length - i - 1 + 1 = ss.length - i by omega]
          exact ⟨f2, ch⟩
      · rintro σ H5 ⟨v, room, run, ks, rfl, o5, r5, rl, il, hks, hrm, ch⟩
        rw [List.length_map, drn] at hks ch rl
        rw [Nat.sub_self] at hks ch
        rw [L.first] at hks
        cases hks
        obtain rfl : room = 0 := by simpa using hrm
        refine hN _ _ ?_
        clear hN N
        refine seq_rule fun N hN => ?_
        walk_at "rd"
        refine ⟨tyV_lst (SqL.of r5), _, r5, hN _ _ ?_⟩
        walk_at "rd"
        refine k rr _ run.reverse hrr0 (fun b u e => ?_) (by rw [upd_same, List.map_reverse]) anyE (by rw [List.length_reverse, rl]) ch
        rw [upd_ne (ne_of_none e hrr0)]
        exact o5 b u (ne_of_none e hrr0) (s4 _ _ e)
theorem sc_l_step_for : FnScope ["cell", "mark", "names", "base", "turn", "name", "far", "weight"] ["cell", "mark", "names", "base"] (defScope s_l_step_for) := ⟨rfl, rfl, rfl, by decide +kernel, rfl, by decide +kernel, by decide +kernel⟩
theorem ok_l_step_for (T : Txt K mg t) : FnOk P w K mg base (CX1 P w) 3 t.a_l_step_for t.d_l_step_for ["cell", "mark", "names", "base"] (sp_l_step_for) := by
  have G_l_mixed := (ok_l_mixed (P := P) (w := w) (base := base) T).mono (show 1 ≤ 2 by decide)
  have G_l_number := (ok_l_number (P := P) (w := w) (base := base) T).mono (show 2 ≤ 2 by decide)
  refine T.l_step_for.fn.okN sc_l_step_for (fun vs H Q E h => ?_) (fun cdv A outer s H vs Q E hr h => ?_)
  · obtain ⟨c, mk, nm, b, m, ns, rfl, hk, om, hn, hb, k⟩ := h
    rfl
  · obtain ⟨c, mk, nm, b, m, ns, rfl, hk, om, hn, hb, k⟩ := h
    refine ⟨_, Bx.un (bpss_cons (bps_set (i := 4) sc_l_step_for.nd rfl (by first | exact Or.inl rfl | exact Or.inr rfl) (bpe_fnx T.l_mixed G_l_mixed hr pass0' (bpa_cons (bpv 0) bpa_nil)))
      (bpss_cons (bps_set (i := 5) sc_l_step_for.nd rfl (by first | exact Or.inl rfl | exact Or.inr rfl) (bpe_ixA ix_tup (bpv 1) bpe_int))
      (bpss_cons (bps_if (bpt_cmpR op_eq (bpv 5) bpe_str (nomark _))
      (bpss_one (bps_set (i := 5) sc_l_step_for.nd rfl (by first | exact Or.inl rfl | exact Or.inr rfl) (bpe_ixA ix_list (bpv 2) (bpe_op op_mod (bpv 4) bpe_int))))
      bpss_nil)
      (bpss_cons (bps_set (i := 6) sc_l_step_for.nd rfl (by first | exact Or.inl rfl | exact Or.inr rfl) (bpe_op op_add bpe_int (bpe_ixA ix_list (bpe_lst (bpa_cons bpe_int (bpa_cons (bpe_op op_mod (bpv 0) (bpe_op op_pow bpe_int bpe_int)) bpa_nil))) (bpe_op op_mod (bpe_op op_fdiv (bpv 4) bpe_int) bpe_int))))
      (bpss_cons (bps_set (i := 7) sc_l_step_for.nd rfl (by first | exact Or.inl rfl | exact Or.inr rfl) (bpe_ixA ix_tup (bpv 1) bpe_int))
      (bpss_cons (bps_if (bpt_cmpR op_eq (bpe_ixA ix_tup (bpv 1) bpe_int) bpe_str (nomark _))
      (bpss_one (bps_set (i := 7) sc_l_step_for.nd rfl (by first | exact Or.inl rfl | exact Or.inr rfl) (bpe_fnx T.l_number G_l_number hr pass0' (bpa_cons (bpv 0) (bpa_cons (bpe_op op_fdiv (bpv 4) bpe_int) (bpa_cons (bpv 3) bpa_nil))))))
      bpss_nil)
      (bpss_cons (bps_if (bpw_or (bpt_cmpR op_eq (bpe_ixA ix_tup (bpv 1) bpe_int) bpe_str (nomark _)) (bpw_or1 (bpw_and (bpt_cmpR op_eq (bpe_ixA ix_tup (bpv 1) bpe_int) bpe_str (nomark _)) (bpw_and1 (bpt_cmpR op_eq (bpe_op op_mod (bpe_op op_fdiv (bpv 4) bpe_int) bpe_int) bpe_int (nomark _)))).bpt)).bpt
      (bpss_one (bps_set (i := 7) sc_l_step_for.nd rfl (by first | exact Or.inl rfl | exact Or.inr rfl) (bpe_op op_sub (bpv 7) (bpv 6))))
      bpss_nil)
      (bpss_cons (bps_if (bpw_or (bpt_cmpR op_eq (bpe_ixA ix_tup (bpv 1) bpe_int) bpe_str (nomark _)) (bpw_or1 (bpw_and (bpt_cmpR op_eq (bpe_ixA ix_tup (bpv 1) bpe_int) bpe_str (nomark _)) (bpw_and1 (bpt_cmpR op_eq (bpe_op op_mod (bpe_op op_fdiv (bpv 4) bpe_int) bpe_int) bpe_int (nomark _)))).bpt)).bpt
      (bpss_one (bps_set (i := 7) sc_l_step_for.nd rfl (by first | exact Or.inl rfl | exact Or.inr rfl) (bpe_op op_add (bpv 7) (bpv 6))))
      bpss_nil)
      (bpss_one (bps_ret (bpe_tup (bpa_cons (bpv 5) (bpa_cons (bpv 7) (bpa_cons (bpe_ixA ix_tup (bpv 1) bpe_int) bpa_nil)))))))))))))), ?_⟩
    walk_at "rs"
    obtain ⟨hn1, hn2, hn3⟩ := hn
    have oknm := om.ok.nm
    refine seq_rule fun N hN => ?_
    walk_at "rd"
    refine ⟨_, rfl, fun tu t0 t1 => hN _ _ ?_⟩
    clear hN N
    refine seq_rule fun N hN => ?_
    walk_at "rd"
    refine rd_ixT hk rfl (hN _ _ ?_)
    clear hN N
    refine seq_rule fun N hN => ?_
    have hM : ∀ l : List Nat, okT l → N [some (.int c), some (.ref mk), some (.ref nm), some (.int b), some (.int tu), some (.str (tx l)), none, none] H := by
      intro l okl
      refine hN _ _ ?_
      clear hN N
      refine seq_rule fun N hN => ?_
      walk_at "rd"
      refine ⟨by decide, by decide, fun p hp => rd_pick (by omega) (by show tu / 4 % 2 < 2; omega) fun v hv => ?_⟩
      obtain ⟨fr, rfl⟩ : ∃ fr : Int, v = .int fr := by
        simp only [List.mem_cons, List.not_mem_nil, or_false] at hv
        rcases hv with rfl | rfl <;> exact ⟨_, rfl⟩
      have s1 := Same.new (o := .lst [V.int 0, V.int (c % 10000000000000000000000000000000000000000000000000000000000)]) hp
      refine ⟨_, rfl, hN _ _ ?_⟩
      clear hN N
      generalize upd H p (.lst [V.int 0, V.int (c % 10000000000000000000000000000000000000000000000000000000000)]) = H1 at s1
      have hk1 := s1 _ _ hk
      refine seq_rule fun N hN => ?_
      walk_at "rd"
      refine rd_ixT hk1 rfl (hN _ _ ?_)
      clear hN N
      refine seq_rule fun N hN => ?_
      have hM : ∀ w0 : Int, N [some (.int c), some (.ref mk), some (.ref nm), some (.int b), some (.int tu), some (.str (tx l)), some (.int (1 + fr)), some (.int w0)] H1 := by
        intro w0
        refine hN _ _ ?_
        clear hN N
        refine seq_rule fun N hN => ?_
        have hM : ∀ w0 : Int, N [some (.int c), some (.ref mk), some (.ref nm), some (.int b), some (.int tu), some (.str (tx l)), some (.int (1 + fr)), some (.int w0)] H1 := by
          intro w0
          refine hN _ _ ?_
          clear hN N
          refine seq_rule fun N hN => ?_
          have hM : ∀ w0 : Int, N [some (.int c), some (.ref mk), some (.ref nm), some (.int b), some (.int tu), some (.str (tx l)), some (.int (1 + fr)), some (.int w0)] H1 := by
            intro w0
            refine hN _ _ ?_
            clear hN N
            walk_at "rd"
            exact rd_ixT hk1 rfl ⟨by decide, fun q hq => k ⟨l, w0, _⟩ q _ okl (s1.free hq) (s1.upd_new (s1.free hq)) upd_same⟩
          walk_at "rd"
          refine rd_ixT hk1 rfl ⟨rfl, ite_both (fun _ => hM _) fun _ => rd_ixT hk1 rfl ⟨rfl, ite_both (fun _ => ite_both (fun _ => hM _) fun _ => hM _) fun _ => hM _⟩⟩
        walk_at "rd"
        refine rd_ixT hk1 rfl ⟨rfl, ite_both (fun _ => hM _) fun _ => rd_ixT hk1 rfl ⟨rfl, ite_both (fun _ => ite_both (fun _ => hM _) fun _ => hM _) fun _ => hM _⟩⟩
      walk_at "rd"
      exact rd_ixT hk1 rfl ⟨rfl, ite_both (fun _ => ⟨_, _, _, rfl, hb, fun n _ => hM n⟩) fun _ => hM _⟩
    walk_at "rd"
    refine ite_both (fun _ => ?_) fun _ => hM _ oknm
    obtain ⟨v, e1, e2⟩ := atI_in (xs := ns.map fun l => V.str (tx l)) (i := tu % 4) (by omega) (by rw [List.length_map, hn2]; omega)
    obtain ⟨z, hz, rfl⟩ := map_get e2
    exact rd_ixL hn1 e1 (hM z fun x hx => abc_ok ((hn3 z (List.mem_of_getElem? hz)).2.2 x hx))
theorem sc_l_rooms_by : FnScope ["cell", "many", "mixed", "bits", "rooms", "room"] ["cell", "many", "mixed"] (defScope s_l_rooms_by) := ⟨rfl, rfl, rfl, by decide +kernel, rfl, by decide +kernel, by decide +kernel⟩
theorem ok_l_rooms_by (T : Txt K mg t) : FnOk P w K mg base (CX1 P w) 2 t.a_l_rooms_by t.d_l_rooms_by ["cell", "many", "mixed"] (sp_l_rooms_by) := by
  have G_l_mixed := (ok_l_mixed (P := P) (w := w) (base := base) T).mono (show 1 ≤ 1 by decide)
  refine T.l_rooms_by.fn.okN sc_l_rooms_by (fun vs H Q E h => ?_) (fun cdv A outer s H vs Q E hr h => ?_)
  · obtain ⟨c, n, bb, rfl, n0, n1, k⟩ := h
    rfl
  · obtain ⟨c, n, bb, rfl, n0, n1, k⟩ := h
    refine ⟨_, Bx.un (bpss_cons (bps_set (i := 3) sc_l_rooms_by.nd rfl (by first | exact Or.inl rfl | exact Or.inr rfl) (bpe_op op_mod (bpv 0) bpe_int))
      (bpss_cons (bps_if (bpt_val (bpv 2))
      (bpss_one (bps_set (i := 3) sc_l_rooms_by.nd rfl (by first | exact Or.inl rfl | exact Or.inr rfl) (bpe_fnx T.l_mixed G_l_mixed hr pass0' (bpa_cons (bpv 0) bpa_nil))))
      bpss_nil)
      (bpss_cons (bps_set (i := 4) sc_l_rooms_by.nd rfl (by first | exact Or.inl rfl | exact Or.inr rfl) (bpe_lst bpa_nil))
      (bpss_cons (bps_for PassesOwn.never rfl (bpi_range2 rfl T.b_range (bpa_cons bpe_int (bpa_cons (bpe_op op_add (bpv 1) bpe_int) bpa_nil))) (bpg_name (i := 5) sc_l_rooms_by.nd rfl (by first | exact Or.inl rfl | exact Or.inr rfl))
      (bpss_cons (bps_if (bpt_cmpR op_eq (bpe_op op_mod (bpv 3) bpe_int) bpe_int (nomark _))
      (bpss_one (bps_expr (bpe_bm PySem.F.plainAttrs_list PySem.F.slot_list_append PySem.F.type_list_append mt_append (bpv 4) (bpa_cons (bpv 5) bpa_nil))))
      bpss_nil)
      (bpss_one (bps_set (i := 3) sc_l_rooms_by.nd rfl (by first | exact Or.inl rfl | exact Or.inr rfl) (bpe_op op_fdiv (bpv 3) bpe_int)))))
      (bpss_one (bps_ret (bpv 4))))))), ?_⟩
    walk_at "rs"
    refine seq_rule fun N hN => ?_
    walk_at "rd"
    refine hN _ _ ?_
    clear hN N
    refine seq_rule fun N hN => ?_
    have hM : ∀ bits : Int, N [some (.int c), some (.int n), some (.bl bb), some (.int bits), none, none] H := by
      intro bits
      refine hN _ _ ?_
      clear hN N
      refine seq_rule fun N hN => ?_
      walk_at "rd"
      refine ⟨Nat.zero_le _, fun q hq => hN _ _ ?_⟩
      clear hN N
      refine seq_rule fun N hN => ?_
      refine ⟨_, rfl, _, _, rfl, rfl, _, _, rfl, ⟨by decide, by decide, by omega, by omega⟩, for_range (n := (n + 1 - 1).toNat) (lo := 1) (fun i σ H2 => ∃ (v : Option V) (bits : Int) (l : List Int), σ = [some (.int c), some (.int n), some (.bl bb), some (.int bits), some (.ref q), v] ∧ Same H H2 ∧ H2 q = some (.lst (l.map V.int)) ∧ (∀ r ∈ l, 1 ≤ r ∧ r ≤ n) ∧ l.length ≤ i)
        ⟨none, bits, [], rfl, Same.new hq, upd_same, fun r hr => (by cases hr), Nat.le_refl _⟩ ?_ ?_⟩
      · rintro i σ H2 hi ⟨v, bits, l, rfl, s2, q2, rg, ll⟩
        walk_at "rg"
        refine seq_rule fun N2 hN => ?_
        have hM2 : ∀ (l : List Int) (H3 : Hp), Same H H3 → H3 q = some (.lst (l.map V.int)) → (∀ r ∈ l, 1 ≤ r ∧ r ≤ n) → l.length ≤ i + 1 → N2 [some (.int c), some (.int n), some (.bl bb), some (.int bits), some (.ref q), some (.int (1 + (i : Int)))] H3 := by
          intro l H3 s3 q3 rg3 l3
          refine hN _ _ ?_
          walk_at "rd"
          exact ⟨s3, l, q3, rg3, l3⟩
        walk_at "rd"
        refine ite_both (fun _ => ⟨tyV_lst (SqL.of q2), _, q2, ?_, hM2 (l ++ [1 + (i : Int)]) _ (s2.upd_new hq) ?_ (fun r hr => ?_) ?_⟩) fun _ => hM2 l H2 s2 q2 rg (by omega)
        · rw [List.length_map]
          exact Nat.lt_of_lt_of_le (show List.length l < 3000 by omega) (sz_of (by decide))
        · rw [upd_same, List.map_append]
          rfl
        · rcases List.mem_append.mp hr with z | z
          · exact rg r z
          · rw [List.mem_singleton.mp z]
            omega
        · rw [List.length_append]
          simp only [List.length_cons, List.length_nil]
          omega
      · rintro σ H2 ⟨v, bits, l, rfl, s2, q2, rg, ll⟩
        refine hN _ _ ?_
        walk_at "rd"
        exact k q H2 l hq s2 q2 rg (by omega)
    walk_at "rd"
    exact ite_both (fun _ => ⟨_, rfl, fun m _ _ => hM m⟩) fun _ => hM _
theorem sc_l_rising : FnScope ["found", "due", "room"] ["found", "due"] (defScope s_l_rising) := ⟨rfl, rfl, rfl, by decide +kernel, rfl, by decide +kernel, by decide +kernel⟩
theorem ok_l_rising (T : Txt K mg t) : FnOk P w K mg base (CX1 P w) 2 t.a_l_rising t.d_l_rising ["found", "due"] (sp_l_rising) := by
  have G_l_whole := (ok_l_whole (P := P) (w := w) (base := base) T).mono (show 1 ≤ 1 by decide)
  refine T.l_rising.fn.okN sc_l_rising (fun vs H Q E h => ?_) (fun cdv A outer s H vs Q E hr h => ?_)
  · obtain ⟨a, b, l, rfl, ha, hb, k⟩ := h
    rfl
  · obtain ⟨a, b, l, rfl, ha, hb, k⟩ := h
    refine ⟨_, Bx.un (bpss_cons (bps_if (bpw_or (bpt_not (bpt_val (bpe_callB call_isinst (by rfl) T.b_isinstance PyProof.Rows.boot_isinstance (bpa_cons (bpv 0) (bpa_cons (bpe_ty T.b_list PyProof.Rows.boot_list) bpa_nil))))) (bpw_or1 (bpt_cmpR (op_neD (hu64 hr)) (bpv 0) (bpv 1) (nomark _)))).bpt
      (bpss_one (bps_ret bpe_bl))
      bpss_nil)
      (bpss_cons (bps_for PassesOwn.never rfl (bpi_list (bpv 0)) (bpg_name (i := 2) sc_l_rising.nd rfl (by first | exact Or.inl rfl | exact Or.inr rfl))
      (bpss_one (bps_if (bpt_not (bpt_val (bpe_fnx T.l_whole G_l_whole hr pass0' (bpa_cons (bpv 2) bpa_nil))))
      (bpss_one (bps_ret bpe_bl))
      bpss_nil)))
      (bpss_one (bps_ret bpe_bl)))), ?_⟩
    walk_at "rs"
    refine seq_rule fun N hN => ?_
    walk_at "rd"
    refine ⟨_, .lst ha, _, kit_ll K, ite_F (by decide) ⟨_, .lst (SqL.of ha) (datVs_ints l), .lst (SqL.of hb) (datVs_ints l), shaped_ints l, hN _ _ ?_⟩⟩
    clear hN N
    refine seq_rule fun N hN => ?_
    refine ⟨_, rfl, a, rfl, ⟨_, SqL.of ha⟩, for_list (K := K) (a := a) (xs := l.map V.int) (fun i σ H2 => ∃ v, σ = [some (.ref a), some (.ref b), v] ∧ H2 = H) ⟨none, rfl, rfl⟩ (fun i σ H2 _ ⟨_, _, e⟩ => by rw [e]; exact SqL.of ha) ?_ ?_⟩
    · rintro i y σ H2 hi ⟨v, rfl, rfl⟩
      obtain ⟨x, hx, rfl⟩ := map_get hi
      walk_at "rg"
      walk_at "rd"
      exact ⟨x, rfl, _, rfl, ite_F (by decide) rfl⟩
    · rintro σ H2 ⟨v, rfl, rfl⟩
      refine hN _ _ ?_
      walk_at "rd"
      exact k
theorem sc_l_walk : FnScope ["marks", "follows", "steps", "here", "step", "found", "room", "ahead"] ["marks", "follows", "steps"] (defScope s_l_walk) := ⟨rfl, rfl, rfl, by decide +kernel, rfl, by decide +kernel, by decide +kernel⟩
theorem ok_l_walk (T : Txt K mg t) : FnOk P w K mg base (CX1 P w) 2 t.a_l_walk t.d_l_walk ["marks", "follows", "steps"] (sp_l_walk) := by
  have G_l_fit := (ok_l_fit (P := P) (w := w) (base := base) T).mono (show 1 ≤ 1 by decide)
  refine T.l_walk.fn.okN sc_l_walk (fun vs H Q E h => ?_) (fun cdv A outer s H vs Q E hr h => ?_)
  · obtain ⟨lm, lf, ls, m, ss, rfl, hm, hf, ok, hs, k⟩ := h
    rfl
  · obtain ⟨lm, lf, ls, m, ss, rfl, hm, hf, ok, hs, k⟩ := h
    refine ⟨_, Bx.un (bpss_cons (bps_set (i := 3) sc_l_walk.nd rfl (by first | exact Or.inl rfl | exact Or.inr rfl) (bpe_lst (bpa_cons bpe_int bpa_nil)))
      (bpss_cons (bps_for PassesOwn.never rfl (bpi_list (bpv 2)) (bpg_name (i := 4) sc_l_walk.nd rfl (by first | exact Or.inl rfl | exact Or.inr rfl))
      (bpss_cons (bps_set (i := 5) sc_l_walk.nd rfl (by first | exact Or.inl rfl | exact Or.inr rfl) (bpe_lst bpa_nil))
      (bpss_cons (bps_for PassesOwn.never rfl (bpi_range2 rfl T.b_range (bpa_cons bpe_int (bpa_cons (bpe_callB call_len_seq (by rfl) T.b_len PySem.boot_len (bpa_cons (bpv 1) bpa_nil)) bpa_nil))) (bpg_name (i := 6) sc_l_walk.nd rfl (by first | exact Or.inl rfl | exact Or.inr rfl))
      (bpss_cons (bps_setC (i := 7) sc_l_walk.nd rfl (by first | exact Or.inl rfl | exact Or.inr rfl) rfl (N := ["old", "room", "follows"]) (fr := [6, 1]) (CSc.of (by kernel_rfl)) (bpi_list (bpv 3)) (fun _ _ _ _ _ => (bpts_one (bpt_cmpR (op_in_seqK K) (bpv 1) (bpe_ixA (ix_listK K) (bpv 2) (bpv 0)) (by with_unfolding_all rfl))))
        (fun _ _ _ _ _ => (bpv 0)))
      (bpss_one (bps_if (bpw_and (bpt_cmpR op_gt (bpe_callB call_len_seq (by rfl) T.b_len PySem.boot_len (bpa_cons (bpv 7) bpa_nil)) bpe_int (nomark _)) (bpw_and1 (bpt_val (bpe_fnx T.l_fit G_l_fit hr pass0' (bpa_cons (bpe_ixA ix_list (bpv 0) (bpe_op op_sub (bpv 6) bpe_int)) (bpa_cons (bpv 4) bpa_nil)))))).bpt
      (bpss_one (bps_expr (bpe_bm PySem.F.plainAttrs_list PySem.F.slot_list_append PySem.F.type_list_append mt_append (bpv 5) (bpa_cons (bpv 6) bpa_nil))))
      bpss_nil))))
      (bpss_one (bps_set (i := 3) sc_l_walk.nd rfl (by first | exact Or.inl rfl | exact Or.inr rfl) (bpv 5))))))
      (bpss_one (bps_ret (bpv 3))))), ?_⟩
    walk_at "rs"
    obtain ⟨am, em, alm⟩ := hm
    obtain ⟨af, ef, alf⟩ := hf
    obtain ⟨as, es, als⟩ := hs
    have lenm := alm.len
    have lenf := alf.len
    have lens := als.len
    refine seq_rule fun N hN => ?_
    walk_at "rd"
    refine ⟨by decide, fun q0 hq0 => hN _ _ ?_⟩
    clear hN N
    refine seq_rule fun N hN => ?_
    have n0 := Same.new (o := .lst [V.int 0]) hq0
    refine ⟨_, rfl, ls, rfl, ⟨_, SqL.of (n0 _ _ es)⟩, for_list (K := K) (a := ls) (xs := as.map V.ref) (fun i σ H2 => ∃ (v4 v5 v6 v7 : Option V) (q : Addr), σ = [some (.ref lm), some (.ref lf), some (.ref ls), some (.ref q), v4, v5, v6, v7] ∧ Same H H2 ∧ H q = none ∧ H2 q = some (.lst ((walkC m [0] (ss.take i)).map V.int)))
      ⟨none, none, none, none, q0, rfl, n0, hq0, upd_same⟩ (fun i σ H2 _ ⟨_, _, _, _, _, _, s2, _⟩ => SqL.of (s2 _ _ es)) ?_ ?_⟩
    · rintro i y σ H2 hi ⟨v4, v5, v6, v7, q, rfl, s2, hq, q2⟩
      obtain ⟨x, hx, rfl⟩ := map_get hi
      have il : i < as.length := (List.getElem?_eq_some_iff.mp hx).1
      have hst : ss[i]? = some (ss[i]'(by omega)) := by simp
      obtain ⟨ex, _⟩ := als.get hx hst
      generalize (ss[i]'(by omega)) = st at hst ex
      clear hN
      walk_at "rg"
      refine seq_rule fun N2 hN => ?_
      walk_at "rd"
      refine ⟨Nat.zero_le _, fun f hf0 => hN _ _ ?_⟩
      clear hN N2
      have n3 := Same.new (o := .lst []) hf0
      have s3 := s2.trans n3
      have hf00 := s2.free hf0
      have q3 := n3 _ _ q2
      have f3 : upd H2 f (.lst []) f = some (.lst []) := upd_same
      have fq : q ≠ f := ne_of_none q2 hf0
      generalize upd H2 f (.lst []) = H3 at s3 q3 f3
      generalize hw : walkC m [0] (ss.take i) = here at q3
      have hrng : ∀ o ∈ here, 0 ≤ o ∧ o ≤ m.mks.length := by
        rw [← hw]
        exact walk_rng zero_rng
      have hlen : here.length ≤ 25 := by
        rw [← hw]
        exact walk_len ok _
      refine seq_rule fun N2 hN => ?_
      refine ⟨_, rfl, lf, _, rfl, .inl (SqL.of (s3 _ _ ef)), _, _, rfl, ⟨by decide, by decide, by rw [List.length_map]; omega, by rw [List.length_map, lenf, ok.lf]; have := ok.few; omega⟩, for_range (n := ((((af.map V.ref).length : Nat) : Int) - 1).toNat) (lo := 1) (fun j σ H4 => ∃ (v6 v7 : Option V), σ = [some (.ref lm), some (.ref lf), some (.ref ls), some (.ref q), some (.ref x), some (.ref f), v6, v7] ∧ Same H H4 ∧ H4 q = some (.lst (here.map V.int)) ∧ H4 f = some (.lst ((((roomsC m).take j).filter fun r => here.any (fun old => decide (r ∈ folOf m old)) && fitO m st r).map V.int)))
        ⟨_, _, rfl, s3, q3, f3⟩ ?_ ?_⟩
      · rintro j σ H4 hj ⟨v6, v7, rfl, s4, q4, f4⟩
        have jl : j < m.mks.length := by
          rw [List.length_map, lenf, ok.lf] at hj
          omega
        have hroom : (roomsC m)[j]? = some (1 + (j : Int)) := by
          unfold roomsC
          rw [List.getElem?_map, List.getElem?_range jl]
          rfl
        have tk := take_get hroom
        obtain ⟨am1, ham1, em1⟩ := alm.at (show m.mks[j]? = some m.mks[j] by simp)
        have fo : fitO m st (1 + (j : Int)) = fitC m.mks[j] st := fitO_at (by rw [show (1 + (j : Int) - 1).toNat = j by omega]; simp)
        clear hN
        walk_at "rg"
        refine seq_rule fun N3 hN => ?_
        refine ⟨_, rfl, q, rfl, ⟨_, SqL.of q4⟩, comp_by (tells_list (SqL.of q4)) (fun old => decide (1 + (j : Int) ∈ folOf m old)) V.int (sz_of (by omega)) (fun o H5 Q2 ho s5 h => ?_) (fun o H5 Q2 ho _ s5 h => ⟨_, rfl, h _ (Same.refl _)⟩) fun D H5 hD s5 d5 => hN _ _ ?_⟩
        · obtain ⟨o0, o1⟩ := hrng o ho
          obtain ⟨fa, hfa, efa⟩ := alf.at (folOf_at ok o0 o1)
          have s45 := s4.trans s5
          walk_at "rd"
          refine rd_ixL (s45 _ _ ef) (v := .ref fa) (at_get o0 (by rw [List.getElem?_map, hfa]; rfl)) (rd_inN (SqL.of (s45 _ _ efa)) ⟨_, rfl, h _ (Same.refl _)⟩)
        clear hN N3
        have s05 := s4.trans s5
        have f5 := s5 _ _ f4
        have q5 := s5 _ _ q4
        rw [tk, List.filter_append] at *
        walk_at "rd"
        have none_ : ∀ H6 : Hp, Same H H6 → H6 q = some (.lst (here.map V.int)) → H6 f = some (.lst ((((roomsC m).take j).filter fun r => here.any (fun old => decide (r ∈ folOf m old)) && fitO m st r).map V.int)) → (here.any (fun old => decide (1 + (j : Int) ∈ folOf m old)) && fitO m st (1 + (j : Int))) = false → H6 f = some (.lst (((((roomsC m).take j).filter fun r => here.any (fun old => decide (r ∈ folOf m old)) && fitO m st r) ++ [1 + (j : Int)].filter fun r => here.any (fun old => decide (r ∈ folOf m old)) && fitO m st r).map V.int)) := by
          intro H6 _ _ f6 hno
          rw [List.filter_cons_of_neg (by rw [hno]; exact Bool.false_ne_true), List.filter_nil, List.append_nil]
          exact f6
        refine ⟨_, .inl (SqL.of d5), ?_⟩
        rw [List.length_map]
        refine ite_both (fun h0 => ?_) fun h0 => ?_
        · have any1 : here.any (fun old => decide (1 + (j : Int) ∈ folOf m old)) = true := (filter_pos _ _).mp (by omega)
          refine rd_ixL (s05 _ _ em) (v := .ref am1) (at_get (by omega) (by rw [List.getElem?_map, show (1 + (j : Int) - 1).toNat = j by omega, ham1]; rfl)) ⟨am1, x, m.mks[j], st, rfl, s05 _ _ em1.1, s05 _ _ ex, em1.2, fun H6 s6 => ⟨_, rfl, ite_both (fun h1 => ?_) fun h1 => ?_⟩⟩
          · refine ⟨tyV_lst (SqL.of (s6 _ _ f5)), _, s6 _ _ f5, ?_, ?_⟩
            · rw [List.length_map]
              have l1 := List.length_filter_le (fun r => here.any (fun old => decide (r ∈ folOf m old)) && fitO m st r) ((roomsC m).take j)
              rw [List.length_take] at l1
              have := ok.few
              exact Nat.lt_of_lt_of_le (show _ < 3000 by omega) (sz_of (by decide))
            · refine ⟨(s05.trans s6).upd_new hf00, (upd_ne fq).trans (s6 _ _ q5), ?_⟩
              rw [upd_same, List.filter_cons_of_pos (by rw [any1, fo, h1]; rfl), List.filter_nil, List.map_append]
              rfl
          · exact ⟨s05.trans s6, s6 _ _ q5, none_ H6 (s05.trans s6) (s6 _ _ q5) (s6 _ _ f5) (by rw [any1, fo]; simpa using h1)⟩
        · have any0 : here.any (fun old => decide (1 + (j : Int) ∈ folOf m old)) = false := by
            cases z : here.any (fun old => decide (1 + (j : Int) ∈ folOf m old)) with
            | false => rfl
            | true => exact absurd ((filter_pos _ _).mpr z) (by omega)
          exact ⟨s05, q5, none_ H5 s05 q5 f5 (by rw [any0]; rfl)⟩
      · rintro σ H4 ⟨v6, v7, rfl, s4, q4, f4⟩
        refine hN _ _ ?_
        walk_at "rd"
        rw [List.length_map, lenf, ok.lf] at f4
        have full : (roomsC m).take (((m.mks.length + 1 : Nat) : Int) - 1).toNat = roomsC m := by
          refine List.take_of_length_le ?_
          unfold roomsC
          rw [List.length_map, List.length_range]
          omega
        rw [full] at f4
        refine ⟨s4, hf00, ?_⟩
        rw [take_get hst, walkC_snoc, hw]
        exact f4
    · rintro σ H2 ⟨v4, v5, v6, v7, q, rfl, s2, hq, q2⟩
      refine hN _ _ ?_
      walk_at "rd"
      rw [List.length_map, lens, List.take_length] at q2
      exact k q H2 hq s2 q2
theorem sc_l_run : FnScope ["run", "marks", "follows", "ends", "steps", "old", "k", "room"] ["run", "marks", "follows", "ends", "steps"] (defScope s_l_run) := ⟨rfl, rfl, rfl, by decide +kernel, rfl, by decide +kernel, by decide +kernel⟩
theorem ok_l_run (T : Txt K mg t) : FnOk P w K mg base (CX1 P w) 2 t.a_l_run t.d_l_run ["run", "marks", "follows", "ends", "steps"] (sp_l_run) := by
  have G_l_whole := (ok_l_whole (P := P) (w := w) (base := base) T).mono (show 1 ≤ 1 by decide)
  have G_l_fit := (ok_l_fit (P := P) (w := w) (base := base) T).mono (show 1 ≤ 1 by decide)
  refine T.l_run.fn.okN sc_l_run (fun vs H Q E h => ?_) (fun cdv A outer s H vs Q E hr h => ?_)
  · obtain ⟨r, lm, lf, le, ls, m, ss, run, rfl, hr0, hm, hf, he, ok, hs, rl, few, ch, k⟩ := h
    rfl
  · obtain ⟨r, lm, lf, le, ls, m, ss, run, rfl, hr0, hm, hf, he, ok, hs, rl, few, ch, k⟩ := h
    refine ⟨_, Bx.un (bpss_cons (bps_if (bpw_or (bpt_not (bpt_val (bpe_callB call_isinst (by rfl) T.b_isinstance PyProof.Rows.boot_isinstance (bpa_cons (bpv 0) (bpa_cons (bpe_ty T.b_list PyProof.Rows.boot_list) bpa_nil))))) (bpw_or1 (bpt_cmpR op_ne (bpe_callB call_len_seq (by rfl) T.b_len PySem.boot_len (bpa_cons (bpv 0) bpa_nil)) (bpe_callB call_len_seq (by rfl) T.b_len PySem.boot_len (bpa_cons (bpv 4) bpa_nil)) (nomark _)))).bpt
      (bpss_one (bps_ret bpe_bl))
      bpss_nil)
      (bpss_cons (bps_set (i := 5) sc_l_run.nd rfl (by first | exact Or.inl rfl | exact Or.inr rfl) bpe_int)
      (bpss_cons (bps_for PassesOwn.never rfl (bpi_range1 rfl T.b_range (bpa_cons (bpe_callB call_len_seq (by rfl) T.b_len PySem.boot_len (bpa_cons (bpv 0) bpa_nil)) bpa_nil)) (bpg_name (i := 6) sc_l_run.nd rfl (by first | exact Or.inl rfl | exact Or.inr rfl))
      (bpss_cons (bps_set (i := 7) sc_l_run.nd rfl (by first | exact Or.inl rfl | exact Or.inr rfl) (bpe_ixA ix_list (bpv 0) (bpv 6)))
      (bpss_cons (bps_if (bpw_or (bpt_not (bpt_val (bpe_fnx T.l_whole G_l_whole hr pass0' (bpa_cons (bpv 7) bpa_nil)))) (bpw_or (bpt_cmpR op_notIn_seq (bpv 7) (bpe_ixA ix_list (bpv 2) (bpv 5)) (by with_unfolding_all rfl)) (bpw_or1 (bpt_not (bpt_val (bpe_fnx T.l_fit G_l_fit hr pass0' (bpa_cons (bpe_ixA ix_list (bpv 1) (bpe_op op_sub (bpv 7) bpe_int)) (bpa_cons (bpe_ixA ix_list (bpv 4) (bpv 6)) bpa_nil)))))))).bpt
      (bpss_one (bps_ret bpe_bl))
      bpss_nil)
      (bpss_one (bps_set (i := 5) sc_l_run.nd rfl (by first | exact Or.inl rfl | exact Or.inr rfl) (bpv 7))))))
      (bpss_one (bps_ret (bpe_ixA ix_list (bpv 3) (bpv 5))))))), ?_⟩
    walk_at "rs"
    obtain ⟨am, em, alm⟩ := hm
    obtain ⟨af, ef, alf⟩ := hf
    obtain ⟨as, es, als⟩ := hs
    have lens := als.len
    refine seq_rule fun N hN => ?_
    walk_at "rd"
    refine ⟨_, .lst hr0, _, kit_ll K, ite_F (by decide) ⟨_, .inl (SqL.of hr0), _, .inl (SqL.of es), ite_F (fun z => z (by simp only [List.length_map]; omega)) (hN _ _ ?_)⟩⟩
    clear hN N
    refine seq_rule fun N hN => ?_
    walk_at "rd"
    refine hN _ _ ?_
    clear hN N
    refine seq_rule fun N hN => ?_
    refine ⟨_, rfl, r, _, rfl, .inl (SqL.of hr0), _, rfl, by rw [List.length_map]; omega, by rw [List.length_map]; omega, ?_⟩
    rw [List.length_map, Int.toNat_natCast]
    refine for_range (n := run.length) (lo := 0) (fun i σ H2 => ∃ (v v' : Option V) (old : Int), σ = [some (.ref r), some (.ref lm), some (.ref lf), some (.ref le), some (.ref ls), some (.int old), v, v'] ∧ Same H H2 ∧ 0 ≤ old ∧ old ≤ m.mks.length ∧ chainC m old (ss.drop i) (run.drop i))
      ⟨none, none, 0, rfl, Same.refl _, by omega, by omega, ch⟩ ?_ ?_
    · rintro i σ H2 hi ⟨v, v', old, rfl, s2, o0, o1, c2⟩
      have il : i < ss.length := by omega
      rw [List.drop_eq_getElem_cons il, List.drop_eq_getElem_cons hi] at c2
      obtain ⟨⟨g1, g2⟩, c3⟩ := c2
      have hrm : run[i]? = some run[i] := by simp
      have hst : ss[i]? = some ss[i] := by simp
      generalize run[i] = o at g1 g2 c3 hrm
      generalize ss[i] = st at g2 hst
      obtain ⟨p0, p1⟩ := folOf_rng ok g1
      obtain ⟨fa, hfa, efa⟩ := alf.at (folOf_at ok o0 o1)
      obtain ⟨kk, hkk⟩ := mark_at p0 p1
      obtain ⟨ma, hma, ema⟩ := alm.at hkk
      obtain ⟨sa, hsa, esa⟩ := als.at hst
      rw [fitO_at hkk] at g2
      walk_at "rg"
      walk_at "rd"
      refine rd_ixL (s2 _ _ hr0) (v := .int o) (by rw [Int.zero_add]; exact atI_nat (by rw [List.getElem?_map, hrm]; rfl)) ?_
      refine ⟨o, rfl, _, rfl, ite_F (by decide) (rd_ixL (s2 _ _ ef) (v := .ref fa) (at_get o0 (by rw [List.getElem?_map, hfa]; rfl)) (rd_inN (SqL.of (s2 _ _ efa)) ⟨_, rfl, ite_F (by simp [g1]) ⟨_, rfl, rd_ixL (s2 _ _ em) (v := .ref ma) (at_get (by omega) (by rw [List.getElem?_map, hma]; rfl)) (rd_ixL (s2 _ _ es) (v := .ref sa) (by rw [Int.zero_add]; exact atI_nat (by rw [List.getElem?_map, hsa]; rfl)) ⟨ma, sa, kk, st, rfl, s2 _ _ ema.1, s2 _ _ esa.1, ema.2, fun H3 s3 => ⟨_, rfl, ite_F (by rw [g2]; decide) ⟨_, _, o, rfl, rfl, rfl, s2.trans s3, by omega, p1, c3⟩⟩⟩)⟩⟩))⟩
    · rintro σ H2 ⟨v, v', old, rfl, s2, o0, o1, c2⟩
      refine hN _ _ ?_
      walk_at "rd"
      rw [rl, List.drop_length, ← rl, List.drop_length] at c2
      have c3 : endC m old = true := c2
      refine rd_ixL (s2 _ _ he) (endC_at ok o0 o1) ?_
      rw [c3]
      exact k H2 s2
theorem sc_l_steps_by : FnScope ["cells", "marks", "names", "base", "steps", "cell", "turn"] ["cells", "marks", "names", "base"] (defScope s_l_steps_by) := ⟨rfl, rfl, rfl, by decide +kernel, rfl, by decide +kernel, by decide +kernel⟩
theorem ok_l_steps_by (T : Txt K mg t) : FnOk P w K mg base (CX1 P w) 4 t.a_l_steps_by t.d_l_steps_by ["cells", "marks", "names", "base"] (sp_l_steps_by) := by
  have G_l_mixed := (ok_l_mixed (P := P) (w := w) (base := base) T).mono (show 1 ≤ 3 by decide)
  have G_l_step_by := (ok_l_step_by (P := P) (w := w) (base := base) T).mono (show 3 ≤ 3 by decide)
  have G_l_step_for := (ok_l_step_for (P := P) (w := w) (base := base) T).mono (show 3 ≤ 3 by decide)
  refine T.l_steps_by.fn.okN sc_l_steps_by (fun vs H Q E h => ?_) (fun cdv A outer s H vs Q E hr h => ?_)
  · obtain ⟨lc, lm, nm, b, cs, ms, ns, rfl, hc, lc63, hm, mne, m24, hn, hb, k⟩ := h
    rfl
  · obtain ⟨lc, lm, nm, b, cs, ms, ns, rfl, hc, lc63, hm, mne, m24, hn, hb, k⟩ := h
    refine ⟨_, Bx.un (bpss_cons (bps_set (i := 4) sc_l_steps_by.nd rfl (by first | exact Or.inl rfl | exact Or.inr rfl) (bpe_lst bpa_nil))
      (bpss_cons (bps_for PassesOwn.never rfl (bpi_list (bpv 0)) (bpg_name (i := 5) sc_l_steps_by.nd rfl (by first | exact Or.inl rfl | exact Or.inr rfl))
      (bpss_cons (bps_set (i := 6) sc_l_steps_by.nd rfl (by first | exact Or.inl rfl | exact Or.inr rfl) (bpe_op op_fdiv (bpe_fnx T.l_mixed G_l_mixed hr pass0' (bpa_cons (bpv 5) bpa_nil)) bpe_int))
      (bpss_one (bps_if (bpt_cmpR op_eq (bpe_op op_mod (bpv 6) bpe_int) bpe_int (nomark _))
      (bpss_one (bps_expr (bpe_bm PySem.F.plainAttrs_list PySem.F.slot_list_append PySem.F.type_list_append mt_append (bpv 4) (bpa_cons (bpe_fnx T.l_step_by G_l_step_by hr pass0' (bpa_cons (bpv 5) (bpa_cons (bpv 2) (bpa_cons (bpv 3) bpa_nil)))) bpa_nil))))
      (bpss_one (bps_expr (bpe_bm PySem.F.plainAttrs_list PySem.F.slot_list_append PySem.F.type_list_append mt_append (bpv 4) (bpa_cons (bpe_fnx T.l_step_for G_l_step_for hr pass0' (bpa_cons (bpv 5) (bpa_cons (bpe_ixA ix_list (bpv 1) (bpe_op op_mod (bpe_op op_fdiv (bpv 6) bpe_int) (bpe_callB call_len_seq (by rfl) T.b_len PySem.boot_len (bpa_cons (bpv 1) bpa_nil)))) (bpa_cons (bpv 2) (bpa_cons (bpv 3) bpa_nil))))) bpa_nil))))))))
      (bpss_one (bps_ret (bpv 4))))), ?_⟩
    walk_at "rs"
    refine seq_rule fun N hN => ?_
    walk_at "rd"
    refine ⟨Nat.zero_le _, fun q hq => hN _ _ ?_⟩
    clear hN N
    have n0 := Same.new (o := .lst []) hq
    refine seq_rule fun N hN => ?_
    refine ⟨_, rfl, lc, rfl, ⟨_, SqL.of (n0 _ _ hc)⟩, for_list (K := K) (a := lc) (xs := cs.map V.int) (fun i σ H2 => ∃ (v v' : Option V) (ss : List Stp), σ = [some (.ref lc), some (.ref lm), some (.ref nm), some (.int b), some (.ref q), v, v'] ∧ Same H H2 ∧ StepsAt H2 q ss ∧ ss.length = i)
      ⟨none, none, [], rfl, n0, StepsAt.nil upd_same, rfl⟩ (fun i σ H2 _ ⟨_, _, _, _, s2, _⟩ => SqL.of (s2 _ _ hc)) ?_ ?_⟩
    · rintro i y σ H2 hi ⟨v, v', ss, rfl, s2, ⟨as, es, als⟩, sl⟩
      obtain ⟨c, hcc, rfl⟩ := map_get hi
      have il : i < cs.length := (List.getElem?_eq_some_iff.mp hcc).1
      obtain ⟨am, em, alm⟩ := hm.same s2
      have hn2 : NamesAt H2 nm ns := ⟨s2 _ _ hn.1, hn.2⟩
      have asl := als.len
      have mpos : 0 < ms.length := List.length_pos_iff.mpr mne
      walk_at "rg"
      refine seq_rule fun N2 hN => ?_
      walk_at "rd"
      refine ⟨_, rfl, fun tu t0 t1 => ⟨_, rfl, hN _ _ ?_⟩⟩
      clear hN N2
      generalize tu / 3 = tv
      have done : ∀ (st : Stp) (p : Addr) (H3 : Hp), okT st.nm → Same H2 H3 → H3 p = some (.tup (stV st)) → ∃ x_1, H3 q = some (.lst x_1) ∧ x_1.length < sizeLine ∧ Same H (upd H3 q (.lst (x_1 ++ [.ref p]))) ∧ ∃ x, StepsAt (upd H3 q (.lst (x_1 ++ [.ref p]))) q x ∧ x.length = i + 1 := by
        intro st p H3 okn s3 e3
        refine ⟨_, s3 _ _ es, ?_, (s2.trans s3).upd_new hq, ss ++ [st], steps_push es als s3 e3 okn, by rw [List.length_append, sl]; rfl⟩
        rw [List.length_map, asl, sl]
        exact Nat.lt_of_lt_of_le (show i < 3000 by omega) (sz_of (by decide))
      walk_at "rd"
      refine ite_both (fun _ => ⟨tyV_lst (SqL.of es), _, _, _, _, rfl, hn2, hb, fun st p H3 ok3 hp s3 e3 => done st p H3 (fun x hx => abc_ok (ok3.nm.2.2 x hx)) s3 e3⟩) fun _ => ⟨tyV_lst (SqL.of es), ?_⟩
      have aml := alm.len
      refine ⟨_, .inl (SqL.of em), by rw [List.length_map]; omega, ?_⟩
      rw [List.length_map, aml]
      obtain ⟨v, e1, e2⟩ := atI_in (xs := am.map V.ref) (i := tv / 3 % (ms.length : Int)) (Int.emod_nonneg _ (by omega)) (by rw [List.length_map, aml]; exact Int.emod_lt_of_pos _ (by omega))
      obtain ⟨ma, hma, rfl⟩ := map_get e2
      have ml : (tv / 3 % (ms.length : Int)).toNat < ms.length := by
        have := (List.getElem?_eq_some_iff.mp hma).1
        omega
      obtain ⟨k1, k2⟩ := alm.get hma (show ms[(tv / 3 % (ms.length : Int)).toNat]? = some ms[(tv / 3 % (ms.length : Int)).toNat] by simp)
      exact rd_ixL em e1 ⟨_, ma, nm, b, _, ns, rfl, k1, k2, hn2, hb, fun st p H3 ok3 hp s3 e3 => done st p H3 ok3 s3 e3⟩
    · rintro σ H2 ⟨v, v', ss, rfl, s2, st, sl⟩
      refine hN _ _ ?_
      walk_at "rd"
      rw [List.length_map] at sl
      exact k q H2 ss hq s2 st (by omega)
theorem sc_l_steps_led : FnScope ["cells", "marks", "follows", "names", "base", "steps", "room", "cell", "turn"] ["cells", "marks", "follows", "names", "base"] (defScope s_l_steps_led) := ⟨rfl, rfl, rfl, by decide +kernel, rfl, by decide +kernel, by decide +kernel⟩
theorem ok_l_steps_led (T : Txt K mg t) : FnOk P w K mg base (CX1 P w) 4 t.a_l_steps_led t.d_l_steps_led ["cells", "marks", "follows", "names", "base"] (sp_l_steps_led) := by
  have G_l_mixed := (ok_l_mixed (P := P) (w := w) (base := base) T).mono (show 1 ≤ 3 by decide)
  have G_l_step_by := (ok_l_step_by (P := P) (w := w) (base := base) T).mono (show 3 ≤ 3 by decide)
  have G_l_step_for := (ok_l_step_for (P := P) (w := w) (base := base) T).mono (show 3 ≤ 3 by decide)
  refine T.l_steps_led.fn.okN sc_l_steps_led (fun vs H Q E h => ?_) (fun cdv A outer s H vs Q E hr h => ?_)
  · obtain ⟨lc, lm, lf, nm, b, cs, m, ns, rfl, hc, lc63, hm, hf, ok, hn, hb, k⟩ := h
    rfl
  · obtain ⟨lc, lm, lf, nm, b, cs, m, ns, rfl, hc, lc63, hm, hf, ok, hn, hb, k⟩ := h
    refine ⟨_, Bx.un (bpss_cons (bps_set (i := 5) sc_l_steps_led.nd rfl (by first | exact Or.inl rfl | exact Or.inr rfl) (bpe_lst bpa_nil))
      (bpss_cons (bps_set (i := 6) sc_l_steps_led.nd rfl (by first | exact Or.inl rfl | exact Or.inr rfl) bpe_int)
      (bpss_cons (bps_for PassesOwn.never rfl (bpi_list (bpv 0)) (bpg_name (i := 7) sc_l_steps_led.nd rfl (by first | exact Or.inl rfl | exact Or.inr rfl))
      (bpss_cons (bps_set (i := 8) sc_l_steps_led.nd rfl (by first | exact Or.inl rfl | exact Or.inr rfl) (bpe_op op_fdiv (bpe_fnx T.l_mixed G_l_mixed hr pass0' (bpa_cons (bpv 7) bpa_nil)) bpe_int))
      (bpss_one (bps_if (bpt_cmpR (op_eqN (hu64 hr)) (bpe_ixA ix_list (bpv 2) (bpv 6)) (bpe_lst bpa_nil) (nomark _))
      (bpss_one (bps_expr (bpe_bm PySem.F.plainAttrs_list PySem.F.slot_list_append PySem.F.type_list_append mt_append (bpv 5) (bpa_cons (bpe_fnx T.l_step_by G_l_step_by hr pass0' (bpa_cons (bpv 7) (bpa_cons (bpv 3) (bpa_cons (bpv 4) bpa_nil)))) bpa_nil))))
      (bpss_cons (bps_set (i := 6) sc_l_steps_led.nd rfl (by first | exact Or.inl rfl | exact Or.inr rfl) (bpe_ixA ix_list (bpe_ixA ix_list (bpv 2) (bpv 6)) (bpe_op op_mod (bpe_op op_fdiv (bpv 8) bpe_int) (bpe_callB call_len_seq (by rfl) T.b_len PySem.boot_len (bpa_cons (bpe_ixA ix_list (bpv 2) (bpv 6)) bpa_nil)))))
      (bpss_one (bps_expr (bpe_bm PySem.F.plainAttrs_list PySem.F.slot_list_append PySem.F.type_list_append mt_append (bpv 5) (bpa_cons (bpe_fnx T.l_step_for G_l_step_for hr pass0' (bpa_cons (bpv 7) (bpa_cons (bpe_ixA ix_list (bpv 1) (bpe_op op_sub (bpv 6) bpe_int)) (bpa_cons (bpv 3) (bpa_cons (bpv 4) bpa_nil))))) bpa_nil)))))))))
      (bpss_one (bps_ret (bpe_tup (bpa_cons (bpv 5) (bpa_cons (bpv 6) bpa_nil)))))))), ?_⟩
    walk_at "rs"
    refine seq_rule fun N hN => ?_
    walk_at "rd"
    refine ⟨Nat.zero_le _, fun q hq => hN _ _ ?_⟩
    clear hN N
    have n0 := Same.new (o := .lst []) hq
    refine seq_rule fun N hN => ?_
    walk_at "rd"
    refine hN _ _ ?_
    clear hN N
    refine seq_rule fun N hN => ?_
    refine ⟨_, rfl, lc, rfl, ⟨_, SqL.of (n0 _ _ hc)⟩, for_list (K := K) (a := lc) (xs := cs.map V.int) (fun i σ H2 => ∃ (v v' : Option V) (ss : List Stp) (r : Int), σ = [some (.ref lc), some (.ref lm), some (.ref lf), some (.ref nm), some (.int b), some (.ref q), some (.int r), v, v'] ∧ Same H H2 ∧ StepsAt H2 q ss ∧ ss.length = i ∧ 0 ≤ r ∧ r ≤ m.mks.length)
      ⟨none, none, [], 0, rfl, n0, StepsAt.nil upd_same, rfl, by omega, by omega⟩ (fun i σ H2 _ ⟨_, _, _, _, _, s2, _⟩ => SqL.of (s2 _ _ hc)) ?_ ?_⟩
    · rintro i y σ H2 hi ⟨v, v', ss, r, rfl, s2, ⟨as, es, als⟩, sl, r0, r1⟩
      obtain ⟨c, hcc, rfl⟩ := map_get hi
      have il : i < cs.length := (List.getElem?_eq_some_iff.mp hcc).1
      obtain ⟨am, em, alm⟩ := hm.same s2
      obtain ⟨af, ef, alf⟩ := hf.same s2
      have hn2 : NamesAt H2 nm ns := ⟨s2 _ _ hn.1, hn.2⟩
      have asl := als.len
      obtain ⟨fa, hfa, efa⟩ := alf.at (folOf_at ok r0 r1)
      have atF : atI (af.map V.ref) r = some (.ref fa) := at_get r0 (by rw [List.getElem?_map, hfa]; rfl)
      walk_at "rg"
      refine seq_rule fun N2 hN => ?_
      walk_at "rd"
      refine ⟨_, rfl, fun tu t0 t1 => ⟨_, rfl, hN _ _ ?_⟩⟩
      clear hN N2
      generalize tu / 3 = tv
      walk_at "rd"
      refine rd_ixL ef atF ⟨Nat.zero_le _, fun p hp => ⟨fa, rfl, folOf m r, SqL.of ((Same.new hp) _ _ efa), [], SqL.of upd_same, ?_⟩⟩
      have n3 := Same.new (o := .lst []) hp
      generalize upd H2 p (.lst []) = H3 at n3
      have hn3 : NamesAt H3 nm ns := ⟨n3 _ _ hn2.1, hn2.2⟩
      have e3 := n3 _ _ es
      have als3 := als.imp fun x t h => (⟨n3 _ _ h.1, h.2⟩ : H3 x = some (.tup (stV t)) ∧ okT t.nm)
      have done : ∀ (r' : Int) (st : Stp) (p : Addr) (H4 : Hp), 0 ≤ r' → r' ≤ m.mks.length → okT st.nm → Same H3 H4 → H4 p = some (.tup (stV st)) → ∃ x_1, H4 q = some (.lst x_1) ∧ x_1.length < sizeLine ∧ Same H (upd H4 q (.lst (x_1 ++ [.ref p]))) ∧ ∃ x, StepsAt (upd H4 q (.lst (x_1 ++ [.ref p]))) q x ∧ x.length = i + 1 ∧ 0 ≤ r' ∧ r' ≤ m.mks.length := by
        intro r' st p H4 g0 g1 okn s4 e4
        refine ⟨_, s4 _ _ e3, ?_, ((s2.trans n3).trans s4).upd_new hq, ss ++ [st], steps_push e3 als3 s4 e4 okn, by rw [List.length_append, sl]; rfl, g0, g1⟩
        rw [List.length_map, asl, sl]
        exact Nat.lt_of_lt_of_le (show i < 3000 by omega) (sz_of (by decide))
      refine ite_both (fun _ => ⟨tyV_lst (SqL.of e3), _, _, _, _, rfl, hn3, hb, fun st p H4 ok4 hp s4 e4 => done r st p H4 r0 r1 (fun x hx => abc_ok (ok4.nm.2.2 x hx)) s4 e4⟩) fun hne => ?_
      have fpos : 0 < (folOf m r).length := List.length_pos_iff.mpr hne
      have ef3 := n3 _ _ ef
      have efa3 := n3 _ _ efa
      have em3 := n3 _ _ em
      refine rd_ixL ef3 atF (rd_ixL ef3 atF ⟨fa, rfl, _, .inl (SqL.of efa3), by rw [List.length_map]; omega, ?_⟩)
      rw [List.length_map]
      obtain ⟨v, e1, e2⟩ := atI_in (xs := (folOf m r).map V.int) (i := tv / 9 % ((folOf m r).length : Int)) (Int.emod_nonneg _ (by omega)) (by rw [List.length_map]; exact Int.emod_lt_of_pos _ (by omega))
      obtain ⟨o, ho, rfl⟩ := map_get e2
      obtain ⟨o0, o1⟩ := folOf_rng ok (List.mem_of_getElem? ho)
      obtain ⟨kk, hkk⟩ := mark_at o0 o1
      obtain ⟨ma, hma, ema⟩ := alm.at hkk
      refine rd_ixL efa3 e1 ⟨tyV_lst (SqL.of e3), _, rfl, rd_ixL em3 (v := .ref ma) (at_get (by omega) (by rw [List.getElem?_map, hma]; rfl)) ⟨_, ma, nm, b, kk, ns, rfl, n3 _ _ ema.1, ema.2, hn3, hb, fun st p H4 ok4 hp s4 e4 => ?_⟩⟩
      obtain ⟨x1, y1, y2, y3, x2, y4, y5, y6, y7⟩ := done o st p H4 (by omega) o1 ok4 s4 e4
      exact ⟨x1, y1, y2, _, _, x2, o, rfl, rfl, rfl, y3, y4, y5, y6, y7⟩
    · rintro σ H2 ⟨v, v', ss, r, rfl, s2, st, sl, r0, r1⟩
      refine hN _ _ ?_
      walk_at "rd"
      rw [List.length_map] at sl
      exact ⟨by decide, fun p hp => k p q _ ss r (s2.free hp) hq (s2.trans (Same.new hp)) upd_same (st.same (Same.new hp)) (by omega) r0 r1⟩
theorem sc_l_steps_all : FnScope ["head", "cells", "marks", "follows", "ends", "words", "steps", "last"] ["head", "cells", "marks", "follows", "ends", "words"] (defScope s_l_steps_all) := ⟨rfl, rfl, rfl, by decide +kernel, rfl, by decide +kernel, by decide +kernel⟩
theorem ok_l_steps_all (T : Txt K mg t) : FnOk P w K mg base (CX1 P w) 5 t.a_l_steps_all t.d_l_steps_all ["head", "cells", "marks", "follows", "ends", "words"] (sp_l_steps_all) := by
  have G_l_steps_by := (ok_l_steps_by (P := P) (w := w) (base := base) T).mono (show 4 ≤ 4 by decide)
  have G_l_steps_led := (ok_l_steps_led (P := P) (w := w) (base := base) T).mono (show 4 ≤ 4 by decide)
  refine T.l_steps_all.fn.okN sc_l_steps_all (fun vs H Q E h => ?_) (fun cdv A outer s H vs Q E hr h => ?_)
  · obtain ⟨h, lc, lm, lf, le, lw, nm, b, cs, m, ns, rfl, hc, lc63, hm, mne, hf, he, lme, ok, hw, hn, hb, k⟩ := h
    rfl
  · obtain ⟨h, lc, lm, lf, le, lw, nm, b, cs, m, ns, rfl, hc, lc63, hm, mne, hf, he, lme, ok, hw, hn, hb, k⟩ := h
    refine ⟨_, Bx.un (bpss_cons (bps_set (i := 6) sc_l_steps_all.nd rfl (by first | exact Or.inl rfl | exact Or.inr rfl) (bpe_fnx T.l_steps_by G_l_steps_by hr pass0' (bpa_cons (bpv 1) (bpa_cons (bpv 2) (bpa_cons (bpe_ixA ix_tup (bpv 5) bpe_int) (bpa_cons (bpe_ixA ix_tup (bpv 5) bpe_int) bpa_nil))))))
      (bpss_cons (bps_if (bpt_cmpR op_gt (bpe_op op_mod (bpe_op op_fdiv (bpv 0) bpe_int) bpe_int) bpe_int (nomark _))
      (bpss_cons (bps_asg (bpe_fnx T.l_steps_led G_l_steps_led hr pass0' (bpa_cons (bpv 1) (bpa_cons (bpv 2) (bpa_cons (bpv 3) (bpa_cons (bpe_ixA ix_tup (bpv 5) bpe_int) (bpa_cons (bpe_ixA ix_tup (bpv 5) bpe_int) bpa_nil)))))) (bpg_tup rfl (bpgs_cons (bpg_name (i := 6) sc_l_steps_all.nd rfl (by first | exact Or.inl rfl | exact Or.inr rfl)) (bpgs_cons (bpg_name (i := 7) sc_l_steps_all.nd rfl (by first | exact Or.inl rfl | exact Or.inr rfl)) bpgs_nil))))
      (bpss_one (bps_asg (bpe_cmpR op_gt (bpe_op op_mod (bpe_op op_fdiv (bpv 0) bpe_int) bpe_int) bpe_int (nomark _)) (bpg_sub (bpv 4) (bpv 7) set_list))))
      bpss_nil)
      (bpss_cons (bps_if (bpw_and (bpt_cmpR op_lt (bpe_callB call_len_seq (by rfl) T.b_len PySem.boot_len (bpa_cons (bpv 2) bpa_nil)) bpe_int (nomark _)) (bpw_and1 (bpt_cmpR op_eq (bpe_op op_mod (bpe_op op_fdiv (bpv 0) bpe_int) bpe_int) bpe_int (nomark _)))).bpt
      (bpss_one (bps_set (i := 6) sc_l_steps_all.nd rfl (by first | exact Or.inl rfl | exact Or.inr rfl) (bpe_slice sl_list (bpe_op op_rep (bpv 6) bpe_int) bpo_none (bpo_some bpe_int))))
      bpss_nil)
      (bpss_one (bps_ret (bpv 6)))))), ?_⟩
    walk_at "rs"
    refine seq_rule fun N hN => ?_
    walk_at "rd"
    refine rd_ixT hw rfl (rd_ixT hw rfl ⟨lc, lm, nm, b, cs, m.mks, ns, rfl, hc, lc63, hm, mne, ok.few, hn, hb, fun q H1 ss hq s1 st1 l1 => hN _ _ ?_⟩)
    clear hN N
    refine seq_rule fun N hN => ?_
    have hM : ∀ (v : Option V) (H2 : Hp) (q : Addr) (ss : List Stp) (bs : List Bool), H q = none → (∀ x o, x ≠ le → H x = some o → H2 x = some o) → EndsAt H2 le bs → bs.length = m.ends.length → StepsAt H2 q ss → ss.length ≤ 63 → N [some (.int h), some (.ref lc), some (.ref lm), some (.ref lf), some (.ref le), some (.ref lw), some (.ref q), v] H2 := by
      intro v H2 q ss bs hq off e2 bl st sl
      refine hN _ _ ?_
      clear hN N
      obtain ⟨am, em, alm⟩ := hm
      have em2 := off _ _ lme em
      obtain ⟨as, es, als⟩ := st
      have asl := als.len
      refine seq_rule fun N hN => ?_
      generalize hk : (1000 : Int) = kk
      walk_at "rd"
      have keep : N [some (.int h), some (.ref lc), some (.ref lm), some (.ref lf), some (.ref le), some (.ref lw), some (.ref q), v] H2 := by
        refine hN _ _ ?_
        walk_at "rd"
        exact k q H2 ss bs hq off e2 bl ⟨as, es, als⟩ (by omega)
      refine ⟨_, .inl (SqL.of em2), ite_both (fun _ => ite_both (fun _ => ⟨_, es, by rw [← hk]; decide, by rw [← hk]; decide, by rw [List.length_map, ← hk]; exact sz_of (show as.length * 1000 ≤ 100000 by omega), fun p hp => ?_⟩) fun _ => keep) fun _ => keep⟩
      refine ⟨p, _, rfl, SqL.of upd_same, fun q' hq' => hN _ _ ?_⟩
      walk_at "rd"
      rw [rep_refs, cut_refs _ _ (by rw [← hk]; decide)] at *
      have n3 := Same.new (o := .lst (((List.replicate kk.toNat as).flatten).map V.ref)) hp
      have n4 := Same.new (o := .lst ((((List.replicate kk.toNat as).flatten).take kk.toNat).map V.ref)) hq'
      have s4 := n3.trans n4
      refine k q' _ (((List.replicate kk.toNat ss).flatten).take kk.toNat) bs ?_ (fun x o hx e => s4 _ _ (off x o hx e)) (s4 _ _ e2) bl ⟨_, upd_same, ((als.imp fun x t hh => (⟨s4 _ _ hh.1, hh.2⟩ : _ ∧ okT t.nm)).rep kk.toNat).take kk.toNat⟩ ?_
      · cases z : H q' with
        | none => rfl
        | some o =>
          by_cases ze : q' = le
          · have := s4 _ _ e2
            rw [← ze] at e2
            have := n3 _ _ e2
            rw [hq'] at this
            cases this
          · have := n3 _ _ (off _ _ ze z)
            rw [hq'] at this
            cases this
      · rw [List.length_take, ← hk]
        exact Nat.min_le_left _ _
    walk_at "rd"
    refine ite_both (fun _ => rd_ixT (s1 _ _ hw) rfl (rd_ixT (s1 _ _ hw) rfl ⟨lc, lm, lf, nm, b, cs, m, ns, rfl, s1 _ _ hc, lc63, hm.same s1, hf.same s1, ok, ⟨s1 _ _ hn.1, hn.2⟩, hb, fun p2 q2 H2 ss2 r2 hp2 hq2 s2 e2 st2 l2 r0 r1 => ⟨p2, rfl, _, SqT.of e2, rfl, _, _, rfl, _, _, rfl, rfl, ?_⟩⟩)) fun _ => hM _ H1 q ss m.ends hq (fun x o _ e => s1 _ _ e) (s1 _ _ he) rfl st1 l1
    have s02 := s1.trans s2
    have he2 := s02 _ _ he
    refine ⟨_, r2, rfl, he2, _, ixN_nat r0 (by rw [List.length_map, ok.le]; omega), ?_⟩
    refine hM _ _ q2 ss2 (m.ends.set r2.toNat (decide (0 < h / 432 % 4))) (s1.free hq2) (fun x o hx e => (upd_ne hx).trans (s02 _ _ e)) ?_ (by rw [List.length_set]) ?_ l2
    · show upd H2 le _ le = _
      rw [upd_same, List.map_set]
    · obtain ⟨as, es, als⟩ := st2
      have ql : q2 ≠ le := fun z => by
        have := s1.free hq2
        rw [z, he] at this
        cases this
      refine ⟨as, (upd_ne ql).trans es, als.imp fun x t hh => ⟨(upd_ne fun z => ?_).trans hh.1, hh.2⟩⟩
      have := hh.1
      rw [z, he2] at this
      cases this
theorem sc_law : FnScope ["script", "head", "many", "names", "base", "marks", "mixed", "follows", "lasts", "ends", "cells", "steps", "cut", "made", "handed", "due", "good", "found", "rooms", "run"] ["script"] (defScope s_law) := ⟨rfl, rfl, rfl, by decide +kernel, rfl, by decide +kernel, by decide +kernel⟩
def spLaw (K : PySem.W.Frag) : Sp := fun vs H Q _ => ∃ (a : Addr) (ns : List Int), vs = [.ref a] ∧ SqL K H a (ns.map V.int) ∧ ns.length ≤ 63 ∧ ∀ H', Q (.bl true) H'
theorem ok_law {f : Addr} {fd : FuncData} (F : Fun K "law" "law" s_law f fd) (T : Txt K mg t) : FnOk P w K mg base (CX1 P w) 7 f fd ["script"] (spLaw K) := by
  have G_l_names := (ok_l_names (P := P) (w := w) (base := base) T).mono (show 1 ≤ 6 by decide)
  have G_l_base := (ok_l_base (P := P) (w := w) (base := base) T).mono (show 1 ≤ 6 by decide)
  have G_l_rooms_by := (ok_l_rooms_by (P := P) (w := w) (base := base) T).mono (show 2 ≤ 6 by decide)
  have G_l_steps_all := (ok_l_steps_all (P := P) (w := w) (base := base) T).mono (show 5 ≤ 6 by decide)
  have G_l_walk := (ok_l_walk (P := P) (w := w) (base := base) T).mono (show 2 ≤ 6 by decide)
  have G_taken := (ok_taken (P := P) (w := w) (base := base) T).mono (show 6 ≤ 6 by decide)
  have G_rooms_behind := (ok_rooms_behind (P := P) (w := w) (base := base) T).mono (show 5 ≤ 6 by decide)
  have G_run_of := (ok_run_of (P := P) (w := w) (base := base) T).mono (show 5 ≤ 6 by decide)
  have G_l_run := (ok_l_run (P := P) (w := w) (base := base) T).mono (show 2 ≤ 6 by decide)
  have G_l_cell_at := (ok_l_cell_at (P := P) (w := w) (base := base) T).mono (show 1 ≤ 6 by decide)
  have G_l_mark_by := (ok_l_mark_by (P := P) (w := w) (base := base) T).mono (show 3 ≤ 6 by decide)
  have G_l_rising := (ok_l_rising (P := P) (w := w) (base := base) T).mono (show 2 ≤ 6 by decide)
  refine F.okN sc_law (fun vs H Q E h => ?_) (fun cdv A outer s H vs Q E hr h => ?_)
  · obtain ⟨a, ns, rfl, hS, hlen, k⟩ := h
    rfl
  · obtain ⟨a, ns, rfl, hS, hlen, k⟩ := h
    refine ⟨_, Bx.un (bpss_cons (bps_set (i := 1) sc_law.nd rfl (by first | exact Or.inl rfl | exact Or.inr rfl) (bpe_op op_mod (bpe_fnx T.l_cell_at G_l_cell_at hr pass0' (bpa_cons (bpv 0) (bpa_cons bpe_int bpa_nil))) (bpe_op op_pow bpe_int bpe_int)))
      (bpss_cons (bps_set (i := 2) sc_law.nd rfl (by first | exact Or.inl rfl | exact Or.inr rfl) (bpe_op op_add bpe_int (bpe_op op_mod (bpe_op op_fdiv (bpv 1) bpe_int) bpe_int)))
      (bpss_cons (bps_if (bpt_cmpR op_eq (bpe_op op_mod (bpv 1) bpe_int) bpe_int (nomark _))
      (bpss_one (bps_set (i := 2) sc_law.nd rfl (by first | exact Or.inl rfl | exact Or.inr rfl) (bpe_op op_add bpe_int (bpe_op op_mod (bpe_op op_fdiv (bpv 1) bpe_int) bpe_int))))
      bpss_nil)
      (bpss_cons (bps_set (i := 3) sc_law.nd rfl (by first | exact Or.inl rfl | exact Or.inr rfl) (bpe_fnx T.l_names G_l_names hr pass0' (bpa_cons (bpe_fnx T.l_cell_at G_l_cell_at hr pass0' (bpa_cons (bpv 0) (bpa_cons bpe_int bpa_nil))) bpa_nil)))
      (bpss_cons (bps_set (i := 4) sc_law.nd rfl (by first | exact Or.inl rfl | exact Or.inr rfl) (bpe_fnx T.l_base G_l_base hr pass0' (bpa_cons (bpe_fnx T.l_cell_at G_l_cell_at hr pass0' (bpa_cons (bpv 0) (bpa_cons bpe_int bpa_nil))) bpa_nil)))
      (bpss_cons (bps_setC (i := 5) sc_law.nd rfl (by first | exact Or.inl rfl | exact Or.inr rfl) rfl (N := ["k", "names", "base", "script"]) (fr := [3, 4, 0]) (CSc.of (by kernel_rfl)) (bpi_range1 rfl T.b_range (bpa_cons (bpv 2) bpa_nil)) (fun _ _ _ _ _ => bpts_nil)
        (fun _ _ _ _ _ => (bpe_fnx T.l_mark_by G_l_mark_by hr pass0' (bpa_cons (bpe_fnx T.l_cell_at G_l_cell_at hr pass0' (bpa_cons (bpv 3) (bpa_cons (bpe_op op_add bpe_int (bpv 0)) bpa_nil))) (bpa_cons (bpv 1) (bpa_cons (bpv 2) bpa_nil))))))
      (bpss_cons (bps_set (i := 6) sc_law.nd rfl (by first | exact Or.inl rfl | exact Or.inr rfl) (bpe_cmpR op_eq (bpe_op op_mod (bpe_op op_fdiv (bpv 1) bpe_int) bpe_int) bpe_int (nomark _)))
      (bpss_cons (bps_setC (i := 7) sc_law.nd rfl (by first | exact Or.inl rfl | exact Or.inr rfl) rfl (N := ["k", "many", "mixed", "script"]) (fr := [2, 6, 0]) (CSc.of (by kernel_rfl)) (bpi_range1 rfl T.b_range (bpa_cons (bpe_op op_add (bpv 2) bpe_int) bpa_nil)) (fun _ _ _ _ _ => bpts_nil)
        (fun _ _ _ _ _ => (bpe_fnx T.l_rooms_by G_l_rooms_by hr pass0' (bpa_cons (bpe_fnx T.l_cell_at G_l_cell_at hr pass0' (bpa_cons (bpv 3) (bpa_cons (bpe_op op_add (bpe_op op_add bpe_int (bpv 1)) (bpv 0)) bpa_nil))) (bpa_cons (bpv 1) (bpa_cons (bpv 2) bpa_nil))))))
      (bpss_cons (bps_set (i := 8) sc_law.nd rfl (by first | exact Or.inl rfl | exact Or.inr rfl) (bpe_fnx T.l_rooms_by G_l_rooms_by hr pass0' (bpa_cons (bpe_fnx T.l_cell_at G_l_cell_at hr pass0' (bpa_cons (bpv 0) (bpa_cons bpe_int bpa_nil))) (bpa_cons (bpe_op op_add (bpv 2) bpe_int) (bpa_cons (bpv 6) bpa_nil)))))
      (bpss_cons (bps_set (i := 9) sc_law.nd rfl (by first | exact Or.inl rfl | exact Or.inr rfl) (bpe_comp rfl (N := ["room", "lasts"]) (fr := [8]) (CSc.of (by kernel_rfl)) (bpi_range1 rfl T.b_range (bpa_cons (bpe_op op_add (bpv 2) bpe_int) bpa_nil)) (fun _ _ _ _ _ => bpts_nil)
        (fun _ _ _ _ _ => (bpe_cmpR (op_in_seqK K) (bpe_op op_add (bpv 0) bpe_int) (bpv 1) (by with_unfolding_all rfl)))))
      (bpss_cons (bps_set (i := 10) sc_law.nd rfl (by first | exact Or.inl rfl | exact Or.inr rfl) (bpe_slice sl_list (bpe_slice sl_list (bpv 0) (bpo_some (bpe_op op_add bpe_int (bpe_op op_mul bpe_int (bpv 2)))) bpo_none) bpo_none (bpo_some (bpe_op op_fdiv bpe_int (bpe_op op_add (bpv 2) bpe_int)))))
      (bpss_cons (bps_set (i := 11) sc_law.nd rfl (by first | exact Or.inl rfl | exact Or.inr rfl) (bpe_fnx T.l_steps_all G_l_steps_all hr pass0' (bpa_cons (bpv 1) (bpa_cons (bpv 10) (bpa_cons (bpv 5) (bpa_cons (bpv 7) (bpa_cons (bpv 9) (bpa_cons (bpe_tup (bpa_cons (bpv 3) (bpa_cons (bpv 4) bpa_nil))) bpa_nil))))))))
      (bpss_cons (bps_set (i := 12) sc_law.nd rfl (by first | exact Or.inl rfl | exact Or.inr rfl) (bpe_op op_mod (bpe_op op_fdiv (bpv 1) bpe_int) (bpe_op op_add (bpe_callB call_len_seq (by rfl) T.b_len PySem.boot_len (bpa_cons (bpv 11) bpa_nil)) bpe_int)))
      (bpss_cons (bps_set (i := 13) sc_law.nd rfl (by first | exact Or.inl rfl | exact Or.inr rfl) (bpe_tup (bpa_cons (bpe_callTy call_list_of (by rfl) T.b_list PyProof.Rows.boot_list (bpa_cons (bpv 5) bpa_nil)) (bpa_cons (bpe_comp rfl (N := ["rooms"]) (fr := []) (CSc.of (by kernel_rfl)) (bpi_list (bpv 7)) (fun _ _ _ _ _ => bpts_nil)
        (fun _ _ _ _ _ => (bpe_callTy (call_list_ofK K) (by rfl) T.b_list PyProof.Rows.boot_list (bpa_cons (bpv 0) bpa_nil)))) (bpa_cons (bpe_callTy call_list_of (by rfl) T.b_list PyProof.Rows.boot_list (bpa_cons (bpv 9) bpa_nil)) bpa_nil)))))
      (bpss_cons (bps_set (i := 14) sc_law.nd rfl (by first | exact Or.inl rfl | exact Or.inr rfl) (bpe_callTy call_list_of (by rfl) T.b_list PyProof.Rows.boot_list (bpa_cons (bpv 11) bpa_nil)))
      (bpss_cons (bps_set (i := 15) sc_law.nd rfl (by first | exact Or.inl rfl | exact Or.inr rfl) (bpe_fnx T.l_walk G_l_walk hr pass0' (bpa_cons (bpv 5) (bpa_cons (bpv 7) (bpa_cons (bpv 11) bpa_nil)))))
      (bpss_cons (bps_set (i := 16) sc_law.nd rfl (by first | exact Or.inl rfl | exact Or.inr rfl) (bpe_cmpR op_gt (bpe_callB call_len_seq (by rfl) T.b_len PySem.boot_len (bpa_cons (bpe_comp rfl (N := ["room", "ends"]) (fr := [9]) (CSc.of (by kernel_rfl)) (bpi_list (bpv 15)) (fun _ _ _ _ _ => (bpts_one (bpt_val (bpe_ixA (ix_listK K) (bpv 1) (bpv 0)))))
        (fun _ _ _ _ _ => (bpv 0))) bpa_nil)) bpe_int (nomark _)))
      (bpss_cons (bps_set (i := 17) sc_law.nd rfl (by first | exact Or.inl rfl | exact Or.inr rfl) (bpe_fnx T.taken G_taken hr pass0' (bpa_cons (bpv 13) (bpa_cons (bpv 14) bpa_nil))))
      (bpss_cons (bps_if (bpw_or (bpt_not (bpt_val (bpe_callB call_isinst (by rfl) T.b_isinstance PyProof.Rows.boot_isinstance (bpa_cons (bpv 17) (bpa_cons (bpe_ty T.b_bool PyProof.Rows.boot_bool) bpa_nil))))) (bpw_or1 (bpt_cmpR op_ne (bpv 17) (bpv 16) (nomark _)))).bpt
      (bpss_one (bps_ret bpe_bl))
      bpss_nil)
      (bpss_cons (bps_if (bpt_not (bpt_val (bpe_fnx T.l_rising G_l_rising hr pass0' (bpa_cons (bpe_fnx T.rooms_behind G_rooms_behind hr pass0' (bpa_cons (bpv 13) (bpa_cons (bpe_slice sl_list (bpv 14) bpo_none (bpo_some (bpv 12))) bpa_nil))) (bpa_cons (bpe_fnx T.l_walk G_l_walk hr pass0' (bpa_cons (bpv 5) (bpa_cons (bpv 7) (bpa_cons (bpe_slice sl_list (bpv 11) bpo_none (bpo_some (bpv 12))) bpa_nil)))) bpa_nil)))))
      (bpss_one (bps_ret bpe_bl))
      bpss_nil)
      (bpss_cons (bps_set (i := 18) sc_law.nd rfl (by first | exact Or.inl rfl | exact Or.inr rfl) (bpe_fnx T.rooms_behind G_rooms_behind hr pass0' (bpa_cons (bpv 13) (bpa_cons (bpv 14) bpa_nil))))
      (bpss_cons (bps_if (bpt_not (bpt_val (bpe_fnx T.l_rising G_l_rising hr pass0' (bpa_cons (bpv 18) (bpa_cons (bpv 15) bpa_nil)))))
      (bpss_one (bps_ret bpe_bl))
      bpss_nil)
      (bpss_cons (bps_expr (bpe_bm PySem.F.plainAttrs_list PySem.F.slot_list_append PySem.F.type_list_append mt_append (bpv 18) (bpa_cons bpe_int bpa_nil)))
      (bpss_cons (bps_set (i := 19) sc_law.nd rfl (by first | exact Or.inl rfl | exact Or.inr rfl) (bpe_fnx T.run_of G_run_of hr pass0' (bpa_cons (bpv 13) (bpa_cons (bpv 14) bpa_nil))))
      (bpss_cons (bps_if (bpw_or (bpt_cmpR (op_neD (hu64 hr)) (bpv 13) (bpe_tup (bpa_cons (bpv 5) (bpa_cons (bpv 7) (bpa_cons (bpv 9) bpa_nil)))) (nomark _)) (bpw_or1 (bpt_cmpR (op_neD (hu64 hr)) (bpv 14) (bpv 11) (nomark _)))).bpt
      (bpss_one (bps_ret bpe_bl))
      bpss_nil)
      (bpss_cons (bps_if (bpt_not (bpt_val (bpv 16)))
      (bpss_one (bps_ret (bpe_cmpR op_isN (bpv 19) bpe_non (nomark _))))
      bpss_nil)
      (bpss_one (bps_ret (bpe_fnx T.l_run G_l_run hr pass0' (bpa_cons (bpv 19) (bpa_cons (bpv 5) (bpa_cons (bpv 7) (bpa_cons (bpv 9) (bpa_cons (bpv 11) bpa_nil)))))))))))))))))))))))))))))))))), ?_⟩
    walk_at "rs"
    refine seq_rule fun N hN => ?_
    walk_at "rd"
    refine ⟨_, _, _, rfl, hS, by decide, fun c0 => ⟨by decide, _, rfl, hN _ _ ?_⟩⟩
    clear hN N
    generalize c0 % 1000000000 = hd
    refine seq_rule fun N hN => ?_
    walk_at "rd"
    refine hN _ _ ?_
    clear hN N
    refine seq_rule fun N hN => ?_
    have hM : ∀ many : Int, 1 ≤ many → many ≤ 24 → N [some (.ref a), some (.int hd), some (.int many), none, none, none, none, none, none, none, none, none, none, none, none, none, none, none, none, none] H := by
      intro many m1 m24
      refine hN _ _ ?_
      clear hN N
      refine seq_rule fun N hN => ?_
      walk_at "rd"
      refine ⟨_, _, _, rfl, hS, by decide, fun c1 => ⟨_, rfl, fun nm H1 nms hnm s1 e1 => hN _ _ ?_⟩⟩
      clear hN N
      refine seq_rule fun N hN => ?_
      walk_at "rd"
      refine ⟨_, _, _, rfl, s1.seq hS, by decide, fun c2 => ⟨_, rfl, fun b hb => hN _ _ ?_⟩⟩
      clear hN N
      refine seq_rule fun N hN => ?_
      refine ⟨_, rfl, _, rfl, by omega, by omega, comp_rel (tells_range (n := many.toNat)) (fun H2 _ v => ∃ (p : Addr) (m : Mrk), v = .ref p ∧ H2 p = some (.tup (mkV m)) ∧ MrkW m) (fun _ _ _ _ s ⟨p, m, e, h1, h2⟩ => ⟨p, m, e, s _ _ h1, h2⟩) (sz_of (by rw [List.length_range]; omega)) (fun j H2 Q2 _ s2 h => ?_) (fun H2 _ v D ys zs hD ⟨p, m, e, h1, h2⟩ => ⟨p, m, e, (upd_ne (ne_of h1 hD (by intro z; cases z))).trans h1, h2⟩) fun lm H2 ys hlm s2 d2 al2 => hN _ _ ?_⟩
      · walk_at "rd"
        exact ⟨_, _, _, rfl, (s1.trans s2).seq hS, by omega, fun c => ⟨_, _, _, _, rfl, ⟨s2 _ _ e1.1, e1.2⟩, hb, fun m p H3 om hp s3 e3 => h _ _ s3 ⟨p, m, rfl, e3, om⟩⟩⟩
      clear hN N
      obtain ⟨am, ms, rfl, alm, lms⟩ := refs_rel al2
      have msn : ms.length = many.toNat := by rw [lms, List.length_range]
      have hmk : MksAt H2 lm ms := ⟨am, d2, alm⟩
      clear al2 alm d2 lms
      have s02 := s1.trans s2
      have nm2 : NamesAt H2 nm nms := ⟨s2 _ _ e1.1, e1.2⟩
      refine seq_rule fun N hN => ?_
      walk_at "rd"
      refine hN _ _ ?_
      clear hN N
      generalize decide (hd / 4 % 2 = 1) = mx
      refine seq_rule fun N hN => ?_
      refine ⟨_, rfl, _, _, rfl, rfl, _, rfl, by omega, by omega, comp_own (tells_range (n := (many + 1).toNat)) (fun H3 _ p => ∃ l : List Int, H3 p = some (.lst (l.map V.int)) ∧ (∀ r ∈ l, 1 ≤ r ∧ r ≤ many) ∧ l.length ≤ 100) (fun _ _ _ _ s ⟨l, h1, h2⟩ => ⟨l, s _ _ h1, h2⟩) (sz_of (by rw [List.length_range]; omega)) (fun j H3 Q2 _ s3 h => ?_) (fun H3 _ p D o n ⟨l, h1, h2⟩ => ⟨l, (upd_ne n).trans h1, h2⟩) fun lf H3 ys hlf s3 d3 al3 => hN _ _ ?_⟩
      · walk_at "rd"
        exact ⟨_, _, _, rfl, (s02.trans s3).seq hS, by omega, fun c => ⟨_, _, _, rfl, by omega, by omega, fun q H4 l hq s4 e4 rg ll => h _ _ hq s4 ⟨l, e4, rg, ll⟩⟩⟩
      clear hN N
      obtain ⟨af, fs, rfl, alf, lfs⟩ := refs_rel (P := fun p (l : List Int) => H3 p = some (.lst (l.map V.int)) ∧ (∀ r ∈ l, 1 ≤ r ∧ r ≤ many) ∧ l.length ≤ 100) (al3.imp fun _ _ ⟨p, e, ⟨l, h⟩, _⟩ => ⟨p, l, e, h⟩)
      have fsn : fs.length = (many + 1).toNat := by rw [lfs, List.length_range]
      have hfo : FolAt H3 lf fs := ⟨af, d3, alf.imp fun _ _ h => h.1⟩
      have frng : ∀ l ∈ fs, (∀ r ∈ l, 1 ≤ r ∧ r ≤ many) ∧ l.length ≤ 100 := fun l hl => by
        obtain ⟨i, hi⟩ := List.mem_iff_getElem?.mp hl
        obtain ⟨x, _, r⟩ := alf.at hi
        exact r.2
      clear al3 alf d3 lfs
      have hmk3 := hmk.same s3
      have nm3 : NamesAt H3 nm nms := ⟨s3 _ _ nm2.1, nm2.2⟩
      have s03 := s02.trans s3
      clear hmk nm2 s3 hlm hlf s2 s1 e1 s02 hnm
      refine seq_rule fun N hN => ?_
      walk_at "rd"
      refine ⟨_, _, _, rfl, s03.seq hS, by decide, fun c3 => ⟨_, _, _, rfl, by omega, by omega, fun ll H4 la hll s4 e4 _ _ => hN _ _ ?_⟩⟩
      clear hN N
      have hmk4 := hmk3.same s4
      have hfo4 := hfo.same s4
      have nm4 : NamesAt H4 nm nms := ⟨s4 _ _ nm3.1, nm3.2⟩
      have s04 := s03.trans s4
      clear hmk3 hfo nm3 s4 s03 hll
      refine seq_rule fun N hN => ?_
      refine ⟨_, rfl, _, _, rfl, rfl, _, rfl, by omega, by omega, comp_map (tells_range (n := (many + 1).toNat)) (fun (j : Nat) => .bl (decide ((0 + (j : Int) + 1) ∈ la))) (sz_of (by rw [List.length_range]; omega)) (fun j H5 Q2 _ s5 h => ?_) fun le H5 hle s5 d5 => hN _ _ ?_⟩
      · walk_at "rd"
        exact rd_inN (SqL.of (s5 _ _ e4)) (h _ (Same.refl _))
      clear hN N
      obtain ⟨bs, eb, bsn⟩ : ∃ bs : List Bool, EndsAt H5 le bs ∧ bs.length = (many + 1).toNat := by
        refine ⟨(List.range (many + 1).toNat).map fun (j : Nat) => decide ((0 + (j : Int) + 1) ∈ la), ?_, by rw [List.length_map, List.length_range]⟩
        show H5 le = _
        rw [d5, List.map_map]
        rfl
      clear d5
      have ok5 : MchOk ⟨ms, fs, bs⟩ := ⟨by show fs.length = ms.length + 1; omega, by show bs.length = ms.length + 1; omega, fun l hl r hr => by
        have := (frng l hl).1 r hr
        show 1 ≤ r ∧ r ≤ (ms.length : Int)
        omega, by show ms.length ≤ 24; omega, fun l hl => (frng l hl).2⟩
      have s05 := s04.trans s5
      obtain ⟨cs1, ec1, lc1⟩ := cut_ints ns (some (5 + 2 * many)) none
      obtain ⟨cs, ec2, lc2⟩ := cut_ints cs1 none (some (560 / (many + 4)))
      refine seq_rule fun N hN => ?_
      walk_at "rd"
      refine ⟨.inl (by decide), a, _, rfl, s05.seq hS, fun p1 hp1 => ⟨by omega, by omega, p1, _, rfl, SqL.of upd_same, fun lc hlc => hN _ _ ?_⟩⟩
      clear hN N
      rw [ec1, ec2] at *
      have n6 := (Same.new (o := .lst (cs1.map V.int)) hp1).trans (Same.new (o := .lst (cs.map V.int)) hlc)
      have c6 : upd (upd H5 p1 (.lst (cs1.map V.int))) lc (.lst (cs.map V.int)) lc = some (.lst (cs.map V.int)) := upd_same
      generalize upd (upd H5 p1 (.lst (cs1.map V.int))) lc (.lst (cs.map V.int)) = H6 at n6 c6
      have s46 := s5.trans n6
      have eb6 : EndsAt H6 le bs := n6 _ _ eb
      clear eb n6 hp1 hlc s05 s5 H5
      refine seq_rule fun N hN => ?_
      walk_at "rd"
      refine ⟨by decide, fun lw hlw => ?_⟩
      have n7 := Same.new (o := .tup [V.ref nm, V.int b]) hlw
      refine ⟨_, lc, lm, lf, le, lw, nm, b, cs, ⟨ms, fs, bs⟩, nms, rfl, n7 _ _ c6, by omega, (hmk4.same s46).same n7, fun z => ?_, (hfo4.same s46).same n7, n7 _ _ eb6, fun z => ?_, ok5, upd_same, ⟨n7 _ _ (s46 _ _ nm4.1), nm4.2⟩, hb, fun ls H7 ss bs' hls off7 eb7 bl7 st7 sl7 => hN _ _ ?_⟩
      · have z' : ms = [] := z
        rw [z'] at msn
        simp only [List.length_nil] at msn
        omega
      · obtain ⟨_, e, _⟩ := hmk4
        rw [z, hle] at e
        cases e
      clear hN N
      have s47 : Same H4 H7 := fun x o e => off7 x o (fun z => (by rw [z, hle] at e; cases e)) (n7 _ _ (s46 _ _ e))
      have hmk7 := hmk4.same s47
      have hfo7 := hfo4.same s47
      have s07 := s04.trans s47
      have ok7 : MchOk ⟨ms, fs, bs'⟩ := ⟨ok5.lf, by have := ok5.le; show bs'.length = ms.length + 1; rw [bl7]; exact this, ok5.rng, ok5.few, ok5.short⟩
      clear hmk4 hfo4 nm4 off7 n7 hls hlw c6 s46 eb6 s47 s04 hle e4 ok5
      refine seq_rule fun N hN => ?_
      walk_at "rd"
      obtain ⟨as, es, als⟩ := id st7
      refine ⟨_, .inl (SqL.of es), by omega, hN _ _ ?_⟩
      clear hN N
      have cut0 : 0 ≤ hd / 200 % (((as.map V.ref).length : Nat) + 1 : Int) := Int.emod_nonneg _ (by omega)
      generalize hd / 200 % (((as.map V.ref).length : Nat) + 1 : Int) = cut at cut0
      refine seq_rule fun N hN => ?_
      obtain ⟨am, em, alm⟩ := id hmk7
      obtain ⟨af, ef, alf⟩ := id hfo7
      walk_at "rd"
      refine ⟨_, .inl (SqL.of em), fun lm' hlm' => ?_⟩
      have n8 := Same.new (o := .lst (am.map V.ref)) hlm'
      have lm8 : upd H7 lm' (.lst (am.map V.ref)) lm' = some (.lst (am.map V.ref)) := upd_same
      generalize upd H7 lm' (.lst (am.map V.ref)) = H8 at n8 lm8
      have lenf := alf.len
      have ef8 := n8 _ _ ef
      refine ⟨_, rfl, lf, rfl, ⟨_, SqL.of ef8⟩, comp_own (cs := af.zip fs) (g := fun c => V.ref c.1) (tells_list (by rw [zip_ref lenf]; exact SqL.of ef8)) (fun H9 c p => H9 p = some (.lst (c.2.map V.int))) (fun _ _ _ _ s h => s _ _ h) (sz_of (by rw [List.length_zip]; omega)) (fun c H9 Q2 hc s9 h => ?_) (fun _ _ _ _ _ n h => (upd_ne n).trans h) fun lf' H9 ys hlf' s9 d9 al9 => ?_⟩
      · have ec := alf.zip c hc
        walk_at "rd"
        exact ⟨_, .inl (SqL.of (s9 _ _ (n8 _ _ ec))), fun l hl => h l _ hl (Same.new hl) upd_same⟩
      obtain ⟨af', rfl, alf'⟩ := refs_same (P := fun p (l : List Int) => H9 p = some (.lst (l.map V.int))) (R := fun c : Addr × List Int => c.2) (al9.imp fun _ _ ⟨p, e, h, _⟩ => ⟨p, e, h⟩)
      rw [List.map_snd_zip (by omega)] at alf'
      have s79 := n8.trans s9
      have eb9 := s79 _ _ eb7
      refine ⟨_, .inl (SqL.of eb9), fun le' hle' => ⟨by decide, fun md hmd => hN _ _ ?_⟩⟩
      clear hN N
      have n10 := Same.new (o := .lst (bs'.map V.bl)) hle'
      have le10 : upd H9 le' (.lst (bs'.map V.bl)) le' = some (.lst (bs'.map V.bl)) := upd_same
      generalize upd H9 le' (.lst (bs'.map V.bl)) = H10 at n10 le10 hmd
      have n11 := Same.new (o := .tup [V.ref lm', V.ref lf', V.ref le']) hmd
      have md11 : upd H10 md (.tup [V.ref lm', V.ref lf', V.ref le']) md = some (.tup [V.ref lm', V.ref lf', V.ref le']) := upd_same
      generalize upd H10 md (.tup [V.ref lm', V.ref lf', V.ref le']) = H11 at n11 md11
      have s9b := n10.trans n11
      have s7b := s79.trans s9b
      have mat : MchAt H11 md ⟨ms, fs, bs'⟩ := ⟨lm', lf', le', md11, ⟨am, s9b _ _ (s9 _ _ lm8), alm.imp fun x kk h => ⟨s7b _ _ h.1, h.2⟩⟩, ⟨af', s9b _ _ d9, alf'.imp fun _ _ h => s9b _ _ h⟩, n11 _ _ le10⟩
      have hmk11 := hmk7.same s7b
      have hfo11 := hfo7.same s7b
      have eb11 : EndsAt H11 le bs' := s7b _ _ eb7
      have st11 := st7.same s7b
      have es11 := s7b _ _ es
      have als11 := als.imp fun x s h => (⟨s7b _ _ h.1, h.2⟩ : H11 x = some (.tup (stV s)) ∧ okT s.nm)
      clear n10 le10 n11 md11 s9b s7b s79 eb9 al9 alf' d9 s9 hlf' ef8 lm8 n8 hlm' em alm ef alf hmk7 hfo7 eb7 st7 hle' hmd als es lenf
      have asl := als11.len
      generalize hm0 : (⟨ms, fs, bs'⟩ : Mch) = m at mat ok7
      have em0 : ms = m.mks := by rw [← hm0]
      have ef0 : fs = m.fol := by rw [← hm0]
      have ee0 : bs' = m.ends := by rw [← hm0]
      rw [em0] at hmk11
      rw [ef0] at hfo11
      rw [ee0] at eb11
      refine seq_rule fun N hN => ?_
      walk_at "rd"
      refine ⟨_, .inl (SqL.of es11), fun hh hhh => hN _ _ ?_⟩
      clear hN N
      have n12 := Same.new (o := .lst (as.map V.ref)) hhh
      have h12 : StepsAt (upd H11 hh (.lst (as.map V.ref))) hh ss := ⟨as, upd_same, als11.imp fun x s h => ⟨n12 _ _ h.1, h.2⟩⟩
      have eh12 : upd H11 hh (.lst (as.map V.ref)) hh = some (.lst (as.map V.ref)) := upd_same
      generalize upd H11 hh (.lst (as.map V.ref)) = H12 at n12 h12 eh12
      have mat12 := mat.same n12
      have hmk12 := hmk11.same n12
      have hfo12 := hfo11.same n12
      have eb12 := n12 _ _ eb11
      have st12 := st11.same n12
      have es12 := n12 _ _ es11
      have als12 := als11.imp fun x s h => (⟨n12 _ _ h.1, h.2⟩ : H12 x = some (.tup (stV s)) ∧ okT s.nm)
      clear mat hmk11 hfo11 eb11 st11 es11 als11 n12 hhh
      refine seq_rule fun N hN => ?_
      walk_at "rd"
      refine ⟨lm, lf, ls, m, ss, rfl, hmk12, hfo12, ok7, st12, fun du H13 hdu s13 e13 => hN _ _ ?_⟩
      clear hN N
      have eb13 := s13 _ _ eb12
      refine seq_rule fun N hN => ?_
      refine ⟨_, rfl, du, rfl, ⟨_, SqL.of e13⟩, comp_by (tells_list (SqL.of e13)) (endC m) V.int (sz_of (by have := walk_len ok7 ss; omega)) (fun r H14 Q2 hr s14 h => ?_) (fun r H14 Q2 hr _ s14 h => ⟨_, rfl, h _ (Same.refl _)⟩) fun D H14 hD s14 d14 => ?_⟩
      · obtain ⟨r0, r1⟩ := walk_rng (ss := ss) zero_rng r hr
        walk_at "rd"
        exact rd_ixL (s14 _ _ eb13) (endC_at ok7 r0 r1) ⟨_, rfl, h _ (Same.refl _)⟩
      walk_at "rd"
      refine ⟨_, .inl (SqL.of d14), hN _ _ ?_⟩
      clear hN N
      have good : decide (0 < ((((walkC m [0] ss).filter (endC m)).map V.int).length : Int)) = (walkC m [0] ss).any (endC m) := by
        rw [List.length_map]
        cases z : (walkC m [0] ss).any (endC m) with
        | true => exact decide_eq_true (by have := (filter_pos _ _).mpr z; omega)
        | false => exact decide_eq_false (fun y => by rw [(filter_pos _ _).mp (by omega)] at z; cases z)
      rw [good]
      generalize hgd : (walkC m [0] ss).any (endC m) = gd
      have s1214 := s13.trans s14
      have mat14 := mat12.same s1214
      have hmk14 := hmk12.same s1214
      have hfo14 := hfo12.same s1214
      have eb14 : EndsAt H14 le m.ends := s1214 _ _ eb12
      have st14 := st12.same s1214
      have h14 := h12.same s1214
      have es14 := s1214 _ _ es12
      have eh14 := s1214 _ _ eh12
      have als14 := als12.imp fun x s h => (⟨s1214 _ _ h.1, h.2⟩ : H14 x = some (.tup (stV s)) ∧ okT s.nm)
      have e14 := s14 _ _ e13
      clear mat12 hmk12 hfo12 eb12 eb13 st12 h12 es12 eh12 als12 e13 s1214 s13 s14 d14 hD hdu good
      refine seq_rule fun N hN => ?_
      walk_at "rd"
      refine ⟨md, hh, m, ss, rfl, mat14, ok7, h14, by omega, fun H15 s15 => hN _ _ ?_⟩
      clear hN N
      rw [hgd]
      have mat15 := mat14.same s15
      have hmk15 := hmk14.same s15
      have hfo15 := hfo14.same s15
      have eb15 : EndsAt H15 le m.ends := s15 _ _ eb14
      have st15 := st14.same s15
      have h15 := h14.same s15
      have es15 := s15 _ _ es14
      have eh15 := s15 _ _ eh14
      have als15 := als14.imp fun x s h => (⟨s15 _ _ h.1, h.2⟩ : H15 x = some (.tup (stV s)) ∧ okT s.nm)
      have e15 := s15 _ _ e14
      clear mat14 hmk14 hfo14 eb14 st14 h14 es14 eh14 als14 e14 s15
      refine seq_rule fun N hN => ?_
      walk_at "rd"
      refine ⟨_, .bl _, _, kit_bb K, ite_F (by decide) (hN _ _ ?_)⟩
      clear hN N
      refine seq_rule fun N hN => ?_
      walk_at "rd"
      refine ⟨hh, _, rfl, SqL.of eh15, fun p1 hp1 => ?_⟩
      rw [cut_refs _ _ cut0]
      have n16 := Same.new (o := .lst ((as.take cut.toNat).map V.ref)) hp1
      have st16 : StepsAt (upd H15 p1 (.lst ((as.take cut.toNat).map V.ref))) p1 (ss.take cut.toNat) := ⟨_, upd_same, (als15.imp fun x s h => (⟨n16 _ _ h.1, h.2⟩ : _ ∧ okT s.nm)).take _⟩
      refine ⟨md, p1, m, _, rfl, mat15.same n16, ok7, st16, by rw [List.length_take]; omega, fun q1 H17 hq1 s17 e17 => ⟨ls, _, rfl, SqL.of (s17 _ _ (n16 _ _ es15)), fun p2 hp2 => ?_⟩⟩
      rw [cut_refs _ _ cut0]
      have s157 := n16.trans s17
      have n18 := Same.new (o := .lst ((as.take cut.toNat).map V.ref)) hp2
      have s158 := s157.trans n18
      have st18 : StepsAt (upd H17 p2 (.lst ((as.take cut.toNat).map V.ref))) p2 (ss.take cut.toNat) := ⟨_, upd_same, (als15.imp fun x s h => (⟨s158 _ _ h.1, h.2⟩ : _ ∧ okT s.nm)).take _⟩
      refine ⟨lm, lf, p2, m, _, rfl, hmk15.same s158, hfo15.same s158, ok7, st18, fun q2 H19 hq2 s19 e19 => ⟨q1, q2, _, rfl, s19 _ _ (n18 _ _ e17), e19, _, rfl, ite_F (by decide) (hN _ _ ?_)⟩⟩
      clear hN N
      have s1519 := s158.trans s19
      have mat19 := mat15.same s1519
      have hmk19 := hmk15.same s1519
      have hfo19 := hfo15.same s1519
      have eb19 : EndsAt H19 le m.ends := s1519 _ _ eb15
      have st19 := st15.same s1519
      have h19 := h15.same s1519
      have du19 := s1519 _ _ e15
      clear mat15 hmk15 hfo15 eb15 st15 h15 es15 eh15 als15 e15 s1519 s19 s158 n18 st18 s157 n16 st16 hp1 hp2 hq1 hq2 e17 e19 s17
      refine seq_rule fun N hN => ?_
      walk_at "rd"
      refine ⟨md, hh, m, ss, rfl, mat19, ok7, h19, by omega, fun rm H20 hrm s20 e20 => hN _ _ ?_⟩
      clear hN N
      refine seq_rule fun N hN => ?_
      walk_at "rd"
      refine ⟨rm, du, _, rfl, e20, s20 _ _ du19, _, rfl, ite_F (by decide) (hN _ _ ?_)⟩
      clear hN N
      refine seq_rule fun N hN => ?_
      walk_at "rd"
      refine ⟨tyV_lst (SqL.of e20), _, e20, by rw [List.length_map]; exact Nat.lt_of_lt_of_le (show (walkC m [0] ss).length < 3000 by have := walk_len ok7 ss; omega) (sz_of (by decide)), hN _ _ ?_⟩
      clear hN N
      have s21 : Same H19 (upd H20 rm (.lst ((walkC m [0] ss).map V.int ++ [V.int 0]))) := s20.upd_new hrm
      generalize upd H20 rm (.lst ((walkC m [0] ss).map V.int ++ [V.int 0])) = H21 at s21
      clear e20 s20 hrm
      have mat21 := mat19.same s21
      have hmk21 := hmk19.same s21
      have hfo21 := hfo19.same s21
      have eb21 : EndsAt H21 le m.ends := s21 _ _ eb19
      have st21 := st19.same s21
      have h21 := h19.same s21
      clear mat19 hmk19 hfo19 eb19 st19 h19 du19 s21
      refine seq_rule fun N hN => ?_
      have last : ∀ (v : V) (H22 : Hp), Same H21 H22 → (gd = false → v = .non) → (gd = true → ∃ (q : Addr) (run : List Int), v = .ref q ∧ H22 q = some (.lst (run.map V.int)) ∧ run.length = ss.length ∧ chainC m 0 ss run) → N [some (.ref a), some (.int hd), some (.int many), some (.ref nm), some (.int b), some (.ref lm), some (.bl mx), some (.ref lf), some (.ref ll), some (.ref le), some (.ref lc), some (.ref ls), some (.int cut), some (.ref md), some (.ref hh), some (.ref du), some (.bl gd), some (.bl gd), some (.ref rm), some v] H22 := by
        intro v H22 s22 hno hyes
        refine hN _ _ ?_
        clear hN N
        refine seq_rule fun N hN => ?_
        walk_at "rd"
        refine ⟨by decide, fun p hp => ?_⟩
        have n23 := Same.new (o := .tup [V.ref lm, V.ref lf, V.ref le]) hp
        have s23 := s22.trans n23
        have p23 : upd H22 p (.tup [V.ref lm, V.ref lf, V.ref le]) p = some (.tup [V.ref lm, V.ref lf, V.ref le]) := upd_same
        generalize upd H22 p (.tup [V.ref lm, V.ref lf, V.ref le]) = H23 at n23 s23 p23
        obtain ⟨x, y, z, ex, hx, hy, hz⟩ := (mat21.same s23).at_
        have hmk23 := hmk21.same s23
        have hfo23 := hfo21.same s23
        have eb23 : EndsAt H23 le m.ends := s23 _ _ eb21
        have st23 := st21.same s23
        refine ⟨_, mach_dat ex hx hy hz, mach_dat p23 hmk23 hfo23 eb23, (mach_fit hx).shaped (by decide), _, (h21.same s23).dat, st23.dat, st23.fit.shaped (by decide), hN _ _ ?_⟩
        clear hN N
        refine seq_rule fun N hN => ?_
        cases gd with
        | false =>
          rw [hno rfl]
          walk_at "rd"
          exact k _
        | true =>
          obtain ⟨q, run, rfl, eq, rl, ch⟩ := hyes rfl
          walk_at "rd"
          refine hN _ _ ?_
          walk_at "rd"
          exact ⟨q, lm, lf, le, ls, m, ss, run, rfl, n23 _ _ eq, hmk23, hfo23, eb23, ok7, st23, rl, by omega, ch, fun H24 _ => k _⟩
      walk_at "rd"
      refine ⟨md, hh, m, ss, rfl, mat21, ok7, h21, by omega, fun H22 s22 e => last _ H22 s22 (fun _ => rfl) (fun z => ?_), fun q H22 run hq s22 e22 e rl ch => last _ H22 s22 (fun z => ?_) fun _ => ⟨q, run, rfl, e22, rl, ch⟩⟩
      · rw [hgd, z] at e
        cases e
      · rw [hgd, z] at e
        cases e
    walk_at "rd"
    exact ite_both (fun _ => hM _ (by omega) (by omega)) fun _ => hM _ (by omega) (by omega)
end
theorem all_mk {l : PySem.W.OpenLaw} {w : World} {K : PySem.W.Frag} {h : Heap} {mg : Str → Option Value} {fa : Addr} (X : K.In h) (G : h.Ns mainGlobals mg) (hfa : mg "law" = some (.ref fa))
    {f0 : Addr} {od0 an0 : Option Addr} {sl0 : Array (Option Value)} {oc0 kV0 dc0 pm0 cd0 ct0 : Value}
    (a0 : PySem.W.nsIn K mainGlobals "weight_meets" = some (some (.ref f0)))
    (l0 : K.lookup f0 = some ⟨oc0, od0, .func (PySem.W.fnOf "weight_meets" "weight_meets" (defArgs s_weight_meets) (defBody s_weight_meets) (defScope s_weight_meets) .none kV0 dc0 pm0 an0 cd0 ct0), sl0⟩) (c0 : PySem.W.codeIn K cd0 "weight_meets" = true) (k0 : PySem.W.keepIn K (.ref f0) = true)
    {f1 : Addr} {od1 an1 : Option Addr} {sl1 : Array (Option Value)} {oc1 kV1 dc1 pm1 cd1 ct1 : Value}
    (a1 : PySem.W.nsIn K mainGlobals "fits" = some (some (.ref f1)))
    (l1 : K.lookup f1 = some ⟨oc1, od1, .func (PySem.W.fnOf "fits" "fits" (defArgs s_fits) (defBody s_fits) (defScope s_fits) .none kV1 dc1 pm1 an1 cd1 ct1), sl1⟩) (c1 : PySem.W.codeIn K cd1 "fits" = true) (k1 : PySem.W.keepIn K (.ref f1) = true)
    {f2 : Addr} {od2 an2 : Option Addr} {sl2 : Array (Option Value)} {oc2 kV2 dc2 pm2 cd2 ct2 : Value}
    (a2 : PySem.W.nsIn K mainGlobals "rooms_on" = some (some (.ref f2)))
    (l2 : K.lookup f2 = some ⟨oc2, od2, .func (PySem.W.fnOf "rooms_on" "rooms_on" (defArgs s_rooms_on) (defBody s_rooms_on) (defScope s_rooms_on) .none kV2 dc2 pm2 an2 cd2 ct2), sl2⟩) (c2 : PySem.W.codeIn K cd2 "rooms_on" = true) (k2 : PySem.W.keepIn K (.ref f2) = true)
    {f3 : Addr} {od3 an3 : Option Addr} {sl3 : Array (Option Value)} {oc3 kV3 dc3 pm3 cd3 ct3 : Value}
    (a3 : PySem.W.nsIn K mainGlobals "trails" = some (some (.ref f3)))
    (l3 : K.lookup f3 = some ⟨oc3, od3, .func (PySem.W.fnOf "trails" "trails" (defArgs s_trails) (defBody s_trails) (defScope s_trails) .none kV3 dc3 pm3 an3 cd3 ct3), sl3⟩) (c3 : PySem.W.codeIn K cd3 "trails" = true) (k3 : PySem.W.keepIn K (.ref f3) = true)
    {f4 : Addr} {od4 an4 : Option Addr} {sl4 : Array (Option Value)} {oc4 kV4 dc4 pm4 cd4 ct4 : Value}
    (a4 : PySem.W.nsIn K mainGlobals "rooms_behind" = some (some (.ref f4)))
    (l4 : K.lookup f4 = some ⟨oc4, od4, .func (PySem.W.fnOf "rooms_behind" "rooms_behind" (defArgs s_rooms_behind) (defBody s_rooms_behind) (defScope s_rooms_behind) .none kV4 dc4 pm4 an4 cd4 ct4), sl4⟩) (c4 : PySem.W.codeIn K cd4 "rooms_behind" = true) (k4 : PySem.W.keepIn K (.ref f4) = true)
    {f5 : Addr} {od5 an5 : Option Addr} {sl5 : Array (Option Value)} {oc5 kV5 dc5 pm5 cd5 ct5 : Value}
    (a5 : PySem.W.nsIn K mainGlobals "taken" = some (some (.ref f5)))
    (l5 : K.lookup f5 = some ⟨oc5, od5, .func (PySem.W.fnOf "taken" "taken" (defArgs s_taken) (defBody s_taken) (defScope s_taken) .none kV5 dc5 pm5 an5 cd5 ct5), sl5⟩) (c5 : PySem.W.codeIn K cd5 "taken" = true) (k5 : PySem.W.keepIn K (.ref f5) = true)
    {f6 : Addr} {od6 an6 : Option Addr} {sl6 : Array (Option Value)} {oc6 kV6 dc6 pm6 cd6 ct6 : Value}
    (a6 : PySem.W.nsIn K mainGlobals "run_of" = some (some (.ref f6)))
    (l6 : K.lookup f6 = some ⟨oc6, od6, .func (PySem.W.fnOf "run_of" "run_of" (defArgs s_run_of) (defBody s_run_of) (defScope s_run_of) .none kV6 dc6 pm6 an6 cd6 ct6), sl6⟩) (c6 : PySem.W.codeIn K cd6 "run_of" = true) (k6 : PySem.W.keepIn K (.ref f6) = true)
    {f7 : Addr} {od7 an7 : Option Addr} {sl7 : Array (Option Value)} {oc7 kV7 dc7 pm7 cd7 ct7 : Value}
    (a7 : PySem.W.nsIn K mainGlobals "_law_cell_at" = some (some (.ref f7)))
    (l7 : K.lookup f7 = some ⟨oc7, od7, .func (PySem.W.fnOf "_law_cell_at" "_law_cell_at" (defArgs s_l_cell_at) (defBody s_l_cell_at) (defScope s_l_cell_at) .none kV7 dc7 pm7 an7 cd7 ct7), sl7⟩) (c7 : PySem.W.codeIn K cd7 "_law_cell_at" = true) (k7 : PySem.W.keepIn K (.ref f7) = true)
    {f8 : Addr} {od8 an8 : Option Addr} {sl8 : Array (Option Value)} {oc8 kV8 dc8 pm8 cd8 ct8 : Value}
    (a8 : PySem.W.nsIn K mainGlobals "_law_mixed" = some (some (.ref f8)))
    (l8 : K.lookup f8 = some ⟨oc8, od8, .func (PySem.W.fnOf "_law_mixed" "_law_mixed" (defArgs s_l_mixed) (defBody s_l_mixed) (defScope s_l_mixed) .none kV8 dc8 pm8 an8 cd8 ct8), sl8⟩) (c8 : PySem.W.codeIn K cd8 "_law_mixed" = true) (k8 : PySem.W.keepIn K (.ref f8) = true)
    {f9 : Addr} {od9 an9 : Option Addr} {sl9 : Array (Option Value)} {oc9 kV9 dc9 pm9 cd9 ct9 : Value}
    (a9 : PySem.W.nsIn K mainGlobals "_law_names" = some (some (.ref f9)))
    (l9 : K.lookup f9 = some ⟨oc9, od9, .func (PySem.W.fnOf "_law_names" "_law_names" (defArgs s_l_names) (defBody s_l_names) (defScope s_l_names) .none kV9 dc9 pm9 an9 cd9 ct9), sl9⟩) (c9 : PySem.W.codeIn K cd9 "_law_names" = true) (k9 : PySem.W.keepIn K (.ref f9) = true)
    {f10 : Addr} {od10 an10 : Option Addr} {sl10 : Array (Option Value)} {oc10 kV10 dc10 pm10 cd10 ct10 : Value}
    (a10 : PySem.W.nsIn K mainGlobals "_law_whole" = some (some (.ref f10)))
    (l10 : K.lookup f10 = some ⟨oc10, od10, .func (PySem.W.fnOf "_law_whole" "_law_whole" (defArgs s_l_whole) (defBody s_l_whole) (defScope s_l_whole) .none kV10 dc10 pm10 an10 cd10 ct10), sl10⟩) (c10 : PySem.W.codeIn K cd10 "_law_whole" = true) (k10 : PySem.W.keepIn K (.ref f10) = true)
    {f11 : Addr} {od11 an11 : Option Addr} {sl11 : Array (Option Value)} {oc11 kV11 dc11 pm11 cd11 ct11 : Value}
    (a11 : PySem.W.nsIn K mainGlobals "_law_base" = some (some (.ref f11)))
    (l11 : K.lookup f11 = some ⟨oc11, od11, .func (PySem.W.fnOf "_law_base" "_law_base" (defArgs s_l_base) (defBody s_l_base) (defScope s_l_base) .none kV11 dc11 pm11 an11 cd11 ct11), sl11⟩) (c11 : PySem.W.codeIn K cd11 "_law_base" = true) (k11 : PySem.W.keepIn K (.ref f11) = true)
    {f12 : Addr} {od12 an12 : Option Addr} {sl12 : Array (Option Value)} {oc12 kV12 dc12 pm12 cd12 ct12 : Value}
    (a12 : PySem.W.nsIn K mainGlobals "_law_number" = some (some (.ref f12)))
    (l12 : K.lookup f12 = some ⟨oc12, od12, .func (PySem.W.fnOf "_law_number" "_law_number" (defArgs s_l_number) (defBody s_l_number) (defScope s_l_number) .none kV12 dc12 pm12 an12 cd12 ct12), sl12⟩) (c12 : PySem.W.codeIn K cd12 "_law_number" = true) (k12 : PySem.W.keepIn K (.ref f12) = true)
    {f13 : Addr} {od13 an13 : Option Addr} {sl13 : Array (Option Value)} {oc13 kV13 dc13 pm13 cd13 ct13 : Value}
    (a13 : PySem.W.nsIn K mainGlobals "_law_mark_by" = some (some (.ref f13)))
    (l13 : K.lookup f13 = some ⟨oc13, od13, .func (PySem.W.fnOf "_law_mark_by" "_law_mark_by" (defArgs s_l_mark_by) (defBody s_l_mark_by) (defScope s_l_mark_by) .none kV13 dc13 pm13 an13 cd13 ct13), sl13⟩) (c13 : PySem.W.codeIn K cd13 "_law_mark_by" = true) (k13 : PySem.W.keepIn K (.ref f13) = true)
    {f14 : Addr} {od14 an14 : Option Addr} {sl14 : Array (Option Value)} {oc14 kV14 dc14 pm14 cd14 ct14 : Value}
    (a14 : PySem.W.nsIn K mainGlobals "_law_step_by" = some (some (.ref f14)))
    (l14 : K.lookup f14 = some ⟨oc14, od14, .func (PySem.W.fnOf "_law_step_by" "_law_step_by" (defArgs s_l_step_by) (defBody s_l_step_by) (defScope s_l_step_by) .none kV14 dc14 pm14 an14 cd14 ct14), sl14⟩) (c14 : PySem.W.codeIn K cd14 "_law_step_by" = true) (k14 : PySem.W.keepIn K (.ref f14) = true)
    {f15 : Addr} {od15 an15 : Option Addr} {sl15 : Array (Option Value)} {oc15 kV15 dc15 pm15 cd15 ct15 : Value}
    (a15 : PySem.W.nsIn K mainGlobals "_law_fit" = some (some (.ref f15)))
    (l15 : K.lookup f15 = some ⟨oc15, od15, .func (PySem.W.fnOf "_law_fit" "_law_fit" (defArgs s_l_fit) (defBody s_l_fit) (defScope s_l_fit) .none kV15 dc15 pm15 an15 cd15 ct15), sl15⟩) (c15 : PySem.W.codeIn K cd15 "_law_fit" = true) (k15 : PySem.W.keepIn K (.ref f15) = true)
    {f16 : Addr} {od16 an16 : Option Addr} {sl16 : Array (Option Value)} {oc16 kV16 dc16 pm16 cd16 ct16 : Value}
    (a16 : PySem.W.nsIn K mainGlobals "_law_step_for" = some (some (.ref f16)))
    (l16 : K.lookup f16 = some ⟨oc16, od16, .func (PySem.W.fnOf "_law_step_for" "_law_step_for" (defArgs s_l_step_for) (defBody s_l_step_for) (defScope s_l_step_for) .none kV16 dc16 pm16 an16 cd16 ct16), sl16⟩) (c16 : PySem.W.codeIn K cd16 "_law_step_for" = true) (k16 : PySem.W.keepIn K (.ref f16) = true)
    {f17 : Addr} {od17 an17 : Option Addr} {sl17 : Array (Option Value)} {oc17 kV17 dc17 pm17 cd17 ct17 : Value}
    (a17 : PySem.W.nsIn K mainGlobals "_law_rooms_by" = some (some (.ref f17)))
    (l17 : K.lookup f17 = some ⟨oc17, od17, .func (PySem.W.fnOf "_law_rooms_by" "_law_rooms_by" (defArgs s_l_rooms_by) (defBody s_l_rooms_by) (defScope s_l_rooms_by) .none kV17 dc17 pm17 an17 cd17 ct17), sl17⟩) (c17 : PySem.W.codeIn K cd17 "_law_rooms_by" = true) (k17 : PySem.W.keepIn K (.ref f17) = true)
    {f18 : Addr} {od18 an18 : Option Addr} {sl18 : Array (Option Value)} {oc18 kV18 dc18 pm18 cd18 ct18 : Value}
    (a18 : PySem.W.nsIn K mainGlobals "_law_walk" = some (some (.ref f18)))
    (l18 : K.lookup f18 = some ⟨oc18, od18, .func (PySem.W.fnOf "_law_walk" "_law_walk" (defArgs s_l_walk) (defBody s_l_walk) (defScope s_l_walk) .none kV18 dc18 pm18 an18 cd18 ct18), sl18⟩) (c18 : PySem.W.codeIn K cd18 "_law_walk" = true) (k18 : PySem.W.keepIn K (.ref f18) = true)
    {f19 : Addr} {od19 an19 : Option Addr} {sl19 : Array (Option Value)} {oc19 kV19 dc19 pm19 cd19 ct19 : Value}
    (a19 : PySem.W.nsIn K mainGlobals "_law_rising" = some (some (.ref f19)))
    (l19 : K.lookup f19 = some ⟨oc19, od19, .func (PySem.W.fnOf "_law_rising" "_law_rising" (defArgs s_l_rising) (defBody s_l_rising) (defScope s_l_rising) .none kV19 dc19 pm19 an19 cd19 ct19), sl19⟩) (c19 : PySem.W.codeIn K cd19 "_law_rising" = true) (k19 : PySem.W.keepIn K (.ref f19) = true)
    {f20 : Addr} {od20 an20 : Option Addr} {sl20 : Array (Option Value)} {oc20 kV20 dc20 pm20 cd20 ct20 : Value}
    (a20 : PySem.W.nsIn K mainGlobals "_law_run" = some (some (.ref f20)))
    (l20 : K.lookup f20 = some ⟨oc20, od20, .func (PySem.W.fnOf "_law_run" "_law_run" (defArgs s_l_run) (defBody s_l_run) (defScope s_l_run) .none kV20 dc20 pm20 an20 cd20 ct20), sl20⟩) (c20 : PySem.W.codeIn K cd20 "_law_run" = true) (k20 : PySem.W.keepIn K (.ref f20) = true)
    {f21 : Addr} {od21 an21 : Option Addr} {sl21 : Array (Option Value)} {oc21 kV21 dc21 pm21 cd21 ct21 : Value}
    (a21 : PySem.W.nsIn K mainGlobals "_law_steps_by" = some (some (.ref f21)))
    (l21 : K.lookup f21 = some ⟨oc21, od21, .func (PySem.W.fnOf "_law_steps_by" "_law_steps_by" (defArgs s_l_steps_by) (defBody s_l_steps_by) (defScope s_l_steps_by) .none kV21 dc21 pm21 an21 cd21 ct21), sl21⟩) (c21 : PySem.W.codeIn K cd21 "_law_steps_by" = true) (k21 : PySem.W.keepIn K (.ref f21) = true)
    {f22 : Addr} {od22 an22 : Option Addr} {sl22 : Array (Option Value)} {oc22 kV22 dc22 pm22 cd22 ct22 : Value}
    (a22 : PySem.W.nsIn K mainGlobals "_law_steps_led" = some (some (.ref f22)))
    (l22 : K.lookup f22 = some ⟨oc22, od22, .func (PySem.W.fnOf "_law_steps_led" "_law_steps_led" (defArgs s_l_steps_led) (defBody s_l_steps_led) (defScope s_l_steps_led) .none kV22 dc22 pm22 an22 cd22 ct22), sl22⟩) (c22 : PySem.W.codeIn K cd22 "_law_steps_led" = true) (k22 : PySem.W.keepIn K (.ref f22) = true)
    {f23 : Addr} {od23 an23 : Option Addr} {sl23 : Array (Option Value)} {oc23 kV23 dc23 pm23 cd23 ct23 : Value}
    (a23 : PySem.W.nsIn K mainGlobals "_law_steps_all" = some (some (.ref f23)))
    (l23 : K.lookup f23 = some ⟨oc23, od23, .func (PySem.W.fnOf "_law_steps_all" "_law_steps_all" (defArgs s_l_steps_all) (defBody s_l_steps_all) (defScope s_l_steps_all) .none kV23 dc23 pm23 an23 cd23 ct23), sl23⟩) (c23 : PySem.W.codeIn K cd23 "_law_steps_all" = true) (k23 : PySem.W.keepIn K (.ref f23) = true)
    {f24 : Addr} {od24 an24 : Option Addr} {sl24 : Array (Option Value)} {oc24 kV24 dc24 pm24 cd24 ct24 : Value}
    (a24 : PySem.W.nsIn K mainGlobals "law" = some (some (.ref f24)))
    (l24 : K.lookup f24 = some ⟨oc24, od24, .func (PySem.W.fnOf "law" "law" (defArgs s_law) (defBody s_law) (defScope s_law) .none kV24 dc24 pm24 an24 cd24 ct24), sl24⟩) (c24 : PySem.W.codeIn K cd24 "law" = true) (k24 : PySem.W.keepIn K (.ref f24) = true)
    {tk0 : Tok} (g0 : PySem.W.nsIn K mainGlobals "ANY_NAME" = some (some (Value.str (v_ANY_NAME) tk0)))
    {tk1 : Tok} (g1 : PySem.W.nsIn K mainGlobals "MARKS" = some (some (Value.int (0) tk1)))
    {tk2 : Tok} (g2 : PySem.W.nsIn K mainGlobals "FOLLOWS" = some (some (Value.int (1) tk2)))
    {tk3 : Tok} (g3 : PySem.W.nsIn K mainGlobals "ENDS" = some (some (Value.int (2) tk3)))
    (z0 : PySem.W.nsIn K mainGlobals "len" = some none)
    (z1 : PySem.W.nsIn K mainGlobals "isinstance" = some none)
    (z2 : PySem.W.nsIn K mainGlobals "bool" = some none)
    (z3 : PySem.W.nsIn K mainGlobals "int" = some none)
    (z4 : PySem.W.nsIn K mainGlobals "range" = some none)
    (z5 : PySem.W.nsIn K mainGlobals "list" = some none)
    (z6 : PySem.W.nsIn K mainGlobals "any" = some none)
    (z7 : PySem.W.nsIn K mainGlobals "sorted" = some none)
    (z8 : PySem.W.nsIn K mainGlobals "reversed" = some none)
    : ∃ fd : FuncData, (∀ (s : Shared) (v : Value), BindsTo s fd ⟨[v], []⟩ [("script", v)]) ∧ ∀ base : Heap, K.In base → base.Ns mainGlobals mg → FnOk l.prog w K mg base (CX1 l.prog w) 7 fa fd ["script"] (spLaw K) := by
  have e := hfa.symm.trans (PySem.W.mg_of X G a24)
  cases e
  have F0 := fun_mk (st := s_weight_meets) l0 c0 k0
  have b0 := F0.binds (ps := ["weight", "sign", "number"]) fun _ _ _ _ _ _ us hl => match us, hl with | [_, _, _], _ => rfl
  have F1 := fun_mk (st := s_fits) l1 c1 k1
  have b1 := F1.binds (ps := ["mark", "step"]) fun _ _ _ _ _ _ us hl => match us, hl with | [_, _], _ => rfl
  have F2 := fun_mk (st := s_rooms_on) l2 c2 k2
  have b2 := F2.binds (ps := ["made", "rooms", "step"]) fun _ _ _ _ _ _ us hl => match us, hl with | [_, _, _], _ => rfl
  have F3 := fun_mk (st := s_trails) l3 c3 k3
  have b3 := F3.binds (ps := ["made", "steps"]) fun _ _ _ _ _ _ us hl => match us, hl with | [_, _], _ => rfl
  have F4 := fun_mk (st := s_rooms_behind) l4 c4 k4
  have b4 := F4.binds (ps := ["made", "steps"]) fun _ _ _ _ _ _ us hl => match us, hl with | [_, _], _ => rfl
  have F5 := fun_mk (st := s_taken) l5 c5 k5
  have b5 := F5.binds (ps := ["made", "steps"]) fun _ _ _ _ _ _ us hl => match us, hl with | [_, _], _ => rfl
  have F6 := fun_mk (st := s_run_of) l6 c6 k6
  have b6 := F6.binds (ps := ["made", "steps"]) fun _ _ _ _ _ _ us hl => match us, hl with | [_, _], _ => rfl
  have F7 := fun_mk (st := s_l_cell_at) l7 c7 k7
  have b7 := F7.binds (ps := ["script", "k"]) fun _ _ _ _ _ _ us hl => match us, hl with | [_, _], _ => rfl
  have F8 := fun_mk (st := s_l_mixed) l8 c8 k8
  have b8 := F8.binds (ps := ["cell"]) fun _ _ _ _ _ _ us hl => match us, hl with | [_], _ => rfl
  have F9 := fun_mk (st := s_l_names) l9 c9 k9
  have b9 := F9.binds (ps := ["cell"]) fun _ _ _ _ _ _ us hl => match us, hl with | [_], _ => rfl
  have F10 := fun_mk (st := s_l_whole) l10 c10 k10
  have b10 := F10.binds (ps := ["found"]) fun _ _ _ _ _ _ us hl => match us, hl with | [_], _ => rfl
  have F11 := fun_mk (st := s_l_base) l11 c11 k11
  have b11 := F11.binds (ps := ["cell"]) fun _ _ _ _ _ _ us hl => match us, hl with | [_], _ => rfl
  have F12 := fun_mk (st := s_l_number) l12 c12 k12
  have b12 := F12.binds (ps := ["cell", "turn", "base"]) fun _ _ _ _ _ _ us hl => match us, hl with | [_, _, _], _ => rfl
  have F13 := fun_mk (st := s_l_mark_by) l13 c13 k13
  have b13 := F13.binds (ps := ["cell", "names", "base"]) fun _ _ _ _ _ _ us hl => match us, hl with | [_, _, _], _ => rfl
  have F14 := fun_mk (st := s_l_step_by) l14 c14 k14
  have b14 := F14.binds (ps := ["cell", "names", "base"]) fun _ _ _ _ _ _ us hl => match us, hl with | [_, _, _], _ => rfl
  have F15 := fun_mk (st := s_l_fit) l15 c15 k15
  have b15 := F15.binds (ps := ["mark", "step"]) fun _ _ _ _ _ _ us hl => match us, hl with | [_, _], _ => rfl
  have F16 := fun_mk (st := s_l_step_for) l16 c16 k16
  have b16 := F16.binds (ps := ["cell", "mark", "names", "base"]) fun _ _ _ _ _ _ us hl => match us, hl with | [_, _, _, _], _ => rfl
  have F17 := fun_mk (st := s_l_rooms_by) l17 c17 k17
  have b17 := F17.binds (ps := ["cell", "many", "mixed"]) fun _ _ _ _ _ _ us hl => match us, hl with | [_, _, _], _ => rfl
  have F18 := fun_mk (st := s_l_walk) l18 c18 k18
  have b18 := F18.binds (ps := ["marks", "follows", "steps"]) fun _ _ _ _ _ _ us hl => match us, hl with | [_, _, _], _ => rfl
  have F19 := fun_mk (st := s_l_rising) l19 c19 k19
  have b19 := F19.binds (ps := ["found", "due"]) fun _ _ _ _ _ _ us hl => match us, hl with | [_, _], _ => rfl
  have F20 := fun_mk (st := s_l_run) l20 c20 k20
  have b20 := F20.binds (ps := ["run", "marks", "follows", "ends", "steps"]) fun _ _ _ _ _ _ us hl => match us, hl with | [_, _, _, _, _], _ => rfl
  have F21 := fun_mk (st := s_l_steps_by) l21 c21 k21
  have b21 := F21.binds (ps := ["cells", "marks", "names", "base"]) fun _ _ _ _ _ _ us hl => match us, hl with | [_, _, _, _], _ => rfl
  have F22 := fun_mk (st := s_l_steps_led) l22 c22 k22
  have b22 := F22.binds (ps := ["cells", "marks", "follows", "names", "base"]) fun _ _ _ _ _ _ us hl => match us, hl with | [_, _, _, _, _], _ => rfl
  have F23 := fun_mk (st := s_l_steps_all) l23 c23 k23
  have b23 := F23.binds (ps := ["head", "cells", "marks", "follows", "ends", "words"]) fun _ _ _ _ _ _ us hl => match us, hl with | [_, _, _, _, _, _], _ => rfl
  have F24 := fun_mk (st := s_law) l24 c24 k24
  have T : Txt K mg ⟨f0, _, f1, _, f2, _, f3, _, f4, _, f5, _, f6, _, f7, _, f8, _, f9, _, f10, _, f11, _, f12, _, f13, _, f14, _, f15, _, f16, _, f17, _, f18, _, f19, _, f20, _, f21, _, f22, _, f23, _⟩ := ⟨⟨F0, b0, PySem.W.mg_of X G a0⟩, ⟨F1, b1, PySem.W.mg_of X G a1⟩, ⟨F2, b2, PySem.W.mg_of X G a2⟩, ⟨F3, b3, PySem.W.mg_of X G a3⟩, ⟨F4, b4, PySem.W.mg_of X G a4⟩, ⟨F5, b5, PySem.W.mg_of X G a5⟩, ⟨F6, b6, PySem.W.mg_of X G a6⟩, ⟨F7, b7, PySem.W.mg_of X G a7⟩, ⟨F8, b8, PySem.W.mg_of X G a8⟩, ⟨F9, b9, PySem.W.mg_of X G a9⟩, ⟨F10, b10, PySem.W.mg_of X G a10⟩, ⟨F11, b11, PySem.W.mg_of X G a11⟩, ⟨F12, b12, PySem.W.mg_of X G a12⟩, ⟨F13, b13, PySem.W.mg_of X G a13⟩, ⟨F14, b14, PySem.W.mg_of X G a14⟩, ⟨F15, b15, PySem.W.mg_of X G a15⟩, ⟨F16, b16, PySem.W.mg_of X G a16⟩, ⟨F17, b17, PySem.W.mg_of X G a17⟩, ⟨F18, b18, PySem.W.mg_of X G a18⟩, ⟨F19, b19, PySem.W.mg_of X G a19⟩, ⟨F20, b20, PySem.W.mg_of X G a20⟩, ⟨F21, b21, PySem.W.mg_of X G a21⟩, ⟨F22, b22, PySem.W.mg_of X G a22⟩, ⟨F23, b23, PySem.W.mg_of X G a23⟩, ⟨_, PySem.W.mg_of X G g0, ⟨_, rfl⟩⟩, ⟨_, PySem.W.mg_of X G g1, ⟨_, rfl⟩⟩, ⟨_, PySem.W.mg_of X G g2, ⟨_, rfl⟩⟩, ⟨_, PySem.W.mg_of X G g3, ⟨_, rfl⟩⟩, PySem.W.mg_none_of X G z0, PySem.W.mg_none_of X G z1, PySem.W.mg_none_of X G z2, PySem.W.mg_none_of X G z3, PySem.W.mg_none_of X G z4, PySem.W.mg_none_of X G z5, PySem.W.mg_none_of X G z6, PySem.W.mg_none_of X G z7, PySem.W.mg_none_of X G z8⟩
  exact ⟨PySem.W.fnOf "law" "law" (defArgs s_law) (defBody s_law) (defScope s_law) .none kV24 dc24 pm24 an24 cd24 ct24, fun s v => .of_eq rfl, fun base _ _ => ok_law F24 T⟩
theorem walk {l : PySem.W.OpenLaw} {q : Program} {loose : List Str} {XP : (Str → Option Value) → Heap → Prop} {YP : World → Heap → Prop} {d : DefRec} {K : Params → PySem.W.Frag} (hn : l.most = some 63) (hdf : d.params.defaults = [])
    (hY : ∀ (w : World) (h : Heap), YP w h → (K w.params).In h)
    (F : ∀ (w : World) (mg : Str → Option Value) (fa : Addr) (h : Heap), (K w.params).In h → h.Ns mainGlobals mg → mg d.name = some (.ref fa) →
      ∃ fd : FuncData, (∀ (s : Shared) (u : Value), BindsTo s fd ⟨[u], []⟩ [("script", u)]) ∧ ∀ base : Heap, (K w.params).In base → base.Ns mainGlobals mg → FnOk l.prog w (K w.params) mg base (CX1 l.prog w) 7 fa fd ["script"] (spLaw (K w.params))) :
    PySem.W.WalkO q loose XP YP l.row.toRowW d [] (fun f vs => PySem.call f vs) :=
  L2.walk_of (n := 63) (k := 7) (x := "script") (CX := fun w => CX1 l.prog w) (sp := fun w => spLaw (K w.params)) hn (by decide) hdf ⟨rfl, by decide, by decide⟩ hY F (fun _ _ a ns hl _ hS => ⟨a, ns, rfl, hS, hl, fun _ => rfl⟩) fun _ _ _ _ _ ⟨_, _, _, _, _, z⟩ => z
end K23
open PySem PySem.W PyProof.Rows
abbrev rowAt : RowW := PySem.Challenge.rw_tieseek_k23_runs_and_rooms.row.toRowW
def seenP : Program :=
  { rowAt.prog with main := { rowAt.prog.main with
      body := ((rowAt.prog.main.body.eraseIdx 12).eraseIdx 1) } }
abbrev seenX : Shared → Bool := fun s => xlAt seenP [] s && recOk rowAt.records s
theorem two_looks {W α β γ : Type} {x : W → Option α} {f : α → β} {g : α → γ} {b : β} {c : W → γ}
    (h : ∀ w, (x w).map f = some b) (k : ∀ w, (x w).map g = some (c w)) (w : W) :
    (x w).map (fun s => (f s, g s)) = some (b, c w) := by
  have h := h w
  have k := k w
  revert h k
  cases x w with
  | none => intro h; cases h
  | some a => intro h k; cases h; rw [← Option.some.inj k]; rfl
set_option maxRecDepth 100000 in
set_option maxHeartbeats 0 in
theorem first_look : ∀ w : World, (openEnds treeTable rowAt.prog w 1776).map
    (fun s => openSeen seenP [] (importedModules rowAt.prog.main.body) seenX true s) =
    some (openGood seenP []) := by
  intro w
  unfold openEnds fencedOpening topFrom
  rw [Fast.te14082659384304107361,
      Fast.te14364793385576792824,
      Fast.te10274390034422433532,
      Fast.te14289696077712309145,
      Fast.te1435165496053646825,
      Fast.te4187177175401517315,
      Fast.te5923862056798008813]
  kernel_rfl
local macro_rules
  | `(tactic| o_head $H) => `(tactic|
    refine holds_open (q := seenP) (loose := []) (Xt := seenX)
      (XP := XL seenP []) (Yf := Hook.obs $H) (Ya := Hook.val $H)
      (YP := Hook.says $H) (N := 1776) (two_looks first_look ?hl) (Hook.of $H) (Hook.keeps $H)
      (fun s e => xl_of s (Bool.and_eq_true_iff.mp e).1) XL.keeps
      (by rfl) (by rfl) (by rfl)
      (fun s e => recFacts_of (Bool.and_eq_true_iff.mp e).2)
      (by rfl) (by first | assumption | decide +kernel)
      (by decide +kernel) ⟨rfl, rfl, rfl, rfl, rfl, by decide +kernel⟩ ?hw ?hc)
set_option maxRecDepth 100000 in
set_option maxHeartbeats 0 in
theorem PySem.Challenge.cw_tieseek_k23_runs_and_rooms_holds : PySem.Challenge.rw_tieseek_k23_runs_and_rooms.Holds := by
  w_on; o_law; k_head; (case hw => w_witness2)
  case hl =>
    intro w
    unfold openEnds fencedOpening topFrom
    rw [Fast.te14082659384304107361, Fast.te14364793385576792824, Fast.te10274390034422433532, Fast.te14289696077712309145, Fast.te1435165496053646825, Fast.te5923862056798008813]
    kernel_rfl
  k_fill
  refine K23.walk (l := PySem.Challenge.rw_tieseek_k23_runs_and_rooms) rfl rfl (fun w h Y => PySem.W.kIn_of Y) ?F
  case F =>
    intro w mg fa h KX G hmg
    refine' K23.all_mk KX G hmg ?xa0 ?xl0 ?xc0 ?xk0 ?xa1 ?xl1 ?xc1 ?xk1 ?xa2 ?xl2 ?xc2 ?xk2 ?xa3 ?xl3 ?xc3 ?xk3 ?xa4 ?xl4 ?xc4 ?xk4 ?xa5 ?xl5 ?xc5 ?xk5 ?xa6 ?xl6 ?xc6 ?xk6 ?xa7 ?xl7 ?xc7 ?xk7 ?xa8 ?xl8 ?xc8 ?xk8 ?xa9 ?xl9 ?xc9 ?xk9 ?xa10 ?xl10 ?xc10 ?xk10 ?xa11 ?xl11 ?xc11 ?xk11 ?xa12 ?xl12 ?xc12 ?xk12 ?xa13 ?xl13 ?xc13 ?xk13 ?xa14 ?xl14 ?xc14 ?xk14 ?xa15 ?xl15 ?xc15 ?xk15 ?xa16 ?xl16 ?xc16 ?xk16 ?xa17 ?xl17 ?xc17 ?xk17 ?xa18 ?xl18 ?xc18 ?xk18 ?xa19 ?xl19 ?xc19 ?xk19 ?xa20 ?xl20 ?xc20 ?xk20 ?xa21 ?xl21 ?xc21 ?xk21 ?xa22 ?xl22 ?xc22 ?xk22 ?xa23 ?xl23 ?xc23 ?xk23 ?xa24 ?xl24 ?xc24 ?xk24 ?xg0 ?xg1 ?xg2 ?xg3 ?xz0 ?xz1 ?xz2 ?xz3 ?xz4 ?xz5 ?xz6 ?xz7 ?xz8
    (case xa0 => k_is)
    (case xl0 => k_is)
    (case xc0 => k_is)
    (case xk0 => k_is)
    (case xa1 => k_is)
    (case xl1 => k_is)
    (case xc1 => k_is)
    (case xk1 => k_is)
    (case xa2 => k_is)
    (case xl2 => k_is)
    (case xc2 => k_is)
    (case xk2 => k_is)
    (case xa3 => k_is)
    (case xl3 => k_is)
    (case xc3 => k_is)
    (case xk3 => k_is)
    (case xa4 => k_is)
    (case xl4 => k_is)
    (case xc4 => k_is)
    (case xk4 => k_is)
    (case xa5 => k_is)
    (case xl5 => k_is)
    (case xc5 => k_is)
    (case xk5 => k_is)
    (case xa6 => k_is)
    (case xl6 => k_is)
    (case xc6 => k_is)
    (case xk6 => k_is)
    (case xa7 => k_is)
    (case xl7 => k_is)
    (case xc7 => k_is)
    (case xk7 => k_is)
    (case xa8 => k_is)
    (case xl8 => k_is)
    (case xc8 => k_is)
    (case xk8 => k_is)
    (case xa9 => k_is)
    (case xl9 => k_is)
    (case xc9 => k_is)
    (case xk9 => k_is)
    (case xa10 => k_is)
    (case xl10 => k_is)
    (case xc10 => k_is)
    (case xk10 => k_is)
    (case xa11 => k_is)
    (case xl11 => k_is)
    (case xc11 => k_is)
    (case xk11 => k_is)
    (case xa12 => k_is)
    (case xl12 => k_is)
    (case xc12 => k_is)
    (case xk12 => k_is)
    (case xa13 => k_is)
    (case xl13 => k_is)
    (case xc13 => k_is)
    (case xk13 => k_is)
    (case xa14 => k_is)
    (case xl14 => k_is)
    (case xc14 => k_is)
    (case xk14 => k_is)
    (case xa15 => k_is)
    (case xl15 => k_is)
    (case xc15 => k_is)
    (case xk15 => k_is)
    (case xa16 => k_is)
    (case xl16 => k_is)
    (case xc16 => k_is)
    (case xk16 => k_is)
    (case xa17 => k_is)
    (case xl17 => k_is)
    (case xc17 => k_is)
    (case xk17 => k_is)
    (case xa18 => k_is)
    (case xl18 => k_is)
    (case xc18 => k_is)
    (case xk18 => k_is)
    (case xa19 => k_is)
    (case xl19 => k_is)
    (case xc19 => k_is)
    (case xk19 => k_is)
    (case xa20 => k_is)
    (case xl20 => k_is)
    (case xc20 => k_is)
    (case xk20 => k_is)
    (case xa21 => k_is)
    (case xl21 => k_is)
    (case xc21 => k_is)
    (case xk21 => k_is)
    (case xa22 => k_is)
    (case xl22 => k_is)
    (case xc22 => k_is)
    (case xk22 => k_is)
    (case xa23 => k_is)
    (case xl23 => k_is)
    (case xc23 => k_is)
    (case xk23 => k_is)
    (case xa24 => k_is)
    (case xl24 => k_is)
    (case xc24 => k_is)
    (case xk24 => k_is)
    (case xg0 => k_is)
    (case xg1 => k_is)
    (case xg2 => k_is)
    (case xg3 => k_is)
    (case xz0 => k_is)
    (case xz1 => k_is)
    (case xz2 => k_is)
    (case xz3 => k_is)
    (case xz4 => k_is)
    (case xz5 => k_is)
    (case xz6 => k_is)
    (case xz7 => k_is)
    (case xz8 => k_is)
