import PyProof.Rows.All
import Wide.All
import KE.KDictOf
import KE.KFromBytes
import KE.KIntText
import KE.KItemsList
import KE.KRevIter
import KE.KSortTup
import KE.KTryMore
import KE.LcSums
import Wide.FinOn
import Lean
import PyProof.EqAt
import PyProof.EqKinds
import PyProof.TupleCall
import PySem.Challenge.RW_tieseek_k18_any_text_cut
set_option Elab.async false
set_option linter.all false
set_option maxRecDepth 100000
set_option Elab.async false
set_option linter.all false
set_option maxRecDepth 100000
namespace L2
open PySem PySem.Spec PyProof.Rows
abbrev Key := Sum Int Str
def keyIs : Key → Value → Bool
  | .inl k, v => Value.isInt k v
  | .inr x, v => Value.isStrOf x v
def keyH (w : World) : Key → Int
  | .inl k => hashInt k
  | .inr x => hashStr w x
theorem keyIs_shape : ∀ {k : Key} {v : Value}, keyIs k v = true → (∃ i t, k = Sum.inl i ∧ v = Value.int i t) ∨ (∃ x t, k = Sum.inr x ∧ v = Value.str x t)
  | .inl i, v, h => by
    obtain ⟨t, e⟩ := Value.isInt_shape (k := i) (v := v) h
    exact .inl ⟨i, t, rfl, e⟩
  | .inr x, v, h => by
    obtain ⟨t, e⟩ := Value.isStrOf_shape (x := x) (v := v) h
    exact .inr ⟨x, t, rfl, e⟩
theorem key_ll (a b : Int) : decide ((Sum.inl a : Key) = Sum.inl b) = (a == b) := by
  by_cases e : a = b
  · subst e; simp
  · have h : ¬ (Sum.inl a : Key) = Sum.inl b := fun q => e (Sum.inl.inj q)
    rw [decide_eq_false h]
    exact (beq_eq_false_iff_ne.mpr e).symm
theorem key_rr (a b : Str) : decide ((Sum.inr a : Key) = Sum.inr b) = decide (a = b) := by
  by_cases e : a = b
  · subst e; simp
  · have h : ¬ (Sum.inr a : Key) = Sum.inr b := fun q => e (Sum.inr.inj q)
    rw [decide_eq_false h, decide_eq_false e]
theorem key_lr (a : Int) (b : Str) : decide ((Sum.inl a : Key) = Sum.inr b) = false := decide_eq_false (fun q => nomatch q)
theorem key_rl (a : Str) (b : Int) : decide ((Sum.inr a : Key) = Sum.inl b) = false := decide_eq_false (fun q => nomatch q)
def mixKind (prog : Program) (w : World) : PySem.KeyKind prog w Key where
  is := keyIs
  hash := keyH w
  inj := fun v a b ha hb => by
    rcases keyIs_shape ha with ⟨i, t, rfl, rfl⟩ | ⟨x, t, rfl, rfl⟩
    · rcases keyIs_shape hb with ⟨j, u, rfl, e⟩ | ⟨y, u, rfl, e⟩
      · injection e with e1 _; rw [e1]
      · exact nomatch e
    · rcases keyIs_shape hb with ⟨j, u, rfl, e⟩ | ⟨y, u, rfl, e⟩
      · exact nomatch e
      · injection e with e1 _; rw [e1]
  byValue := fun k v h => by
    rcases keyIs_shape h with ⟨i, t, rfl, rfl⟩ | ⟨x, t, rfl, rfl⟩ <;> rfl
  pyHash := fun hv h => by
    rcases keyIs_shape hv with ⟨i, t, rfl, rfl⟩ | ⟨x, t, rfl, rfl⟩
    · exact wpAny_pyHash_int h
    · exact wpAny_pyHash_str h
  eqBool := fun hu hv h => by
    rcases keyIs_shape hu with ⟨i, t, rfl, rfl⟩ | ⟨x, t, rfl, rfl⟩
    · rcases keyIs_shape hv with ⟨j, u, rfl, rfl⟩ | ⟨y, u, rfl, rfl⟩
      · rw [key_ll] at h; exact wpAny_eqBool_int h
      · rw [key_lr] at h; exact SeqAt.EqAt.int_str i t y u _ _ _ _ h
    · rcases keyIs_shape hv with ⟨j, u, rfl, rfl⟩ | ⟨y, u, rfl, rfl⟩
      · rw [key_rl] at h; exact SeqAt.EqAt.str_int x t j u _ _ _ _ h
      · rw [key_rr] at h; exact wpAny_eqBool_str h
  «strs» := fun k x t v h => by
    rcases keyIs_shape h with ⟨i, u, rfl, e⟩ | ⟨y, u, rfl, e⟩
    · exact nomatch e
    · injection e with e1 _
      subst e1
      cases v <;> rfl
end L2
namespace L2
open PySem PySem.Spec PyProof.Rows
inductive V where
  | non | bl (b : Bool) | int (i : Int) | str (x : Str) | byt (b : Array UInt8) | flt (b : UInt64) | ref (a : Addr) | ty (n : String)
  deriving DecidableEq
def RelV : V → Value → Prop
  | .non, u => u = Value.none
  | .bl b, u => u = Value.bool b
  | .int i, u => ∃ t, u = Value.int i t
  | .str x, u => ∃ t, u = Value.str x t
  | .byt b, u => ∃ t, u = Value.bytes b t
  | .flt b, u => ∃ t, u = Value.float b t
  | .ref a, u => u = Value.ref a
  | .ty n, u => u = Value.type n
abbrev Vals : List V → List Value → Prop := Paired RelV
theorem Vals.length {xs : List V} {us : List Value} (r : Vals xs us) : xs.length = us.length := Paired.length r
theorem Vals.get : ∀ {xs : List V} {us : List Value} {i : Nat} {x : V}, Vals xs us → xs[i]? = some x → ∃ u, us[i]? = some u ∧ RelV x u
  | _, _, _, _, .nil, e => by simp at e
  | _, _, 0, _, .cons r _, e => by simp at e; subst e; exact ⟨_, rfl, r⟩
  | _, _, i + 1, x, .cons _ t, e => by
    obtain ⟨u, h1, h2⟩ := Vals.get (i := i) (x := x) t (by simpa using e)
    exact ⟨u, by simpa using h1, h2⟩
theorem Vals.append : ∀ {xs ys : List V} {us ws : List Value}, Vals xs us → Vals ys ws → Vals (xs ++ ys) (us ++ ws)
  | _, _, _, _, .nil, s => s
  | _, _, _, _, .cons r t, s => .cons r (Vals.append t s)
def RelO : Option V → Option Value → Prop
  | some v, some u => RelV v u
  | none, none => True
  | _, _ => False
def KV {κ : Type} : List (κ × V) → List (κ × Value) → Prop := Paired fun (p : κ × V) (q : κ × Value) => p.1 = q.1 ∧ RelV p.2 q.2
def kV : Key → V
  | .inl i => .int i
  | .inr x => .str x
inductive HO where
    | lst (xs : List V)
    | tup (xs : List V)
    | dK (kvs : List (Key × V)) | dT (kvs : List (List Key × V))
    | set (S : Int → Bool) (n : Nat)
    | ins (C dx : Addr) (fs : List (Str × V))
    | own (x : Addr)
    | xd (fs : List (Str × V))
    | met (f x : Addr)
    | rng (lo hi : Int)
    | frz (o : Obj) (u : HO)
    | tbl (ps : Array Value)
    | ext (φ : Heap → Prop)
abbrev Hp := Addr → Option HO
def upd (H : Hp) (a : Addr) (o : HO) : Hp := fun b => if b = a then some o else H b
theorem upd_same {H : Hp} {a : Addr} {o : HO} : upd H a o a = some o := by unfold upd; rw [if_pos rfl]
theorem upd_ne {H : Hp} {a b : Addr} {o : HO} (h : b ≠ a) : upd H a o b = H b := by unfold upd; rw [if_neg h]
theorem ne_of_none {H : Hp} {a b : Addr} {o : HO} (h : H a = some o) (h' : H b = none) : a ≠ b := by
  intro e; subst e; rw [h] at h'; cases h'
section
variable (P : Program) (w : World)
def ObjOk (H : Hp) (h : Heap) (a : Addr) : HO → Prop
  | .lst xs => xs.length ≤ sizeLine ∧ ∃ (its : List Value) (n : Nat), Vals xs its ∧ h.get? a = some { cls := .type "list", data := .seq its.toArray n }
  | .tup xs => xs.length ≤ sizeLine ∧ ∃ its : List Value, Vals xs its ∧ IsTup h a its.toArray
  | .dK kvs => kvs.length ≤ sizeLine ∧ (a == sysModules) = false ∧ ∃ vs, KV kvs vs ∧ h.DictOf (mixKind P w) a vs
  | .dT kvs => kvs.length ≤ sizeLine ∧ (a == sysModules) = false ∧ ∃ xs : List (List Key × Addr × Value),
      Paired (fun (p : List Key × V) (q : List Key × Addr × Value) => p.1 = q.1 ∧ H q.2.1 = some (.tup (p.1.map kV)) ∧ RelV p.2 q.2.2) kvs xs ∧
      ∃ o es ep, h.get? a = some o ∧ o.ExactDict ∧ o.data = .dict es ep ∧ es.toList = xs.map (entryOfKey (tupleKind (mixKind P w))) ∧ (xs.map (·.1)).Nodup
  | .set S n => h.SetOf (intKind P w) a S n
  | .ins C dx fs => H dx = some (.own a) ∧ fs.length ≤ 1000 ∧ dx ≠ a ∧ h.get? a = some (PySem.W.instObj C dx) ∧
      ∃ mA, h.Ns1 dx mA ∧ (∀ f, RelO (fs.lookup f) (mA f)) ∧ PySem.Within mA (fs.map (·.1))
  | .own _ => ∃ o, h.get? a = some o
  | .xd fs => ∃ mA, h.Ns1 a mA ∧ ∀ f, RelO (fs.lookup f) (mA f)
  | .rng lo hi => ∃ t u v, h.get? a = some { cls := .type "range", data := .fields #[.int lo t, .int hi u, .int 1 v] }
  | .frz o u => h.get? a = some o ∧ ObjOk H h a u
  | .tbl ps => h.get? a = some { cls := .none, data := .fields ps }
  | .met f x => h.get? a = some (PySem.W.methodObj (.ref f) (.ref x))
  | .ext φ => φ h ∧ (∃ o, h.get? a = some o) ∧ ∀ h1 h2 : Heap, φ h1 → (∀ o, h1.get? a = some o → h2.get? a = some o) → φ h2
def HOk (H : Hp) (h : Heap) : Prop := ∀ a o, H a = some o → ObjOk P w H h a o
end
section
variable {P : Program} {w : World} {H H' : Hp} {h h' : Heap} {a : Addr} {o : HO}
theorem ObjOk.lt (x : ObjOk P w H h a o) : a < h.objs.size := by
  cases o with
  | lst xs => obtain ⟨_, _, _, _, e⟩ := x; exact Heap.lt_size e
  | tup xs => obtain ⟨_, _, _, p⟩ := x; exact p.lt
  | dK kvs => obtain ⟨_, _, _, _, o, _, _, e, _⟩ := x; exact Heap.lt_size e
  | dT kvs => obtain ⟨_, _, _, _, o, _, _, e, _⟩ := x; exact Heap.lt_size e
  | set S n => obtain ⟨o, _, _, _, e, _⟩ := x; exact Heap.lt_size e
  | ins C dx fs => obtain ⟨_, _, _, e, _⟩ := x; exact Heap.lt_size e
  | own y => obtain ⟨_, e⟩ := x; exact Heap.lt_size e
  | xd fs => obtain ⟨_, ⟨_, _, _, e, _⟩, _⟩ := x; exact Heap.lt_size e
  | rng lo hi => obtain ⟨_, _, _, e⟩ := x; exact Heap.lt_size e
  | frz ob u => obtain ⟨e, _⟩ := x; exact Heap.lt_size e
  | tbl ps => exact Heap.lt_size (show h.get? a = some _ from x)
  | met f y => exact Heap.lt_size (show h.get? a = some _ from x)
  | ext φ => obtain ⟨_, ⟨_, e⟩, _⟩ := x; exact Heap.lt_size e
theorem Paired.mapP {α β : Type} {F G : α → β → Prop} : ∀ {l₁ : List α} {l₂ : List β}, Paired F l₁ l₂ → (∀ a b, F a b → G a b) → Paired G l₁ l₂
  | _, _, .nil, _ => .nil
  | _, _, .cons r t, f => .cons (f _ _ r) (Paired.mapP t f)
theorem ObjOk.stay (x : ObjOk P w H h a o) (k : ∀ b u, (b = a ∨ H b = some (.own a)) → h.get? b = some u → h'.get? b = some u)
    (ho : ∀ b, H b = some (.own a) → H' b = some (.own a)) (ht : ∀ b xs, H b = some (.tup xs) → H' b = some (.tup xs)) : ObjOk P w H' h' a o := by
  induction o with
  | lst xs => obtain ⟨z, its, n, r, e⟩ := x; exact ⟨z, its, n, r, k _ _ (.inl rfl) e⟩
  | tup xs => obtain ⟨z, its, r, ob, e, c⟩ := x; exact ⟨z, its, r, ob, k _ _ (.inl rfl) e, c⟩
  | dK kvs => obtain ⟨z, y, vs, r, ob, es, ep, e, c⟩ := x; exact ⟨z, y, vs, r, ob, es, ep, k _ _ (.inl rfl) e, c⟩
  | dT kvs =>
    obtain ⟨z, y, xs, r, ob, es, ep, e, c⟩ := x
    exact ⟨z, y, xs, Paired.mapP r fun p q z => ⟨z.1, ht _ _ z.2.1, z.2.2⟩, ob, es, ep, k _ _ (.inl rfl) e, c⟩
  | set S n => obtain ⟨ob, es, ep, t, e, c⟩ := x; exact ⟨ob, es, ep, t, k _ _ (.inl rfl) e, c⟩
  | ins C dx fs =>
    obtain ⟨d, z, ne, e, mA, ⟨od, es, ep, e2, c⟩, r⟩ := x
    exact ⟨ho _ d, z, ne, k _ _ (.inl rfl) e, mA, ⟨od, es, ep, k _ _ (.inr d) e2, c⟩, r⟩
  | own y => obtain ⟨ob, e⟩ := x; exact ⟨ob, k _ _ (.inl rfl) e⟩
  | xd fs => obtain ⟨mA, ⟨od, es, ep, e, c⟩, r⟩ := x; exact ⟨mA, ⟨od, es, ep, k _ _ (.inl rfl) e, c⟩, r⟩
  | rng lo hi => obtain ⟨t, u, v, e⟩ := x; exact ⟨t, u, v, k _ _ (.inl rfl) e⟩
  | frz ob u ih => obtain ⟨e, q⟩ := x; exact ⟨k _ _ (.inl rfl) e, ih q⟩
  | tbl ps =>
    have e : h.get? a = some { cls := .none, data := .fields ps } := x
    show h'.get? a = some { cls := .none, data := .fields ps }
    exact k a _ (.inl rfl) e
  | met f y =>
    have e : h.get? a = some (PySem.W.methodObj (.ref f) (.ref y)) := x
    show h'.get? a = some (PySem.W.methodObj (.ref f) (.ref y))
    exact k a _ (.inl rfl) e
  | ext φ => obtain ⟨p, ⟨o, e⟩, st⟩ := x; exact ⟨st _ _ p fun o q => k _ _ (.inl rfl) q, ⟨o, k _ _ (.inl rfl) e⟩, st⟩
theorem HOk.lt (x : HOk P w H h) (e : H a = some o) : a < h.objs.size := (x a o e).lt
theorem HOk.fresh (x : HOk P w H h) (e : h.objs.size ≤ a) : H a = none := by
  cases q : H a with
  | none => rfl
  | some u => exact absurd (Nat.lt_of_lt_of_le (x.lt q) e) (Nat.lt_irrefl _)
theorem HOk.kept (x : HOk P w H h) (k : ∀ b u, h.get? b = some u → h'.get? b = some u) : HOk P w H h' := fun a o e =>
  (x a o e).stay (fun b u _ q => k b u q) (fun _ q => q) fun _ _ q => q
theorem HOk.laid (x : HOk P w H h) (k : ∀ b u, h.get? b = some u → h'.get? b = some u) (hp : h.objs.size ≤ a) (new : ObjOk P w (upd H a o) h' a o) : HOk P w (upd H a o) h' := fun b u e => by
  have hn := x.fresh hp
  by_cases hb : b = a
  · subst hb; rw [upd_same] at e; cases e; exact new
  · rw [upd_ne hb] at e
    exact (x b u e).stay (fun c v _ q => k c v q) (fun c q => by rw [upd_ne (ne_of_none q hn)]; exact q) fun c xs q => by rw [upd_ne (ne_of_none q hn)]; exact q
end
def Rd (H : Hp) (a : Addr) (u : HO) : Prop := H a = some u ∨ ∃ o, H a = some (.frz o u)
theorem Rd.ok {P : Program} {w : World} {H : Hp} {h : Heap} {a : Addr} {u : HO} (r : Rd H a u) (x : HOk P w H h) : ObjOk P w H h a u := by
  rcases r with r | ⟨o, r⟩
  · exact x a u r
  · obtain ⟨_, q⟩ := x a _ r
    exact q
def Mut : Option HO → Prop
  | some (.lst _) => True
  | some (.dK _) => True
  | some (.dT _) => True
  | some (.set _ _) => True
  | some (.ins _ _ _) => True
  | some (.ext _) => True
  | _ => False
section
variable {P : Program} {w : World} {H : Hp} {h h' : Heap} {x e : Addr} {o' : HO}
theorem HOk.write (ok : HOk P w H h) (mu : Mut (H x)) (he : e = x ∨ H e = some (.own x)) (k : ∀ b u, b ≠ e → h.get? b = some u → h'.get? b = some u) (heo : ∃ u, h'.get? e = some u)
    (new : ObjOk P w (upd H x o') h' x o') : HOk P w (upd H x o') h' := fun b u q => by
  have nown : ∀ c y, H c = some (.own y) → c ≠ x := fun c y r z => by subst z; rw [r] at mu; exact mu
  have ntup : ∀ c xs, H c = some (.tup xs) → c ≠ x := fun c xs r z => by subst z; rw [r] at mu; exact mu
  by_cases hb : b = x
  · subst hb; rw [upd_same] at q; cases q; exact new
  · rw [upd_ne hb] at q
    by_cases hbe : b = e
    · have q' : H b = some (.own x) := by
        rcases he with z | z
        · exact absurd (hbe.trans z) hb
        · rw [hbe]; exact z
      rw [q] at q'; cases q'
      obtain ⟨v, hv⟩ := heo
      exact ⟨v, by rw [hbe]; exact hv⟩
    · refine (ok b u q).stay (fun c v hc r => k c v ?_ r) (fun c r => by rw [upd_ne (nown c b r)]; exact r) fun c xs r => by rw [upd_ne (ntup c xs r)]; exact r
      rcases hc with rfl | hc
      · exact hbe
      · rintro rfl
        rcases he with z | z
        · exact nown c b hc z
        · rw [hc] at z; cases z; exact hb rfl
end
structure Un (fs ex : List Addr) (H H' : Hp) (h h' : Heap) : Prop where
  keep : ∀ b o, h.get? b = some o → H b = none → b ∉ fs → b ∉ ex → h'.get? b = some o
  slot : ∀ b o, h.get? b = some o → H b = none → b ∈ fs → b ∉ ex → ∃ sl, h'.get? b = some { o with slots := sl }
  free : ∀ b o, h.get? b = some o → H b = none → b ∉ ex → H' b = none
  there : ∀ b o, h.get? b = some o → b ∉ ex → ∃ o', h'.get? b = some o'
  tups : ∀ b xs, H b = some (.tup xs) → H' b = some (.tup xs)
  frzs : ∀ b o u, H b = some (.frz o u) → H' b = some (.frz o u)
  tbls : ∀ b ps, H b = some (.tbl ps) → ∃ more, H' b = some (.tbl (ps ++ more))
section
variable {fs fs' ex ex' : List Addr} {H H1 H2 : Hp} {h h1 h2 h' : Heap} {a x e : Addr} {o : HO}
theorem Un.any (u : Un fs ex H H1 h h1) {b : Addr} {ob : Obj} (q : h.get? b = some ob) (n : H b = none) (hx : b ∉ ex) : ∃ sl, h1.get? b = some { ob with slots := sl } := by
  by_cases hb : b ∈ fs
  · exact u.slot b ob q n hb hx
  · exact ⟨ob.slots, u.keep b ob q n hb hx⟩
theorem Un.trans (a : Un fs ex H H1 h h1) (b : Un fs ex H1 H2 h1 h2) : Un fs ex H H2 h h2 where
  keep := fun c ob q n hc hx => b.keep c ob (a.keep c ob q n hc hx) (a.free c ob q n hx) hc hx
  slot := fun c ob q n hc hx => by
    obtain ⟨sl, e1⟩ := a.slot c ob q n hc hx
    obtain ⟨sl', e2⟩ := b.slot c _ e1 (a.free c ob q n hx) hc hx
    exact ⟨sl', e2⟩
  free := fun c ob q n hx => by
    obtain ⟨o', e1⟩ := a.there c ob q hx
    exact b.free c o' e1 (a.free c ob q n hx) hx
  there := fun c ob q hx => by
    obtain ⟨o', e1⟩ := a.there c ob q hx
    exact b.there c o' e1 hx
  tups := fun c xs q => b.tups c xs (a.tups c xs q)
  frzs := fun c ob xs q => b.frzs c ob xs (a.frzs c ob xs q)
  tbls := fun c ps q => by
    obtain ⟨m1, e1⟩ := a.tbls c ps q
    obtain ⟨m2, e2⟩ := b.tbls c _ e1
    exact ⟨m1 ++ m2, by rw [e2, Array.append_assoc]⟩
theorem Un.kept (k : ∀ b u, h.get? b = some u → h'.get? b = some u) : Un fs ex H H h h' :=
  ⟨fun b ob q _ _ _ => k b ob q, fun b ob q _ _ _ => ⟨ob.slots, k b ob q⟩, fun _ _ _ n _ => n, fun b ob q _ => ⟨ob, k b ob q⟩, fun _ _ q => q, fun _ _ _ q => q, fun _ ps q => ⟨#[], by rw [q]; simp⟩⟩
theorem Un.refl : Un fs ex H H h h := Un.kept fun _ _ q => q
theorem Un.laid (k : ∀ b u, h.get? b = some u → h'.get? b = some u) (hp : h.objs.size ≤ a) (hn : H a = none) : Un fs ex H (upd H a o) h h' where
  keep := fun b u q _ _ _ => k b u q
  slot := fun b u q _ _ _ => ⟨u.slots, k b u q⟩
  free := fun b u q n _ => by rw [upd_ne (Nat.ne_of_lt (Nat.lt_of_lt_of_le (Heap.lt_size q) hp))]; exact n
  there := fun b u q _ => ⟨u, k b u q⟩
  tups := fun b xs q => by rw [upd_ne (ne_of_none q hn)]; exact q
  frzs := fun b u xs q => by rw [upd_ne (ne_of_none q hn)]; exact q
  tbls := fun b ps q => ⟨#[], by rw [upd_ne (ne_of_none q hn), q]; simp⟩
theorem Un.write (mu : Mut (H x)) (he : e = x ∨ H e = some (.own x)) (k : ∀ b u, b ≠ e → h.get? b = some u → h'.get? b = some u) (heo : ∃ u, h'.get? e = some u) : Un fs ex H (upd H x o) h h' := by
  have hx : ∀ b, H b = none → b ≠ x := fun b n z => by subst z; rw [n] at mu; exact mu
  have hb : ∀ b, H b = none → b ≠ e := fun b n z => by
    subst z
    rcases he with r | r
    · exact hx b n r
    · rw [n] at r; cases r
  have hm : ∀ b u, H b = some u → ¬ Mut (some u) → b ≠ x := fun b u q nm z => by subst z; rw [q] at mu; exact nm mu
  refine ⟨fun b u q n _ _ => k b u (hb b n) q, fun b u q n _ _ => ⟨u.slots, k b u (hb b n) q⟩, fun b u q n _ => by rw [upd_ne (hx b n)]; exact n, fun b u q _ => ?_,
    fun b xs q => by rw [upd_ne (hm b _ q fun z => z)]; exact q, fun b u xs q => by rw [upd_ne (hm b _ q fun z => z)]; exact q, fun b ps q => ⟨#[], by rw [upd_ne (hm b _ q fun z => z), q]; simp⟩⟩
  by_cases hbe : b = e
  · subst hbe; exact heo
  · exact ⟨u, k b u hbe q⟩
end
def trk (h : Heap) (H : Hp) : List Addr := (List.range h.objs.size).filter fun a => (H a).isSome
def hidT (h : Heap) (H : Hp) : Heap := PySem.W.hideAll h (trk h H)
theorem hidT_size (h : Heap) (H : Hp) : (hidT h H).objs.size = h.objs.size := PySem.W.hideAll_size _ _
theorem hidT_get {h : Heap} {H : Hp} {b : Addr} {o : Obj} (e : h.get? b = some o) (n : H b = none) : (hidT h H).get? b = some o :=
  PySem.W.hideAll_get _ e fun hm => by
    have q : (H b).isSome = true := (List.mem_filter.mp hm).2
    rw [n] at q; simp at q
theorem of_hidT {h : Heap} {H : Hp} {b : Addr} {o : Obj} (e : (hidT h H).get? b = some o) : h.get? b = some o ∧ H b = none := by
  have e' : h.get? b = some o := PySem.W.of_hideAll (trk h H) e
  refine ⟨e', ?_⟩
  cases q : H b with
  | none => rfl
  | some x =>
    have hm : b ∈ trk h H := List.mem_filter.mpr ⟨List.mem_range.mpr (Heap.lt_size e'), by simp [q]⟩
    have z : (hidT h H).get? b = none := PySem.W.hideAll_none (trk h H) hm
    rw [z] at e; cases e
def allNews (g h : Heap) (L : Addr) : List (Addr × Obj) := (List.range h.objs.size).filterMap fun a => if a = L ∨ (g.get? a).isSome = true then none else (h.get? a).map fun o => (a, o)
def rest (g h : Heap) (L d : Addr) : List (Addr × Obj) := (allNews g h L).filter fun p => decide (p.1 ≠ d)
end L2
namespace L2
open PySem PySem.Spec PyProof.Rows
structure Mod (K : PySem.W.Frag) (mg : Str → Option Value) (base : Heap) : Prop where
  kin : K.In base
  glob : base.Ns mainGlobals mg
  blt : ∃ mb, base.Ns builtinsNs mb ∧ ∀ x : Str, x ≠ "__name__" → mb x = bootBuiltins x
  nolimit : base.NoLimit
structure Cx where
  prog : Program
  w : World
  K : PySem.W.Frag
  mg : Str → Option Value
  base : Heap
  A : Around
  N : List Str
  s₀ : Shared
  H₀ : Hp
  env : Env
  outer : List Env
  stack : List Env
  ex : List Addr
  fn : Str → Bool
  calm : Bool
  pn : List (Addr × Obj)
  xe : Value → Shared → Prop
def frs (l : List Env) : List Addr := l.filterMap (·.frame)
abbrev Cx.fs (X : Cx) : List Addr := frs X.outer
def Vis (sc : Scope) (x : Str) : Prop := sc.names.lookup x = some .local ∨ sc.names.lookup x = some .cell ∨ sc.names.lookup x = some .free
def Loc (sc : Scope) (x : Str) : Prop := sc.names.lookup x = some .local ∨ sc.names.lookup x = some .cell
def Look (env : Env) (h : Heap) (m : Str → Option Value) (x : Str) (u : Value) : Prop :=
  (env.kindOf x = some .local ∧ m x = some u) ∨ ((env.kindOf x = some .cell ∨ env.kindOf x = some .free) ∧ ∃ c, env.cells.lookup x = some c ∧ h.IsCell c (some u))
structure Cx.Ok (X : Cx) : Prop where
  mod : Mod X.K X.mg X.base
  kind : X.env.scope.kind = .function
  glob : X.env.globals = mainGlobals
  blt : X.env.builtins = builtinsNs
  above : X.s₀.heap.objs.size ≤ X.env.locals
  inj : ∀ x y c, X.env.cells.lookup x = some c → X.env.cells.lookup y = some c → x = y
  has : ∀ x, (X.env.kindOf x = some .cell ∨ X.env.kindOf x = some .free) → ∃ c, X.env.cells.lookup x = some c
  cab : ∀ x c, X.fn x = true → X.env.cells.lookup x = some c → X.s₀.heap.objs.size ≤ c
  hd : X.calm = true → X.A.handled = none
  frames : X.A.frames = some X.stack
  stk : X.stack = X.outer ∨ (X.stack = X.env :: X.outer ∧ X.env.frame = some X.env.locals)
  exf : ∀ b ∈ X.ex, b ≠ X.env.locals ∧ ∀ x c, X.env.cells.lookup x = some c → c ≠ b
  bs : ∀ b o, X.base.get? b = some o → X.s₀.heap.get? b = some o ∧ X.H₀ b = none
  bsz : X.base.objs.size ≤ X.s₀.heap.objs.size
  noex : ∀ b o, X.base.get? b = some o → b ∉ X.ex
  exfs : ∀ b ∈ X.ex, b ∉ X.fs
  funs : X.s₀.heap.FunFrames X.base X.outer
  frf : ∀ b ∈ X.fs, X.H₀ b = none
structure Inv (X : Cx) (pins : List (Addr × Obj)) (σ : List (Option V)) (H : Hp) (s : Shared) : Prop where
  ok : X.Ok
  os : s.os = X.s₀.os
  bare : AllBare s.gens
  base : Un X.fs X.ex X.H₀ H X.s₀.heap s.heap
  loc : ∃ m, s.heap.Ns X.env.locals m ∧ ∀ (i : Nat) (x : Str) (v : V), X.N[i]? = some x → σ[i]? = some (some v) → Vis X.env.scope x → ∃ u, RelV v u ∧ Look X.env s.heap m x u
  cell : ∀ x c, X.env.cells.lookup x = some c → ∃ v, s.heap.IsCell c v
  free : H X.env.locals = none
  freeC : ∀ x c, X.env.cells.lookup x = some c → H c = none
  pin : ∀ p ∈ X.pn ++ pins, s.heap.get? p.1 = some p.2 ∧ H p.1 = none ∧ p.1 ≠ X.env.locals ∧ p.1 ∉ X.fs ∧ ∀ v, p.2.data ≠ .cell v
  hok : HOk X.prog X.w H s.heap
  len : σ.length = X.N.length
section
variable {X : Cx} {pins : List (Addr × Obj)} {σ : List (Option V)} {H H' : Hp} {s : Shared} {h' : Heap}
theorem Cx.Ok.nofr (ok : X.Ok) {b : Addr} {o : Obj} (e : X.base.get? b = some o) : b ∉ X.fs := fun hb => by
  have := (ok.funs.mem hb).1
  rw [e] at this; cases this
theorem Inv.bs (I : Inv X pins σ H s) : ∀ b o, X.base.get? b = some o → s.heap.get? b = some o ∧ H b = none := fun b o e =>
  ⟨I.base.keep b o (I.ok.bs b o e).1 (I.ok.bs b o e).2 (I.ok.nofr e) (I.ok.noex b o e), I.base.free b o (I.ok.bs b o e).1 (I.ok.bs b o e).2 (I.ok.noex b o e)⟩
theorem Inv.bk (I : Inv X pins σ H s) : ∀ b o, X.base.get? b = some o → s.heap.get? b = some o := fun b o e => (I.bs b o e).1
theorem Inv.mod (I : Inv X pins σ H s) : Mod X.K X.mg X.base := I.ok.mod
theorem Inv.kIn (I : Inv X pins σ H s) : X.K.In s.heap := I.ok.mod.kin.keeps I.bk
theorem Inv.lt (I : Inv X pins σ H s) : X.env.locals < s.heap.objs.size := let ⟨_, hn, _⟩ := I.loc; hn.lt
theorem Inv.sz (I : Inv X pins σ H s) : X.s₀.heap.objs.size ≤ s.heap.objs.size := Nat.le_trans I.ok.above (Nat.le_of_lt I.lt)
theorem Inv.nofs (I : Inv X pins σ H s) {a : Addr} (h : s.heap.objs.size ≤ a) : a ∉ X.fs := fun hb => by
  obtain ⟨_, o, ho, _⟩ := I.ok.funs.mem hb
  exact absurd (Nat.lt_of_lt_of_le (Heap.lt_size ho) (Nat.le_trans I.sz h)) (Nat.lt_irrefl _)
theorem Inv.cne (I : Inv X pins σ H s) : ∀ x c, X.env.cells.lookup x = some c → c ≠ X.env.locals := fun x c e z => by
  obtain ⟨v, o, ho, hd⟩ := I.cell x c e
  obtain ⟨m, ⟨o', es, ep, ho', hd', _⟩, _⟩ := I.loc
  rw [z, ho'] at ho; cases ho; rw [hd'] at hd; cases hd
theorem Inv.funs (I : Inv X pins σ H s) : s.heap.FunFrames X.base X.outer := by
  have all : ∀ (l : List Env), (∀ b ∈ frs l, b ∈ X.fs) → X.s₀.heap.FunFrames X.base l → s.heap.FunFrames X.base l := by
    intro l
    induction l with
    | nil => intro _ _; trivial
    | cons env r ih =>
      intro hs hl
      obtain ⟨hk, ⟨L, o, hf, hn, ho, hd⟩, hr⟩ := hl
      have hL : L ∈ X.fs := hs L (by unfold frs; rw [List.filterMap_cons, hf]; exact List.mem_cons_self)
      obtain ⟨sl, e⟩ := I.base.slot L o ho (I.ok.frf L hL) hL fun z => I.ok.exfs L z hL
      exact ⟨hk, ⟨L, _, hf, hn, e, hd⟩, ih (fun b hb => hs b (by unfold frs; rw [List.filterMap_cons, hf]; exact List.mem_cons_of_mem _ hb)) hr⟩
  exact all X.outer (fun _ hb => hb) I.ok.funs
theorem Inv.stack (I : Inv X pins σ H s) : s.heap.FunFrames X.base X.stack := by
  rcases I.ok.stk with e | ⟨e, hf⟩
  · rw [e]; exact I.funs
  · rw [e]
    obtain ⟨m, hn, _⟩ := I.loc
    refine .cons (by rw [I.ok.kind]; decide) hf hn ?_ I.funs
    exact Heap.get?_none_of_le (Nat.le_trans I.ok.bsz I.ok.above)
theorem Inv.stkSub (I : Inv X pins σ H s) : ∀ b ∈ frs X.stack, b ∈ X.env.locals :: X.fs := fun b hb => by
  rcases I.ok.stk with e | ⟨e, hf⟩
  · rw [e] at hb; exact List.mem_cons_of_mem _ hb
  · rw [e] at hb
    unfold frs at hb
    rw [List.filterMap_cons, hf] at hb
    exact hb
theorem Inv.stkFree (I : Inv X pins σ H s) : ∀ b ∈ frs X.stack, H b = none := fun b hb => by
  rcases List.mem_cons.mp (I.stkSub b hb) with e | hb
  · rw [e]; exact I.free
  · obtain ⟨_, o, ho, _⟩ := I.ok.funs.mem hb
    exact I.base.free b o ho (I.ok.frf b hb) fun z => I.ok.exfs b z hb
theorem Inv.step {g' : Array GenState} {t' : Nat} {d' : Drawn} {ch : List Addr} (I : Inv X pins σ H s)
    (hch : ∀ b ∈ ch, (b ∈ X.ex ∨ X.s₀.heap.objs.size ≤ b) ∧ b ≠ X.env.locals ∧ (∀ x c, X.env.cells.lookup x = some c → c ≠ b) ∧ ∀ p ∈ X.pn ++ pins, p.1 ≠ b)
    (keep : ∀ b o, b ≠ X.env.locals → b ∉ X.fs → b ∉ ch → s.heap.get? b = some o → H b = none → h'.get? b = some o)
    (slot : ∀ b o, b ≠ X.env.locals → b ∈ X.fs → b ∉ ch → s.heap.get? b = some o → H b = none → ∃ sl, h'.get? b = some { o with slots := sl }) (free : ∀ b o, b ∉ ch → s.heap.get? b = some o → H b = none → H' b = none)
    (there : ∀ b o, b ∉ ch → s.heap.get? b = some o → ∃ o', h'.get? b = some o')
    (tups : ∀ b xs, H b = some (.tup xs) → H' b = some (.tup xs)) (frzs : ∀ b o u, H b = some (.frz o u) → H' b = some (.frz o u)) (tbls : ∀ b ps, H b = some (.tbl ps) → ∃ more, H' b = some (.tbl (ps ++ more)))
    (ns : ∀ m, s.heap.Ns X.env.locals m → h'.Ns X.env.locals m) (hok : HOk X.prog X.w H' h') (hg : AllBare g') :
    Inv X pins σ H' { s with heap := h', gens := g', drawn := d', toks := t' } := by
  have neL : ∀ b o, X.s₀.heap.get? b = some o → b ≠ X.env.locals := fun b o e => Nat.ne_of_lt (Nat.lt_of_lt_of_le (Heap.lt_size e) I.ok.above)
  have neC : ∀ b o, X.s₀.heap.get? b = some o → b ∉ X.ex → b ∉ ch := fun b o e hx hb => by
    rcases (hch b hb).1 with z | z
    · exact hx z
    · exact absurd (Nat.lt_of_lt_of_le (Heap.lt_size e) z) (Nat.lt_irrefl _)
  have cellK : ∀ x c, X.env.cells.lookup x = some c → ∀ v, s.heap.IsCell c v → h'.IsCell c v := fun x c e v ⟨o, ho, hd⟩ => by
    have nch : c ∉ ch := fun z => (hch c z).2.2.1 x c e rfl
    by_cases hc : c ∈ X.fs
    · obtain ⟨sl, q⟩ := slot c o (I.cne x c e) hc nch ho (I.freeC x c e)
      exact ⟨_, q, hd⟩
    · exact ⟨o, keep c o (I.cne x c e) hc nch ho (I.freeC x c e), hd⟩
  refine ⟨I.ok, I.os, hg, ⟨fun b o e n hb hx => ?_, fun b o e n hb hx => ?_, fun b o e n hx => ?_, fun b o e hx => ?_, fun b xs e => tups b xs (I.base.tups b xs e), fun b o xs e => frzs b o xs (I.base.frzs b o xs e), fun b ps e => ?_⟩, ?_, fun x c e => ?_, ?_, fun x c e => ?_, fun p hp => ?_, hok, I.len⟩
  · exact keep b o (neL b o e) hb (neC b o e hx) (I.base.keep b o e n hb hx) (I.base.free b o e n hx)
  · obtain ⟨sl, e1⟩ := I.base.slot b o e n hb hx
    obtain ⟨sl', e2⟩ := slot b _ (neL b o e) hb (neC b o e hx) e1 (I.base.free b o e n hx)
    exact ⟨sl', e2⟩
  · obtain ⟨o', e1⟩ := I.base.there b o e hx
    exact free b o' (neC b o e hx) e1 (I.base.free b o e n hx)
  · obtain ⟨o', e1⟩ := I.base.there b o e hx
    exact there b o' (neC b o e hx) e1
  · obtain ⟨m1, e1⟩ := I.base.tbls b ps e
    obtain ⟨m2, e2⟩ := tbls b _ e1
    exact ⟨m1 ++ m2, by rw [e2, Array.append_assoc]⟩
  · obtain ⟨m, hn, hl⟩ := I.loc
    refine ⟨m, ns m hn, fun i x v e1 e2 e3 => ?_⟩
    obtain ⟨u, r, l⟩ := hl i x v e1 e2 e3
    refine ⟨u, r, ?_⟩
    rcases l with l | ⟨k, c, e, z⟩
    · exact .inl l
    · exact .inr ⟨k, c, e, cellK x c e _ z⟩
  · obtain ⟨v, z⟩ := I.cell x c e
    exact ⟨v, cellK x c e v z⟩
  · obtain ⟨m, ⟨o, _, _, ho, _⟩, _⟩ := I.loc
    exact free _ o (fun z => (hch _ z).2.1 rfl) ho I.free
  · obtain ⟨v, o, ho, hd⟩ := I.cell x c e
    exact free c o (fun z => (hch c z).2.2.1 x c e rfl) ho (I.freeC x c e)
  · obtain ⟨e, n, ne, nf, d⟩ := I.pin p hp
    have nch : p.1 ∉ ch := fun z => (hch p.1 z).2.2.2 p hp rfl
    exact ⟨keep p.1 p.2 ne nf nch e n, free p.1 p.2 nch e n, ne, nf, d⟩
theorem Inv.un {t' : Nat} (I : Inv X pins σ H s) (u : Un X.fs [] H H' s.heap h') (hok : HOk X.prog X.w H' h') : Inv X pins σ H' { s with heap := h', toks := t' } := by
  obtain ⟨m, ⟨o, es, ep, ho, r⟩, _⟩ := id I.loc
  obtain ⟨sl, hL⟩ := u.any ho I.free (by simp)
  exact I.step (g' := s.gens) (d' := s.drawn) (ch := []) (fun _ z => nomatch z) (fun b o _ hb _ e n => u.keep b o e n hb (by simp)) (fun b o _ hb _ e n => u.slot b o e n hb (by simp)) (fun b o _ e n => u.free b o e n (by simp)) (fun b o _ e => u.there b o e (by simp)) u.tups u.frzs u.tbls (fun m' hm => by
    obtain ⟨o', es', ep', ho', r'⟩ := hm
    rw [ho] at ho'; cases ho'
    exact ⟨_, es', ep', hL, r'⟩) hok I.bare
theorem Inv.call {g' : Array GenState} {t' : Nat} {d' : Drawn} {ch : List Addr} (I : Inv X pins σ H s) (u : Un (frs X.stack) ch H H' s.heap h') (hok : HOk X.prog X.w H' h') (hg : AllBare g')
    (hch : ∀ b ∈ ch, (b ∈ X.ex ∨ X.s₀.heap.objs.size ≤ b) ∧ b ≠ X.env.locals ∧ (∀ x c, X.env.cells.lookup x = some c → c ≠ b) ∧ ∀ p ∈ X.pn ++ pins, p.1 ≠ b) :
    Inv X pins σ H' { s with heap := h', gens := g', drawn := d', toks := t' } := by
  obtain ⟨m, ⟨o, es, ep, ho, r⟩, _⟩ := id I.loc
  obtain ⟨sl, hL⟩ := u.any ho I.free fun z => (hch _ z).2.1 rfl
  exact I.step (ch := ch) hch (fun b o hL hb hc e n => u.keep b o e n (fun z => (List.mem_cons.mp (I.stkSub b z)).elim hL hb) hc) (fun b o _ _ hc e n => u.any e n hc) (fun b o hc e n => u.free b o e n hc) (fun b o hc e => u.there b o e hc) u.tups u.frzs u.tbls (fun m' hm => by
    obtain ⟨o', es', ep', ho', r'⟩ := hm
    rw [ho] at ho'; cases ho'
    exact ⟨_, es', ep', hL, r'⟩) hok hg
theorem Inv.turned {t' : Nat} {it : Addr} (I : Inv X pins σ H s) (k : ∀ b o, b ≠ it → s.heap.get? b = some o → h'.get? b = some o) (hn : H it = none) (hL : it ≠ X.env.locals)
    (h1 : it ∈ X.ex ∨ X.s₀.heap.objs.size ≤ it) (h2 : ∀ x c, X.env.cells.lookup x = some c → c ≠ it) (h3 : ∀ p ∈ X.pn ++ pins, p.1 ≠ it) : Inv X pins σ H { s with heap := h', toks := t' } := by
  have nit : ∀ b u, H b = some u → b ≠ it := fun b u e z => by rw [z, hn] at e; cases e
  refine I.step (g' := s.gens) (d' := s.drawn) (ch := [it]) (fun b hb => ?_) (fun b o _ _ hc e _ => k b o (fun z => hc (by simp [z])) e) (fun b o _ _ hc e _ => ⟨o.slots, k b o (fun z => hc (by simp [z])) e⟩) (fun _ _ _ _ n => n)
    (fun b o hc e => ⟨o, k b o (fun z => hc (by simp [z])) e⟩) (fun _ _ e => e) (fun _ _ _ e => e) (fun b ps e => ⟨#[], by rw [e]; simp⟩) (fun m hm => ?_) (fun b u e => ?_) I.bare
  · have e : b = it := by simpa using hb
    subst e
    exact ⟨h1, hL, h2, h3⟩
  · obtain ⟨o, es, ep, ho, r⟩ := hm
    exact ⟨o, es, ep, k _ o (Ne.symm hL) ho, r⟩
  · refine (I.hok b u e).stay (fun c v hc q => k c v ?_ q) (fun _ q => q) fun _ _ q => q
    rcases hc with z | z
    · rw [z]; exact nit b u e
    · exact nit c _ z
theorem Inv.tok (I : Inv X pins σ H s) (t : Nat) : Inv X pins σ H { s with toks := t } := I.un (h' := s.heap) (t' := t) Un.refl I.hok
theorem Inv.kept {t' : Nat} (I : Inv X pins σ H s) (k : ∀ b u, s.heap.get? b = some u → h'.get? b = some u) : Inv X pins σ H { s with heap := h', toks := t' } := I.un (Un.kept k) (I.hok.kept k)
theorem Inv.laid {a : Addr} {o : HO} {t' : Nat} (I : Inv X pins σ H s) (k : ∀ b u, s.heap.get? b = some u → h'.get? b = some u) (hp : s.heap.objs.size ≤ a) (new : ObjOk X.prog X.w (upd H a o) h' a o) :
    Inv X pins σ (upd H a o) { s with heap := h', toks := t' } := I.un (Un.laid k hp (I.hok.fresh hp)) (I.hok.laid k hp new)
theorem Inv.write {x e : Addr} {o : HO} {t' : Nat} (I : Inv X pins σ H s) (mu : Mut (H x)) (he : e = x ∨ H e = some (.own x)) (k : ∀ b u, b ≠ e → s.heap.get? b = some u → h'.get? b = some u) (heo : ∃ u, h'.get? e = some u)
    (new : ObjOk X.prog X.w (upd H x o) h' x o) : Inv X pins σ (upd H x o) { s with heap := h', toks := t' } := I.un (Un.write mu he k heo) (I.hok.write mu he k heo new)
theorem Inv.weak {σ' : List (Option V)} (I : Inv X pins σ H s) (hl : σ'.length = σ.length) (w : ∀ (i : Nat) v, σ'[i]? = some (some v) → σ[i]? = some (some v)) : Inv X pins σ' H s :=
  ⟨I.ok, I.os, I.bare, I.base, let ⟨m, hn, hl'⟩ := I.loc; ⟨m, hn, fun i x v e1 e2 e3 => hl' i x v e1 (w i v e2) e3⟩, I.cell, I.free, I.freeC, I.pin, I.hok, hl.trans I.len⟩
theorem Inv.pins_of {pins' : List (Addr × Obj)} (I : Inv X pins σ H s) (h : ∀ p ∈ pins', s.heap.get? p.1 = some p.2 ∧ H p.1 = none ∧ p.1 ≠ X.env.locals ∧ p.1 ∉ X.fs ∧ ∀ v, p.2.data ≠ .cell v) : Inv X pins' σ H s :=
  ⟨I.ok, I.os, I.bare, I.base, I.loc, I.cell, I.free, I.freeC, fun p hp => (List.mem_append.mp hp).elim (fun z => I.pin p (List.mem_append_left _ z)) (h p), I.hok, I.len⟩
theorem nodup_ix {N : List Str} (hN : N.Nodup) {i j : Nat} {x : Str} (a : N[i]? = some x) (b : N[j]? = some x) : i = j := by
  obtain ⟨h1, e1⟩ := List.getElem?_eq_some_iff.mp a
  obtain ⟨h2, e2⟩ := List.getElem?_eq_some_iff.mp b
  exact (List.getElem_inj hN).mp (e1.trans e2.symm)
theorem store_ok2 {M : Model} {A : Around} {E : Value → Shared → Prop} {i : Nat} {x : Str} {v : V} {u : Value} {Q : Unit → Shared → Prop} (I : Inv X pins σ H s) (hN : X.N.Nodup) (hi : X.N[i]? = some x) (hx : Loc X.env.scope x) (r : RelV v u)
    (h : ∀ s', Inv X pins (σ.set i (some v)) H s' → (∃ a, Heap.SameBut a s.heap s'.heap ∧ (a = X.env.locals ∨ X.env.cells.lookup x = some a)) → Q () s') (hf : X.fn x = true ∨ X.env.scope.names.lookup x = some .local := by first | exact .inl rfl | exact .inr rfl | assumption) : wpAny M A (storeName X.env x u) Q E s := by
  obtain ⟨m, hn, hl⟩ := id I.loc
  have hcls : (X.env.scope.kind == .class || (X.env.scope.kind == .module && X.env.locals != X.env.globals)) = false := by rw [I.ok.kind]; rfl
  have hiσ : i < σ.length := by rw [I.len]; exact (List.getElem?_eq_some_iff.mp hi).1
  have cne := I.cne
  have tracked : ∀ {a : Addr} {h' : Heap}, (∃ o, s.heap.get? a = some o ∧ H a = none) → Heap.SameBut a s.heap h' → HOk X.prog X.w H h' := fun {a h'} ha hs b ob e => by
    obtain ⟨_, _, hfree⟩ := ha
    refine (I.hok b ob e).stay (fun c w' hc q => (hs.2 c ?_).trans q) (fun _ q => q) fun _ _ q => q
    rintro rfl
    rcases hc with rfl | hc
    · rw [hfree] at e; cases e
    · rw [hfree] at hc; cases hc
  rcases hx with hk | hk
  · refine wpAny_storeName_local hk hn (fun h' hn' hs => ?_) hcls
    obtain ⟨oL, _, _, hoL, _⟩ := id hn
    refine h _ ⟨I.ok, I.os, I.bare, ⟨fun b o e n hb hx => ?_, fun b o e n hb hx => ?_, I.base.free, fun b o e hx => ?_, I.base.tups, I.base.frzs, I.base.tbls⟩, ⟨_, hn', fun j y v' e1 e2 e3 => ?_⟩, fun y c e => ?_, I.free, I.freeC, fun p hp => ?_, tracked ⟨oL, hoL, I.free⟩ hs, by simpa using I.len⟩ ⟨_, hs, .inl rfl⟩
    · exact (hs.2 b (Nat.ne_of_lt (Nat.lt_of_lt_of_le (Heap.lt_size e) I.ok.above))).trans (I.base.keep b o e n hb hx)
    · obtain ⟨sl, e1⟩ := I.base.slot b o e n hb hx
      exact ⟨sl, (hs.2 b (Nat.ne_of_lt (Nat.lt_of_lt_of_le (Heap.lt_size e) I.ok.above))).trans e1⟩
    · obtain ⟨o', e1⟩ := I.base.there b o e hx
      exact ⟨o', (hs.2 b (Nat.ne_of_lt (Nat.lt_of_lt_of_le (Heap.lt_size e) I.ok.above))).trans e1⟩
    · by_cases hj : j = i
      · subst hj
        rw [hi] at e1; cases e1
        rw [List.getElem?_set_self hiσ] at e2
        cases e2
        exact ⟨u, r, .inl ⟨hk, by simp⟩⟩
      · rw [List.getElem?_set_ne (Ne.symm hj)] at e2
        obtain ⟨u', r', q⟩ := hl j y v' e1 e2 e3
        refine ⟨u', r', ?_⟩
        rcases q with ⟨k, e⟩ | ⟨k, c, e, z⟩
        · refine .inl ⟨k, ?_⟩
          have : y ≠ x := fun e => hj (nodup_ix hN e1 (e ▸ hi))
          simp [this, e]
        · exact .inr ⟨k, c, e, z.sameBut hs (cne y c e)⟩
    · obtain ⟨w', z⟩ := I.cell y c e
      exact ⟨w', z.sameBut hs (cne y c e)⟩
    · obtain ⟨e, n, ne, nf, d⟩ := I.pin p hp
      exact ⟨(hs.2 p.1 ne).trans e, n, ne, nf, d⟩
  · have hfn : X.fn x = true := by
      rcases hf with z | z
      · exact z
      · rw [z] at hk; cases hk
    obtain ⟨c, hc⟩ := I.ok.has x (.inl hk)
    obtain ⟨w', z⟩ := I.cell x c hc
    refine wpAny_storeName_cell I.ok.kind hk hc z (fun h' hc' hs => ?_)
    obtain ⟨oc, hoc, hocd⟩ := id z
    refine h { s with heap := h' } ⟨I.ok, I.os, I.bare, ⟨fun b o e n hb hx => ?_, fun b o e n hb hx => ?_, I.base.free, fun b o e hx => ?_, I.base.tups, I.base.frzs, I.base.tbls⟩, ⟨m, hn.sameBut hs (Ne.symm (cne x c hc)), fun j y v' e1 e2 e3 => ?_⟩, fun y c' e => ?_, I.free, I.freeC, fun p hp => ?_, tracked ⟨oc, hoc, I.freeC x c hc⟩ hs, by simpa using I.len⟩ ⟨c, hs, .inr hc⟩
    · exact (hs.2 b (Nat.ne_of_lt (Nat.lt_of_lt_of_le (Heap.lt_size e) (I.ok.cab x c hfn hc)))).trans (I.base.keep b o e n hb hx)
    · obtain ⟨sl, e1⟩ := I.base.slot b o e n hb hx
      exact ⟨sl, (hs.2 b (Nat.ne_of_lt (Nat.lt_of_lt_of_le (Heap.lt_size e) (I.ok.cab x c hfn hc)))).trans e1⟩
    · obtain ⟨o', e1⟩ := I.base.there b o e hx
      exact ⟨o', (hs.2 b (Nat.ne_of_lt (Nat.lt_of_lt_of_le (Heap.lt_size e) (I.ok.cab x c hfn hc)))).trans e1⟩
    · by_cases hj : j = i
      · subst hj
        rw [hi] at e1; cases e1
        rw [List.getElem?_set_self hiσ] at e2
        cases e2
        exact ⟨u, r, .inr ⟨.inl hk, c, hc, hc'⟩⟩
      · rw [List.getElem?_set_ne (Ne.symm hj)] at e2
        obtain ⟨u', r', q⟩ := hl j y v' e1 e2 e3
        refine ⟨u', r', ?_⟩
        rcases q with q | ⟨k, c', e, z'⟩
        · exact .inl q
        · refine .inr ⟨k, c', e, z'.sameBut hs ?_⟩
          rintro rfl
          exact hj (nodup_ix hN e1 (I.ok.inj _ _ _ e hc ▸ hi))
    · by_cases hcc : c' = c
      · subst hcc; exact ⟨_, hc'⟩
      · obtain ⟨w2, z2⟩ := I.cell y c' e
        exact ⟨w2, z2.sameBut hs hcc⟩
    · obtain ⟨e, n, ne, nf, d⟩ := I.pin p hp
      refine ⟨(hs.2 p.1 ?_).trans e, n, ne, nf, d⟩
      intro q
      rw [q, hoc] at e
      have q' : oc = p.2 := Option.some.inj e
      exact d w' (by rw [← q']; exact hocd)
theorem store_ok {M : Model} {A : Around} {E : Value → Shared → Prop} {i : Nat} {x : Str} {v : V} {u : Value} {Q : Unit → Shared → Prop} (I : Inv X pins σ H s) (hN : X.N.Nodup) (hi : X.N[i]? = some x) (hx : Loc X.env.scope x) (r : RelV v u)
    (h : ∀ s', Inv X pins (σ.set i (some v)) H s' → Q () s') (hf : X.fn x = true ∨ X.env.scope.names.lookup x = some .local := by first | exact .inl rfl | exact .inr rfl | assumption) : wpAny M A (storeName X.env x u) Q E s :=
  store_ok2 I hN hi hx r (fun s' I' _ => h s' I') hf
theorem Inv.call' {s' : Shared} {ch : List Addr} (I : Inv X pins σ H s) (ho : s'.os = s.os) (u : Un (frs X.stack) ch H H' s.heap s'.heap) (hok : HOk X.prog X.w H' s'.heap) (hg : AllBare s'.gens)
    (hch : ∀ b ∈ ch, (b ∈ X.ex ∨ X.s₀.heap.objs.size ≤ b) ∧ b ≠ X.env.locals ∧ (∀ x c, X.env.cells.lookup x = some c → c ≠ b) ∧ ∀ p ∈ X.pn ++ pins, p.1 ≠ b) : Inv X pins σ H' s' := by
  obtain ⟨h', g', d', t', o'⟩ := s'
  have e : o' = s.os := ho
  subst e
  exact I.call (g' := g') (t' := t') (d' := d') u hok hg hch
end
abbrev XK := Value → Option Addr → Hp → Prop
abbrev St := List (Option V)
abbrev VK := V → Hp → Prop
abbrev TE := St → Hp → VK → Prop
abbrev TT := St → Hp → (Bool → Hp → Prop) → Prop
abbrev TA := St → Hp → (List V → Hp → Prop) → Prop
structure Ends where
  nx : St → Hp → Prop
  rt : VK
  bk : St → Hp → Prop := fun _ _ => False
  ct : St → Hp → Prop := fun _ _ => False
abbrev TS := Ends → St → Hp → Prop
def EP (X : Cx) (pins : List (Addr × Obj)) (σ : St) (Q : VK) (u : Value) (s' : Shared) : Prop := ∃ v H', Inv X pins σ H' s' ∧ RelV v u ∧ Q v H'
def TP (X : Cx) (pins : List (Addr × Obj)) (σ : St) (Q : Bool → Hp → Prop) (b : Bool) (s' : Shared) : Prop := ∃ H', Inv X pins σ H' s' ∧ Q b H'
def AP (X : Cx) (pins : List (Addr × Obj)) (σ : St) (Q : List V → Hp → Prop) (us : List Value) (s' : Shared) : Prop := ∃ vs H', Inv X pins σ H' s' ∧ Vals vs us ∧ Q vs H'
def SP (X : Cx) (pins : List (Addr × Obj)) (D : Ends) (f : Flow) (s' : Shared) : Prop :=
  match f with
  | .next => ∃ σ' H', Inv X pins σ' H' s' ∧ D.nx σ' H'
  | .brk => ∃ σ' H', Inv X pins σ' H' s' ∧ D.bk σ' H'
  | .cont => ∃ σ' H', Inv X pins σ' H' s' ∧ D.ct σ' H'
  | .ret u => ∃ v σ' H', Inv X pins σ' H' s' ∧ RelV v u ∧ D.rt v H'
def PE (X : Cx) (e : Expr) (t : TE) : Prop :=
  ∀ (pins : List (Addr × Obj)) (s : Shared) (σ : St) (H : Hp) (Q : VK), Inv X pins σ H s → t σ H Q → wpAny (model X.prog X.w) X.A (eval e X.env) (EP X pins σ Q) X.xe s
def PT (X : Cx) (e : Expr) (t : TT) : Prop :=
  ∀ (pins : List (Addr × Obj)) (s : Shared) (σ : St) (H : Hp) (Q : Bool → Hp → Prop), Inv X pins σ H s → t σ H Q → wpAny (model X.prog X.w) X.A (isTrue e X.env (eval e X.env)) (TP X pins σ Q) X.xe s
def PW (X : Cx) (e : Expr) (t : TT) : Prop :=
  ∀ (whole : Sem Value) (pins : List (Addr × Obj)) (s : Shared) (σ : St) (H : Hp) (Q : Bool → Hp → Prop), Inv X pins σ H s → t σ H Q → wpAny (model X.prog X.w) X.A (isTrue e X.env whole) (TP X pins σ Q) X.xe s
theorem PW.pt {X : Cx} {e : Expr} {t : TT} (h : PW X e t) : PT X e t := h _
def PA (X : Cx) (es : List Expr) (t : TA) : Prop :=
  ∀ (pos : Pos) (pins : List (Addr × Obj)) (s : Shared) (σ : St) (H : Hp) (Q : List V → Hp → Prop), Inv X pins σ H s → t σ H Q → wpAny (model X.prog X.w) X.A (spliced (backTo pos (starEach es X.env))) (AP X pins σ Q) X.xe s
def PS (X : Cx) (st : Stmt) (t : TS) : Prop :=
  ∀ (pins : List (Addr × Obj)) (s : Shared) (σ : St) (H : Hp) (D : Ends), Inv X pins σ H s → t D σ H → wpAny (model X.prog X.w) X.A (exec st X.env) (SP X pins D) X.xe s
def PSs (X : Cx) (st : List Stmt) (t : TS) : Prop :=
  ∀ (pins : List (Addr × Obj)) (s : Shared) (σ : St) (H : Hp) (D : Ends), Inv X pins σ H s → t D σ H → wpAny (model X.prog X.w) X.A (execs st X.env) (SP X pins D) X.xe s
theorem thn {α : Type} {t : Sem α} {Q Q' : α → Shared → Prop} {M : Model} {A : Around} {E : Value → Shared → Prop} {s : Shared} (h : wpAny M A t Q E s) (hQ : ∀ a s, Q a s → Q' a s) : wpAny M A t Q' E s := wpAny_mono h hQ fun _ _ x => x
end L2
namespace L2
open PySem PySem.Spec PyProof.Rows
section
variable {X : Cx}
def tVar (i : Nat) : TE := fun σ H Q => ∃ v, σ[i]? = some (some v) ∧ Q v H
def tC (v : V) : TE := fun _ H Q => Q v H
theorem pe_var {i : Nat} {x : Str} {pos : Pos} (hN : X.N[i]? = some x) (hv : Vis X.env.scope x) (hd : (x == ("__debug__" : Str)) = false := by decide) (hcd : (x == ("__classdict__" : Str)) = false := by decide) : PE X (.Name x pos) (tVar i) := by
  intro pins s σ H Q I h
  obtain ⟨v, e, h⟩ := h
  obtain ⟨m, hn, hl⟩ := I.loc
  obtain ⟨u, r, l⟩ := hl i x v hN e hv
  have fin : EP X pins σ Q u s := ⟨v, H, I, r, h⟩
  rcases l with ⟨hk, hm⟩ | ⟨hk, c, hc, hcell⟩
  · exact wpAny_Name (wpAny_loadName_local I.ok.kind hk hn hm fin) hd
  · rcases hk with hk | hk
    · exact wpAny_Name (wpAny_loadName_cell I.ok.kind hk hc hcell fin) hd
    · exact wpAny_Name (wpAny_loadName_free I.ok.kind hk hc hcell fin hcd) hd
theorem pe_int {i j pos} : PE X (.Constant (.int i) j pos) (tC (.int i)) := fun _ _ _ H _ I h => wpAny_Constant_int ⟨.int i, H, I.tok _, ⟨_, rfl⟩, h⟩
theorem pe_bl {b j pos} : PE X (.Constant (.bool b) j pos) (tC (.bl b)) := fun _ _ _ H _ I h => Constant_bool ⟨.bl b, H, I, rfl, h⟩
theorem pe_non {j pos} : PE X (.Constant .none j pos) (tC .non) := fun _ _ _ H _ I h => Constant_none ⟨.non, H, I, rfl, h⟩
theorem pe_str {x j pos} : PE X (.Constant (.str x) j pos) (tC (.str x)) := fun _ _ _ H _ I h => Calls.Constant_str ⟨.str x, H, I.tok _, ⟨_, rfl⟩, h⟩
def Gl (X : Cx) (x : Str) : Prop := X.env.kindOf x = some .globalImplicit
theorem ld_glob {E : Value → Shared → Prop} {pins : List (Addr × Obj)} {s : Shared} {σ : St} {H : Hp} {x : Str} {u : Value} {pos : Pos} {Q : Value → Shared → Prop} (I : Inv X pins σ H s) (hg : Gl X x) (hm : X.mg x = some u) (h : Q u s)
    (hd : (x == ("__debug__" : Str)) = false := by decide) : wpAny (model X.prog X.w) X.A (eval (.Name x pos) X.env) Q E s :=
  Calls.Name_function_global I.ok.kind hg (Calls.loadGlobal_global (by rw [I.ok.glob]; exact I.mod.glob.keeps I.bk) hm h) hd
theorem ld_blt {E : Value → Shared → Prop} {pins : List (Addr × Obj)} {s : Shared} {σ : St} {H : Hp} {x : Str} {u : Value} {pos : Pos} {Q : Value → Shared → Prop} (I : Inv X pins σ H s) (hg : Gl X x) (hm : X.mg x = none) (hv : bootBuiltins x = some u) (h : Q u s)
    (hn : x ≠ "__name__" := by decide) (hd : (x == ("__debug__" : Str)) = false := by decide) : wpAny (model X.prog X.w) X.A (eval (.Name x pos) X.env) Q E s := by
  obtain ⟨mb, h1, h2⟩ := I.mod.blt
  exact Calls.Name_function_global I.ok.kind hg (Calls.loadGlobal_builtin (by rw [I.ok.glob]; exact I.mod.glob.keeps I.bk) hm (by rw [I.ok.blt]; exact h1.keeps I.bk) ((h2 x hn).trans hv) h) hd
theorem pe_glob {x : Str} {v : V} {u : Value} {pos : Pos} (hg : Gl X x) (hm : X.mg x = some u) (r : RelV v u) (hd : (x == ("__debug__" : Str)) = false := by decide) : PE X (.Name x pos) (tC v) :=
  fun _ _ _ H _ I h => ld_glob I hg hm ⟨v, H, I, r, h⟩ hd
theorem pe_bltn {x : Str} {v : V} {u : Value} {pos : Pos} (hg : Gl X x) (hm : X.mg x = none) (hv : bootBuiltins x = some u) (r : RelV v u) (hn : x ≠ "__name__" := by decide) (hd : (x == ("__debug__" : Str)) = false := by decide) : PE X (.Name x pos) (tC v) :=
  fun _ _ _ H _ I h => ld_blt I hg hm hv ⟨v, H, I, r, h⟩ hn hd
variable {a b : Expr} {ta tb : TE} {pos : Pos}
def tB (t : TE) : TT := fun σ H Q => t σ H fun x H1 => ∃ c, x = .bl c ∧ Q c H1
theorem pt_val {e : Expr} {t : TE} (h : PE X e t) (he : ∀ whole, isTrue e X.env whole = (do let v ← whole; standAt e.pos; holding [v] (truthy v)) := by intro _; rfl) : PT X e (tB t) := by
  intro pins s σ H Q I hw
  refine isTrue_plain (thn (h pins s σ H _ I hw) fun v s1 ⟨x, H1, I1, r1, q1⟩ => ?_) (he _)
  obtain ⟨d, rfl, q⟩ := q1
  cases r1
  exact wpAny_truthy_bool ⟨H1, I1, q⟩
variable {tA tB' : TT} {rest : List Expr}
def tAnd (t u : TT) : TT := fun σ H Q => t σ H fun c H1 => if c = true then u σ H1 Q else Q false H1
def tOr (t u : TT) : TT := fun σ H Q => t σ H fun c H1 => if c = true then Q true H1 else u σ H1 Q
def tNot (t : TT) : TT := fun σ H Q => t σ H fun c H1 => Q (!c) H1
theorem pw_and1 (ha : PT X a tA) : PW X (.BoolOp .And [a] pos) tA := by
  intro wh pins s σ H Q I h
  refine isTrue_and (thn (ha pins s σ H Q I h) fun c s1 e => ?_)
  cases c with
  | true => exact isTrue_and_nil e
  | false => exact e
theorem pw_or1 (ha : PT X a tA) : PW X (.BoolOp .Or [a] pos) tA := by
  intro wh pins s σ H Q I h
  refine isTrue_or (thn (ha pins s σ H Q I h) fun c s1 e => ?_)
  cases c with
  | false => exact isTrue_or_nil e
  | true => exact e
theorem pw_and (ha : PT X a tA) (hb : PW X (.BoolOp .And (b :: rest) pos) tB') : PW X (.BoolOp .And (a :: b :: rest) pos) (tAnd tA tB') := by
  intro wh pins s σ H Q I h
  refine isTrue_and (thn (ha pins s σ H _ I h) fun c s1 ⟨H1, I1, q1⟩ => ?_)
  cases c with
  | true => exact hb wh pins s1 σ H1 Q I1 q1
  | false => exact ⟨H1, I1, q1⟩
theorem pw_or (ha : PT X a tA) (hb : PW X (.BoolOp .Or (b :: rest) pos) tB') : PW X (.BoolOp .Or (a :: b :: rest) pos) (tOr tA tB') := by
  intro wh pins s σ H Q I h
  refine isTrue_or (thn (ha pins s σ H _ I h) fun c s1 ⟨H1, I1, q1⟩ => ?_)
  cases c with
  | true => exact ⟨H1, I1, q1⟩
  | false => exact hb wh pins s1 σ H1 Q I1 q1
theorem pt_not (ha : PT X a tA) : PT X (.UnaryOp .Not a pos) (tNot tA) := by
  intro pins s σ H Q I h
  exact isTrue_not (ha pins s σ H (fun c H1 => Q (!c) H1) I h)
def tAndV (ta tb : TE) : TE := fun σ H Q => ta σ H fun x H1 => ∃ c, x = .bl c ∧ if c = true then tb σ H1 Q else Q (.bl false) H1
theorem pe_one {op} {t : TE} (h : PE X a t) : PE X (.BoolOp op [a] pos) t := fun pins s σ H Q I hw => BoolOp_one (h pins s σ H Q I hw)
theorem pe_and (ha : PE X a ta) (hb : PE X (.BoolOp .And (b :: rest) pos) tb) : PE X (.BoolOp .And (a :: b :: rest) pos) (tAndV ta tb) := by
  intro pins s σ H Q I h
  refine BoolOp_and (thn (ha pins s σ H _ I h) fun v s1 ⟨x, H1, I1, r1, q1⟩ => ?_)
  obtain ⟨c, rfl, q1⟩ := q1
  cases r1
  refine wpAny_truthy_bool ?_
  cases c with
  | true => exact hb pins s1 σ H1 Q I1 q1
  | false => exact ⟨.bl false, H1, I1, rfl, q1⟩
def tIf (t : TT) (ta tb : TE) : TE := fun σ H Q => t σ H fun c H1 => if c = true then ta σ H1 Q else tb σ H1 Q
theorem pe_ifExp {c : Expr} (hc : PT X c tA) (ha : PE X a ta) (hb : PE X b tb) : PE X (.IfExp c a b pos) (tIf tA ta tb) := by
  intro pins s σ H Q I h
  refine wpAny_IfExp (thn (hc pins s σ H _ I h) fun d s1 ⟨H1, I1, q1⟩ => ?_)
  cases d with
  | true => exact ha pins s1 σ H1 Q I1 q1
  | false => exact hb pins s1 σ H1 Q I1 q1
end
end L2
namespace L2
open PySem PySem.Spec PyProof.Rows
def SqL (K : PySem.W.Frag) (H : Hp) (a : Addr) (xs : List V) : Prop :=
  Rd H a (.lst xs) ∨
    ∃ (o : Obj) (its : Array Value) (n : Nat), K.lookup a = some o ∧ o.cls = .type "list" ∧ o.dict = none ∧ o.data = .seq its n ∧ its.size ≤ sizeLine ∧ Vals xs its.toList
def SqT (K : PySem.W.Frag) (H : Hp) (a : Addr) (xs : List V) : Prop :=
  Rd H a (.tup xs) ∨
    ∃ (o : Obj) (its : Array Value) (n : Nat), K.lookup a = some o ∧ o.cls = .type "tuple" ∧ o.data = .seq its n ∧ its.size ≤ sizeLine ∧ Vals xs its.toList
def absV : Value → Option V
  | .none => some .non
  | .bool b => some (.bl b)
  | .int i _ => some (.int i)
  | .str x _ => some (.str x)
  | .bytes b _ => some (.byt b)
  | .float b _ => some (.flt b)
  | .ref a => some (.ref a)
  | .type n => some (.ty n)
  | _ => none
theorem RelV.abs {x : V} {u : Value} (r : RelV x u) : absV u = some x := by
  cases x with
  | non => cases r; rfl
  | bl _ => cases r; rfl
  | int _ => obtain ⟨t, rfl⟩ := r; rfl
  | str _ => obtain ⟨t, rfl⟩ := r; rfl
  | byt _ => obtain ⟨t, rfl⟩ := r; rfl
  | flt _ => obtain ⟨t, rfl⟩ := r; rfl
  | ref _ => cases r; rfl
  | ty _ => cases r; rfl
theorem RelV.inj {x y : V} {u : Value} (r : RelV x u) (q : RelV y u) : x = y := Option.some.inj (r.abs.symm.trans q.abs)
theorem Vals.inj : ∀ {xs ys : List V} {us : List Value}, Vals xs us → Vals ys us → xs = ys
  | _, _, _, .nil, .nil => rfl
  | _, _, _, .cons r t, .cons r' t' => by rw [r.inj r', Vals.inj t t']
section
variable {X : Cx} {pins : List (Addr × Obj)} {σ : St} {H : Hp} {s : Shared} {a : Addr} {xs ys : List V}
theorem SqL.of {K : PySem.W.Frag} (h : H a = some (.lst xs)) : SqL K H a xs := .inl (.inl h)
theorem SqT.of {K : PySem.W.Frag} (h : H a = some (.tup xs)) : SqT K H a xs := .inl (.inl h)
theorem Inv.list (I : Inv X pins σ H s) (h : SqL X.K H a xs) : ∃ its : List Value, Vals xs its ∧ PlainL s.heap a its.toArray ∧ xs.length ≤ sizeLine := by
  rcases h with h | ⟨o, its, n, hk, hc, hd, hs, hz, r⟩
  · obtain ⟨z, its, n, r, e⟩ := h.ok I.hok
    exact ⟨its, r, ⟨_, n, e, rfl, rfl, rfl⟩, z⟩
  · refine ⟨its.toList, r, ⟨o, n, I.kIn a o hk, hc, hd, by simpa using hs⟩, ?_⟩
    have e := r.length
    simp only [Array.length_toList] at e
    omega
theorem Inv.tuple (I : Inv X pins σ H s) (h : SqT X.K H a xs) : ∃ its : List Value, Vals xs its ∧ IsTup s.heap a its.toArray ∧ xs.length ≤ sizeLine := by
  rcases h with h | ⟨o, its, n, hk, hc, hs, hz, r⟩
  · obtain ⟨z, its, r, p⟩ := h.ok I.hok
    exact ⟨its, r, p, z⟩
  · refine ⟨its.toList, r, ⟨o, I.kIn a o hk, hc, n, by simpa using hs⟩, ?_⟩
    have e := r.length
    simp only [Array.length_toList] at e
    omega
theorem Inv.list_inj (I : Inv X pins σ H s) (h : SqL X.K H a xs) (h' : SqL X.K H a ys) : xs = ys := by
  obtain ⟨its, r, ⟨o, n, e, _, _, d⟩, _⟩ := I.list h
  obtain ⟨its', r', ⟨o', n', e', _, _, d'⟩, _⟩ := I.list h'
  rw [e] at e'; cases e'
  rw [d] at d'
  injection d' with d1 _
  have : its = its' := by simpa using congrArg Array.toList d1
  subst this
  exact r.inj r'
end
abbrev Cx.wish (X : Cx) (E : Value → Shared → Prop) : Cx := { X with xe := E }
abbrev Cx.nox (X : Cx) : Cx := X.wish fun _ _ => False
theorem Cx.Ok.wish {X : Cx} (ok : X.Ok) (E : Value → Shared → Prop) : (X.wish E).Ok :=
  ⟨ok.mod, ok.kind, ok.glob, ok.blt, ok.above, ok.inj, ok.has, ok.cab, ok.hd, ok.frames, ok.stk, ok.exf, ok.bs, ok.bsz, ok.noex, ok.exfs, ok.funs, ok.frf⟩
theorem Cx.Ok.unwish {X : Cx} {E : Value → Shared → Prop} (ok : (X.wish E).Ok) : X.Ok :=
  ⟨ok.mod, ok.kind, ok.glob, ok.blt, ok.above, ok.inj, ok.has, ok.cab, ok.hd, ok.frames, ok.stk, ok.exf, ok.bs, ok.bsz, ok.noex, ok.exfs, ok.funs, ok.frf⟩
section
variable {X : Cx} {pins : List (Addr × Obj)} {σ : St} {H : Hp} {s : Shared} {E : Value → Shared → Prop}
theorem Inv.wish (I : Inv X pins σ H s) (E : Value → Shared → Prop) : Inv (X.wish E) pins σ H s := ⟨I.ok.wish E, I.os, I.bare, I.base, I.loc, I.cell, I.free, I.freeC, I.pin, I.hok, I.len⟩
theorem Inv.unwish (I : Inv (X.wish E) pins σ H s) : Inv X pins σ H s := ⟨I.ok.unwish, I.os, I.bare, I.base, I.loc, I.cell, I.free, I.freeC, I.pin, I.hok, I.len⟩
theorem SP.unwish {D : Ends} {f : Flow} {s' : Shared} (h : SP (X.wish E) pins D f s') : SP X pins D f s' := by
  cases f with
  | next => obtain ⟨σ', H', I, q⟩ := h; exact ⟨σ', H', I.unwish, q⟩
  | brk => obtain ⟨σ', H', I, q⟩ := h; exact ⟨σ', H', I.unwish, q⟩
  | cont => obtain ⟨σ', H', I, q⟩ := h; exact ⟨σ', H', I.unwish, q⟩
  | ret u => obtain ⟨v, σ', H', I, r, q⟩ := h; exact ⟨v, σ', H', I.unwish, r, q⟩
theorem PSs.nox {st : List Stmt} {t : TS} (h : PSs X.nox st t) : PSs X st t := fun pins s σ H D I hw =>
  wpAny_mono (h pins s σ H D (I.wish _) hw) (fun _ _ q => q.unwish) fun _ _ z => False.elim z
end
section
variable {X : Cx} {st : Stmt} {rest : List Stmt} {t u : TS} {e : Expr} {te : TE} {pos : Pos}
def tNext : TS := fun D σ H => D.nx σ H
def tSeq (t u : TS) : TS := fun D σ H => t { D with nx := u D } σ H
theorem pss_nil : PSs X [] tNext := fun _ _ σ H _ I h => wpAny_execs_nil ⟨σ, H, I, h⟩
theorem pss_cons (h1 : PS X st t) (h2 : PSs X rest u) : PSs X (st :: rest) (tSeq t u) := by
  intro pins s σ H D I h
  refine wpAny_execs_cons (thn (h1 pins s σ H { D with nx := u D } I h) fun f s1 q => ?_)
  cases f with
  | next =>
    obtain ⟨σ', H', I', q⟩ := q
    exact h2 pins s1 σ' H' D I' q
  | ret v => exact q
  | brk => exact q
  | cont => exact q
theorem pss_one (h1 : PS X st t) : PSs X [st] t := by
  intro pins s σ H D I h
  refine wpAny_execs_cons (thn (h1 pins s σ H D I h) fun f s1 q => ?_)
  cases f with
  | next => exact wpAny_execs_nil q
  | ret v => exact q
  | brk => exact q
  | cont => exact q
theorem Inv.quiet {pins : List (Addr × Obj)} {σ : St} {H : Hp} {s : Shared} (I : Inv X pins σ H s) : interactive X.env = false := by simp [interactive, I.ok.kind]
def tDrop (te : TE) : TS := fun D σ H => te σ H fun _ H1 => D.nx σ H1
theorem ps_expr (he : PE X e te) (hs : swapsWith e none pos.line X.env = pure false := by rfl) : PS X (.Expr e pos) (tDrop te) := by
  intro pins s σ H D I h
  exact wpAny_Expr_any (thn (he pins s σ H _ I h) fun v s1 ⟨x, H1, I1, r1, q1⟩ => ⟨σ, H1, I1, q1⟩) I.quiet hs
def tRet (te : TE) : TS := fun D σ H => te σ H D.rt
theorem ps_ret (he : PE X e te) : PS X (.Return (some e) pos) (tRet te) := by
  intro pins s σ H D I h
  exact wpAny_Return_some (thn (he pins s σ H _ I h) fun v s1 ⟨x, H1, I1, r1, q1⟩ => ⟨x, σ, H1, I1, r1, q1⟩)
def tIfS (c : TT) (t u : TS) : TS := fun D σ H => c σ H fun b H1 => if b = true then t D σ H1 else u D σ H1
theorem ps_if {c : Expr} {a b : List Stmt} {tc : TT} (hc : PT X c tc) (ha : PSs X a t) (hb : PSs X b u) : PS X (.If c a b pos) (tIfS tc t u) := by
  intro pins s σ H D I h
  refine wpAny_If (thn (hc pins s σ H _ I h) fun d s1 ⟨H1, I1, q1⟩ => ?_)
  cases d with
  | true => exact ha pins s1 σ H1 D I1 q1
  | false => exact hb pins s1 σ H1 D I1 q1
end
abbrev TG := V → St → Hp → (St → Hp → Prop) → Prop
def PG (X : Cx) (target : Expr) (t : TG) : Prop :=
  ∀ (pins : List (Addr × Obj)) (s : Shared) (σ : St) (H : Hp) (v : V) (u : Value) (Q : St → Hp → Prop), Inv X pins σ H s → RelV v u → t v σ H Q →
    wpAny (model X.prog X.w) X.A (assign target X.env u) (fun _ s' => ∃ σ' H', Inv X pins σ' H' s' ∧ Q σ' H') X.xe s
section
variable {X : Cx} {pos : Pos}
def gName (i : Nat) : TG := fun v σ H Q => Q (σ.set i (some v)) H
theorem pg_name {i : Nat} {x : Str} (hN : X.N.Nodup) (hi : X.N[i]? = some x) (hx : Loc X.env.scope x) (hf : X.fn x = true ∨ X.env.scope.names.lookup x = some .local := by first | exact .inl rfl | exact .inr rfl | assumption) : PG X (.Name x pos) (gName i) := by
  intro pins s σ H v u Q I r h
  exact wpAny_assign_Name (store_ok I hN hi hx r (fun s' I' => ⟨_, H, I', h⟩) hf)
def tAsg (te : TE) (g : TG) : TS := fun D σ H => te σ H fun x H1 => g x σ H1 D.nx
theorem ps_set {i : Nat} {x : Str} {e : Expr} {te : TE} {pos' : Pos} (hN : X.N.Nodup) (hi : X.N[i]? = some x) (hx : Loc X.env.scope x) (he : PE X e te) (hs : swapsWith e (some (.Name x pos')) pos.line X.env = pure false := by rfl) (hf : X.fn x = true ∨ X.env.scope.names.lookup x = some .local := by first | exact .inl rfl | exact .inr rfl | assumption) :
    PS X (.Assign [.Name x pos'] e pos) (tAsg te (gName i)) := by
  intro pins s σ H D I h
  refine wpAny_Assign_Name (thn (he pins s σ H _ I h) fun v s1 ⟨y, H1, I1, r1, q1⟩ => ?_) hs
  exact store_ok I1 hN hi hx r1 (fun s2 I2 => ⟨_, H1, I2, q1⟩) hf
end
section
variable {X : Cx} {pos : Pos}
def tWhile (c : TT) (tb : TS) : TS := fun D σ H => ∃ W : Nat → St → Hp → Prop, (∃ m, W m σ H) ∧ ∀ m σ H, W m σ H →
  c σ H fun b H1 => if b = true then ∃ N : St → Hp → Prop, (∀ σ' H', N σ' H' → ∃ m', m' < m ∧ W m' σ' H') ∧ tb { D with nx := N, ct := N, bk := D.nx } σ H1 else D.nx σ H1
theorem ps_while {c : Expr} {body : List Stmt} {tc : TT} {tb : TS} (hp : PassesOwn (model X.prog X.w) X.A X.env X.xe) (hc : PT X c tc) (hb : PSs X body tb) : PS X (.While c body [] pos) (tWhile tc tb) := by
  intro pins s σ H D I h
  obtain ⟨W, ⟨m0, w0⟩, turn⟩ := h
  refine wpAny_While (codeAny_whileLoop (fun n s' => ∃ σ' H', Inv X pins σ' H' s' ∧ W n σ' H') ?_ m0 ⟨σ, H, I, w0⟩)
  rintro n s1 ⟨σ1, H1, I1, w1⟩
  refine wpAny_passesOwn hp (thn (hc pins s1 σ1 H1 _ I1 (turn n σ1 H1 w1)) fun b s2 ⟨H2, I2, q2⟩ => ?_)
  cases b with
  | true =>
    obtain ⟨N, hN, q2⟩ := q2
    rw [if_pos rfl]
    refine wpAny_passesOwn hp (thn (hb pins s2 σ1 H2 _ I2 q2) fun f s3 q3 => ?_)
    cases f with
    | next =>
      obtain ⟨σ3, H3, I3, n3⟩ := q3
      obtain ⟨m', hm, w3⟩ := hN σ3 H3 n3
      exact ⟨m', hm, σ3, H3, I3, w3⟩
    | cont =>
      obtain ⟨σ3, H3, I3, n3⟩ := q3
      obtain ⟨m', hm, w3⟩ := hN σ3 H3 n3
      exact ⟨m', hm, σ3, H3, I3, w3⟩
    | brk => exact q3
    | ret v => exact q3
  | false =>
    rw [if_neg Bool.false_ne_true]
    exact wpAny_execs_nil ⟨σ1, H2, I2, q2⟩
end
structure It where
  go : Nat → Hp → Prop
  yld : Nat → Hp → V → Hp → Prop
  stop : Nat → Hp → Prop
def FpOk (X : Cx) (pins : List (Addr × Obj)) (H : Hp) (b : Addr) : Prop :=
  H b = none ∧ b ≠ X.env.locals ∧ b ∉ X.fs ∧ (b ∈ X.ex ∨ X.s₀.heap.objs.size ≤ b) ∧ (∀ x c, X.env.cells.lookup x = some c → c ≠ b) ∧ ∀ p ∈ X.pn ++ pins, p.1 ≠ b
theorem Inv.fpOk {X : Cx} {pins : List (Addr × Obj)} {σ : St} {H H' : Hp} {s : Shared} {b : Addr} (I : Inv X pins σ H s) (hb : s.heap.objs.size ≤ b) (hn : H' b = none) : FpOk X pins H' b := by
  refine ⟨hn, Nat.ne_of_gt (Nat.lt_of_lt_of_le I.lt hb), I.nofs hb, .inr (Nat.le_trans I.sz hb), fun x c e z => ?_, fun p hp z => ?_⟩
  · obtain ⟨v, q⟩ := I.cell x c e
    exact absurd (Nat.lt_of_lt_of_le q.lt (by rw [z]; exact hb)) (Nat.lt_irrefl _)
  · exact absurd (Nat.lt_of_lt_of_le (Heap.lt_size (I.pin p hp).1) (by rw [z]; exact hb)) (Nat.lt_irrefl _)
structure Turn (P : Program) (w : World) (K : PySem.W.Frag) (tg : Expr) (J : It) (fp : List Addr) (it : Addr) (tn : Nat → Heap → Prop) : Prop where
  mem : it ∈ fp
  obj : ∀ i h, tn i h → ∀ b ∈ fp, ∃ o, h.get? b = some o ∧ ∀ v, o.data ≠ .cell v
  keep : ∀ i h h', tn i h → (∀ b ∈ fp, ∀ o, h.get? b = some o → h'.get? b = some o) → tn i h'
  item : ∀ (X : Cx), X.prog = P → X.w = w → X.K = K → X.calm = true → ∀ (i : Nat) (pins : List (Addr × Obj)) (s : Shared) (σ : St) (H : Hp) (E : Value → Shared → Prop), Inv X pins σ H s → (∀ b ∈ fp, FpOk X pins H b) → tn i s.heap → J.go i H →
    wpAny (model P w) X.A (pyNext (.ref it)) (fun r s1 => ∃ u, r = some u ∧
      wpAny (model P w) X.A (letOwnedTupleGo tg (.ref it) u) (fun _ s2 => ∃ x H', Inv X pins σ H' s2 ∧ RelV x u ∧ J.yld i H x H' ∧ tn (i + 1) s2.heap ∧ ∀ b ∈ fp, H' b = none) E s1) E s
  done : ∀ (X : Cx), X.prog = P → X.w = w → X.K = K → X.calm = true → ∀ (i : Nat) (pins : List (Addr × Obj)) (s : Shared) (σ : St) (H : Hp) (E : Value → Shared → Prop), Inv X pins σ H s → (∀ b ∈ fp, FpOk X pins H b) → tn i s.heap → J.stop i H →
    wpAny (model P w) X.A (pyNext (.ref it)) (fun r s1 => r = none ∧ Inv X pins σ H s1) E s
  self : ∀ (A : Around) (i : Nat) (s : Shared) (Q : Value → Shared → Prop) (E : Value → Shared → Prop), tn i s.heap → Q (.ref it) s → wpAny (model P w) A (pyIter (.ref it)) Q E s
abbrev TI := St → Hp → (It → Hp → Prop) → Prop
def PIE (X : Cx) (pins : List (Addr × Obj)) (σ : St) (tg : Expr) (R : It → Hp → Prop) (itv : Value) (s2 : Shared) : Prop :=
  ∃ (it : Addr) (fp : List Addr) (tn : Nat → Heap → Prop) (J : It) (H' : Hp), itv = .ref it ∧ Inv X pins σ H' s2 ∧ Turn X.prog X.w X.K tg J fp it tn ∧ tn 0 s2.heap ∧ (∀ b ∈ fp, FpOk X pins H' b) ∧ R J H'
def PI (X : Cx) (tg iter : Expr) (wi : TI) : Prop :=
  ∀ (pins : List (Addr × Obj)) (s : Shared) (σ : St) (H : Hp) (R : It → Hp → Prop), Inv X pins σ H s → wi σ H R →
    wpAny (model X.prog X.w) X.A (eval iter X.env) (fun v s1 => wpAny (model X.prog X.w) X.A (pyIter v) (PIE X pins σ tg R) X.xe s1) X.xe s
theorem go_of {M : Model} {A : Around} {E : Value → Shared → Prop} {s : Shared} {tg : Expr} {it : Addr} {u : Value} {o : Obj} {n : String} {vs : Array Value} {Q : Unit → Shared → Prop} (ho : s.heap.get? it = some o) (hc : o.cls = .type n) (hd : o.data = .fields vs)
    (hn : ["enumerate", "zip", "dict_itemiterator", "dict_reverseitemiterator", "odict_iterator", "itertools.zip_longest", "itertools.pairwise"].contains n = false) (hQ : Q () s) : wpAny M A (letOwnedTupleGo tg (.ref it) u) Q E s := by
  unfold letOwnedTupleGo
  cases tg <;> first
    | exact wpAny_pure hQ
    | (cases u <;> first
        | exact wpAny_pure hQ
        | (refine wpAny_bind (wpAny_load ho ?_)
           rw [hc, hd]
           show wpAny M A (if (["enumerate", "zip", "dict_itemiterator", "dict_reverseitemiterator", "odict_iterator", "itertools.zip_longest", "itertools.pairwise"].contains n && vs[0]? == some (rawInt _)) = true then _ else _) Q E s
           rw [if_neg (by intro h; rw [hn, Bool.false_and] at h; cases h)]
           exact wpAny_pure hQ))
def Itl (K : PySem.W.Frag) (a : Addr) : It :=
  ⟨fun i H => ∃ xs x, SqL K H a xs ∧ xs[i]? = some x, fun i H x H' => H' = H ∧ ∀ xs, SqL K H a xs → xs[i]? = some x, fun i H => ∃ xs, SqL K H a xs ∧ xs.length ≤ i⟩
def Itr (lo : Int) (n : Nat) : It := ⟨fun i _ => i < n, fun i H x H' => H' = H ∧ x = .int (lo + i), fun i _ => n ≤ i⟩
theorem turn_list {P : Program} {w : World} {K : PySem.W.Frag} {tg : Expr} (a it : Addr) : Turn P w K tg (Itl K a) [it] it (fun i h => h.IsListIter it a i) where
  mem := by simp
  obj := fun i h st b hb => by
    have e : b = it := by simpa using hb
    subst e
    obtain ⟨o, e, c, d⟩ := st
    exact ⟨o, e, fun v z => by rw [d] at z; cases z⟩
  keep := fun i h h' st k => st.at fun o e => k it (by simp) o e
  item := by
    intro X hP hw hK hc i pins s σ H E I hf st hg
    subst hP hw hK
    obtain ⟨xs, x, hq, hx⟩ := hg
    obtain ⟨its, rv, p, hz⟩ := I.list hq
    obtain ⟨u, hu, ru⟩ := rv.get hx
    obtain ⟨f0, f1, f2, f3, f4, f5⟩ := hf it (by simp)
    refine wpAny_pyNext_list_item st p.isList (x := u) (by simpa using hu) fun h' st' sb => ?_
    have I1 : Inv X pins σ H { s with heap := h' } := I.turned (t' := s.toks) (fun b o hb e => (sb.2 b hb).trans e) f0 f1 f3 f4 f5
    obtain ⟨o, e, c, d⟩ := id st'
    exact ⟨u, rfl, go_of (s := { s with heap := h' }) e c d (by decide) ⟨x, H, I1, ru, ⟨rfl, fun ys hy => by rw [I.list_inj hy hq]; exact hx⟩, st', fun b hb => (hf b hb).1⟩⟩
  done := by
    intro X hP hw hK hc i pins s σ H E I hf st hg
    subst hP hw hK
    obtain ⟨xs, hq, hx⟩ := hg
    obtain ⟨its, rv, p, hz⟩ := I.list hq
    obtain ⟨f0, f1, f2, f3, f4, f5⟩ := hf it (by simp)
    have hl := rv.length
    exact wpAny_pyNext_list_end (I.ok.hd hc) st p.isList (by simp; omega) fun h' eb => ⟨rfl, I.turned (t' := s.toks) (fun b o hb e => eb b o hb e) f0 f1 f3 f4 f5⟩
  self := fun _ _ _ _ _ st h => wpAny_pyIter_listiter st h
theorem turn_range {P : Program} {w : World} {K : PySem.W.Frag} {tg : Expr} (it : Addr) (lo : Int) (n : Nat) : Turn P w K tg (Itr lo n) [it] it (fun i h => IsRangeIter h it (lo + (i : Nat) * 1) ((n : Int) - (i : Nat)) 1) where
  mem := by simp
  obj := fun i h st b hb => by
    have e : b = it := by simpa using hb
    subst e
    exact ⟨_, st, fun v z => by
      have z' : Data.fields _ = Data.cell v := z
      cases z'⟩
  keep := fun i h h' st k => k it (by simp) _ st
  item := by
    intro X hP hw hK hc i pins s σ H E I hf st hg
    subst hP hw hK
    obtain ⟨f0, f1, f2, f3, f4, f5⟩ := hf it (by simp)
    have W := Walks.range (prog := X.prog) (w := X.w) (I.ok.hd hc) it lo 1 n
    refine W.item i s _ _ hg st fun v h' tk hv st' kk => ?_
    obtain ⟨t, rfl⟩ := hv
    have I1 : Inv X pins σ H { s with heap := h', toks := tk } := I.turned (fun b o hb e => kk b o (by simpa using hb) e) f0 f1 f3 f4 f5
    refine ⟨_, rfl, go_of (s := { s with heap := h', toks := tk }) (n := "range_iterator") st' rfl rfl (by decide) ⟨.int (lo + i), H, I1, ⟨t, ?_⟩, ⟨rfl, rfl⟩, st', fun b hb => (hf b hb).1⟩⟩
    rw [Int.mul_one]
  done := by
    intro X hP hw hK hc i pins s σ H E I hf st hg
    subst hP hw hK
    obtain ⟨f0, f1, f2, f3, f4, f5⟩ := hf it (by simp)
    exact wpAny_pyNext_range_end (I.ok.hd hc) st (by have : n ≤ i := hg; omega) fun h' eb => ⟨rfl, I.turned (t' := s.toks) (fun b o hb e => eb b o hb e) f0 f1 f3 f4 f5⟩
  self := fun _ _ _ _ _ st h => wpAny_pyIter_rangeiter st h
end L2
namespace L2
open PySem PySem.Spec PyProof.Rows
section
variable {X : Cx} {tg : Expr}
def iList (K : PySem.W.Frag) (tl : TE) : TI := fun σ H R => tl σ H fun x H1 => ∃ a, x = .ref a ∧ (∃ xs, SqL K H1 a xs) ∧ R (Itl K a) H1
theorem pi_list {l : Expr} {tl : TE} (hl : PE X l tl) : PI X tg l (iList X.K tl) := by
  intro pins s σ H R I h
  refine thn (hl pins s σ H _ I h) fun v s1 ⟨x, H1, I1, r1, q1⟩ => ?_
  obtain ⟨a, e, ⟨xs, hq⟩, q⟩ := q1
  subst e
  cases r1
  obtain ⟨its, rv, p, hz⟩ := I1.list hq
  refine wpAny_pyIter_list p.isList ?_
  refine ⟨s1.heap.objs.size, [s1.heap.objs.size], _, _, H1, rfl, I1.kept (t' := s1.toks) fun b o e => Heap.get?_push_of_some _ e, turn_list a _, ⟨_, Heap.get?_push_size _ rfl, rfl, rfl⟩, fun b hb => ?_, q⟩
  have e : b = s1.heap.objs.size := by simpa using hb
  subst e
  exact I1.fpOk (Nat.le_refl _) (I1.hok.fresh (Nat.le_refl _))
theorem range_it {pins : List (Addr × Obj)} {σ : St} {H : Hp} {s : Shared} {R : It → Hp → Prop} {E : Value → Shared → Prop} {lo hi : Int} {t u v : Tok} {tk : Nat} (I : Inv X pins σ H s) (h1 : -(2 ^ 62) ≤ lo) (h2 : lo < 2 ^ 62) (h3 : -(2 ^ 62) ≤ hi) (h4 : hi < 2 ^ 62)
    (q : R (Itr lo (hi - lo).toNat) H) : wpAny (model X.prog X.w) X.A (pyIter (.ref s.heap.objs.size)) (PIE X pins σ tg R) E { s with heap := s.heap.push { cls := .type "range", data := .fields #[.int lo t, .int hi u, .int 1 v] }, toks := tk } := by
  refine wpAny_pyIter_range (IsRange.new ..) (small_one h1 h2 h3 h4) ?_
  have I1 : Inv X pins σ H { s with heap := s.heap.push { cls := .type "range", data := .fields #[.int lo t, .int hi u, .int 1 v] }, toks := tk } := I.kept fun b o e => Heap.get?_push_of_some _ e
  refine ⟨(s.heap.push { cls := .type "range", data := .fields #[.int lo t, .int hi u, .int 1 v] }).objs.size, [(s.heap.push { cls := .type "range", data := .fields #[.int lo t, .int hi u, .int 1 v] }).objs.size], _, _, H, rfl,
    I1.kept (t' := tk) fun b o e => Heap.get?_push_of_some _ e, turn_range _ lo (hi - lo).toNat, ?_, fun b hb => ?_, q⟩
  · have e1 : lo + ((0 : Nat) : Int) * 1 = lo := by simp
    have e2 : (((hi - lo).toNat : Nat) : Int) - ((0 : Nat) : Int) = Builtin.Range.rangeSize lo hi 1 := by rw [rangeSize_one]; split <;> omega
    show IsRangeIter _ _ (lo + ((0 : Nat) : Int) * 1) ((((hi - lo).toNat : Nat) : Int) - ((0 : Nat) : Int)) 1
    rw [e1, e2]
    exact Heap.get?_push_size _ rfl
  · have e : b = (s.heap.push { cls := .type "range", data := .fields #[.int lo t, .int hi u, .int 1 v] }).objs.size := by simpa using hb
    subst e
    exact I1.fpOk (Nat.le_refl _) (I1.hok.fresh (Nat.le_refl _))
def iRng1 (ta : TA) : TI := fun σ H R => ta σ H fun vs H1 => ∃ j : Int, vs = [.int j] ∧ -(2 ^ 62) ≤ j ∧ j < 2 ^ 62 ∧ R (Itr 0 j.toNat) H1
theorem pi_range1 {a : Expr} {ta : TA} {p pos : Pos} (hg : Gl X "range") (hm : X.mg "range" = none) (ha : PA X [a] ta) (hs : starEach [a] X.env = [(false, eval a X.env)] := by rfl) : PI X tg (.Call (.Name "range" p) [a] [] pos) (iRng1 ta) := by
  intro pins s σ H R I h
  refine Call_ (ld_blt I hg hm boot_range (PyProof.Rows.callWith_type1 (thn (ha pos pins s σ H _ I h) fun us s1 ⟨vs, H1, I1, r1, q1⟩ => ?_) hs rfl))
  obtain ⟨j, e, q1, q2, q⟩ := q1
  subst e
  cases r1 with
  | cons r rr =>
    cases rr
    obtain ⟨t, rfl⟩ := r
    exact call_range_1 (range_it I1 (by omega) (by omega) q1 q2 (by simpa using q))
def tFor (wi : TI) (g : TG) (tb : TS) : TS := fun D σ H => wi σ H fun J H1 => ∃ W : Nat → Nat → St → Hp → Prop, (∃ m, W 0 m σ H1) ∧ ∀ i m σ H, W i m σ H →
  (J.stop i H ∧ D.nx σ H) ∨ (J.go i H ∧ ∃ N : St → Hp → Prop, (∀ σ' H', N σ' H' → ∃ m', m' < m ∧ W (i + 1) m' σ' H') ∧ ∀ x H', J.yld i H x H' → g x σ H' fun σ2 H2 => tb { D with nx := N, ct := N, bk := D.nx } σ2 H2)
def pinsAt (fp : List Addr) (h : Heap) : List (Addr × Obj) := fp.filterMap fun b => (h.get? b).map fun o => (b, o)
theorem mem_pinsAt {fp : List Addr} {h : Heap} {b : Addr} {o : Obj} (hb : b ∈ fp) (e : h.get? b = some o) : (b, o) ∈ pinsAt fp h := List.mem_filterMap.mpr ⟨b, hb, by rw [e]; rfl⟩
theorem of_pinsAt {fp : List Addr} {h : Heap} {p : Addr × Obj} (hp : p ∈ pinsAt fp h) : p.1 ∈ fp ∧ h.get? p.1 = some p.2 := by
  obtain ⟨b, hb, e⟩ := List.mem_filterMap.mp hp
  cases q : h.get? b with
  | none => rw [q] at e; cases e
  | some o =>
    rw [q] at e
    have e' : (b, o) = p := Option.some.inj e
    subst e'
    exact ⟨hb, q⟩
theorem Inv.pinned {pins : List (Addr × Obj)} {σ : St} {H : Hp} {s : Shared} {fp : List Addr} (I : Inv X pins σ H s) (hf : ∀ b ∈ fp, FpOk X pins H b) (ho : ∀ b ∈ fp, ∃ o, s.heap.get? b = some o ∧ ∀ v, o.data ≠ .cell v) : Inv X (pins ++ pinsAt fp s.heap) σ H s :=
  I.pins_of fun p hp => (List.mem_append.mp hp).elim (fun z => I.pin p (List.mem_append_right _ z)) fun z => by
    obtain ⟨hb, e⟩ := of_pinsAt z
    obtain ⟨f0, f1, f2, _⟩ := hf p.1 hb
    obtain ⟨o, e', d⟩ := ho p.1 hb
    rw [e] at e'; cases e'
    exact ⟨e, f0, f1, f2, d⟩
theorem Inv.unpinned {pins pl : List (Addr × Obj)} {σ : St} {H : Hp} {s : Shared} (I : Inv X (pins ++ pl) σ H s) : Inv X pins σ H s := I.pins_of fun p hp => I.pin p (List.mem_append_right _ (List.mem_append_left _ hp))
theorem ps_for {iter : Expr} {body : List Stmt} {wi : TI} {g : TG} {tb : TS} {pos : Pos} (hp : PassesOwn (model X.prog X.w) X.A X.env X.xe) (hc : X.calm = true) (hi : PI X tg iter wi) (hg : PG X tg g) (hb : PSs X body tb)
    (hs : ∀ x, foldedSetIterable iter X.env x = pure x := by intro _; rfl) : PS X (.For tg iter body [] pos) (tFor wi g tb) := by
  intro pins s σ H D I h
  refine wpAny_For (thn (hi pins s σ H _ I h) fun v s1 h1 => thn h1 fun itv s2 h2 => ?_) hs
  obtain ⟨it, fp, tn, J, H2, e, I2, T, st2, f2, W, ⟨m0, w0⟩, turn⟩ := h2
  subst e
  have stat : ∀ {H' : Hp}, (∀ b ∈ fp, H' b = none) → ∀ b ∈ fp, FpOk X pins H' b := fun hn b hb => ⟨hn b hb, (f2 b hb).2⟩
  refine codeAny_forLoop_any (fun n s' => ∃ i σ' H', Inv X pins σ' H' s' ∧ tn i s'.heap ∧ (∀ b ∈ fp, H' b = none) ∧ W i n σ' H') ?_ m0 ⟨0, σ, H2, I2, st2, fun b hb => (f2 b hb).1, w0⟩
  rintro n s3 ⟨i, σ3, H3, I3, st3, fr3, w3⟩
  rcases turn i n σ3 H3 w3 with ⟨stop, qn⟩ | ⟨go, N, hN, step⟩
  · refine wpAny_passesOwn hp (thn (T.done X rfl rfl rfl hc i pins s3 σ3 H3 X.xe I3 (stat fr3) st3 stop) fun r s4 ⟨hr, I4⟩ => ?_)
    subst hr
    exact wpAny_execs_nil ⟨σ3, H3, I4, qn⟩
  · refine wpAny_passesOwn hp (thn (T.item X rfl rfl rfl hc i pins s3 σ3 H3 X.xe I3 (stat fr3) st3 go) fun r s4 ⟨u, hr, h4⟩ => ?_)
    subst hr
    refine wpAny_passesOwn hp (thn h4 fun _ s5 ⟨x, H5, I5, r5, y5, st5, fr5⟩ => ?_)
    have I5' := I5.pinned (stat fr5) (T.obj _ _ st5)
    refine wpAny_passesOwn hp (thn (hg _ s5 σ3 H5 x u _ I5' r5 (step x H5 y5)) fun _ s6 ⟨σ6, H6, I6, q6⟩ => ?_)
    refine wpAny_passesOwn hp (thn (hb _ s6 σ6 H6 _ I6 q6) fun f s7 q7 => ?_)
    have again : ∀ {σ7 : St} {H7 : Hp}, Inv X (pins ++ pinsAt fp s5.heap) σ7 H7 s7 → N σ7 H7 → ∃ m, m < n ∧ ∃ i σ' H', Inv X pins σ' H' s7 ∧ tn i s7.heap ∧ (∀ b ∈ fp, H' b = none) ∧ W i m σ' H' := fun {σ7 H7} I7 n7 => by
      obtain ⟨m', hm, w7⟩ := hN σ7 H7 n7
      refine ⟨m', hm, i + 1, σ7, H7, I7.unpinned, T.keep _ _ _ st5 fun b hb o e => (I7.pin (b, o) (List.mem_append_right _ (List.mem_append_right _ (mem_pinsAt hb e)))).1, fun b hb => ?_, w7⟩
      obtain ⟨o, e, d⟩ := T.obj _ _ st5 b hb
      exact (I7.pin (b, o) (List.mem_append_right _ (List.mem_append_right _ (mem_pinsAt hb e)))).2.1
    cases f with
    | next => obtain ⟨σ7, H7, I7, n7⟩ := q7; exact again I7 n7
    | cont => obtain ⟨σ7, H7, I7, n7⟩ := q7; exact again I7 n7
    | brk => obtain ⟨σ7, H7, I7, q7⟩ := q7; exact ⟨σ7, H7, I7.unpinned, q7⟩
    | ret v => obtain ⟨x7, σ7, H7, I7, r7, q7⟩ := q7; exact ⟨x7, σ7, H7, I7.unpinned, r7, q7⟩
end
theorem for_range {lo : Int} {n : Nat} {g : TG} {tb : TS} {D : Ends} {σ : St} {H : Hp} (Pv : Nat → St → Hp → Prop) (h0 : Pv 0 σ H)
    (hs : ∀ i σ H, i < n → Pv i σ H → g (.int (lo + i)) σ H fun σ2 H2 => tb { D with nx := Pv (i + 1), ct := Pv (i + 1), bk := D.nx } σ2 H2) (hd : ∀ σ H, Pv n σ H → D.nx σ H) :
    ∃ W : Nat → Nat → St → Hp → Prop, (∃ m, W 0 m σ H) ∧ ∀ i m σ H, W i m σ H →
      ((Itr lo n).stop i H ∧ D.nx σ H) ∨ ((Itr lo n).go i H ∧ ∃ N : St → Hp → Prop, (∀ σ' H', N σ' H' → ∃ m', m' < m ∧ W (i + 1) m' σ' H') ∧ ∀ x H', (Itr lo n).yld i H x H' → g x σ H' fun σ2 H2 => tb { D with nx := N, ct := N, bk := D.nx } σ2 H2) := by
  refine ⟨fun i m σ H => m = n - i ∧ i ≤ n ∧ Pv i σ H, ⟨n, by simp, Nat.zero_le _, h0⟩, ?_⟩
  rintro i m σ H ⟨rfl, hi, p⟩
  by_cases hlt : i < n
  · refine .inr ⟨hlt, Pv (i + 1), fun σ' H' p' => ⟨n - (i + 1), by omega, rfl, hlt, p'⟩, fun x H' y => ?_⟩
    obtain ⟨e, y⟩ := y
    subst e y
    exact hs i σ _ hlt p
  · have e : i = n := by omega
    subst e
    exact .inl ⟨Nat.le_refl _, hd σ H p⟩
end L2
namespace L2
open PySem PySem.Spec PyProof.Rows
abbrev R2 := V → V → Hp → VK → Prop
def OpR (X : Cx) (f : Value → Value → Sem Value) (r : R2) : Prop :=
  ∀ (pins : List (Addr × Obj)) (s : Shared) (σ : St) (H : Hp) (x y : V) (v u : Value) (Q : VK), Inv X pins σ H s → RelV x v → RelV y u → r x y H Q →
    wpAny (model X.prog X.w) X.A (f v u) (EP X pins σ Q) X.xe s
def UnR (X : Cx) (f : Value → Sem Value) (r : V → Hp → VK → Prop) : Prop :=
  ∀ (pins : List (Addr × Obj)) (s : Shared) (σ : St) (H : Hp) (x : V) (v : Value) (Q : VK), Inv X pins σ H s → RelV x v → r x H Q →
    wpAny (model X.prog X.w) X.A (f v) (EP X pins σ Q) X.xe s
def CallR (X : Cx) (f : Value) (r : List V → Hp → VK → Prop) : Prop :=
  ∀ (pins : List (Addr × Obj)) (s : Shared) (σ : St) (H : Hp) (xs : List V) (us : List Value) (Q : VK), Inv X pins σ H s → Vals xs us → r xs H Q →
    wpAny (model X.prog X.w) X.A (call f us) (EP X pins σ Q) X.xe s
def tOp (r : R2) (ta tb : TE) : TE := fun σ H Q => ta σ H fun x H1 => tb σ H1 fun y H2 => r x y H2 Q
def tUn (r : V → Hp → VK → Prop) (ta : TE) : TE := fun σ H Q => ta σ H fun x H1 => r x H1 Q
def rI (C : Int → Int → Prop) (g : Int → Int → V) : R2 := fun x y H Q => ∃ i j, x = .int i ∧ y = .int j ∧ C i j ∧ Q (g i j) H
def rI0 (g : Int → Int → V) : R2 := fun x y H Q => ∃ i j, x = .int i ∧ y = .int j ∧ Q (g i j) H
def rU (g : Int → V) : V → Hp → VK → Prop := fun x H Q => ∃ i, x = .int i ∧ Q (g i) H
section
variable {X : Cx} {a b c : Expr} {ta tb tc : TE} {pos : Pos}
theorem binT (ha : PE X a ta) (hb : PE X b tb) {pins : List (Addr × Obj)} {s : Shared} {σ : St} {H : Hp} {R : V → V → Hp → Prop} (I : Inv X pins σ H s)
    (h : ta σ H fun x H1 => tb σ H1 fun y H2 => R x y H2) {Q : Value → Shared → Prop} {f : Value → Value → Sem Value}
    (hf : ∀ v u s2 x y H2, Inv X pins σ H2 s2 → RelV x v → RelV y u → R x y H2 → wpAny (model X.prog X.w) X.A (f v u) Q X.xe s2) :
    wpAny (model X.prog X.w) X.A (eval a X.env) (fun v s₁ => wpAny (model X.prog X.w) X.A (eval b X.env) (fun u s₂ => wpAny (model X.prog X.w) X.A (f v u) Q X.xe s₂) X.xe s₁) X.xe s := by
  refine thn (ha pins s σ H _ I h) fun v s1 ⟨x, H1, I1, r1, q1⟩ => ?_
  refine thn (hb pins s1 σ H1 _ I1 q1) fun u s2 ⟨y, H2, I2, r2, q2⟩ => ?_
  exact hf v u s2 x y H2 I2 r1 r2 q2
theorem pe_op {op : Operator} {r : R2} (ho : OpR X (binaryOp op) r) (ha : PE X a ta) (hb : PE X b tb) : PE X (.BinOp a op b pos) (tOp r ta tb) := by
  intro pins s σ H Q I h
  exact wpAny_BinOp (binT ha hb I h fun v u s2 x y H2 I2 rx ry q => ho pins s2 σ H2 x y v u Q I2 rx ry q)
theorem pe_un {op : UnaryOp} {r : V → Hp → VK → Prop} (ho : UnR X (unaryOp op) r) (ha : PE X a ta) : PE X (.UnaryOp op a pos) (tUn r ta) := by
  intro pins s σ H Q I h
  exact UnaryOp_ (thn (ha pins s σ H _ I h) fun v s1 ⟨x, H1, I1, r1, q1⟩ => ho pins s1 σ H1 x v Q I1 r1 q1)
theorem opI {f : Value → Value → Sem Value} {C : Int → Int → Prop} {g : Int → Int → Int}
    (rule : ∀ (i j : Int) (t u : Tok) (s : Shared) (Q : Value → Shared → Prop) (E : Value → Shared → Prop), C i j → Q (.int (g i j) s.toks) { s with toks := s.toks + 1 } → wpAny (model X.prog X.w) X.A (f (.int i t) (.int j u)) Q E s) :
    OpR X f (rI C fun i j => .int (g i j)) := by
  intro pins s σ H x y v u Q I rx ry h
  obtain ⟨i, j, rfl, rfl, hc, q⟩ := h
  obtain ⟨t, rfl⟩ := rx
  obtain ⟨t', rfl⟩ := ry
  exact rule i j t t' s _ _ hc ⟨.int (g i j), H, I.tok _, ⟨_, rfl⟩, q⟩
theorem opI0 {f : Value → Value → Sem Value} {g : Int → Int → Int}
    (rule : ∀ (i j : Int) (t u : Tok) (s : Shared) (Q : Value → Shared → Prop) (E : Value → Shared → Prop), Q (.int (g i j) s.toks) { s with toks := s.toks + 1 } → wpAny (model X.prog X.w) X.A (f (.int i t) (.int j u)) Q E s) :
    OpR X f (rI0 fun i j => .int (g i j)) := by
  intro pins s σ H x y v u Q I rx ry h
  obtain ⟨i, j, rfl, rfl, q⟩ := h
  obtain ⟨t, rfl⟩ := rx
  obtain ⟨t', rfl⟩ := ry
  exact rule i j t t' s _ _ ⟨.int (g i j), H, I.tok _, ⟨_, rfl⟩, q⟩
theorem opB0 {f : Value → Value → Sem Value} {g : Int → Int → Bool}
    (rule : ∀ (i j : Int) (t u : Tok) (s : Shared) (Q : Value → Shared → Prop) (E : Value → Shared → Prop), Q (.bool (g i j)) s → wpAny (model X.prog X.w) X.A (f (.int i t) (.int j u)) Q E s) :
    OpR X f (rI0 fun i j => .bl (g i j)) := by
  intro pins s σ H x y v u Q I rx ry h
  obtain ⟨i, j, rfl, rfl, q⟩ := h
  obtain ⟨t, rfl⟩ := rx
  obtain ⟨t', rfl⟩ := ry
  exact rule i j t t' s _ _ ⟨.bl (g i j), H, I, rfl, q⟩
def CDiv (i j : Int) : Prop := 0 < j ∧ j < 1073741824
def CPow (i j : Int) : Prop := 0 ≤ j ∧ j ≤ 1000000 ∧ i.natAbs < 2 ^ 64
def CMul (i j : Int) : Prop := (-(2 ^ 64) < i ∧ i < 2 ^ 64) ∨ (-(2 ^ 64) < j ∧ j < 2 ^ 64)
theorem CMul.ok {i j : Int} (h : CMul i j) : IntMulOk i j := by
  rcases h with ⟨h1, h2⟩ | ⟨h1, h2⟩
  · exact .of_left (intBits_le_64 h1 h2)
  · exact .of_right (intBits_le_64 h1 h2)
theorem op_add : OpR X (binaryOp .Add) (rI0 fun i j => .int (i + j)) := opI0 fun _ _ _ _ _ _ _ q => add_int q
theorem op_sub : OpR X (binaryOp .Sub) (rI0 fun i j => .int (i - j)) := opI0 fun _ _ _ _ _ _ _ q => sub_int q
theorem op_mul : OpR X (binaryOp .Mult) (rI CMul fun i j => .int (i * j)) := opI fun _ _ _ _ _ _ _ hc q => mul_int q hc.ok
theorem op_fdiv : OpR X (binaryOp .FloorDiv) (rI CDiv fun i j => .int (i / j)) := opI fun i j _ _ _ _ _ hc q => by
  have h1 : (0 : Int) < j := hc.1
  have h2 : j < 1073741824 := hc.2
  exact floordiv_int (by omega) (by rw [Int.fdiv_eq_ediv_of_nonneg i (by omega)]; exact q) (.inl (PyProof.noPylong_small (by omega)))
theorem op_mod : OpR X (binaryOp .Mod) (rI (fun _ j => 0 < j) fun i j => .int (i % j)) := opI fun i j _ _ _ _ _ hc q => by
  have h1 : (0 : Int) < j := hc
  exact mod_int' (by omega) (by rw [Int.fmod_eq_emod_of_nonneg i (by omega)]; exact q)
theorem op_pow : OpR X (binaryOp .Pow) (rI CPow fun i j => .int (i ^ j.toNat)) := opI fun _ _ _ _ _ _ _ hc q => pow_int_small hc.1 hc.2.1 hc.2.2 q
theorem unI {f : Value → Sem Value} {g : Int → Int}
    (rule : ∀ (i : Int) (t : Tok) (s : Shared) (Q : Value → Shared → Prop) (E : Value → Shared → Prop), Q (.int (g i) s.toks) { s with toks := s.toks + 1 } → wpAny (model X.prog X.w) X.A (f (.int i t)) Q E s) :
    UnR X f (rU fun i => .int (g i)) := by
  intro pins s σ H x v Q I rx h
  obtain ⟨i, rfl, q⟩ := h
  obtain ⟨t, rfl⟩ := rx
  exact rule i t s _ _ ⟨.int (g i), H, I.tok _, ⟨_, rfl⟩, q⟩
theorem un_neg : UnR X (unaryOp .USub) (rU fun i => .int (-i)) := unI fun _ _ _ _ _ q => neg_int q
end
def scal : V → V → Bool
  | .non, .non => true | .non, .int _ => true | .int _, .non => true | .non, .bl _ => true | .bl _, .non => true | .non, .str _ => true | .str _, .non => true
  | .int _, .int _ => true | .bl _, .bl _ => true | .str _, .str _ => true | .byt _, .byt _ => true
  | .int _, .str _ => true | .str _, .int _ => true | .bl _, .str _ => true | .str _, .bl _ => true
  | _, _ => false
def rEq : R2 := fun x y H Q => scal x y = true ∧ Q (.bl (decide (x = y))) H
def rNe : R2 := fun x y H Q => scal x y = true ∧ Q (.bl (!decide (x = y))) H
theorem dec_int {i j : Int} : decide (V.int i = V.int j) = (i == j) := by
  rw [Bool.eq_iff_iff]
  simp
theorem dec_bl {i j : Bool} : decide (V.bl i = V.bl j) = (i == j) := by
  rw [Bool.eq_iff_iff]
  simp
theorem dec_str {i j : Str} : decide (V.str i = V.str j) = (i == j) := by
  rw [Bool.eq_iff_iff]
  simp
theorem dec_byt {i j : Array UInt8} : decide (V.byt i = V.byt j) = (i.toList == j.toList) := by
  rw [Bool.eq_iff_iff]
  cases i
  cases j
  simp
section
variable {X : Cx} {a b c : Expr} {ta tb tc : TE} {pos : Pos}
theorem fin_bl {pins : List (Addr × Obj)} {σ : St} {H : Hp} {s : Shared} {Q : VK} {k k' : Bool} (I : Inv X pins σ H s) (q : Q (.bl k) H) (e : k = k') : EP X pins σ Q (.bool k') s := by
  subst e
  exact ⟨.bl k, H, I, rfl, q⟩
theorem op_eq : OpR X (compareOp .Eq) rEq := by
  intro pins s σ H x y v u Q I rx ry h
  obtain ⟨hs, q⟩ := h
  cases x with
  | non =>
    cases rx
    cases y with
    | non => cases ry; exact PySem.EqNone.eq_none_none (fin_bl I q (by simp))
    | bl j => cases ry; exact PySem.EqNone.eq_none_bool (fin_bl I q (by simp))
    | int j => obtain ⟨t', rfl⟩ := ry; exact PySem.EqNone.eq_none_int (fin_bl I q (by simp))
    | str j => obtain ⟨t', rfl⟩ := ry; exact PySem.EqNone.eq_none_str (fin_bl I q (by simp))
    | _ => exact absurd (show false = true from hs) Bool.false_ne_true
  | bl i =>
    cases rx
    cases y with
    | non => cases ry; exact PySem.EqNone.eq_bool_none (fin_bl I q (by simp))
    | bl j => cases ry; exact eq_bool (fin_bl I q dec_bl)
    | str j => obtain ⟨t', rfl⟩ := ry; exact PySem.EqMixed.eq_bool_str (fin_bl I q (by simp))
    | _ => exact absurd (show false = true from hs) Bool.false_ne_true
  | int i =>
    obtain ⟨t, rfl⟩ := rx
    cases y with
    | non => cases ry; exact PySem.EqNone.eq_int_none (fin_bl I q (by simp))
    | int j => obtain ⟨t', rfl⟩ := ry; exact eq_int (fin_bl I q dec_int)
    | str j => obtain ⟨t', rfl⟩ := ry; exact PySem.EqMixed.eq_int_str (fin_bl I q (by simp))
    | _ => exact absurd (show false = true from hs) Bool.false_ne_true
  | str i =>
    obtain ⟨t, rfl⟩ := rx
    cases y with
    | non => cases ry; exact PySem.EqNone.eq_str_none (fin_bl I q (by simp))
    | bl j => cases ry; exact PySem.EqMixed.eq_str_bool (fin_bl I q (by simp))
    | int j => obtain ⟨t', rfl⟩ := ry; exact PySem.EqMixed.eq_str_int (fin_bl I q (by simp))
    | str j => obtain ⟨t', rfl⟩ := ry; exact eq_str (fin_bl I q dec_str)
    | _ => exact absurd (show false = true from hs) Bool.false_ne_true
  | byt i =>
    obtain ⟨t, rfl⟩ := rx
    cases y with
    | byt j => obtain ⟨t', rfl⟩ := ry; exact PySem.W.eq_bytes (fin_bl I q dec_byt)
    | _ => exact absurd (show false = true from hs) Bool.false_ne_true
  | _ => cases y <;> exact absurd (show false = true from hs) Bool.false_ne_true
theorem op_ne : OpR X (compareOp .NotEq) rNe := by
  intro pins s σ H x y v u Q I rx ry h
  obtain ⟨hs, q⟩ := h
  cases x with
  | non =>
    cases rx
    cases y with
    | non => cases ry; exact PySem.EqNone.ne_none_none (fin_bl I q (by simp))
    | bl j => cases ry; exact PySem.EqNone.ne_none_bool (fin_bl I q (by simp))
    | int j => obtain ⟨t', rfl⟩ := ry; exact PySem.EqNone.ne_none_int (fin_bl I q (by simp))
    | str j => obtain ⟨t', rfl⟩ := ry; exact PySem.EqNone.ne_none_str (fin_bl I q (by simp))
    | _ => exact absurd (show false = true from hs) Bool.false_ne_true
  | bl i =>
    cases rx
    cases y with
    | non => cases ry; exact PySem.EqNone.ne_bool_none (fin_bl I q (by simp))
    | bl j => cases ry; exact ne_bool (fin_bl I q (congrArg not dec_bl))
    | str j => obtain ⟨t', rfl⟩ := ry; exact PySem.EqMixed.ne_bool_str (fin_bl I q (by simp))
    | _ => exact absurd (show false = true from hs) Bool.false_ne_true
  | int i =>
    obtain ⟨t, rfl⟩ := rx
    cases y with
    | non => cases ry; exact PySem.EqNone.ne_int_none (fin_bl I q (by simp))
    | int j => obtain ⟨t', rfl⟩ := ry; exact ne_int (fin_bl I q (congrArg not dec_int))
    | str j => obtain ⟨t', rfl⟩ := ry; exact PySem.EqMixed.ne_int_str (fin_bl I q (by simp))
    | _ => exact absurd (show false = true from hs) Bool.false_ne_true
  | str i =>
    obtain ⟨t, rfl⟩ := rx
    cases y with
    | non => cases ry; exact PySem.EqNone.ne_str_none (fin_bl I q (by simp))
    | bl j => cases ry; exact PySem.EqMixed.ne_str_bool (fin_bl I q (by simp))
    | int j => obtain ⟨t', rfl⟩ := ry; exact PySem.EqMixed.ne_str_int (fin_bl I q (by simp))
    | str j => obtain ⟨t', rfl⟩ := ry; exact ne_str (fin_bl I q (congrArg not dec_str))
    | _ => exact absurd (show false = true from hs) Bool.false_ne_true
  | byt i =>
    obtain ⟨t, rfl⟩ := rx
    cases y with
    | byt j => obtain ⟨t', rfl⟩ := ry; exact PySem.W.ne_bytes (fin_bl I q (congrArg not dec_byt))
    | _ => exact absurd (show false = true from hs) Bool.false_ne_true
  | _ => cases y <;> exact absurd (show false = true from hs) Bool.false_ne_true
theorem op_lt : OpR X (compareOp .Lt) (rI0 fun i j => .bl (decide (i < j))) := opB0 fun _ _ _ _ _ _ _ q => lt_int q
theorem op_le : OpR X (compareOp .LtE) (rI0 fun i j => .bl (decide (i ≤ j))) := opB0 fun _ _ _ _ _ _ _ q => le_int q
theorem op_gt : OpR X (compareOp .Gt) (rI0 fun i j => .bl (decide (j < i))) := opB0 fun _ _ _ _ _ _ _ q => gt_int q
theorem op_ge : OpR X (compareOp .GtE) (rI0 fun i j => .bl (decide (j ≤ i))) := opB0 fun _ _ _ _ _ _ _ q => ge_int q
theorem op_in_str : OpR X (compareOp .In) (fun x y H Q => ∃ i j, x = .str i ∧ y = .str j ∧ Q (.bl (!(Builtin.Str.occurrences j i 0 j.length 1).isEmpty)) H) := by
  intro pins s σ H x y v u Q I rx ry h
  obtain ⟨i, j, rfl, rfl, q⟩ := h
  obtain ⟨t, rfl⟩ := rx
  obtain ⟨t', rfl⟩ := ry
  exact in_str (fin_bl I q rfl)
theorem op_notin_str : OpR X (compareOp .NotIn) (fun x y H Q => ∃ i j, x = .str i ∧ y = .str j ∧ Q (.bl (!(!(Builtin.Str.occurrences j i 0 j.length 1).isEmpty))) H) := by
  intro pins s σ H x y v u Q I rx ry h
  obtain ⟨i, j, rfl, rfl, q⟩ := h
  obtain ⟨t, rfl⟩ := rx
  obtain ⟨t', rfl⟩ := ry
  exact notIn_str (fin_bl I q rfl)
theorem nomark (b : Expr) {op : CmpOp} (h : op ≠ .In := by decide) (h2 : op ≠ .NotIn := by decide) : behindInMarks op b = false := by
  have e1 : (op == CmpOp.In) = false := by cases op <;> first | rfl | exact absurd rfl h
  have e2 : (op == CmpOp.NotIn) = false := by cases op <;> first | rfl | exact absurd rfl h2
  cases b <;> simp [behindInMarks, e1, e2]
theorem pe_cmpR {op : CmpOp} {r : R2} (ho : OpR X (compareOp op) r) (ha : PE X a ta) (hb : PE X b tb) (hm : behindInMarks op b = false) : PE X (.Compare a [op] [b] pos) (tOp r ta tb) := by
  intro pins s σ H Q I h
  exact wpAny_Compare1 (binT ha hb I h fun v u s2 x y H2 I2 rx ry q => ho pins s2 σ H2 x y v u Q I2 rx ry q) hm
def tTest (t : TE) : TT := fun σ H Q => t σ H fun x H' => ∃ k, x = .bl k ∧ Q k H'
theorem pt_cmpR {op : CmpOp} {r : R2} (ho : OpR X (compareOp op) r) (ha : PE X a ta) (hb : PE X b tb) (hm : behindInMarks op b = false) : PT X (.Compare a [op] [b] pos) (tTest (tOp r ta tb)) := by
  intro pins s σ H Q I h
  refine wpAny_isTrue_Compare1 (thn (ha pins s σ H _ I h) fun v s1 ⟨x, H1, I1, r1, q1⟩ => thn (hb pins s1 σ H1 _ I1 q1) fun u s2 ⟨y, H2, I2, r2, q2⟩ =>
    thn (ho pins s2 σ H2 x y v u _ I2 r1 r2 q2) fun c s3 ⟨z, H3, I3, r3, k, e, q3⟩ => ?_) hm
  subst e
  cases r3
  exact wpAny_truthy_bool ⟨H3, I3, q3⟩
theorem line63 : (sizeLine : Nat) < 2 ^ 63 := by rw [sizeLine_eq]; decide
theorem op_add_str : OpR X (binaryOp .Add) (fun x y H Q => ∃ i j, x = .str i ∧ y = .str j ∧ i.length + j.length ≤ sizeLine ∧ Q (.str (i ++ j)) H) := by
  intro pins s σ H x y v u Q I rx ry h
  obtain ⟨i, j, rfl, rfl, hz, q⟩ := h
  obtain ⟨t, rfl⟩ := rx
  obtain ⟨t', rfl⟩ := ry
  exact add_str (fun t' tk => ⟨.str (i ++ j), H, I.tok _, ⟨_, rfl⟩, q⟩) hz
theorem vals1 {x : V} {us : List Value} (r : Vals [x] us) : ∃ u, us = [u] ∧ RelV x u := by
  cases r with
  | cons r1 r2 => cases r2; exact ⟨_, rfl, r1⟩
theorem call_abs : CallR X (.builtin "abs") (fun xs H Q => ∃ i, xs = [.int i] ∧ Q (.int (if i < 0 then -i else i)) H) := by
  intro pins s σ H xs us Q I r h
  obtain ⟨i, rfl, q⟩ := h
  obtain ⟨u, rfl, t, rfl⟩ := vals1 r
  exact call_abs_int fun u tk => ⟨.int (if i < 0 then -i else i), H, I.tok _, ⟨_, rfl⟩, q⟩
theorem call_str_int : CallR X (.type "str") (fun xs H Q => ∃ i, xs = [.int i] ∧ i.natAbs.log2 < 1920 ∧ Q (.str (toString i)) H) := by
  intro pins s σ H xs us Q I r h
  obtain ⟨i, rfl, hz, q⟩ := h
  obtain ⟨u, rfl, t, rfl⟩ := vals1 r
  exact PySem.P.str_of_int hz ⟨.str _, H, I.tok _, ⟨_, rfl⟩, q⟩
end
end L2
namespace L2
open PySem PySem.Spec PyProof.Rows
structure ObjM (h : Heap) (x dx C : Addr) (mA : Str → Option Value) : Prop where
  obj : h.get? x = some (PySem.W.instObj C dx)
  ns : h.Ns1 dx mA
  ne : dx ≠ x
theorem lookIn_ns {h : Heap} {dx : Addr} {mA : Str → Option Value} (n : h.Ns1 dx mA) : ∃ od, h.get? dx = some od ∧ ∀ name, PySem.W.lookIn name od = some (mA name) := by
  obtain ⟨o, es, ep, ho, hd, hk, _, hm⟩ := n
  refine ⟨o, ho, fun name => ?_⟩
  have e := hm name
  unfold nsFind findBy at e
  rw [← Array.find?_toList] at e
  unfold PySem.W.lookIn
  rw [hd]
  dsimp only
  split
  · rename_i y q
    rw [q] at e
    exact congrArg some e
  · rename_i q
    rw [q] at e
    have a : es.toList.any (·.refKey) = false := by
      rw [List.any_eq_false]
      intro y hy
      obtain ⟨z, t, hkey⟩ := hk y (Array.mem_toList_iff.mp hy)
      simp [DictEntry.refKey, hkey]
    have a' : ¬ es.toList.any (·.refKey) = true := by rw [a]; exact Bool.false_ne_true
    rw [if_neg a']
    exact congrArg some e
theorem ObjM.look {h : Heap} {x dx C : Addr} {mA : Str → Option Value} (I : ObjM h x dx C mA) : ∃ od, PySem.W.InstAt h x (PySem.W.instObj C dx) C (some od) ∧ ∀ name, PySem.W.lookIn name od = some (mA name) :=
  let ⟨od, ho, hl⟩ := lookIn_ns I.ns
  ⟨od, ⟨I.obj, rfl, rfl, ho⟩, hl⟩
section
variable {prog : Program} {w : World} {A : Around} {E : Value → Shared → Prop} {s : Shared} {K : PySem.W.Frag} {x dx C f : Addr} {mA : Str → Option Value} {name : Str} {v : Value}
end
section
variable {P : Program} {w : World} {H H' : Hp} {h h' : Heap} {a C dx : Addr} {fs fs' : List (Str × V)}
theorem ins_get (hok : HOk P w H h) (e : H a = some (.ins C dx fs)) : ∃ mA, ObjM h a dx C mA ∧ (∀ f, RelO (fs.lookup f) (mA f)) ∧ PySem.Within mA (fs.map (·.1)) ∧ fs.length ≤ 1000 ∧ H dx = some (.own a) := by
  obtain ⟨d, z, ne, ob, mA, n, r, q⟩ := (show ObjOk P w H h a (.ins C dx fs) from hok a _ e)
  exact ⟨mA, ⟨ob, n, ne⟩, r, q, z, d⟩
end
structure Cls (K : PySem.W.Frag) (C : Addr) : Prop where
  pg : PySem.W.plainGet K C Str.empty = true
  hd : PySem.W.hasDictIn K C = true
  po : PySem.W.plainOver K C = true
  sa : PySem.W.findIn K (.ref C) "__setattr__" = some (some (.builtin "object.__setattr__"))
theorem Cls.get {K : PySem.W.Frag} {C : Addr} (c : Cls K C) (f : Str) : PySem.W.plainGet K C f = true := c.pg
section
variable {X : Cx} {pins : List (Addr × Obj)} {σ : St} {H : Hp} {s : Shared} {a C dx : Addr} {fs : List (Str × V)} {f : Str} {v : V} {A : Around} {E : Value → Shared → Prop}
end
section
variable {X : Cx} {o e value : Expr} {f : Str} {pos pos' tpos : Pos} {ta tv : TE}
end
section
variable {X : Cx} {pins : List (Addr × Obj)} {σ : St} {H : Hp} {s : Shared} {A : Around} {E : Value → Shared → Prop} {Q : Value → Shared → Prop} {c : Value} {b : Bool}
inductive TyOf (K : PySem.W.Frag) (H : Hp) : V → Value → Prop where
  | non : TyOf K H .non (.type "NoneType")
  | bl (x : Bool) : TyOf K H (.bl x) (.type "bool")
  | int (i : Int) : TyOf K H (.int i) (.type "int")
  | str (x : Str) : TyOf K H (.str x) (.type "str")
  | flt (x : UInt64) : TyOf K H (.flt x) (.type "float")
  | lst {a : Addr} {xs : List V} (e : H a = some (.lst xs)) : TyOf K H (.ref a) (.type "list")
  | frz {a : Addr} {o : Obj} {xs : List V} (e : H a = some (.frz o (.lst xs))) : TyOf K H (.ref a) (.type "list")
  | tup {a : Addr} {xs : List V} (e : H a = some (.tup xs)) : TyOf K H (.ref a) (.type "tuple")
  | dK {a : Addr} {kvs : List (Key × V)} (e : H a = some (.dK kvs)) : TyOf K H (.ref a) (.type "dict")
  | dT {a : Addr} {kvs : List (List Key × V)} (e : H a = some (.dT kvs)) : TyOf K H (.ref a) (.type "dict")
  | ins {a C dx : Addr} {fs : List (Str × V)} (e : H a = some (.ins C dx fs)) (cl : Cls K C) (ha : PySem.W.findIn K (.ref C) "__class__" = some (some (.builtin "object.__class__")))
      (hn : PySem.W.specialIn K (.builtin "object.__class__") "__get__" = some (some (.builtin "getset_descriptor.__get__"))) (htk : PySem.W.takesIn K (.builtin "object.__class__") = some true)
      (hm : PySem.W.mroIn K C (.type "object") = some true) : TyOf K H (.ref a) (.ref C)
theorem isinst_ok {x : V} {u t : Value} (I : Inv X pins σ H s) (rx : RelV x u) (ty : TyOf X.K H x t) (e : PySem.W.kitOne X.K t c = some b) (h : ∀ tk, Q (.bool b) { s with toks := tk }) :
    wpAny (model X.prog X.w) A (call (.builtin "isinstance") [u, c]) Q E s := by
  cases ty with
  | non => cases (show u = Value.none from rx); exact PySem.W.kia_one PySem.W.kitx_none I.kIn True.intro e (fun z => nomatch z) h
  | bl y => cases (show u = Value.bool y from rx); exact PySem.W.kia_one PySem.W.kitx_bool I.kIn True.intro e (fun z => nomatch z) h
  | int i => obtain ⟨t, q⟩ := (show ∃ t, u = Value.int i t from rx); cases q; exact PySem.W.kia_one PySem.W.kitx_int I.kIn True.intro e (fun z => nomatch z) h
  | str y => obtain ⟨t, q⟩ := (show ∃ t, u = Value.str y t from rx); cases q; exact PySem.W.kia_one PySem.W.kitx_str I.kIn True.intro e (fun z => nomatch z) h
  | flt y => obtain ⟨t, q⟩ := (show ∃ t, u = Value.float y t from rx); cases q; exact PySem.W.kia_one PySem.W.kitx_float I.kIn True.intro e (fun z => nomatch z) h
  | @lst a xs ea =>
    cases (show u = Value.ref a from rx)
    obtain ⟨_, _, n, _, h1⟩ := (show ObjOk X.prog X.w H s.heap a (.lst xs) from I.hok a _ ea)
    exact PySem.W.kia_one PySem.W.kitx_list I.kIn ⟨_, h1, rfl⟩ e (fun z => nomatch z) h
  | @frz a ob xs ea =>
    cases (show u = Value.ref a from rx)
    obtain ⟨_, _, _, n, _, h1⟩ := (show ObjOk X.prog X.w H s.heap a (.frz ob (.lst xs)) from I.hok a _ ea)
    exact PySem.W.kia_one PySem.W.kitx_list I.kIn ⟨_, h1, rfl⟩ e (fun z => nomatch z) h
  | @tup a xs ea =>
    cases (show u = Value.ref a from rx)
    obtain ⟨_, _, _, p⟩ := (show ObjOk X.prog X.w H s.heap a (.tup xs) from I.hok a _ ea)
    obtain ⟨o, h1, h2, _⟩ := p
    exact PySem.W.kia_one PySem.W.kitx_tuple I.kIn ⟨o, h1, h2⟩ e (fun z => nomatch z) h
  | @dK a kvs ea =>
    cases (show u = Value.ref a from rx)
    obtain ⟨_, _, vs, _, p⟩ := (show ObjOk X.prog X.w H s.heap a (.dK kvs) from I.hok a _ ea)
    obtain ⟨o, es, ep, h1, h2, _⟩ := p
    exact PySem.W.kia_one PySem.W.kitx_dict I.kIn ⟨o, h1, h2.1⟩ e (fun z => nomatch z) h
  | @dT a kvs ea =>
    cases (show u = Value.ref a from rx)
    obtain ⟨_, _, xs, _, o, es, ep, h1, h2, _⟩ := (show ObjOk X.prog X.w H s.heap a (.dT kvs) from I.hok a _ ea)
    exact PySem.W.kia_one PySem.W.kitx_dict I.kIn ⟨o, h1, h2.1⟩ e (fun z => nomatch z) h
  | @ins a C dx fs ea cl ha hn htk hm =>
    cases (show u = Value.ref a from rx)
    obtain ⟨mA, O, _⟩ := ins_get I.hok ea
    obtain ⟨od, J, _⟩ := O.look
    exact PySem.W.kia_one (PySem.W.kitx_own (cl.get _) cl.hd ha hn htk hm) I.kIn J e (fun z => nomatch z) h
end
end L2
namespace L2
open PySem PySem.Spec PyProof.Rows
structure Room (k : Nat) (A : Around) : Prop where
  hd : A.handled = none
  dp : A.depth + 3 * k + 5 < recursionLimit
  un : A.units + 16 * k + 200 < cLine
theorem Room.mono {j k : Nat} {A : Around} (r : Room k A) (h : j ≤ k) : Room j A := ⟨r.hd, by have := r.dp; omega, by have := r.un; omega⟩
theorem Room.deeper {k : Nat} {A : Around} (r : Room (k + 1) A) (env : Env) : Room k (A.deeper env) :=
  ⟨r.hd, by have := r.dp; show A.depth + 1 + 3 * k + 5 < _; omega, by have := r.un; show A.units + 3 + 16 * k + 200 < _; omega⟩
theorem Room.depth {k : Nat} {A : Around} (r : Room k A) : A.depth < recursionLimit := by have := r.dp; omega
theorem Room.units {k : Nat} {A : Around} (r : Room k A) : A.units + 64 < cLine := by have := r.un; omega
def tNil : TA := fun _ H Q => Q [] H
def tCons (ta : TE) (tr : TA) : TA := fun σ H Q => ta σ H fun x H1 => tr σ H1 fun xs H2 => Q (x :: xs) H2
section
variable {X : Cx} {e : Expr} {es : List Expr} {te : TE} {t : TA} {pos : Pos}
theorem pa_nil : PA X [] tNil := fun _ _ _ _ H Q I h => Calls.spliced_nil ⟨[], H, I, .nil, h⟩
theorem pa_cons (ha : PE X e te) (hr : PA X es t) (hs : starEach (e :: es) X.env = (false, eval e X.env) :: starEach es X.env := by rfl) : PA X (e :: es) (tCons te t) := by
  intro pos pins s σ H Q I h
  rw [hs]
  show wpAny _ _ (spliced ((false, eval e X.env) :: backTo pos (starEach es X.env))) _ _ s
  refine Calls.spliced_cons (thn (ha pins s σ H _ I h) fun u s1 ⟨x, H1, I1, r1, q1⟩ => ?_)
  exact thn (hr pos pins s1 σ H1 _ I1 q1) fun us s2 ⟨xs, H2, I2, r2, q2⟩ => ⟨x :: xs, H2, I2, .cons r1 r2, q2⟩
def tTup (t : TA) : TE := fun σ H Q => t σ H fun xs H1 => xs.length ≤ sizeLine ∧ ∀ p, H1 p = none → Q (.ref p) (upd H1 p (.tup xs))
def tLst (t : TA) : TE := fun σ H Q => t σ H fun xs H1 => xs.length ≤ sizeLine ∧ ∀ p, H1 p = none → Q (.ref p) (upd H1 p (.lst xs))
theorem pe_tup {x1} (h : PA X es t) : PE X (.Tuple es x1 pos) (tTup t) := by
  intro pins s σ H Q I hq
  refine wpAny_Tuple_spliced (thn (h pos pins s σ H _ I hq) fun us s1 ⟨xs, H1, I1, r, z, q⟩ => ⟨by rw [← r.length]; exact z, ?_⟩)
  have hf : H1 s1.heap.objs.size = none := I1.hok.fresh (Nat.le_refl _)
  refine ⟨.ref s1.heap.objs.size, upd H1 s1.heap.objs.size (.tup xs), I1.laid (t' := s1.toks) (fun b u e => Heap.get?_push_of_some _ e) (Nat.le_refl _) ?_, rfl, q _ hf⟩
  exact ⟨z, us, r, ⟨_, Heap.get?_push_size _ rfl, rfl, _, rfl⟩⟩
theorem pe_lst (h : PA X es t) : PE X (.List es pos) (tLst t) := by
  intro pins s σ H Q I hq
  refine wpAny_List_spliced (thn (h pos pins s σ H _ I hq) fun us s1 ⟨xs, H1, I1, r, z, q⟩ => ⟨by rw [← r.length]; exact z, ?_⟩)
  have hf : H1 s1.heap.objs.size = none := I1.hok.fresh (Nat.le_refl _)
  refine ⟨.ref s1.heap.objs.size, upd H1 s1.heap.objs.size (.lst xs), I1.laid (t' := s1.toks) (fun b u e => Heap.get?_push_of_some _ e) (Nat.le_refl _) ?_, rfl, q _ hf⟩
  exact ⟨z, us, 0, r, Heap.get?_push_size _ rfl⟩
end
abbrev Sp := List V → Hp → VK → XK → Prop
abbrev CXT := List Env → Hp → Shared → XK → Value → Shared → Prop
structure Env0 (P : Program) (w : World) (K : PySem.W.Frag) (mg : Str → Option Value) (base : Heap) (A : Around) (outer : List Env) (s : Shared) (H : Hp) : Prop where
  frames : A.frames = some outer
  mod : Mod K mg base
  bs : ∀ b o, base.get? b = some o → s.heap.get? b = some o ∧ H b = none
  bsz : base.objs.size ≤ s.heap.objs.size
  funs : s.heap.FunFrames base outer
  frf : ∀ b ∈ frs outer, H b = none
  hok : HOk P w H s.heap
  bare : AllBare s.gens
def CE (outer : List Env) (P : Program) (w : World) (H : Hp) (s : Shared) (Q : VK) (u : Value) (s' : Shared) : Prop :=
  ∃ v H', s'.os = s.os ∧ AllBare s'.gens ∧ Un (frs outer) [] H H' s.heap s'.heap ∧ HOk P w H' s'.heap ∧ RelV v u ∧ Q v H'
def CR (CX : CXT) (outer : List Env) (P : Program) (w : World) (H : Hp) (s : Shared) (Q : VK) (E : XK) (r : Result) (s' : Shared) : Prop :=
  match r with
  | .ok (.ret u) => CE outer P w H s Q u s'
  | .ok _ => False
  | .error e => CX outer H s E e s'
structure FnOk (P : Program) (w : World) (K : PySem.W.Frag) (mg : Str → Option Value) (base : Heap) (CX : CXT) (k : Nat) (f : Addr) (fd : FuncData) (ps : List Str) (sp : Sp) : Prop where
  len : ∀ vs H Q E, sp vs H Q E → vs.length = ps.length
  run : ∀ (A : Around) (outer : List Env) (s : Shared) (H : Hp) (args : Args) (us : List Value) (vs : List V) (Q : VK) (E : XK), Room k A → Env0 P w K mg base A outer s H → BindsTo s fd args (ps.zip us) → Vals vs us → sp vs H Q E →
    codeAny (model P w) A (.call (.ref f) args) (CR CX outer P w H s Q E) s
theorem FnOk.mono {P : Program} {w : World} {K : PySem.W.Frag} {mg : Str → Option Value} {base : Heap} {CX : CXT} {j k : Nat} {f : Addr} {fd : FuncData} {ps : List Str} {sp : Sp} (F : FnOk P w K mg base CX j f fd ps sp) (h : j ≤ k) :
    FnOk P w K mg base CX k f fd ps sp := ⟨F.len, fun A outer s H args us vs Q E hr => F.run A outer s H args us vs Q E (hr.mono h)⟩
section
variable {X : Cx} {pins : List (Addr × Obj)} {σ : St} {H : Hp} {s s' : Shared}
theorem Inv.env0 (I : Inv X pins σ H s) : Env0 X.prog X.w X.K X.mg X.base X.A X.stack s H :=
  ⟨I.ok.frames, I.ok.mod, I.bs, Nat.le_trans I.ok.bsz I.sz, I.stack, I.stkFree, I.hok, I.bare⟩
theorem Inv.after {Q : VK} {u : Value} (I : Inv X pins σ H s) (h : CE X.stack X.prog X.w H s Q u s') : EP X pins σ Q u s' := by
  obtain ⟨v, H', os, bare, un, hok, r, q⟩ := h
  obtain ⟨hh, g, d, t, os'⟩ := s'
  obtain rfl : os' = s.os := os
  exact ⟨v, H', I.call (h' := hh) (g' := g) (d' := d) (t' := t) (ch := []) un hok bare (fun b z => absurd z (by simp)), r, q⟩
end
def tCall (sp : Sp) (dvs : List V) (E : XK) (t : TA) : TE := fun σ H Q => t σ H fun vs H1 => sp (vs ++ dvs) H1 Q E
def Binds (K : PySem.W.Frag) (fd : FuncData) (ps : List Str) (ds : List Value) : Prop :=
  ∀ (s : Shared) (us : List Value), K.In s.heap → (us ++ ds).length = ps.length → BindsTo s fd ⟨us, []⟩ (ps.zip (us ++ ds))
theorem Binds.all {K : PySem.W.Frag} {fd : FuncData} {ps : List Str} (h : ∀ us : List Value, us.length = ps.length → bindArgs fd ⟨us, []⟩ = pure (ps.zip us)) : Binds K fd ps [] := fun s us _ hl => by
  rw [List.append_nil] at hl ⊢
  exact .of_eq (h us hl)
def Passes (CX : CXT) (X : Cx) (E : XK) : Prop := ∀ (pins : List (Addr × Obj)) (σ : St) (H : Hp) (s : Shared) (e : Value) (s' : Shared), Inv X pins σ H s → CX X.stack H s E e s' → X.xe e s'
section
variable {X : Cx} {CX : CXT} {k : Nat} {f C : Addr} {fd : FuncData} {ps : List Str} {sp : Sp} {dvs : List V} {ds : List Value} {E : XK} {x m : Str} {p pos apos : Pos} {e o : Expr} {es : List Expr} {ta : TE} {t : TA}
theorem run_fn {pins : List (Addr × Obj)} {σ : St} {H : Hp} {s : Shared} {Q : VK} {us : List Value} {vs : List V} (F : FnOk X.prog X.w X.K X.mg X.base CX k f fd ps sp) (hr : Room k X.A) (hb : Binds X.K fd ps ds) (hd : Vals dvs ds) (hx : Passes CX X E)
    (I : Inv X pins σ H s) (r : Vals vs us) (h : sp (vs ++ dvs) H Q E) : wpAny (model X.prog X.w) X.A (call (.ref f) us) (EP X pins σ Q) X.xe s := by
  have r2 : Vals (vs ++ dvs) (us ++ ds) := r.append hd
  have hl : (us ++ ds).length = ps.length := by rw [← r2.length]; exact F.len _ _ _ _ h
  refine wpAny_call (codeAny_mono (F.run X.A X.stack s H ⟨us, []⟩ (us ++ ds) (vs ++ dvs) Q E hr I.env0 (hb s us I.kIn hl) r2 h) fun r s' hq => ?_)
  cases r with
  | error e => exact hx pins σ H s e s' I hq
  | ok fl =>
    cases fl with
    | ret u => exact I.after hq
    | next => exact False.elim hq
    | brk => exact False.elim hq
    | cont => exact False.elim hq
theorem pe_call (F : FnOk X.prog X.w X.K X.mg X.base CX k f fd ps sp) (hr : Room k X.A) (hg : Gl X x) (hm : X.mg x = some (.ref f)) (hk : PySem.W.keepIn X.K (.ref f) = true) (hb : Binds X.K fd ps ds) (hd : Vals dvs ds) (hx : Passes CX X E)
    (ha : PA X (e :: es) t) (hdb : (x == ("__debug__" : Str)) = false := by decide) (he : starEach (e :: es) X.env = (false, eval e X.env) :: starEach es X.env := by rfl) (hpl : (backTo pos (starEach es X.env)).any (·.1) = false := by rfl) :
    PE X (.Call (.Name x p) (e :: es) [] pos) (tCall sp dvs E t) := by
  intro pins s σ H Q I h
  refine wpAny_Call_Name_kw (ld_glob I hg hm ?_ hdb)
  refine PySem.W.callWith_K (h₀ := X.base) I.ok.mod.kin hk (thn (ha pos pins s σ H _ I h) fun us s1 ⟨vs, H1, I1, r, q⟩ => ⟨I1.kIn, ?_⟩) he hpl
  exact run_fn F hr hb hd hx I1 r q
end
section
variable {X : Cx} {CX : CXT} {k : Nat} {f C : Addr} {fd : FuncData} {ps ks : List Str} {sp : Sp} {E : XK} {x m : Str} {p pos apos kpos : Pos} {e o : Expr} {es : List Expr} {kws : List Keyword} {te ta : TE} {t tk : TA} {nm : Option Str}
variable {g : List Value → List Value → List Value} {gV : List V → List V → List V}
end
structure FnScope (N P : List Str) (sc : Scope) : Prop where
  kind : sc.kind = .function
  co : sc.isCoroutine = false
  gen : sc.isGenerator = false
  nd : N.Nodup
  pre : N.take P.length = P
  par : ∀ x ∈ P, sc.names.lookup x = some .local ∨ sc.names.lookup x = some .cell
  nofree : ∀ y ∈ sc.names, y.2 ≠ .free
theorem bindL_out {kindOf : Str → Option NameKind} {x : Str} : ∀ {binds : List (Str × Value)} {m : Str → Option Value}, (∀ v, (x, v) ∉ binds) → bindL kindOf binds m x = m x
  | [], _, _ => rfl
  | (n, v) :: r, m, h => by
    unfold bindL
    rw [bindL_out fun w hw => h w (List.mem_cons_of_mem _ hw)]
    split
    · have : x ≠ n := by rintro rfl; exact h v List.mem_cons_self
      simp [this]
    · rfl
theorem bindC_out {kindOf : Str → Option NameKind} {x : Str} : ∀ {binds : List (Str × Value)} {m : Str → Option Value}, (∀ v, (x, v) ∉ binds) → bindC kindOf binds m x = m x
  | [], _, _ => rfl
  | (n, v) :: r, m, h => by
    unfold bindC
    rw [bindC_out fun w hw => h w (List.mem_cons_of_mem _ hw)]
    split
    · rfl
    · have : x ≠ n := by rintro rfl; exact h v List.mem_cons_self
      simp [this]
theorem bindL_get {kindOf : Str → Option NameKind} {x : Str} {v : Value} : ∀ {P : List Str} {vs : List Value} {i : Nat} {m : Str → Option Value}, P.Nodup → P[i]? = some x → vs[i]? = some v → kindOf x = some .local →
    bindL kindOf (P.zip vs) m x = some v
  | [], _, _, _, _, h, _, _ => by simp at h
  | _ :: _, [], _, _, _, _, h, _ => by simp at h
  | p :: P, w :: vs, 0, m, nd, h1, h2, hk => by
    simp at h1 h2; subst h1; subst h2
    show bindL kindOf ((p, w) :: P.zip vs) m p = _
    unfold bindL
    rw [bindL_out fun v hv => (List.nodup_cons.mp nd).1 (List.of_mem_zip hv).1, if_pos hk]
    simp
  | p :: P, w :: vs, i + 1, m, nd, h1, h2, hk => by
    show bindL kindOf ((p, w) :: P.zip vs) m x = _
    unfold bindL
    exact bindL_get (i := i) (List.nodup_cons.mp nd).2 (by simpa using h1) (by simpa using h2) hk
theorem bindC_get {kindOf : Str → Option NameKind} {x : Str} {v : Value} : ∀ {P : List Str} {vs : List Value} {i : Nat} {m : Str → Option Value}, P.Nodup → P[i]? = some x → vs[i]? = some v → kindOf x ≠ some .local →
    bindC kindOf (P.zip vs) m x = some v
  | [], _, _, _, _, h, _, _ => by simp at h
  | _ :: _, [], _, _, _, _, h, _ => by simp at h
  | p :: P, w :: vs, 0, m, nd, h1, h2, hk => by
    simp at h1 h2; subst h1; subst h2
    show bindC kindOf ((p, w) :: P.zip vs) m p = _
    unfold bindC
    rw [bindC_out fun v hv => (List.nodup_cons.mp nd).1 (List.of_mem_zip hv).1, if_neg hk]
    simp
  | p :: P, w :: vs, i + 1, m, nd, h1, h2, hk => by
    show bindC kindOf ((p, w) :: P.zip vs) m x = _
    unfold bindC
    exact bindC_get (i := i) (List.nodup_cons.mp nd).2 (by simpa using h1) (by simpa using h2) hk
def start (N : List Str) (vs : List V) : St := vs.map some ++ List.replicate (N.length - vs.length) none
def cxOf (CX : CXT) (P : Program) (w : World) (K : PySem.W.Frag) (mg : Str → Option Value) (base : Heap) (N : List Str) (qual : Str) (scope : Scope) (f : Addr) (cd : Value) (A : Around) (outer : List Env) (s : Shared) (H : Hp) (E : XK) : Cx where
  prog := P
  w := w
  K := K
  mg := mg
  base := base
  A := A.deeper (envOfC qual scope s.heap.objs.size f cd)
  N := N
  s₀ := s
  H₀ := H
  env := envOfC qual scope s.heap.objs.size f cd
  outer := outer
  stack := envOfC qual scope s.heap.objs.size f cd :: outer
  ex := []
  calm := true
  fn := fun _ => true
  pn := []
  xe := fun e s' => wpAny (model P w) (A.deeper (envOfC qual scope s.heap.objs.size f cd)) (leaving (envOfC qual scope s.heap.objs.size f cd) e) (fun _ s'' => CX outer H s E e s'') (fun e' s'' => CX outer H s E e' s'') s'
theorem cell_has {sc : Scope} {n : Nat} {x : Str} (h : sc.names.lookup x = some .cell) : ∃ c, (cellsFrom n sc.names []).lookup x = some c := by
  have q := PySem.W.cellsFrom_some sc.names n [] (.inl h)
  exact Option.isSome_iff_exists.mp q
theorem inv_start {CX : CXT} {P : Program} {w : World} {K : PySem.W.Frag} {mg : Str → Option Value} {base : Heap} {N ps : List Str} {qual : Str} {scope : Scope} {f : Addr} {cd : Value} {A : Around} {outer : List Env} {s s1 : Shared} {H : Hp} {E : XK} {us : List Value} {vs : List V}
    (S : FnScope N ps scope) (hd : A.handled = none) (e0 : Env0 P w K mg base A outer s H) (hl : vs.length = ps.length) (r : Vals vs us)
    (x : InCallC s s.heap.objs.size (bindL (envOfC qual scope s.heap.objs.size f cd).kindOf (ps.zip us) fun _ => none) (cellsFrom (s.heap.objs.size + 1) scope.names []) (bindC (envOfC qual scope s.heap.objs.size f cd).kindOf (ps.zip us) fun _ => none) s1) :
    Inv (cxOf CX P w K mg base N qual scope f cd A outer s H E) [] (start N vs) H s1 := by
  have hpl : ps.length ≤ N.length := by have := congrArg List.length S.pre; rw [List.length_take] at this; omega
  obtain ⟨h1, tk, rfl, hk⟩ := x.done
  have noA : ∀ b : Addr, b ∉ (cxOf CX P w K mg base N qual scope f cd A outer s H E).ex := fun b z => absurd (show b ∈ ([] : List Addr) from z) (by simp)
  refine ⟨⟨e0.mod, S.kind, rfl, rfl, Nat.le_refl _, fun y z c h1 h2 => ?_, fun y hy => ?_, fun y c _ h => ?_, fun _ => hd, Around.frames_deeper e0.frames, .inr ⟨rfl, rfl⟩, fun b z => absurd z (noA b), e0.bs, e0.bsz, fun b _ _ => noA b, fun b z => absurd z (noA b), e0.funs, e0.frf⟩,
    rfl, e0.bare, Un.kept hk, ⟨_, x.toInCall.ns, fun i y v h1 h2 h3 => ?_⟩, fun y c h => ⟨_, x.cell y c h⟩, e0.hok.fresh (Nat.le_refl _), fun y c h => ?_, fun p hp => absurd (show p ∈ ([] : List (Addr × Obj)) from hp) (by simp), e0.hok.kept hk, ?_⟩
  · exact name_of_addr x.apart (PySem.mem_of_lookup h1) (PySem.mem_of_lookup h2)
  · have hy : scope.names.lookup y = some .cell ∨ scope.names.lookup y = some .free := hy
    rcases hy with hy | hy
    · exact cell_has hy
    · exact absurd rfl (S.nofree _ (PySem.mem_of_lookup hy))
  · exact Nat.le_of_lt (x.above y c (PySem.mem_of_lookup h))
  · have hi : i < vs.length := by
      unfold start at h2
      by_cases hi : i < vs.length
      · exact hi
      · rw [List.getElem?_append_right (by simpa using hi)] at h2
        rw [List.getElem?_replicate] at h2
        split at h2 <;> cases h2
    have ha : vs[i]? = some v := by
      unfold start at h2
      rw [List.getElem?_append_left (by simpa using hi), List.getElem?_map] at h2
      cases e : vs[i]? with
      | none => rw [e] at h2; cases h2
      | some a => rw [e] at h2; cases h2; rfl
    obtain ⟨u, hu, rv⟩ := r.get ha
    have hp : ps[i]? = some y := by
      rw [← S.pre, List.getElem?_take_of_lt (by omega)]; exact h1
    have ndP : ps.Nodup := by rw [← S.pre]; exact S.nd.sublist (List.take_sublist _ _)
    refine ⟨u, rv, ?_⟩
    rcases S.par y (List.mem_of_getElem? hp) with k | k
    · exact .inl ⟨k, bindL_get ndP hp hu k⟩
    · obtain ⟨c, e⟩ := cell_has (n := s.heap.objs.size + 1) k
      refine .inr ⟨.inl k, c, e, ?_⟩
      have q := x.cell y c e
      rw [bindC_get ndP hp hu (by show scope.names.lookup y ≠ _; rw [k]; decide)] at q
      exact q
  · exact e0.hok.fresh (Nat.le_of_lt (x.above y c (PySem.mem_of_lookup h)))
  · unfold start
    show _ = N.length
    rw [List.length_append, List.length_map, List.length_replicate]
    omega
theorem fn_of {CX : CXT} {P : Program} {w : World} {K : PySem.W.Frag} {mg : Str → Option Value} {base : Heap} {k : Nat} {f : Addr} {name qual : Str} {params : Arguments} {body : List Stmt} {scope : Scope} {dV kV doc pm cdv ct oc : Value} {an od : Option Addr}
    {osl : Array (Option Value)} {N ps : List Str} {sp : Sp} (lk : K.lookup f = some ⟨oc, od, .func (PySem.W.fnOf name qual params body scope dV kV doc pm an cdv ct), osl⟩) (hcd : PySem.W.codeIn K cdv qual = true) (S : FnScope N ps scope)
    (len : ∀ vs H Q E, sp vs H Q E → vs.length = ps.length)
    (hbody : ∀ (A : Around) (outer : List Env) (s : Shared) (H : Hp) (vs : List V) (Q : VK) (E : XK), Room k (A.deeper (envOfC qual scope s.heap.objs.size f cdv)) → sp vs H Q E →
      ∃ t, PSs (cxOf CX P w K mg base N qual scope f cdv A outer s H E) body t ∧ t { nx := fun _ H' => Q .non H', rt := Q } (start N vs) H) :
    FnOk P w K mg base CX (k + 1) f (PySem.W.fnOf name qual params body scope dV kV doc pm an cdv ct) ps sp := by
  refine ⟨len, fun A outer s H args us vs Q E hr e0 hb r hsp => ?_⟩
  have hl := len _ _ _ _ hsp
  have KX : K.In s.heap := e0.mod.kin.keeps fun b o e => (e0.bs b o e).1
  have lim : s.heap.NoLimit := e0.mod.nolimit.keeps fun b o e => (e0.bs b o e).1
  have hkind : ∀ y ∈ ps.zip us, scope.names.lookup y.1 = some .local ∨ (scope.names.lookup y.1 = some .cell ∧ ((cellsFrom (s.heap.objs.size + 1) scope.names []).lookup y.1).isSome = true) := fun ⟨n, v⟩ hy => by
    rcases S.par n (List.of_mem_zip hy).1 with q | q
    · exact .inl q
    · exact .inr ⟨q, PySem.W.cellsFrom_some _ _ _ (.inl q)⟩
  refine codeAny_call_function hr.depth (KX _ _ lk) rfl S.co S.gen rfl (PySem.W.codeRec_of KX hcd) (hb _ _ _ _ ?_)
  refine wpAny_newFunctionEnv_cells S.kind hkind fun env he s1 x => ?_
  subst he
  refine ⟨lim.keeps x.toInCall.keep, codeAny_func ?_⟩
  obtain ⟨t, ht, hq⟩ := hbody A outer s H vs Q E (hr.deeper _) hsp
  have I : Inv (cxOf CX P w K mg base N qual scope f cdv A outer s H E) [] (start N vs) H s1 := inv_start S hr.hd e0 hl r x
  refine wpAny_mono (ht [] s1 (start N vs) H _ I hq) (fun fl s' hs => ?_) fun e s' hs => hs
  have fin : ∀ {σ' : St} {H' : Hp} {v : V} {u : Value}, Inv (cxOf CX P w K mg base N qual scope f cdv A outer s H E) [] σ' H' s' → RelV v u → Q v H' → CE outer P w H s Q u s' :=
    fun {σ' H' v u} J rv q => ⟨v, H', J.os, J.bare, J.base, J.hok, rv, q⟩
  cases fl with
  | ret u =>
    obtain ⟨v, σ', H', J, rv, q⟩ := hs
    exact fin J rv q
  | next =>
    obtain ⟨σ', H', J, q⟩ := hs
    exact fin (v := V.non) (u := Value.none) J rfl q
  | brk =>
    obtain ⟨_, _, _, q⟩ := hs
    exact False.elim q
  | cont =>
    obtain ⟨_, _, _, q⟩ := hs
    exact False.elim q
end L2
namespace L2
open PySem PySem.Spec PyProof.Rows
section
variable {X : Cx} {x : Str} {p pos : Pos} {e : Expr} {es : List Expr} {t : TA} {id T : String} {r : List V → Hp → VK → Prop}
def tCB (r : List V → Hp → VK → Prop) (t : TA) : TE := fun σ H Q => t σ H fun vs H1 => r vs H1 Q
theorem pe_callB (hc : CallR X (.builtin id) r) (hg : Gl X x) (hm : X.mg x = none) (hv : bootBuiltins x = some (.builtin id)) (ha : PA X (e :: es) t) (hn : x ≠ "__name__" := by decide) (hdb : (x == ("__debug__" : Str)) = false := by decide)
    (he : starEach (e :: es) X.env = (false, eval e X.env) :: starEach es X.env := by rfl) (hpl : (backTo pos (starEach es X.env)).any (·.1) = false := by rfl) : PE X (.Call (.Name x p) (e :: es) [] pos) (tCB r t) := by
  intro pins s σ H Q I h
  refine wpAny_Call_Name_kw (ld_blt I hg hm hv ?_ hn hdb)
  exact PyProof.Rows.callWith_builtin1 (thn (ha pos pins s σ H _ I h) fun us s1 ⟨vs, H1, I1, r1, q1⟩ => hc pins s1 σ H1 vs us Q I1 r1 q1) he hpl
theorem pe_callTy (hc : CallR X (.type T) r) (hg : Gl X x) (hm : X.mg x = none) (hv : bootBuiltins x = some (.type T)) (ha : PA X (e :: es) t) (hn : x ≠ "__name__" := by decide) (hdb : (x == ("__debug__" : Str)) = false := by decide)
    (he : starEach (e :: es) X.env = (false, eval e X.env) :: starEach es X.env := by rfl) (hpl : (backTo pos (starEach es X.env)).any (·.1) = false := by rfl) : PE X (.Call (.Name x p) (e :: es) [] pos) (tCB r t) := by
  intro pins s σ H Q I h
  refine wpAny_Call_Name_kw (ld_blt I hg hm hv ?_ hn hdb)
  exact PyProof.Rows.callWith_type1 (thn (ha pos pins s σ H _ I h) fun us s1 ⟨vs, H1, I1, r1, q1⟩ => hc pins s1 σ H1 vs us Q I1 r1 q1) he hpl
end
end L2
namespace HT
open PySem PyProof.Rows
section
open PySem.SeqAt
open PySem.AutoSeq1 (wpAny_loadPart')
open PySem.MeetsSeq PySem.MeetsSeq2 PySem.MeetsSeq3
end
section
variable {prog : Program} {w : World} {A : Around} {E : Value → Shared → Prop} {s : Shared}
end
end HT
namespace L2
open PySem PySem.Spec PyProof.Rows
abbrev TO := St → Hp → (Option Int → Hp → Prop) → Prop
def PO (X : Cx) (e : Option Expr) (t : TO) : Prop :=
  ∀ (pins : List (Addr × Obj)) (s : Shared) (σ : St) (H : Hp) (Q : Option Int → Hp → Prop), Inv X pins σ H s → t σ H Q →
    wpAny (model X.prog X.w) X.A (evalPart e X.env) (fun u s' => ∃ o H', Inv X pins σ H' s' ∧ IsPart u o ∧ Q o H') X.xe s
def tNoPart : TO := fun _ H Q => Q none H
def tPart (t : TE) : TO := fun σ H Q => t σ H fun x H1 => ∃ i, x = .int i ∧ Q (some i) H1
section
variable {X : Cx} {e : Expr} {te : TE} {lo hi : Option Expr} {tl th : TO} {pos p2 : Pos}
theorem po_none : PO X none tNoPart := by
  intro pins s σ H Q I h
  rw [evalPart_none]
  exact wpAny_pure ⟨none, H, I, .none, h⟩
theorem po_some (h : PE X e te) : PO X (some e) (tPart te) := by
  intro pins s σ H Q I hw
  rw [evalPart_some]
  refine thn (h pins s σ H _ I hw) fun u s1 ⟨x, H1, I1, r1, q1⟩ => ?_
  obtain ⟨i, rfl, q⟩ := q1
  obtain ⟨t, rfl⟩ := r1
  exact ⟨some i, H1, I1, .int i t, q⟩
def SlR (X : Cx) (r : V → Option Int → Option Int → Hp → VK → Prop) : Prop :=
  ∀ (pins : List (Addr × Obj)) (s : Shared) (σ : St) (H : Hp) (x : V) (v vl vu : Value) (lo hi : Option Int) (sl : Addr) (Q : VK), Inv X pins σ H s → RelV x v → s.heap.IsSliceOf sl vl vu .none → IsPart vl lo → IsPart vu hi → r x lo hi H Q →
    ∃ T id, typeLookup (.type T) "__getitem__" = pure (some (.builtin id)) ∧ s.TypeIs v T ∧ wpAny (model X.prog X.w) X.A (getItem v (.ref sl)) (EP X pins σ Q) X.xe s
def tSl (r : V → Option Int → Option Int → Hp → VK → Prop) (te : TE) (tl th : TO) : TE := fun σ H Q => te σ H fun x H1 => tl σ H1 fun l H2 => th σ H2 fun u H3 => r x l u H3 Q
theorem pe_slice {r : V → Option Int → Option Int → Hp → VK → Prop} (hr : SlR X r) (he : PE X e te) (hl : PO X lo tl) (hu : PO X hi th) : PE X (.Subscript e (.Slice lo hi none p2) pos) (tSl r te tl th) := by
  intro pins s σ H Q I h
  refine Subscript_ (thn (he pins s σ H _ I h) fun v s1 ⟨x, H1, I1, r1, q1⟩ => ?_)
  refine wpAny_Slice (thn (hl pins s1 σ H1 _ I1 q1) fun vl s2 ⟨l, H2, I2, pl, q2⟩ => thn (hu pins s2 σ H2 _ I2 q2) fun vu s3 ⟨u, H3, I3, pu, q3⟩ => ?_)
  rw [evalPart_none]
  refine wpAny_pure ?_
  have I4 : Inv X pins σ H3 { s3 with heap := s3.heap.push { cls := .type "slice", data := .fields #[vl, vu, .none] } } := I3.kept (t' := s3.toks) fun b ob q => Heap.get?_push_of_some _ q
  obtain ⟨T, id, hT, ht, hg⟩ := hr pins { s3 with heap := s3.heap.push { cls := .type "slice", data := .fields #[vl, vu, .none] } } σ H3 x v vl vu l u s3.heap.objs.size Q I4 r1 (Heap.IsSliceOf.new ..) pl pu q3
  show wpAny (model X.prog X.w) X.A (subscriptTail e (.Slice lo hi none p2) v (.ref s3.heap.objs.size)) (EP X pins σ Q) X.xe { s3 with heap := s3.heap.push { cls := .type "slice", data := .fields #[vl, vu, .none] } }
  exact tail_any (ops := [.ref s3.heap.objs.size, v]) ht hT hg (by with_unfolding_all rfl)
end
end L2
namespace L2
open PySem PySem.Spec PyProof.Rows
def ixN (n : Nat) (i : Int) : Option Nat := if 0 ≤ i then (if i < n then some i.toNat else none) else if -(n : Int) ≤ i then some (i + n).toNat else none
def atI {α : Type} (xs : List α) (i : Int) : Option α := (ixN xs.length i).bind fun j => xs[j]?
theorem ixN_seq {n : Nat} {i : Int} {j : Nat} (h : ixN n i = some j) : seqIndex? i n = some j ∧ j < n ∧ -(n : Int) ≤ i ∧ i < n := by
  unfold ixN at h
  by_cases h0 : 0 ≤ i
  · rw [if_pos h0] at h
    by_cases h1 : i < n
    · rw [if_pos h1] at h
      have e : i.toNat = j := Option.some.inj h
      exact ⟨by rw [seqIndex_of h0 h1, e], by omega, by omega, h1⟩
    · rw [if_neg h1] at h; cases h
  · rw [if_neg h0] at h
    by_cases h1 : -(n : Int) ≤ i
    · rw [if_pos h1] at h
      have e : (i + n).toNat = j := Option.some.inj h
      exact ⟨by rw [seqIndex_neg (by omega) h1, e], by omega, h1, by omega⟩
    · rw [if_neg h1] at h; cases h
theorem atI_get {α : Type} {xs : List α} {i : Int} {v : α} (h : atI xs i = some v) : ∃ j, seqIndex? i xs.length = some j ∧ xs[j]? = some v ∧ j < xs.length ∧ -(xs.length : Int) ≤ i ∧ i < xs.length := by
  unfold atI at h
  cases e : ixN xs.length i with
  | none => rw [e] at h; cases h
  | some j =>
    rw [e] at h
    obtain ⟨h1, h2, h3, h4⟩ := ixN_seq e
    exact ⟨j, h1, h, h2, h3, h4⟩
theorem atI_nat {α : Type} {xs : List α} {j : Nat} {v : α} (h : xs[j]? = some v) : atI xs (j : Int) = some v := by
  have hj : j < xs.length := (List.getElem?_eq_some_iff.mp h).1
  have e : ixN xs.length (j : Int) = some j := by
    unfold ixN
    rw [if_pos (by omega), if_pos (by omega)]; simp
  unfold atI; rw [e]; exact h
def PlainIx (b : Expr) : Prop := ∀ o i, subscripted b false o i = operate [o, i] (getItem o i)
def IxR (X : Cx) (r : R2) : Prop :=
  ∀ (value slice : Expr) (pins : List (Addr × Obj)) (s : Shared) (σ : St) (H : Hp) (x y : V) (v u : Value) (Q : VK), Inv X pins σ H s → RelV x v → RelV y u → r x y H Q →
    subscripted slice false v u = operate [v, u] (getItem v u) → wpAny (model X.prog X.w) X.A (subscriptTail value slice v u) (EP X pins σ Q) X.xe s
def MtR (X : Cx) (id : String) (r : V → List V → Hp → VK → Prop) : Prop :=
  ∀ (pins : List (Addr × Obj)) (s : Shared) (σ : St) (H : Hp) (x : V) (xs : List V) (v : Value) (us : List Value) (Q : VK), Inv X pins σ H s → RelV x v → Vals xs us → r x xs H Q →
    wpAny (model X.prog X.w) X.A (call (.builtin id) (v :: us)) (EP X pins σ Q) X.xe s
section
variable {X : Cx} {a b : Expr} {ta tb : TE} {pos : Pos}
theorem pe_ix {r : R2} (hr : IxR X r) (ha : PE X a ta) (hb : PE X b tb) (hs : PlainIx b) : PE X (.Subscript a b pos) (tOp r ta tb) := by
  intro pins s σ H Q I h
  exact Subscript_ (binT ha hb I h fun v u s2 x y H2 I2 rx ry q => hr a b pins s2 σ H2 x y v u Q I2 rx ry q (hs _ _))
def rIxL (K : PySem.W.Frag) : R2 := fun x y H Q => ∃ p xs i v, x = .ref p ∧ y = .int i ∧ SqL K H p xs ∧ atI xs i = some v ∧ Q v H
def rIxT (K : PySem.W.Frag) : R2 := fun x y H Q => ∃ p xs i v, x = .ref p ∧ y = .int i ∧ SqT K H p xs ∧ atI xs i = some v ∧ Q v H
def rIxS : R2 := fun x y H Q => ∃ z i c, x = .str z ∧ y = .int i ∧ z.length ≤ sizeLine ∧ atI z.cps.toList i = some c ∧ Q (.str ⟨#[c]⟩) H
theorem ix_list : IxR X (rIxL X.K) := by
  intro value slice pins s σ H x y v u Q I rx ry h hs
  obtain ⟨p, xs, i, z, rfl, rfl, hq, he, q⟩ := h
  cases rx
  obtain ⟨t, rfl⟩ := ry
  obtain ⟨its, r, pl, hz⟩ := I.list hq
  obtain ⟨j, h1, h2, h3, h4, h5⟩ := atI_get he
  obtain ⟨w, ew, rw'⟩ := r.get h2
  have hl := r.length
  have hn := line63
  have fin : EP X pins σ Q w s := ⟨z, H, I, rw', q⟩
  by_cases h0 : 0 ≤ i
  · have hj : i.toNat = j := by
      rw [seqIndex_of h0 h5] at h1
      exact Option.some.inj h1
    exact item_listR pl.isList h0 (by omega) (by rw [hj]; simpa using ew) fin hs
  · have hj : (i + (its.toArray.size : Int)).toNat = j := by
      rw [seqIndex_neg (by omega) h4] at h1
      rw [List.size_toArray, ← hl]
      exact Option.some.inj h1
    exact subscriptTail_builtinR (x := w) pl.isList.typeIs slot_list_getitem.lookup
      (wpAny_getItem_list_neg (Q := fun r s' => r = w ∧ EP X pins σ Q r s') pl.isList (by omega) (by rw [List.size_toArray] <;> omega) (by omega) (by rw [hj]; simpa using ew) ⟨rfl, fin⟩) hs
theorem ix_tup : IxR X (rIxT X.K) := by
  intro value slice pins s σ H x y v u Q I rx ry h hs
  obtain ⟨p, xs, i, z, rfl, rfl, hq, he, q⟩ := h
  cases rx
  obtain ⟨t, rfl⟩ := ry
  obtain ⟨its, r, pl, hz⟩ := I.tuple hq
  obtain ⟨j, h1, h2, h3, h4, h5⟩ := atI_get he
  obtain ⟨w, ew, rw'⟩ := r.get h2
  have hl := r.length
  have hn := line63
  have fin : EP X pins σ Q w s := ⟨z, H, I, rw', q⟩
  exact subscriptTail_builtinR (x := w) pl.typeIs slot_tuple_getitem.lookup
    (getItem_tuple (j := j) (Q := fun r s' => r = w ∧ EP X pins σ Q r s') pl (by omega) (by omega) (by rw [List.size_toArray, ← hl]; exact h1) (by simpa using ew) ⟨rfl, fin⟩) hs
theorem ix_str : IxR X rIxS := by
  intro value slice pins s σ H x y v u Q I rx ry h hs
  obtain ⟨z, i, c, rfl, rfl, hz, he, q⟩ := h
  obtain ⟨t, rfl⟩ := rx
  obtain ⟨t', rfl⟩ := ry
  obtain ⟨j, h1, h2, h3, h4, h5⟩ := atI_get he
  have hl : z.cps.toList.length = z.length := by simp [Str.length]
  rw [hl] at h1 h4 h5
  have hn := line63
  exact tail_any (typeIs_str s z t) slot_str_getitem.lookup (getItem_str (c := c) (by
    have e1 : decide (i < -(2 ^ 63 : Int)) = false := decide_eq_false (by omega)
    have e2 : decide (i ≥ 2 ^ 63) = false := decide_eq_false (by omega)
    rw [e1, e2, Bool.or_false]) (by rw [h1]; simpa using h2) ⟨.str ⟨#[c]⟩, H, I.tok _, ⟨_, rfl⟩, q⟩) hs
def flatV : V → Bool
  | .non => true
  | .bl _ => true
  | .int _ => true
  | .str _ => true
  | _ => false
def eqV : V → V → Bool
  | .non, .non => true
  | .bl a, .bl b => a == b
  | .bl a, .int b => (if a then 1 else 0) == b
  | .int a, .bl b => a == (if b then 1 else 0)
  | .int a, .int b => a == b
  | .str a, .str b => a == b
  | _, _ => false
theorem eqAt_V {A : Around} {s : Shared} {y x : V} {u v : Value} (ry : RelV y u) (rx : RelV x v) (fy : flatV y = true) (fx : flatV x = true) : SeqAt.EqAt A s u v (eqV y x) := by
  cases y with
  | non =>
    cases ry
    cases x with
    | non => cases rx; exact SeqAt.EqAt.same _
    | bl b => cases rx; exact SeqAt.EqAt.none_bool b
    | int b => obtain ⟨t, rfl⟩ := rx; exact SeqAt.EqAt.none_int b t
    | str b => obtain ⟨t, rfl⟩ := rx; exact SeqAt.EqAt.none_str b t
    | _ => exact absurd (show false = true from fx) Bool.false_ne_true
  | bl a =>
    cases ry
    cases x with
    | non => cases rx; exact SeqAt.EqAt.bool_none a
    | bl b => cases rx; exact SeqAt.EqAt.bool_bool a b
    | int b => obtain ⟨t, rfl⟩ := rx; exact SeqAt.EqAt.bool_int a b t
    | str b => obtain ⟨t, rfl⟩ := rx; exact SeqAt.EqAt.bool_str a b t
    | _ => exact absurd (show false = true from fx) Bool.false_ne_true
  | int a =>
    obtain ⟨t', rfl⟩ := ry
    cases x with
    | non => cases rx; exact SeqAt.EqAt.int_none a t'
    | bl b => cases rx; exact SeqAt.EqAt.int_bool a t' b
    | int b => obtain ⟨t, rfl⟩ := rx; exact SeqAt.EqAt.int_int a t' b t
    | str b => obtain ⟨t, rfl⟩ := rx; exact SeqAt.EqAt.int_str a t' b t
    | _ => exact absurd (show false = true from fx) Bool.false_ne_true
  | str a =>
    obtain ⟨t', rfl⟩ := ry
    cases x with
    | non => cases rx; exact SeqAt.EqAt.str_none a t'
    | bl b => cases rx; exact SeqAt.EqAt.str_bool a t' b
    | int b => obtain ⟨t, rfl⟩ := rx; exact SeqAt.EqAt.str_int a t' b t
    | str b => obtain ⟨t, rfl⟩ := rx; exact SeqAt.EqAt.str_str a t' b t
    | _ => exact absurd (show false = true from fx) Bool.false_ne_true
  | _ => exact absurd (show false = true from fy) Bool.false_ne_true
def eqU (x : V) (u : Value) : Bool := match u with
  | .none => eqV .non x
  | .bool b => eqV (.bl b) x
  | .int i _ => eqV (.int i) x
  | .str z _ => eqV (.str z) x
  | _ => false
theorem eqU_of {x y : V} {u : Value} (r : RelV y u) (f : flatV y = true) : eqU x u = eqV y x := by
  cases y with
  | non => cases r; rfl
  | bl b => cases r; rfl
  | int i => obtain ⟨t, rfl⟩ := r; rfl
  | str z => obtain ⟨t, rfl⟩ := r; rfl
  | _ => exact absurd (show false = true from f) Bool.false_ne_true
theorem any_eqU {x : V} : ∀ {xs : List V} {us : List Value}, Vals xs us → xs.all flatV = true → us.any (eqU x) = xs.any fun y => eqV y x
  | _, _, .nil, _ => rfl
  | y :: xs, u :: us, .cons r t, f => by
    rw [List.all_cons, Bool.and_eq_true] at f
    rw [List.any_cons, List.any_cons, eqU_of r f.1, any_eqU t f.2]
theorem mem_eqAt {A : Around} {s : Shared} {x : V} {v : Value} (rx : RelV x v) (fx : flatV x = true) : ∀ {xs : List V} {us : List Value}, Vals xs us → xs.all flatV = true → ∀ u ∈ us, SeqAt.EqAt A s u v (eqU x u)
  | _, _, .nil, _ => fun u hu => by cases hu
  | y :: xs, u :: us, .cons r t, f => fun u' hu => by
    rw [List.all_cons, Bool.and_eq_true] at f
    rcases List.mem_cons.mp hu with rfl | hu
    · rw [eqU_of r f.1]; exact eqAt_V r rx f.1 fx
    · exact mem_eqAt rx fx t f.2 u' hu
def inV (x : V) (xs : List V) : Bool := xs.any fun y => eqV y x
def rIn (K : PySem.W.Frag) (neg : Bool) : R2 := fun x y H Q => ∃ p xs, y = .ref p ∧ (SqL K H p xs ∨ SqT K H p xs) ∧ flatV x = true ∧ xs.all flatV = true ∧ Q (.bl (if neg then !inV x xs else inV x xs)) H
theorem op_in_seq : OpR X (compareOp .In) (rIn X.K false) := by
  intro pins s σ H x y v u Q I rx ry h
  obtain ⟨p, xs, rfl, hq, fx, fs, q⟩ := h
  cases ry
  rcases hq with hq | hq
  · obtain ⟨its, r, pl, hz⟩ := I.list hq
    refine SeqAt.in_listAt (eqU x) pl.isList (fun w hw => mem_eqAt rx fx r fs w (by simpa using hw)) ⟨.bl _, H, I, rfl, ?_⟩
    rw [show its.toArray.any (eqU x) = its.any (eqU x) by simp, any_eqU r fs]
    exact q
  · obtain ⟨its, r, pl, hz⟩ := I.tuple hq
    refine SeqAt.in_tupleAt (eqU x) pl (fun w hw => mem_eqAt rx fx r fs w (by simpa using hw)) ⟨.bl _, H, I, rfl, ?_⟩
    rw [show its.toArray.any (eqU x) = its.any (eqU x) by simp, any_eqU r fs]
    exact q
theorem op_notIn_seq : OpR X (compareOp .NotIn) (rIn X.K true) := by
  intro pins s σ H x y v u Q I rx ry h
  obtain ⟨p, xs, rfl, hq, fx, fs, q⟩ := h
  cases ry
  rcases hq with hq | hq
  · obtain ⟨its, r, pl, hz⟩ := I.list hq
    refine SeqAt.notIn_listAt (eqU x) pl.isList (fun w hw => mem_eqAt rx fx r fs w (by simpa using hw)) ⟨.bl _, H, I, rfl, ?_⟩
    rw [show its.toArray.any (eqU x) = its.any (eqU x) by simp, any_eqU r fs]
    exact q
  · obtain ⟨its, r, pl, hz⟩ := I.tuple hq
    refine SeqAt.notIn_tupleAt (eqU x) pl (fun w hw => mem_eqAt rx fx r fs w (by simpa using hw)) ⟨.bl _, H, I, rfl, ?_⟩
    rw [show its.toArray.any (eqU x) = its.any (eqU x) by simp, any_eqU r fs]
    exact q
theorem call_len_seq : CallR X (.builtin "len") (fun xs H Q => ∃ p ys, xs = [.ref p] ∧ (SqL X.K H p ys ∨ SqT X.K H p ys) ∧ Q (.int ys.length) H) := by
  intro pins s σ H xs us Q I r h
  obtain ⟨p, ys, rfl, hq, q⟩ := h
  obtain ⟨u, rfl, rx⟩ := vals1 r
  cases rx
  have hn := line63
  rcases hq with hq | hq
  · obtain ⟨its, r', pl, hz⟩ := I.list hq
    have hlen := r'.length
    exact Calls.call_len_list pl.isList (by simp only [List.size_toArray] <;> omega) ⟨.int ys.length, H, I.tok _, ⟨s.toks + 1, by rw [List.size_toArray, hlen]⟩, q⟩
  · obtain ⟨its, r', pl, hz⟩ := I.tuple hq
    have hlen := r'.length
    exact len_tuple pl (by simp only [List.size_toArray] <;> omega) ⟨.int ys.length, H, I.tok _, ⟨s.toks + 1, by rw [List.size_toArray, hlen]⟩, q⟩
theorem call_len_str : CallR X (.builtin "len") (fun xs H Q => ∃ z, xs = [.str z] ∧ z.length ≤ sizeLine ∧ Q (.int z.length) H) := by
  intro pins s σ H xs us Q I r h
  obtain ⟨z, rfl, hz, q⟩ := h
  obtain ⟨u, rfl, t, rfl⟩ := vals1 r
  have hn := line63
  exact len_str (by omega) ⟨.int z.length, H, I.tok _, ⟨_, rfl⟩, q⟩
def tyV (K : PySem.W.Frag) (T : String) (x : V) (H : Hp) : Prop := match x with
  | .str _ => T = "str"
  | .int _ => T = "int"
  | .ref p => (T = "list" ∧ ∃ xs, SqL K H p xs) ∨ (T = "tuple" ∧ ∃ o, K.lookup p = some o ∧ o.cls = .type "tuple" ∧ o.dict = none) ∨
      (T = "dict" ∧ ((∃ kvs, H p = some (.dK kvs)) ∨ ∃ kvs, H p = some (.dT kvs))) ∨ (T = "set" ∧ ∃ S n, H p = some (.set S n))
  | _ => False
theorem tyV_is {pins : List (Addr × Obj)} {σ : St} {H : Hp} {s : Shared} {T : String} {x : V} {v : Value} (I : Inv X pins σ H s) (r : RelV x v) (ty : tyV X.K T x H) :
    s.TypeIs v T ∧ ∀ a, v = .ref a → ∃ ob, s.heap.get? a = some ob ∧ ob.dict = none := by
  cases x with
  | str z =>
    obtain ⟨t, rfl⟩ := r
    cases (show T = "str" from ty)
    exact ⟨typeIs_str s z t, fun _ e => nomatch e⟩
  | int i =>
    obtain ⟨t, rfl⟩ := r
    cases (show T = "int" from ty)
    exact ⟨typeIs_int s i t, fun _ e => nomatch e⟩
  | ref p =>
    cases r
    rcases ty with ⟨rfl, xs, hq⟩ | ⟨rfl, o, hk, hc, hd⟩ | ⟨rfl, hk⟩ | ⟨rfl, S, n, hk⟩
    · obtain ⟨its, _, pl, _⟩ := I.list hq
      refine ⟨pl.isList.typeIs, fun a e => ?_⟩
      cases e
      obtain ⟨o, n, e, c, hd, _⟩ := pl
      exact ⟨o, e, hd⟩
    · refine ⟨⟨o, I.kIn p o hk, hc⟩, fun a e => ?_⟩
      cases e
      exact ⟨o, I.kIn _ o hk, hd⟩
    · have z : ∃ o, s.heap.get? p = some o ∧ o.ExactDict := by
        rcases hk with ⟨kvs, hk⟩ | ⟨kvs, hk⟩
        · obtain ⟨_, _, _, _, o, _, _, e, ex, _⟩ := I.hok p _ hk
          exact ⟨o, e, ex⟩
        · obtain ⟨_, _, _, _, o, _, _, e, ex, _⟩ := I.hok p _ hk
          exact ⟨o, e, ex⟩
      obtain ⟨o, e, ex⟩ := z
      refine ⟨⟨o, e, ex.1⟩, fun a e2 => ?_⟩
      cases e2
      exact ⟨o, e, ex.2.1⟩
    · obtain ⟨o, _, _, _, e, ex, _⟩ := I.hok p _ hk
      refine ⟨⟨o, e, ex.1⟩, fun a e2 => ?_⟩
      cases e2
      exact ⟨o, e, ex.2.1⟩
  | _ => exact False.elim ty
def tBM (K : PySem.W.Frag) (T : String) (r : V → List V → Hp → VK → Prop) (to : TE) (t : TA) : TE := fun σ H Q => to σ H fun x H1 => tyV K T x H1 ∧ t σ H1 fun xs H2 => r x xs H2 Q
variable {o e : Expr} {es : List Expr} {to : TE} {t : TA} {name : Str} {apos cpos : Pos} {T id : String} {r : V → List V → Hp → VK → Prop}
theorem pe_bm (pa : PlainAttrs T) (slot : Slot T name id) (hty : typeOf (.builtin id) = pure (.type "method_descriptor")) (hm : MtR X id r) (ho : PE X o to) (ha : PA X (e :: es) t)
    (hbase : attributeBase o name X.env (eval o X.env) = eval o X.env := by rfl)
    (hfew : ((backTo cpos (starEach (e :: es) X.env)).all (fun x => !x.1) && (backToKw cpos (keywordEach [] X.env)).all (fun x => x.1.isSome)
      && decide ((e :: es).length + ([] : List Keyword).length + (if ([] : List Keyword).isEmpty then 0 else 1) < 30)) = true := by rfl)
    (hline : (apos.endLine == cpos.line) = true := by rfl) (hs : starEach (e :: es) X.env = (false, eval e X.env) :: starEach es X.env := by rfl) (hplain : (backTo cpos (starEach es X.env)).any (·.1) = false := by rfl) :
    PE X (.Call (.Attribute o name apos) (e :: es) [] cpos) (tBM X.K T r to t) := by
  intro pins s σ H Q I h
  refine wpAny_Call_method_late hbase hfew hline rfl (thn (ho pins s σ H _ I h) fun v s1 ⟨x, H1, I1, r1, ty, q1⟩ => ?_)
  obtain ⟨h1, h2⟩ := tyV_is I1 r1 ty
  refine ⟨T, id, pa, slot, hty, h1, h2, ?_⟩
  have hA := ha cpos pins s1 σ H1 _ I1 q1
  rw [hs] at hA ⊢
  refine Calls.callWith_builtin (by show (false || (backTo cpos (starEach es X.env)).any (·.1)) = false; rw [hplain] <;> rfl) (Calls.evalArgs_plain ?_)
  exact thn hA fun us s2 ⟨vs, H2, I2, r2, q2⟩ => hm pins s2 σ H2 x vs v us Q I2 r1 r2 q2
/- xs.append(e), list.index on a module's tuple .. are MtR facts of 06m -/
end
end L2
namespace L2
open PySem PySem.Spec PyProof.Rows
def MtM (X : Cx) (id : String) (r : V → List V → Hp → VK → Prop) : Prop :=
  ∀ (pins : List (Addr × Obj)) (s : Shared) (σ : St) (H : Hp) (x : V) (xs : List V) (v : Value) (us : List Value) (Q : VK), Inv X pins σ H s → RelV x v → Vals xs us → r x xs H Q →
    wpAny (model X.prog X.w) X.A (call (.builtin id) (v :: us)) (EP X pins σ Q) X.xe s
theorem Vals.one : ∀ {x : V} {us : List Value}, Vals [x] us → ∃ u, us = [u] ∧ RelV x u
  | _, _, .cons r .nil => ⟨_, rfl, r⟩
theorem Vals.two : ∀ {x y : V} {us : List Value}, Vals [x, y] us → ∃ u v, us = [u, v] ∧ RelV x u ∧ RelV y v
  | _, _, _, .cons r (.cons q .nil) => ⟨_, _, rfl, r, q⟩
section
variable {X : Cx} {pins : List (Addr × Obj)} {σ : St} {H : Hp} {s : Shared} {l b : Addr} {xs ys zs : List V}
theorem Inv.lset {its its' : List Value} {n : Nat} {f : Array Value → Array Value} {t' : Nat} (I : Inv X pins σ H s) (hH : H l = some (.lst xs))
    (e : s.heap.get? l = some { cls := .type "list", data := .seq its.toArray n }) (hf : f its.toArray = its'.toArray) (hv : Vals ys its') (hz : ys.length ≤ sizeLine) :
    Inv X pins σ (upd H l (.lst ys)) { s with heap := s.heap.update l (Obj.mapSeq f), toks := t' } := by
  have q := PySem.IsL.update e f
  rw [hf] at q
  refine I.write (x := l) (e := l) (by rw [hH]; exact trivial) (.inl rfl) (fun b' u hb hu => (Heap.get?_update_other s.heap (Obj.mapSeq f) (Ne.symm hb)).trans hu) ⟨_, q⟩ ?_
  exact ⟨hz, its', _, hv, q⟩
theorem Inv.lnew {its : List Value} {t' : Nat} (I : Inv X pins σ H s) (hv : Vals ys its) (hz : ys.length ≤ sizeLine) :
    Inv X pins σ (upd H s.heap.objs.size (.lst ys)) { s with heap := s.heap.push { cls := .type "list", data := .seq its.toArray }, toks := t' } :=
  I.laid (fun _ _ q => Heap.get?_push_of_some _ q) (Nat.le_refl _) ⟨hz, its, 0, hv, Heap.get?_push_size _ rfl⟩
theorem Inv.fresh (I : Inv X pins σ H s) : H s.heap.objs.size = none := I.hok.fresh (Nat.le_refl _)
theorem Inv.lstM (I : Inv X pins σ H s) (hH : H l = some (.lst xs)) : xs.length ≤ sizeLine ∧ ∃ (its : List Value) (n : Nat), Vals xs its ∧ xs.length = its.length ∧ s.heap.get? l = some { cls := .type "list", data := .seq its.toArray n } := by
  obtain ⟨z, its, n, r, e⟩ := I.hok l _ hH
  exact ⟨z, its, n, r, r.length, e⟩
end
section
variable {X : Cx}
def rAppend : V → List V → Hp → VK → Prop := fun x vs H Q => ∃ l xs y, x = .ref l ∧ vs = [y] ∧ H l = some (.lst xs) ∧ xs.length < sizeLine ∧ Q .non (upd H l (.lst (xs ++ [y])))
theorem mt_append : MtM X "list.append" rAppend := by
  intro pins s σ H x vs v us Q I rx rv h
  obtain ⟨l, xs, y, rfl, rfl, hH, hz, q⟩ := h
  cases rx
  obtain ⟨u, rfl, ru⟩ := rv.one
  obtain ⟨z, its, n, r, hl, e⟩ := I.lstM hH
  refine call_meets F.slot_list_append ⟨_, e, rfl⟩ F.entry_list_append (F.args_list_append_2 _ _) (PySem.list_append l its.toArray n u (by rw [List.size_toArray]; omega)) ⟨e, ?_⟩
  refine ⟨.non, _, I.lset (its' := its ++ [u]) hH e (by simp) (r.append (.cons ru .nil)) ?_, rfl, q⟩
  rw [List.length_append, List.length_singleton]
  omega
end
section
variable {prog : Program} {w : World} {A : Around} {E : Value → Shared → Prop} {s : Shared}
end
section
variable {X : Cx}
end
end L2
namespace Att
open PySem PySem.W PySem.Calls PyProof.Rows
theorem ints_of_wellAll {P : Params} {h : Heap} : ∀ (ns : List Int) (vs : List Value), WellAll P h vs (ns.map WData.int) → IntsAre vs ns := by
  intro ns
  induction ns with
  | nil =>
    intro vs w
    rw [List.map_nil] at w
    cases w
    exact .nil
  | cons n ns ih =>
    intro vs w
    rw [List.map_cons] at w
    cases w with
    | cons a b =>
      cases a
      exact .cons _ _ (ih _ b)
theorem script_of {l : OpenLaw} {n : Nat} (hn : l.most = some n) {P : Params} {h : Heap} {args : List WData} {vals : List Value}
    (hpre : l.row.toRowW.claim.pre args = true) (hwl : WellAll P h vals args) :
    ∃ a vs ns, vals = [Value.ref a] ∧ args = [WData.list (ns.map WData.int)] ∧ h.get? a = some { cls := .type "list", data := .seq vs.toArray } ∧ IntsAre vs ns ∧ ns.length ≤ n := by
  have hsh : WShape.hasAll [] args [.list .int] = true := (pre_splitW hpre).1
  have hc : l.pre.holds [] { args := args } = true := (pre_splitW hpre).2
  obtain ⟨d, r, rfl, h1, h2⟩ := hasAllW_cons hsh
  obtain rfl := hasAllW_nil h2
  obtain ⟨xs, rfl, h3⟩ := hasW_list h1
  obtain ⟨ns, rfl⟩ := items_int h3
  have hlen : ns.length ≤ n := by
    unfold OpenLaw.pre at hc
    have h4 : (WTm.not (.lt (.lit (.int (n : Int))) (.len (.arg 0)))).holds [] { args := [.list (ns.map .int)] } = true := by
      have h4 := (holds_andW hc).1
      rw [hn] at h4
      exact h4
    have h5 := condW_of h4 (w_not (w_lt w_lit (w_len_list (w_arg rfl))))
    rw [List.length_map] at h5
    refine Nat.le_of_not_lt fun q => ?_
    have q' : (n : Int) < ((ns.length : Nat) : Int) := by omega
    first
      | (rw [decide_eq_true q'] at h5; exact absurd h5 (by decide))
      | (simp at h5; omega)
  cases hwl with
  | cons w1 w2 =>
    cases w2
    cases w1 with
    | list ho hall => exact ⟨_, _, ns, rfl, rfl, ho, ints_of_wellAll ns _ hall, hlen⟩
theorem post_true (l : OpenLaw) (args : List WData) : l.row.toRowW.claim.post args (.bool true) args = true :=
  postW_of (r := l.row.toRowW) (X := (true == true))
    (show WShape.has [] (.bool true) .bool = true by first | rfl | decide | simp [WShape.has, WShape.arms, WShape.armsAll])
    (show (WTm.eq .res (.lit (.bool true))).value [] { args := args, res := some (.bool true), after := args } = some (.bool (true == true)) from w_eq_bool (w_res rfl) w_lit) rfl
theorem attach_call {l : OpenLaw} {n : Nat} {q : Program} {loose : List Str} {XP : (Str → Option Value) → Heap → Prop} {YP : World → Heap → Prop} {d : DefRec}
    (hn : l.most = some n) (hdf : d.params.defaults = [])
    (call : ∀ (w : World) (s₀ s₁ : Shared) (mg mb : Str → Option Value) (fa : Addr) (o : Obj) (pm cd doc : Value) (a : Addr) (vs : List Value) (ns : List Int),
      Ground q loose [] XP w s₀ mg mb s₁.heap → YP w s₁.heap →
      s₁.heap.get? fa = some o → o.data = .func (docDef d.name d.params d.body d.scope pm cd doc) → s₁.heap.CodeRec cd d.name → mg d.name = some (.ref fa) →
      s₁.heap.get? a = some { cls := .type "list", data := .seq vs.toArray } → IntsAre vs ns → ns.length ≤ n → s₁.gens = #[] →
      codeAny (model l.prog w) callerA (.call (.ref fa) ⟨[.ref a], []⟩) (fun r s' => r = .ok (.ret (.bool true)) ∧ OldK s₁.heap s'.heap ∧ s'.os = s₁.os ∧ AllBare s'.gens) s₁) :
    WalkO q loose XP YP l.row.toRowW d [] (fun f vs => PySem.call f vs) := by
  intro w s₀ s₁ mg mb G Y fa o pm cd doc dV kV ho hd hcd hD hmg hg args vals as hpre hlay hrd hwl hlo
  obtain rfl : dV = .none := Dflts.none hD hdf
  obtain rfl : kV = .none := Dflts.noKw hD
  obtain ⟨a, vs, ns, rfl, rfl, hobj, hints, hlen⟩ := script_of hn hpre hwl
  refine enter_call (codeAny_mono (call w s₀ s₁ mg mb fa o pm cd doc a vs ns G Y ho (fd_plain hd) hcd hmg hobj hints hlen hg) fun r s' hq => ?_)
  obtain ⟨rfl, h2, h3, h4⟩ := hq
  exact ⟨.inl ⟨.bool true, .bool true, [], rfl, fun _ => rfl, .bool true, post_true l _, fun _ => ⟨List.Pairwise.nil, fun _ hm => (nomatch hm)⟩⟩, h2, h3, h4⟩
section
variable {prog : Program} {w : World} {A : Around} {E : Value → Shared → Prop} {s : Shared} {K : Frag}
end
end Att
namespace L2
open PySem PySem.Spec PyProof.Rows
theorem vals_ints : ∀ {vs : List Value} {ns : List Int}, IntsAre vs ns → Vals (ns.map V.int) vs
  | _, _, .nil => .nil
  | _, _, .cons n t h => .cons ⟨t, rfl⟩ (vals_ints h)
def Only (H : Hp) : Prop := ∀ b, H b = none ∨ ∃ o xs, H b = some (.frz o (.lst xs))
theorem law_call {P : Program} {w : World} {K : PySem.W.Frag} {mg mb : Str → Option Value} {CX : CXT} {k : Nat} {fa a : Addr} {fd : FuncData} {x : Str} {sp : Sp} {s₁ : Shared} {vs : List Value} {ns : List Int}
    (KX : K.In s₁.heap) (hns : s₁.heap.Ns mainGlobals mg) (hb : s₁.heap.Ns builtinsNs mb) (hbb : ∀ x : Str, x ≠ "__name__" → mb x = bootBuiltins x) (hlim : s₁.heap.NoLimit) (hg : s₁.gens = #[])
    (ha : s₁.heap.get? a = some { cls := .type "list", data := .seq vs.toArray }) (hi : IntsAre vs ns) (hl : ns.length ≤ sizeLine) (hr : Room k callerA)
    (F : ∀ base : Heap, K.In base → base.Ns mainGlobals mg → FnOk P w K mg base CX k fa fd [x] sp) (hbind : ∀ (s : Shared) (u : Value), BindsTo s fd ⟨[u], []⟩ [(x, u)])
    (hsp : ∀ H : Hp, Only H → SqL K H a (ns.map V.int) → sp [.ref a] H (fun v _ => v = .bl true) fun _ _ _ => False)
    (hCX : ∀ H e s', CX [] H s₁ (fun _ _ _ => False) e s' → False) :
    codeAny (model P w) callerA (.call (.ref fa) ⟨[.ref a], []⟩) (fun r s' => r = .ok (.ret (.bool true)) ∧ OldK s₁.heap s'.heap ∧ s'.os = s₁.os ∧ AllBare s'.gens) s₁ := by
  have rv := vals_ints hi
  have lenV := hi.length
  have core : ∀ H : Hp, Only H → SqL K H a (ns.map V.int) → HOk P w H s₁.heap → (∀ b, H b ≠ none → b = a) → (H a ≠ none → K.lookup a = none) →
      codeAny (model P w) callerA (.call (.ref fa) ⟨[.ref a], []⟩) (fun r s' => r = .ok (.ret (.bool true)) ∧ OldK s₁.heap s'.heap ∧ s'.os = s₁.os ∧ AllBare s'.gens) s₁ := by
    intro H hO hS hok hA hK
    have base_of : ∀ {b : Addr} {o : Obj}, s₁.heap.get? b = some o → H b = none → (hidT s₁.heap H).get? b = some o := fun e n => hidT_get e n
    have noA : ∀ {b : Addr} {o : Obj} {es : Array DictEntry} {ep : Nat}, s₁.heap.get? b = some o → o.data = .dict es ep → H b = none := fun {b o es ep} e d => by
      cases q : H b with
      | none => rfl
      | some u =>
        have e' : b = a := hA b (by rw [q]; simp)
        subst e'
        rw [ha] at e; cases e
        have d' : Data.seq vs.toArray _ = Data.dict es ep := d
        cases d'
    have nsK : ∀ {b : Addr} {m : Str → Option Value}, s₁.heap.Ns b m → (hidT s₁.heap H).Ns b m := fun {b m} ⟨o, es, ep, e, d, r⟩ => ⟨o, es, ep, base_of e (noA e d), d, r⟩
    have hKb : K.In (hidT s₁.heap H) := fun b o e => base_of (KX b o e) (by
      cases q : H b with
      | none => rfl
      | some u =>
        have e' : b = a := hA b (by rw [q]; simp)
        subst e'
        rw [hK (by rw [q]; simp)] at e; cases e)
    have hM : Mod K mg (hidT s₁.heap H) := ⟨hKb, nsK hns, ⟨mb, nsK hb, hbb⟩, let ⟨mc, h1, h2⟩ := hlim; ⟨mc, nsK h1, h2⟩⟩
    have e0 : Env0 P w K mg (hidT s₁.heap H) callerA [] s₁ H := ⟨rfl, hM, fun b o e => of_hidT e, Nat.le_of_eq (hidT_size _ _), trivial, fun b hb => absurd (show b ∈ ([] : List Addr) from hb) (by simp), hok, .of_eq hg⟩
    refine codeAny_mono ((F _ hKb (nsK hns)).run callerA [] s₁ H ⟨[.ref a], []⟩ [.ref a] [.ref a] _ _ hr e0 (hbind s₁ (.ref a)) (.cons rfl .nil) (hsp H hO hS)) fun r s' h => ?_
    cases r with
    | error e => exact (hCX H e s' h).elim
    | ok fl =>
      cases fl with
      | next => exact False.elim h
      | brk => exact False.elim h
      | cont => exact False.elim h
      | ret u =>
        obtain ⟨v, H', os, bare, un, hok', r', q⟩ := h
        have q' : v = .bl true := q
        subst q'
        obtain rfl : u = Value.bool true := r'
        refine ⟨rfl, OldK.of_keep fun b o e => ?_, os, bare⟩
        cases q : H b with
        | none => exact un.keep b o e q (by intro z; exact absurd (show b ∈ ([] : List Addr) from z) (by simp)) (by simp)
        | some u =>
          rcases hO b with z | ⟨ob, xs, z⟩
          · rw [q] at z; cases z
          · have z2 := un.frzs b ob _ z
            obtain ⟨e1, _⟩ := hok b _ z
            obtain ⟨e2, _⟩ := hok' b _ z2
            rw [e] at e1; cases e1
            exact e2
  cases hk : K.lookup a with
  | some o =>
    have e := KX a o hk
    rw [ha] at e
    cases e
    refine core (fun _ => none) (fun _ => .inl rfl) (.inr ⟨_, vs.toArray, _, hk, rfl, rfl, rfl, by rw [List.size_toArray, lenV]; exact hl, by simpa using rv⟩) (fun b u z => by have z' : (none : Option HO) = some u := z; cases z') (fun b z => absurd rfl z) fun z => absurd rfl z
  | none =>
    refine core (fun b => if b = a then some (.frz { cls := .type "list", data := .seq vs.toArray } (.lst (ns.map V.int))) else none) (fun b => ?_) (.inl (.inr ⟨{ cls := .type "list", data := .seq vs.toArray }, if_pos rfl⟩)) (fun b u z => ?_) (fun b z => ?_) fun _ => hk
    · by_cases hb : b = a
      · exact .inr ⟨_, _, if_pos hb⟩
      · exact .inl (if_neg hb)
    · by_cases hb : b = a
      · have z' := (if_pos hb).symm.trans z
        cases z'
        subst hb
        exact ⟨ha, by rw [List.length_map]; exact hl, vs, _, rv, ha⟩
      · have z' := (if_neg hb).symm.trans z
        cases z'
    · by_cases hb : b = a
      · exact hb
      · exact absurd (if_neg hb) z
end L2
namespace L2
open PySem PySem.Spec PyProof.Rows
abbrev KOf {K : PySem.W.Frag} {h : Heap} (_ : K.In h) : PySem.W.Frag := K
theorem walk_of {l : PySem.W.OpenLaw} {n k : Nat} {q : Program} {loose : List Str} {XP : (Str → Option Value) → Heap → Prop} {YP : World → Heap → Prop} {d : DefRec} {K : Params → PySem.W.Frag} {CX : World → CXT} {sp : World → Sp} {x : Str}
    (hn : l.most = some n) (hn2 : n ≤ sizeLine) (hdf : d.params.defaults = []) (hr : Room k callerA)
    (hY : ∀ (w : World) (h : Heap), YP w h → (K w.params).In h)
    (F : ∀ (w : World) (mg : Str → Option Value) (fa : Addr) (h : Heap), (K w.params).In h → h.Ns mainGlobals mg → mg d.name = some (.ref fa) →
      ∃ fd : FuncData, (∀ (s : Shared) (u : Value), BindsTo s fd ⟨[u], []⟩ [(x, u)]) ∧
        ∀ base : Heap, (K w.params).In base → base.Ns mainGlobals mg → FnOk l.prog w (K w.params) mg base (CX w) k fa fd [x] (sp w))
    (hsp : ∀ (w : World) (H : Hp) (a : Addr) (ns : List Int), ns.length ≤ n → Only H → SqL (K w.params) H a (ns.map V.int) → sp w [.ref a] H (fun v _ => v = .bl true) fun _ _ _ => False)
    (hCX : ∀ (w : World) (H : Hp) (s : Shared) (e : Value) (s' : Shared), CX w [] H s (fun _ _ _ => False) e s' → False) :
    PySem.W.WalkO q loose XP YP l.row.toRowW d [] (fun f vs => PySem.call f vs) := by
  refine Att.attach_call hn hdf fun w s₀ s₁ mg mb fa o pm cd doc a vs ns G Y ho hd hcd hmg hobj hints hlen hg => ?_
  have KX := hY w _ Y
  obtain ⟨fd, hb, hF⟩ := F w mg fa _ KX G.T.g hmg
  exact law_call KX G.T.g G.T.b G.T.builtins G.T.nolimit hg hobj hints (Nat.le_trans hlen hn2) hr hF hb (fun H hO hS => hsp w H a ns hlen hO hS) fun H e s' => hCX w H s₁ e s'
end L2
/- THE LAST THEOREM (shape; LID, My.* are yours):
   My.Adr: a structure of the addresses that your layer names (classes, functions); My.Txt K t: a structure (Prop) of the equations over K;
   My.txt_mk : {K} {implicit addresses ..} (e1 : nsIn K mainGlobals "law" = some (some (.ref f))) (e2 : K.lookup f = some ⟨oc, od, .func (fnOf "law" "law" params body scope dV kV doc pm an cdv ct), sl⟩) (e3 : codeIn K cdv "law" = true) .. : ∃ t, My.Txt K t
set_option maxRecDepth 100000 in
set_option maxHeartbeats 0 in
theorem PySem.Challenge.cw_LID_holds : PySem.Challenge.rw_LID.Holds := by
  w_on; o_law; k_head; (case hw => w_witness2)
  k_fill
  refine L2.walk_of (l := PySem.Challenge.rw_LID) (n := 63) (k := 40) (x := "script") (CX := fun w => ..) (sp := fun _ => My.sp_law) rfl (by decide) rfl ⟨rfl, by decide, by decide⟩ (fun w h Y => PySem.W.kIn_of Y) ?F ?S ?C
  case F =>
    intro w mg fa h KX G hmg
    have T : ∃ t, My.Txt (L2.KOf KX) t := by
      dsimp only [L2.KOf]                          -- K must stand as «<heap const> w.params» for k_is
      refine' My.txt_mk ?e1 ?e2 ?e3 ..
      (case e1 => PySem.W.k_is)                    -- in the order: a name -> its address -> its object -> its parts
      (case e2 => PySem.W.k_is)
      ..
    obtain ⟨t, T⟩ := T
    have e0 := hmg.symm.trans (PySem.W.mg_of KX G T.law)
    cases e0                                       -- fa is the law's own address
    exact ⟨_, fun s u => .of_eq rfl, fun base kb nb => My.law_fn T kb nb⟩     -- if «.of_eq rfl» comes too early: refine' ⟨_, ?b, fun base kb nb => My.law_fn T kb nb⟩; exact fun s u => .of_eq rfl
  case S => exact fun w H a ns hl hO hS => ..
  case C => exact ..
(the tactic k_is has no namespace: write k_is) -/
namespace L2
open PySem PySem.Spec PyProof.Rows
def defArgs (s : Stmt) : Arguments := match s with
  | .FunctionDef _ a _ _ _ _ _ _ _ _ => a
  | _ => { posonlyargs := [], args := [], vararg := none, kwonlyargs := [], kw_defaults := [], kwarg := none, defaults := [] }
def defBody (s : Stmt) : List Stmt := match s with
  | .FunctionDef _ _ b _ _ _ _ _ _ _ => b
  | _ => []
def defScope (s : Stmt) : Scope := match s with
  | .FunctionDef _ _ _ _ _ _ sc _ _ _ => sc
  | _ => { kind := .function, names := [], isGenerator := false, isCoroutine := false }
abbrev E0 : XK := fun _ _ _ => False
structure Fun (K : PySem.W.Frag) (x qual : Str) (st : Stmt) (f : Addr) (fd : FuncData) : Prop where
  ex : ∃ (oc : Value) (od : Option Addr) (kV doc pm : Value) (an : Option Addr) (cdv ct : Value) (osl : Array (Option Value)),
    fd = PySem.W.fnOf x qual (defArgs st) (defBody st) (defScope st) .none kV doc pm an cdv ct ∧ K.lookup f = some ⟨oc, od, .func fd, osl⟩ ∧ PySem.W.codeIn K cdv qual = true
  kp : PySem.W.keepIn K (.ref f) = true
section
variable {P : Program} {w : World} {K : PySem.W.Frag} {mg : Str → Option Value} {base : Heap}
theorem Fun.binds {x qual : Str} {st : Stmt} {f : Addr} {fd : FuncData} {ps : List Str} (F : Fun K x qual st f fd)
    (h : ∀ (kV doc pm : Value) (an : Option Addr) (cdv ct : Value) (us : List Value), us.length = ps.length → bindArgs (PySem.W.fnOf x qual (defArgs st) (defBody st) (defScope st) .none kV doc pm an cdv ct) ⟨us, []⟩ = pure (ps.zip us)) : Binds K fd ps [] := by
  obtain ⟨oc, od, kV, doc, pm, an, cdv, ct, osl, rfl, lk, hcd⟩ := F.ex
  exact .all (h kV doc pm an cdv ct)
theorem fun_mk {x qual : Str} {st : Stmt} {f : Addr} {oc : Value} {od an : Option Addr} {osl : Array (Option Value)} {kV doc pm cdv ct : Value} (l : K.lookup f = some ⟨oc, od, .func (PySem.W.fnOf x qual (defArgs st) (defBody st) (defScope st) .none kV doc pm an cdv ct), osl⟩)
    (c : PySem.W.codeIn K cdv qual = true) (k : PySem.W.keepIn K (.ref f) = true) : Fun K x qual st f (PySem.W.fnOf x qual (defArgs st) (defBody st) (defScope st) .none kV doc pm an cdv ct) := ⟨⟨oc, od, kV, doc, pm, an, cdv, ct, osl, rfl, l, c⟩, k⟩
end
section
variable {X : Cx}
theorem pv (i : Nat) {x : Str} {pos : Pos} (hN : X.N[i]? = some x := by rfl) (hv : Vis X.env.scope x := by first | exact Or.inl rfl | exact Or.inr (Or.inl rfl) | exact Or.inr (Or.inr rfl)) (hd : (x == ("__debug__" : Str)) = false := by decide)
    (hcd : (x == ("__classdict__" : Str)) = false := by decide) : PE X (.Name x pos) (tVar i) := pe_var hN hv hd hcd
end
theorem ite2 {c A B : Prop} [Decidable c] (h1 : c → A) (h2 : ¬ c → B) : if c then A else B := by
  by_cases h : c
  · rw [if_pos h]
    exact h1 h
  · rw [if_neg h]
    exact h2 h
def Same (H H' : Hp) : Prop := ∀ b o, H b = some o → H' b = some o
theorem Same.refl (H : Hp) : Same H H := fun _ _ h => h
theorem Same.trans {H H1 H2 : Hp} (a : Same H H1) (b : Same H1 H2) : Same H H2 := fun c o h => b c o (a c o h)
theorem Same.free {H H' : Hp} (e : Same H H') {l : Addr} (h : H' l = Option.none) : H l = Option.none := by
  cases q : H l with
  | none => rfl
  | some o =>
    rw [e l o q] at h
    cases h
theorem Same.seq {K : PySem.W.Frag} {H H' : Hp} {a : Addr} {xs : List V} (e : Same H H') (h : SqL K H a xs) : SqL K H' a xs := by
  rcases h with (h | ⟨o, h⟩) | h
  · exact .inl (.inl (e _ _ h))
  · exact .inl (.inr ⟨o, e _ _ h⟩)
  · exact .inr h
end L2
set_option Elab.async false
set_option linter.all false
set_option maxRecDepth 100000
namespace L2
open PySem PySem.Spec PyProof.Rows
section
variable {κ : Type} [DecidableEq κ]
end
section
variable {P : Program} {w : World} {H : Hp} {h : Heap} {a : Addr}
end
section
variable {X : Cx} {pins : List (Addr × Obj)} {σ : St} {H : Hp} {s : Shared} {a : Addr} {y v : V} {u r : Value} {o : Option V} {A : Around} {E : Value → Shared → Prop}
end
section
variable {X : Cx} {pins : List (Addr × Obj)} {σ : St} {H : Hp} {s : Shared} {a : Addr} {kvs : List (Key × V)} {k : Key} {u : Value} {A : Around} {E : Value → Shared → Prop}
end
section
variable {X : Cx} {o i e value : Expr} {pos pos' tpos : Pos} {td ty tv : TE}
end
section
variable {X : Cx} {pos : Pos}
end
section
variable {X : Cx} {pins : List (Addr × Obj)} {σ : St} {H : Hp} {s : Shared} {a : Addr} {y d : V} {u r : Value} {o : Option V} {A : Around} {E : Value → Shared → Prop}
end
section
variable {X : Cx} {o e f : Expr} {apos cpos : Pos} {td ty tx : TE}
end
section
variable {X : Cx} {pins : List (Addr × Obj)} {σ : St} {H : Hp} {s : Shared} {a : Addr} {kvs : List (Key × V)} {A : Around} {E : Value → Shared → Prop}
end
section
variable {X : Cx} {pins : List (Addr × Obj)} {σ : St} {H : Hp} {s : Shared} {a : Addr} {y : V} {u : Value} {A : Around} {E : Value → Shared → Prop}
end
end L2
namespace L2
open PySem
section
variable {X : Cx}
end
section
variable {κ : Type} [DecidableEq κ]
end
end L2
set_option Elab.async false
set_option linter.all false
set_option maxRecDepth 100000
namespace L2
open PySem PySem.Spec PyProof.Rows
def Its (z : Str) : It := ⟨fun i _ => i < z.cps.size, fun i H v H' => H' = H ∧ ∃ c, z.cps[i]? = some c ∧ v = .str ⟨#[c]⟩, fun i _ => i = z.cps.size⟩
theorem turn_walks {P : Program} {w : World} {K : PySem.W.Frag} {y : Str} {py : Pos} {n : Nat} {Pv : Nat → Value → Prop} {St : Nat → Heap → Prop} {it : Addr} {J : It}
    (W : ∀ A : Around, A.handled = none → Walks P w A it [it] [it] n Pv St) (hS : ∀ (A : Around) (i : Nat) (s : Shared) (Q : Value → Shared → Prop) (E : Value → Shared → Prop), St i s.heap → Q (.ref it) s → wpAny (model P w) A (pyIter (.ref it)) Q E s)
    (ho : ∀ i h, St i h → ∃ o, h.get? it = some o ∧ ∀ v, o.data ≠ .cell v) (hf : ∀ i h h', St i h → (∀ b ∈ [it], ∀ o, h.get? b = some o → h'.get? b = some o) → St i h')
    (hgo : ∀ i H, J.go i H → i < n) (hstop : ∀ i H, J.stop i H → i = n) (hy : ∀ i H v, J.go i H → Pv i v → ∃ z, RelV z v ∧ J.yld i H z H) : Turn P w K (.Name y py) J [it] it St where
  mem := by simp
  obj := fun i h st b hb => by
    obtain rfl : b = it := by simpa using hb
    exact ho i h st
  keep := hf
  item := by
    intro X hP hw hK hc i pins s σ H E I fp st hg
    subst hP hw hK
    obtain ⟨f0, f1, f2, f3, f4, f5⟩ := fp it (by simp)
    refine (W X.A (I.ok.hd hc)).item i s _ _ (hgo i H hg) st fun v h' tk hP st' k => ⟨v, rfl, ?_⟩
    obtain ⟨z, rz, yz⟩ := hy i H v hg hP
    have I1 : Inv X pins σ H { s with heap := h', toks := tk } := I.turned (fun b o hb e => k b o (by simpa using hb) e) f0 f1 f3 f4 f5
    exact wpAny_pure ⟨z, H, I1, rz, yz, st', fun b hb => (fp b hb).1⟩
  done := by
    intro X hP hw hK hc i pins s σ H E I fp st hg
    subst hP hw hK
    obtain ⟨f0, f1, f2, f3, f4, f5⟩ := fp it (by simp)
    have e := hstop i H hg
    subst e
    exact (W X.A (I.ok.hd hc)).done s _ _ st fun h' tk k => ⟨rfl, I.turned (fun b o hb e => k b o (by simpa using hb) e) f0 f1 f3 f4 f5⟩
  self := hS
section
variable {X : Cx} {y : Str} {py : Pos}
def iStr (te : TE) : TI := fun σ H R => te σ H fun v H1 => ∃ z, v = .str z ∧ R (Its z) H1
theorem its_yld {z : Str} (i : Nat) (H : Hp) (v : Value) (_ : (Its z).go i H) (h : SignAt z i v) : ∃ u, RelV u v ∧ (Its z).yld i H u H := by
  obtain ⟨c, t, e, rfl⟩ := h
  exact ⟨.str ⟨#[c]⟩, ⟨t, rfl⟩, rfl, c, e, rfl⟩
theorem pi_str {e : Expr} {te : TE} (h : PE X e te) : PI X (.Name y py) e (iStr te) := by
  intro pins s σ H R I hw
  refine thn (h pins s σ H _ I hw) fun v s1 ⟨z, H1, I1, r1, q1⟩ => ?_
  obtain ⟨z, rfl, q⟩ := q1
  obtain ⟨t, rfl⟩ := r1
  have fin : ∀ {ty : String} (o : Obj), o.data = .fields #[.str z t, .int 0 0] → o.cls = .type ty → o.isFreed = false →
      Turn X.prog X.w X.K (.Name y py) (Its z) [s1.heap.objs.size] s1.heap.objs.size (fun i h => h.IsStrIter s1.heap.objs.size ty z t i) →
      PIE X pins σ (.Name y py) R (.ref s1.heap.objs.size) { s1 with heap := s1.heap.push o } := fun {ty} o ho hc hfr T => by
    refine ⟨s1.heap.objs.size, [s1.heap.objs.size], _, Its z, H1, rfl, I1.kept (t' := s1.toks) fun b o e => Heap.get?_push_of_some _ e, T, ⟨o, Heap.get?_push_size _ hfr, hc, ho⟩, fun b hb => ?_, q⟩
    obtain rfl : b = s1.heap.objs.size := by simpa using hb
    exact I1.fpOk (Nat.le_refl _) (I1.hok.fresh (Nat.le_refl _))
  have nc : ∀ {ty : String} (i : Nat) (h : Heap), h.IsStrIter s1.heap.objs.size ty z t i → ∃ o, h.get? s1.heap.objs.size = some o ∧ ∀ v, o.data ≠ .cell v := fun i h ⟨o, e, c, d⟩ => ⟨o, e, fun v z => by rw [d] at z; cases z⟩
  have kp : ∀ {ty : String} (i : Nat) (h h' : Heap), h.IsStrIter s1.heap.objs.size ty z t i → (∀ b ∈ [s1.heap.objs.size], ∀ o, h.get? b = some o → h'.get? b = some o) → h'.IsStrIter s1.heap.objs.size ty z t i :=
    fun i h h' ⟨o, e, c, d⟩ k => ⟨o, k _ (by simp) o e, c, d⟩
  cases ha : z.cps.all (· < 128)
  · exact wpAny_pyIter_wide ha (fin _ rfl rfl rfl (turn_walks (fun A hA => Walks.strWide hA _ z t) (fun A i s Q E st h => wpAny_pyIter_striter_wide st h) nc kp (fun _ _ h => h) (fun _ _ h => h) its_yld))
  · exact wpAny_pyIter_ascii ha (fin _ rfl rfl rfl (turn_walks (fun A hA => Walks.strAscii hA _ z t) (fun A i s Q E st h => wpAny_pyIter_striter_ascii st h) nc kp (fun _ _ h => h) (fun _ _ h => h) its_yld))
end
theorem for_str {z : Str} {g : TG} {tb : TS} {D : Ends} {σ : St} {H : Hp} (Pv : Nat → St → Hp → Prop) (h0 : Pv 0 σ H)
    (hs : ∀ i c σ H, z.cps[i]? = some c → Pv i σ H → g (.str ⟨#[c]⟩) σ H fun σ2 H2 => tb { D with nx := Pv (i + 1), ct := Pv (i + 1), bk := D.nx } σ2 H2) (hd : ∀ σ H, Pv z.cps.size σ H → D.nx σ H) :
    ∃ W : Nat → Nat → St → Hp → Prop, (∃ m, W 0 m σ H) ∧ ∀ i m σ H, W i m σ H →
      ((Its z).stop i H ∧ D.nx σ H) ∨ ((Its z).go i H ∧ ∃ N : St → Hp → Prop, (∀ σ' H', N σ' H' → ∃ m', m' < m ∧ W (i + 1) m' σ' H') ∧ ∀ x H', (Its z).yld i H x H' → g x σ H' fun σ2 H2 => tb { D with nx := N, ct := N, bk := D.nx } σ2 H2) := by
  refine ⟨fun i m σ H => m = z.cps.size - i ∧ i ≤ z.cps.size ∧ Pv i σ H, ⟨z.cps.size, by simp, Nat.zero_le _, h0⟩, ?_⟩
  rintro i m σ H ⟨rfl, hi, p⟩
  by_cases hlt : i < z.cps.size
  · refine .inr ⟨hlt, Pv (i + 1), fun σ' H' p' => ⟨z.cps.size - (i + 1), by omega, rfl, hlt, p'⟩, fun x H' q => ?_⟩
    obtain ⟨rfl, c, hc, rfl⟩ := q
    exact hs i c σ _ hc p
  · obtain rfl : i = z.cps.size := by omega
    exact .inl ⟨rfl, hd σ H p⟩
end L2
set_option Elab.async false
set_option linter.all false
set_option maxRecDepth 100000
namespace L2
open PySem PySem.Spec PyProof.Rows
theorem comp_loop {prog : Program} {w : World} {A : Around} {R : Result → Shared → Prop} {s : Shared} {elt tg iter : Expr} {ifs : List Expr} {scope : Scope} {pos : Pos} {it acc : Value} {env : Env} (J : Nat → Shared → Prop)
    (turn : ∀ n s, J n s → wpAny (model prog w) A (pyNext it) (fun r s₁ => match r with
      | none => R (.ok .next) s₁
      | some v => wpAny (model prog w) A (letOwnedTupleGo tg it v) (fun _ s₁' => wpAny (model prog w) A (assign tg env v) (fun _ s₂ =>
          wpAny (model prog w) A (forIn ifs true fun c r => if r = true then do let ok ← isTrue c env (eval c env); pure (ForInStep.yield ok) else pure (ForInStep.yield r)) (fun ok s₃ =>
            if ok = true then wpAny (model prog w) A (eval elt env) (fun x s₄ => wpAny (model prog w) A (call (.builtin "list.append") [acc, x]) (fun _ s₅ => ∃ m, m < n ∧ J m s₅) (fun _ _ => False) s₄) (fun _ _ => False) s₃
            else ∃ m, m < n ∧ J m s₃) (fun _ _ => False) s₂) (fun _ _ => False) s₁') (fun _ _ => False) s₁) (fun _ _ => False) s)
    (n : Nat) (h : J n s) : codeAny (model prog w) A (.compLoop (.ListComp elt [⟨tg, iter, ifs, 0⟩] scope pos) 0 it acc env) R s := by
  refine codeAny_loop rfl J (fun n s hJ => ?_) n h
  show wpAny (model prog w) A (Sem.onRaise (compTurn (.ListComp elt [⟨tg, iter, ifs, 0⟩] scope pos) 0 it acc env) (fun e => do noteFrame e env; theTreesLotGoes e)) _ _ s
  refine wpAny_noted ?_
  rw [compTurn_list]
  have no : ∀ {E : Value → Shared → Prop} (a : Value) (b : Shared), False → E a b := fun _ _ z => z.elim
  refine wpAny_bind (wpAny_standAt (wpAny_bind (wpAny_mono (turn n s hJ) (fun r s₁ h₁ => ?_) no)))
  cases r with
  | none => exact wpAny_pure h₁
  | some v =>
    refine wpAny_bind (wpAny_mono h₁ (fun _ s₁' h₁ => ?_) no)
    refine wpAny_bind (wpAny_mono h₁ (fun _ s₂ h₂ => ?_) no)
    refine wpAny_bind (wpAny_mono h₂ (fun ok s₃ h₃ => ?_) no)
    cases ok with
    | false => exact wpAny_pure ⟨rfl, h₃⟩
    | true =>
      refine wpAny_bind (wpAny_bind (wpAny_mono h₃ (fun x s₄ h₄ => ?_) no))
      exact wpAny_bind (wpAny_mono h₄ (fun _ s₅ h₅ => wpAny_pure (wpAny_pure ⟨rfl, h₅⟩)) no)
abbrev Cx.blk (X : Cx) (scope : Scope) (cl : List (Str × Addr)) (C : Addr) (N : List Str) (s₀ : Shared) (H₀ : Hp) (ex : List Addr) : Cx :=
  { X with env := compEnvC scope cl C X.env, N := N, s₀ := s₀, H₀ := H₀, outer := X.stack, stack := X.stack, ex := ex, fn := fun _ => false, pn := [], xe := fun _ _ => False }
structure CSc (sc so : Scope) (x : Str) (N XN : List Str) (fr : List Nat) : Prop where
  kind : sc.kind = .function
  nocell : ∀ y ∈ sc.names, y.2 ≠ .cell
  names : ∀ y ∈ sc.names, y.2 = .local → sc.names.lookup y.1 = some .local
  hx : sc.names.lookup x = some .local
  nd : N.Nodup
  eqN : N = x :: fr.map (fun j => XN.getD j "")
  inN : ∀ j ∈ fr, j < XN.length
  fre : ∀ y ∈ sc.names, y.2 = .free → so.names.lookup y.1 = some .cell ∨ so.names.lookup y.1 = some .free
  isf : ∀ j ∈ fr, sc.names.lookup (XN.getD j "") = some .free
  cel : ∀ j ∈ fr, so.names.lookup (XN.getD j "") ≠ some .local
def closOf (env : Env) : List (Str × NameKind) → List (Str × Addr) → List (Str × Addr)
  | [], acc => acc
  | (n, k) :: r, acc => if k == .free then (match env.cells.lookup n with | some c => closOf env r ((n, c) :: acc) | none => closOf env r acc) else closOf env r acc
theorem clos_run (env : Env) : ∀ (l : List (Str × NameKind)) (acc : List (Str × Addr)), (∀ y ∈ l, y.2 = .free → ∃ c, env.cells.lookup y.1 = some c) →
    (forIn (m := Sem) l acc fun (y : Str × NameKind) (cs : List (Str × Addr)) => if y.2 == .free then do let a ← cellOf env y.1; pure (ForInStep.yield ((y.1, a) :: cs)) else pure (ForInStep.yield cs)) = pure (closOf env l acc)
  | [], acc, _ => rfl
  | (n, k) :: r, acc, h => by
    have ih := fun acc => clos_run env r acc fun y hy => h y (List.mem_cons_of_mem _ hy)
    rw [List.forIn_cons]
    by_cases hk : k = .free
    · subst hk
      obtain ⟨c, e⟩ := h (n, .free) List.mem_cons_self rfl
      simp only [cellOf, e, closOf, beq_self_eq_true, if_true]
      exact ih _
    · have hb : (k == NameKind.free) = false := by simpa using hk
      simp only [hb, closOf, Bool.false_eq_true, if_false]
      exact ih _
theorem clos_eq (env : Env) (sc : Scope) (h : ∀ y ∈ sc.names, y.2 = .free → ∃ c, env.cells.lookup y.1 = some c) : closureFor sc env = pure (closOf env sc.names []) := by
  unfold closureFor
  have e := clos_run env sc.names [] h
  exact (congrArg (fun t : Sem _ => t >>= fun cs => pure cs) e).trans rfl
theorem closOf_sub (env : Env) : ∀ (l : List (Str × NameKind)) (acc : List (Str × Addr)), (∀ y c, acc.lookup y = some c → env.cells.lookup y = some c) → ∀ y c, (closOf env l acc).lookup y = some c → env.cells.lookup y = some c
  | [], acc, h => h
  | (n, k) :: r, acc, h => by
    unfold closOf
    split
    · split
      · rename_i c e
        refine closOf_sub env r _ fun y c' q => ?_
        rw [List.lookup_cons] at q
        cases hy : y == n with
        | true =>
          rw [hy] at q
          cases q
          have : y = n := by simpa using hy
          subst this
          exact e
        | false =>
          rw [hy] at q
          exact h y c' q
      · exact closOf_sub env r acc h
    · exact closOf_sub env r acc h
theorem closOf_acc (env : Env) : ∀ (l : List (Str × NameKind)) (acc : List (Str × Addr)) (y : Str), (∃ c, acc.lookup y = some c) → ∃ c, (closOf env l acc).lookup y = some c
  | [], _, _, h => h
  | (n, k) :: r, acc, y, h => by
    unfold closOf
    split
    · split
      · refine closOf_acc env r _ y ?_
        rw [List.lookup_cons]
        cases y == n with
        | true => exact ⟨_, rfl⟩
        | false => exact h
      · exact closOf_acc env r acc y h
    · exact closOf_acc env r acc y h
theorem closOf_has (env : Env) : ∀ (l : List (Str × NameKind)) (acc : List (Str × Addr)) (y : Str), (y, NameKind.free) ∈ l → (∃ c, env.cells.lookup y = some c) → ∃ c, (closOf env l acc).lookup y = some c
  | [], _, _, h, _ => nomatch h
  | (n, k) :: r, acc, y, h, hc => by
    unfold closOf
    rcases List.mem_cons.mp h with e | hm
    · cases e
      obtain ⟨c, e⟩ := hc
      rw [if_pos (by rfl), e]
      exact closOf_acc env r _ _ ⟨c, by simp [List.lookup_cons]⟩
    · split
      · split
        · exact closOf_has env r _ y hm hc
        · exact closOf_has env r acc y hm hc
      · exact closOf_has env r acc y hm hc
def RelF (f : Str × NameKind → Str × NameKind) : Prop := ∀ p, f p = p ∨ (p.2 = .free ∧ f p = (p.1, .cell))
theorem lookup_hd {y n : Str} {k : NameKind} {r : List (Str × NameKind)} : List.lookup y ((n, k) :: r) = if y = n then some k else r.lookup y := by
  rw [List.lookup_cons]
  by_cases h : y = n
  · rw [if_pos h, show (y == n) = true by simpa using h]
  · rw [if_neg h, show (y == n) = false by simpa using h]
theorem relF_free {f : Str × NameKind → Str × NameKind} (hf : RelF f) : ∀ {names : List (Str × NameKind)} {y : Str} {k : NameKind}, (names.map f).lookup y = some k → (k = .cell ∨ k = .free) → (∀ z ∈ names, z.2 ≠ .cell) → (y, NameKind.free) ∈ names
  | [], _, _, h, _, _ => by simp at h
  | (n, j) :: r, y, k, h, hk, hc => by
    rw [List.map_cons] at h
    have go : r.lookup y = r.lookup y → (r.map f).lookup y = some k → (y, NameKind.free) ∈ (n, j) :: r := fun _ h' => List.mem_cons_of_mem _ (relF_free hf h' hk fun z hz => hc z (List.mem_cons_of_mem _ hz))
    rcases hf (n, j) with e | ⟨e1, e⟩
    · rw [e, lookup_hd] at h
      by_cases hy : y = n
      · rw [if_pos hy] at h
        cases h
        rcases hk with rfl | rfl
        · exact absurd rfl (hc (n, .cell) List.mem_cons_self)
        · rw [hy]; exact List.mem_cons_self
      · rw [if_neg hy] at h
        exact go rfl h
    · rw [e, lookup_hd] at h
      by_cases hy : y = n
      · rw [hy, show j = NameKind.free from e1]; exact List.mem_cons_self
      · rw [if_neg hy] at h
        exact go rfl h
theorem relF_isfree {f : Str × NameKind → Str × NameKind} (hf : RelF f) : ∀ {names : List (Str × NameKind)} {y : Str}, names.lookup y = some .free → (names.map f).lookup y = some .cell ∨ (names.map f).lookup y = some .free
  | [], _, h => by simp at h
  | (n, j) :: r, y, h => by
    rw [lookup_hd] at h
    rw [List.map_cons]
    rcases hf (n, j) with e | ⟨e1, e⟩
    · rw [e, lookup_hd]
      by_cases hy : y = n
      · rw [if_pos hy] at h ⊢
        cases h
        exact .inr rfl
      · rw [if_neg hy] at h ⊢
        exact relF_isfree hf h
    · rw [e, lookup_hd]
      by_cases hy : y = n
      · rw [if_pos hy]
        exact .inl rfl
      · rw [if_neg hy] at h ⊢
        exact relF_isfree hf h
theorem relF_env (env : Env) : RelF fun (n, k) => if (k == NameKind.free && env.scope.kind == .function && env.kindOf n == some .cell) then (n, NameKind.cell) else (n, k) := fun ⟨n, k⟩ => by
  by_cases h : (k == NameKind.free && env.scope.kind == .function && env.kindOf n == some .cell) = true
  · refine .inr ⟨?_, if_pos h⟩
    have h1 := (Bool.and_eq_true_iff.mp (Bool.and_eq_true_iff.mp h).1).1
    simpa using h1
  · exact .inl (if_neg h)
theorem relabel_free {env : Env} {sc : Scope} {y : Str} {k : NameKind} (h : (relabel sc env).names.lookup y = some k) (hk : k = .cell ∨ k = .free) (hc : ∀ z ∈ sc.names, z.2 ≠ .cell) : (y, NameKind.free) ∈ sc.names :=
  relF_free (relF_env env) h hk hc
theorem relabel_isfree {env : Env} {sc : Scope} {y : Str} (h : sc.names.lookup y = some .free) : (relabel sc env).names.lookup y = some .cell ∨ (relabel sc env).names.lookup y = some .free :=
  relF_isfree (relF_env env) h
end L2
set_option Elab.async false
set_option linter.all false
set_option maxRecDepth 100000
namespace L2
open PySem PySem.Spec PyProof.Rows
def PTs (X : Cx) (ifs : List Expr) (t : TT) : Prop :=
  ∀ (pins : List (Addr × Obj)) (s : Shared) (σ : St) (H : Hp) (Q : Bool → Hp → Prop), Inv X pins σ H s → t σ H Q →
    wpAny (model X.prog X.w) X.A (forIn ifs true fun c r => if r = true then do let ok ← isTrue c X.env (eval c X.env); pure (ForInStep.yield ok) else pure (ForInStep.yield r)) (TP X pins σ Q) X.xe s
def tYes : TT := fun _ H Q => Q true H
theorem pts_nil {X : Cx} : PTs X [] tYes := fun _ _ _ H _ I h => wpAny_tests_nil ⟨H, I, h⟩
def stB (fr : List Nat) (σ : St) : St := none :: fr.map fun j => (σ[j]?).join
def stB1 (x : V) (fr : List Nat) (σ : St) : St := some x :: fr.map fun j => (σ[j]?).join
def CompR (J : It) (H1 : Hp) (fr : List Nat) (σ : St) (tt : TT) (te : TE) (Q : VK) : Prop :=
  ∀ D, H1 D = none → ∃ W : Nat → Nat → List V → Hp → Prop, (∃ m, W 0 m [] (upd H1 D (.lst []))) ∧
    ∀ i m ys H2, W i m ys H2 → ((J.stop i H2 ∧ Q (.ref D) H2) ∨ (J.go i H2 ∧ ∀ x H3, J.yld i H2 x H3 → tt (stB1 x fr σ) H3 fun b H4 =>
      if b = true then te (stB1 x fr σ) H4 fun y H5 => H5 D = some (.lst ys) ∧ ys.length < sizeLine ∧ ∃ m', m' < m ∧ W (i + 1) m' (ys ++ [y]) (upd H5 D (.lst (ys ++ [y])))
      else ∃ m', m' < m ∧ W (i + 1) m' ys H4))
def tComp (wi : TI) (fr : List Nat) (tt : TT) (te : TE) : TE := fun σ H Q => wi σ H fun J H1 => CompR J H1 fr σ tt te Q
section
variable {X : Cx} {x : Str} {px : Pos} {elt iter : Expr} {ifs : List Expr} {scope : Scope} {pos : Pos} {N : List Str} {fr : List Nat} {tt : TT} {te : TE} {wi : TI}
theorem csc_has {pins : List (Addr × Obj)} {σ : St} {H : Hp} {s : Shared} (S : CSc scope X.env.scope x N X.N fr) (I : Inv X pins σ H s) : ∀ y ∈ scope.names, y.2 = .free → ∃ c, X.env.cells.lookup y.1 = some c :=
  fun y hy hf => I.ok.has y.1 (S.fre y hy hf)
theorem comp_block {pins : List (Addr × Obj)} {σ : St} {H : Hp} {s₂ : Shared} {J : It} {fp : List Addr} {it : Addr} {tn : Nat → Heap → Prop} {Q : VK} {RR : Value → Addr → Result → Shared → Prop} {E : Value → Shared → Prop}
    (hc : X.calm = true) (S : CSc scope X.env.scope x N X.N fr) (ht : ∀ cl C s₀ H₀ ex, PTs (X.blk scope cl C N s₀ H₀ ex) ifs tt) (he : ∀ cl C s₀ H₀ ex, PE (X.blk scope cl C N s₀ H₀ ex) elt te)
    (I : Inv X pins σ H s₂) (T : Turn X.prog X.w X.K (.Name x px) J fp it tn) (st : tn 0 s₂.heap) (f2 : ∀ b ∈ fp, FpOk X pins H b) (R : CompR J H fr σ tt te Q)
    (hRR : ∀ (D C : Addr) (s' : Shared) (m : Str → Option Value) (H' : Hp), Inv X pins σ H' s' → s'.heap.Ns C m → FpOk X pins H' C → Q (.ref D) H' → RR (.ref D) C (.ok .next) s') :
    wpAny (model X.prog X.w) X.A (newList []) (fun acc s₃ => wpAny (model X.prog X.w) X.A (newFunctionEnv scope X.env.globals (closOf X.env scope.names []) [] X.env.qual none .none (some X.env)) (fun cenv s₄ =>
      codeAny (model X.prog X.w) X.A (.compStart (.ListComp elt [⟨.Name x px, iter, ifs, 0⟩] scope pos) 0 (.ref it) acc { cenv with scope := relabel scope X.env }) (RR acc cenv.locals) s₄) E s₃) E s₂ := by
  refine wpAny_newObj_type (wpAny_newFunctionEnv S.nocell (by intro y hy; simp at hy) (fun h₁ hns₁ hsb₁ => ?_) S.kind)
  dsimp only at hns₁ hsb₁ ⊢
  have hD : H s₂.heap.objs.size = none := I.fresh
  have I0 : Inv X pins σ (upd H s₂.heap.objs.size (.lst [])) { s₂ with heap := s₂.heap.push { cls := .type "list", dict := none, data := .seq ([] : List Value).toArray } } := I.lnew (t' := s₂.toks) (its := []) .nil (Nat.zero_le _)
  have hGp : ∀ b o, s₂.heap.get? b = some o → (s₂.heap.push { cls := .type "list", dict := none, data := .seq ([] : List Value).toArray }).get? b = some o := fun b o e => Heap.get?_push_of_some _ e
  have hGs : (s₂.heap.push { cls := .type "list", dict := none, data := .seq ([] : List Value).toArray }).objs.size = s₂.heap.objs.size + 1 := Heap.size_push ..
  generalize hG : s₂.heap.push { cls := .type "list", dict := none, data := .seq ([] : List Value).toArray } = G at hns₁ hsb₁ I0 hGp hGs ⊢
  generalize hDD : s₂.heap.objs.size = D at hD I0 hGs ⊢
  obtain ⟨W, ⟨m0, w0⟩, turn⟩ := R D hD
  have old : ∀ b o, G.get? b = some o → h₁.get? b = some o := fun b o e => hsb₁.extBut b o (Nat.ne_of_lt (Heap.lt_size e)) (Heap.get?_push_of_some _ e)
  have sub := closOf_sub X.env scope.names [] (fun y c z => by simp at z)
  have IY : Inv (X.blk scope (closOf X.env scope.names []) G.objs.size N { s₂ with heap := G } (upd H D (.lst [])) fp) [] (stB fr σ) (upd H D (.lst [])) { s₂ with heap := h₁, toks := s₂.toks + ([] : List (Str × Value)).length } := by
    refine ⟨⟨I.ok.mod, S.kind, I.ok.glob, I.ok.blt, Nat.le_refl _, fun y z c e1 e2 => I.ok.inj y z c (sub y c e1) (sub z c e2), fun y hy => ?_, fun y c z => (nomatch z), I.ok.hd, I.ok.frames, .inl rfl, fun b hb => ⟨?_, fun y c e => (f2 b hb).2.2.2.2.1 y c (sub y c e)⟩,
      I0.bs, Nat.le_trans I.ok.bsz I0.sz, fun b o e hb => ?_, fun b hb z => ?_, I0.stack, I0.stkFree⟩, rfl, I.bare, Un.kept old, ⟨_, hns₁, fun i y v e1 e2 e3 => ?_⟩, fun y c e => ?_, I0.hok.fresh (Nat.le_refl _), fun y c e => I0.freeC y c (sub y c e), fun p hp => absurd (show p ∈ ([] : List (Addr × Obj)) from hp) (by simp), I0.hok.kept old, ?_⟩
    · have hm : (y, NameKind.free) ∈ scope.names := by
        rcases hy with hy | hy
        · exact relabel_free hy (.inl rfl) S.nocell
        · exact relabel_free hy (.inr rfl) S.nocell
      exact closOf_has X.env scope.names [] y hm (csc_has S I _ hm rfl)
    · obtain ⟨o, e, _⟩ := T.obj 0 _ st b hb
      have h1 : @LT.lt Nat _ b s₂.heap.objs.size := Heap.lt_size e
      show b ≠ G.objs.size
      intro z
      have z' : @Eq Nat b G.objs.size := z
      rw [hGs] at z'
      omega
    · rcases (f2 b hb).2.2.2.1 with z | z
      · exact I.ok.noex b o e z
      · have h1 : @LT.lt Nat _ b X.base.objs.size := Heap.lt_size e
        have h2 : @LE.le Nat _ X.base.objs.size X.s₀.heap.objs.size := I.ok.bsz
        have z' : @LE.le Nat _ X.s₀.heap.objs.size b := z
        omega
    · rcases List.mem_cons.mp (I.stkSub b z) with e | e
      · exact (f2 b hb).2.1 e
      · exact (f2 b hb).2.2.1 e
    · cases i with
      | zero => simp [stB] at e2
      | succ k =>
        have e1' : (fr.map fun j => X.N.getD j "")[k]? = some y := by
          have z : N[k + 1]? = some y := e1
          rw [S.eqN] at z
          simpa using z
        have e2' : (fr.map fun j => (σ[j]?).join)[k]? = some (some v) := by simpa [stB] using e2
        rw [List.getElem?_map] at e1' e2'
        cases hj : fr[k]? with
        | none => rw [hj] at e1'; cases e1'
        | some j =>
          rw [hj] at e1' e2'
          have ey : X.N.getD j "" = y := Option.some.inj e1'
          have ev : (σ[j]?).join = some v := Option.some.inj e2'
          have hjm : j ∈ fr := List.mem_of_getElem? hj
          have hjl := S.inN j hjm
          have eN : X.N[j]? = some y := by rw [← ey]; simp [List.getD, hjl]
          have eσ : σ[j]? = some (some v) := by
            cases q : σ[j]? with
            | none => rw [q] at ev; cases ev
            | some w => rw [q] at ev; rw [show w = some v from ev]
          have hfree : scope.names.lookup y = some .free := by rw [← ey]; exact S.isf j hjm
          have hm : (y, NameKind.free) ∈ scope.names := PySem.mem_of_lookup hfree
          obtain ⟨m, hn, hl⟩ := I.loc
          obtain ⟨u, r, l⟩ := hl j y v eN eσ (by rcases S.fre _ hm rfl with z | z; exact .inr (.inl z); exact .inr (.inr z))
          refine ⟨u, r, ?_⟩
          rcases l with ⟨k1, _⟩ | ⟨_, c, ec, o, ho, hd⟩
          · exact absurd k1 (by rw [← ey]; exact S.cel j hjm)
          · obtain ⟨c', e'⟩ := closOf_has X.env scope.names [] y hm ⟨c, ec⟩
            have e2 := sub y c' e'
            rw [ec] at e2
            cases e2
            exact .inr ⟨relabel_isfree hfree, c, e', o, old _ _ (hGp _ _ ho), hd⟩
    · obtain ⟨v, o, ho, hd⟩ := I.cell y c (sub y c e)
      exact ⟨v, o, old _ _ (hGp _ _ ho), hd⟩
    · show (stB fr σ).length = N.length
      rw [S.eqN]
      simp [stB]
  have fr0 : ∀ b ∈ fp, (upd H D (.lst [])) b = none := fun b hb => by
    obtain ⟨o, e, _⟩ := T.obj 0 _ st b hb
    rw [upd_ne (by intro z; rw [z, ← hDD] at e; exact absurd (Heap.lt_size e) (Nat.lt_irrefl _))]
    exact (f2 b hb).1
  have st₁ : tn 0 h₁ := T.keep _ _ _ st fun b _ o e => old _ _ (hGp _ _ e)
  have stat : ∀ {H' : Hp}, (∀ b ∈ fp, H' b = none) → ∀ b ∈ fp, FpOk (X.blk scope (closOf X.env scope.names []) G.objs.size N { s₂ with heap := G } (upd H D (.lst [])) fp) [] H' b := fun hn b hb =>
    ⟨hn b hb, (IY.ok.exf b hb).1, IY.ok.exfs b hb, .inl hb, (IY.ok.exf b hb).2, fun p hp => absurd (show p ∈ ([] : List (Addr × Obj)) from hp) (by simp)⟩
  have loop : codeAny (model X.prog X.w) X.A (.compLoop (.ListComp elt [⟨.Name x px, iter, ifs, 0⟩] scope pos) 0 (.ref it) (.ref D) (compEnvC scope (closOf X.env scope.names []) G.objs.size X.env)) (RR (.ref D) G.objs.size)
      { s₂ with heap := h₁, toks := s₂.toks + ([] : List (Str × Value)).length } := by
    refine comp_loop (fun n s' => ∃ i ys H', Inv (X.blk scope (closOf X.env scope.names []) G.objs.size N { s₂ with heap := G } (upd H D (.lst [])) fp) [] (stB fr σ) H' s' ∧ tn i s'.heap ∧ (∀ b ∈ fp, H' b = none) ∧ W i n ys H') ?_ m0 ⟨0, [], _, IY, st₁, fr0, w0⟩
    rintro n s3 ⟨i, ys, H3, I3, st3, fr3, w3⟩
    rcases turn i n ys H3 w3 with ⟨stop, q⟩ | ⟨go, step⟩
    · refine thn (T.done (X.blk scope (closOf X.env scope.names []) G.objs.size N { s₂ with heap := G } (upd H D (.lst [])) fp) rfl rfl rfl hc i [] s3 _ H3 _ I3 (stat fr3) st3 stop) fun r s4 ⟨hr, I4⟩ => ?_
      subst hr
      obtain ⟨m', hn', _⟩ := I4.loc
      have u : Un (frs X.stack) fp H H3 s₂.heap s4.heap := Un.trans (Un.laid hGp (Nat.le_of_eq hDD) hD) I4.base
      refine hRR D G.objs.size s4 m' H3 (I.call' I4.os u I4.hok I4.bare fun b hb => ⟨(f2 b hb).2.2.2.1, (f2 b hb).2.1, (f2 b hb).2.2.2.2.1, (f2 b hb).2.2.2.2.2⟩) hn' (I.fpOk (by omega) I4.free) q
    · refine thn (T.item (X.blk scope (closOf X.env scope.names []) G.objs.size N { s₂ with heap := G } (upd H D (.lst [])) fp) rfl rfl rfl hc i [] s3 _ H3 _ I3 (stat fr3) st3 go) fun r s4 ⟨u, hr, h4⟩ => ?_
      subst hr
      refine thn h4 fun _ s5 ⟨x', H5, I5, r5, y5, st5, fr5⟩ => ?_
      have I5' := I5.pinned (stat fr5) (T.obj _ _ st5)
      refine wpAny_assign_Name (store_ok (i := 0) I5' S.nd (by show N[0]? = some x; rw [S.eqN]; rfl) (.inl (lookup_relabel_local S.hx)) r5 (fun s6 I6 => ?_) (.inr (lookup_relabel_local S.hx)))
      have I6' : Inv (X.blk scope (closOf X.env scope.names []) G.objs.size N { s₂ with heap := G } (upd H D (.lst [])) fp) ([] ++ pinsAt fp s5.heap) (stB1 x' fr σ) H5 s6 := I6
      have again : ∀ {H8 : Hp} {s8 : Shared} {ys' : List V}, Inv (X.blk scope (closOf X.env scope.names []) G.objs.size N { s₂ with heap := G } (upd H D (.lst [])) fp) ([] ++ pinsAt fp s5.heap) (stB1 x' fr σ) H8 s8 → (∃ m', m' < n ∧ W (i + 1) m' ys' H8) →
          ∃ m, m < n ∧ ∃ i ys H', Inv (X.blk scope (closOf X.env scope.names []) G.objs.size N { s₂ with heap := G } (upd H D (.lst [])) fp) [] (stB fr σ) H' s8 ∧ tn i s8.heap ∧ (∀ b ∈ fp, H' b = none) ∧ W i m ys H' := fun {H8 s8 ys'} I8 ⟨m', hm, w8⟩ => by
        refine ⟨m', hm, i + 1, ys', H8, I8.unpinned.weak (by simp [stB, stB1]) (fun j v e => ?_), T.keep _ _ _ st5 fun b hb o e => (I8.pin (b, o) (List.mem_append_right _ (List.mem_append_right _ (mem_pinsAt hb e)))).1, fun b hb => ?_, w8⟩
        · cases j with
          | zero => simp [stB] at e
          | succ k => simpa [stB, stB1] using e
        · obtain ⟨o, e, d⟩ := T.obj _ _ st5 b hb
          exact (I8.pin (b, o) (List.mem_append_right _ (List.mem_append_right _ (mem_pinsAt hb e)))).2.1
      refine thn (ht _ _ _ _ _ _ s6 (stB1 x' fr σ) H5 _ I6' (step x' H5 y5)) fun b s7 ⟨H7, I7, q7⟩ => ?_
      cases b with
      | false => exact again I7 q7
      | true =>
        refine thn (he _ _ _ _ _ _ s7 _ H7 _ I7 q7) fun yv s8 ⟨y, H8, I8, r8, hD8, hz, q8⟩ => ?_
        refine thn (mt_append _ s8 _ H8 (.ref D) [y] (.ref D) [yv] (fun _ H9 => H9 = upd H8 D (.lst (ys ++ [y]))) I8 rfl (.cons r8 .nil) ⟨D, ys, y, rfl, rfl, hD8, hz, rfl⟩) fun _ s9 ⟨_, H9, I9, _, e9⟩ => ?_
        subst e9
        exact again I9 q8
  exact codeAny_compStart_list loop (T.self _ 0 _ _ _ st₁ loop)
theorem pe_comp (hc : X.calm = true) (S : CSc scope X.env.scope x N X.N fr) (hi : PI X (.Name x px) iter wi) (ht : ∀ cl C s₀ H₀ ex, PTs (X.blk scope cl C N s₀ H₀ ex) ifs tt) (he : ∀ cl C s₀ H₀ ex, PE (X.blk scope cl C N s₀ H₀ ex) elt te)
    (hs : ∀ v, foldedSetIterable iter X.env v = pure v := by intro _; rfl) : PE X (.ListComp elt [⟨.Name x px, iter, ifs, 0⟩] scope pos) (tComp wi fr tt te) := by
  intro pins s σ H Q I h
  rw [eval_ListComp]
  refine wpAny_comprehension_free (use := none) rfl hs (clos_eq X.env scope (csc_has S I)) S.kind S.names (thn (hi pins s σ H _ I h) fun v s1 h1 => thn h1 fun itv s2 h2 => ?_)
  obtain ⟨it, fp, tn, J, H2, e, I2, T, st2, f2, R⟩ := h2
  subst e
  refine comp_block (RR := fun acc C => compPost (model X.prog X.w) X.A X.xe none (EP X pins σ Q) acc C) hc S ht he I2 T st2 f2 R fun D C s' m H' I' hn hf q => ?_
  exact ⟨m, hn, fun h' hs' => ⟨.ref D, H', I'.turned (t' := s'.toks) (fun b o hb e => hs'.extBut b o hb e) hf.1 hf.2.1 hf.2.2.2.1 hf.2.2.2.2.1 hf.2.2.2.2.2, rfl, q⟩⟩
end
end L2
set_option Elab.async false
set_option linter.all false
set_option maxRecDepth 100000
namespace L2
open PySem PySem.Spec PyProof.Rows
abbrev tx (l : List Nat) : Str := ⟨l.toArray⟩
theorem tx_len (l : List Nat) : (tx l).length = l.length := by simp [Str.length]
theorem tx_list (l : List Nat) : (tx l).cps.toList = l := by simp [tx]
theorem tx_codes (x : Str) : tx x.cps.toList = x := by
  obtain ⟨a⟩ := x
  simp [tx]
theorem len_codes (x : Str) : x.length = x.cps.toList.length := by simp [Str.length]
theorem tx_app (a b : List Nat) : tx a ++ tx b = tx (a ++ b) := by
  show (⟨a.toArray ++ b.toArray⟩ : Str) = ⟨(a ++ b).toArray⟩
  simp
theorem tx_inj {a b : List Nat} : tx a = tx b ↔ a = b := by simp [tx]
theorem slice_to {x : Str} {j : Int} (h0 : 0 ≤ j) : Txt.slice x none (some j) = tx (x.cps.toList.take j.toNat) := by
  by_cases h : j ≤ x.cps.toList.length
  · have e := beq_iff_eq.mp (slice_closes_to (x := x) ⟨h0, h⟩)
    rw [e]
    simp [tx]
  · have hl : (x.length : Int) ≤ j := by rw [len_codes]; omega
    have e2 : Txt.slice x none (some j) = Txt.slice x none (some (x.length : Int)) := by
      unfold Txt.slice
      rw [sliceIdx_hi_beyond _ hl]
    have e := beq_iff_eq.mp (slice_closes_to (x := x) (j := (x.length : Int)) ⟨by omega, by rw [len_codes]; exact Int.le_refl _⟩)
    rw [e2, e]
    have h3 : x.cps.toList.take j.toNat = x.cps.toList := List.take_of_length_le (by omega)
    have h4 : x.cps.toList.take ((x.length : Int) - 0).toNat = x.cps.toList := List.take_of_length_le (by rw [← len_codes]; omega)
    rw [h3]
    show tx (x.cps.toList.take ((x.length : Int) - 0).toNat) = _
    rw [h4]
theorem slice_from {x : Str} {i : Int} (h0 : 0 ≤ i) : Txt.slice x (some i) none = tx (x.cps.toList.drop i.toNat) := by
  by_cases h : i ≤ x.length
  · rw [slice_from_eq (b := (x.length : Int)) h0 h rfl]
    have h3 : (x.cps.toList.drop i.toNat).take ((x.length : Int) - i).toNat = x.cps.toList.drop i.toNat := List.take_of_length_le (by rw [List.length_drop, ← len_codes]; omega)
    rw [h3]
  · rw [slice_beyond (by omega), List.drop_eq_nil_of_le (by rw [← len_codes]; omega)]
    simp [tx, Str.empty]
def rSlS : V → Option Int → Option Int → Hp → VK → Prop := fun x lo hi H Q => ∃ z, x = .str z ∧ z.length ≤ sizeLine ∧
  ((∃ j, lo = none ∧ hi = some j ∧ 0 ≤ j ∧ Q (.str (tx (z.cps.toList.take j.toNat))) H) ∨ (∃ i, lo = some i ∧ hi = none ∧ 0 ≤ i ∧ Q (.str (tx (z.cps.toList.drop i.toNat))) H))
section
variable {X : Cx}
theorem sl_str : SlR X rSlS := by
  intro pins s σ H x v vl vu lo hi sl Q I rx hs pl pu h
  obtain ⟨z, rfl, hz, h⟩ := h
  obtain ⟨t, rfl⟩ := rx
  refine ⟨"str", _, PySem.F.slot_str_getitem.lookup, typeIs_str _ _ _, ?_⟩
  rcases h with ⟨j, rfl, rfl, h0, q⟩ | ⟨j, rfl, rfl, h0, q⟩
  · cases pl
    cases pu with
    | int j u =>
      refine wpAny_getItem_str_slice (l := none) (u := some (j, u)) (st := none) hs rfl (post_val_or_str ⟨Nat.le_trans (Txt.slice_le z _ _) hz, fun t' k => ?_⟩)
      refine ⟨.str (tx (z.cps.toList.take j.toNat)), H, I.tok _, ⟨t', ?_⟩, q⟩
      rw [← slice_to h0]
      rfl
  · cases pu
    cases pl with
    | int j u =>
      refine wpAny_getItem_str_slice (l := some (j, u)) (u := none) (st := none) hs rfl (post_val_or_str ⟨Nat.le_trans (Txt.slice_le z _ _) hz, fun t' k => ?_⟩)
      refine ⟨.str (tx (z.cps.toList.drop j.toNat)), H, I.tok _, ⟨t', ?_⟩, q⟩
      rw [← slice_from h0]
      rfl
theorem op_in1 : OpR X (compareOp .In) (fun x y H Q => ∃ c z, x = .str ⟨#[c]⟩ ∧ y = .str z ∧ Q (.bl (decide (c ∈ z.cps.toList))) H) := by
  intro pins s σ H x y v u Q I rx ry h
  obtain ⟨c, z, rfl, rfl, q⟩ := h
  refine op_in_str pins s σ H _ _ v u Q I rx ry ⟨_, _, rfl, rfl, ?_⟩
  rw [StrLaws.found_one]
  exact q
theorem op_notin1 : OpR X (compareOp .NotIn) (fun x y H Q => ∃ c z, x = .str ⟨#[c]⟩ ∧ y = .str z ∧ Q (.bl (!decide (c ∈ z.cps.toList))) H) := by
  intro pins s σ H x y v u Q I rx ry h
  obtain ⟨c, z, rfl, rfl, q⟩ := h
  refine op_notin_str pins s σ H _ _ v u Q I rx ry ⟨_, _, rfl, rfl, ?_⟩
  rw [StrLaws.found_one]
  exact q
def rStarts : V → List V → Hp → VK → Prop := fun x xs H Q => ∃ z y, x = .str z ∧ xs = [.str y] ∧ Q (.bl (Txt.startswith z y)) H
theorem mt_starts : MtR X "str.startswith" rStarts := by
  intro pins s σ H x xs v us Q I rx rs h
  obtain ⟨z, y, rfl, rfl, q⟩ := h
  obtain ⟨t, rfl⟩ := rx
  obtain ⟨u, rfl, t', rfl⟩ := rs.one
  exact SC.startswith ⟨.bl _, H, I, rfl, q⟩
theorem strsAre_of : ∀ {ys : List Str} {us : List Value}, Vals (ys.map V.str) us → StrsAre us ys
  | [], us, r => by
    cases r
    exact .nil
  | y :: ys, us, r => by
    rw [List.map_cons] at r
    cases r with
    | cons r1 r2 =>
      obtain ⟨t, rfl⟩ := r1
      exact .cons y t (strsAre_of r2)
def rJoin (K : PySem.W.Frag) : V → List V → Hp → VK → Prop := fun x xs H Q => ∃ (p : Addr) (ys : List (List Nat)), x = .str ⟨#[]⟩ ∧ xs = [.ref p] ∧ SqL K H p (ys.map fun l => V.str (tx l)) ∧ (ys.map List.length).sum ≤ 16777216 ∧ Q (.str (tx ys.flatten)) H
theorem join_codes (ys : List (List Nat)) : Txt.join ⟨#[]⟩ (ys.map tx) = tx ys.flatten := by
  unfold Txt.join
  rw [StrLaws.glued_eq_join]
  induction ys with
  | nil => rfl
  | cons a r ih =>
    cases r with
    | nil => simp [Str.join, tx]
    | cons b r =>
      show tx a ++ ⟨#[]⟩ ++ Str.join ⟨#[]⟩ ((b :: r).map tx) = _
      rw [ih, show tx a ++ (⟨#[]⟩ : Str) = tx a from (tx_app a []).trans (by rw [List.append_nil]), tx_app]
      rfl
theorem mt_join : MtR X "str.join" (rJoin X.K) := by
  intro pins s σ H x xs v us Q I rx rs h
  obtain ⟨p, ys, rfl, rfl, hq, hz, q⟩ := h
  obtain ⟨t, rfl⟩ := rx
  obtain ⟨u, rfl, hu⟩ := rs.one
  cases hu
  obtain ⟨its, r, pl, _⟩ := I.list hq
  have r' : Vals ((ys.map tx).map V.str) its := by rw [List.map_map]; exact r
  refine join_list pl.isList (strsAre_of r') ?_ fun t' k => ⟨.str (tx ys.flatten), H, I.tok _, ⟨t', ?_⟩, q⟩
  · have e : (ys.map tx).map (·.length) = ys.map List.length := by
      rw [List.map_map]
      exact List.map_congr_left fun a _ => tx_len a
    rw [e]
    show _ + _ * 0 ≤ _
    omega
  · rw [join_codes]
theorem boolsAre_of : ∀ {bs : List Bool} {us : List Value}, Vals (bs.map V.bl) us → LSm.BoolsAre us bs
  | [], us, r => by
    cases r
    exact .nil
  | b :: bs, us, r => by
    rw [List.map_cons] at r
    cases r with
    | cons r1 r2 =>
      cases r1
      exact .cons b (boolsAre_of r2)
theorem call_all (hc : X.calm = true) : CallR X (.builtin "all") (fun xs H Q => ∃ (p : Addr) (bs : List Bool), xs = [.ref p] ∧ SqL X.K H p (bs.map V.bl) ∧ Q (.bl (bs.all id)) H) := by
  intro pins s σ H xs us Q I r h
  obtain ⟨p, bs, rfl, hq, q⟩ := h
  obtain ⟨u, rfl, ru⟩ := r.one
  cases ru
  obtain ⟨its, r, pl, _⟩ := I.list hq
  have hb := boolsAre_of r
  obtain ⟨o, n, e, hcl, _, hd⟩ := id pl
  have hlt : p < s.heap.objs.size := Heap.lt_size e
  refine call_all_walk (wpAny_pyIter_list pl.isList ?_)
  refine ⟨s.heap.objs.size, [s.heap.objs.size, p], [s.heap.objs.size], its.toArray.size, _, _, fun i => (bs[i]?).getD true, rfl, Walks.list (A := X.A.in1) (I.ok.hd hc) _ p (Nat.ne_of_lt hlt) its.toArray,
    ⟨⟨_, Heap.get?_push_size _ rfl, rfl, rfl⟩, pl.isList.push _⟩, fun i v s' Q' E' hP hQ => ?_, fun h' tk hk => ?_⟩
  · obtain ⟨b, e, rfl⟩ := hb.get i v (by simpa using hP)
    simp only [e, Option.getD_some] at hQ
    exact wpAny_truthy_bool hQ
  · have e : ((List.range its.toArray.size).all fun i => (bs[i]?).getD true) = bs.all id := by
      rw [List.size_toArray, hb.length]
      exact LSm.range_all bs
    rw [e]
    exact ⟨.bl _, H, I.kept (fun b o e => hk b o (fun z => by rw [List.mem_singleton.mp z] at e; exact Nat.lt_irrefl _ (Heap.lt_size e)) (Heap.get?_push_of_some _ e)), rfl, q⟩
theorem call_isinst : CallR X (.builtin "isinstance") (fun xs H Q => ∃ x t c b, xs = [x, .ty c] ∧ TyOf X.K H x t ∧ PySem.W.kitOne X.K t (.type c) = some b ∧ Q (.bl b) H) := by
  intro pins s σ H xs us Q I r h
  obtain ⟨x, t, c, b, rfl, ty, e, q⟩ := h
  obtain ⟨u, v, rfl, ru, rv⟩ := r.two
  cases rv
  exact isinst_ok I ru ty e fun tk => ⟨.bl b, H, I.tok _, rfl, q⟩
theorem call_int_text : CallR X (.type "int") (fun xs H Q => ∃ z n, xs = [.str z] ∧ intText? z = some n ∧ z.length ≤ 640 ∧ Q (.int n) H) := by
  intro pins s σ H xs us Q I r h
  obtain ⟨z, n, rfl, e, hl, q⟩ := h
  obtain ⟨u, rfl, t, rfl⟩ := r.one
  exact PySem.W.KIN.call_text e hl ⟨.int n, H, I.tok _, ⟨_, rfl⟩, q⟩
end
theorem kit_bb (K : PySem.W.Frag) : PySem.W.kitOne K (.type "bool") (.type "bool") = some true := by rfl
theorem kit_ib (K : PySem.W.Frag) : PySem.W.kitOne K (.type "int") (.type "bool") = some false := by rfl
theorem kit_ii (K : PySem.W.Frag) : PySem.W.kitOne K (.type "int") (.type "int") = some true := by rfl
theorem kit_ss (K : PySem.W.Frag) : PySem.W.kitOne K (.type "str") (.type "str") = some true := by rfl
theorem kit_ll (K : PySem.W.Frag) : PySem.W.kitOne K (.type "list") (.type "list") = some true := by rfl
theorem kit_tt (K : PySem.W.Frag) : PySem.W.kitOne K (.type "tuple") (.type "tuple") = some true := by rfl
end L2
set_option Elab.async false
set_option linter.all false
set_option maxRecDepth 100000
namespace L2
open PySem PySem.Spec PyProof.Rows
theorem Same.upd_new {H H' : Hp} {a : Addr} {o : HO} (s : Same H H') (h : H a = none) : Same H (upd H' a o) := fun b u e => by
  rw [upd_ne (ne_of_none e h)]
  exact s b u e
theorem Same.new {H : Hp} {a : Addr} {o : HO} (h : H a = none) : Same H (upd H a o) := (Same.refl H).upd_new h
structure Tells (J : It) (H1 : Hp) (xs : List V) : Prop where
  go : ∀ i H, i < xs.length → Same H1 H → J.go i H
  stop : ∀ H, Same H1 H → J.stop xs.length H
  yld : ∀ i H x H', Same H1 H → i < xs.length → J.yld i H x H' → H' = H ∧ xs[i]? = some x
theorem comp_by {α : Type} {J : It} {H1 : Hp} {fr : List Nat} {σ : St} {tt : TT} {te : TE} {Q : VK} {cs : List α} {g : α → V} (T : Tells J H1 (cs.map g)) (p : α → Bool) (f : α → V) (hz : cs.length ≤ sizeLine)
    (ht : ∀ c H2 Q2, c ∈ cs → Same H1 H2 → (∀ H3, Same H2 H3 → Q2 (p c) H3) → tt (stB1 (g c) fr σ) H2 Q2)
    (he : ∀ c H2 Q2, c ∈ cs → p c = true → Same H1 H2 → (∀ H3, Same H2 H3 → Q2 (f c) H3) → te (stB1 (g c) fr σ) H2 Q2)
    (hQ : ∀ D H2, H1 D = none → Same H1 H2 → H2 D = some (.lst ((cs.filter p).map f)) → Q (.ref D) H2) : CompR J H1 fr σ tt te Q := by
  intro D hD
  have hlen : (cs.map g).length = cs.length := List.length_map ..
  refine ⟨fun i m ys H2 => m = cs.length - i ∧ i ≤ cs.length ∧ ys = ((cs.take i).filter p).map f ∧ Same H1 H2 ∧ H2 D = some (.lst ys), ⟨_, rfl, Nat.zero_le _, rfl, Same.new hD, upd_same⟩, ?_⟩
  rintro i m ys H2 ⟨rfl, hi, rfl, s2, d2⟩
  by_cases hlt : i < cs.length
  · refine .inr ⟨T.go i H2 (by rw [hlen]; exact hlt) s2, fun x H3 y => ?_⟩
    obtain ⟨rfl, hx⟩ := T.yld i H2 x H3 s2 (by rw [hlen]; exact hlt) y
    rw [List.getElem?_map] at hx
    cases hc : cs[i]? with
    | none => rw [hc] at hx; cases hx
    | some c =>
      rw [hc] at hx
      obtain rfl : g c = x := Option.some.inj hx
      have hm : c ∈ cs := List.mem_of_getElem? hc
      have tk : (cs.take (i + 1)).filter p = (cs.take i).filter p ++ (if p c then [c] else []) := take_succ_filter p cs i c hc
      refine ht c H3 _ hm s2 fun H4 s4 => ?_
      cases hp : p c with
      | false =>
        rw [hp] at tk
        refine ⟨_, ?_, rfl, hlt, by rw [tk]; simp, s2.trans s4, s4 _ _ d2⟩
        omega
      | true =>
        rw [hp] at tk
        refine he c H4 _ hm hp (s2.trans s4) fun H5 s5 => ⟨s5 _ _ (s4 _ _ d2), ?_, _, ?_, rfl, hlt, by rw [tk]; simp, ((s2.trans s4).trans s5).upd_new hD, upd_same⟩
        · have h1 := List.length_filter_le p (cs.take i)
          rw [List.length_take] at h1
          rw [List.length_map]
          omega
        · omega
  · obtain rfl : i = cs.length := by omega
    exact .inl ⟨by have := T.stop H2 s2; rw [hlen] at this; exact this, hQ D H2 hD s2 (by rw [List.take_length] at d2; exact d2)⟩
theorem tells_str {H1 : Hp} {z : Str} : Tells (Its z) H1 (z.cps.toList.map fun c => V.str ⟨#[c]⟩) where
  go := fun i H hi _ => by
    rw [List.length_map] at hi
    exact (show i < z.cps.size by simpa using hi)
  stop := fun H _ => by
    rw [List.length_map]
    exact (show z.cps.toList.length = z.cps.size by simp)
  yld := fun i H x H' _ _ y => by
    obtain ⟨e, c, hc, rfl⟩ := y
    refine ⟨e, ?_⟩
    rw [List.getElem?_map, Array.getElem?_toList, hc]
    rfl
theorem tells_list {K : PySem.W.Frag} {H1 : Hp} {a : Addr} {xs : List V} (h : SqL K H1 a xs) : Tells (Itl K a) H1 xs where
  go := fun i H hi s => ⟨xs, xs[i], s.seq h, by simp [hi]⟩
  stop := fun H s => ⟨xs, s.seq h, Nat.le_refl _⟩
  yld := fun i H x H' s _ y => ⟨y.1, y.2 xs (s.seq h)⟩
theorem comp_map {α : Type} {J : It} {H1 : Hp} {fr : List Nat} {σ : St} {te : TE} {Q : VK} {cs : List α} {g : α → V} (T : Tells J H1 (cs.map g)) (f : α → V) (hz : cs.length ≤ sizeLine)
    (he : ∀ c H2 Q2, c ∈ cs → Same H1 H2 → (∀ H3, Same H2 H3 → Q2 (f c) H3) → te (stB1 (g c) fr σ) H2 Q2)
    (hQ : ∀ D H2, H1 D = none → Same H1 H2 → H2 D = some (.lst (cs.map f)) → Q (.ref D) H2) : CompR J H1 fr σ tYes te Q :=
  comp_by T (fun _ => true) f hz (fun c H2 Q2 _ _ h => h H2 (Same.refl _)) (fun c H2 Q2 hm _ s h => he c H2 Q2 hm s h) fun D H2 hD s d => hQ D H2 hD s (by rw [List.filter_eq_self.mpr (fun _ _ => rfl)] at d; exact d)
end L2
set_option Elab.async false
set_option linter.all false
set_option maxRecDepth 100000
namespace L2
open PySem PySem.Spec PyProof.Rows
structure DefOk (K : PySem.W.Frag) (mg : Str → Option Value) (x : Str) (st : Stmt) (ps : List Str) (f : Addr) (fd : FuncData) : Prop where
  fn : Fun K x x st f fd
  b : Binds K fd ps []
  g : mg x = some (.ref f)
section
variable {X : Cx}
theorem pe_const {x : Str} {v : V} {pos : Pos} (h : ∃ u, X.mg x = some u ∧ RelV v u) (hg : Gl X x := by rfl) (hd : (x == ("__debug__" : Str)) = false := by decide) : PE X (.Name x pos) (tC v) := by
  obtain ⟨u, e, r⟩ := h
  exact pe_glob hg e r hd
theorem pe_ty {x : Str} {T : String} {pos : Pos} (hm : X.mg x = none) (hv : bootBuiltins x = some (.type T)) (hg : Gl X x := by rfl) (hn : x ≠ "__name__" := by decide) (hd : (x == ("__debug__" : Str)) = false := by decide) : PE X (.Name x pos) (tC (.ty T)) :=
  pe_bltn hg hm hv rfl hn hd
end
def cscOk (sc so : Scope) (x : Str) (N XN : List Str) (fr : List Nat) : Bool :=
  decide (sc.kind = .function) && sc.names.all (fun y => decide (y.2 ≠ .cell)) && sc.names.all (fun y => decide (y.2 = .local → sc.names.lookup y.1 = some .local)) && decide (sc.names.lookup x = some .local) && decide N.Nodup &&
  decide (N = x :: fr.map (fun j => XN.getD j "")) && fr.all (fun j => decide (j < XN.length)) && sc.names.all (fun y => decide (y.2 = .free → so.names.lookup y.1 = some .cell ∨ so.names.lookup y.1 = some .free)) &&
  fr.all (fun j => decide (sc.names.lookup (XN.getD j "") = some .free)) && fr.all (fun j => decide (so.names.lookup (XN.getD j "") ≠ some .local))
theorem CSc.of {sc so : Scope} {x : Str} {N XN : List Str} {fr : List Nat} (h : cscOk sc so x N XN fr = true) : CSc sc so x N XN fr := by
  unfold cscOk at h
  simp only [Bool.and_eq_true, List.all_eq_true, decide_eq_true_eq] at h
  obtain ⟨⟨⟨⟨⟨⟨⟨⟨⟨h1, h2⟩, h3⟩, h4⟩, h5⟩, h6⟩, h7⟩, h8⟩, h9⟩, h10⟩ := h
  exact ⟨h1, h2, h3, h4, h5, h6, h7, h8, h9, h10⟩
def tBetw (ta tb : TE) (k : Int) : TE := fun σ H Q => ta σ H fun x H1 => tb σ H1 fun y H2 => ∃ i j, x = .int i ∧ y = .int j ∧ Q (.bl (decide (i ≤ j) && decide (j ≤ k))) H2
theorem pe_betw {X : Cx} {a b c : Expr} {ta tb : TE} {k : Int} {pos : Pos} (ha : PE X a ta) (hb : PE X b tb) (hc : PE X c (tC (.int k))) (hm : lastMarks [CmpOp.LtE, CmpOp.LtE] [b, c] = false := by with_unfolding_all rfl) :
    PE X (.Compare a [.LtE, .LtE] [b, c] pos) (tBetw ta tb k) := by
  intro pins s σ H Q I h
  refine Compare_chain (thn (ha pins s σ H _ I h) fun v s1 ⟨x, H1, I1, r1, q1⟩ => chain_link (thn (hb pins s1 σ H1 _ I1 q1) fun u s2 ⟨y, H2, I2, r2, q2⟩ => ?_)) hm
  obtain ⟨i, j, rfl, rfl, q⟩ := q2
  refine thn (op_le pins s2 σ H2 _ _ v u (fun z H3 => z = .bl (decide (i ≤ j)) ∧ H3 = H2) I2 r1 r2 ⟨i, j, rfl, rfl, rfl, rfl⟩) fun d s3 ⟨z, H3, I3, r3, e, e'⟩ => ?_
  subst e e'
  cases r3
  refine wpAny_truthy_bool ?_
  by_cases hij : i ≤ j
  · rw [decide_eq_true hij] at q ⊢
    refine ite_tt (chain_last (thn (hc pins s3 σ _ (fun z H4 => z = .int k ∧ H4 = H3) I3 ⟨rfl, rfl⟩) fun w' s4 ⟨z', H4, I4, r4, e, e'⟩ => ?_))
    subst e e'
    exact op_le pins s4 σ _ _ _ u w' Q I4 r2 r4 ⟨j, k, rfl, rfl, q⟩
  · rw [decide_eq_false hij] at q ⊢
    exact ite_ff ⟨.bl false, H3, I3, rfl, q⟩
def tBetwT (ta tb : TE) (k : Int) : TT := fun σ H Q => ta σ H fun x H1 => tb σ H1 fun y H2 => ∃ i j, x = .int i ∧ y = .int j ∧ Q (decide (i ≤ j) && decide (j ≤ k)) H2
theorem pt_betw {X : Cx} {a b c : Expr} {ta tb : TE} {k : Int} {pos : Pos} (ha : PE X a ta) (hb : PE X b tb) (hc : PE X c (tC (.int k))) (hm : lastMarks [CmpOp.LtE, CmpOp.LtE] [b, c] = false := by with_unfolding_all rfl) :
    PT X (.Compare a [.LtE, .LtE] [b, c] pos) (tBetwT ta tb k) := by
  intro pins s σ H Q I h
  refine isTrue_chain (thn (ha pins s σ H _ I h) fun v s1 ⟨x, H1, I1, r1, q1⟩ => test_link (thn (hb pins s1 σ H1 _ I1 q1) fun u s2 ⟨y, H2, I2, r2, q2⟩ => ?_)) hm
  obtain ⟨i, j, rfl, rfl, q⟩ := q2
  refine thn (op_le pins s2 σ H2 _ _ v u (fun z H3 => z = .bl (decide (i ≤ j)) ∧ H3 = H2) I2 r1 r2 ⟨i, j, rfl, rfl, rfl, rfl⟩) fun d s3 ⟨z, H3, I3, r3, e, e'⟩ => ?_
  subst e e'
  cases r3
  refine wpAny_truthy_bool ?_
  by_cases hij : i ≤ j
  · rw [decide_eq_true hij] at q ⊢
    refine ite_tt (test_last (thn (hc pins s3 σ _ (fun z H4 => z = .int k ∧ H4 = H3) I3 ⟨rfl, rfl⟩) fun w' s4 ⟨z', H4, I4, r4, e, e'⟩ => ?_))
    subst e e'
    refine thn (op_le pins s4 σ _ _ _ u w' (fun z H5 => z = .bl (decide (j ≤ k)) ∧ H5 = H4) I4 r2 r4 ⟨j, k, rfl, rfl, rfl, rfl⟩) fun d' s5 ⟨z2, H5, I5, r5, e, e'⟩ => ?_
    subst e e'
    cases r5
    rw [Bool.true_and] at q
    exact wpAny_truthy_bool ⟨H5, I5, q⟩
  · rw [decide_eq_false hij] at q ⊢
    exact ite_ff ⟨H3, I3, q⟩
def rTo : V → Option Int → Option Int → Hp → VK → Prop := fun x lo hi H Q => ∃ z j, x = .str z ∧ lo = none ∧ hi = some j ∧ z.length ≤ sizeLine ∧ 0 ≤ j ∧ Q (.str (tx (z.cps.toList.take j.toNat))) H
def rFr : V → Option Int → Option Int → Hp → VK → Prop := fun x lo hi H Q => ∃ z j, x = .str z ∧ lo = some j ∧ hi = none ∧ z.length ≤ sizeLine ∧ 0 ≤ j ∧ Q (.str (tx (z.cps.toList.drop j.toNat))) H
theorem sl_to {X : Cx} : SlR X rTo := by
  intro pins s σ H x v vl vu lo hi sl Q I rx hs pl pu h
  obtain ⟨z, j, rfl, rfl, rfl, hz, h0, q⟩ := h
  exact sl_str pins s σ H _ v vl vu _ _ sl Q I rx hs pl pu ⟨z, rfl, hz, .inl ⟨j, rfl, rfl, h0, q⟩⟩
theorem sl_fr {X : Cx} : SlR X rFr := by
  intro pins s σ H x v vl vu lo hi sl Q I rx hs pl pu h
  obtain ⟨z, j, rfl, rfl, rfl, hz, h0, q⟩ := h
  exact sl_str pins s σ H _ v vl vu _ _ sl Q I rx hs pl pu ⟨z, rfl, hz, .inr ⟨j, rfl, rfl, h0, q⟩⟩
theorem starts1 (l : List Nat) (c : Nat) : Txt.startswith (tx l) (tx [c]) = decide (l.head? = some c) := by
  unfold Txt.startswith
  cases l with
  | nil => rfl
  | cons a r =>
    rw [Bool.eq_iff_iff]
    simp [Builtin.Str.subAt, Str.length, tx]
end L2
set_option Elab.async false
set_option linter.all false
set_option maxRecDepth 100000
namespace L2
open PySem
def digs : List Nat := [48, 49, 50, 51, 52, 53, 54, 55, 56, 57]
theorem mem_digs {c : Nat} : c ∈ digs ↔ 48 ≤ c ∧ c ≤ 57 := by
  unfold digs
  simp only [List.mem_cons, List.not_mem_nil, or_false]
  omega
def numC (n : Int) : List Nat := (Str.ofString (toString n)).cps.toList
theorem numC_tx (n : Int) : Str.ofString (toString n) = tx (numC n) := (tx_codes _).symm
def figsC (l : List Nat) : Bool := decide (1 ≤ l.length ∧ l.length ≤ 60) && (!(decide (l.head? = some 48) && decide (l ≠ [48]))) && l.all fun c => decide (c ∈ digs)
def readC (l : List Nat) : Option Int :=
  if l = [45, 48] ∨ figsC (if l.head? = some 45 then l.drop 1 else l) = false then none
  else some (if l.head? = some 45 then -((NumText.digitsVal (l.drop 1) : Nat) : Int) else ((NumText.digitsVal l : Nat) : Int))
def digC (m : Nat) : List Nat := (Nat.toDigits 10 m).map Char.toNat
theorem numC_nat (m : Nat) : numC (m : Int) = digC m := PySem.W.KIN.signs_num m
theorem numC_neg {m : Nat} (h : 0 < m) : numC (-(m : Int)) = 45 :: digC m := by
  obtain ⟨k, rfl⟩ : ∃ k, m = k + 1 := ⟨m - 1, by omega⟩
  unfold numC digC
  rw [PyProof.Rows.signs_ofString]
  have e : (toString (-((k + 1 : Nat) : Int)) : String) = "-" ++ Nat.repr (k + 1) := rfl
  rw [e, String.toList_append, Nat.toList_repr, List.map_append]
  rfl
theorem digC_all (m : Nat) : NumText.AllDigits (digC m) := by
  intro c hc
  unfold digC at hc
  obtain ⟨ch, hch, e⟩ := List.mem_map.mp hc
  have r := PyProof.Rows.digit_range (Nat.isDigit_of_mem_toDigits (by decide) (by decide) hch)
  rw [← e]
  exact r
theorem digC_ne (m : Nat) : digC m ≠ [] := by
  unfold digC
  intro e
  have h := toDigits_len_ge 10 m
  rw [List.map_eq_nil_iff.mp e] at h
  exact absurd h (by decide)
theorem digC_val (m : Nat) : NumText.digitsVal (digC m) = m := PySem.W.KIN.val_back m
theorem digC_len {m k : Nat} (hk : 0 < k) (h : m < 10 ^ k) : (digC m).length ≤ k := by
  have e := PyProof.Rows.toString_length_le (v := (m : Int)) (by omega) hk (by exact_mod_cast h)
  rw [len_codes] at e
  rw [← numC_nat]
  exact e
theorem digC_head (m : Nat) : (digC m).head? = some 48 → m = 0 := by
  induction m using Nat.strongRecOn with
  | _ m ih =>
    intro h
    by_cases hm : m < 10
    · unfold digC at h
      rw [Nat.toDigits_of_lt_base hm] at h
      have : ∀ m, m < 10 → (List.map Char.toNat [Nat.digitChar m]).head? = some 48 → m = 0 := by decide
      exact this m hm h
    · have hq : m % 10 < 10 := Nat.mod_lt m (by decide)
      have t : Nat.toDigits 10 (m / 10) ++ Nat.toDigits 10 (m % 10) = Nat.toDigits 10 (10 * (m / 10) + m % 10) := Nat.toDigits_append_toDigits (by decide) (by omega) hq
      rw [Nat.div_add_mod] at t
      have e : digC m = digC (m / 10) ++ digC (m % 10) := by
        unfold digC
        rw [← t, List.map_append]
      have h' : (digC (m / 10)).head? = some 48 := by
        rw [e] at h
        cases q : digC (m / 10) with
        | nil => exact absurd q (digC_ne _)
        | cons a r =>
          rw [q] at h
          exact h
      have h := h'
      have := ih (m / 10) (by omega) h
      omega
theorem digC_zero : digC 0 = [48] := by decide
theorem digC_figs {m : Nat} (h : m < 10 ^ 60) : figsC (digC m) = true := by
  have h1 := digC_len (by decide) h
  have h2 : 1 ≤ (digC m).length := by
    have := List.length_pos_iff.mpr (digC_ne m)
    omega
  have h3 : ((digC m).all fun c => decide (c ∈ digs)) = true := List.all_eq_true.mpr fun c hc => decide_eq_true (mem_digs.mpr (digC_all m c hc))
  unfold figsC
  rw [h3, decide_eq_true ⟨h2, h1⟩]
  by_cases h0 : m = 0
  · subst h0
    rw [digC_zero]
    decide
  · rw [decide_eq_false (fun z => h0 (digC_head m z))]
    rfl
theorem readC_int {l : List Nat} {n : Int} (h : readC l = some n) : intText? (tx l) = some n ∧ l.length ≤ 61 := by
  unfold readC at h
  by_cases hc : l = [45, 48] ∨ figsC (if l.head? = some 45 then l.drop 1 else l) = false
  · rw [if_pos hc] at h
    cases h
  · rw [if_neg hc] at h
    have h1 : ¬ l = [45, 48] := fun z => hc (.inl z)
    have h2 : figsC (if l.head? = some 45 then l.drop 1 else l) = true := by
      cases q : figsC (if l.head? = some 45 then l.drop 1 else l) with
      | true => rfl
      | false => exact absurd (.inr q) hc
    have h3 := Option.some.inj h
    have fig : ∀ {f : List Nat}, figsC f = true → NumText.AllDigits f ∧ f ≠ [] ∧ f.length ≤ 60 := fun {f} hf => by
      unfold figsC at hf
      simp only [Bool.and_eq_true, decide_eq_true_eq, List.all_eq_true] at hf
      refine ⟨fun c hc => mem_digs.mp (hf.2 c hc), fun z => ?_, hf.1.1.2⟩
      have := hf.1.1.1
      rw [z] at this
      exact absurd this (by decide)
    by_cases hm : l.head? = some 45
    · rw [if_pos hm] at h2 h3
      obtain ⟨a, b, c⟩ := fig h2
      have hl : l = 45 :: l.drop 1 := by
        cases l with
        | nil => cases hm
        | cons x r => cases hm; rfl
      have hlen : l.length ≤ 61 := by
        rw [hl, List.length_cons]
        omega
      refine ⟨?_, hlen⟩
      rw [← h3]
      exact intText_neg (x := tx l) (cs := l.drop 1) (by rw [tx_list]; exact hl) a b (by rw [tx_len]; omega)
    · rw [if_neg hm] at h2 h3
      obtain ⟨a, b, c⟩ := fig h2
      refine ⟨?_, by omega⟩
      rw [← h3]
      have e := intText_digits (x := tx l) (by rw [tx_list]; exact a) (by rw [tx_list]; exact b) (by rw [tx_len]; omega)
      rw [tx_list] at e
      exact e
theorem readC_num {n : Int} (h : n.natAbs < 10 ^ 60) : readC (numC n) = some n := by
  by_cases h0 : 0 ≤ n
  · obtain ⟨m, rfl⟩ := Int.eq_ofNat_of_zero_le h0
    have hm : m < 10 ^ 60 := by simpa using h
    rw [numC_nat]
    have hh : (digC m).head? ≠ some 45 := fun z => by
      cases e : digC m with
      | nil => exact digC_ne m e
      | cons a r =>
        rw [e] at z
        cases z
        have := digC_all m 45 (by rw [e]; exact List.mem_cons_self)
        omega
    have hne : digC m ≠ [45, 48] := fun z => hh (by rw [z]; rfl)
    unfold readC
    rw [if_neg hh, if_neg hh, if_neg (fun z => by rcases z with z | z; exact hne z; rw [digC_figs hm] at z; cases z), digC_val]
  · obtain ⟨m, rfl⟩ : ∃ m : Nat, n = -(m : Int) := ⟨n.natAbs, by omega⟩
    have hm : m < 10 ^ 60 := by simpa using h
    have hp : 0 < m := by omega
    rw [numC_neg hp]
    have hne : ¬ (45 :: digC m) = [45, 48] := fun z => by
      have z' : digC m = [48] := by simpa using z
      have := digC_head m (by rw [z']; rfl)
      omega
    unfold readC
    show (if (45 :: digC m) = [45, 48] ∨ figsC (digC m) = false then none else some (-((NumText.digitsVal (digC m) : Nat) : Int))) = _
    rw [if_neg (fun z => by rcases z with z | z; exact hne z; rw [digC_figs hm] at z; cases z), digC_val]
theorem num_log {n : Int} (h : n.natAbs < 10 ^ 60) : n.natAbs.log2 < 1920 := by
  by_cases h0 : n.natAbs = 0
  · rw [h0]
    decide
  · have h1 : n.natAbs < 2 ^ 1920 := Nat.lt_of_lt_of_le h (by decide +kernel)
    exact (Nat.log2_lt h0).mpr h1
theorem numC_len {n : Int} (h : n.natAbs < 10 ^ 60) : (numC n).length ≤ 61 := (readC_int (readC_num h)).2
theorem rd_all {K : PySem.W.Frag} {H : Hp} {σ : St} {i : Nat} {cs : List Nat} {te : TE} {Q : VK} (l : List Nat) (hσ : σ[i]? = some (some (.str (tx l)))) (hz : l.length ≤ sizeLine)
    (hte : ∀ c H2 Q2, c ∈ l → Q2 (.bl (decide (c ∈ cs))) H2 → te (stB1 (.str ⟨#[c]⟩) [] σ) H2 Q2) (h : ∀ H2, Same H H2 → Q (.bl (l.all fun c => decide (c ∈ cs))) H2) :
    tComp (iStr (tVar i)) [] tYes te σ H fun x H1 => ∃ p, x = .ref p ∧ ∃ bs : List Bool, SqL K H1 p (bs.map V.bl) ∧ Q (.bl (bs.all id)) H1 := by
  refine ⟨_, hσ, _, rfl, comp_map tells_str (fun c => .bl (decide (c ∈ cs))) (by rw [tx_list]; exact hz) (fun c H2 Q2 hc _ h => hte c H2 Q2 (by rw [tx_list] at hc; exact hc) (h H2 (Same.refl _))) fun D H2 _ s2 d2 => ⟨D, rfl, l.map fun c => decide (c ∈ cs), ?_, ?_⟩⟩
  · rw [tx_list] at d2
    rw [List.map_map]
    exact SqL.of d2
  · have e : (l.map fun c => decide (c ∈ cs)).all id = l.all fun c => decide (c ∈ cs) := by
      rw [List.all_map]
      rfl
    rw [e]
    exact h H2 s2
theorem atI_zero {α : Type} {a : α} {r : List α} : atI (a :: r) 0 = some a := by
  have e := atI_nat (xs := a :: r) (j := 0) (v := a) rfl
  simpa using e
end L2
set_option Elab.async false
set_option linter.all false
set_option maxRecDepth 100000
namespace L2
open PySem PySem.Spec PyProof.Rows
abbrev veB : List Value := [.type "ValueError", .type "Exception", .type "BaseException", .type "object"]
structure XCls (K : PySem.W.Frag) (mg : Str → Option Value) (x : Str) (C : Addr) : Prop where
  g : mg x = some (.ref C)
  ex : PySem.W.excIn K C veB "ValueError.__new__" = true
theorem XCls.own {K : PySem.W.Frag} {mg : Str → Option Value} {x : Str} {C : Addr} {h : Heap} (T : XCls K mg x C) (X : K.In h) : OwnCls x C veB "ValueError.__new__" mg h := by
  refine ⟨T.g, ?_⟩
  have q := T.ex
  unfold PySem.W.excIn at q
  split at q
  · rename_i dd cd sl ho
    split at q
    · rename_i C' bm k0 k1 k2 k3 n k5 hm hs
      simp only [Bool.and_eq_true, beq_iff_eq, Bool.not_eq_true'] at q
      obtain ⟨⟨⟨⟨⟨e1, e2⟩, e3⟩, e4⟩, e5⟩, e6⟩ := q
      subst e1 e2
      obtain ⟨nm, bs, mro, ns, qn, hd, sn, sub, ab, col, del⟩ := cd
      dsimp only at hm e3 e5 e6
      subst hm e3
      obtain rfl : sl = #[k0, k1, k2, k3, some (.builtin "ValueError.__new__"), k5] := by
        obtain ⟨l⟩ := sl
        simp only at hs
        rw [hs]
      exact ⟨bm, ns, nm, qn, bs, hd, sn, sub, ab, col, dd, k0, k1, k2, k3, k5, _, X _ _ ho, .of_isNs (PySem.W.isNs_of_in X e5), PySem.W.nsMap_none_of_in X e5 e6, PySem.W.tail_of_in X e4⟩
    · cases q
  · cases q
def CtxN (a : Addr) (h : Heap) : Prop := ∃ o vs, h.get? a = some o ∧ o.data = .fields vs ∧ vs[2]? = some .none
structure KeepC (a : Addr) {α : Type} (t : Sem α) : Prop where
  out : ∀ (M : Model) (Γ : PySem.Ctx) (R : α → Pos → Shared → Prop) (X : Value → Pos → Shared → Prop) (p : Pos) (s : Shared), CtxN a s.heap → Sem.wp M Γ t R X p s → Sem.wp M Γ t (fun x p' s' => R x p' s' ∧ CtxN a s'.heap) X p s
namespace KeepC
variable {α β : Type} {a : Addr}
theorem pure' (x : α) : KeepC a (Pure.pure x : Sem α) := ⟨fun _ _ _ _ _ _ c h => by rw [Sem.wp_pure'] at h ⊢; exact ⟨h, c⟩⟩
theorem uns (w : String) : KeepC a (PySem.unsupported w : Sem α) := ⟨fun _ _ _ _ _ _ _ h => h.elim⟩
theorem bind' {m : Sem α} {f : α → Sem β} (hm : KeepC a m) (hf : ∀ x, KeepC a (f x)) : KeepC a (m >>= f) := ⟨fun M Γ R X p s c h => by
  rw [Sem.wp_bind'] at h ⊢
  exact Sem.wp_mono M Γ m (fun x p1 s1 q => (hf x).out M Γ R X p1 s1 q.2 q.1) (fun _ _ _ q => q) p s (hm.out M Γ _ X p s c h)⟩
theorem ite' {c : Prop} [Decidable c] {t u : Sem α} (ht : KeepC a t) (hu : KeepC a u) : KeepC a (if c then t else u) := by split <;> assumption
theorem load' (b : Addr) : KeepC a (PySem.load b) := ⟨fun _ _ _ _ _ _ c h => by
  obtain ⟨o, e, q⟩ := h
  exact ⟨o, e, q, c⟩⟩
theorem update' (b : Addr) (f : Obj → Obj) (hf : ∀ o, (f o).data = o.data) : KeepC a (PySem.update b f) := ⟨fun _ _ _ _ _ s c h => by
  refine ⟨h.1, h.2, ?_⟩
  obtain ⟨o, vs, e, d, q⟩ := c
  by_cases z : b = a
  · subst z
    exact ⟨_, vs, Heap.get?_update_self f e (Obj.isFreed_of_fields ((hf o).trans d)), (hf o).trans d, q⟩
  · exact ⟨o, vs, (Heap.get?_update_other _ f z).trans e, d, q⟩⟩
theorem stack' : KeepC a PySem.stack := ⟨fun _ _ _ _ _ _ c h => by
  unfold PySem.stack at h ⊢
  rw [Sem.wp_stack] at h ⊢
  exact ⟨h, c⟩⟩
theorem alloc' (o : Obj) : KeepC a (PySem.alloc o) := ⟨fun _ _ _ _ _ s c h => by
  refine ⟨h, ?_⟩
  obtain ⟨o1, vs, e, d, q⟩ := c
  exact ⟨o1, vs, Heap.get?_push_of_some _ e, d, q⟩⟩
theorem field' (v : Value) (i : Nat) : KeepC a (PySem.field v i) := ⟨fun _ Γ R X p s c h => by
  rw [wp_field_iff] at h ⊢
  obtain ⟨b, o, vs, x, e1, e2, e3, e4, q⟩ := h
  exact ⟨b, o, vs, x, e1, e2, e3, e4, q, c⟩⟩
theorem setField' (v : Value) (i : Nat) (x : Value) (hi : i ≠ 2) : KeepC a (PySem.setField v i x) := ⟨fun _ Γ R X p s c h => by
  rw [wp_setField_iff] at h ⊢
  obtain ⟨b, o, vs, e1, e2, e3, e4, q⟩ := h
  refine ⟨b, o, vs, e1, e2, e3, e4, q, ?_⟩
  obtain ⟨o1, ws, f1, f2, f3⟩ := c
  by_cases z : b = a
  · subst z
    rw [e2] at f1
    cases f1
    rw [e3] at f2
    cases f2
    exact ⟨_, _, Heap.get?_update_self _ e2 (Obj.isFreed_of_fields (Obj.data_mapFields e3 _)), Obj.data_mapFields e3 _, by rw [Array.getElem?_setIfInBounds_ne hi]; exact f3⟩
  · exact ⟨o1, ws, (Heap.get?_update_other _ _ z).trans f1, f2, f3⟩⟩
theorem any {t : Sem α} {M : Model} {A : Around} {Q : α → Shared → Prop} {E : Value → Shared → Prop} {s : Shared} (k : KeepC a t) (c : CtxN a s.heap) (h : wpAny M A t Q E s) : wpAny M A t (fun x s' => Q x s' ∧ CtxN a s'.heap) E s :=
  fun Γ p hΓ => k.out M Γ _ _ p s c (h Γ p hΓ)
theorem anyD {t : Sem α} {M : Model} {A : Around} {Q : α → Shared → Prop} {E : Value → Shared → Prop} {s : Shared} {d : Option Addr} (k : KeepC a t) (c : d = none → CtxN a s.heap) (h : wpAny M A t Q E s) : wpAny M A t (fun x s' => Q x s' ∧ (d = none → CtxN a s'.heap)) E s := by
  cases d with
  | none => exact wpAny_mono (k.any (c rfl) h) (fun x s' q => ⟨q.1, fun _ => q.2⟩) fun _ _ q => q
  | some d => exact wpAny_mono h (fun x s' q => ⟨q, fun z => (nomatch z)⟩) fun _ _ q => q
end KeepC
local macro_rules | `(tactic| walk_at "kc") => `(tactic| repeat' with_reducible first
    | assumption
    | exact KeepC.pure' _
    | exact KeepC.uns _
    | exact KeepC.field' _ _
    | exact KeepC.setField' _ _ _ (by decide)
    | exact KeepC.load' _
    | exact KeepC.update' _ _ fun _ => rfl
    | exact KeepC.stack'
    | exact KeepC.alloc' _
    | apply KeepC.ite'
    | apply KeepC.bind'
    | intro _
    | split)
section
variable (a : Addr)
theorem keepc_import (env : Env) (l : List Env) : KeepC a (behindIsImport env l) := by
  unfold behindIsImport
  walk_at "kc"
theorem keepc_caller : KeepC a underTheClaimsCaller := by
  unfold underTheClaimsCaller
  walk_at "kc"
theorem keepc_back (env : Env) (i : Bool) (l : List Env) : KeepC a (keptBack env i l) := by
  have k := keepc_caller a
  cases l <;> unfold keptBack <;> walk_at "kc"
theorem keepc_ready : ∀ l : List Env, KeepC a (readyFrames l)
  | [] => KeepC.pure' _
  | env :: l => by
    have k1 := keepc_ready l
    have k2 := keepc_import a env l
    have k3 := fun i => keepc_back a env i l
    unfold readyFrames
    walk_at "kc"
    all_goals exact k3 _
theorem keepc_frameObject (l : List Env) : KeepC a (frameObject l) := by
  cases l with
  | nil => exact KeepC.pure' _
  | cons env l =>
    have k := keepc_ready a (env :: l)
    unfold frameObject
    walk_at "kc"
theorem keepc_frameOf (env : Env) : KeepC a (PySem.frameOf env) := by
  have k1 : KeepC a frameEnvs := by
    unfold frameEnvs
    walk_at "kc"
  have k2 := keepc_frameObject a
  unfold PySem.frameOf
  walk_at "kc"
  all_goals exact k2 _
theorem keepc_new (cells : List Value) : KeepC a (newFields "traceback" cells) := by
  unfold newFields newObj newObjAsIs
  walk_at "kc"
theorem keepc_note (e : Value) (env : Env) : KeepC a (noteFrame e env) := by
  have k1 := keepc_frameOf a env
  have k2 : ∀ f b, KeepC a (entryPlaceOf f b) := fun f b => by
    unfold entryPlaceOf
    walk_at "kc"
  have k3 := keepc_new a
  unfold noteFrame EntryCells.newEntry
  walk_at "kc"
  all_goals first | exact k2 _ _ | exact k3 _
theorem keepc_flight (e : Value) (f : Option Addr) : KeepC a (setFlight e f) := by
  unfold setFlight
  walk_at "kc"
theorem keepc_leaving (env : Env) (e : Value) : KeepC a (leaving env e) := KeepC.bind' (keepc_note a e env) fun _ => keepc_flight a e none
end
structure Fly (P : Program) (w : World) (outer : List Env) (H : Hp) (s : Shared) (H' : Hp) (a C : Addr) (s' : Shared) : Prop where
  os : s'.os = s.os
  bare : AllBare s'.gens
  fly : ∃ a0 B, Heap.FlyingW B outer a (.ref C) a0 s'.heap ∧ HOk P w H' B ∧ (∀ b o, s.heap.get? b = some o → H b = none → b ∉ frs outer → B.get? b = some o) ∧ ∀ b o, s.heap.get? b = some o → b ∉ frs outer → ∃ o', B.get? b = some o'
  slot : ∀ b o, s.heap.get? b = some o → H b = none → b ∈ frs outer → ∃ sl, s'.heap.get? b = some { o with slots := sl }
  free : ∀ b o, s.heap.get? b = some o → H b = none → H' b = none
  tups : ∀ b xs, H b = some (.tup xs) → H' b = some (.tup xs)
  frzs : ∀ b o u, H b = some (.frz o u) → H' b = some (.frz o u)
  tbls : ∀ b ps, H b = some (.tbl ps) → ∃ more, H' b = some (.tbl (ps ++ more))
def CX1 (P : Program) (w : World) : CXT := fun outer H s E e s' => ∃ a C H' d, e = .ref a ∧ Fly P w outer H s H' a C s' ∧ (d = none → CtxN a s'.heap) ∧ E (.ref C) d H'
def Raises (X : Cx) (E : XK) : Prop := ∀ (pins : List (Addr × Obj)) (σ : St) (H : Hp) (s : Shared) (h' : Heap) (e C : Addr) (vs : List Value), Inv X pins σ H s → Heap.MadeExcOf s.heap h' e (.ref C) vs → E (.ref C) none H → X.xe (.ref e) { s with heap := h' }
theorem objok_stay {P : Program} {w : World} {H : Hp} {h h' : Heap} (ok : HOk P w H h) (k : ∀ b o u, H b = some u → h.get? b = some o → h'.get? b = some o) : HOk P w H h' := fun a o e =>
  (ok a o e).stay (fun b u hb q => by
    rcases hb with rfl | hb
    · exact k _ u o e q
    · exact k _ u _ hb q) (fun _ q => q) fun _ _ q => q
section
variable {P : Program} {w : World} {K : PySem.W.Frag} {mg : Str → Option Value} {base : Heap} {N : List Str} {qual : Str} {scope : Scope} {f : Addr} {cd : Value} {A : Around} {outer : List Env} {s : Shared} {H : Hp} {E : XK}
theorem raises1 : Raises (cxOf (CX1 P w) P w K mg base N qual scope f cd A outer s H E) E := by
  intro pins σ H1 s1 h' e C vs I mk q
  have hst := I.stack
  have hfr : ∀ b ∈ frs (envOfC qual scope s.heap.objs.size f cd :: outer), H1 b = none := I.stkFree
  have inF : ∀ env ∈ (envOfC qual scope s.heap.objs.size f cd :: outer), ∀ b, env.frame = some b → b ∈ frs (envOfC qual scope s.heap.objs.size f cd :: outer) := fun env he b hb => List.mem_filterMap.mpr ⟨env, he, hb⟩
  have subF : ∀ b ∈ frs outer, b ∈ frs (envOfC qual scope s.heap.objs.size f cd :: outer) := fun b hb => by
    obtain ⟨env, he, hf⟩ := List.mem_filterMap.mp hb
    exact List.mem_filterMap.mpr ⟨env, List.mem_cons_of_mem _ he, hf⟩
  have notF : ∀ b o, s.heap.get? b = some o → b ∉ frs outer → b ∉ frs (envOfC qual scope s.heap.objs.size f cd :: outer) := fun b o e1 n hb => by
    obtain ⟨env, he, hf⟩ := List.mem_filterMap.mp hb
    rcases List.mem_cons.mp he with rfl | he
    · have z : s.heap.objs.size = b := Option.some.inj hf
      exact absurd (Heap.lt_size e1) (by rw [← z]; exact Nat.lt_irrefl _)
    · exact n (List.mem_filterMap.mpr ⟨env, he, hf⟩)
  have cN : CtxN e h' := by
    obtain ⟨t, he, _, _⟩ := mk.there
    exact ⟨_, _, he, rfl, rfl⟩
  refine wpAny_mono ((keepc_leaving e _ _).any cN (wpAny_leaves_madeW (base := PySem.W.hideAll s1.heap (frs (envOfC qual scope s.heap.objs.size f cd :: outer))) I.ok.frames rfl (fun b o z => PySem.W.of_hideAll _ z) (PySem.W.funFrames_hide hst inF) mk (Q := fun _ s2 => ∃ h2 t, s2 = { s1 with heap := h2 } ∧ Heap.FlyingW (PySem.W.hideAll s1.heap (frs (envOfC qual scope s.heap.objs.size f cd :: outer))) outer e (.ref C) (.ref t) h2 ∧ h'.UpToSlots h2) fun h2 t fl _ _ up => ⟨h2, t, rfl, fl, up⟩)) (fun _ s2 hs2 => ?_) fun _ _ q => q
  obtain ⟨⟨h2, t, rfl, fl, up⟩, cN2⟩ := hs2
  refine ⟨e, C, H1, none, rfl, ⟨I.os, I.bare, ⟨_, _, fl, objok_stay I.hok fun b o u hu z => PySem.W.hideAll_get _ z fun hb => ?_, fun b o e1 n1 n2 => ?_, fun b o e1 n2 => ?_⟩, fun b o e1 n1 hb => ?_, fun b o e1 n1 => I.base.free b o e1 n1 (by intro z; exact absurd (show b ∈ ([] : List Addr) from z) (by simp)), I.base.tups, I.base.frzs, I.base.tbls⟩, fun _ => cN2, q⟩
  · rw [hfr b hb] at hu
    cases hu
  · exact PySem.W.hideAll_get _ (I.base.keep b o e1 n1 n2 (by intro z; exact absurd (show b ∈ ([] : List Addr) from z) (by simp))) (notF b o e1 n2)
  · obtain ⟨o', e2⟩ := I.base.there b o e1 (by intro z; exact absurd (show b ∈ ([] : List Addr) from z) (by simp))
    exact ⟨o', PySem.W.hideAll_get _ e2 (notF b o e1 n2)⟩
  · obtain ⟨sl, e2⟩ := I.base.slot b o e1 n1 hb (by intro z; exact absurd (show b ∈ ([] : List Addr) from z) (by simp))
    obtain ⟨_, o2, e3, nf⟩ := hst.mem (subF b hb)
    rw [e2] at e3
    cases e3
    obtain ⟨sl2, e4⟩ := up b _ (mk.keeps b _ e2) nf
    exact ⟨sl2, e4⟩
theorem pass1 : Passes (CX1 P w) (cxOf (CX1 P w) P w K mg base N qual scope f cd A outer s H E) E := by
  intro pins σ H1 s1 e s2 I hx
  obtain ⟨a, C, H2, d, rfl, F, hd, q⟩ := hx
  obtain ⟨a0, B, fl, hok, kp, th⟩ := F.fly
  have notF : ∀ b o, s.heap.get? b = some o → b ∉ frs outer → b ∉ frs (envOfC qual scope s.heap.objs.size f cd :: outer) := fun b o e1 n hb => by
    obtain ⟨env, he, hf⟩ := List.mem_filterMap.mp hb
    rcases List.mem_cons.mp he with rfl | he
    · have z : s.heap.objs.size = b := Option.some.inj hf
      exact absurd (Heap.lt_size e1) (by rw [← z]; exact Nat.lt_irrefl _)
    · exact n (List.mem_filterMap.mpr ⟨env, he, hf⟩)
  have subF : ∀ b ∈ frs outer, b ∈ frs (envOfC qual scope s.heap.objs.size f cd :: outer) := fun b hb => by
    obtain ⟨env, he, hf⟩ := List.mem_filterMap.mp hb
    exact List.mem_filterMap.mpr ⟨env, List.mem_cons_of_mem _ he, hf⟩
  have noex : ∀ b : Addr, b ∉ (cxOf (CX1 P w) P w K mg base N qual scope f cd A outer s H E).ex := fun b z => absurd (show b ∈ ([] : List Addr) from z) (by simp)
  refine wpAny_mono ((keepc_leaving a _ _).anyD hd (wpAny_leaves_onW I.ok.frames rfl fl (Q := fun _ s3 => ∃ h2, s3 = { s2 with heap := h2 } ∧ Heap.FlyingW B outer a (.ref C) a0 h2 ∧ s2.heap.UpToSlots h2) fun h2 fl2 up => ⟨h2, rfl, fl2, up⟩)) (fun _ s3 hs3 => ?_) fun _ _ q => q
  obtain ⟨⟨h2, rfl, fl2, up⟩, hd2⟩ := hs3
  refine ⟨a, C, H2, d, rfl, ⟨F.os.trans I.os, F.bare, ⟨_, B, fl2, hok, fun b o e1 n1 n2 => ?_, fun b o e1 n2 => ?_⟩, fun b o e1 n1 hb => ?_, fun b o e1 n1 => ?_, fun b xs e1 => F.tups b xs (I.base.tups b xs e1), fun b o u e1 => F.frzs b o u (I.base.frzs b o u e1), fun b ps e1 => ?_⟩, hd2, q⟩
  · exact kp b o (I.base.keep b o e1 n1 n2 (noex b)) (I.base.free b o e1 n1 (noex b)) (notF b o e1 n2)
  · obtain ⟨o1, e2⟩ := I.base.there b o e1 (noex b)
    exact th b o1 e2 (notF b o e1 n2)
  · obtain ⟨sl, e2⟩ := I.base.slot b o e1 n1 hb (noex b)
    obtain ⟨sl2, e3⟩ := F.slot b _ e2 (I.base.free b o e1 n1 (noex b)) (subF b hb)
    obtain ⟨_, o2, e4, nf⟩ := fl.2.2.1.mem (subF b hb)
    rw [e3] at e4
    cases e4
    obtain ⟨sl3, e5⟩ := up b _ e3 nf
    exact ⟨sl3, e5⟩
  · obtain ⟨o1, e2⟩ := I.base.there b o e1 (noex b)
    exact F.free b o1 e2 (I.base.free b o e1 n1 (noex b))
  · obtain ⟨m1, e2⟩ := I.base.tbls b ps e1
    obtain ⟨m2, e3⟩ := F.tbls b _ e2
    exact ⟨m1 ++ m2, by rw [e3, Array.append_assoc]⟩
end
theorem pass0' {P : Program} {w : World} {X : Cx} : Passes (CX1 P w) X E0 := fun _ _ _ _ _ _ _ ⟨_, _, _, _, _, _, _, z⟩ => z.elim
def tRaise (E : XK) (C : Addr) (te : TE) : TS := fun _ σ H => te σ H fun _ H1 => E (.ref C) none H1
theorem ps_raise {X : Cx} {E : XK} {x : Str} {C : Addr} {e₀ : Expr} {te : TE} {np cpos pos : Pos} (T : XCls X.K X.mg x C) (hR : Raises X E) (hc : X.calm = true) (he : PE X e₀ te) (hg : Gl X x := by rfl) (hd : (x == ("__debug__" : Str)) = false := by decide)
    (hs : starEach [e₀] X.env = [(false, eval e₀ X.env)] := by rfl) : PS X (.Raise (some (.Call (.Name x np) [e₀] [] cpos)) none pos) (tRaise E C te) := by
  intro pins s σ H D I h
  obtain ⟨tl, N, nm, q, bs, hdct, sn, sub, ab, col, dd, k0, k1, k2, k3, k5, mN, hC, hN, hni, TL⟩ := (T.own I.ok.mod.kin).obj
  have FB := PySem.F.excBase_ValueError
  refine wpAny_Raise_call_subT (C := C) (nm := nm) (q := q) (N := N) (bs := bs) (bm := tl) (hdct := hdct) (sn := sn) (sub := sub) (ab := ab) (col := col) (dd := dd) (k0 := k0) (k1 := k1) (k2 := k2) (k3 := k3) (k5 := k5)
    FB (mN := mN) (TL.hasType FB.hasBase) (I.ok.hd hc) (by rw [hs]; rfl) hni (ld_glob I hg T.g ⟨rfl, ?_⟩ hd)
  have hA : PA X [e₀] (tCons te tNil) := pa_cons he pa_nil hs
  rw [hs]
  have hw := hA cpos pins s σ H (fun vs H1 => vs.length = 1 ∧ E (.ref C) none H1) I (by
    have h' : te σ H fun _ H1 => E (.ref C) none H1 := h
    show te σ H fun x H1 => ([x].length = 1 ∧ E (.ref C) none H1)
    simpa using h')
  rw [hs] at hw
  refine Calls.evalArgs_plain (thn hw fun us s2 ⟨vs, H2, I2, r2, l2, q2⟩ => ⟨rfl, ?_, I2.bk _ _ hC, hN.keeps I2.bk, TL.keeps I2.bk, fun h' e mk => hR pins σ H2 s2 h' e C us I2 mk q2⟩)
  rw [← r2.length, l2]
  decide
end L2
set_option Elab.async false
set_option linter.all false
set_option maxRecDepth 100000
namespace L2
open PySem PySem.Spec PyProof.Rows PySem.W PySem.Builtin PySem.Builtin.ObjectAttr PySem.Builtin.Getset_descriptor
structure XLook (K : Frag) (C : Addr) : Prop where
  ga : findIn K (.ref C) "__getattribute__" = some (some (.builtin "BaseException.__getattribute__"))
  gn : findIn K (.ref C) "__getattr__" = some none
  cl : findIn K (.ref C) "__class__" = some (some (.builtin "object.__class__"))
  hc : (clsIn K C).isSome = true
  hn : specialIn K (.builtin "object.__class__") "__get__" = some (some (.builtin "getset_descriptor.__get__"))
  tk : takesIn K (.builtin "object.__class__") = some true
  mo : mroIn K C (.type "object") = some true
  mb : mroIn K C (.type "BaseException") = some true
def OfCls (h : Heap) (x C : Addr) : Prop := ∃ ox, h.get? x = some ox ∧ ox.cls = .ref C
theorem OfCls.type {M : Model} {h : Heap} {x C : Addr} (I : OfCls h x C) : Looks M h (typeOf (.ref x)) (.ref C) := by
  obtain ⟨ox, e, c⟩ := I
  exact c ▸ (Looks.ld e).andThen .now
section
variable {prog : Program} {w : World} {A : Around} {E : Value → Shared → Prop} {s : Shared} {K : Frag} {x C : Addr}
theorem exc_find {M : Model} {h : Heap} (T : XLook K C) (X : K.In h) : Looks M h (find (.ref x) (.ref C) "__class__") (.bind (.builtin "getset_descriptor.__get__") (.builtin "object.__class__")) := by
  have L1 := looks_findIn (M := M) X T.cl
  have L2 : Looks M h (getOf (some (.builtin "object.__class__"))) (some (.builtin "getset_descriptor.__get__")) := looks_specialIn X T.hn
  have L3 := looks_takesIn (M := M) X T.tk
  have L4 : Looks M h (dataDescriptor? (some (.builtin "object.__class__")) (some (.builtin "getset_descriptor.__get__"))) (some (.builtin "getset_descriptor.__get__", .builtin "object.__class__")) := L3.andThen .now
  exact L1.andThen (L2.andThen (L4.andThen (Looks.tag .now)))
theorem exc_get {tp : Value} {R : Result → Shared → Prop} (T : XLook K C) (X : K.In s.heap) (I : OfCls s.heap x C) (h : R (.ok (.ret (.ref C))) s) :
    codeAny (model prog w) A (.call (.builtin "getset_descriptor.__get__") ⟨[.builtin "object.__class__", .ref x, tp], []⟩) R s := by
  obtain ⟨hh, gg, dd, tt, os⟩ := s
  have Lt := I.type (M := model prog w)
  have Lm := looks_mroIn (M := model prog w) X T.mo
  refine codeAny_call_builtin KF.slot_gs.plain KF.entry_gs ?_
  refine KF.slot_gs.check _ _ _ _ _ _ _ _ KF.type_class (KF.args_gs _ _ _) ?_
  unfold Builtin.«getset_descriptor.__get__»
  unfold descrGet
  rw [dga_obj]
  refine wpAny_bind (wpAny_pure ?_)
  unfold descrGetter descrCheckInstance
  unfold descrNameAndClass isInstance
  simp only [KF.owner_class]
  (repeat lk)
  refine ⟨Code.quiet_builtin _ (by decide +kernel), ?_⟩
  refine codeAny_builtin KF.entry_class ?_
  unfold Builtin.«object.__class__»
  unfold shownTypeOf
  (repeat lk)
  exact h
theorem exc_ga {nm : Str} {tk : Tok} {Q : Fin → Shared → Prop} (T : XLook K C) (X : K.In s.heap) (I : OfCls s.heap x C) (h : Q (.done (.ret (.ref C))) s) :
    wpAny (model prog w) A (Builtin.«object.__getattribute__» ⟨[.ref x, .str "__class__" tk], []⟩) Q E s := by
  obtain ⟨hh, gg, d, t, os⟩ := s
  have L0 := I.type (M := model prog w)
  have L1 := exc_find (x := x) (M := model prog w) T X
  refine wpAny_bind (wpAny_pure (wpAny_bind (wpAny_pure (wpAny_bind (L0.at (wpAny_bind (L1.at ?_)))))))
  show wpAny _ _ (holding [.builtin "object.__class__"] (call (.builtin "getset_descriptor.__get__") [.builtin "object.__class__", .ref x, .ref C]) >>= ret) _ _ _
  refine wpAny_bind (wpAny_holding (wpAny_call (exc_get (s := ⟨hh, gg, d, t, os⟩) T X I ?_)))
  exact wpAny_pure h
theorem exc_call {tk : Tok} {R : Result → Shared → Prop} (T : XLook K C) (X : K.In s.heap) (I : OfCls s.heap x C) (h : R (.ok (.ret (.ref C))) s) :
    codeAny (model prog w) A (.call (.builtin "BaseException.__getattribute__") ⟨[.ref x, .str "__class__" tk], []⟩) R s := by
  refine codeAny_call_builtin F.excAttr_ValueError.ga.plain F.entry_bexc_ga ?_
  obtain ⟨hh, gg, d, t, os⟩ := s
  have L0 := I.type (M := model prog w)
  have LB := looks_mroIn (M := model prog w) X T.mb
  have hk : builtinKind "BaseException.__getattribute__" = some .slot := by decide +kernel
  have hs : splitId "BaseException.__getattribute__" = some ("BaseException", "__getattribute__") := by decide +kernel
  have ha := F.args_bexc_ga (.ref x) (.str "__class__" tk)
  simp only [checkBuiltinCall, hk, hs]
  refine wpAny_bind ?_
  unfold isInstance
  repeat (first | exact exc_ga (s := ⟨hh, gg, d, t, os⟩) (nm := "") T X I (by exact h) | lk)
theorem exc_class {Q : Option Value → Shared → Prop} (T : XLook K C) (X : K.In s.heap) (I : OfCls s.heap x C) (h : Q (some (.ref C)) { s with toks := s.toks + 1 }) :
    wpAny (model prog w) A (getAttr? (.ref x) "__class__") Q E s := by
  obtain ⟨hh, g, d, t, os⟩ := s
  have L0 := I.type (M := model prog w)
  have L1 := looks_findIn (M := model prog w) X T.ga
  have L2 := looks_findIn (M := model prog w) X T.gn
  have f3 := F.excAttr_ValueError.ga.bind (.ref x)
  unfold getAttr? getAttrBy? getAttrBy
  refine wpAny_bind (wpAny_mkText (wpAny_bind (wpAny_attempt (wpAny_holding (wpAny_bind (L0.at (wpAny_bind (L1.at ?_))))))))
  show wpAny _ _ (if (onTheHeap (.ref C) && (Value.builtin "BaseException.__getattribute__" == Value.builtin "object.__getattribute__")) = true then _ else getAttrByItsOwn (.ref x) (.str "__class__" t) (.ref C) (.builtin "BaseException.__getattribute__") false false) _ _ _
  have ne : (onTheHeap (Value.ref C) && (Value.builtin "BaseException.__getattribute__" == Value.builtin "object.__getattribute__")) = false := by
    rw [show (Value.builtin "BaseException.__getattribute__" == Value.builtin "object.__getattribute__") = false by decide +kernel, Bool.and_false]
  rw [ne, if_neg Bool.false_ne_true]
  unfold getAttrByItsOwn hookBefore
  refine wpAny_bind (L2.at (wpAny_bind (wpAny_attempt (wpAny_holding ?_))))
  unfold callGetattribute boundAndCalled
  rw [Bool.false_and, if_neg Bool.false_ne_true]
  refine wpAny_bind (wpAny_of_eq f3 ?_)
  refine wpAny_call (exc_call (s := ⟨hh, g, d, t + 1, os⟩) T X I ?_)
  exact wpAny_pure (wpAny_pure h)
theorem kitx_exc (T : XLook K C) : KitX K (.ref x) (.ref C) (fun h => OfCls h x C) where
  ty := fun _ _ _ I => I.type
  it := fun _ _ X _ => by
    obtain ⟨cd, hc⟩ := Option.isSome_iff_exists.mp T.hc
    unfold clsIn at hc
    split at hc
    · rename_i ho
      intro A' Q' E' s' k q
      unfold isType loadHead
      exact wpAny_bind (wpAny_loadPart (k _ _ (X _ _ ho)) (wpAny_pure q))
    · cases hc
  ne := fun h tp dd its n sl X htp => by
    obtain ⟨cd, hc⟩ := Option.isSome_iff_exists.mp T.hc
    refine Bool.eq_false_iff.mpr fun q => ?_
    obtain rfl : C = tp := Value.ref.inj (beq_iff_eq.mp q)
    unfold clsIn at hc
    split at hc
    · rename_i ho
      cases (X _ _ ho).symm.trans htp
    · cases hc
  ca := fun X I k => exc_class T X I k
end
abbrev hoExc (a C : Addr) : HO := .ext fun h => OfCls h a C
section
variable {X : Cx}
theorem call_isX : CallR X (.builtin "isinstance") (fun xs H Q => ∃ a C d b, xs = [.ref a, d] ∧ H a = some (hoExc a C) ∧ XLook X.K C ∧ ((∃ D, d = .ref D ∧ kitOne X.K (.ref C) (.ref D) = some b) ∨ ∃ D, d = .ty D ∧ kitOne X.K (.ref C) (.type D) = some b) ∧ Q (.bl b) H) := by
  intro pins s σ H xs us Q I r h
  obtain ⟨a, C, d, b, rfl, ha, T, hk, q⟩ := h
  obtain ⟨u, v, rfl, ru, rv⟩ := r.two
  cases ru
  have e : OfCls s.heap a C := (I.hok a _ ha).1
  rcases hk with ⟨D, rfl, hk⟩ | ⟨D, rfl, hk⟩
  · cases rv
    exact kia_one (kitx_exc T) I.kIn e hk (fun z => nomatch z) fun tk => ⟨.bl b, H, I.tok _, rfl, q⟩
  · cases rv
    exact kia_one (kitx_exc T) I.kIn e hk (fun z => nomatch z) fun tk => ⟨.bl b, H, I.tok _, rfl, q⟩
end
end L2
set_option Elab.async false
set_option linter.all false
set_option maxRecDepth 100000
namespace L2
open PySem PySem.Spec PyProof.Rows
theorem objok_there {P : Program} {w : World} {H : Hp} {h : Heap} {a : Addr} {o : HO} (x : ObjOk P w H h a o) : ∃ ob, h.get? a = some ob := by
  cases o with
  | lst xs => obtain ⟨_, _, _, _, e⟩ := x; exact ⟨_, e⟩
  | tup xs => obtain ⟨_, _, _, ob, e, _⟩ := x; exact ⟨ob, e⟩
  | dK kvs => obtain ⟨_, _, _, _, o, _, _, e, _⟩ := x; exact ⟨o, e⟩
  | dT kvs => obtain ⟨_, _, _, _, o, _, _, e, _⟩ := x; exact ⟨o, e⟩
  | set S n => obtain ⟨o, _, _, _, e, _⟩ := x; exact ⟨o, e⟩
  | ins C dx fs => obtain ⟨_, _, _, e, _⟩ := x; exact ⟨_, e⟩
  | own y => obtain ⟨o, e⟩ := x; exact ⟨o, e⟩
  | xd fs => obtain ⟨_, ⟨o, _, _, e, _⟩, _⟩ := x; exact ⟨o, e⟩
  | rng lo hi => obtain ⟨_, _, _, e⟩ := x; exact ⟨_, e⟩
  | frz ob u => obtain ⟨e, _⟩ := x; exact ⟨ob, e⟩
  | tbl ps => exact ⟨_, x⟩
  | met f y => exact ⟨_, x⟩
  | ext φ => obtain ⟨_, e, _⟩ := x; exact e
def PEat (X : Cx) (pins : List (Addr × Obj)) (σ : St) (e : Expr) (t : TE) : Prop := ∀ (s : Shared) (H : Hp) (Q : VK), Inv X pins σ H s → t σ H Q → wpAny (model X.prog X.w) X.A (eval e X.env) (EP X pins σ Q) X.xe s
def PassesAt (CX : CXT) (X : Cx) (pins : List (Addr × Obj)) (σ : St) (E : XK) : Prop := ∀ (H : Hp) (s : Shared) (e : Value) (s' : Shared), Inv X pins σ H s → CX X.stack H s E e s' → X.xe e s'
section
variable {X : Cx} {CX : CXT} {k : Nat} {f C : Addr} {fd : FuncData} {ps : List Str} {sp : Sp} {dvs : List V} {ds : List Value} {E : XK} {x m : Str} {p pos apos : Pos} {e o : Expr} {es : List Expr} {ta : TE} {t : TA} {pins : List (Addr × Obj)} {σ : St}
theorem run_fnAt {H : Hp} {s : Shared} {Q : VK} {us : List Value} {vs : List V} (F : FnOk X.prog X.w X.K X.mg X.base CX k f fd ps sp) (hr : Room k X.A) (hb : Binds X.K fd ps ds) (hd : Vals dvs ds) (hx : PassesAt CX X pins σ E)
    (I : Inv X pins σ H s) (r : Vals vs us) (h : sp (vs ++ dvs) H Q E) : wpAny (model X.prog X.w) X.A (call (.ref f) us) (EP X pins σ Q) X.xe s := by
  have r2 : Vals (vs ++ dvs) (us ++ ds) := r.append hd
  have hl : (us ++ ds).length = ps.length := by rw [← r2.length]; exact F.len _ _ _ _ h
  refine wpAny_call (codeAny_mono (F.run X.A X.stack s H ⟨us, []⟩ (us ++ ds) (vs ++ dvs) Q E hr I.env0 (hb s us I.kIn hl) r2 h) fun r s' hq => ?_)
  cases r with
  | error e => exact hx H s e s' I hq
  | ok fl =>
    cases fl with
    | ret u => exact I.after hq
    | next => exact False.elim hq
    | brk => exact False.elim hq
    | cont => exact False.elim hq
theorem pe_callAt (F : FnOk X.prog X.w X.K X.mg X.base CX k f fd ps sp) (hr : Room k X.A) (hm : X.mg x = some (.ref f)) (hk : PySem.W.keepIn X.K (.ref f) = true) (hb : Binds X.K fd ps ds) (hd : Vals dvs ds) (hx : PassesAt CX X pins σ E)
    (ha : PA X (e :: es) t) (hg : Gl X x := by rfl) (hdb : (x == ("__debug__" : Str)) = false := by decide) (he : starEach (e :: es) X.env = (false, eval e X.env) :: starEach es X.env := by rfl) (hpl : (backTo pos (starEach es X.env)).any (·.1) = false := by rfl) :
    PEat X pins σ (.Call (.Name x p) (e :: es) [] pos) (tCall sp dvs E t) := by
  intro s H Q I h
  refine wpAny_Call_Name_kw (ld_glob I hg hm ?_ hdb)
  refine PySem.W.callWith_K (h₀ := X.base) I.ok.mod.kin hk (thn (ha pos pins s σ H _ I h) fun us s1 ⟨vs, H1, I1, r, q⟩ => ⟨I1.kIn, ?_⟩) he hpl
  exact run_fnAt F hr hb hd hx I1 r q
end
def XPX (X : Cx) (CX : CXT) (pins : List (Addr × Obj)) (EX : St → XK) : Value → Shared → Prop := fun e s' => ∃ σ H s, Inv X pins σ H s ∧ CX X.stack H s (EX σ) e s'
abbrev TSX := Ends → (St → XK) → St → Hp → Prop
def PSX1 (CX : CXT) (X : Cx) (st : Stmt) (t : TSX) : Prop := ∀ (pins : List (Addr × Obj)) (s : Shared) (σ : St) (H : Hp) (D : Ends) (EX : St → XK), Inv X pins σ H s → t D EX σ H → wpAny (model X.prog X.w) X.A (exec st X.env) (SP X pins D) (XPX X CX pins EX) s
def PSX (CX : CXT) (X : Cx) (sts : List Stmt) (t : TSX) : Prop := ∀ (pins : List (Addr × Obj)) (s : Shared) (σ : St) (H : Hp) (D : Ends) (EX : St → XK), Inv X pins σ H s → t D EX σ H → wpAny (model X.prog X.w) X.A (execs sts X.env) (SP X pins D) (XPX X CX pins EX) s
section
variable {X : Cx} {CX : CXT} {st : Stmt} {rest : List Stmt} {t u : TSX} {e : Expr} {pos : Pos} {te : XK → TE}
theorem psx_one (h : PSX1 CX X st t) : PSX CX X [st] t := by
  intro pins s σ H D EX I hw
  refine wpAny_execs_cons (thn (h pins s σ H D EX I hw) fun f s1 q => ?_)
  cases f with
  | next => exact wpAny_execs_nil q
  | brk => exact q
  | cont => exact q
  | ret v => exact q
def XE (CX : CXT) (X : Cx) (e : Expr) (te : XK → TE) : Prop := ∀ (xe : Value → Shared → Prop) (pins : List (Addr × Obj)) (σ : St) (E : XK), PassesAt CX (X.wish xe) pins σ E → PEat (X.wish xe) pins σ e (te E)
theorem xe_run (he : XE CX X e te) {pins : List (Addr × Obj)} {s : Shared} {σ : St} {H : Hp} {Q : VK} {EX : St → XK} (I : Inv X pins σ H s) (h : te (EX σ) σ H Q) : wpAny (model X.prog X.w) X.A (eval e X.env) (EP X pins σ Q) (XPX X CX pins EX) s :=
  thn (he (XPX X CX pins EX) pins σ (EX σ) (fun H1 s1 e1 s2 I1 hc => ⟨σ, H1, s1, I1.unwish, hc⟩) s H Q (I.wish _) h) fun u s1 ⟨v, H1, I1, r, q⟩ => ⟨v, H1, I1.unwish, r, q⟩
theorem psx_set {i : Nat} {x : Str} {pos' : Pos} (hN : X.N.Nodup) (hi : X.N[i]? = some x) (hx : Loc X.env.scope x) (he : XE CX X e te) (hs : swapsWith e (some (.Name x pos')) pos.line X.env = pure false := by rfl)
    (hf : X.fn x = true ∨ X.env.scope.names.lookup x = some .local := by first | exact .inl rfl | exact .inr rfl | assumption) : PSX1 CX X (.Assign [.Name x pos'] e pos) (fun D EX σ H => te (EX σ) σ H fun v H1 => D.nx (σ.set i (some v)) H1) := by
  intro pins s σ H D EX I h
  refine wpAny_Assign_Name (thn (xe_run he I h) fun v s1 ⟨y, H1, I1, r1, q1⟩ => ?_) hs
  exact store_ok I1 hN hi hx r1 (fun s2 I2 => ⟨_, H1, I2, q1⟩) hf
theorem psx_ret (he : XE CX X e te) : PSX1 CX X (.Return (some e) pos) (fun D EX σ H => te (EX σ) σ H D.rt) := by
  intro pins s σ H D EX I h
  exact wpAny_Return_some (thn (xe_run he I h) fun v s1 ⟨y, H1, I1, r1, q1⟩ => ⟨y, σ, H1, I1, r1, q1⟩)
end
end L2
set_option Elab.async false
set_option linter.all false
set_option maxRecDepth 100000
namespace L2
open PySem PySem.Spec PyProof.Rows
abbrev Cx.hdl (X : Cx) (a : Addr) : Cx := { X with A := X.A.mark (some (.ref a)), calm := false, xe := fun _ _ => False }
section
variable {X : Cx} {pins : List (Addr × Obj)} {σ : St} {H : Hp} {s : Shared} {a : Addr}
theorem Inv.hdl (I : Inv X pins σ H s) (a : Addr) : Inv (X.hdl a) pins σ H s :=
  ⟨⟨I.ok.mod, I.ok.kind, I.ok.glob, I.ok.blt, I.ok.above, I.ok.inj, I.ok.has, I.ok.cab, fun z => (nomatch z), I.ok.frames, I.ok.stk, I.ok.exf, I.ok.bs, I.ok.bsz, I.ok.noex, I.ok.exfs, I.ok.funs, I.ok.frf⟩, I.os, I.bare, I.base, I.loc, I.cell, I.free, I.freeC, I.pin, I.hok, I.len⟩
theorem Inv.unhdl (I : Inv (X.hdl a) pins σ H s) (ok : X.Ok) : Inv X pins σ H s := ⟨ok, I.os, I.bare, I.base, I.loc, I.cell, I.free, I.freeC, I.pin, I.hok, I.len⟩
theorem Inv.goes {i : Nat} {n : Str} {h' : Heap} {v : Option Value} {m : Str → Option Value} {t' : Nat} (I : Inv X pins σ H s) (hN : X.N.Nodup) (hi : X.N[i]? = some n)
    (hl : ∀ (j : Nat) (x : Str) (v : V), X.N[j]? = some x → σ[j]? = some (some v) → Vis X.env.scope x → ∃ u, RelV v u ∧ Look X.env s.heap m x u)
    (hn' : h'.Ns X.env.locals (fun x => if x = n then v else m x)) (sb : Heap.SameBut X.env.locals s.heap h') : Inv X pins (σ.set i none) H { s with heap := h', toks := t' } := by
  have ne : ∀ b o, X.s₀.heap.get? b = some o → b ≠ X.env.locals := fun b o e => Nat.ne_of_lt (Nat.lt_of_lt_of_le (Heap.lt_size e) I.ok.above)
  have hcell : ∀ x c, X.env.cells.lookup x = some c → ∀ u, s.heap.IsCell c u → h'.IsCell c u := fun x c e u ⟨o, ho, hd⟩ => ⟨o, (sb.2 c (I.cne x c e)).trans ho, hd⟩
  refine ⟨I.ok, I.os, I.bare, ⟨fun b o e n hb hx => (sb.2 b (ne b o e)).trans (I.base.keep b o e n hb hx), fun b o e n hb hx => ?_, I.base.free, fun b o e hx => ?_, I.base.tups, I.base.frzs, I.base.tbls⟩, ⟨_, hn', fun j x v' e1 e2 e3 => ?_⟩, fun x c e => ?_, I.free, I.freeC, fun p hp => ?_, fun b u e => ?_, by simpa using I.len⟩
  · obtain ⟨sl, q⟩ := I.base.slot b o e n hb hx
    exact ⟨sl, (sb.2 b (ne b o e)).trans q⟩
  · obtain ⟨o', q⟩ := I.base.there b o e hx
    exact ⟨o', (sb.2 b (ne b o e)).trans q⟩
  · by_cases hj : j = i
    · subst hj
      have hl2 : j < σ.length := by
        have := (List.getElem?_eq_some_iff.mp e2).1
        simpa using this
      rw [List.getElem?_set_self hl2] at e2
      cases e2
    · rw [List.getElem?_set_ne (Ne.symm hj)] at e2
      obtain ⟨u, r, q⟩ := hl j x v' e1 e2 e3
      refine ⟨u, r, ?_⟩
      rcases q with ⟨k, q⟩ | ⟨k, c, q, z⟩
      · have hxn : x ≠ n := fun z => hj (nodup_ix hN e1 (z ▸ hi))
        exact .inl ⟨k, (if_neg hxn).trans q⟩
      · exact .inr ⟨k, c, q, hcell x c q _ z⟩
  · obtain ⟨u, z⟩ := I.cell x c e
    exact ⟨u, hcell x c e u z⟩
  · obtain ⟨e, nn, ne', nf, d⟩ := I.pin p hp
    exact ⟨(sb.2 p.1 ne').trans e, nn, ne', nf, d⟩
  · refine (I.hok b u e).stay (fun c w hc q => (sb.2 c ?_).trans q) (fun _ q => q) fun _ _ q => q
    rintro rfl
    rcases hc with z | z
    · rw [← z, I.free] at e
      cases e
    · rw [I.free] at z
      cases z
theorem Fly.landsE {H1 H2 : Hp} {s0 s1 : Shared} {C : Addr} {a0 : Value} {B h6 : Heap} (I : Inv X pins σ H1 s0) (F : Fly X.prog X.w X.stack H1 s0 H2 a C s1) (fl : Heap.FlyingW B X.stack a (.ref C) a0 s1.heap) (hok : HOk X.prog X.w H2 B)
    (kp : ∀ b o, s0.heap.get? b = some o → H1 b = none → b ∉ frs X.stack → B.get? b = some o) (th : ∀ b o, s0.heap.get? b = some o → b ∉ frs X.stack → ∃ o', B.get? b = some o')
    (fl6 : Heap.FlyingW B X.stack a (.ref C) a0 h6) (up : s1.heap.UpToSlots h6) {φ : Heap → Prop} (p6 : φ h6) (pst : ∀ h1 h2, φ h1 → (∀ o, h1.get? a = some o → h2.get? a = some o) → φ h2) : H2 a = none ∧ Inv X pins σ (upd H2 a (.ext φ)) { s1 with heap := h6 } := by
  have noB : B.get? a = none := fl.2.1
  have hna : H2 a = none := by
    cases q : H2 a with
    | none => rfl
    | some o =>
      obtain ⟨ob, e⟩ := objok_there (hok a o q)
      rw [noB] at e
      cases e
  have frn : ∀ b ∈ frs X.stack, b ≠ a := fun b hb z => by
    obtain ⟨_, o, e, nf⟩ := fl6.2.2.1.mem hb
    obtain ⟨oe, vs, _, _, _, e2, _, d, _⟩ := fl6.2.2.2
    rw [z, e2] at e
    cases e
    exact nf vs d
  have old : ∀ b o, s0.heap.get? b = some o → b ≠ a := fun b o e z => by
    by_cases hb : b ∈ frs X.stack
    · exact frn b hb z
    · obtain ⟨o', q⟩ := th b o e hb
      rw [z, noB] at q
      cases q
  have trk : ∀ b u, H2 b = some u → b ≠ a := fun b u e z => by
    rw [z, hna] at e
    cases e
  refine ⟨hna, I.call' (ch := []) F.os ⟨fun b o e n hb _ => fl6.1 b o (kp b o e n hb), fun b o e n hb _ => ?_, fun b o e n _ => ?_, fun b o e _ => ?_, fun b xs e => ?_, fun b o u e => ?_, fun b ps e => ?_⟩ (fun b u e => ?_) F.bare fun b z => absurd z (by simp)⟩
  · obtain ⟨sl, q⟩ := F.slot b o e n hb
    obtain ⟨_, o2, q2, nf⟩ := fl.2.2.1.mem hb
    rw [q] at q2
    cases q2
    obtain ⟨sl2, q3⟩ := up b _ q nf
    exact ⟨sl2, q3⟩
  · rw [upd_ne (old b o e)]
    exact F.free b o e n
  · by_cases hb : b ∈ frs X.stack
    · obtain ⟨_, o2, q2, _⟩ := fl6.2.2.1.mem hb
      exact ⟨o2, q2⟩
    · obtain ⟨o', q⟩ := th b o e hb
      exact ⟨o', fl6.1 b o' q⟩
  · have q := F.tups b xs e
    rw [upd_ne (trk b _ q)]
    exact q
  · have q := F.frzs b o u e
    rw [upd_ne (trk b _ q)]
    exact q
  · obtain ⟨more, q⟩ := F.tbls b ps e
    exact ⟨more, by rw [upd_ne (trk b _ q)]; exact q⟩
  · by_cases hb : b = a
    · subst hb
      rw [upd_same] at e
      cases e
      obtain ⟨oe, vs, _, _, _, e2, c, _⟩ := fl6.2.2.2
      exact ⟨p6, ⟨oe, e2⟩, pst⟩
    · rw [upd_ne hb] at e
      refine (hok b u e).stay (fun c w _ q => fl6.1 c w q) (fun c q => ?_) fun c xs q => ?_
      · rw [upd_ne (trk c _ q)]
        exact q
      · rw [upd_ne (trk c _ q)]
        exact q
theorem Fly.lands {H1 H2 : Hp} {s0 s1 : Shared} {C : Addr} {a0 : Value} {B h6 : Heap} (I : Inv X pins σ H1 s0) (F : Fly X.prog X.w X.stack H1 s0 H2 a C s1) (fl : Heap.FlyingW B X.stack a (.ref C) a0 s1.heap) (hok : HOk X.prog X.w H2 B)
    (kp : ∀ b o, s0.heap.get? b = some o → H1 b = none → b ∉ frs X.stack → B.get? b = some o) (th : ∀ b o, s0.heap.get? b = some o → b ∉ frs X.stack → ∃ o', B.get? b = some o')
    (fl6 : Heap.FlyingW B X.stack a (.ref C) a0 h6) (up : s1.heap.UpToSlots h6) : H2 a = none ∧ Inv X pins σ (upd H2 a (hoExc a C)) { s1 with heap := h6 } := by
  refine Fly.landsE I F fl hok kp th fl6 up ?_ fun h1 h2 ⟨oe, e1, e2⟩ k => ⟨oe, k oe e1, e2⟩
  obtain ⟨oe, vs, _, _, _, e2, c, _⟩ := fl6.2.2.2
  exact ⟨oe, e2, c.1⟩
end
def tTry (Ok : Addr → Prop) (i : Nat) (tb : TSX) (th : TS) : TS := fun D σ H => tb D (fun σ' c _ H' => ∃ C, c = .ref C ∧ Ok C ∧
  ∀ a, H' a = none → th { nx := fun σ2 H2 => D.nx (σ2.set i none) H2, rt := D.rt } (σ'.set i (some (.ref a))) (upd H' a (hoExc a C))) σ H
theorem ps_try {X : Cx} {x n : Str} {D0 : Addr} {i : Nat} {body : List Stmt} {b₀ : Stmt} {suite : List Stmt} {np hpos pos : Pos} {tb : TSX} {th : TS} {Ok : Addr → Prop} (hOk : ∀ C, Ok C → PySem.W.exmOne X.K (.ref C) (.ref D0) = some true) (hg0 : X.mg x = some (.ref D0)) (hN : X.N.Nodup) (hi : X.N[i]? = some n)
    (hl : X.env.scope.names.lookup n = some .local) (hst : X.stack = X.env :: X.outer) (hf : X.env.frame = some X.env.locals) (hb : PSX (CX1 X.prog X.w) X body tb) (hh : ∀ a, PSs (X.hdl a) (b₀ :: suite) th)
    (hg : Gl X x := by rfl) (hd : (x == ("__debug__" : Str)) = false := by decide) : PS X (.Try body [.ExceptHandler (some (.Name x np)) (some n) (b₀ :: suite) hpos] [] [] pos) (tTry Ok i tb th) := by
  intro pins s σ H D I h
  refine wpAny_Try_except (wpAny_mono (hb pins s σ H D _ I h) (fun f s1 q => ?_) fun e s1 hx => ?_)
  · cases f with
    | next => exact wpAny_execs_nil q
    | brk => exact q
    | cont => exact q
    | ret v => exact q
  · obtain ⟨σ1, H1, s0, I1, a, C, H2, d, rfl, F, _, C', eC, hm, q⟩ := hx
    cases eC
    replace hm := hOk C hm
    obtain ⟨a0, B, fl, hok, kp, tH⟩ := F.fly
    have hfs : X.A.frames = some (X.env :: X.outer) := by rw [← hst]; exact I1.ok.frames
    have fl' := fl
    rw [hst] at fl'
    refine wpAny_looks_onW hfs hf fl' fun h4 held4 up4 => ?_
    refine wpAny_landsW held4 fun h5 fl5 up5 => ?_
    have fl5' : Heap.FlyingW B X.stack a (.ref C) a0 h5 := by rw [hst]; exact fl5
    obtain ⟨hna, I5⟩ := Fly.lands I1 F fl hok kp tH fl5' (up4.trans up5)
    refine wpAny_handleBy_cons (codeAny_handlers_test ?_) (by intro q; cases q)
    have I5h := I5.hdl a
    refine ld_glob (X := X.hdl a) I5h hg hg0 ?_ hd
    have LT : PySem.W.Looks (model X.prog X.w) h5 (typeOf (.ref a)) (.ref C) := by
      obtain ⟨oe, vs, _, _, _, e2, c, _⟩ := fl5.2.2.2
      exact OfCls.type ⟨oe, e2, c.1⟩
    refine PySem.W.Looks.here (s := { s1 with heap := h5 }) (PySem.W.exm_one I5.kIn LT hm) ?_
    refine codeAny_handlers_suite_as (lands_againW fl5 fun h6 fl6 up6 => ?_)
    have fl6' : Heap.FlyingW B X.stack a (.ref C) a0 h6 := by rw [hst]; exact fl6
    obtain ⟨_, I6⟩ := Fly.lands I1 F fl hok kp tH fl6' ((up4.trans up5).trans up6)
    refine store_ok (X := X.hdl a) (I6.hdl a) hN hi (.inl hl) (show RelV (.ref a) (.ref a) from rfl) (fun s7 I7 => ?_) (.inr hl)
    refine wpAny_mono (hh a pins s7 _ _ _ I7 (q a hna)) (fun f s8 q8 => ?_) fun _ _ z => z.elim
    have hp : (X.env.scope.kind == .class || (X.env.scope.kind == .module && X.env.locals != X.env.globals)) = false := by rw [I.ok.kind]; rfl
    have goes : ∀ {σ8 : St} {H8 : Hp} {Q : Unit → Shared → Prop}, Inv (X.hdl a) pins σ8 H8 s8 → (∀ s9, Inv X pins (σ8.set i none) H8 s9 → Q () s9) →
        wpAny (model X.prog X.w) X.A (do bindName X.env n .none; unbindBehindTheSuite X.env n hpos) Q X.xe s8 := fun {σ8 H8 Q} I8 k => by
      have I8' := I8.unhdl I.ok
      obtain ⟨m, hn, hlk⟩ := I8'.loc
      exact wpAny_nameGoes_keeps hl hn hp fun h' v hn' sb => k _ (I8'.goes hN hi hlk hn' sb)
    cases f with
    | next =>
      obtain ⟨σ8, H8, I8, q8⟩ := q8
      exact goes I8 fun s9 I9 => ⟨_, H8, I9, q8⟩
    | brk =>
      obtain ⟨σ8, H8, I8, q8⟩ := q8
      exact q8.elim
    | cont =>
      obtain ⟨σ8, H8, I8, q8⟩ := q8
      exact q8.elim
    | ret u =>
      obtain ⟨v, σ8, H8, I8, r8, q8⟩ := q8
      exact goes I8 fun s9 I9 => ⟨v, _, H8, I9, r8, q8⟩
end L2
set_option Elab.async false
set_option linter.all false
set_option maxRecDepth 100000
namespace L2
open PySem PySem.Spec PyProof.Rows
section
variable {P : Program} {w : World} {K : PySem.W.Frag} {mg : Str → Option Value} {base : Heap}
theorem Fun.okX {x qual : Str} {st : Stmt} {f : Addr} {fd : FuncData} {N ps : List Str} {k : Nat} {sp : Sp} (F : Fun K x qual st f fd) (S : FnScope N ps (defScope st)) (len : ∀ vs H Q E, sp vs H Q E → vs.length = ps.length)
    (hbody : ∀ (cdv : Value) (A : Around) (outer : List Env) (s : Shared) (H : Hp) (vs : List V) (Q : VK) (E : XK), Room k (A.deeper (envOfC qual (defScope st) s.heap.objs.size f cdv)) → sp vs H Q E →
      ∃ t, PSs (cxOf (CX1 P w) P w K mg base N qual (defScope st) f cdv A outer s H E) (defBody st) t ∧ t { nx := fun _ H' => Q .non H', rt := Q } (start N vs) H) : FnOk P w K mg base (CX1 P w) (k + 1) f fd ps sp := by
  obtain ⟨oc, od, kV, doc, pm, an, cdv, ct, osl, rfl, lk, hcd⟩ := F.ex
  exact fn_of lk hcd S len fun A outer s H vs Q E hr hsp => hbody cdv A outer s H vs Q E hr hsp
theorem Fun.okN {x qual : Str} {st : Stmt} {f : Addr} {fd : FuncData} {N ps : List Str} {k : Nat} {sp : Sp} (F : Fun K x qual st f fd) (S : FnScope N ps (defScope st)) (len : ∀ vs H Q E, sp vs H Q E → vs.length = ps.length)
    (hbody : ∀ (cdv : Value) (A : Around) (outer : List Env) (s : Shared) (H : Hp) (vs : List V) (Q : VK) (E : XK), Room k (A.deeper (envOfC qual (defScope st) s.heap.objs.size f cdv)) → sp vs H Q E →
      ∃ t, PSs (cxOf (CX1 P w) P w K mg base N qual (defScope st) f cdv A outer s H E).nox (defBody st) t ∧ t { nx := fun _ H' => Q .non H', rt := Q } (start N vs) H) : FnOk P w K mg base (CX1 P w) (k + 1) f fd ps sp :=
  F.okX S len fun cdv A outer s H vs Q E hr hsp => by
    obtain ⟨t, h, q⟩ := hbody cdv A outer s H vs Q E hr hsp
    exact ⟨t, h.nox, q⟩
end
section
variable {X : Cx}
theorem pe_fnx {P : Program} {w : World} {k : Nat} {f : Addr} {fd : FuncData} {ps : List Str} {sp : Sp} {E : XK} {x : Str} {st : Stmt} {p pos : Pos} {e : Expr} {es : List Expr} {t : TA} (D : DefOk X.K X.mg x st ps f fd) (F : FnOk X.prog X.w X.K X.mg X.base (CX1 P w) k f fd ps sp) (hr : Room k X.A)
    (hx : Passes (CX1 P w) X E) (ha : PA X (e :: es) t) (hg : Gl X x := by rfl) (hdb : (x == ("__debug__" : Str)) = false := by decide) (he : starEach (e :: es) X.env = (false, eval e X.env) :: starEach es X.env := by rfl) (hpl : (backTo pos (starEach es X.env)).any (·.1) = false := by rfl) :
    PE X (.Call (.Name x p) (e :: es) [] pos) (tCall sp [] E t) := pe_call F hr hg D.g D.fn.kp D.b .nil hx ha hdb he hpl
end
theorem xe_fn {X : Cx} {P : Program} {w : World} {k : Nat} {f : Addr} {fd : FuncData} {ps : List Str} {sp : Sp} {x : Str} {st : Stmt} {p pos : Pos} {e : Expr} {es : List Expr} {t : TA} (D : DefOk X.K X.mg x st ps f fd) (F : FnOk X.prog X.w X.K X.mg X.base (CX1 P w) k f fd ps sp) (hr : Room k X.A)
    (ha : ∀ xe, PA (X.wish xe) (e :: es) t) (hg : Gl X x := by rfl) (hdb : (x == ("__debug__" : Str)) = false := by decide) (he : starEach (e :: es) X.env = (false, eval e X.env) :: starEach es X.env := by rfl) (hpl : (backTo pos (starEach es X.env)).any (·.1) = false := by rfl) :
    XE (CX1 P w) X (.Call (.Name x p) (e :: es) [] pos) (fun E => tCall sp [] E t) :=
  fun xe pins σ E hx => pe_callAt (X := X.wish xe) F hr D.g D.fn.kp D.b .nil hx (ha xe) hg hdb he hpl
end L2
set_option Elab.async false
set_option linter.all false
set_option maxRecDepth 100000
namespace L2
open PySem PySem.Spec PyProof.Rows PySem.W
abbrev xRow (K : Frag) (S : Addr) (cs : List Addr) (C : Addr) :=
  ((excIn K C veB "ValueError.__new__", findIn K (.ref C) "__getattribute__", findIn K (.ref C) "__getattr__", findIn K (.ref C) "__class__"),
   ((clsIn K C).isSome, specialIn K (.builtin "object.__class__") "__get__", takesIn K (.builtin "object.__class__"), mroIn K C (.type "object")),
   (mroIn K C (.type "BaseException"), exmOne K (.ref C) (.ref S), kitOne K (.ref C) (.type "ValueError"), cs.map fun D => kitOne K (.ref C) (.ref D)))
abbrev xRow0 (cs : List Addr) (C : Addr) : (Bool × Option (Option Value) × Option (Option Value) × Option (Option Value)) × (Bool × Option (Option Value) × Option Bool × Option Bool) × (Option Bool × Option Bool × Option Bool × List (Option Bool)) :=
  ((true, some (some (.builtin "BaseException.__getattribute__")), some none, some (some (.builtin "object.__class__"))),
   (true, some (some (.builtin "getset_descriptor.__get__")), some true, some true),
   (some true, some true, some true, cs.map fun D => some (decide ((C : Nat) = D))))
structure XSet (K : Frag) (S : Addr) (cs : List Addr) : Prop where
  rows : cs.map (xRow K S cs) = cs.map (xRow0 cs)
  nd : decide (@List.Nodup Nat cs) = true
section
variable {K : Frag} {S : Addr} {cs : List Addr} {C D : Addr}
theorem XSet.row (T : XSet K S cs) (h : C ∈ cs) : xRow K S cs C = xRow0 cs C := (List.map_inj_left.mp T.rows) C h
theorem XSet.look (T : XSet K S cs) (h : C ∈ cs) : XLook K C := by
  have e := T.row h
  simp only [Prod.mk.injEq] at e
  exact ⟨e.1.2.1, e.1.2.2.1, e.1.2.2.2, e.2.1.1, e.2.1.2.1, e.2.1.2.2.1, e.2.1.2.2.2, e.2.2.1⟩
theorem XSet.exc (T : XSet K S cs) (h : C ∈ cs) : excIn K C veB "ValueError.__new__" = true := by
  have e := T.row h
  simp only [Prod.mk.injEq] at e
  exact e.1.1
theorem XSet.exm (T : XSet K S cs) (h : C ∈ cs) : exmOne K (.ref C) (.ref S) = some true := by
  have e := T.row h
  simp only [Prod.mk.injEq] at e
  exact e.2.2.2.1
theorem XSet.val (T : XSet K S cs) (h : C ∈ cs) : kitOne K (.ref C) (.type "ValueError") = some true := by
  have e := T.row h
  simp only [Prod.mk.injEq] at e
  exact e.2.2.2.2.1
theorem XSet.two (T : XSet K S cs) (h : C ∈ cs) (h' : D ∈ cs) : kitOne K (.ref C) (.ref D) = some (decide ((C : Nat) = D)) := by
  have e := T.row h
  simp only [Prod.mk.injEq] at e
  exact (List.map_inj_left.mp e.2.2.2.2.2) D h'
theorem XSet.cls {mg : Str → Option Value} {x : Str} (T : XSet K S cs) (h : C ∈ cs) (g : mg x = some (.ref C)) : XCls K mg x C := ⟨g, T.exc h⟩
end
section
variable {X : Cx} {S : Addr} {cs : List Addr}
def rIsX (cs : List Addr) : List V → Hp → VK → Prop := fun xs H Q => ∃ (a : Addr) (d : V), xs = [.ref a, d] ∧ ∃ C : Addr, H a = some (hoExc a C) ∧ C ∈ cs ∧ ∃ D : Addr, d = .ref D ∧ D ∈ cs ∧ Q (.bl (decide ((C : Nat) = D))) H
def rIsV (cs : List Addr) : List V → Hp → VK → Prop := fun xs H Q => ∃ (a : Addr) (d : V), xs = [.ref a, d] ∧ d = .ty "ValueError" ∧ ∃ C : Addr, H a = some (hoExc a C) ∧ C ∈ cs ∧ Q (.bl true) H
theorem call_isXs (T : XSet X.K S cs) : CallR X (.builtin "isinstance") (rIsX cs) := by
  intro pins s σ H xs us Q I r h
  obtain ⟨a, d, rfl, C, ha, hC, D, rfl, hD, q⟩ := h
  exact call_isX pins s σ H _ us Q I r ⟨a, C, _, _, rfl, ha, T.look hC, .inl ⟨D, rfl, T.two hC hD⟩, q⟩
theorem call_isVs (T : XSet X.K S cs) : CallR X (.builtin "isinstance") (rIsV cs) := by
  intro pins s σ H xs us Q I r h
  obtain ⟨a, d, rfl, rfl, C, ha, hC, q⟩ := h
  exact call_isX pins s σ H _ us Q I r ⟨a, C, _, _, rfl, ha, T.look hC, .inr ⟨"ValueError", rfl, T.val hC⟩, q⟩
theorem pe_cls {x : Str} {C : Addr} {pos : Pos} (hm : X.mg x = some (.ref C)) (hg : Gl X x := by rfl) (hd : (x == ("__debug__" : Str)) = false := by decide) : PE X (.Name x pos) (tC (.ref C)) := pe_glob hg hm rfl hd
theorem ps_tryS {x n : Str} {i : Nat} {body : List Stmt} {b₀ : Stmt} {suite : List Stmt} {np hpos pos : Pos} {tb : TSX} {th : TS} (T : XSet X.K S cs) (hg0 : X.mg x = some (.ref S)) (hN : X.N.Nodup) (hi : X.N[i]? = some n)
    (hl : X.env.scope.names.lookup n = some .local) (hst : X.stack = X.env :: X.outer) (hf : X.env.frame = some X.env.locals) (hb : PSX (CX1 X.prog X.w) X body tb) (hh : ∀ a, PSs (X.hdl a) (b₀ :: suite) th)
    (hg : Gl X x := by rfl) (hd : (x == ("__debug__" : Str)) = false := by decide) : PS X (.Try body [.ExceptHandler (some (.Name x np)) (some n) (b₀ :: suite) hpos] [] [] pos) (tTry (· ∈ cs) i tb th) :=
  ps_try (fun _ h => T.exm h) hg0 hN hi hl hst hf hb hh hg hd
end
section
variable {X : Cx} {CX : CXT} {e : Expr} {es : List Expr} {t : TE}
end
section
variable {X : Cx} {P : Program} {w : World} {k : Nat} {f C : Addr} {fd : FuncData} {ps : List Str} {sp : Sp} {E : XK} {m qual : Str} {st : Stmt} {apos pos : Pos} {e o : Expr} {es : List Expr} {ta : TE} {t : TA}
end
end L2
set_option Elab.async false
set_option linter.all false
set_option maxRecDepth 100000
namespace L2
open PySem PySem.Spec PyProof.Rows
theorem boot_VE : bootBuiltins "ValueError" = some (.type "ValueError") := by first | rfl | decide +kernel
end L2
set_option Elab.async false
set_option linter.all false
set_option maxRecDepth 100000
namespace L2
open PySem PySem.Spec PyProof.Rows
theorem atI_in {α : Type} {xs : List α} {i : Int} (h0 : 0 ≤ i) (h1 : i < xs.length) : ∃ v, atI xs i = some v ∧ xs[i.toNat]? = some v := by
  obtain ⟨j, rfl⟩ := Int.eq_ofNat_of_zero_le h0
  have hj : j < xs.length := by omega
  exact ⟨xs[j], atI_nat (by simp [hj]), by simp [hj]⟩
theorem rd_pick {K : PySem.W.Frag} {H : Hp} {p : Addr} {xs : List V} {i : Int} {Q : VK} (h0 : 0 ≤ i) (h1 : i < xs.length) (k : ∀ v ∈ xs, Q v (upd H p (.lst xs))) : rIxL K (.ref p) (.int i) (upd H p (.lst xs)) Q := by
  obtain ⟨v, e, e2⟩ := atI_in h0 h1
  exact ⟨p, xs, i, v, rfl, rfl, SqL.of upd_same, e, k v (List.mem_of_getElem? e2)⟩
theorem rd_sign {H : Hp} {l : List Nat} {i : Int} {Q : VK} (hz : l.length ≤ sizeLine) (h0 : 0 ≤ i) (h1 : i < l.length) (k : ∀ c, l[i.toNat]? = some c → Q (.str (tx [c])) H) : rIxS (.str (tx l)) (.int i) H Q := by
  obtain ⟨v, e, e2⟩ := atI_in h0 h1
  exact ⟨_, i, v, rfl, rfl, by rw [tx_len]; exact hz, by rw [tx_list]; exact e, k v e2⟩
theorem sz_of {n : Nat} (h : n ≤ 100000) : n ≤ sizeLine := Nat.le_trans h (by rw [sizeLine_eq]; decide)
end L2
set_option Elab.async false
set_option linter.all false
set_option maxRecDepth 100000
namespace L2
open PySem PySem.Spec PyProof.Rows PySem.P
section
variable {X : Cx}
end
end L2
set_option Elab.async false
set_option linter.all false
set_option maxRecDepth 100000
namespace L2
open PySem PySem.Spec PyProof.Rows PySem.P
section
variable {X : Cx} {pins : List (Addr × Obj)} {σ : St} {H : Hp} {s : Shared} {a : Addr} {o o' : HO}
end
section
variable {X : Cx} {y : Str} {py : Pos}
section
variable {elt iter : Expr} {ifs : List Expr} {scope : Scope} {pos : Pos} {N : List Str} {fr : List Nat} {tt : TT} {te tel : TE}
end
end
end L2
set_option Elab.async false
set_option linter.all false
set_option maxRecDepth 100000
namespace L2
open PySem PySem.Spec PyProof.Rows PySem.P
mutual
inductive DatV (K : PySem.W.Frag) (H : Hp) : V → PyData → Prop
  | non : DatV K H .non .none
  | bl (b : Bool) : DatV K H (.bl b) (.bool b)
  | int (i : Int) : DatV K H (.int i) (.int i)
  | str (x : Str) : DatV K H (.str x) (.str x)
  | lst {a : Addr} {xs : List V} {ds : List PyData} : SqL K H a xs → DatVs K H xs ds → DatV K H (.ref a) (.list ds)
  | tup {a : Addr} {xs : List V} {ds : List PyData} : SqT K H a xs → DatVs K H xs ds → DatV K H (.ref a) (.tuple ds)
inductive DatVs (K : PySem.W.Frag) (H : Hp) : List V → List PyData → Prop
  | nil : DatVs K H [] []
  | cons {x : V} {xs : List V} {d : PyData} {ds : List PyData} : DatV K H x d → DatVs K H xs ds → DatVs K H (x :: xs) (d :: ds)
end
section
variable {X : Cx} {pins : List (Addr × Obj)} {σ : St} {H : Hp} {s : Shared}
mutual
theorem DatV.reads (I : Inv X pins σ H s) : ∀ {v : V} {d : PyData} {u : Value}, DatV X.K H v d → RelV v u → ∃ as, Reads s.heap u d as
  | _, _, _, .non, r => by cases r; exact ⟨_, .none⟩
  | _, _, _, .bl b, r => by cases r; exact ⟨_, .bool b⟩
  | _, _, _, .int i, r => by obtain ⟨t, rfl⟩ := r; exact ⟨_, .int i t⟩
  | _, _, _, .str x, r => by obtain ⟨t, rfl⟩ := r; exact ⟨_, .str x t⟩
  | _, _, _, .lst hq hs, r => by
    cases r
    obtain ⟨its, rv, pl, _⟩ := I.list hq
    obtain ⟨as, ra⟩ := DatVs.reads I hs rv
    obtain ⟨o, ho, hc, n, hd⟩ := pl.isList
    exact ⟨_, .list ho hc hd (by simpa using ra)⟩
  | _, _, _, .tup hq hs, r => by
    cases r
    obtain ⟨its, rv, pl, _⟩ := I.tuple hq
    obtain ⟨as, ra⟩ := DatVs.reads I hs rv
    obtain ⟨o, ho, hc, n, hd⟩ := pl
    exact ⟨_, .tuple ho hc hd (by simpa using ra)⟩
theorem DatVs.reads (I : Inv X pins σ H s) : ∀ {vs : List V} {ds : List PyData} {us : List Value}, DatVs X.K H vs ds → Vals vs us → ∃ as, ReadsAll s.heap us ds as
  | _, _, _, .nil, r => by cases r; exact ⟨_, .nil⟩
  | _, _, _, .cons h hs, r => by
    cases r with
    | cons r1 r2 =>
      obtain ⟨as, a1⟩ := DatV.reads I h r1
      obtain ⟨bs, b1⟩ := DatVs.reads I hs r2
      exact ⟨_, .cons a1 b1⟩
end
end
mutual
theorem eqv_refl : ∀ d : PyData, d.canLay0 = true → PyData.eqv d d = true
  | .none, _ => by simp [PyData.eqv]
  | .bool b, _ => by simp [PyData.eqv]
  | .int i, _ => by simp [PyData.eqv]
  | .str x, _ => by simp [PyData.eqv]
  | .list xs, h => by
    rw [PyData.eqv]
    exact eqvAll_refl xs (by simpa [PyData.canLay0] using h)
  | .tuple xs, h => by
    rw [PyData.eqv]
    exact eqvAll_refl xs (by simpa [PyData.canLay0] using h)
  | .dict _, h => by simp [PyData.canLay0] at h
theorem eqvAll_refl : ∀ ds : List PyData, PyData.canLayAll0 ds = true → PyData.eqvAll ds ds = true
  | [], _ => by simp [PyData.eqvAll]
  | d :: ds, h => by
    rw [PyData.canLayAll0, Bool.and_eq_true] at h
    rw [PyData.eqvAll, eqv_refl d h.1, eqvAll_refl ds h.2]
    rfl
end
def rEqD (K : PySem.W.Frag) : R2 := fun x y H Q => ∃ d, DatV K H x d ∧ DatV K H y d ∧ SeqAt.shaped d = true ∧ Q (.bl true) H
def rNeD (K : PySem.W.Frag) : R2 := fun x y H Q => ∃ d, DatV K H x d ∧ DatV K H y d ∧ SeqAt.shaped d = true ∧ Q (.bl false) H
section
variable {X : Cx}
theorem op_eqD (hu : X.A.units + 64 < cLine) : OpR X (compareOp .Eq) (rEqD X.K) := by
  intro pins s σ H x y v u Q I rx ry h
  obtain ⟨d, h1, h2, h3, q⟩ := h
  obtain ⟨as, a1⟩ := h1.reads I rx
  obtain ⟨bs, b1⟩ := h2.reads I ry
  refine eq_dataH a1 b1 h3 h3 hu ?_
  rw [eqv_refl d (SeqAt.canLay_of_shaped h3)]
  exact ⟨.bl true, H, I, rfl, q⟩
theorem op_neD (hu : X.A.units + 64 < cLine) : OpR X (compareOp .NotEq) (rNeD X.K) := by
  intro pins s σ H x y v u Q I rx ry h
  obtain ⟨d, h1, h2, h3, q⟩ := h
  obtain ⟨as, a1⟩ := h1.reads I rx
  obtain ⟨bs, b1⟩ := h2.reads I ry
  refine ne_dataH a1 b1 h3 h3 hu ?_
  rw [eqv_refl d (SeqAt.canLay_of_shaped h3)]
  exact ⟨.bl false, H, I, rfl, q⟩
end
theorem hu64 {k : Nat} {A : Around} (r : Room k A) : A.units + 64 < cLine := r.units
structure Step (H : Hp) (F : List Addr) (H' : Hp) (F' : List Addr) : Prop where
  off : ∀ b o, b ∉ F → H b = some o → H' b = some o
  own : ∀ b ∈ F', b ∈ F ∨ H b = none
  tup : ∀ b xs, H b = some (.tup xs) → H' b = some (.tup xs)
end L2
set_option Elab.async false
set_option linter.all false
set_option maxRecDepth 100000
namespace L2
open PySem
abbrev Nm := List Nat
def abc : List Nat := [97, 98, 99, 100, 101, 102, 103, 104, 105, 106, 107, 108, 109, 110, 111, 112, 113, 114, 115, 116, 117, 118, 119, 120, 121, 122]
theorem mem_abc {c : Nat} : c ∈ abc ↔ 97 ≤ c ∧ c ≤ 122 := by
  unfold abc
  simp only [List.mem_cons, List.not_mem_nil, or_false]
  omega
def goodC (l : Nm) : Bool := decide (1 ≤ l.length ∧ l.length ≤ 12) && l.all fun c => decide (c ∈ abc)
structure Tie where
  start : Nm
  name : Nm
  stop : Nm
  weight : Int
  deriving DecidableEq
structure WS where
  dx : Addr
  dv : Addr
  dt : Addr
  vals : List (Nm × Addr × List (Nm × Int))
  ties : List (Int × Addr × Tie)
  next : Int
end L2
set_option Elab.async false
set_option linter.all false
set_option maxRecDepth 100000
namespace L2
open PySem PySem.Spec PyProof.Rows
section
variable {X : Cx} {a b e o i : Expr} {ta tb td ty : TE} {pos : Pos} {f : Str} {r : R2}
theorem pe_ixA (hr : IxR X r) (ha : PE X a ta) (hb : PE X b tb) (hs : PlainIx b := by exact fun _ _ => rfl) : PE X (.Subscript a b pos) (tOp r ta tb) := pe_ix hr ha hb hs
end
end L2
namespace L2
open PySem PySem.Spec PyProof.Rows
section
variable {X : Cx} {e : Expr} {ta : TE} {pos : Pos} {f : Str}
end
end L2
namespace L2
open PySem PySem.Spec PyProof.Rows
end L2
set_option Elab.async false
set_option linter.all false
set_option maxRecDepth 100000
namespace L2
open PySem
end L2
set_option Elab.async false
set_option linter.all false
set_option maxRecDepth 100000
namespace L2
open PySem PySem.Spec PyProof.Rows
def strConsts : List Expr → Option (List Str)
  | [] => some []
  | .Constant (.str x) _ _ :: r => (strConsts r).map (x :: ·)
  | _ => none
def tLstC (vs : List V) : TE := fun _ H Q => vs.length ≤ sizeLine ∧ ∀ p, H p = none → Q (.ref p) (upd H p (.lst vs))
theorem pa_strs {X : Cx} : ∀ {es : List Expr} {xs : List Str}, strConsts es = some xs → PA X es (fun _ H Q => Q (xs.map V.str) H)
  | [], xs, h => by
    cases h
    exact pa_nil
  | e :: r, xs, h => by
    cases e with
    | Constant c j pos =>
      cases c with
      | str x =>
        unfold strConsts at h
        cases q : strConsts r with
        | none => rw [q] at h; cases h
        | some ys =>
          rw [q] at h
          cases h
          exact pa_cons (X := X) pe_str (pa_strs q) rfl
      | _ => cases h
    | _ => cases h
theorem pe_lstS {X : Cx} {es : List Expr} {xs : List Str} {pos : Pos} (h : strConsts es = some xs := by rfl) : PE X (.List es pos) (tLstC (xs.map V.str)) := fun pins s σ H Q I hq => pe_lst (pa_strs h) pins s σ H Q I hq
theorem seq_rule {t u : TS} {D : Ends} {σ : St} {H : Hp} (h : ∀ N : St → Hp → Prop, (∀ σ' H', u D σ' H' → N σ' H') → t { D with nx := N } σ H) : tSeq t u D σ H := h _ fun _ _ z => z
theorem rd_inS {K : PySem.W.Frag} {H : Hp} {a : Addr} {ns : List Nm} {l : Nm} {neg : Bool} {Q : VK} (ha : SqL K H a (ns.map fun z => V.str (tx z))) (q : Q (.bl (if neg then !decide (l ∈ ns) else decide (l ∈ ns))) H) : rIn K neg (.str (tx l)) (.ref a) H Q := by
  refine ⟨a, _, rfl, .inl ha, rfl, ?_, ?_⟩
  · rw [List.all_eq_true]
    intro v hv
    obtain ⟨b, _, rfl⟩ := List.mem_map.mp hv
    rfl
  · have e : inV (.str (tx l)) (ns.map fun z => V.str (tx z)) = decide (l ∈ ns) := by
      unfold inV
      rw [Bool.eq_iff_iff, List.any_eq_true, decide_eq_true_eq]
      constructor
      · rintro ⟨v, hv, e⟩
        obtain ⟨b, hb, rfl⟩ := List.mem_map.mp hv
        have : tx b = tx l := by simpa [eqV] using e
        rw [← tx_inj.mp this]
        exact hb
      · intro h
        exact ⟨_, List.mem_map.mpr ⟨l, h, rfl⟩, by simp [eqV]⟩
    rw [e]
    exact q
end L2
set_option Elab.async false
set_option linter.all false
set_option maxRecDepth 100000
namespace L2
open PySem PySem.Spec PyProof.Rows
structure Bx (p : Prop) : Prop where
  un : p
theorem bpss_nil {X : Cx} : Bx (PSs X [] tNext) := ⟨pss_nil ⟩
theorem bpss_one {X : Cx} {st : Stmt} {t : TS} (h1 : Bx (PS X st t)) : Bx (PSs X [st] t) := ⟨pss_one h1.un⟩
theorem bpss_cons {X : Cx} {st : Stmt} {rest : List Stmt} {t u : TS} (h1 : Bx (PS X st t)) (h2 : Bx (PSs X rest u)) : Bx (PSs X (st :: rest) (tSeq t u)) := ⟨pss_cons h1.un h2.un⟩
theorem bps_set {X : Cx} {pos : Pos} {i : Nat} {x : Str} {e : Expr} {te : TE} {pos' : Pos} (hN : List.Nodup (Cx.N X)) (hi : (Cx.N X)[i]? = some x) (hx : L2.Loc (Env.scope (Cx.env X)) x) (he : Bx (PE X e te)) (hs : swapsWith e (some (Expr.Name x pos')) (Pos.line pos) (Cx.env X) = pure false := by rfl) (hf : Cx.fn X x = true ∨ List.lookup x (Scope.names (Env.scope (Cx.env X))) = some NameKind.local := by first | exact .inl rfl | exact .inr rfl | assumption) : Bx (PS X (Stmt.Assign [Expr.Name x pos'] e pos) (tAsg te (gName i))) := ⟨ps_set hN hi hx he.un hs hf⟩
theorem bps_if {X : Cx} {t u : TS} {pos : Pos} {c : Expr} {a b : List Stmt} {tc : TT} (hc : Bx (PT X c tc)) (ha : Bx (PSs X a t)) (hb : Bx (PSs X b u)) : Bx (PS X (Stmt.If c a b pos) (tIfS tc t u)) := ⟨ps_if hc.un ha.un hb.un⟩
theorem bps_ret {X : Cx} {e : Expr} {te : TE} {pos : Pos} (he : Bx (PE X e te)) : Bx (PS X (Stmt.Return (some e) pos) (tRet te)) := ⟨ps_ret he.un⟩
theorem bps_raise {X : Cx} {E : XK} {x : Str} {C : Addr} {e₀ : Expr} {te : TE} {np cpos pos : Pos} (T : XCls (Cx.K X) (Cx.mg X) x C) (hR : Raises X E) (hc : Cx.calm X = true) (he : Bx (PE X e₀ te)) (hg : Gl X x := by rfl) (hd : (x == Str.ofString "__debug__") = false := by decide) (hs : starEach [e₀] (Cx.env X) = [(false, eval e₀ (Cx.env X))] := by rfl) : Bx (PS X (Stmt.Raise (some (Expr.Call (Expr.Name x np) [e₀] [] cpos)) none pos) (tRaise E C te)) := ⟨ps_raise T hR hc he.un hg hd hs⟩
theorem bps_for {X : Cx} {tg iter : Expr} {body : List Stmt} {wi : TI} {g : TG} {tb : TS} {pos : Pos} (hp : PassesOwn (model (Cx.prog X) (Cx.w X)) (Cx.A X) (Cx.env X) (Cx.xe X)) (hc : Cx.calm X = true) (hi : Bx (PI X tg iter wi)) (hg : Bx (PG X tg g)) (hb : Bx (PSs X body tb)) (hs : ∀ (x : Value), foldedSetIterable iter (Cx.env X) x = pure x := by intro _; rfl) : Bx (PS X (Stmt.For tg iter body [] pos) (tFor wi g tb)) := ⟨ps_for hp hc hi.un hg.un hb.un hs⟩
theorem bps_expr {X : Cx} {e : Expr} {te : TE} {pos : Pos} (he : Bx (PE X e te)) (hs : swapsWith e none (Pos.line pos) (Cx.env X) = pure false := by rfl) : Bx (PS X (Stmt.Expr e pos) (tDrop te)) := ⟨ps_expr he.un hs⟩
theorem bps_tryS {X : Cx} {S : Addr} {cs : List Addr} {x n : Str} {i : Nat} {body : List Stmt} {b₀ : Stmt} {suite : List Stmt} {np hpos pos : Pos} {tb : TSX} {th : TS} (T : XSet (Cx.K X) S cs) (hg0 : Cx.mg X x = some (Value.ref S)) (hN : List.Nodup (Cx.N X)) (hi : (Cx.N X)[i]? = some n) (hl : List.lookup n (Scope.names (Env.scope (Cx.env X))) = some NameKind.local) (hst : Cx.stack X = Cx.env X :: Cx.outer X) (hf : Env.frame (Cx.env X) = some (Env.locals (Cx.env X))) (hb : Bx (PSX (CX1 (Cx.prog X) (Cx.w X)) X body tb)) (hh : ∀ (a : Addr), Bx (PSs (Cx.hdl X a) (b₀ :: suite) th)) (hg : Gl X x := by rfl) (hd : (x == Str.ofString "__debug__") = false := by decide) : Bx (PS X (Stmt.Try body [ExceptHandler.ExceptHandler (some (Expr.Name x np)) (some n) (b₀ :: suite) hpos] [] [] pos) (tTry (fun (x : Addr) => x ∈ cs) i tb th)) := ⟨ps_tryS T hg0 hN hi hl hst hf hb.un (fun y0 => (hh y0).un) hg hd⟩
theorem bpsx_one {X : Cx} {CX : CXT} {st : Stmt} {t : TSX} (h : Bx (PSX1 CX X st t)) : Bx (PSX CX X [st] t) := ⟨psx_one h.un⟩
theorem bpsx_set {X : Cx} {CX : CXT} {e : Expr} {pos : Pos} {te : XK → TE} {i : Nat} {x : Str} {pos' : Pos} (hN : List.Nodup (Cx.N X)) (hi : (Cx.N X)[i]? = some x) (hx : L2.Loc (Env.scope (Cx.env X)) x) (he : Bx (XE CX X e te)) (hs : swapsWith e (some (Expr.Name x pos')) (Pos.line pos) (Cx.env X) = pure false := by rfl) (hf : Cx.fn X x = true ∨ List.lookup x (Scope.names (Env.scope (Cx.env X))) = some NameKind.local := by first | exact .inl rfl | exact .inr rfl | assumption) : Bx (PSX1 CX X (Stmt.Assign [Expr.Name x pos'] e pos) fun (D : Ends) (EX : L2.St → XK) (σ : L2.St) (H : Hp) => te (EX σ) σ H fun (v : V) (H1 : Hp) => Ends.nx D (List.set σ i (some v)) H1) := ⟨psx_set hN hi hx he.un hs hf⟩
theorem bpsx_ret {X : Cx} {CX : CXT} {e : Expr} {pos : Pos} {te : XK → TE} (he : Bx (XE CX X e te)) : Bx (PSX1 CX X (Stmt.Return (some e) pos) fun (D : Ends) (EX : L2.St → XK) (σ : L2.St) (H : Hp) => te (EX σ) σ H (Ends.rt D)) := ⟨psx_ret he.un⟩
theorem bxe_fn {X : Cx} {P : Program} {w : World} {k : Nat} {f : Addr} {fd : FuncData} {ps : List Str} {sp : Sp} {x : Str} {st : Stmt} {p pos : Pos} {e : Expr} {es : List Expr} {t : TA} (D : DefOk (Cx.K X) (Cx.mg X) x st ps f fd) (F : FnOk (Cx.prog X) (Cx.w X) (Cx.K X) (Cx.mg X) (Cx.base X) (CX1 P w) k f fd ps sp) (hr : Room k (Cx.A X)) (ha : ∀ (xe : Value → Shared → Prop), Bx (PA (Cx.wish X xe) (e :: es) t)) (hg : Gl X x := by rfl) (hdb : (x == Str.ofString "__debug__") = false := by decide) (he : starEach (e :: es) (Cx.env X) = (false, eval e (Cx.env X)) :: starEach es (Cx.env X) := by rfl) (hpl : (List.any (backTo pos (starEach es (Cx.env X))) fun (x : Bool × Sem Value) => Prod.fst x) = false := by rfl) : Bx (XE (CX1 P w) X (Expr.Call (Expr.Name x p) (e :: es) [] pos) fun (E : XK) => tCall sp [] E t) := ⟨xe_fn D F hr (fun y0 => (ha y0).un) hg hdb he hpl⟩
theorem bpi_range1 {X : Cx} {tg a : Expr} {ta : TA} {p pos : Pos} (hg : Gl X (Str.ofString "range")) (hm : Cx.mg X (Str.ofString "range") = none) (ha : Bx (PA X [a] ta)) (hs : starEach [a] (Cx.env X) = [(false, eval a (Cx.env X))] := by rfl) : Bx (PI X tg (Expr.Call (Expr.Name (Str.ofString "range") p) [a] [] pos) (iRng1 ta)) := ⟨pi_range1 hg hm ha.un hs⟩
theorem bpi_str {X : Cx} {y : Str} {py : Pos} {e : Expr} {te : TE} (h : Bx (PE X e te)) : Bx (PI X (Expr.Name y py) e (iStr te)) := ⟨pi_str h.un⟩
theorem bpi_list {X : Cx} {tg l : Expr} {tl : TE} (hl : Bx (PE X l tl)) : Bx (PI X tg l (iList (Cx.K X) tl)) := ⟨pi_list hl.un⟩
theorem bpg_name {X : Cx} {pos : Pos} {i : Nat} {x : Str} (hN : List.Nodup (Cx.N X)) (hi : (Cx.N X)[i]? = some x) (hx : L2.Loc (Env.scope (Cx.env X)) x) (hf : Cx.fn X x = true ∨ List.lookup x (Scope.names (Env.scope (Cx.env X))) = some NameKind.local := by first | exact .inl rfl | exact .inr rfl | assumption) : Bx (PG X (Expr.Name x pos) (gName i)) := ⟨pg_name hN hi hx hf⟩
theorem bpe_comp {X : Cx} {x : Str} {px : Pos} {elt iter : Expr} {ifs : List Expr} {scope : Scope} {pos : Pos} {N : List Str} {fr : List Nat} {tt : TT} {te : TE} {wi : TI} (hc : Cx.calm X = true) (S : CSc scope (Env.scope (Cx.env X)) x N (Cx.N X) fr) (hi : Bx (PI X (Expr.Name x px) iter wi)) (ht : ∀ (cl : List (Str × Addr)) (C : Addr) (s₀ : Shared) (H₀ : Hp) (ex : List Addr), Bx (PTs (Cx.blk X scope cl C N s₀ H₀ ex) ifs tt)) (he : ∀ (cl : List (Str × Addr)) (C : Addr) (s₀ : Shared) (H₀ : Hp) (ex : List Addr), Bx (PE (Cx.blk X scope cl C N s₀ H₀ ex) elt te)) (hs : ∀ (v : Value), foldedSetIterable iter (Cx.env X) v = pure v := by intro _; rfl) : Bx (PE X (Expr.ListComp elt [{ target := Expr.Name x px, iter := iter, ifs := ifs, is_async := (0 : Int) }] scope pos) (tComp wi fr tt te)) := ⟨pe_comp hc S hi.un (fun y0 y1 y2 y3 y4 => (ht y0 y1 y2 y3 y4).un) (fun y0 y1 y2 y3 y4 => (he y0 y1 y2 y3 y4).un) hs⟩
theorem bpts_nil {X : Cx} : Bx (PTs X [] tYes) := ⟨pts_nil ⟩
theorem bpa_nil {X : Cx} : Bx (PA X [] tNil) := ⟨pa_nil ⟩
theorem bpa_cons {X : Cx} {e : Expr} {es : List Expr} {te : TE} {t : TA} (ha : Bx (PE X e te)) (hr : Bx (PA X es t)) (hs : starEach (e :: es) (Cx.env X) = (false, eval e (Cx.env X)) :: starEach es (Cx.env X) := by rfl) : Bx (PA X (e :: es) (tCons te t)) := ⟨pa_cons ha.un hr.un hs⟩
theorem bpt_cmpR {X : Cx} {a b : Expr} {ta tb : TE} {pos : Pos} {op : CmpOp} {r : R2} (ho : OpR X (compareOp op) r) (ha : Bx (PE X a ta)) (hb : Bx (PE X b tb)) (hm : behindInMarks op b = false) : Bx (PT X (Expr.Compare a [op] [b] pos) (tTest (tOp r ta tb))) := ⟨pt_cmpR ho ha.un hb.un hm⟩
theorem bpt_betw {X : Cx} {a b c : Expr} {ta tb : TE} {k : Int} {pos : Pos} (ha : Bx (PE X a ta)) (hb : Bx (PE X b tb)) (hc : Bx (PE X c (tC (V.int k)))) (hm : lastMarks [CmpOp.LtE, CmpOp.LtE] [b, c] = false := by with_unfolding_all rfl) : Bx (PT X (Expr.Compare a [CmpOp.LtE, CmpOp.LtE] [b, c] pos) (tBetwT ta tb k)) := ⟨pt_betw ha.un hb.un hc.un hm⟩
theorem bpw_and1 {X : Cx} {a : Expr} {pos : Pos} {tA : TT} (ha : Bx (PT X a tA)) : Bx (PW X (Expr.BoolOp BoolOp.And [a] pos) tA) := ⟨pw_and1 ha.un⟩
theorem bpw_and {X : Cx} {a b : Expr} {pos : Pos} {tA tB' : TT} {rest : List Expr} (ha : Bx (PT X a tA)) (hb : Bx (PW X (Expr.BoolOp BoolOp.And (b :: rest) pos) tB')) : Bx (PW X (Expr.BoolOp BoolOp.And (a :: b :: rest) pos) (tAnd tA tB')) := ⟨pw_and ha.un hb.un⟩
theorem bpw_or1 {X : Cx} {a : Expr} {pos : Pos} {tA : TT} (ha : Bx (PT X a tA)) : Bx (PW X (Expr.BoolOp BoolOp.Or [a] pos) tA) := ⟨pw_or1 ha.un⟩
theorem bpw_or {X : Cx} {a b : Expr} {pos : Pos} {tA tB' : TT} {rest : List Expr} (ha : Bx (PT X a tA)) (hb : Bx (PW X (Expr.BoolOp BoolOp.Or (b :: rest) pos) tB')) : Bx (PW X (Expr.BoolOp BoolOp.Or (a :: b :: rest) pos) (tOr tA tB')) := ⟨pw_or ha.un hb.un⟩
theorem bpt_not {X : Cx} {a : Expr} {pos : Pos} {tA : TT} (ha : Bx (PT X a tA)) : Bx (PT X (Expr.UnaryOp UnaryOp.Not a pos) (tNot tA)) := ⟨pt_not ha.un⟩
theorem bpt_val {X : Cx} {e : Expr} {t : TE} (h : Bx (PE X e t)) (he : ∀ whole, isTrue e X.env whole = (do let v ← whole; standAt e.pos; holding [v] (truthy v)) := by intro _; rfl) : Bx (PT X e (tB t)) := ⟨pt_val h.un he⟩
theorem bpe_cmpR {X : Cx} {a b : Expr} {ta tb : TE} {pos : Pos} {op : CmpOp} {r : R2} (ho : OpR X (compareOp op) r) (ha : Bx (PE X a ta)) (hb : Bx (PE X b tb)) (hm : behindInMarks op b = false) : Bx (PE X (Expr.Compare a [op] [b] pos) (tOp r ta tb)) := ⟨pe_cmpR ho ha.un hb.un hm⟩
theorem bpv {X : Cx} (i : Nat) {x : Str} {pos : Pos} (hN : (Cx.N X)[i]? = some x := by rfl) (hv : Vis (Env.scope (Cx.env X)) x := by first | exact Or.inl rfl | exact Or.inr (Or.inl rfl) | exact Or.inr (Or.inr rfl)) (hd : (x == Str.ofString "__debug__") = false := by decide) (hcd : (x == Str.ofString "__classdict__") = false := by decide) : Bx (PE X (Expr.Name x pos) (tVar i)) := ⟨pv i hN hv hd hcd⟩
theorem bpe_const {X : Cx} {x : Str} {v : V} {pos : Pos} (h : ∃ (u : Value), Cx.mg X x = some u ∧ L2.RelV v u) (hg : Gl X x := by rfl) (hd : (x == Str.ofString "__debug__") = false := by decide) : Bx (PE X (Expr.Name x pos) (tC v)) := ⟨pe_const h hg hd⟩
theorem bpe_cls {X : Cx} {x : Str} {C : Addr} {pos : Pos} (hm : Cx.mg X x = some (Value.ref C)) (hg : Gl X x := by rfl) (hd : (x == Str.ofString "__debug__") = false := by decide) : Bx (PE X (Expr.Name x pos) (tC (V.ref C))) := ⟨pe_cls hm hg hd⟩
theorem bpe_ty {X : Cx} {x : Str} {T : String} {pos : Pos} (hm : Cx.mg X x = none) (hv : bootBuiltins x = some (Value.type T)) (hg : Gl X x := by rfl) (hn : x ≠ Str.ofString "__name__" := by decide) (hd : (x == Str.ofString "__debug__") = false := by decide) : Bx (PE X (Expr.Name x pos) (tC (V.ty T))) := ⟨pe_ty hm hv hg hn hd⟩
theorem bpe_non {X : Cx} {j : Nat} {pos : Pos} : Bx (PE X (Expr.Constant Const.none j pos) (tC V.non)) := ⟨pe_non ⟩
theorem bpe_bl {X : Cx} {b : Bool} {j : Nat} {pos : Pos} : Bx (PE X (Expr.Constant (Const.bool b) j pos) (tC (V.bl b))) := ⟨pe_bl ⟩
theorem bpe_int {X : Cx} {i : Int} {j : Nat} {pos : Pos} : Bx (PE X (Expr.Constant (Const.int i) j pos) (tC (V.int i))) := ⟨pe_int ⟩
theorem bpe_str {X : Cx} {x : Str} {j : Nat} {pos : Pos} : Bx (PE X (Expr.Constant (Const.str x) j pos) (tC (V.str x))) := ⟨pe_str ⟩
theorem bpe_op {X : Cx} {a b : Expr} {ta tb : TE} {pos : Pos} {op : Operator} {r : R2} (ho : OpR X (binaryOp op) r) (ha : Bx (PE X a ta)) (hb : Bx (PE X b tb)) : Bx (PE X (Expr.BinOp a op b pos) (tOp r ta tb)) := ⟨pe_op ho ha.un hb.un⟩
theorem bpe_un {X : Cx} {a : Expr} {ta : TE} {pos : Pos} {op : UnaryOp} {r : V → Hp → VK → Prop} (ho : UnR X (unaryOp op) r) (ha : Bx (PE X a ta)) : Bx (PE X (Expr.UnaryOp op a pos) (tUn r ta)) := ⟨pe_un ho ha.un⟩
theorem bpe_betw {X : Cx} {a b c : Expr} {ta tb : TE} {k : Int} {pos : Pos} (ha : Bx (PE X a ta)) (hb : Bx (PE X b tb)) (hc : Bx (PE X c (tC (V.int k)))) (hm : lastMarks [CmpOp.LtE, CmpOp.LtE] [b, c] = false := by with_unfolding_all rfl) : Bx (PE X (Expr.Compare a [CmpOp.LtE, CmpOp.LtE] [b, c] pos) (tBetw ta tb k)) := ⟨pe_betw ha.un hb.un hc.un hm⟩
theorem bpe_one {X : Cx} {a : Expr} {pos : Pos} {op : BoolOp} {t : TE} (h : Bx (PE X a t)) : Bx (PE X (Expr.BoolOp op [a] pos) t) := ⟨pe_one h.un⟩
theorem bpe_and {X : Cx} {a b : Expr} {ta tb : TE} {pos : Pos} {rest : List Expr} (ha : Bx (PE X a ta)) (hb : Bx (PE X (Expr.BoolOp BoolOp.And (b :: rest) pos) tb)) : Bx (PE X (Expr.BoolOp BoolOp.And (a :: b :: rest) pos) (tAndV ta tb)) := ⟨pe_and ha.un hb.un⟩
theorem bpe_ifExp {X : Cx} {a b : Expr} {ta tb : TE} {pos : Pos} {tA : TT} {c : Expr} (hc : Bx (PT X c tA)) (ha : Bx (PE X a ta)) (hb : Bx (PE X b tb)) : Bx (PE X (Expr.IfExp c a b pos) (tIf tA ta tb)) := ⟨pe_ifExp hc.un ha.un hb.un⟩
theorem bpe_slice {X : Cx} {e : Expr} {te : TE} {lo hi : Option Expr} {tl th : TO} {pos p2 : Pos} {r : V → Option Int → Option Int → Hp → VK → Prop} (hr : SlR X r) (he : Bx (PE X e te)) (hl : Bx (PO X lo tl)) (hu : Bx (PO X hi th)) : Bx (PE X (Expr.Subscript e (Expr.Slice lo hi none p2) pos) (tSl r te tl th)) := ⟨pe_slice hr he.un hl.un hu.un⟩
theorem bpo_none {X : Cx} : Bx (PO X none tNoPart) := ⟨po_none ⟩
theorem bpo_some {X : Cx} {e : Expr} {te : TE} (h : Bx (PE X e te)) : Bx (PO X (some e) (tPart te)) := ⟨po_some h.un⟩
theorem bpe_ixA {X : Cx} {a b : Expr} {ta tb : TE} {pos : Pos} {r : R2} (hr : IxR X r) (ha : Bx (PE X a ta)) (hb : Bx (PE X b tb)) (hs : PlainIx b := by exact fun _ _ => rfl) : Bx (PE X (Expr.Subscript a b pos) (tOp r ta tb)) := ⟨pe_ixA hr ha.un hb.un hs⟩
theorem bpe_lst {X : Cx} {es : List Expr} {t : TA} {pos : Pos} (h : Bx (PA X es t)) : Bx (PE X (Expr.List es pos) (tLst t)) := ⟨pe_lst h.un⟩
theorem bpe_lstS {X : Cx} {es : List Expr} {xs : List Str} {pos : Pos} (h : strConsts es = some xs := by rfl) : Bx (PE X (Expr.List es pos) (tLstC (List.map V.str xs))) := ⟨pe_lstS h⟩
theorem bpe_tup {X : Cx} {es : List Expr} {t : TA} {pos : Pos} {x1 : Nat} (h : Bx (PA X es t)) : Bx (PE X (Expr.Tuple es x1 pos) (tTup t)) := ⟨pe_tup h.un⟩
theorem bpe_fnx {X : Cx} {P : Program} {w : World} {k : Nat} {f : Addr} {fd : FuncData} {ps : List Str} {sp : Sp} {E : XK} {x : Str} {st : Stmt} {p pos : Pos} {e : Expr} {es : List Expr} {t : TA} (D : DefOk (Cx.K X) (Cx.mg X) x st ps f fd) (F : FnOk (Cx.prog X) (Cx.w X) (Cx.K X) (Cx.mg X) (Cx.base X) (CX1 P w) k f fd ps sp) (hr : Room k (Cx.A X)) (hx : Passes (CX1 P w) X E) (ha : Bx (PA X (e :: es) t)) (hg : Gl X x := by rfl) (hdb : (x == Str.ofString "__debug__") = false := by decide) (he : starEach (e :: es) (Cx.env X) = (false, eval e (Cx.env X)) :: starEach es (Cx.env X) := by rfl) (hpl : (List.any (backTo pos (starEach es (Cx.env X))) fun (x : Bool × Sem Value) => Prod.fst x) = false := by rfl) : Bx (PE X (Expr.Call (Expr.Name x p) (e :: es) [] pos) (tCall sp [] E t)) := ⟨pe_fnx D F hr hx ha.un hg hdb he hpl⟩
theorem bpe_callB {X : Cx} {x : Str} {p pos : Pos} {e : Expr} {es : List Expr} {t : TA} {id : String} {r : List V → Hp → VK → Prop} (hc : CallR X (Value.builtin id) r) (hg : Gl X x) (hm : Cx.mg X x = none) (hv : bootBuiltins x = some (Value.builtin id)) (ha : Bx (PA X (e :: es) t)) (hn : x ≠ Str.ofString "__name__" := by decide) (hdb : (x == Str.ofString "__debug__") = false := by decide) (he : starEach (e :: es) (Cx.env X) = (false, eval e (Cx.env X)) :: starEach es (Cx.env X) := by rfl) (hpl : (List.any (backTo pos (starEach es (Cx.env X))) fun (x : Bool × Sem Value) => Prod.fst x) = false := by rfl) : Bx (PE X (Expr.Call (Expr.Name x p) (e :: es) [] pos) (tCB r t)) := ⟨pe_callB hc hg hm hv ha.un hn hdb he hpl⟩
theorem bpe_callTy {X : Cx} {x : Str} {p pos : Pos} {e : Expr} {es : List Expr} {t : TA} {T : String} {r : List V → Hp → VK → Prop} (hc : CallR X (Value.type T) r) (hg : Gl X x) (hm : Cx.mg X x = none) (hv : bootBuiltins x = some (Value.type T)) (ha : Bx (PA X (e :: es) t)) (hn : x ≠ Str.ofString "__name__" := by decide) (hdb : (x == Str.ofString "__debug__") = false := by decide) (he : starEach (e :: es) (Cx.env X) = (false, eval e (Cx.env X)) :: starEach es (Cx.env X) := by rfl) (hpl : (List.any (backTo pos (starEach es (Cx.env X))) fun (x : Bool × Sem Value) => Prod.fst x) = false := by rfl) : Bx (PE X (Expr.Call (Expr.Name x p) (e :: es) [] pos) (tCB r t)) := ⟨pe_callTy hc hg hm hv ha.un hn hdb he hpl⟩
theorem bpe_bm {X : Cx} {o e : Expr} {es : List Expr} {to : TE} {t : TA} {name : Str} {apos cpos : Pos} {T id : String} {r : V → List V → Hp → VK → Prop} (pa : PlainAttrs T) (slot : Slot T name id) (hty : typeOf (.builtin id) = pure (.type "method_descriptor")) (hm : MtR X id r) (ho : Bx (PE X o to)) (ha : Bx (PA X (e :: es) t))
    (hbase : attributeBase o name X.env (eval o X.env) = eval o X.env := by rfl)
    (hfew : ((backTo cpos (starEach (e :: es) X.env)).all (fun x => !x.1) && (backToKw cpos (keywordEach [] X.env)).all (fun x => x.1.isSome) && decide ((e :: es).length + ([] : List Keyword).length + (if ([] : List Keyword).isEmpty then 0 else 1) < 30)) = true := by rfl)
    (hline : (apos.endLine == cpos.line) = true := by rfl) (hs : starEach (e :: es) X.env = (false, eval e X.env) :: starEach es X.env := by rfl) (hplain : (backTo cpos (starEach es X.env)).any (·.1) = false := by rfl) :
    Bx (PE X (.Call (.Attribute o name apos) (e :: es) [] cpos) (tBM X.K T r to t)) := ⟨pe_bm pa slot hty hm ho.un ha.un hbase hfew hline hs hplain⟩
theorem Bx.bpt {X : Cx} {e : Expr} {t : TT} (h : Bx (PW X e t)) : Bx (PT X e t) := ⟨PW.pt h.un⟩
end L2
set_option Elab.async false
set_option linter.all false
set_option maxRecDepth 100000
namespace L2
open PySem PySem.Spec PyProof.Rows
theorem tyV_str {K : PySem.W.Frag} {z : Str} {H : Hp} : tyV K "str" (.str z) H = True := eq_true rfl
theorem tyV_lst {K : PySem.W.Frag} {p : Addr} {H : Hp} {xs : List V} (h : SqL K H p xs) : tyV K "list" (.ref p) H := .inl ⟨rfl, xs, h⟩
theorem ite_T {A B : Prop} {c : Prop} [Decidable c] (hc : c) (h : A) : if c then A else B := by rw [if_pos hc]; exact h
theorem ite_F {A B : Prop} {c : Prop} [Decidable c] (hc : ¬ c) (h : B) : if c then A else B := by rw [if_neg hc]; exact h
end L2
namespace L2
open PySem PySem.Spec PyProof.Rows
end L2
set_option Elab.async false
set_option linter.all false
set_option maxRecDepth 100000
namespace L2
open PySem PySem.Spec PyProof.Rows
section
variable {prog : Program} {w : World} {A : Around} {E : Value → Shared → Prop} {s : Shared} {a₀ : Array Keyed} {κ : PyProof.Rows.KeyKind}
end
end L2
namespace L2
open PySem PySem.Spec PyProof.Rows
section
variable {prog : Program} {w : World} {A : Around} {E : Value → Shared → Prop} {s : Shared}
end
end L2
set_option Elab.async false
set_option linter.all false
set_option maxRecDepth 100000
namespace L2
open PySem PySem.Spec PyProof.Rows PySem.Builtin PySem.Builtin.Str
section
variable {X : Cx}
end
section
variable {X : Cx} {st : Stmt} {rest : List Stmt} {t u : TS} {e : Expr} {es : List Expr} {te : TE} {ta : TA}
end
end L2
namespace L2
open PySem PySem.Spec PyProof.Rows
section
variable {X : Cx} {st : Stmt} {rest : List Stmt} {t u : TS} {e : Expr} {es : List Expr} {te : TE} {ta : TA}
end
end L2
namespace L2
end L2
set_option Elab.async false
set_option linter.all false
set_option maxRecDepth 100000
namespace L2
open PySem PySem.Spec PyProof.Rows
section
variable {X : Cx}
theorem bps_while {c : Expr} {body : List Stmt} {tc : TT} {tb : TS} {pos : Pos} (hp : PassesOwn (model X.prog X.w) X.A X.env X.xe) (hc : Bx (PT X c tc)) (hb : Bx (PSs X body tb)) : Bx (PS X (.While c body [] pos) (tWhile tc tb)) := ⟨ps_while hp hc.un hb.un⟩
end
structure Mrk where
  nm : List Nat
  back : Bool
  sg : List Nat
  num : Int
def markC : List Nat := [109, 97, 114, 107]
def mkV (m : Mrk) : List V := [.str (tx markC), .str (tx m.nm), .bl m.back, .str (tx m.sg), .int m.num]
end L2
namespace L2
open PySem PySem.Spec PyProof.Rows
inductive All2 {α β : Type} (R : α → β → Prop) : List α → List β → Prop
  | nil : All2 R [] []
  | cons {a : α} {b : β} {as : List α} {bs : List β} : R a b → All2 R as bs → All2 R (a :: as) (b :: bs)
theorem All2.imp {α β : Type} {R S : α → β → Prop} (h : ∀ a b, R a b → S a b) : ∀ {as : List α} {bs : List β}, All2 R as bs → All2 S as bs
  | _, _, .nil => .nil
  | _, _, .cons r t => .cons (h _ _ r) (t.imp h)
theorem All2.snoc {α β : Type} {R : α → β → Prop} {a : α} {b : β} (r : R a b) : ∀ {as : List α} {bs : List β}, All2 R as bs → All2 R (as ++ [a]) (bs ++ [b])
  | _, _, .nil => .cons r .nil
  | _, _, .cons r' t => .cons r' (t.snoc r)
theorem All2.len {α β : Type} {R : α → β → Prop} : ∀ {as : List α} {bs : List β}, All2 R as bs → as.length = bs.length
  | _, _, .nil => rfl
  | _, _, .cons _ t => by simp [t.len]
theorem rd_ixT {K : PySem.W.Frag} {H : Hp} {a : Addr} {xs : List V} {i : Int} {v : V} {Q : VK} (h : H a = some (.tup xs)) (e : atI xs i = some v) (q : Q v H) : rIxT K (.ref a) (.int i) H Q := ⟨a, xs, i, v, rfl, rfl, SqT.of h, e, q⟩
theorem All2.zip {α β : Type} {R : α → β → Prop} : ∀ {as : List α} {bs : List β}, All2 R as bs → ∀ c ∈ as.zip bs, R c.1 c.2
  | _, _, .nil, c, h => nomatch h
  | _, _, .cons r t, c, h => by
    rcases List.mem_cons.mp h with rfl | h
    · exact r
    · exact t.zip c h
theorem step_upd {H H1 : Hp} {st : Addr} {xs : List V} {o : HO} (s : Same H H1) (e : H st = Option.some (.lst xs)) : Step H [st] (upd H1 st o) [st] := by
  refine ⟨fun b u hb h => ?_, fun b h => .inl h, fun b ys h => ?_⟩
  · rw [upd_ne (fun z => hb (by rw [z]; exact List.mem_singleton.mpr rfl))]
    exact s _ _ h
  · rw [upd_ne (fun z => by rw [z, e] at h; cases h)]
    exact s _ _ h
end L2
set_option Elab.async false
set_option linter.all false
set_option maxRecDepth 100000
namespace L2
open PySem PySem.Spec PyProof.Rows PySem.Builtin PySem.Builtin.Str
def firstAt (c : Nat) : List Nat → Option Nat
  | [] => none
  | a :: r => if a = c then some 0 else (firstAt c r).map (· + 1)
theorem firstAt_none {c : Nat} : ∀ {l : List Nat}, (∀ k : Nat, l[k]? ≠ some c) → firstAt c l = none
  | [], _ => rfl
  | a :: r, h => by
    have h0 := h 0
    have ih := firstAt_none (c := c) (l := r) fun k => by simpa using h (k + 1)
    unfold firstAt
    rw [if_neg (fun z => h0 (by rw [z]; rfl)), ih]
    rfl
theorem firstAt_some {c : Nat} : ∀ {l : List Nat} {j : Nat}, l[j]? = some c → (∀ k, k < j → l[k]? ≠ some c) → firstAt c l = some j
  | [], j, h, _ => by simp at h
  | a :: r, 0, h, _ => by
    unfold firstAt
    rw [if_pos (by simpa using h)]
  | a :: r, j + 1, h, hk => by
    have h0 := hk 0 (by omega)
    have ih := firstAt_some (c := c) (l := r) (j := j) (by simpa using h) fun k hk' => by simpa using hk (k + 1) (by omega)
    unfold firstAt
    rw [if_neg (fun z => h0 (by rw [z]; rfl)), ih]
    rfl
def findV (c : Nat) (l : List Nat) (i : Nat) : Int := match firstAt c (l.drop i) with | some j => ((i + j : Nat) : Int) | none => -1
theorem from_nat (l : List Nat) (i : Nat) : fromIndex (tx l).length (i : Int) = i := by
  unfold fromIndex
  rw [if_neg (by omega)]
  omega
theorem occ_find (c : Nat) (l : List Nat) (i : Nat) : (match occurrences (tx l) ⟨#[c]⟩ i (tx l).length 1 with | k :: _ => (k : Int) | [] => -1) = findV c l i := by
  have at_ : ∀ k, StrLaws.At (tx l) ⟨#[c]⟩ (tx l).length k ↔ l[k]? = some c := fun k => by
    have := StrLaws.subAt_one (tx l) c k
    rw [tx_list] at this
    exact this
  unfold findV
  rcases StrLaws.occ_head_from (tx l) ⟨#[c]⟩ i 1 (Nat.le_refl 1) with ⟨h0, hn⟩ | ⟨k, r, h0, hlo, hk, hn⟩
  · rw [h0, firstAt_none (fun j z => hn (i + j) (by omega) ((at_ _).mpr (by rw [List.getElem?_drop] at z; exact z)))]
  · rw [h0, firstAt_some (j := k - i) (by rw [List.getElem?_drop, show i + (k - i) = k by omega]; exact (at_ k).mp hk) (fun j hj z => hn (i + j) (by omega) (by omega) ((at_ _).mpr (by rw [List.getElem?_drop] at z; exact z)))]
    simp only
    omega
section
variable {X : Cx}
def rStartsF : V → List V → Hp → VK → Prop := fun x xs H Q => ∃ (l : List Nat) (c i : Nat), x = .str (tx l) ∧ xs = [.str (tx [c]), .int (i : Int)] ∧ Q (.bl (decide (l[i]? = some c))) H
theorem mt_startsF : MtR X "str.startswith" rStartsF := by
  intro pins s σ H x xs v us Q I rx rs h
  obtain ⟨l, c, i, rfl, rfl, q⟩ := h
  obtain ⟨t, rfl⟩ := rx
  obtain ⟨u1, u2, rfl, ⟨t1, rfl⟩, ⟨t2, rfl⟩⟩ := rs.two
  refine call_gives F.slot_str_startswith (typeIs_str _ _ _) F.entry_str_startswith (F.args_str_startswith_3 _ _ _) (gives_str_startswith_from (tx l) (tx [c]) i t t1 t2) ?_
  have e : (decide (fromIndex (tx l).length (i : Int) + (tx [c]).length ≤ (tx l).length) && subAt (tx l) (tx [c]) (fromIndex (tx l).length (i : Int))) = decide (l[i]? = some c) := by
    rw [from_nat]
    have := StrLaws.subAt_one (tx l) c i
    rw [tx_list] at this
    rw [Bool.eq_iff_iff, Bool.and_eq_true, decide_eq_true_eq, decide_eq_true_eq]
    exact this
  show EP X pins σ Q (.bool _) _
  rw [e]
  exact ⟨.bl _, H, I, rfl, q⟩
def rFindF : V → List V → Hp → VK → Prop := fun x xs H Q => ∃ (l : List Nat) (c i : Nat), x = .str (tx l) ∧ xs = [.str (tx [c]), .int (i : Int)] ∧ Q (.int (findV c l i)) H
theorem mt_findF : MtR X "str.find" rFindF := by
  intro pins s σ H x xs v us Q I rx rs h
  obtain ⟨l, c, i, rfl, rfl, q⟩ := h
  obtain ⟨t, rfl⟩ := rx
  obtain ⟨u1, u2, rfl, ⟨t1, rfl⟩, ⟨t2, rfl⟩⟩ := rs.two
  refine call_gives F.slot_str_find (typeIs_str _ _ _) F.entry_str_find (F.args_str_find_3 _ _ _) (gives_str_find_from (tx l) (tx [c]) i t t1 t2) ?_
  rw [from_nat]
  have e := occ_find c l i
  cases q2 : occurrences (tx l) (tx [c]) i (tx l).length 1 with
  | nil =>
    rw [show occurrences (tx l) ⟨#[c]⟩ i (tx l).length 1 = [] from q2] at e
    rw [← e] at q
    exact ⟨.int _, H, I.tok _, ⟨_, rfl⟩, q⟩
  | cons k r =>
    rw [show occurrences (tx l) ⟨#[c]⟩ i (tx l).length 1 = k :: r from q2] at e
    rw [← e] at q
    exact ⟨.int _, H, I.tok _, ⟨_, rfl⟩, q⟩
def partC (c : Nat) (l : List Nat) : List Nat × List Nat × List Nat := match firstAt c l with | some j => (l.take j, [c], l.drop (j + 1)) | none => (l, [], [])
theorem sub_tx (l : List Nat) (i j : Nat) (h : j ≤ l.length) : strSub (tx l) i j = tx ((l.drop i).take (j - i)) := by
  unfold strSub
  show (⟨l.toArray.extract i j⟩ : Str) = _
  congr 1
  simp
def rPartition : V → List V → Hp → VK → Prop := fun x xs H Q => ∃ (l : List Nat) (c : Nat), x = .str (tx l) ∧ xs = [.str (tx [c])] ∧ l.length ≤ sizeLine ∧ ∀ p, H p = none → Q (.ref p) (upd H p (.tup [.str (tx (partC c l).1), .str (tx (partC c l).2.1), .str (tx (partC c l).2.2)]))
theorem mt_partition : MtR X "str.partition" rPartition := by
  intro pins s σ H x xs v us Q I rx rs h
  obtain ⟨l, c, rfl, rfl, hz, q⟩ := h
  obtain ⟨t, rfl⟩ := rx
  obtain ⟨u, rfl, t1, rfl⟩ := rs.one
  refine call_meets F.slot_str_partition (typeIs_str _ _ _) F.entry_str_partition (F.args_str_partition_2 _ _) (meets_str_partition (tx l) ⟨#[c]⟩ t t1 rfl (by rw [tx_len]; exact hz)) ?_
  have fin : ∀ (a b d : List Nat) (ta tb td : Tok) (k : Nat), partC c l = (a, b, d) → EP X pins σ Q (.ref s.heap.objs.size) { s with heap := s.heap.push { cls := .type "tuple", data := .seq [.str (tx a) ta, .str (tx b) tb, .str (tx d) td].toArray }, toks := k } := fun a b d ta tb td k e => by
    rw [e] at q
    refine ⟨.ref s.heap.objs.size, _, I.laid (fun b o e => Heap.get?_push_of_some _ e) (Nat.le_refl _) ?_, rfl, q _ (I.hok.fresh (Nat.le_refl _))⟩
    exact ⟨by show 3 ≤ sizeLine; decide, _, .cons ⟨_, rfl⟩ (.cons ⟨_, rfl⟩ (.cons ⟨_, rfl⟩ .nil)), IsTup.new _ _⟩
  have e := occ_find c l 0
  unfold findV at e
  rw [List.drop_zero] at e
  cases q1 : firstAt c l with
  | none =>
    rw [q1] at e
    cases q2 : occurrences (tx l) ⟨#[c]⟩ 0 (tx l).length 1 with
    | nil => exact fin l [] [] t s.toks s.toks _ (by unfold partC; rw [q1])
    | cons i r =>
      rw [q2] at e
      simp only at e
      omega
  | some j =>
    rw [q1] at e
    cases q2 : occurrences (tx l) ⟨#[c]⟩ 0 (tx l).length 1 with
    | nil =>
      rw [q2] at e
      simp only at e
      omega
    | cons i r =>
      rw [q2] at e
      simp only at e
      obtain rfl : i = j := by omega
      have hi : i < l.length := by
        rcases StrLaws.occ_head_from (tx l) ⟨#[c]⟩ 0 1 (Nat.le_refl 1) with ⟨h0, _⟩ | ⟨k, r', h0, _, hk, _⟩
        · rw [q2] at h0
          cases h0
        · rw [q2] at h0
          obtain ⟨rfl, _⟩ := List.cons.inj h0
          have h1 : i + 1 ≤ (tx l).length := hk.1
          rw [tx_len] at h1
          omega
      have := fin (l.take i) [c] (l.drop (i + 1)) s.toks t1 (s.toks + 1) (s.toks + 1 + 1) (by unfold partC; rw [q1])
      have e1 : strSub (tx l) 0 i = tx (l.take i) := by
        rw [sub_tx l 0 i (by omega), List.drop_zero, Nat.sub_zero]
      have e2 : strSub (tx l) (i + (⟨#[c]⟩ : Str).length) (tx l).length = tx (l.drop (i + 1)) := by
        show strSub (tx l) (i + 1) (tx l).length = _
        rw [tx_len, sub_tx l (i + 1) l.length (Nat.le_refl _), List.take_of_length_le (by rw [List.length_drop]; omega)]
      show EP X pins σ Q (.ref s.heap.objs.size) { s with toks := s.toks + 1 + 1, heap := s.heap.push { cls := .type "tuple", data := .seq [.str (strSub (tx l) 0 i) s.toks, .str ⟨#[c]⟩ t1, .str (strSub (tx l) (i + (⟨#[c]⟩ : Str).length) (tx l).length) (s.toks + 1)].toArray } }
      rw [e1, e2]
      exact this
def rMid : V → Option Int → Option Int → Hp → VK → Prop := fun x lo hi H Q => ∃ (l : List Nat) (i j : Nat), x = .str (tx l) ∧ lo = some (i : Int) ∧ hi = some (j : Int) ∧ i ≤ j ∧ j ≤ l.length ∧ l.length ≤ sizeLine ∧ Q (.str (tx ((l.drop i).take (j - i)))) H
theorem sl_mid : SlR X rMid := by
  intro pins s σ H x v vl vu lo hi sl Q I rx hs pl pu h
  obtain ⟨l, i, j, rfl, rfl, rfl, hij, hj, hz, q⟩ := h
  obtain ⟨t, rfl⟩ := rx
  refine ⟨"str", _, PySem.F.slot_str_getitem.lookup, typeIs_str _ _ _, ?_⟩
  cases pl with
  | int _ u1 =>
    cases pu with
    | int _ u2 =>
      have hzz : (tx l).length ≤ sizeLine := by rw [tx_len]; exact hz
      refine wpAny_getItem_str_slice (l := some ((i : Int), u1)) (u := some ((j : Int), u2)) (st := none) hs rfl (post_val_or_str ⟨Nat.le_trans (Txt.slice_le (tx l) _ _) hzz, fun t' k => ?_⟩)
      refine ⟨.str (tx ((l.drop i).take (j - i))), H, I.tok _, ⟨t', ?_⟩, q⟩
      have e := StrLaws.sliceText_nat (tx l) hij (by rw [tx_len]; exact hj)
      rw [tx_list] at e
      exact congrArg (fun z => Value.str z t') e
def rInner : V → Option Int → Option Int → Hp → VK → Prop := fun x lo hi H Q => ∃ l : List Nat, x = .str (tx l) ∧ lo = some 1 ∧ hi = some (-1) ∧ 2 ≤ l.length ∧ l.length ≤ sizeLine ∧ Q (.str (tx ((l.drop 1).take (l.length - 2)))) H
theorem sl_inner : SlR X rInner := by
  intro pins s σ H x v vl vu lo hi sl Q I rx hs pl pu h
  obtain ⟨l, rfl, rfl, rfl, h2, hz, q⟩ := h
  obtain ⟨t, rfl⟩ := rx
  refine ⟨"str", _, PySem.F.slot_str_getitem.lookup, typeIs_str _ _ _, ?_⟩
  cases pl with
  | int _ u1 =>
    cases pu with
    | int _ u2 =>
      have hzz : (tx l).length ≤ sizeLine := by rw [tx_len]; exact hz
      refine wpAny_getItem_str_slice (l := some ((1 : Int), u1)) (u := some ((-1 : Int), u2)) (st := none) hs rfl (post_val_or_str ⟨Nat.le_trans (Txt.slice_le (tx l) _ _) hzz, fun t' k => ?_⟩)
      refine ⟨.str (tx ((l.drop 1).take (l.length - 2))), H, I.tok _, ⟨t', ?_⟩, q⟩
      have e0 := StrLaws.sliceText_neg_hi (tx l) (some (1 : Int)) (j := -1) (by decide) (by rw [tx_len]; omega)
      have e := StrLaws.sliceText_nat (tx l) (a := 1) (b := l.length - 1) (by omega) (by rw [tx_len]; omega)
      rw [tx_list, show l.length - 1 - 1 = l.length - 2 by omega] at e
      rw [show (-1 : Int) + ((tx l).length : Nat) = ((l.length - 1 : Nat) : Int) by rw [tx_len]; omega] at e0
      exact congrArg (fun z => Value.str z t') (e0.trans e)
end
end L2
namespace L2
open PySem PySem.Spec PyProof.Rows
theorem rd_startsF {l : List Nat} {c i : Nat} {H : Hp} {Q : VK} (q : Q (.bl (decide (l[i]? = some c))) H) : rStartsF (.str (tx l)) [.str (tx [c]), .int (i : Int)] H Q := ⟨l, c, i, rfl, rfl, q⟩
theorem rd_findF {l : List Nat} {c i : Nat} {H : Hp} {Q : VK} (q : Q (.int (findV c l i)) H) : rFindF (.str (tx l)) [.str (tx [c]), .int (i : Int)] H Q := ⟨l, c, i, rfl, rfl, q⟩
theorem rd_partition {l : List Nat} {c : Nat} {H : Hp} {Q : VK} (hz : l.length ≤ sizeLine) (q : ∀ p, H p = none → Q (.ref p) (upd H p (.tup [.str (tx (partC c l).1), .str (tx (partC c l).2.1), .str (tx (partC c l).2.2)]))) : rPartition (.str (tx l)) [.str (tx [c])] H Q := ⟨l, c, rfl, rfl, hz, q⟩
theorem rd_inT {K : PySem.W.Frag} {H : Hp} {a : Addr} {ns : List Nm} {l : Nm} {neg : Bool} {Q : VK} (ha : SqT K H a (ns.map fun z => V.str (tx z))) (q : Q (.bl (if neg then !decide (l ∈ ns) else decide (l ∈ ns))) H) : rIn K neg (.str (tx l)) (.ref a) H Q := by
  refine ⟨a, _, rfl, .inr ha, rfl, ?_, ?_⟩
  · rw [List.all_eq_true]
    intro v hv
    obtain ⟨b, _, rfl⟩ := List.mem_map.mp hv
    rfl
  · have e : inV (.str (tx l)) (ns.map fun z => V.str (tx z)) = decide (l ∈ ns) := by
      unfold inV
      rw [Bool.eq_iff_iff, List.any_eq_true, decide_eq_true_eq]
      constructor
      · rintro ⟨v, hv, e⟩
        obtain ⟨b, hb, rfl⟩ := List.mem_map.mp hv
        have : tx b = tx l := by simpa [eqV] using e
        rw [← tx_inj.mp this]
        exact hb
      · intro h
        exact ⟨_, List.mem_map.mpr ⟨l, h, rfl⟩, by simp [eqV]⟩
    rw [e]
    exact q
def singles : List Nat := [46, 124, 42, 43, 63, 40, 41]
def isL (c : Nat) : Bool := decide (c ∈ abc)
def nameLen (r : List Nat) : Nat := if r.head? = some 95 then 1 else (r.takeWhile isL).length
def condLen (r : List Nat) : Option Nat := if r.head? = some 91 then (firstAt 93 r).map (· + 1) else some 0
def pieceLen (r : List Nat) : Option Nat := match r with
  | [] => none
  | c :: _ => if c ∈ singles then some 1 else (condLen (r.drop ((if c = 60 then 1 else 0) + nameLen (r.drop (if c = 60 then 1 else 0))))).map (((if c = 60 then 1 else 0) + nameLen (r.drop (if c = 60 then 1 else 0))) + ·)
structure MrkW (m : Mrk) : Prop where
  nm : m.nm = [95] ∨ (1 ≤ m.nm.length ∧ m.nm.length ≤ 12 ∧ ∀ x ∈ m.nm, x ∈ abc)
  sg : m.sg ∈ [[], [60], [62], [61], [33]]
  num : m.num.natAbs < 10 ^ 60
  non : m.sg = [] → m.num = 0
def condC (m : Mrk) : List Nat := if m.sg = [] then [] else 91 :: (m.sg ++ numC m.num ++ [93])
def markT (m : Mrk) : List Nat := (if m.back = true then [60] else []) ++ (m.nm ++ condC m)
inductive Pc where
  | sign (c : Nat)
  | mark (m : Mrk)
def Pc.shown : Pc → List Nat
  | .sign c => [c]
  | .mark m => markT m
def PcW : Pc → Prop
  | .sign c => c ∈ singles
  | .mark m => MrkW m
theorem nm_ne {m : Mrk} (w : MrkW m) : ∃ c r, m.nm = c :: r ∧ (c = 95 ∨ c ∈ abc) := by
  rcases w.nm with e | ⟨h1, _, h2⟩
  · exact ⟨95, [], e, .inl rfl⟩
  · cases q : m.nm with
    | nil => rw [q] at h1; simp at h1
    | cons c r => exact ⟨c, r, rfl, .inr (h2 c (by rw [q]; exact List.mem_cons_self))⟩
theorem firstAt_app {c : Nat} : ∀ {a : List Nat} {r : List Nat}, c ∉ a → firstAt c (a ++ c :: r) = some a.length
  | [], r, _ => by simp [firstAt]
  | x :: a, r, h => by
    have ih := firstAt_app (c := c) (a := a) (r := r) fun z => h (List.mem_cons_of_mem _ z)
    rw [List.cons_append]
    unfold firstAt
    rw [if_neg (fun z => h (by rw [z]; exact List.mem_cons_self)), ih]
    rfl
theorem firstAt_not {c : Nat} : ∀ {a : List Nat}, c ∉ a → firstAt c a = none
  | [], _ => rfl
  | x :: a, h => by
    have ih := firstAt_not (c := c) (a := a) fun z => h (List.mem_cons_of_mem _ z)
    show (if x = c then _ else _) = _
    rw [if_neg (fun z => h (by rw [z]; exact List.mem_cons_self)), ih]
    rfl
theorem kit_ts (K : PySem.W.Frag) : PySem.W.kitOne K (.type "tuple") (.type "str") = some false := by rfl
theorem zip_snd {α β : Type} : ∀ {as : List α} {bs : List β}, as.length = bs.length → (as.zip bs).map (·.2) = bs
  | [], [], _ => rfl
  | a :: as, b :: bs, h => by
    have := zip_snd (as := as) (bs := bs) (by simpa using h)
    simp [this]
theorem zip_fst {α β γ : Type} {f : α → γ} : ∀ {as : List α} {bs : List β}, as.length = bs.length → (as.zip bs).map (fun c => f c.1) = as.map f
  | [], [], _ => rfl
  | a :: as, b :: bs, h => by
    have := zip_fst (f := f) (as := as) (bs := bs) (by simpa using h)
    simp [this]
end L2
set_option Elab.async false
set_option linter.all false
set_option maxRecDepth 100000
namespace L2
open PySem PySem.Spec PyProof.Rows
@[reducible] def intK : PyProof.Rows.KeyKind where
  α := Int
  blt a b := decide (a < b)
  irrefl a := by simp
  trans a b c h1 h2 := by simp only [decide_eq_true_eq] at *; omega
  negTrans a b c h := by
    simp only [decide_eq_true_eq] at *
    omega
  total a b h1 h2 := by simp only [decide_eq_false_iff_not] at *; omega
  keyOf v := match v with | .int x _ => some x | _ => none
  dflt := 0
section
variable {X : Cx}
end
end L2
set_option Elab.async false
set_option linter.all false
set_option maxRecDepth 100000
namespace L2
open PySem PySem.Spec PyProof.Rows
section
variable {P : Program} {w : World} {K : PySem.W.Frag} {mg : Str → Option Value} {base : Heap}
end
section
variable {X : Cx} {P : Program} {w : World} {k : Nat} {f C : Addr} {fd : FuncData} {ps : List Str} {sp : Sp} {E : XK} {m qual : Str} {st : Stmt} {apos pos : Pos} {e o : Expr} {es : List Expr} {ta : TE} {t : TA} {dvs : List V}
end
end L2
set_option Elab.async false
set_option linter.all false
set_option maxRecDepth 100000
namespace L2
open PySem PySem.Spec PyProof.Rows
section
variable {X : Cx} {y : Str} {py : Pos} {elt iter : Expr} {ifs : List Expr} {scope : Scope} {pos : Pos} {N : List Str} {fr : List Nat} {tt : TT} {te tel : TE}
end
end L2
set_option Elab.async false
set_option linter.all false
set_option maxRecDepth 100000
namespace L2
open PySem PySem.Spec PyProof.Rows PySem.W
end L2
set_option Elab.async false
set_option linter.all false
set_option maxRecDepth 100000
namespace L2
open PySem PySem.Spec PyProof.Rows
section
variable {X : Cx} {pins : List (Addr × Obj)} {σ : List (Option V)} {H H' : Hp} {s : Shared} {h' : Heap}
end
section
variable {prog : Program} {w : World} {A : Around} {E : Value → Shared → Prop} {z : Shared}
end
section
variable {X : Cx}
end
section
variable {X : Cx}
end
end L2
set_option Elab.async false
set_option linter.all false
set_option maxRecDepth 100000
namespace L2
open PySem PySem.Spec PyProof.Rows
end L2
set_option Elab.async false
set_option linter.all false
set_option maxRecDepth 100000
namespace L2
open PySem PySem.Spec PyProof.Rows
def plain (rs : List (Int × Addr × Tie)) : List (Int × Tie) := rs.map fun x => (x.1, x.2.2)
end L2
set_option Elab.async false
set_option linter.all false
set_option maxRecDepth 100000
namespace L2
open PySem PySem.Spec PyProof.Rows
end L2
set_option Elab.async false
set_option linter.all false
set_option maxRecDepth 100000
namespace L2
open PySem
theorem ite_both {A B : Prop} {c : Prop} [Decidable c] (h1 : c → A) (h2 : ¬ c → B) : if c then A else B := by
  by_cases h : c
  · rw [if_pos h]
    exact h1 h
  · rw [if_neg h]
    exact h2 h
end L2
namespace L2
open PySem PySem.Spec PyProof.Rows
section
set_option maxHeartbeats 4000000
variable {X : Cx}
end
end L2
set_option Elab.async false
set_option linter.all false
set_option maxRecDepth 100000
set_option maxHeartbeats 4000000
namespace L2
open PySem PySem.Spec PyProof.Rows
section
variable {prog : Program} {w : World} {A : Around} {E : Value → Shared → Prop}
end
section
variable {X : Cx}
end
end L2
set_option Elab.async false
set_option linter.all false
set_option maxRecDepth 100000
namespace L2
open PySem PySem.Spec PyProof.Rows
end L2
set_option Elab.async false
set_option linter.all false
set_option maxRecDepth 100000
namespace L2
open PySem PySem.Spec PyProof.Rows
section
variable {X : Cx}
end
section
variable {X : Cx} {tg : Expr}
end
section
variable {X : Cx}
end
section
variable {X : Cx}
variable {pos : Pos}
end
end L2
set_option Elab.async false
set_option linter.all false
set_option maxRecDepth 100000
namespace L2
open PySem PySem.Spec PyProof.Rows
structure Mch where
  mks : List Mrk
  fol : List (List Int)
  ends : List Bool
end L2
set_option Elab.async false
set_option linter.all false
set_option maxRecDepth 100000
namespace L2
open PySem PySem.Spec PyProof.Rows
end L2
set_option Elab.async false
set_option linter.all false
set_option maxRecDepth 100000
namespace L2
open PySem PySem.Spec PyProof.Rows
theorem by_else {P G : Prop} (k : P → G) (h : P) : G := k h
end L2
set_option Elab.async false
set_option linter.all false
set_option maxRecDepth 100000
namespace L2
open PySem PySem.Spec PyProof.Rows
section
variable {X : Cx} {o e f : Expr} {apos cpos : Pos} {td ty tx : TE}
end
section
variable {X : Cx} {pins : List (Addr × Obj)} {σ : St} {H : Hp} {s : Shared} {h' : Heap}
end
section
variable {X : Cx} {elts : List Expr} {x1 : Nat} {tpos : Pos}
end
section
variable {X : Cx}
end
section
variable {X : Cx}
end
end L2
set_option Elab.async false
set_option linter.all false
set_option maxRecDepth 100000
namespace L2
open PySem PySem.Spec PyProof.Rows
section
variable {H0 H H' : Hp} {d : Addr} {n m n' m' : Nat} {good : Nm → Int → Nm → Prop} {kvs : List (Key × V)}
end
end L2
set_option Elab.async false
set_option linter.all false
set_option maxRecDepth 100000
namespace L2
open PySem PySem.Spec PyProof.Rows
structure En where
  th : Nm
  rm : Int
  far : Int
  num : Int
  bef : Int
  deriving DecidableEq
section
variable {B H H' : Hp} {qe qs : Addr} {mks : List Mrk} {good : Bool → Nm → Int → Nm → Prop} {st : Nm} {ts : List Nm} {es : List En}
end
end L2
set_option Elab.async false
set_option linter.all false
set_option maxRecDepth 100000
namespace L2
open PySem PySem.Spec PyProof.Rows
section
variable {mks : List Mrk} {good : Bool → Nm → Int → Nm → Prop} {st : Nm} {es : List En}
end
end L2
set_option Elab.async false
set_option linter.all false
set_option maxRecDepth 100000
namespace L2
open PySem PySem.Spec PyProof.Rows
section
variable {prog : Program} {w : World} {A : Around} {E : Value → Shared → Prop} {s : Shared} {I l S : Addr} {items : Array Value}
end
section
variable {X : Cx}
end
end L2
set_option Elab.async false
set_option linter.all false
set_option maxRecDepth 100000
namespace L2
open PySem PySem.Spec PyProof.Rows
section
variable {mks : List Mrk} {good : Bool → Nm → Int → Nm → Prop} {st : Nm} {es : List En}
end
end L2
set_option Elab.async false
set_option linter.all false
set_option maxRecDepth 100000
namespace L2
open PySem PySem.Spec PyProof.Rows
section
variable {W : WS} {m : Mrk} {n : Nat} {H0 H H' : Hp} {d : Addr} {kvs : List (Key × V)}
end
section
variable {M : Mch} {W : WS} {st : Nm} {es : List En} {pl : Nat} {e e0 : En} {mq : Mrk}
end
end L2
set_option Elab.async false
set_option linter.all false
set_option maxRecDepth 100000
namespace L2
open PySem PySem.Spec PyProof.Rows
section
variable {X : Cx}
open Classical in
end
end L2
set_option Elab.async false
set_option linter.all false
set_option maxRecDepth 100000
namespace L2
open PySem PySem.Spec PyProof.Rows PySem.W
section
variable {prog : Program} {w : World} {A : Around} {E : Value → Shared → Prop} {s : Shared} {env : Env}
variable {nm q : Str} {C N a : Addr} {bs bm bmB : List Value} {hdct : Bool} {sn : List Str} {sub : List Value} {ab : Bool} {col : Option Bool} {dd : Option Addr} {k0 k1 k2 k3 k5 : Option Value} {B newId initId : String}
theorem entry_unchain : entryFor table "proto.unchain" = some Builtin.«proto.unchain» := entryFor_of_tree (by kernel_rfl)
theorem raiseNew_ctx {α : Type} {e : Addr} {vs : Array Value} {Q : α → Shared → Prop} (hh : A.handled = some (.ref a)) (ne : a ≠ e) (c : CtxN a s.heap) (he : s.heap.get? e = some { cls := .ref C, dict := none, data := .fields vs, slots := #[] }) (hz : 2 < vs.size)
    (h : ∀ h', h'.get? e = some { cls := .ref C, dict := none, data := .fields (vs.setIfInBounds 2 (.ref a)), slots := #[] } → Heap.SameBut e s.heap h' → E (.ref e) { s with heap := h' }) : wpAny (model prog w) A (raiseNew (.ref e) : Sem α) Q E s := by
  obtain ⟨o, ws, e1, e2, e3⟩ := c
  unfold raiseNew
  refine wpAny_bind (wpAny_handled ?_)
  rw [hh]
  have hn : ((Value.ref a : Value) != Value.ref e) = true := bne_iff_ne.mpr fun z => ne (Value.ref.inj z)
  dsimp only
  rw [if_pos hn]
  refine wpAny_bind ?_
  refine wpAny_holding (wpAny_runValue (codeAny_builtin entry_unchain ?_))
  unfold Builtin.«proto.unchain»
  dsimp only
  refine wpAny_bind (wpAny_field e1 e2 e3 ?_)
  rw [if_pos (show ((Value.none : Value) == Value.none) = true from rfl)]
  refine wpAny_bind (wpAny_pure ?_)
  refine wpAny_pure ?_
  refine wpAny_bind ?_
  show wpAny _ _ (setField (.ref e) 2 (.ref a)) _ _ _
  exact wpAny_setField_rec he hz fun h' g1 g2 => wpAny_throw (h h' g1 g2)
theorem raiseStmt_from {x y : Sem Value} {Q : Flow → Shared → Prop} (hbase : bm.contains (.type "BaseException") = true) (hh : A.handled = some (.ref a)) (hy : ∀ (s : Shared) (R : Value → Shared → Prop), R .none s → wpAny (model prog w) A y R E s)
    (h : wpAny (model prog w) A x (fun v s1 => ∃ e t, v = .ref e ∧ s1.heap.get? C = some (excClassObj nm q C N bs bm hdct sn sub ab col dd k0 k1 k2 k3 k5 newId) ∧ CtxN a s1.heap ∧ a ≠ e ∧ s1.heap.get? e = some { cls := .ref C, data := .fields #[.ref t, .none, .none, .none, .bool false, .none] } ∧
      ∀ h', h'.get? e = some { cls := .ref C, data := .fields #[.ref t, .none, .ref a, .none, .bool true, .none] } → Heap.SameBut e s1.heap h' → E (.ref e) { s1 with heap := h' }) E s) :
    wpAny (model prog w) A (raiseStmt env (some x) (some y)) Q E s := by
  have hcB : (Value.ref C :: bm).contains (.type "BaseException") = true := by rw [List.contains_cons, hbase, Bool.or_true]
  unfold raiseStmt
  refine wpAny_bind (wpAny_mono h (fun v s1 g => ?_) fun _ _ z => z)
  obtain ⟨e, t, rfl, hC, cN, ne, he, k⟩ := g
  dsimp only
  refine wpAny_bind ?_
  refine wpAny_holding (hy s1 _ ?_)
  refine wpAny_bind (wpAny_pure ?_)
  obtain ⟨hp, g, d, tk, os⟩ := s1
  repeat (first | with_reducible refine wpAny_loadPart_at he ?_ | with_reducible refine wpAny_loadPart_at hC ?_ | (with_reducible refine wpAny_isSubtype_exc hC ?_; rw [hcB]) | wp_step)
  have hCe : e ≠ C := by
    rintro rfl
    rw [he] at hC
    cases hC
  have hC2 := (Heap.get?_update_other (hp.update e (Obj.mapFields fun x => x.setIfInBounds 3 Value.none)) (Obj.mapFields fun x => x.setIfInBounds 4 (Value.bool true)) hCe).trans ((Heap.get?_update_other hp (Obj.mapFields fun x => x.setIfInBounds 3 Value.none) hCe).trans hC)
  have he2 := Heap.get?_update_self (Obj.mapFields fun x => x.setIfInBounds 4 (Value.bool true)) (Heap.get?_update_self (Obj.mapFields fun x => x.setIfInBounds 3 Value.none) he rfl) rfl
  generalize hp2 : (hp.update e (Obj.mapFields fun x => x.setIfInBounds 3 Value.none)).update e (Obj.mapFields fun x => x.setIfInBounds 4 (Value.bool true)) = h2 at hC2 he2 ⊢
  have sb : Heap.SameBut e hp h2 := by
    subst hp2
    exact (Heap.SameBut.update ..).trans (Heap.SameBut.update ..)
  refine wpAny_loadPart_at hC2 ?_
  refine wpAny_pure ?_
  refine wpAny_pure ?_
  refine wpAny_bind ?_
  unfold setFlight
  refine wpAny_bind (wpAny_field he2 rfl (x := .none) rfl ?_)
  refine wpAny_pure ?_
  refine raiseNew_ctx hh ne ?_ he2 (show 2 < 6 by decide) fun h' g1 g2 => k h' g1 (sb.trans g2)
  obtain ⟨o, ws, e1, e2, e3⟩ := cN
  exact ⟨o, ws, (sb.2 a ne).trans e1, e2, e3⟩
theorem exec_raise_from (F : ExcBaseFacts B newId initId bmB) {mN : Str → Option Value} {x : Str} {np cpos npos pos : Pos} {kk : Nat} {args : List Expr} {Q : Flow → Shared → Prop}
    (hbase : bm.contains (.type "BaseException") = true) (hh : A.handled = some (.ref a)) (hplain : (backTo cpos (starEach args env)).any (·.1) = false) (hni : mN "__init__" = none)
    (h : wpAny (model prog w) A (eval (.Name x np) env) (fun f s1 => f = .ref C ∧ wpAny (model prog w) A (evalArgs (.ref C) true (backTo cpos (starEach args env)) [])
      (fun r s2 => r.kw = [] ∧ r.pos.length ≤ sizeLine ∧ s2.heap.get? C = some (excClassObj nm q C N bs bm hdct sn sub ab col dd k0 k1 k2 k3 k5 newId) ∧ s2.heap.Ns N mN ∧ OwnTail s2.heap bmB bm ∧ CtxN a s2.heap ∧
        ∀ h' h2 e t, Heap.MadeExcOf s2.heap h' e (.ref C) r.pos → h2.get? e = some { cls := .ref C, data := .fields #[.ref t, .none, .ref a, .none, .bool true, .none] } → Heap.SameBut e h' h2 → E (.ref e) { s2 with heap := h2 }) E s1) E s) :
    wpAny (model prog w) A (exec (.Raise (some (.Call (.Name x np) args [] cpos)) (some (.Constant .none kk npos)) pos) env) Q E s := by
  rw [arm_exec_Raise]
  simp only [evalOpt, Option.map]
  refine wpAny_bind (wpAny_standAt ?_)
  refine raiseStmt_from (C := C) (nm := nm) (q := q) (N := N) (bs := bs) (bm := bm) (hdct := hdct) (sn := sn) (sub := sub) (ab := ab) (col := col) (dd := dd) (k0 := k0) (k1 := k1) (k2 := k2) (k3 := k3) (k5 := k5) (newId := newId) hbase hh (fun s R r => wpAny_bind (wpAny_Constant_none (wpAny_bind (wpAny_standAt (wpAny_pure r))))) ?_
  refine wpAny_bind (wpAny_mono (wpAny_Call_ofName (wpAny_mono h (fun f s1 g => ?_) fun _ _ z => z)) (fun v s3 g3 => wpAny_bind (wpAny_standAt (wpAny_pure g3))) fun _ _ z => z)
  obtain ⟨rfl, g⟩ := g
  unfold callWith
  refine wpAny_bind (wpAny_holding (wpAny_mono g (fun r s2 g2 => wpAny_bind (wpAny_standAt ?_)) fun _ _ z => z))
  obtain ⟨us, kw⟩ := r
  obtain ⟨hkw, hlen, hC, hn, T, cN, k⟩ := g2
  obtain rfl : kw = [] := hkw
  obtain ⟨hp, gg, d, tk, os⟩ := s2
  simp only [hplain]
  refine wpAny_bind (wpAny_keeperOf_exc hC ?_)
  refine wpAny_bind (wpAny_call_exc_subT (hrest := hlen) F T hC hn hni fun h' e hm => wpAny_bind (wpAny_holding (wpAny_point (wpAny_pure ?_))))
  obtain ⟨t, ht, _, _⟩ := hm.there
  obtain ⟨o, ws, e1, e2, e3⟩ := cN
  refine ⟨e, t, rfl, hm.keeps _ _ hC, ⟨o, ws, hm.keeps _ _ e1, e2, e3⟩, ?_, ht, fun h2 y1 y2 => k h' h2 e t hm y1 y2⟩
  rintro rfl
  have z := hm.new
  rw [e1] at z
  cases z
end
def RaisesIn (X : Cx) (E : XK) : Prop := ∀ (pins : List (Addr × Obj)) (σ : St) (H : Hp) (s : Shared) (h' : Heap) (e C a t : Addr), Inv X pins σ H s → s.heap.get? e = none → h'.get? e = some { cls := .ref C, data := .fields #[.ref t, .none, .ref a, .none, .bool true, .none] } →
  (∀ b o, s.heap.get? b = some o → h'.get? b = some o) → E (.ref C) (some a) H → X.xe (.ref e) { s with heap := h' }
section
variable {P : Program} {w : World} {K : PySem.W.Frag} {mg : Str → Option Value} {base : Heap} {N : List Str} {qual : Str} {scope : Scope} {f : Addr} {cd : Value} {A : Around} {outer : List Env} {s : Shared} {H : Hp} {E : XK}
theorem raisesIn1 : RaisesIn (cxOf (CX1 P w) P w K mg base N qual scope f cd A outer s H E) E := by
  intro pins σ H1 s1 h' e C a t I en he kp q
  have hst := I.stack
  have hfr : ∀ b ∈ frs (envOfC qual scope s.heap.objs.size f cd :: outer), H1 b = none := I.stkFree
  have inF : ∀ env ∈ (envOfC qual scope s.heap.objs.size f cd :: outer), ∀ b, env.frame = some b → b ∈ frs (envOfC qual scope s.heap.objs.size f cd :: outer) := fun env he b hb => List.mem_filterMap.mpr ⟨env, he, hb⟩
  have subF : ∀ b ∈ frs outer, b ∈ frs (envOfC qual scope s.heap.objs.size f cd :: outer) := fun b hb => by
    obtain ⟨env, he, hf⟩ := List.mem_filterMap.mp hb
    exact List.mem_filterMap.mpr ⟨env, List.mem_cons_of_mem _ he, hf⟩
  have notF : ∀ b o, s.heap.get? b = some o → b ∉ frs outer → b ∉ frs (envOfC qual scope s.heap.objs.size f cd :: outer) := fun b o e1 n hb => by
    obtain ⟨env, he, hf⟩ := List.mem_filterMap.mp hb
    rcases List.mem_cons.mp he with rfl | he
    · have z : s.heap.objs.size = b := Option.some.inj hf
      exact absurd (Heap.lt_size e1) (by rw [← z]; exact Nat.lt_irrefl _)
    · exact n (List.mem_filterMap.mpr ⟨env, he, hf⟩)
  have noB : (PySem.W.hideAll s1.heap (frs (envOfC qual scope s.heap.objs.size f cd :: outer))).get? e = none := by
    cases z : (PySem.W.hideAll s1.heap (frs (envOfC qual scope s.heap.objs.size f cd :: outer))).get? e with
    | none => rfl
    | some o =>
      have y := PySem.W.of_hideAll _ z
      rw [en] at y
      cases y
  refine wpAny_leaving_firstW (base := PySem.W.hideAll s1.heap (frs (envOfC qual scope s.heap.objs.size f cd :: outer))) (a0 := .ref t) I.ok.frames ((PySem.W.funFrames_hide hst inF).of_keeps fun b o hb _ => ⟨o, kp b o hb, rfl⟩) rfl he (fun b o z => kp b o (PySem.W.of_hideAll _ z)) noB rfl rfl rfl fun h2 L => ?_
  obtain ⟨l1, ⟨_, _, l2⟩, l3, up⟩ := L
  have fl : Heap.FlyingW (PySem.W.hideAll s1.heap (frs (envOfC qual scope s.heap.objs.size f cd :: outer))) outer e (.ref C) (.ref t) h2 := ⟨l1, noB, l2, l3⟩
  refine ⟨e, C, H1, some a, rfl, ⟨I.os, I.bare, ⟨_, _, fl, objok_stay I.hok fun b o u hu z => PySem.W.hideAll_get _ z fun hb => ?_, fun b o e1 n1 n2 => ?_, fun b o e1 n2 => ?_⟩, fun b o e1 n1 hb => ?_, fun b o e1 n1 => I.base.free b o e1 n1 (by intro z; exact absurd (show b ∈ ([] : List Addr) from z) (by simp)), I.base.tups, I.base.frzs, I.base.tbls⟩, fun z => (nomatch z), q⟩
  · rw [hfr b hb] at hu
    cases hu
  · exact PySem.W.hideAll_get _ (I.base.keep b o e1 n1 n2 (by intro z; exact absurd (show b ∈ ([] : List Addr) from z) (by simp))) (notF b o e1 n2)
  · obtain ⟨o', e2⟩ := I.base.there b o e1 (by intro z; exact absurd (show b ∈ ([] : List Addr) from z) (by simp))
    exact ⟨o', PySem.W.hideAll_get _ e2 (notF b o e1 n2)⟩
  · obtain ⟨sl, e2⟩ := I.base.slot b o e1 n1 hb (by intro z; exact absurd (show b ∈ ([] : List Addr) from z) (by simp))
    obtain ⟨_, o2, e3, nf⟩ := hst.mem (subF b hb)
    rw [e2] at e3
    cases e3
    obtain ⟨sl2, e4⟩ := up b _ (kp b _ e2) nf
    exact ⟨sl2, e4⟩
end
section
variable {X : Cx} {pins : List (Addr × Obj)} {σ : St} {H : Hp} {s : Shared} {a C : Addr} {d : Option Addr}
theorem Inv.untrack {φ : Heap → Prop} (I : Inv X pins σ (upd H a (.ext φ)) s) (ha : H a = none) : Inv X pins σ H s := by
  have un : ∀ b, upd H a (.ext φ) b = none → H b = none := fun b h => by
    by_cases z : b = a
    · rw [z]; exact ha
    · rw [upd_ne z] at h; exact h
  have of : ∀ b o, (∀ ψ, o ≠ HO.ext ψ) → upd H a (.ext φ) b = some o → H b = some o := fun b o n h => by
    by_cases z : b = a
    · rw [z, upd_same] at h
      exact absurd (Option.some.inj h).symm (n φ)
    · rw [upd_ne z] at h; exact h
  refine ⟨I.ok, I.os, I.bare, ⟨I.base.keep, I.base.slot, fun b o e n x => un b (I.base.free b o e n x), I.base.there, fun b xs e => of b _ (fun _ z => nomatch z) (I.base.tups b xs e), fun b o u e => of b _ (fun _ z => nomatch z) (I.base.frzs b o u e), fun b ps e => ?_⟩, I.loc, I.cell, un _ I.free, fun x c e => un _ (I.freeC x c e), fun p hp => ?_, fun b u e => ?_, I.len⟩
  · obtain ⟨m, q⟩ := I.base.tbls b ps e
    exact ⟨m, of b _ (fun _ z => nomatch z) q⟩
  · obtain ⟨q1, q2, q3⟩ := I.pin p hp
    exact ⟨q1, un _ q2, q3⟩
  · have nb : b ≠ a := fun z => by
      rw [z, ha] at e
      cases e
    refine (I.hok b u (by rw [upd_ne nb]; exact e)).stay (fun _ _ _ q => q) (fun c q => of c _ (fun _ z => nomatch z) q) fun c xs q => of c _ (fun _ z => nomatch z) q
structure Landed (X : Cx) (pins : List (Addr × Obj)) (σ : St) (H : Hp) (a C : Addr) (d : Option Addr) (s : Shared) : Prop where
  inv : Inv X pins σ H s
  new : H a = none
  cls : OfCls s.heap a C
  ctx : d = none → Inv X pins σ (upd H a (.ext (CtxN a))) s
  fly : ∃ B a0, Heap.FlyingW B X.stack a (.ref C) a0 s.heap
theorem land_same {M : Model} {A : Around} {E : Value → Shared → Prop} {B : Heap} {l : List Env} {a0 c : Value} {Q : Unit → Shared → Prop} (fl : Heap.FlyingW B l a c a0 s.heap) (h : Q () s) : wpAny M A (setFlight (.ref a) none) Q E s := by
  obtain ⟨oe, vs, T, oT, ts, e1, _, e2, e3, _, _, e4, e5, e6⟩ := fl.2.2.2
  refine wpAny_setFlight_none e1 e2 e3 e4 e5 (Array.getElem?_eq_some_iff.mp e6).1 ?_
  rw [Heap.update_setField_same s.heap T oT ts 3 .none e4 e5 e6]
  exact h
def HB (X : Cx) (C : Addr) (d : Option Addr) (hs : List ExceptHandler) (th : TS) : Prop := ∀ (pins : List (Addr × Obj)) (σ : St) (H : Hp) (a : Addr) (s : Shared) (D : Ends), Landed X pins σ H a C d s → th D σ H →
  wpAny (model X.prog X.w) X.A (handleBy (.ref a) X.env hs) (SP X pins D) X.xe s
variable {x : Str} {D0 : Addr} {b₀ : Stmt} {body suite : List Stmt} {np hpos : Pos} {rest : List ExceptHandler} {th : TS}
def tFrom (E : XK) (C2 : Addr) : TS := fun _ _ H => ∀ a, E (.ref C2) (some a) H
theorem hb_from {E : XK} {y : Str} {C2 : Addr} {tx0 : Str} {j kk : Nat} {p1 p2 cpos npos pos : Pos} (hz : d = none) (hm : exmOne X.K (.ref C) (.ref D0) = some true) (hg0 : X.mg x = some (.ref D0)) (T : XCls X.K X.mg y C2) (hR : RaisesIn X E) (hp : ∀ a : Addr, PassesOwnAt (model X.prog X.w) (X.A.mark (some (.ref a))) X.A X.env X.xe)
    (hg : Gl X x := by rfl) (hd : (x == ("__debug__" : Str)) = false := by decide) (hg2 : Gl X y := by rfl) (hd2 : (y == ("__debug__" : Str)) = false := by decide)
    (hs : starEach [.Constant (.str tx0) j p2] X.env = [(false, eval (.Constant (.str tx0) j p2) X.env)] := by rfl) :
    HB X C d (.ExceptHandler (some (.Name x np)) none [.Raise (some (.Call (.Name y p1) [.Constant (.str tx0) j p2] [] cpos)) (some (.Constant .none kk npos)) pos] hpos :: rest) (tFrom E C2) := by
  subst hz
  intro pins σ H a s D L q
  refine wpAny_handleBy_cons (codeAny_handlers_test ?_) (by intro q; cases q)
  refine ld_glob (X := X.hdl a) (L.inv.hdl a) hg hg0 ?_ hd
  refine PySem.W.Looks.here (PySem.W.exm_one L.inv.kIn (OfCls.type L.cls) hm) ?_
  obtain ⟨B, a0, fl⟩ := L.fly
  refine codeAny_handlers_suite (land_same fl ?_)
  refine wpAny_execs_cons ?_
  have I := (L.ctx rfl).hdl a
  obtain ⟨tl, N, nm, q1, bs, hdct, sn, sub, ab, col, dd, k0, k1, k2, k3, k5, mN, hC, hN, hni, TL⟩ := (T.own I.ok.mod.kin).obj
  have FB := PySem.F.excBase_ValueError
  refine exec_raise_from (C := C2) (nm := nm) (q := q1) (N := N) (bs := bs) (bm := tl) (hdct := hdct) (sn := sn) (sub := sub) (ab := ab) (col := col) (dd := dd) (k0 := k0) (k1 := k1) (k2 := k2) (k3 := k3) (k5 := k5)
    FB (mN := mN) (TL.hasType FB.hasBase) (a := a) rfl (by rw [hs]; rfl) hni (ld_glob (X := X.hdl a) I hg2 T.g ⟨rfl, ?_⟩ hd2)
  have hA : PA (X.hdl a) [.Constant (.str tx0) j p2] (tCons (tC (.str tx0)) tNil) := pa_cons pe_str pa_nil hs
  rw [hs]
  have hw := hA cpos pins s σ _ (fun vs H1 => vs.length = 1 ∧ H1 = upd H a (.ext (CtxN a))) I ⟨rfl, rfl⟩
  rw [hs] at hw
  refine Calls.evalArgs_plain (wpAny_mono hw (fun us s2 ⟨vs, H2, I2, r2, l2, e2⟩ => ?_) fun _ _ z => z.elim)
  subst e2
  refine ⟨rfl, ?_, I2.bk _ _ hC, hN.keeps I2.bk, TL.keeps I2.bk, (I2.hok a _ (upd_same ..)).1, fun h' h2 e t mk g1 g2 => ?_⟩
  · rw [← r2.length, l2]
    decide
  · refine hp a (.ref e) _ (hR pins σ H s2 h2 e C2 a t ((I2.unhdl L.inv.ok).untrack L.new) mk.new g1 (fun b o z => ?_) (q a))
    have nb : b ≠ e := fun y => by
      have z2 := mk.new
      rw [← y, z] at z2
      cases z2
    exact (g2.2 b nb).trans (mk.keeps b o z)
end
def caught : List (Addr × Bool × TS) → Ends → St → Value → Option Addr → Hp → Prop
  | [], _, _, _, _, _ => False
  | (C, b, th) :: r, D, σ, c, d, H => (c = .ref C ∧ (b = true → d = none) ∧ th D σ H) ∨ caught r D σ c d H
def tTryC (cs : List (Addr × Bool × TS)) (tb : TSX) : TS := fun D σ H => tb D (fun σ' c d H' => caught cs D σ' c d H') σ H
inductive HBs (X : Cx) (hs : List ExceptHandler) : List (Addr × Bool × TS) → Prop
  | nil : HBs X hs []
  | cons {C : Addr} {b : Bool} {th : TS} {r : List (Addr × Bool × TS)} (h : ∀ d, (b = true → d = none) → HB X C d hs th) (t : HBs X hs r) : HBs X hs ((C, b, th) :: r)
theorem HBs.run {X : Cx} {hs : List ExceptHandler} {cs : List (Addr × Bool × TS)} (h : HBs X hs cs) {pins : List (Addr × Obj)} {σ : St} {H : Hp} {a C : Addr} {d : Option Addr} {s : Shared} {D : Ends} (L : Landed X pins σ H a C d s) (q : caught cs D σ (.ref C) d H) :
    wpAny (model X.prog X.w) X.A (handleBy (.ref a) X.env hs) (SP X pins D) X.xe s := by
  induction h with
  | nil => exact q.elim
  | cons h t ih =>
    rcases q with ⟨e, b, q⟩ | q
    · cases e
      exact h d b pins σ H a s D L q
    · exact ih q
theorem ps_tryC {X : Cx} {h₀ : ExceptHandler} {hs : List ExceptHandler} {body : List Stmt} {pos : Pos} {tb : TSX} {cs : List (Addr × Bool × TS)} (hst : X.stack = X.env :: X.outer) (hf : X.env.frame = some X.env.locals) (hb : PSX (CX1 X.prog X.w) X body tb) (hh : HBs X (h₀ :: hs) cs) :
    PS X (.Try body (h₀ :: hs) [] [] pos) (tTryC cs tb) := by
  intro pins s σ H D I h
  refine wpAny_Try_except (wpAny_mono (hb pins s σ H D _ I h) (fun f s1 q => ?_) fun e s1 hx => ?_)
  · cases f with
    | next => exact wpAny_execs_nil q
    | brk => exact q
    | cont => exact q
    | ret v => exact q
  · obtain ⟨σ1, H1, s0, I1, a, C, H2, d, rfl, F, hd, q⟩ := hx
    obtain ⟨a0, B, fl, hok, kp, tH⟩ := F.fly
    have hfs : X.A.frames = some (X.env :: X.outer) := by rw [← hst]; exact I1.ok.frames
    have fl' := fl
    rw [hst] at fl'
    refine wpAny_mono ((keepc_note a _ _).anyD hd (wpAny_looks_onW hfs hf fl' (Q := fun _ s4 => ∃ h4, s4 = { s1 with heap := h4 } ∧ Heap.HeldW B (X.env :: X.outer) a (.ref C) a0 X.env.locals h4 ∧ s1.heap.UpToSlots h4) fun h4 held4 up4 => ⟨h4, rfl, held4, up4⟩)) (fun _ s4 hs4 => ?_) fun _ _ z => z
    obtain ⟨⟨h4, rfl, held4, up4⟩, hd4⟩ := hs4
    refine wpAny_mono ((keepc_flight a _ _).anyD (s := { s1 with heap := h4 }) hd4 (wpAny_landsW (s := { s1 with heap := h4 }) held4 (Q := fun _ s5 => ∃ h5, s5 = { s1 with heap := h5 } ∧ Heap.FlyingW B (X.env :: X.outer) a (.ref C) a0 h5 ∧ h4.UpToSlots h5) fun h5 fl5 up5 => ⟨h5, rfl, fl5, up5⟩)) (fun _ s5 hs5 => ?_) fun _ _ z => z
    obtain ⟨⟨h5, rfl, fl5, up5⟩, hd5⟩ := hs5
    have fl5' : Heap.FlyingW B X.stack a (.ref C) a0 h5 := by rw [hst]; exact fl5
    obtain ⟨hna, I5⟩ := Fly.lands I1 F fl hok kp tH fl5' (up4.trans up5)
    refine hh.run ⟨I5.untrack hna, hna, (I5.hok a _ (upd_same ..)).1, fun z => (Fly.landsE I1 F fl hok kp tH fl5' (up4.trans up5) (hd5 z) fun g1 g2 ⟨o, vs, e1, e2⟩ k => ⟨o, vs, k o e1, e2⟩).2, B, a0, fl5'⟩ q
structure XMat (K : Frag) (cs : List Addr) : Prop where
  all : cs.map (fun C => cs.map fun D => exmOne K (.ref C) (.ref D)) = cs.map fun C => cs.map fun D => some (decide ((C : Nat) = D))
  nd : decide (@List.Nodup Nat cs) = true
section
variable {K : Frag} {cs : List Addr} {C D : Addr}
theorem XMat.two (T : XMat K cs) (h : C ∈ cs) (h' : D ∈ cs) : exmOne K (.ref C) (.ref D) = some (decide ((C : Nat) = D)) := (List.map_inj_left.mp ((List.map_inj_left.mp T.all) C h)) D h'
theorem XMat.hit (T : XMat K cs) (h : C ∈ cs) : exmOne K (.ref C) (.ref C) = some true := by rw [T.two h h, decide_eq_true rfl]
end
theorem bps_tryC {X : Cx} {h₀ : ExceptHandler} {hs : List ExceptHandler} {body : List Stmt} {pos : Pos} {tb : TSX} {cs : List (Addr × Bool × TS)} (hst : X.stack = X.env :: X.outer) (hf : X.env.frame = some X.env.locals) (hb : Bx (PSX (CX1 X.prog X.w) X body tb)) (hh : HBs X (h₀ :: hs) cs) :
    Bx (PS X (.Try body (h₀ :: hs) [] [] pos) (tTryC cs tb)) := ⟨ps_tryC hst hf hb.un hh⟩
end L2
set_option Elab.async false
set_option linter.all false
set_option maxRecDepth 100000
namespace L2
open PySem PySem.Spec PyProof.Rows
end L2
set_option Elab.async false
set_option linter.all false
set_option maxRecDepth 100000
namespace L2
open PySem PySem.Spec PyProof.Rows PySem.W
section
variable {P : Program} {w : World} {K : PySem.W.Frag} {mg : Str → Option Value} {base : Heap} {N : List Str} {qual : Str} {scope : Scope} {f : Addr} {cd : Value} {A : Around} {outer : List Env} {s : Shared} {H : Hp} {E : XK}
end
end L2
set_option Elab.async false
set_option linter.all false
set_option maxRecDepth 100000
namespace L2
open PySem PySem.Spec PyProof.Rows
def st2 (v0 v1 : V) (fr : List Nat) (σ : St) : St := some v0 :: some v1 :: fr.map fun j => (σ[j]?).join
section
variable {X : Cx} {x y : Str} {px py tp : Pos} {kt : Nat} {elt iter : Expr} {ifs : List Expr} {scope : Scope} {pos : Pos} {N : List Str} {fr : List Nat} {tt : TT} {te : TE} {wi : TI}
end
end L2
set_option Elab.async false
set_option linter.all false
set_option maxRecDepth 100000
namespace L2
open PySem PySem.Spec PyProof.Rows
section
variable {X : Cx} {tg : Expr}
end
section
variable {X : Cx} {x y : Str} {px py tp : Pos} {kt : Nat} {elt iter : Expr} {ifs : List Expr} {scope : Scope} {pos : Pos} {N : List Str} {fr : List Nat} {tt : TT} {te : TE} {wi : TI}
end
end L2
set_option Elab.async false
set_option linter.all false
set_option maxRecDepth 100000
namespace L2
open PySem PySem.Spec PyProof.Rows
section
variable {X : Cx} {a : Addr} {kvs : List (Key × V)} {o i e : Expr} {pos apos cpos : Pos} {td ty : TE}
end
end L2
set_option Elab.async false
set_option linter.all false
set_option maxRecDepth 100000
namespace L2
open PySem PySem.Spec PyProof.Rows
end L2
set_option Elab.async false
set_option linter.all false
set_option maxRecDepth 100000
namespace L2
open PySem PySem.Spec PyProof.Rows
end L2
set_option Elab.async false
set_option linter.all false
set_option maxRecDepth 100000
namespace L2
open PySem PySem.Spec PyProof.Rows PySem.W
def gd (p : Array Nat) (i : Nat) : Nat := p.getD i 0
end L2
set_option Elab.async false
set_option linter.all false
set_option maxRecDepth 100000
namespace L2
open PySem PySem.Spec PyProof.Rows
end L2
set_option Elab.async false
set_option linter.all false
set_option maxRecDepth 100000
namespace L2
open PySem PySem.Spec PyProof.Rows
section
variable {X : Cx}
end
end L2
set_option Elab.async false
set_option linter.all false
set_option maxRecDepth 100000
namespace L2
open PySem PySem.Spec PyProof.Rows
def singT : List Nm := [[46], [124], [42], [43], [63], [40], [41]]
def condT : List Nm := [[60], [62], [61], [33]]
theorem singT_mem {c : Nat} : [c] ∈ singT ↔ c ∈ singles := by
  unfold singT singles
  simp
def markR (l : List Nat) : Option Mrk :=
  let back := decide (l.head? = some 60)
  let p := partC 91 (if back = true then l.drop 1 else l)
  if p.1 ≠ [95] ∧ goodC p.1 = false then none
  else if p.2.1 = [] then some ⟨p.1, back, [], 0⟩
  else if p.2.2.take 1 ∉ condT then none
  else (readC ((p.2.2.drop 1).take (p.2.2.length - 2))).map fun n => ⟨p.1, back, p.2.2.take 1, n⟩
def pieceR (l : List Nat) : Option Pc := match l with
  | [c] => if c ∈ singles then some (.sign c) else (markR [c]).map .mark
  | l => (markR l).map .mark
def cutP : Nat → List Nat → Option (List Pc)
  | 0, _ => some []
  | n + 1, l => if l = [] then some [] else match pieceLen l with
    | none => none
    | some k => match pieceR (l.take k) with
      | none => none
      | some p => (cutP n (l.drop k)).map (p :: ·)
inductive AS where
  | free | name (k : Nat) | under | back | op | sign | minus | nought | figs (k : Nat) | bad
  deriving DecidableEq
def begunA (s : AS) (c : Nat) : AS :=
  if isL c = true then (match s with | .name k => if k < 12 then .name (k + 1) else .bad | _ => .name 1)
  else if c = 95 then .under else if c = 60 then .back else if c = 91 ∧ s ≠ .free then .op else if c ∈ singles then .free else .bad
def stepA (s : AS) (c : Nat) : AS := match s with
  | .free | .name _ | .under => begunA s c
  | .back => if c = 95 ∨ isL c = true then begunA .free c else .bad
  | .op => if [c] ∈ condT then .sign else .bad
  | .sign => if c = 45 then .minus else if c = 48 then .nought else if 49 ≤ c ∧ c ≤ 57 then .figs 1 else .bad
  | .minus => if 49 ≤ c ∧ c ≤ 57 then .figs 1 else .bad
  | .figs k => if (48 ≤ c ∧ c ≤ 57) ∧ k < 60 then .figs (k + 1) else if c = 93 then .free else .bad
  | .nought => if c = 93 then .free else .bad
  | .bad => .bad
def AS.at_ : AS → Bool
  | .free | .name _ | .under => true
  | _ => false
def AS.isName : AS → Bool
  | .name _ => true
  | _ => false
def moreA (s : AS) (c : Nat) : Nat := if s.at_ = true ∧ c ≠ 91 ∧ ¬ (s.isName = true ∧ isL c = true) then 1 else 0
def runA : AS → List Nat → AS
  | s, [] => s
  | s, c :: r => runA (stepA s c) r
def cntA : AS → List Nat → Nat
  | _, [] => 0
  | s, c :: r => moreA s c + cntA (stepA s c) r
def resA (s : AS) (l : List Nat) : Option Nat := if (runA s l).at_ = true then some (cntA s l) else none
theorem runA_bad : ∀ l, runA .bad l = .bad
  | [] => rfl
  | c :: r => runA_bad r
theorem resA_bad (l : List Nat) : resA .bad l = none := by unfold resA; rw [runA_bad]; rfl
theorem resA_cons (s : AS) (c : Nat) (r : List Nat) : resA s (c :: r) = (resA (stepA s c) r).map (moreA s c + ·) := by
  unfold resA
  show (if (runA (stepA s c) r).at_ = true then some (moreA s c + cntA (stepA s c) r) else none) = _
  split <;> rfl
theorem resA_0 {s : AS} {c : Nat} (h : s.at_ = false) (r : List Nat) : resA s (c :: r) = resA (stepA s c) r := by
  rw [resA_cons]
  unfold moreA
  rw [if_neg (fun z => by rw [h] at z; exact Bool.false_ne_true z.1)]
  cases resA (stepA s c) r with
  | none => rfl
  | some n => exact congrArg some (Nat.zero_add n)
theorem res_letters : ∀ (a : List Nat) (k : Nat) (r : List Nat), (∀ x ∈ a, isL x = true) → resA (.name k) (a ++ r) = if k + a.length ≤ 12 ∨ a = [] then resA (.name (k + a.length)) r else none
  | [], k, r, _ => by rw [if_pos (.inr rfl)]; rfl
  | c :: a, k, r, h => by
    have hc := h c List.mem_cons_self
    have st : stepA (.name k) c = if k < 12 then .name (k + 1) else .bad := by
      show begunA _ c = _
      unfold begunA
      rw [if_pos hc]
    have mo : moreA (.name k) c = 0 := by
      unfold moreA
      rw [if_neg (fun z => z.2.2 ⟨rfl, hc⟩)]
    rw [List.cons_append, resA_cons, mo, st]
    have z0 : ∀ o : Option Nat, o.map (0 + ·) = o := fun o => by cases o with | none => rfl | some n => exact congrArg some (Nat.zero_add n)
    rw [z0]
    by_cases hk : k < 12
    · rw [if_pos hk, res_letters a (k + 1) r fun x hx => h x (List.mem_cons_of_mem _ hx)]
      rw [List.length_cons]
      by_cases h1 : k + (a.length + 1) ≤ 12
      · rw [if_pos (.inl (by omega)), if_pos (.inl h1), show k + 1 + a.length = k + (a.length + 1) by omega]
      · rw [if_neg (by rintro (z | z); omega; rw [z] at h1; simp at h1; omega), if_neg (by rintro (z | z); omega; cases z)]
    · rw [if_neg hk, resA_bad, if_neg (by rintro (z | z); rw [List.length_cons] at z; omega; cases z)]
def fin_ : AS → Bool
  | .nought => true
  | .figs _ => true
  | _ => false
theorem run_figs : ∀ (a : List Nat) (k : Nat), 93 ∉ a → k ≤ 60 → runA (.figs k) a = if (k + a.length ≤ 60 ∧ ∀ x ∈ a, x ∈ digs) then .figs (k + a.length) else .bad
  | [], k, _, hk => by rw [if_pos ⟨hk, fun x hx => (nomatch hx)⟩]; rfl
  | c :: a, k, h, hk => by
    have n93 : c ≠ 93 := fun z => h (by rw [z]; exact List.mem_cons_self)
    have h' : 93 ∉ a := fun z => h (List.mem_cons_of_mem _ z)
    show runA (if (48 ≤ c ∧ c ≤ 57) ∧ k < 60 then .figs (k + 1) else if c = 93 then .free else .bad) a = _
    by_cases hc : (48 ≤ c ∧ c ≤ 57) ∧ k < 60
    · rw [if_pos hc, run_figs a (k + 1) h' (by omega), List.length_cons]
      by_cases h1 : k + 1 + a.length ≤ 60 ∧ ∀ x ∈ a, x ∈ digs
      · have hm : ∀ x ∈ c :: a, x ∈ digs := fun x hx => by
          rcases List.mem_cons.mp hx with rfl | hx
          · exact mem_digs.mpr hc.1
          · exact h1.2 x hx
        rw [if_pos h1, if_pos ⟨by omega, hm⟩, show k + 1 + a.length = k + (a.length + 1) by omega]
      · rw [if_neg h1, if_neg (fun z => h1 ⟨by omega, fun x hx => z.2 x (List.mem_cons_of_mem _ hx)⟩)]
    · rw [if_neg hc, if_neg n93, runA_bad, if_neg (fun z => hc ⟨mem_digs.mp (z.2 c List.mem_cons_self), by have := z.1; rw [List.length_cons] at this; omega⟩)]
theorem figs_true {d : Nat} {r : List Nat} (hd : 49 ≤ d ∧ d ≤ 57) : figsC (d :: r) = decide (1 + r.length ≤ 60 ∧ ∀ x ∈ r, x ∈ digs) := by
  unfold figsC
  rw [show decide ((d :: r).head? = some 48) = false from decide_eq_false (fun z => by injection z with z; omega), Bool.false_and, Bool.not_false, Bool.and_true, List.all_cons, decide_eq_true (mem_digs.mpr ⟨by omega, by omega⟩), Bool.true_and, List.length_cons]
  rw [Bool.eq_iff_iff]
  simp only [Bool.and_eq_true, decide_eq_true_eq, List.all_eq_true]
  constructor
  · rintro ⟨a, b⟩
    exact ⟨by omega, b⟩
  · rintro ⟨a, b⟩
    exact ⟨by omega, b⟩
theorem figs_bad {d : Nat} {r : List Nat} (hd : ¬ (48 ≤ d ∧ d ≤ 57)) : figsC (d :: r) = false := by
  unfold figsC
  rw [List.all_cons, decide_eq_false (fun z => hd (mem_digs.mp z)), Bool.false_and, Bool.and_false]
theorem figs_nought {r : List Nat} : figsC (48 :: r) = decide (r = []) := by
  cases r with
  | nil => decide
  | cons a r =>
    unfold figsC
    rw [decide_eq_true (show (48 :: a :: r).head? = some 48 from rfl), decide_eq_true (show (48 :: a :: r) ≠ [48] from fun z => by cases z)]
    simp
theorem readC_is {l : List Nat} : (readC l).isSome = (!(decide (l = [45, 48]) || !figsC (if l.head? = some 45 then l.drop 1 else l))) := by
  unfold readC
  by_cases h1 : l = [45, 48]
  · rw [if_pos (.inl h1), decide_eq_true h1]
    rfl
  · rw [decide_eq_false h1]
    cases h2 : figsC (if l.head? = some 45 then l.drop 1 else l) with
    | false => rw [if_pos (.inr rfl)]; rfl
    | true => rw [if_neg (by rintro (z | z); exact h1 z; cases z)]; rfl
theorem run_num {l : List Nat} (h : 93 ∉ l) : fin_ (runA .sign l) = (readC l).isSome := by
  rw [readC_is]
  cases l with
  | nil => rfl
  | cons c r =>
    have n93 : c ≠ 93 := fun z => h (by rw [z]; exact List.mem_cons_self)
    have h' : 93 ∉ r := fun z => h (List.mem_cons_of_mem _ z)
    show fin_ (runA (if c = 45 then .minus else if c = 48 then .nought else if 49 ≤ c ∧ c ≤ 57 then .figs 1 else .bad) r) = _
    by_cases c45 : c = 45
    · subst c45
      rw [if_pos rfl, if_pos (show (45 :: r).head? = some 45 from rfl), List.drop_succ_cons, List.drop_zero]
      cases r with
      | nil => decide
      | cons d r =>
        have h'' : 93 ∉ r := fun z => h' (List.mem_cons_of_mem _ z)
        show fin_ (runA (if 49 ≤ d ∧ d ≤ 57 then .figs 1 else .bad) r) = _
        by_cases hd : 49 ≤ d ∧ d ≤ 57
        · rw [if_pos hd, run_figs r 1 h'' (by decide), figs_true hd, decide_eq_false (show ¬ (45 :: d :: r) = [45, 48] from fun z => by injection z with _ z; injection z with z _; omega)]
          by_cases hr : 1 + r.length ≤ 60 ∧ ∀ x ∈ r, x ∈ digs
          · rw [if_pos hr, decide_eq_true hr]; rfl
          · rw [if_neg hr, decide_eq_false hr]; rfl
        · rw [if_neg hd, runA_bad]
          by_cases h48 : d = 48
          · subst h48
            rw [figs_nought]
            by_cases hr : r = []
            · rw [decide_eq_true (show (45 :: 48 :: r) = [45, 48] by rw [hr])]; rfl
            · rw [decide_eq_false hr, Bool.not_false, Bool.or_true]; rfl
          · rw [figs_bad (by omega), Bool.not_false, Bool.or_true]; rfl
    · rw [if_neg c45, if_neg (show ¬ (c :: r).head? = some 45 from fun z => c45 (by injection z)), decide_eq_false (show ¬ (c :: r) = [45, 48] from fun z => c45 (by injection z)), Bool.false_or, Bool.not_not]
      by_cases c48 : c = 48
      · subst c48
        rw [if_pos rfl, figs_nought]
        cases r with
        | nil => decide
        | cons d r =>
          have d93 : d ≠ 93 := fun z => h' (by rw [z]; exact List.mem_cons_self)
          show fin_ (runA (if d = 93 then .free else .bad) r) = _
          rw [if_neg d93, runA_bad, decide_eq_false (show ¬ (d :: r) = [] from fun z => by cases z)]
          rfl
      · rw [if_neg c48]
        by_cases hc : 49 ≤ c ∧ c ≤ 57
        · rw [if_pos hc, run_figs r 1 h' (by decide), figs_true hc]
          by_cases hr : 1 + r.length ≤ 60 ∧ ∀ x ∈ r, x ∈ digs
          · rw [if_pos hr, decide_eq_true hr]; rfl
          · rw [if_neg hr, decide_eq_false hr]; rfl
        · rw [if_neg hc, runA_bad, figs_bad (by omega)]; rfl
theorem res_figs93 {s : AS} (r : List Nat) (h : fin_ s = true) : resA s (93 :: r) = resA .free r := by
  cases s with
  | nought => rw [resA_0 rfl]; rfl
  | figs k =>
    rw [resA_0 rfl]
    show resA (if (48 ≤ 93 ∧ 93 ≤ 57) ∧ k < 60 then .figs (k + 1) else if 93 = 93 then .free else .bad) r = _
    rw [if_neg (by omega), if_pos rfl]
  | _ => cases h
def inC : AS → Bool
  | .free | .name _ | .under => false
  | .back => false
  | _ => true
theorem inC_at {s : AS} (h : inC s = true) : s.at_ = false := by cases s <;> first | rfl | cases h
theorem inC_step {s : AS} {c : Nat} (h : inC s = true) (hc : c ≠ 93) : inC (stepA s c) = true := by
  cases s with
  | op => show inC (if [c] ∈ condT then .sign else .bad) = true; split <;> rfl
  | sign => show inC (if c = 45 then .minus else if c = 48 then .nought else if 49 ≤ c ∧ c ≤ 57 then .figs 1 else .bad) = true; split; rfl; split; rfl; split <;> rfl
  | minus => show inC (if 49 ≤ c ∧ c ≤ 57 then .figs 1 else .bad) = true; split <;> rfl
  | figs k => show inC (if (48 ≤ c ∧ c ≤ 57) ∧ k < 60 then .figs (k + 1) else if c = 93 then .free else .bad) = true; rw [if_neg hc]; split <;> rfl
  | nought => show inC (if c = 93 then .free else .bad) = true; rw [if_neg hc]; rfl
  | bad => rfl
  | _ => cases h
theorem res_inC : ∀ {s : AS} (x r : List Nat), inC s = true → 93 ∉ x → resA s (x ++ r) = resA (runA s x) r ∧ inC (runA s x) = true
  | s, [], r, h, _ => ⟨rfl, h⟩
  | s, c :: x, r, h, hx => by
    have hc : c ≠ 93 := fun z => hx (by rw [z]; exact List.mem_cons_self)
    have ih := res_inC (s := stepA s c) x r (inC_step h hc) fun z => hx (List.mem_cons_of_mem _ z)
    rw [List.cons_append, resA_0 (inC_at h)]
    exact ih
theorem res_93bad {s : AS} (r : List Nat) (h : inC s = true) (hf : fin_ s = false) : resA s (93 :: r) = none := by
  rw [resA_0 (inC_at h)]
  cases s with
  | op => exact resA_bad r
  | sign => exact resA_bad r
  | minus => exact resA_bad r
  | bad => exact resA_bad r
  | nought => cases hf
  | figs k => cases hf
  | _ => cases h
theorem res_unshut {s : AS} {x : List Nat} (h : inC s = true) (hx : 93 ∉ x) : resA s x = none := by
  have := res_inC (s := s) x [] h hx
  rw [List.append_nil] at this
  rw [this.1]
  unfold resA
  rw [if_neg (by rw [show runA (runA s x) [] = runA s x from rfl, inC_at this.2]; decide)]
theorem res_cond {x r : List Nat} (hx : 93 ∉ x) : resA .op (x ++ 93 :: r) = if x.take 1 ∈ condT ∧ (readC (x.drop 1)).isSome = true then resA .free r else none := by
  cases x with
  | nil =>
    rw [if_neg (fun z => absurd z.1 (by decide))]
    exact res_93bad r rfl rfl
  | cons s num =>
    have hn : 93 ∉ num := fun z => hx (List.mem_cons_of_mem _ z)
    rw [List.cons_append, resA_0 rfl]
    show resA (if [s] ∈ condT then .sign else .bad) (num ++ 93 :: r) = if [s] ∈ condT ∧ (readC num).isSome = true then _ else none
    by_cases hs : [s] ∈ condT
    · rw [if_pos hs]
      have q := res_inC (s := .sign) num (93 :: r) rfl hn
      rw [q.1]
      have e := run_num hn
      cases hr : (readC num).isSome with
      | true => rw [if_pos ⟨hs, rfl⟩, res_figs93 r (by rw [e, hr])]
      | false => rw [if_neg (fun z => by cases z.2), res_93bad r q.2 (by rw [e, hr])]
    · rw [if_neg hs, if_neg (fun z => hs z.1), resA_bad]
end L2
set_option Elab.async false
set_option linter.all false
set_option maxRecDepth 100000
namespace L2
open PySem PySem.Spec PyProof.Rows
theorem dig_back {f : List Nat} (ne : f ≠ []) (h : NumText.AllDigits f) (hh : f.head? = some 48 → f = [48]) : digC (NumText.digitsVal f) = f := by
  unfold digC
  have e : Nat.toDigits 10 (NumText.digitsVal f) = f.map Char.ofNat := by
    cases f with
    | nil => exact absurd rfl ne
    | cons c r =>
      by_cases h48 : c = 48
      · have := hh (by rw [h48]; rfl)
        injection this with a b
        subst a b
        decide
      · exact NumText.toDigits_digitsVal r.length (c :: r) rfl h (.inr ⟨c, r, rfl, by have := h c List.mem_cons_self; omega⟩)
  rw [e, List.map_map]
  have all : ∀ c, 48 ≤ c → c ≤ 57 → (Char.ofNat c).toNat = c := by
    intro c h1 h2
    have : ∀ k, k < 58 → (Char.ofNat k).toNat = k := by decide
    exact this c (by omega)
  conv => rhs; rw [← List.map_id f]
  exact List.map_congr_left fun c hc => all c (h c hc).1 (h c hc).2
theorem dig_lt : ∀ (f : List Nat), NumText.AllDigits f → NumText.digitsVal f < 10 ^ f.length := fun f => by
  generalize hn : f.length = n
  induction n generalizing f with
  | zero =>
    intro _
    rw [List.length_eq_zero_iff.mp hn]
    decide
  | succ n ih =>
    intro h
    have ne : f ≠ [] := fun z => by rw [z] at hn; cases hn
    have e := List.dropLast_concat_getLast ne
    generalize f.dropLast = ini at e
    generalize f.getLast ne = c at e
    subst e
    rw [NumText.digitsVal_snoc]
    have hc : 48 ≤ c ∧ c ≤ 57 := h c (by simp)
    have := ih ini (by rw [List.length_append, List.length_singleton] at hn; omega) fun d hd => h d (List.mem_append_left _ hd)
    rw [Nat.pow_succ]
    omega
theorem figs_parts {f : List Nat} (h : figsC f = true) : f ≠ [] ∧ f.length ≤ 60 ∧ NumText.AllDigits f ∧ (f.head? = some 48 → f = [48]) := by
  unfold figsC at h
  have h1 := Bool.and_eq_true_iff.mp h
  have h2 := Bool.and_eq_true_iff.mp h1.1
  have h3 := of_decide_eq_true h2.1
  refine ⟨fun z => by rw [z] at h3; simp at h3, h3.2, fun c hc => mem_digs.mp (of_decide_eq_true (List.all_eq_true.mp h1.2 c hc)), fun z => ?_⟩
  by_cases q : f = [48]
  · exact q
  · have := h2.2
    rw [decide_eq_true z, decide_eq_true q] at this
    cases this
theorem read_back {l : List Nat} {n : Int} (h : readC l = some n) : numC n = l ∧ n.natAbs < 10 ^ 60 := by
  unfold readC at h
  by_cases hn : l = [45, 48] ∨ figsC (if l.head? = some 45 then l.drop 1 else l) = false
  · rw [if_pos hn] at h
    cases h
  rw [if_neg hn] at h
  have n1 : l ≠ [45, 48] := fun z => hn (.inl z)
  have hf : figsC (if l.head? = some 45 then l.drop 1 else l) = true := by
    cases q : figsC (if l.head? = some 45 then l.drop 1 else l) with
    | true => rfl
    | false => exact absurd (.inr q) hn
  injection h with h
  obtain ⟨f1, f2, f3, f4⟩ := figs_parts hf
  by_cases h45 : l.head? = some 45
  · rw [if_pos h45] at h f1 f2 f3 f4
    obtain ⟨r, rfl⟩ : ∃ r, l = 45 :: r := by
      cases l with
      | nil => cases h45
      | cons a r =>
        injection h45 with h45
        exact ⟨r, by rw [h45]⟩
    rw [List.drop_succ_cons, List.drop_zero] at h f1 f2 f3 f4
    have lt := dig_lt r f3
    have le : (10 : Nat) ^ r.length ≤ 10 ^ 60 := Nat.pow_le_pow_right (by decide) f2
    have pos : 0 < NumText.digitsVal r := by
      cases r with
      | nil => exact absurd rfl f1
      | cons d r =>
        by_cases h48 : d = 48
        · have := f4 (by rw [h48]; rfl)
          exact absurd (by rw [this]) n1
        · exact NumText.digitsVal_pos (by have := f3 d List.mem_cons_self; omega)
    subst h
    refine ⟨by rw [numC_neg pos, dig_back f1 f3 f4], ?_⟩
    rw [Int.natAbs_neg, Int.natAbs_natCast]
    exact Nat.lt_of_lt_of_le lt le
  · rw [if_neg h45] at h f1 f2 f3 f4
    have lt := dig_lt l f3
    have le : (10 : Nat) ^ l.length ≤ 10 ^ 60 := Nat.pow_le_pow_right (by decide) f2
    subst h
    refine ⟨by rw [numC_nat, dig_back f1 f3 f4], ?_⟩
    rw [Int.natAbs_natCast]
    exact Nat.lt_of_lt_of_le lt le
theorem res_edge {b : AS} {l : List Nat} (ha : b.at_ = true) (h : ∀ c, l.head? = some c → c ≠ 91 ∧ (b.isName = true → isL c = false)) : resA b l = resA .free l := by
  cases l with
  | nil =>
    unfold resA
    rw [show runA b [] = b from rfl, ha]
    rfl
  | cons c r =>
    obtain ⟨h1, h2⟩ := h c rfl
    have m1 : moreA b c = 1 := by
      unfold moreA
      rw [if_pos ⟨ha, h1, fun z => by rw [h2 z.1] at z; cases z.2⟩]
    have m2 : moreA .free c = 1 := by
      unfold moreA
      rw [if_pos ⟨rfl, h1, fun z => by cases z.1⟩]
    have s1 : stepA b c = begunA b c := by cases b <;> first | rfl | cases ha
    have s2 : begunA b c = begunA .free c := by
      unfold begunA
      by_cases hc : isL c = true
      · rw [if_pos hc, if_pos hc]
        cases b with
        | name k => rw [h2 rfl] at hc; cases hc
        | _ => first | rfl | cases ha
      · rw [if_neg hc, if_neg hc, if_neg (fun z : c = 91 ∧ b ≠ .free => h1 z.1), if_neg (fun z : c = 91 ∧ AS.free ≠ .free => h1 z.1)]
    rw [resA_cons, resA_cons, m1, m2, s1, s2]
    rfl
theorem pieceR_mark {l : List Nat} (h : ∀ c, l.head? = some c → c ∉ singles) : pieceR l = (markR l).map .mark := by
  unfold pieceR
  split
  · rename_i c
    rw [if_neg (h c rfl)]
  · rfl
def Good (n : Nat) (l : List Nat) : Prop := resA .free l = (cutP n l).map List.length ∧ ∀ row, cutP n l = some row → row.flatMap Pc.shown = l ∧ ∀ p ∈ row, PcW p
theorem good_none {n : Nat} {l : List Nat} (h1 : resA .free l = none) (h2 : cutP n l = none) : Good n l := ⟨by rw [h1, h2]; rfl, fun row e => by rw [h2] at e; cases e⟩
theorem good_cons {n k : Nat} {l : List Nat} {p : Pc} (ne : l ≠ []) (hk : pieceLen l = some k) (hp : pieceR (l.take k) = some p) (sh : p.shown = l.take k) (w : PcW p) (ih : Good n (l.drop k)) (hr : resA .free l = (resA .free (l.drop k)).map (1 + ·)) : Good (n + 1) l := by
  have e : cutP (n + 1) l = (cutP n (l.drop k)).map (p :: ·) := by
    show (if l = [] then some [] else match pieceLen l with | none => none | some k => match pieceR (l.take k) with | none => none | some p => (cutP n (l.drop k)).map (p :: ·)) = _
    rw [if_neg ne, hk]
    dsimp only
    rw [hp]
  refine ⟨?_, fun row er => ?_⟩
  · rw [hr, ih.1, e]
    cases cutP n (l.drop k) with
    | none => rfl
    | some row => exact congrArg some (Nat.add_comm 1 row.length)
  · rw [e] at er
    cases q : cutP n (l.drop k) with
    | none => rw [q] at er; cases er
    | some row' =>
      rw [q] at er
      injection er with er
      subst er
      obtain ⟨i1, i2⟩ := ih.2 row' q
      refine ⟨by rw [List.flatMap_cons, i1, sh, List.take_append_drop], fun x hx => ?_⟩
      rcases List.mem_cons.mp hx with rfl | hx
      · exact w
      · exact i2 x hx
theorem cut_none1 {n : Nat} {l : List Nat} (ne : l ≠ []) (h : pieceLen l = none) : cutP (n + 1) l = none := by
  show (if l = [] then some [] else match pieceLen l with | none => none | some k => match pieceR (l.take k) with | none => none | some p => (cutP n (l.drop k)).map (p :: ·)) = _
  rw [if_neg ne, h]
theorem cut_none2 {n k : Nat} {l : List Nat} (ne : l ≠ []) (h : pieceLen l = some k) (hp : pieceR (l.take k) = none) : cutP (n + 1) l = none := by
  show (if l = [] then some [] else match pieceLen l with | none => none | some k => match pieceR (l.take k) with | none => none | some p => (cutP n (l.drop k)).map (p :: ·)) = _
  rw [if_neg ne, h]
  dsimp only
  rw [hp]
theorem firstAt_at {c : Nat} : ∀ {l : List Nat} {j : Nat}, firstAt c l = some j → ∃ x r, l = x ++ c :: r ∧ x.length = j ∧ c ∉ x
  | [], j, h => by cases h
  | a :: r, j, h => by
    unfold firstAt at h
    by_cases e : a = c
    · rw [if_pos e] at h
      injection h with h
      exact ⟨[], r, by rw [e]; rfl, h, by simp⟩
    · rw [if_neg e] at h
      obtain ⟨i, hi, rfl⟩ := Option.map_eq_some_iff.mp h
      obtain ⟨x, r', rfl, hx, hn⟩ := firstAt_at hi
      exact ⟨a :: x, r', rfl, by rw [List.length_cons, hx], fun z => by
        rcases List.mem_cons.mp z with z | z
        · exact e z.symm
        · exact hn z⟩
theorem firstAt_none' {c : Nat} : ∀ {l : List Nat}, firstAt c l = none → c ∉ l
  | [], _ => by simp
  | a :: r, h => by
    unfold firstAt at h
    by_cases e : a = c
    · rw [if_pos e] at h; cases h
    · rw [if_neg e] at h
      have := firstAt_none' (Option.map_eq_none_iff.mp h)
      intro z
      rcases List.mem_cons.mp z with z | z
      · exact e z.symm
      · exact this z
theorem cut_mark {n : Nat} {l nm rest : List Nat} {back : Bool} {s : AS} (IH : ∀ r : List Nat, r.length ≤ n → Good n r) (hl : l.length ≤ n + 1)
    (el : l = (if back = true then [60] else []) ++ (nm ++ rest)) (hne : nm ≠ []) (h91 : 91 ∉ nm) (h60 : nm.head? ≠ some 60)
    (hp : pieceLen l = (condLen rest).map ((if back = true then 1 else 0) + nm.length + ·)) (hs1 : ∀ c, l.head? = some c → c ∉ singles)
    (gd : Bool) (hgd : gd = true ↔ (nm = [95] ∨ goodC nm = true)) (hres : resA .free l = if gd = true then (resA s rest).map (1 + ·) else none)
    (ha : s.at_ = true) (hsf : s ≠ .free) (hedge : s.isName = true → ∀ c, rest.head? = some c → isL c = false) : Good (n + 1) l := by
  have lne : l ≠ [] := fun z => by
    rw [z] at el
    have := (List.append_eq_nil_iff.mp el.symm).2
    exact hne (List.append_eq_nil_iff.mp this).1
  have nl : 0 < nm.length := List.length_pos_iff.mpr hne
  have bl : (if back = true then [60] else ([] : List Nat)).length = if back = true then 1 else 0 := by cases back <;> rfl
  have hd : ∀ y : List Nat, decide (((if back = true then [60] else []) ++ (nm ++ y)).head? = some 60) = back := fun y => by
    cases back with
    | true => rfl
    | false =>
      refine decide_eq_false fun z => h60 ?_
      cases nm with
      | nil => exact absurd rfl hne
      | cons a r => exact z
  have dr : ∀ y : List Nat, (if back = true then ((if back = true then [60] else []) ++ (nm ++ y)).drop 1 else (if back = true then [60] else []) ++ (nm ++ y)) = nm ++ y := fun y => by cases back <;> rfl
  have mr : ∀ y : List Nat, markR ((if back = true then [60] else []) ++ (nm ++ y)) = if (partC 91 (nm ++ y)).1 ≠ [95] ∧ goodC (partC 91 (nm ++ y)).1 = false then none else if (partC 91 (nm ++ y)).2.1 = [] then some ⟨(partC 91 (nm ++ y)).1, back, [], 0⟩
      else if (partC 91 (nm ++ y)).2.2.take 1 ∉ condT then none else (readC (((partC 91 (nm ++ y)).2.2.drop 1).take ((partC 91 (nm ++ y)).2.2.length - 2))).map fun k => ⟨(partC 91 (nm ++ y)).1, back, (partC 91 (nm ++ y)).2.2.take 1, k⟩ := fun y => by
    unfold markR
    dsimp only
    rw [hd y, dr y]
  generalize hbk : (if back = true then [60] else ([] : List Nat)) = bk at el mr bl
  generalize (if back = true then 1 else 0) = b1 at hp bl
  clear hd dr
  have gno : gd = false → (nm ≠ [95] ∧ goodC nm = false) := by
    intro z
    refine ⟨fun e => ?_, ?_⟩
    · rw [hgd.mpr (.inl e)] at z
      cases z
    · cases q : goodC nm with
      | false => rfl
      | true =>
        rw [hgd.mpr (.inr q)] at z
        cases z
  have gyes : gd = true → ¬ (nm ≠ [95] ∧ goodC nm = false) := fun z ⟨a, b⟩ => by
    rcases hgd.mp z with e | e
    · exact a e
    · rw [e] at b; cases b
  have wn : gd = true → (nm = [95] ∨ (1 ≤ nm.length ∧ nm.length ≤ 12 ∧ ∀ x ∈ nm, x ∈ abc)) := fun z => by
    rcases hgd.mp z with e | e
    · exact .inl e
    · unfold goodC at e
      have e := Bool.and_eq_true_iff.mp e
      have e1 := of_decide_eq_true e.1
      exact .inr ⟨e1.1, e1.2, fun x hx => of_decide_eq_true (List.all_eq_true.mp e.2 x hx)⟩
  have shd : ∀ (k : Nat) (c : Nat), (l.take k).head? = some c → c ∉ singles := fun k c h => hs1 c (by
    cases l with
    | nil => exact absurd rfl lne
    | cons a r =>
      cases k with
      | zero => cases h
      | succ k => exact h)
  by_cases hr : rest.head? = some 91
  · obtain ⟨x0, rfl⟩ : ∃ x0, rest = 91 :: x0 := by
      cases rest with
      | nil => cases hr
      | cons a r =>
        injection hr with hr
        exact ⟨r, by rw [hr]⟩
    have hop : resA s (91 :: x0) = resA .op x0 := by
      have m0 : moreA s 91 = 0 := by
        unfold moreA
        rw [if_neg (fun z => z.2.1 rfl)]
      have st : stepA s 91 = .op := by
        have : stepA s 91 = begunA s 91 := by cases s <;> first | rfl | cases ha
        rw [this]
        unfold begunA
        rw [if_neg (by decide), if_neg (by decide), if_neg (by decide), if_pos ⟨rfl, hsf⟩]
      rw [resA_cons, m0, st]
      cases resA .op x0 with
      | none => rfl
      | some k => exact congrArg some (Nat.zero_add k)
    have cl : condLen (91 :: x0) = (firstAt 93 x0).map (· + 2) := by
      unfold condLen
      rw [if_pos (show (91 :: x0).head? = some 91 from rfl)]
      show (((firstAt 93 x0).map (· + 1)).map (· + 1)) = _
      rw [Option.map_map]
      rfl
    rw [cl] at hp
    cases q : firstAt 93 x0 with
    | none =>
      rw [q] at hp
      refine good_none ?_ (cut_none1 lne hp)
      rw [hres, hop, res_unshut rfl (firstAt_none' q)]
      split <;> rfl
    | some j =>
      obtain ⟨x, r2, rfl, hx, h93⟩ := firstAt_at q
      rw [q] at hp
      have hp : pieceLen l = some (b1 + nm.length + (j + 2)) := hp
      have el2 : l = (bk ++ (nm ++ (91 :: x ++ [93]))) ++ r2 := by
        rw [el]
        simp only [List.append_assoc, List.cons_append, List.nil_append]
      have ln : (bk ++ (nm ++ (91 :: x ++ [93]))).length = b1 + nm.length + (j + 2) := by
        rw [List.length_append, bl, List.length_append, List.length_append, List.length_cons, List.length_singleton, hx]
        omega
      have tk : l.take (b1 + nm.length + (j + 2)) = bk ++ (nm ++ (91 :: x ++ [93])) := by rw [el2, ← ln, List.take_left]
      have dp : l.drop (b1 + nm.length + (j + 2)) = r2 := by rw [el2, ← ln, List.drop_left]
      have pc : partC 91 (nm ++ (91 :: x ++ [93])) = (nm, [91], x ++ [93]) := by
        unfold partC
        rw [show nm ++ (91 :: x ++ [93]) = nm ++ 91 :: (x ++ [93]) from rfl, firstAt_app h91]
        dsimp only
        rw [List.take_left, show nm.length + 1 = (nm ++ [91]).length by rw [List.length_append]; rfl, show nm ++ 91 :: (x ++ [93]) = (nm ++ [91]) ++ (x ++ [93]) by simp, List.drop_left]
      have m1 := mr (91 :: x ++ [93])
      rw [pc] at m1
      dsimp only at m1
      rw [if_neg (show ¬ ([91] : List Nat) = [] from fun z => by cases z)] at m1
      have pm := pieceR_mark (shd (b1 + nm.length + (j + 2)))
      rw [tk, m1] at pm
      rw [hop, res_cond h93] at hres
      have tx1 : (x ++ [93]).take 1 ∈ condT ↔ x.take 1 ∈ condT := by
        cases x with
        | nil => exact ⟨fun z => absurd z (by decide), fun z => absurd z (by decide)⟩
        | cons a r => exact Iff.rfl
      cases hg : gd with
      | false =>
        rw [hg, if_neg Bool.false_ne_true] at hres
        rw [if_pos (gno hg)] at pm
        exact good_none hres (cut_none2 lne hp (by rw [tk]; exact pm))
      | true =>
        rw [hg, if_pos rfl] at hres
        rw [if_neg (gyes hg)] at pm
        by_cases ht : x.take 1 ∈ condT
        · rw [if_neg (fun z => z (tx1.mpr ht))] at pm
          obtain ⟨a, num, rfl⟩ : ∃ a num, x = a :: num := by
            cases x with
            | nil => exact absurd ht (by decide)
            | cons a r => exact ⟨a, r, rfl⟩
          have nn : ((a :: num ++ [93]).drop 1).take ((a :: num ++ [93]).length - 2) = num := by
            rw [List.cons_append, List.drop_succ_cons, List.drop_zero, List.length_cons, List.length_append, List.length_singleton, show num.length + 1 + 1 - 2 = num.length by omega, List.take_left]
          rw [nn] at pm
          have d1 : (a :: num).drop 1 = num := rfl
          rw [d1] at hres
          cases hc : readC num with
          | none =>
            rw [hc] at hres pm
            rw [if_neg (fun z => by cases z.2)] at hres
            exact good_none hres (cut_none2 lne hp (by rw [tk]; exact pm))
          | some k =>
            obtain ⟨br1, b2⟩ := read_back hc
            rw [hc, if_pos ⟨ht, rfl⟩] at hres
            rw [hc] at pm
            have sg : [a] ∈ [[], [60], [62], [61], [33]] := List.mem_cons_of_mem _ (show [a] ∈ condT from ht)
            refine good_cons (p := .mark ⟨nm, back, [a], k⟩) lne hp (by rw [tk]; exact pm) ?_ ⟨wn hg, sg, b2, fun z => by cases z⟩ ?_ ?_
            · rw [tk]
              show markT _ = _
              unfold markT condC
              dsimp only
              rw [hbk, if_neg (show ¬ ([a] : List Nat) = [] from fun z => by cases z), br1]
              simp
            · rw [dp]
              refine IH r2 ?_
              have := congrArg List.length el2
              rw [List.length_append, ln] at this
              omega
            · rw [dp]
              exact hres
        · rw [if_pos (fun z => ht (tx1.mp z))] at pm
          rw [if_neg (fun z => ht z.1)] at hres
          exact good_none hres (cut_none2 lne hp (by rw [tk]; exact pm))
  · have cl : condLen rest = some 0 := by
      unfold condLen
      rw [if_neg hr]
    rw [cl] at hp
    have hp : pieceLen l = some (b1 + nm.length) := hp
    have el2 : l = (bk ++ (nm ++ [])) ++ rest := by
      rw [el, List.append_nil, List.append_assoc]
    have ln : (bk ++ (nm ++ [])).length = b1 + nm.length := by
      rw [List.length_append, bl, List.append_nil]
    have tk : l.take (b1 + nm.length) = bk ++ (nm ++ []) := by rw [el2, ← ln, List.take_left]
    have dp : l.drop (b1 + nm.length) = rest := by rw [el2, ← ln, List.drop_left]
    have pc : partC 91 (nm ++ []) = (nm, [], []) := by
      unfold partC
      rw [List.append_nil, firstAt_not h91]
    have m1 := mr []
    rw [pc] at m1
    dsimp only at m1
    rw [if_pos rfl] at m1
    have pm := pieceR_mark (shd (b1 + nm.length))
    rw [tk, m1] at pm
    have ed : resA s rest = resA .free rest := res_edge ha fun c hc => ⟨fun z => hr (by rw [hc, z]), fun z => hedge z c hc⟩
    rw [ed] at hres
    cases hg : gd with
    | false =>
      rw [hg, if_neg Bool.false_ne_true] at hres
      rw [if_pos (gno hg)] at pm
      exact good_none hres (cut_none2 lne hp (by rw [tk]; exact pm))
    | true =>
      rw [hg, if_pos rfl] at hres
      rw [if_neg (gyes hg)] at pm
      refine good_cons (p := .mark ⟨nm, back, [], 0⟩) lne hp (by rw [tk]; exact pm) ?_ ⟨wn hg, by simp, by show (0 : Int).natAbs < 10 ^ 60; decide, fun _ => rfl⟩ ?_ ?_
      · rw [tk]
        show markT _ = _
        unfold markT condC
        dsimp only
        rw [hbk, if_pos rfl]
      · rw [dp]
        refine IH rest ?_
        have := congrArg List.length el2
        rw [List.length_append, ln] at this
        omega
      · rw [dp]
        exact hres
end L2
set_option Elab.async false
set_option linter.all false
set_option maxRecDepth 100000
namespace L2
open PySem PySem.Spec PyProof.Rows
theorem sing_no {c : Nat} (h : c ∈ singles) : isL c = false ∧ c ≠ 95 ∧ c ≠ 60 ∧ c ≠ 91 := by
  have all : ∀ c ∈ singles, isL c = false ∧ c ≠ 95 ∧ c ≠ 60 ∧ c ≠ 91 := by decide
  exact all c h
theorem isL_no {c : Nat} (h : isL c = true) : c ≠ 95 ∧ c ≠ 60 ∧ c ≠ 91 := by
  have := mem_abc.mp (of_decide_eq_true h)
  omega
theorem good_len {a : List Nat} (h : ∀ x ∈ a, isL x = true) (h0 : a ≠ []) : (goodC a = true ↔ a.length ≤ 12) := by
  unfold goodC
  have e : (a.all fun c => decide (c ∈ abc)) = true := List.all_eq_true.mpr h
  rw [e, Bool.and_true, decide_eq_true_eq]
  have := List.length_pos_iff.mpr h0
  omega
theorem takeW_all : ∀ (l : List Nat), ∀ x ∈ l.takeWhile isL, isL x = true
  | [], x, h => by cases h
  | c :: r, x, h => by
    rw [List.takeWhile_cons] at h
    cases q : isL c with
    | true =>
      rw [q, if_pos rfl] at h
      rcases List.mem_cons.mp h with rfl | h
      · exact q
      · exact takeW_all r x h
    | false =>
      rw [q, if_neg Bool.false_ne_true] at h
      cases h
theorem dropW_head : ∀ (l : List Nat) (c : Nat), (l.drop (l.takeWhile isL).length).head? = some c → isL c = false
  | [], c, h => by cases h
  | d :: r, c, h => by
    rw [List.takeWhile_cons] at h
    cases q : isL d with
    | true =>
      rw [q, if_pos rfl, List.length_cons, List.drop_succ_cons] at h
      exact dropW_head r c h
    | false =>
      rw [q, if_neg Bool.false_ne_true, List.length_nil, List.drop_zero] at h
      injection h with h
      rw [← h]
      exact q
theorem takeW_split (l : List Nat) : l = l.takeWhile isL ++ l.drop (l.takeWhile isL).length := by
  induction l with
  | nil => rfl
  | cons c r ih =>
    rw [List.takeWhile_cons]
    cases q : isL c with
    | true =>
      rw [if_pos rfl, List.length_cons, List.drop_succ_cons, List.cons_append]
      exact congrArg (c :: ·) ih
    | false => rw [if_neg Bool.false_ne_true]; rfl
theorem cut_good : ∀ (n : Nat) (l : List Nat), l.length ≤ n → Good n l
  | 0, l, h => by
    rw [List.length_eq_zero_iff.mp (Nat.le_zero.mp h)]
    exact ⟨rfl, fun row e => by injection e with e; rw [← e]; exact ⟨rfl, fun p hp => nomatch hp⟩⟩
  | n + 1, [], h => ⟨rfl, fun row e => by injection e with e; rw [← e]; exact ⟨rfl, fun p hp => nomatch hp⟩⟩
  | n + 1, c :: r, h => by
    have IH := cut_good n
    have lne : c :: r ≠ [] := fun z => by cases z
    by_cases hs : c ∈ singles
    · obtain ⟨s1, s2, s3, s4⟩ := sing_no hs
      refine good_cons (k := 1) (p := .sign c) lne (by show (if c ∈ singles then some 1 else _) = _; rw [if_pos hs]) (by show (if c ∈ singles then some (Pc.sign c) else _) = _; rw [if_pos hs]) rfl hs (IH r (by rw [List.length_cons] at h; omega)) ?_
      have st : stepA .free c = .free := by
        show begunA _ c = _
        unfold begunA
        rw [if_neg (by rw [s1]; decide), if_neg s2, if_neg s3, if_neg (fun z => s4 z.1), if_pos hs]
      have mo : moreA .free c = 1 := by
        unfold moreA
        rw [if_pos ⟨rfl, s4, fun z => by cases z.1⟩]
      rw [resA_cons, st, mo]
      rfl
    obtain ⟨back, body, el, hst, hdr, hb⟩ : ∃ (back : Bool) (body : List Nat), c :: r = (if back = true then [60] else []) ++ body ∧ (if c = 60 then 1 else 0) = (if back = true then 1 else 0) ∧ (c :: r).drop (if back = true then 1 else 0) = body ∧ (back = false → c ≠ 60 ∧ body = c :: r) := by
      by_cases h60 : c = 60
      · exact ⟨true, r, by rw [h60]; rfl, by rw [if_pos h60]; rfl, rfl, fun z => by cases z⟩
      · exact ⟨false, c :: r, rfl, by rw [if_neg h60]; rfl, rfl, fun _ => ⟨h60, rfl⟩⟩
    have pl : pieceLen (c :: r) = (condLen (body.drop (nameLen body))).map ((if back = true then 1 else 0) + nameLen body + ·) := by
      show (if c ∈ singles then some 1 else (condLen ((c :: r).drop ((if c = 60 then 1 else 0) + nameLen ((c :: r).drop (if c = 60 then 1 else 0))))).map (((if c = 60 then 1 else 0) + nameLen ((c :: r).drop (if c = 60 then 1 else 0))) + ·)) = _
      rw [if_neg hs, hst, ← List.drop_drop, hdr]
    have hs1 : ∀ d, (c :: r).head? = some d → d ∉ singles := fun d hd => by
      injection hd with hd
      rw [← hd]
      exact hs
    have start : ∀ (d : Nat) (y : List Nat) (s : AS), body = d :: y → (d = 95 ∨ isL d = true) → begunA .free d = s → resA .free (c :: r) = (resA s y).map (1 + ·) := by
      intro d y s eb hd es
      have n91 : d ≠ 91 := by
        rcases hd with e | e
        · rw [e]; decide
        · exact (isL_no e).2.2
      cases back with
      | true =>
        have e60 : c = 60 ∧ r = body := by
          rw [if_pos rfl] at el
          injection el with a b
          exact ⟨a, b⟩
        obtain ⟨rfl, rfl⟩ := e60
        have m1 : moreA .free 60 = 1 := rfl
        have s1 : stepA .free 60 = .back := rfl
        rw [resA_cons, m1, s1, eb, resA_0 rfl]
        have s2 : stepA .back d = s := by
          show (if d = 95 ∨ isL d = true then begunA .free d else .bad) = _
          rw [if_pos hd, es]
        rw [s2]
      | false =>
        obtain ⟨n60, e⟩ := hb rfl
        rw [← e, eb, resA_cons]
        have s1 : stepA .free d = s := es
        have m1 : moreA .free d = 1 := by
          unfold moreA
          rw [if_pos ⟨rfl, n91, fun z => by cases z.1⟩]
        rw [s1, m1]
    by_cases h95 : body.head? = some 95
    · obtain ⟨y, ey⟩ : ∃ y, body = 95 :: y := by
        cases body with
        | nil => cases h95
        | cons d y =>
          injection h95 with h95
          exact ⟨y, by rw [h95]⟩
      have nl : nameLen body = 1 := by unfold nameLen; rw [if_pos h95]
      rw [nl, ey, List.drop_succ_cons, List.drop_zero] at pl
      refine cut_mark (nm := [95]) (rest := y) (back := back) (s := .under) (fun r hr => IH r hr) h (by rw [el, ey]; rfl) (by simp) (by simp) (by simp) pl hs1 true ⟨fun _ => .inl rfl, fun _ => rfl⟩ ?_ rfl (fun z => by cases z) (fun z => by cases z)
      rw [if_pos rfl]
      exact start 95 y .under ey (.inl rfl) rfl
    · have nl : nameLen body = (body.takeWhile isL).length := by unfold nameLen; rw [if_neg h95]
      have sp := takeW_split body
      have hd := dropW_head body
      have al := takeW_all body
      rw [nl] at pl
      cases q : body.takeWhile isL with
      | cons a0 a =>
        rw [q] at pl sp hd al
        generalize body.drop (a0 :: a).length = rest at pl sp hd
        have ha0 := al a0 List.mem_cons_self
        refine cut_mark (nm := a0 :: a) (rest := rest) (back := back) (s := .name (1 + a.length)) (fun r hr => IH r hr) h (by rw [el, sp]) (by simp) (fun z => (isL_no (al 91 z)).2.2 rfl) (fun z => by injection z with z; exact (isL_no ha0).2.1 z) pl hs1 (decide ((a0 :: a).length ≤ 12)) ?_ ?_ rfl (fun z => by cases z) (fun _ c hc => hd c hc)
        · rw [decide_eq_true_eq, ← good_len al (by simp)]
          refine ⟨.inr, fun z => ?_⟩
          rcases z with z | z
          · injection z with z _
            exact absurd z (isL_no ha0).1
          · exact z
        · have es : begunA .free a0 = .name 1 := by
            unfold begunA
            rw [if_pos ha0]
          rw [start a0 (a ++ rest) (.name 1) sp (.inr ha0) es, res_letters a 1 rest fun x hx => al x (List.mem_cons_of_mem _ hx)]
          by_cases hl : (a0 :: a).length ≤ 12
          · rw [if_pos (decide_eq_true hl), if_pos (.inl (by rw [List.length_cons] at hl; omega))]
          · rw [if_neg (show ¬ decide ((a0 :: a).length ≤ 12) = true by rw [decide_eq_false hl]; decide), if_neg (show ¬ (1 + a.length ≤ 12 ∨ a = []) by
              rintro (z | z)
              · rw [List.length_cons] at hl; omega
              · rw [z] at hl; exact hl (by simp))]
            rfl
      | nil =>
        rw [q] at pl sp hd
        rw [List.length_nil, List.drop_zero] at pl hd
        have none1 : resA .free (c :: r) = none := by
          cases back with
          | true =>
            have e60 : c = 60 ∧ r = body := by
              rw [if_pos rfl] at el
              injection el with a b
              exact ⟨a, b⟩
            obtain ⟨rfl, rfl⟩ := e60
            have m1 : moreA .free 60 = 1 := rfl
            have s1 : stepA .free 60 = .back := rfl
            rw [resA_cons, m1, s1]
            cases r with
            | nil => rfl
            | cons d y =>
              have hl := hd d rfl
              have h9 : d ≠ 95 := fun z => h95 (by rw [z]; rfl)
              rw [resA_0 rfl]
              have s2 : stepA .back d = .bad := by
                show (if d = 95 ∨ isL d = true then begunA .free d else .bad) = _
                rw [if_neg (by rintro (z | z); exact h9 z; rw [hl] at z; cases z)]
              rw [s2, resA_bad]
              rfl
          | false =>
            obtain ⟨n60, e⟩ := hb rfl
            rw [e] at hd h95
            have hl := hd c rfl
            have h9 : c ≠ 95 := fun z => h95 (by rw [z]; rfl)
            have s1 : stepA .free c = .bad := by
              show begunA _ c = _
              unfold begunA
              rw [if_neg (by rw [hl]; decide), if_neg h9, if_neg n60, if_neg (fun z => z.2 rfl), if_neg hs]
            rw [resA_cons, s1, resA_bad]
            rfl
        cases hc : condLen body with
        | none =>
          rw [hc] at pl
          exact good_none none1 (cut_none1 lne pl)
        | some k =>
          rw [hc] at pl
          have pl : pieceLen (c :: r) = some ((if back = true then 1 else 0) + 0 + k) := pl
          have pm : pieceR ((c :: r).take ((if back = true then 1 else 0) + 0 + k)) = none := by
            rw [pieceR_mark (fun d hd => ?_)]
            · have nm : (partC 91 (body.take k)).1 = [] := by
                cases body with
                | nil => rw [List.take_nil]; rfl
                | cons d y =>
                  by_cases h91 : d = 91
                  · subst h91
                    cases k with
                    | zero => rfl
                    | succ k =>
                      unfold partC
                      rw [List.take_succ_cons]
                      rfl
                  · unfold condLen at hc
                    rw [if_neg (show ¬ (d :: y).head? = some 91 from fun z => h91 (by injection z))] at hc
                    injection hc with hc
                    rw [← hc]
                    rfl
              have e1 : (c :: r).take ((if back = true then 1 else 0) + 0 + k) = (if back = true then [60] else []) ++ body.take k := by
                rw [el]
                cases back with
                | true =>
                  show (60 :: body).take (1 + 0 + k) = 60 :: body.take k
                  rw [show 1 + 0 + k = k + 1 by omega, List.take_succ_cons]
                | false =>
                  show body.take (0 + 0 + k) = body.take k
                  rw [show 0 + 0 + k = k by omega]
              rw [e1]
              have mn : markR ((if back = true then [60] else []) ++ body.take k) = none := by
                have e3 : (if decide (((if back = true then [60] else []) ++ body.take k).head? = some 60) = true then ((if back = true then [60] else []) ++ body.take k).drop 1 else (if back = true then [60] else []) ++ body.take k) = body.take k := by
                  cases back with
                  | true => rfl
                  | false =>
                    obtain ⟨n60, e⟩ := hb rfl
                    have e2 : ¬ decide (((if false = true then [60] else []) ++ body.take k).head? = some 60) = true := by
                      rw [decide_eq_true_eq]
                      intro z
                      rw [if_neg Bool.false_ne_true, List.nil_append, e] at z
                      cases k with
                      | zero => cases z
                      | succ k =>
                        rw [List.take_succ_cons] at z
                        injection z with z
                        exact n60 z
                    rw [if_neg e2]
                    rfl
                unfold markR
                dsimp only
                rw [e3, nm, if_pos ⟨by simp, by decide⟩]
              rw [mn]
              rfl
            · refine hs1 d ?_
              generalize (if back = true then 1 else 0) + 0 + k = m at hd
              cases m with
              | zero => cases hd
              | succ m => exact hd
          exact good_none none1 (cut_none2 lne pl pm)
end L2
set_option Elab.async false
set_option linter.all false
set_option maxRecDepth 100000
namespace L2
open PySem PySem.Spec PyProof.Rows PySem.W
section
variable {K : Frag} {S : Addr} {cs : List Addr} {C : Addr}
theorem XSet.one (T : XSet K S cs) (M : XMat K cs) (h : C ∈ cs) : XSet K C [C] := by
  refine ⟨?_, by simp⟩
  have e := T.row h
  simp only [Prod.mk.injEq] at e
  have m := M.hit h
  have k := T.two h h
  rw [decide_eq_true rfl] at k
  simp only [List.map_cons, List.map_nil, List.cons.injEq, and_true, Prod.mk.injEq]
  refine ⟨e.1, e.2.1, e.2.2.1, m, e.2.2.2.2.1, ?_⟩
  rw [k]
  simp
structure XSup (K : Frag) (S : Addr) (cs : List Addr) : Prop where
  rows : cs.map (fun C => kitOne K (.ref C) (.ref S)) = cs.map fun _ => some true
theorem XSup.at_ (T : XSup K S cs) (h : C ∈ cs) : kitOne K (.ref C) (.ref S) = some true := (List.map_inj_left.mp T.rows) C h
end
def rIsS (cs : List Addr) (S : Addr) : List V → Hp → VK → Prop := fun xs H Q => ∃ a : Addr, xs = [.ref a, .ref S] ∧ ∃ C : Addr, H a = some (hoExc a C) ∧ C ∈ cs ∧ Q (.bl true) H
section
variable {X : Cx} {S : Addr} {cs : List Addr}
theorem call_isSs (T : XSet X.K S cs) (U : XSup X.K S cs) : CallR X (.builtin "isinstance") (rIsS cs S) := by
  intro pins s σ H xs us Q I r h
  obtain ⟨a, rfl, C, ha, hC, q⟩ := h
  exact call_isX pins s σ H _ us Q I r ⟨a, C, _, _, rfl, ha, T.look hC, .inl ⟨S, rfl, U.at_ hC⟩, q⟩
end
end L2
set_option Elab.async false
set_option linter.all false
set_option maxRecDepth 100000
namespace L2
open PySem PySem.Spec PyProof.Rows
theorem pieceR_nil : pieceR [] = none := by decide
theorem cut_fuel : ∀ (n m : Nat) (l : List Nat), l.length ≤ n → l.length ≤ m → cutP n l = cutP m l
  | 0, m, l, h, _ => by
    rw [List.length_eq_zero_iff.mp (Nat.le_zero.mp h)]
    cases m <;> rfl
  | n + 1, 0, l, _, h => by
    rw [List.length_eq_zero_iff.mp (Nat.le_zero.mp h)]
    rfl
  | n + 1, m + 1, l, h1, h2 => by
    by_cases e : l = []
    · rw [e]; rfl
    show (if l = [] then some [] else match pieceLen l with | none => none | some k => match pieceR (l.take k) with | none => none | some p => (cutP n (l.drop k)).map (p :: ·)) = (if l = [] then some [] else match pieceLen l with | none => none | some k => match pieceR (l.take k) with | none => none | some p => (cutP m (l.drop k)).map (p :: ·))
    rw [if_neg e, if_neg e]
    cases pieceLen l with
    | none => rfl
    | some k =>
      dsimp only
      cases q : pieceR (l.take k) with
      | none => rfl
      | some p =>
        dsimp only
        have k0 : k ≠ 0 := fun z => by rw [z, List.take_zero, pieceR_nil] at q; cases q
        have := List.length_pos_iff.mpr e
        rw [cut_fuel n m (l.drop k) (by rw [List.length_drop]; omega) (by rw [List.length_drop]; omega)]
theorem cut_step {l : List Nat} (ne : l ≠ []) : cutP l.length l = match pieceLen l with
    | none => none
    | some k => match pieceR (l.take k) with
      | none => none
      | some p => (cutP (l.drop k).length (l.drop k)).map (p :: ·) := by
  obtain ⟨n, hn⟩ : ∃ n, l.length = n + 1 := ⟨l.length - 1, by have := List.length_pos_iff.mpr ne; omega⟩
  rw [hn]
  show (if l = [] then some [] else match pieceLen l with | none => none | some k => match pieceR (l.take k) with | none => none | some p => (cutP n (l.drop k)).map (p :: ·)) = _
  rw [if_neg ne]
  cases pieceLen l with
  | none => rfl
  | some k =>
    dsimp only
    cases q : pieceR (l.take k) with
    | none => rfl
    | some p =>
      dsimp only
      have k0 : k ≠ 0 := fun z => by rw [z, List.take_zero, pieceR_nil] at q; cases q
      rw [cut_fuel n (l.drop k).length (l.drop k) (by rw [List.length_drop]; omega) (Nat.le_refl _)]
theorem pieceR_sing {l : List Nat} (h : l ∈ singT) : ∃ c, l = [c] ∧ c ∈ singles ∧ pieceR l = some (.sign c) := by
  obtain ⟨c, rfl⟩ : ∃ c, l = [c] := by
    unfold singT at h
    simp only [List.mem_cons, List.not_mem_nil, or_false] at h
    rcases h with h | h | h | h | h | h | h <;> exact ⟨_, h⟩
  have hc := singT_mem.mp h
  exact ⟨c, rfl, hc, by show (if c ∈ singles then some (Pc.sign c) else _) = _; rw [if_pos hc]⟩
theorem pieceR_not {l : List Nat} (h : l ∉ singT) : pieceR l = (markR l).map .mark := by
  unfold pieceR
  split
  · rename_i c
    rw [if_neg (fun z => h (singT_mem.mpr z))]
  · rfl
theorem firstAt_lt {c : Nat} {l : List Nat} {j : Nat} (h : firstAt c l = some j) : j < l.length := by
  obtain ⟨x, r, rfl, hx, _⟩ := firstAt_at h
  rw [List.length_append, List.length_cons]
  omega
theorem condLen_le {l : List Nat} {k : Nat} (h : condLen l = some k) : k ≤ l.length := by
  unfold condLen at h
  split at h
  · obtain ⟨j, hj, rfl⟩ := Option.map_eq_some_iff.mp h
    have := firstAt_lt hj
    omega
  · injection h with h
    omega
theorem nameLen_le (l : List Nat) : nameLen l ≤ l.length := by
  unfold nameLen
  split
  · rename_i h
    cases l with
    | nil => cases h
    | cons a r => rw [List.length_cons]; omega
  · exact (List.takeWhile_sublist isL).length_le
theorem pieceLen_le {l : List Nat} {k : Nat} (h : pieceLen l = some k) : k ≤ l.length := by
  cases l with
  | nil => cases h
  | cons c r =>
    have h : (if c ∈ singles then some 1 else (condLen ((c :: r).drop ((if c = 60 then 1 else 0) + nameLen ((c :: r).drop (if c = 60 then 1 else 0))))).map (((if c = 60 then 1 else 0) + nameLen ((c :: r).drop (if c = 60 then 1 else 0))) + ·)) = some k := h
    by_cases hs : c ∈ singles
    · rw [if_pos hs] at h
      injection h with h
      rw [List.length_cons]
      omega
    · rw [if_neg hs] at h
      obtain ⟨j, hj, rfl⟩ := Option.map_eq_some_iff.mp h
      have h1 := condLen_le hj
      have h2 := nameLen_le ((c :: r).drop (if c = 60 then 1 else 0))
      rw [List.length_drop] at h1 h2
      have : (if c = 60 then 1 else 0) ≤ (c :: r).length := by rw [List.length_cons]; split <;> omega
      omega
def AS.word : AS → Nm
  | .free => [102, 114, 101, 101]
  | .name _ => [110, 97, 109, 101]
  | .under => [117, 110, 100, 101, 114]
  | .back => [98, 97, 99, 107]
  | .op => [111, 112, 101, 110]
  | .sign => [115, 105, 103, 110]
  | .minus => [109, 105, 110, 117, 115]
  | .nought => [110, 111, 117, 103, 104, 116]
  | .figs _ => [102, 105, 103, 117, 114, 101, 115]
  | .bad => [98, 97, 100]
def AS.many : AS → Nat
  | .name k => k
  | .figs k => k
  | _ => 0
theorem run_snoc : ∀ (s : AS) (l : List Nat) (c : Nat), runA s (l ++ [c]) = stepA (runA s l) c
  | s, [], c => rfl
  | s, d :: l, c => run_snoc (stepA s d) l c
theorem cnt_snoc : ∀ (s : AS) (l : List Nat) (c : Nat), cntA s (l ++ [c]) = cntA s l + moreA (runA s l) c
  | s, [], c => by show moreA s c + 0 = 0 + moreA s c; omega
  | s, d :: l, c => by
    show moreA s d + cntA (stepA s d) (l ++ [c]) = moreA s d + cntA (stepA s d) l + moreA (runA (stepA s d) l) c
    rw [cnt_snoc]
    omega
end L2
set_option Elab.async false
set_option linter.all false
set_option maxRecDepth 100000
namespace L2
open PySem PySem.Spec PyProof.Rows
def two (l : List Nat) : Prop := (partC 91 (if decide (l.head? = some 60) = true then l.drop 1 else l)).2.2.take 1 ∈ condT → 2 ≤ (partC 91 (if decide (l.head? = some 60) = true then l.drop 1 else l)).2.2.length
theorem name_split (body : List Nat) : ∃ nm, body = nm ++ body.drop (nameLen body) ∧ nm.length = nameLen body ∧ 91 ∉ nm := by
  unfold nameLen
  by_cases h : body.head? = some 95
  · rw [if_pos h]
    cases body with
    | nil => cases h
    | cons a r =>
      injection h with h
      exact ⟨[95], by rw [h]; rfl, rfl, by decide⟩
  · rw [if_neg h]
    exact ⟨body.takeWhile isL, takeW_split body, rfl, fun z => (isL_no (takeW_all body 91 z)).2.2 rfl⟩
theorem cond_two {nm rest : List Nat} {k : Nat} (h91 : 91 ∉ nm) (hc : condLen rest = some k) : (partC 91 ((nm ++ rest).take (nm.length + k))).2.2.take 1 ∈ condT → 2 ≤ (partC 91 ((nm ++ rest).take (nm.length + k))).2.2.length := by
  rw [show (nm ++ rest).take (nm.length + k) = nm ++ rest.take k by rw [List.take_append, List.take_of_length_le (by omega), Nat.add_sub_cancel_left]]
  by_cases hr : rest.head? = some 91
  · obtain ⟨x0, rfl⟩ : ∃ x0, rest = 91 :: x0 := by
      cases rest with
      | nil => cases hr
      | cons a r =>
        injection hr with hr
        exact ⟨r, by rw [hr]⟩
    unfold condLen at hc
    rw [if_pos hr] at hc
    obtain ⟨j, hj, rfl⟩ := Option.map_eq_some_iff.mp hc
    obtain ⟨x, r2, e, hx, _⟩ := firstAt_at hj
    cases x with
    | nil => injection e with e _; cases e
    | cons a x =>
      injection e with e1 e2
      subst e1 e2
      rw [List.length_cons] at hx
      have tk : (91 :: (x ++ 93 :: r2)).take (j + 1) = 91 :: (x ++ [93]) := by
        rw [List.take_succ_cons, show x ++ 93 :: r2 = (x ++ [93]) ++ r2 by simp, List.take_left' (by rw [List.length_append]; exact hx)]
      have tk' : (91 :: (x.append (93 :: r2))).take (j + 1) = 91 :: (x ++ [93]) := tk
      rw [tk']
      have pc : partC 91 (nm ++ 91 :: (x ++ [93])) = (nm, [91], x ++ [93]) := by
        unfold partC
        rw [firstAt_app h91]
        dsimp only
        rw [List.take_left, show nm.length + 1 = (nm ++ [91]).length by rw [List.length_append]; rfl, show nm ++ 91 :: (x ++ [93]) = (nm ++ [91]) ++ (x ++ [93]) by simp, List.drop_left]
      rw [pc]
      dsimp only
      intro ht
      cases x with
      | nil => exact absurd ht (by decide)
      | cons b y => rw [List.length_append, List.length_cons, List.length_singleton]; omega
  · unfold condLen at hc
    rw [if_neg hr] at hc
    injection hc with hc
    subst hc
    rw [List.take_zero, List.append_nil]
    unfold partC
    rw [firstAt_not h91]
    exact fun z => absurd (show ([] : List Nat).take 1 ∈ condT from z) (by decide)
theorem part_two {l : List Nat} {k : Nat} (h : pieceLen l = some k) : two (l.take k) := by
  cases l with
  | nil => cases h
  | cons c r =>
    have h : (if c ∈ singles then some 1 else (condLen ((c :: r).drop ((if c = 60 then 1 else 0) + nameLen ((c :: r).drop (if c = 60 then 1 else 0))))).map (((if c = 60 then 1 else 0) + nameLen ((c :: r).drop (if c = 60 then 1 else 0))) + ·)) = some k := h
    by_cases hs : c ∈ singles
    · rw [if_pos hs] at h
      injection h with h
      subst h
      unfold two
      have all : ∀ c ∈ singles, (partC 91 (if decide (((c :: r).take 1).head? = some 60) = true then ((c :: r).take 1).drop 1 else (c :: r).take 1)).2.2.take 1 ∉ condT := by
        intro c hc
        show (partC 91 (if decide (([c] : List Nat).head? = some 60) = true then ([c] : List Nat).drop 1 else [c])).2.2.take 1 ∉ condT
        have : ∀ c ∈ singles, (partC 91 (if decide (([c] : List Nat).head? = some 60) = true then ([c] : List Nat).drop 1 else [c])).2.2.take 1 ∉ condT := by decide
        exact this c hc
      exact fun z => absurd z (all c hs)
    rw [if_neg hs] at h
    unfold two
    by_cases h60 : c = 60
    · subst h60
      rw [if_pos rfl] at h
      obtain ⟨k2, hk, rfl⟩ := Option.map_eq_some_iff.mp h
      rw [← List.drop_drop, List.drop_succ_cons, List.drop_zero] at hk
      rw [show (60 :: r).drop 1 = r from rfl]
      obtain ⟨nm, e, nl, h91⟩ := name_split r
      generalize r.drop (nameLen r) = rest at e hk
      rw [← nl, show 1 + nm.length + k2 = (nm.length + k2) + 1 by omega, List.take_succ_cons]
      show (partC 91 (r.take (nm.length + k2))).2.2.take 1 ∈ condT → 2 ≤ (partC 91 (r.take (nm.length + k2))).2.2.length
      rw [e]
      exact cond_two h91 hk
    · rw [if_neg h60, List.drop_zero, Nat.zero_add] at h
      obtain ⟨k2, hk, rfl⟩ := Option.map_eq_some_iff.mp h
      obtain ⟨nm, e, nl, h91⟩ := name_split (c :: r)
      generalize (c :: r).drop (nameLen (c :: r)) = rest at e hk
      have hd : ¬ decide (((c :: r).take (nameLen (c :: r) + k2)).head? = some 60) = true := by
        rw [decide_eq_true_eq]
        generalize nameLen (c :: r) + k2 = m
        cases m with
        | zero => exact fun z => by cases z
        | succ m => exact fun z => h60 (by injection z)
      rw [if_neg hd, ← nl, e]
      exact cond_two h91 hk
end L2
set_option Elab.async false
set_option linter.all false
set_option maxRecDepth 100000
set_option maxHeartbeats 4000000
namespace K18
open PySem L2
def top (i : Nat) : Stmt := PySem.Challenge.pw_tieseek_k18_any_text_cut.main.body.getD i (.Pass ⟨0, 0, 0, 0⟩)
abbrev s_good_name : Stmt := top 11
abbrev s_good_figures : Stmt := top 12
abbrev s_number_read : Stmt := top 13
abbrev s_name_end : Stmt := top 18
abbrev s_condition_end : Stmt := top 19
abbrev s_piece_end : Stmt := top 20
abbrev s_condition_number : Stmt := top 21
abbrev s_mark_read : Stmt := top 22
abbrev s_pieces : Stmt := top 23
abbrev s_l_name_by : Stmt := top 25
abbrev s_l_number_by : Stmt := top 26
abbrev s_l_mark_by : Stmt := top 27
abbrev s_l_shown : Stmt := top 28
abbrev s_l_any_sign : Stmt := top 29
abbrev s_l_odd : Stmt := top 30
abbrev s_l_text : Stmt := top 31
abbrev s_l_begun : Stmt := top 32
abbrev s_l_step : Stmt := top 33
abbrev s_l_many_pieces : Stmt := top 34
abbrev s_l_written : Stmt := top 35
abbrev s_law : Stmt := top 36
def v_LETTERS : Str := "abcdefghijklmnopqrstuvwxyz"
def v_FIGURES : Str := "0123456789"
def v_ANY_NAME : Str := "_"
theorem cs0 : Str.ofString "0" = tx [48] := by decide +kernel
theorem cs1 : Str.ofString "-" = tx [45] := by decide +kernel
theorem cs2 : Str.ofString "-0" = tx [45, 48] := by decide +kernel
theorem cs3 : Str.ofString "]" = tx [93] := by decide +kernel
theorem cs4 : Str.ofString "[" = tx [91] := by decide +kernel
theorem cs5 : Str.ofString "<" = tx [60] := by decide +kernel
theorem cs6 : Str.ofString "" = tx [] := by decide +kernel
theorem cs7 : Str.ofString "mark" = tx [109, 97, 114, 107] := by decide +kernel
theorem cs8 : Str.ofString "abcdefghijklmnopqrstuvwxyz" = tx [97, 98, 99, 100, 101, 102, 103, 104, 105, 106, 107, 108, 109, 110, 111, 112, 113, 114, 115, 116, 117, 118, 119, 120, 121, 122] := by decide +kernel
theorem cs9 : Str.ofString "_" = tx [95] := by decide +kernel
theorem cs10 : Str.ofString ">" = tx [62] := by decide +kernel
theorem cs11 : Str.ofString "=" = tx [61] := by decide +kernel
theorem cs12 : Str.ofString "!" = tx [33] := by decide +kernel
theorem cs13 : Str.ofString " !\"#$&'()*+,-./0123456789:;<=>?@ABCDEFGHIJKLMNOPQRSTUVWXYZ[\\]^_`" = tx [32, 33, 34, 35, 36, 38, 39, 40, 41, 42, 43, 44, 45, 46, 47, 48, 49, 50, 51, 52, 53, 54, 55, 56, 57, 58, 59, 60, 61, 62, 63, 64, 65, 66, 67, 68, 69, 70, 71, 72, 73, 74, 75, 76, 77, 78, 79, 80, 81, 82, 83, 84, 85, 86, 87, 88, 89, 90, 91, 92, 93, 94, 95, 96] := by decide +kernel
theorem cs14 : Str.ofString "abcdefghijklmnopqrstuvwxyz{|}~\n\t" = tx [97, 98, 99, 100, 101, 102, 103, 104, 105, 106, 107, 108, 109, 110, 111, 112, 113, 114, 115, 116, 117, 118, 119, 120, 121, 122, 123, 124, 125, 126, 10, 9] := by decide +kernel
theorem cs15 : Str.ofString "[]<>=!-0_1a" = tx [91, 93, 60, 62, 61, 33, 45, 48, 95, 49, 97] := by decide +kernel
theorem cs16 : Str.ofString "1" = tx [49] := by decide +kernel
theorem cs17 : Str.ofString "+" = tx [43] := by decide +kernel
theorem cs18 : Str.ofString "--" = tx [45, 45] := by decide +kernel
theorem cs19 : Str.ofString " " = tx [32] := by decide +kernel
theorem cs20 : Str.ofString "]]" = tx [93, 93] := by decide +kernel
theorem cs21 : Str.ofString " ]" = tx [32, 93] := by decide +kernel
theorem cs22 : Str.ofString "~" = tx [126] := by decide +kernel
theorem cs23 : Str.ofString "mlkjihgfedcba" = tx [109, 108, 107, 106, 105, 104, 103, 102, 101, 100, 99, 98, 97] := by decide +kernel
theorem cs24 : Str.ofString ".|*+?()" = tx [46, 124, 42, 43, 63, 40, 41] := by decide +kernel
theorem cs25 : Str.ofString "bad" = tx [98, 97, 100] := by decide +kernel
theorem cs26 : Str.ofString "name" = tx [110, 97, 109, 101] := by decide +kernel
theorem cs27 : Str.ofString "under" = tx [117, 110, 100, 101, 114] := by decide +kernel
theorem cs28 : Str.ofString "back" = tx [98, 97, 99, 107] := by decide +kernel
theorem cs29 : Str.ofString "free" = tx [102, 114, 101, 101] := by decide +kernel
theorem cs30 : Str.ofString "open" = tx [111, 112, 101, 110] := by decide +kernel
theorem cs31 : Str.ofString "<>=!" = tx [60, 62, 61, 33] := by decide +kernel
theorem cs32 : Str.ofString "sign" = tx [115, 105, 103, 110] := by decide +kernel
theorem cs33 : Str.ofString "minus" = tx [109, 105, 110, 117, 115] := by decide +kernel
theorem cs34 : Str.ofString "nought" = tx [110, 111, 117, 103, 104, 116] := by decide +kernel
theorem cs35 : Str.ofString "123456789" = tx [49, 50, 51, 52, 53, 54, 55, 56, 57] := by decide +kernel
theorem cs36 : Str.ofString "figures" = tx [102, 105, 103, 117, 114, 101, 115] := by decide +kernel
theorem cs37 : Str.ofString "0123456789" = tx [48, 49, 50, 51, 52, 53, 54, 55, 56, 57] := by decide +kernel
theorem cv_LETTERS : v_LETTERS = tx [97, 98, 99, 100, 101, 102, 103, 104, 105, 106, 107, 108, 109, 110, 111, 112, 113, 114, 115, 116, 117, 118, 119, 120, 121, 122] := by decide +kernel
theorem cv_FIGURES : v_FIGURES = tx [48, 49, 50, 51, 52, 53, 54, 55, 56, 57] := by decide +kernel
theorem cv_ANY_NAME : v_ANY_NAME = tx [95] := by decide +kernel
local macro_rules | `(tactic| walk_at "rd") => `(tactic| simp only [L2.start, tVar, tC, tOp, tUn, tCB, tCons, tNil, tRet, tDrop, tSeq, tNext, tIfS, tTest, tB, tAnd, tOr, tNot, tAndV, tIf, tCall, tTup, tLst, tAsg, gName, tSl, tPart, tNoPart, tBM, rI, rI0, rU, List.map_cons, List.map_nil, List.length_cons, List.length_nil, List.replicate, List.cons_append, List.nil_append, List.append_nil, List.getElem?_cons_zero, List.getElem?_cons_succ, List.set_cons_zero, List.set_cons_succ, Option.some.injEq, V.int.injEq, V.str.injEq, V.bl.injEq, V.ref.injEq, V.ty.injEq, List.cons.injEq, and_true, true_and, exists_and_left, exists_eq_left', exists_eq_left, decide_eq_true_eq, Nat.sub_self, Nat.reduceSub, Nat.reduceAdd, tx_len, reduceCtorEq, false_and, exists_false, if_false, if_true, Bool.false_eq_true, and_assoc, stB1, Option.join, Option.bind_some, id_eq, rEq, rNe, scal, tBetw, tBetwT, rStarts, Bool.not_eq_true', decide_eq_false_iff_not, Bool.not_true, Bool.not_false, not_true_eq_false, not_false_eq_true, decide_true, decide_false, rTo, rFr, tx_list, tx_app, starts1, tx_inj, CDiv, CPow, tyV_str, Int.reduceLT, Int.reduceLE, Int.reducePow, Nat.reduceLT, Nat.reduceLeDiff, Int.reduceToNat, Int.reduceNeg, Nat.reducePow, tRaise, rIsX, rIsV, rAppend, tTry, rEqD, rNeD, tLstC, tTryC, caught, tFrom, st2, cs0, cs1, cs2, cs3, cs4, cs5, cs6, cs7, cs8, cs9, cs10, cs11, cs12, cs13, cs14, cs15, cs16, cs17, cs18, cs19, cs20, cs21, cs22, cs23, cs24, cs25, cs26, cs27, cs28, cs29, cs30, cs31, cs32, cs33, cs34, cs35, cs36, cs37, cv_LETTERS, cv_FIGURES, cv_ANY_NAME, rIsS])
local macro_rules | `(tactic| walk_at "rs") => `(tactic| simp only [L2.start, List.map_cons, List.map_nil, List.length_cons, List.length_nil, List.replicate, List.cons_append, List.nil_append, List.append_nil, Nat.sub_self, Nat.reduceSub, Nat.reduceAdd])
local macro_rules | `(tactic| walk_at "rg") => `(tactic| simp only [gName, List.set_cons_zero, List.set_cons_succ])
structure Ad where
  a_good_name : Addr
  d_good_name : FuncData
  a_good_figures : Addr
  d_good_figures : FuncData
  a_number_read : Addr
  d_number_read : FuncData
  a_name_end : Addr
  d_name_end : FuncData
  a_condition_end : Addr
  d_condition_end : FuncData
  a_piece_end : Addr
  d_piece_end : FuncData
  a_condition_number : Addr
  d_condition_number : FuncData
  a_mark_read : Addr
  d_mark_read : FuncData
  a_pieces : Addr
  d_pieces : FuncData
  a_l_name_by : Addr
  d_l_name_by : FuncData
  a_l_number_by : Addr
  d_l_number_by : FuncData
  a_l_mark_by : Addr
  d_l_mark_by : FuncData
  a_l_shown : Addr
  d_l_shown : FuncData
  a_l_any_sign : Addr
  d_l_any_sign : FuncData
  a_l_odd : Addr
  d_l_odd : FuncData
  a_l_text : Addr
  d_l_text : FuncData
  a_l_begun : Addr
  d_l_begun : FuncData
  a_l_step : Addr
  d_l_step : FuncData
  a_l_many_pieces : Addr
  d_l_many_pieces : FuncData
  a_l_written : Addr
  d_l_written : FuncData
  c_SeekError : Addr
  c_NoNumber : Addr
  c_NoPiece : Addr
  c_TooGreat : Addr
  c_NoPattern : Addr
  k_SINGLE_SIGNS : Addr
  k_CONDITION_SIGNS : Addr
abbrev Ad.cs (t : Ad) : List Addr := [t.c_NoNumber, t.c_NoPiece, t.c_TooGreat, t.c_NoPattern]
structure Txt (K : PySem.W.Frag) (mg : Str → Option Value) (t : Ad) : Prop where
  good_name : DefOk K mg "good_name" s_good_name ["text"] t.a_good_name t.d_good_name
  good_figures : DefOk K mg "good_figures" s_good_figures ["text"] t.a_good_figures t.d_good_figures
  number_read : DefOk K mg "number_read" s_number_read ["text"] t.a_number_read t.d_number_read
  name_end : DefOk K mg "name_end" s_name_end ["text", "place"] t.a_name_end t.d_name_end
  condition_end : DefOk K mg "condition_end" s_condition_end ["text", "place"] t.a_condition_end t.d_condition_end
  piece_end : DefOk K mg "piece_end" s_piece_end ["text", "place"] t.a_piece_end t.d_piece_end
  condition_number : DefOk K mg "condition_number" s_condition_number ["text"] t.a_condition_number t.d_condition_number
  mark_read : DefOk K mg "mark_read" s_mark_read ["text"] t.a_mark_read t.d_mark_read
  pieces : DefOk K mg "pieces" s_pieces ["text"] t.a_pieces t.d_pieces
  l_name_by : DefOk K mg "_law_name_by" s_l_name_by ["cell"] t.a_l_name_by t.d_l_name_by
  l_number_by : DefOk K mg "_law_number_by" s_l_number_by ["cell"] t.a_l_number_by t.d_l_number_by
  l_mark_by : DefOk K mg "_law_mark_by" s_l_mark_by ["cell"] t.a_l_mark_by t.d_l_mark_by
  l_shown : DefOk K mg "_law_shown" s_l_shown ["piece"] t.a_l_shown t.d_l_shown
  l_any_sign : DefOk K mg "_law_any_sign" s_l_any_sign ["cell"] t.a_l_any_sign t.d_l_any_sign
  l_odd : DefOk K mg "_law_odd" s_l_odd ["cell"] t.a_l_odd t.d_l_odd
  l_text : DefOk K mg "_law_text" s_l_text ["script"] t.a_l_text t.d_l_text
  l_begun : DefOk K mg "_law_begun" s_l_begun ["word", "many", "sign"] t.a_l_begun t.d_l_begun
  l_step : DefOk K mg "_law_step" s_l_step ["word", "many", "sign"] t.a_l_step t.d_l_step
  l_many_pieces : DefOk K mg "_law_many_pieces" s_l_many_pieces ["text"] t.a_l_many_pieces t.d_l_many_pieces
  l_written : DefOk K mg "_law_written" s_l_written ["piece"] t.a_l_written t.d_l_written
  c_LETTERS : ∃ u, mg "LETTERS" = some u ∧ RelV (.str v_LETTERS) u
  c_FIGURES : ∃ u, mg "FIGURES" = some u ∧ RelV (.str v_FIGURES) u
  c_MOST_LETTERS : ∃ u, mg "MOST_LETTERS" = some u ∧ RelV (.int 12) u
  c_MOST_FIGURES : ∃ u, mg "MOST_FIGURES" = some u ∧ RelV (.int 60) u
  c_ANY_NAME : ∃ u, mg "ANY_NAME" = some u ∧ RelV (.str v_ANY_NAME) u
  c_SINGLE_SIGNS : mg "SINGLE_SIGNS" = some (.ref t.k_SINGLE_SIGNS)
  s_SINGLE_SIGNS : ∀ H, SqT K H t.k_SINGLE_SIGNS [.str (tx [46]), .str (tx [124]), .str (tx [42]), .str (tx [43]), .str (tx [63]), .str (tx [40]), .str (tx [41])]
  c_CONDITION_SIGNS : mg "CONDITION_SIGNS" = some (.ref t.k_CONDITION_SIGNS)
  s_CONDITION_SIGNS : ∀ H, SqT K H t.k_CONDITION_SIGNS [.str (tx [60]), .str (tx [62]), .str (tx [61]), .str (tx [33])]
  b_all : mg "all" = none
  b_list : mg "list" = none
  b_ValueError : mg "ValueError" = none
  b_abs : mg "abs" = none
  b_len : mg "len" = none
  b_isinstance : mg "isinstance" = none
  b_bool : mg "bool" = none
  b_int : mg "int" = none
  b_str : mg "str" = none
  b_range : mg "range" = none
  b_tuple : mg "tuple" = none
  g_SeekError : mg "SeekError" = some (.ref t.c_SeekError)
  g_NoNumber : mg "NoNumber" = some (.ref t.c_NoNumber)
  g_NoPiece : mg "NoPiece" = some (.ref t.c_NoPiece)
  g_TooGreat : mg "TooGreat" = some (.ref t.c_TooGreat)
  g_NoPattern : mg "NoPattern" = some (.ref t.c_NoPattern)
  xs : XSet K t.c_SeekError t.cs
  xm : XMat K t.cs
  xk : XSup K t.c_SeekError t.cs
theorem Txt.in_NoNumber {K : PySem.W.Frag} {mg : Str → Option Value} {t : Ad} (_ : Txt K mg t) : t.c_NoNumber ∈ t.cs := by simp [Ad.cs]
theorem Txt.xc_NoNumber {K : PySem.W.Frag} {mg : Str → Option Value} {t : Ad} (T : Txt K mg t) : XCls K mg "NoNumber" t.c_NoNumber := T.xs.cls T.in_NoNumber T.g_NoNumber
theorem Txt.in_NoPiece {K : PySem.W.Frag} {mg : Str → Option Value} {t : Ad} (_ : Txt K mg t) : t.c_NoPiece ∈ t.cs := by simp [Ad.cs]
theorem Txt.xc_NoPiece {K : PySem.W.Frag} {mg : Str → Option Value} {t : Ad} (T : Txt K mg t) : XCls K mg "NoPiece" t.c_NoPiece := T.xs.cls T.in_NoPiece T.g_NoPiece
theorem Txt.in_TooGreat {K : PySem.W.Frag} {mg : Str → Option Value} {t : Ad} (_ : Txt K mg t) : t.c_TooGreat ∈ t.cs := by simp [Ad.cs]
theorem Txt.in_NoPattern {K : PySem.W.Frag} {mg : Str → Option Value} {t : Ad} (_ : Txt K mg t) : t.c_NoPattern ∈ t.cs := by simp [Ad.cs]
def sp_l_name_by : Sp := fun vs H Q _ => ∃ c, vs = [.int c] ∧ ∀ l, 1 ≤ l.length → l.length ≤ 12 → (∀ x ∈ l, x ∈ abc) → Q (.str (tx l)) H
def sp_l_number_by : Sp := fun vs H Q _ => ∃ c, vs = [.int c] ∧ ∀ n : Int, n.natAbs < 10 ^ 60 → Q (.int n) H
def sp_l_mark_by : Sp := fun vs H Q _ => ∃ c, vs = [.int c] ∧ ∀ m p H', MrkW m → H p = none → Same H H' → H' p = some (.tup (mkV m)) → Q (.ref p) H'
def PcAt (H : Hp) (p : Pc) (v : V) : Prop := match p with
  | .sign c => v = .str (tx [c])
  | .mark m => ∃ a, v = .ref a ∧ H a = some (.tup (mkV m))
theorem PcAt.same {H H' : Hp} {p : Pc} {v : V} (s : Same H H') (h : PcAt H p v) : PcAt H' p v := by
  cases p with
  | sign c => exact h
  | mark m =>
    obtain ⟨a, e, h⟩ := h
    exact ⟨a, e, s _ _ h⟩
theorem PcAt.keep {H H' : Hp} {p : Pc} {v : V} (k : ∀ b xs, H b = some (.tup xs) → H' b = some (.tup xs)) (h : PcAt H p v) : PcAt H' p v := by
  cases p with
  | sign c => exact h
  | mark m =>
    obtain ⟨a, e, h⟩ := h
    exact ⟨a, e, k _ _ h⟩
theorem run_at {l : List Nat} : ∀ {j : Nat} {c : Nat}, j ≤ (l.takeWhile isL).length → l[j]? = some c → (c ∈ abc ↔ j < (l.takeWhile isL).length) := by
  induction l with
  | nil => intro j c _ h; simp at h
  | cons a r ih =>
    intro j c hj hc
    cases ha : isL a with
    | true =>
      rw [List.takeWhile_cons, ha] at hj ⊢
      simp only [if_true, List.length_cons] at hj ⊢
      cases j with
      | zero =>
        obtain rfl : a = c := by simpa using hc
        have : a ∈ abc := of_decide_eq_true ha
        exact ⟨fun _ => by omega, fun _ => this⟩
      | succ j =>
        have := ih (j := j) (c := c) (by omega) (by simpa using hc)
        rw [this]
        omega
    | false =>
      rw [List.takeWhile_cons, ha] at hj ⊢
      simp only [Bool.false_eq_true, if_false, List.length_nil] at hj ⊢
      obtain rfl : j = 0 := by omega
      obtain rfl : a = c := by simpa using hc
      have : ¬ a ∈ abc := of_decide_eq_false ha
      exact ⟨fun z => absurd z this, fun z => by omega⟩
theorem markT_len {m : Mrk} (w : MrkW m) : (markT m).length ≤ 100 := by
  have h1 : m.nm.length ≤ 12 := by
    rcases w.nm with e | ⟨_, h, _⟩
    · rw [e]
      decide
    · exact h
  have h2 : m.sg.length ≤ 1 := by
    have all : ∀ l ∈ [[], [60], [62], [61], [33]], List.length l ≤ 1 := by decide
    exact all _ w.sg
  have h3 := numC_len w.num
  unfold markT condC
  split <;> split <;> simp only [List.length_append, List.length_cons, List.length_nil] <;> omega
theorem shown_pos {p : Pc} (w : PcW p) : 1 ≤ p.shown.length := by
  cases p with
  | sign c => exact Nat.le_refl _
  | mark m =>
    obtain ⟨c, r, e, _⟩ := nm_ne (show MrkW m from w)
    show 1 ≤ (markT m).length
    unfold markT
    rw [e, List.length_append, List.length_append, List.length_cons]
    omega
theorem row_len : ∀ {row : List Pc}, (∀ p ∈ row, PcW p) → row.length ≤ (row.flatMap Pc.shown).length
  | [], _ => Nat.zero_le _
  | p :: r, pw => by
    have h1 : 1 ≤ p.shown.length := shown_pos (pw p List.mem_cons_self)
    have h2 := row_len fun x hx => pw x (List.mem_cons_of_mem _ hx)
    rw [List.flatMap_cons, List.length_append, List.length_cons]
    omega
def sp_good_name : Sp := fun vs H Q _ => ∃ l, vs = [.str (tx l)] ∧ l.length ≤ sizeLine ∧ ∀ H', Same H H' → Q (.bl (goodC l)) H'
def sp_good_figures : Sp := fun vs H Q _ => ∃ l, vs = [.str (tx l)] ∧ l.length ≤ sizeLine ∧ ∀ H', Same H H' → Q (.bl (figsC l)) H'
def sp_number_read (t : Ad) : Sp := fun vs H Q E => ∃ l, vs = [.str (tx l)] ∧ l.length ≤ sizeLine ∧ ∀ H', Same H H' → match readC l with | some n => Q (.int n) H' | none => E (.ref t.c_NoNumber) none H'
def sp_condition_number (t : Ad) : Sp := fun vs H Q E => ∃ l, vs = [.str (tx l)] ∧ l.length ≤ sizeLine ∧ ∀ H', Same H H' → match readC l with | some n => Q (.int n) H' | none => ∀ d, E (.ref t.c_NoPiece) (some d) H'
def sp_name_end : Sp := fun vs H Q _ => ∃ (l : List Nat) (i : Nat), vs = [.str (tx l), .int (i : Int)] ∧ i ≤ l.length ∧ l.length ≤ 100000 ∧ Q (.int ((i + nameLen (l.drop i) : Nat) : Int)) H
def sp_condition_end (t : Ad) : Sp := fun vs H Q E => ∃ (l : List Nat) (i : Nat), vs = [.str (tx l), .int (i : Int)] ∧ l.length ≤ 100000 ∧ match condLen (l.drop i) with | some k => Q (.int ((i + k : Nat) : Int)) H | none => ∀ d, E (.ref t.c_NoPiece) d H
def sp_piece_end (t : Ad) : Sp := fun vs H Q E => ∃ (l : List Nat) (i : Nat), vs = [.str (tx l), .int (i : Int)] ∧ i < l.length ∧ l.length ≤ 100000 ∧ match pieceLen (l.drop i) with | some k => Q (.int ((i + k : Nat) : Int)) H | none => ∀ d, E (.ref t.c_NoPiece) d H
def sp_mark_read (t : Ad) : Sp := fun vs H Q E => ∃ l : List Nat, vs = [.str (tx l)] ∧ l.length ≤ 100000 ∧ two l ∧ match markR l with | some m => ∀ p H', H p = none → Same H H' → H' p = some (.tup (mkV m)) → Q (.ref p) H' | none => ∀ d H', Same H H' → E (.ref t.c_NoPiece) d H'
def sp_pieces (t : Ad) : Sp := fun vs H Q E => ∃ l : List Nat, vs = [.str (tx l)] ∧ l.length ≤ 100000 ∧ match cutP l.length l with | some row => ∀ p H' us, H p = none → Same H H' → H' p = some (.lst us) → All2 (PcAt H') row us → Q (.ref p) H' | none => ∀ d H', Same H H' → E (.ref t.c_NoPiece) d H'
def sp_l_shown : Sp := fun vs H Q _ => ∃ p v, vs = [v] ∧ PcAt H p v ∧ PcW p ∧ Q (.str (tx p.shown)) H
def sp_l_written : Sp := fun vs H Q _ => ∃ p v, vs = [v] ∧ PcAt H p v ∧ PcW p ∧ ∀ H', Same H H' → Q (.str (tx p.shown)) H'
def sp_l_any_sign : Sp := fun vs H Q _ => ∃ c, vs = [.int c] ∧ ∀ l H', l.length ≤ 1 → Same H H' → Q (.str (tx l)) H'
def sp_l_odd : Sp := fun vs H Q _ => ∃ c, vs = [.int c] ∧ ∀ l H', l.length ≤ 100 → Same H H' → Q (.str (tx l)) H'
def sp_l_text (K : PySem.W.Frag) : Sp := fun vs H Q _ => ∃ (a : Addr) (ns : List Int), vs = [.ref a] ∧ SqL K H a (ns.map V.int) ∧ ns.length ≤ 63 ∧ ∀ l H', l.length ≤ 20000 → Same H H' → Q (.str (tx l)) H'
def sp_l_begun : Sp := fun vs H Q _ => ∃ (s : AS) (c : Nat), vs = [.str (tx s.word), .int (s.many : Int), .str (tx [c])] ∧ s.at_ = true ∧ ∀ p H', H p = none → Same H H' → H' p = some (.tup [.str (tx (begunA s c).word), .int ((begunA s c).many : Int)]) → Q (.ref p) H'
def sp_l_step : Sp := fun vs H Q _ => ∃ (s : AS) (c : Nat), vs = [.str (tx s.word), .int (s.many : Int), .str (tx [c])] ∧ ∀ p H', H p = none → Same H H' → H' p = some (.tup [.str (tx (stepA s c).word), .int ((stepA s c).many : Int)]) → Q (.ref p) H'
def manyV (l : List Nat) : Int := match resA .free l with | some n => (n : Int) | none => -1
def sp_l_many_pieces : Sp := fun vs H Q _ => ∃ l : List Nat, vs = [.str (tx l)] ∧ l.length ≤ 100000 ∧ ∀ H', Same H H' → Q (.int (manyV l)) H'
section
variable {P : Program} {w : World} {K : PySem.W.Frag} {mg : Str → Option Value} {base : Heap} {t : Ad}
theorem sc_l_name_by : FnScope ["cell", "number", "size", "told", "k"] ["cell"] (defScope s_l_name_by) := ⟨rfl, rfl, rfl, by decide +kernel, rfl, by decide +kernel, by decide +kernel⟩
theorem ok_l_name_by (T : Txt K mg t) : FnOk P w K mg base (CX1 P w) 1 t.a_l_name_by t.d_l_name_by ["cell"] (sp_l_name_by) := by
  refine T.l_name_by.fn.okN sc_l_name_by (fun vs H Q E h => ?_) (fun cdv A outer s H vs Q E hr h => ?_)
  · obtain ⟨c, rfl, k⟩ := h
    rfl
  · obtain ⟨c, rfl, k⟩ := h
    refine ⟨_, Bx.un (bpss_cons (bps_set (i := 1) sc_l_name_by.nd rfl (by first | exact Or.inl rfl | exact Or.inr rfl) (bpe_op op_mod (bpv 0) bpe_int))
      (bpss_cons (bps_set (i := 2) sc_l_name_by.nd rfl (by first | exact Or.inl rfl | exact Or.inr rfl) (bpe_op op_add bpe_int (bpe_op op_mod (bpv 1) bpe_int)))
      (bpss_cons (bps_if (bpt_cmpR op_eq (bpe_op op_mod (bpv 1) bpe_int) bpe_int (nomark _))
      (bpss_one (bps_set (i := 2) sc_l_name_by.nd rfl (by first | exact Or.inl rfl | exact Or.inr rfl) (bpe_op op_add bpe_int (bpe_op op_mod (bpe_op op_fdiv (bpv 1) bpe_int) bpe_int))))
      bpss_nil)
      (bpss_cons (bps_set (i := 3) sc_l_name_by.nd rfl (by first | exact Or.inl rfl | exact Or.inr rfl) bpe_str)
      (bpss_cons (bps_for PassesOwn.never rfl (bpi_range1 rfl T.b_range (bpa_cons (bpv 2) bpa_nil)) (bpg_name (i := 4) sc_l_name_by.nd rfl (by first | exact Or.inl rfl | exact Or.inr rfl))
      (bpss_cons (bps_set (i := 1) sc_l_name_by.nd rfl (by first | exact Or.inl rfl | exact Or.inr rfl) (bpe_op op_mod (bpe_op op_add (bpe_op op_mul (bpv 1) bpe_int) bpe_int) bpe_int))
      (bpss_one (bps_set (i := 3) sc_l_name_by.nd rfl (by first | exact Or.inl rfl | exact Or.inr rfl) (bpe_op op_add_str (bpv 3) (bpe_ixA ix_str bpe_str (bpe_op op_mod (bpe_op op_fdiv (bpv 1) bpe_int) bpe_int)))))))
      (bpss_one (bps_ret (bpv 3)))))))), ?_⟩
    walk_at "rs"
    refine seq_rule fun N hN => ?_
    walk_at "rd"
    refine hN _ _ ?_
    clear hN N
    generalize c % 2147483647 = n
    refine seq_rule fun N hN => ?_
    walk_at "rd"
    refine hN _ _ ?_
    clear hN N
    refine seq_rule fun N hN => ?_
    have hM : ∀ sz : Int, 1 ≤ sz → sz ≤ 12 → N [some (.int c), some (.int n), some (.int sz), none, none] H := by
      intro sz s1 s2
      refine hN _ _ ?_
      clear hN N
      refine seq_rule fun N hN => ?_
      walk_at "rd"
      refine hN _ _ ?_
      clear hN N
      refine seq_rule fun N hN => ?_
      refine ⟨_, rfl, _, rfl, by omega, by omega, for_range (n := sz.toNat) (lo := 0) (fun i σ H2 => ∃ l m v, σ = [some (.int c), some (.int m), some (.int sz), some (.str (tx l)), v] ∧ l.length = i ∧ (∀ x ∈ l, x ∈ abc) ∧ H2 = H)
        ⟨[], _, none, rfl, rfl, (fun x hx => nomatch hx), rfl⟩ ?_ ?_⟩
      · rintro i σ H2 hi ⟨l, m, v, rfl, hl, ok, rfl⟩
        walk_at "rd"
        refine ⟨.inr ⟨by decide, by decide⟩, ?_⟩
        generalize (m * 48271 + 11) % 2147483647 = m'
        refine rd_sign (by decide) (by omega) (by show m' / 1000 % 26 < 26; omega) fun s hs => ?_
        have s2 : s ∈ abc := List.mem_of_getElem? hs
        walk_at "rd"
        refine ⟨sz_of (by omega), by simp [hl], fun x hx => ?_⟩
        rcases List.mem_append.mp hx with h | h
        · exact ok x h
        · rw [List.mem_singleton.mp h]
          exact s2
      · rintro σ H2 ⟨l, m, v, rfl, hl, ok, rfl⟩
        refine hN _ _ ?_
        walk_at "rd"
        exact k l (by omega) (by omega) ok
    walk_at "rd"
    split
    · exact hM _ (by omega) (by omega)
    · exact hM _ (by omega) (by omega)
theorem sc_l_number_by : FnScope ["cell", "size"] ["cell"] (defScope s_l_number_by) := ⟨rfl, rfl, rfl, by decide +kernel, rfl, by decide +kernel, by decide +kernel⟩
theorem ok_l_number_by (T : Txt K mg t) : FnOk P w K mg base (CX1 P w) 1 t.a_l_number_by t.d_l_number_by ["cell"] (sp_l_number_by) := by
  refine T.l_number_by.fn.okN sc_l_number_by (fun vs H Q E h => ?_) (fun cdv A outer s H vs Q E hr h => ?_)
  · obtain ⟨c, rfl, k⟩ := h
    rfl
  · obtain ⟨c, rfl, k⟩ := h
    refine ⟨_, Bx.un (bpss_cons (bps_set (i := 1) sc_l_number_by.nd rfl (by first | exact Or.inl rfl | exact Or.inr rfl) (bpe_op op_mod (bpe_op op_fdiv (bpv 0) bpe_int) (bpe_op op_pow bpe_int bpe_int)))
      (bpss_cons (bps_if (bpt_cmpR op_eq (bpe_op op_mod (bpe_op op_fdiv (bpv 0) bpe_int) bpe_int) bpe_int (nomark _))
      (bpss_one (bps_set (i := 1) sc_l_number_by.nd rfl (by first | exact Or.inl rfl | exact Or.inr rfl) (bpe_op op_sub (bpe_op op_sub (bpe_op op_pow bpe_int bpe_int) bpe_int) (bpe_op op_mod (bpe_op op_fdiv (bpv 0) bpe_int) bpe_int))))
      bpss_nil)
      (bpss_cons (bps_if (bpt_cmpR op_eq (bpe_op op_mod (bpv 0) bpe_int) bpe_int (nomark _))
      (bpss_one (bps_ret (bpe_un un_neg (bpv 1))))
      bpss_nil)
      (bpss_one (bps_ret (bpv 1)))))), ?_⟩
    walk_at "rd"
    have big : (10 : Nat) ^ 60 = 1000000000000000000000000000000000000000000000000000000000000 := by decide
    refine ⟨by decide, ?_⟩
    split
    · refine ⟨by decide, ?_⟩
      split <;> exact k _ (by rw [big]; omega)
    · split <;> exact k _ (by rw [big]; omega)
theorem sc_l_mark_by : FnScope ["cell", "name", "sign"] ["cell"] (defScope s_l_mark_by) := ⟨rfl, rfl, rfl, by decide +kernel, rfl, by decide +kernel, by decide +kernel⟩
theorem ok_l_mark_by (T : Txt K mg t) : FnOk P w K mg base (CX1 P w) 2 t.a_l_mark_by t.d_l_mark_by ["cell"] (sp_l_mark_by) := by
  have G_l_name_by := (ok_l_name_by (P := P) (w := w) (base := base) T).mono (show 1 ≤ 1 by decide)
  have G_l_number_by := (ok_l_number_by (P := P) (w := w) (base := base) T).mono (show 1 ≤ 1 by decide)
  refine T.l_mark_by.fn.okN sc_l_mark_by (fun vs H Q E h => ?_) (fun cdv A outer s H vs Q E hr h => ?_)
  · obtain ⟨c, rfl, k⟩ := h
    rfl
  · obtain ⟨c, rfl, k⟩ := h
    refine ⟨_, Bx.un (bpss_cons (bps_set (i := 1) sc_l_mark_by.nd rfl (by first | exact Or.inl rfl | exact Or.inr rfl) (bpe_fnx T.l_name_by G_l_name_by hr pass0' (bpa_cons (bpe_op op_fdiv (bpv 0) bpe_int) bpa_nil)))
      (bpss_cons (bps_if (bpt_cmpR op_eq (bpe_op op_mod (bpv 0) bpe_int) bpe_int (nomark _))
      (bpss_one (bps_set (i := 1) sc_l_mark_by.nd rfl (by first | exact Or.inl rfl | exact Or.inr rfl) bpe_str))
      bpss_nil)
      (bpss_cons (bps_set (i := 2) sc_l_mark_by.nd rfl (by first | exact Or.inl rfl | exact Or.inr rfl) (bpe_ixA ix_list bpe_lstS (bpe_op op_mod (bpe_op op_fdiv (bpv 0) bpe_int) bpe_int)))
      (bpss_cons (bps_if (bpt_cmpR op_eq (bpv 2) bpe_str (nomark _))
      (bpss_one (bps_ret (bpe_tup (bpa_cons bpe_str (bpa_cons (bpv 1) (bpa_cons (bpe_cmpR op_eq (bpe_op op_mod (bpe_op op_fdiv (bpv 0) bpe_int) bpe_int) bpe_int (nomark _)) (bpa_cons bpe_str (bpa_cons bpe_int bpa_nil))))))))
      bpss_nil)
      (bpss_one (bps_ret (bpe_tup (bpa_cons bpe_str (bpa_cons (bpv 1) (bpa_cons (bpe_cmpR op_eq (bpe_op op_mod (bpe_op op_fdiv (bpv 0) bpe_int) bpe_int) bpe_int (nomark _)) (bpa_cons (bpv 2) (bpa_cons (bpe_fnx T.l_number_by G_l_number_by hr pass0' (bpa_cons (bpe_op op_fdiv (bpv 0) bpe_int) bpa_nil)) bpa_nil)))))))))))), ?_⟩
    walk_at "rs"
    refine seq_rule fun N hN => ?_
    walk_at "rd"
    refine ⟨_, rfl, fun l l1 l2 l3 => hN _ _ ?_⟩
    clear hN N
    refine seq_rule fun N hN => ?_
    have hM : ∀ nm : List Nat, (nm = [95] ∨ (1 ≤ nm.length ∧ nm.length ≤ 12 ∧ ∀ x ∈ nm, x ∈ abc)) → N [some (.int c), some (.str (tx nm)), none] H := by
      intro nm hnm
      refine hN _ _ ?_
      clear hN N
      refine seq_rule fun N hN => ?_
      walk_at "rd"
      refine ⟨by decide, fun p hp => rd_pick (by omega) (by show c / 10 % 6 < 6; omega) fun v hv => hN _ _ ?_⟩
      clear hN N
      have pick : ∃ a, v = .str (tx a) ∧ a ∈ [[], [60], [62], [61], [33]] := by
        simp only [List.mem_cons, List.not_mem_nil, or_false] at hv
        rcases hv with rfl | rfl | rfl | rfl | rfl | rfl <;> exact ⟨_, rfl, by decide⟩
      obtain ⟨sg, rfl, hsg⟩ := pick
      have s1 := Same.new (o := .lst [V.str (tx []), V.str (tx []), V.str (tx [60]), V.str (tx [62]), V.str (tx [61]), V.str (tx [33])]) hp
      generalize upd H p (.lst [V.str (tx []), V.str (tx []), V.str (tx [60]), V.str (tx [62]), V.str (tx [61]), V.str (tx [33])]) = H1 at s1
      walk_at "rd"
      split
      · rename_i h
        have h' : sg = [] := by simpa [tx] using h
        subst h'
        exact ⟨by decide, fun q hq => k ⟨nm, _, [], 0⟩ q _ ⟨hnm, hsg, (by show (0 : Int).natAbs < 10 ^ 60; decide), fun _ => rfl⟩ (s1.free hq) (s1.upd_new (s1.free hq)) upd_same⟩
      · rename_i h
        have h' : sg ≠ [] := fun z => h (by rw [z])
        refine ⟨_, rfl, fun n hn => ⟨by decide, fun q hq => k ⟨nm, _, sg, n⟩ q _ ⟨hnm, hsg, hn, fun z => absurd z h'⟩ (s1.free hq) (s1.upd_new (s1.free hq)) upd_same⟩⟩
    walk_at "rd"
    split
    · exact hM _ (.inl rfl)
    · exact hM _ (.inr ⟨l1, l2, l3⟩)
theorem sc_good_name : FnScope ["text"] ["text"] (defScope s_good_name) := ⟨rfl, rfl, rfl, by decide +kernel, rfl, by decide +kernel, by decide +kernel⟩
theorem ok_good_name (T : Txt K mg t) : FnOk P w K mg base (CX1 P w) 1 t.a_good_name t.d_good_name ["text"] (sp_good_name) := by
  refine T.good_name.fn.okN sc_good_name (fun vs H Q E h => ?_) (fun cdv A outer s H vs Q E hr h => ?_)
  · obtain ⟨l, rfl, hz, k⟩ := h
    rfl
  · obtain ⟨l, rfl, hz, k⟩ := h
    refine ⟨_, Bx.un (bpss_one (bps_ret (bpe_and (bpe_betw bpe_int (bpe_callB call_len_str (by rfl) T.b_len PySem.boot_len (bpa_cons (bpv 0) bpa_nil)) (bpe_const T.c_MOST_LETTERS)) (bpe_one (bpe_callB (call_all rfl) (by rfl) T.b_all PyProof.Rows.boot_all (bpa_cons (bpe_comp rfl (N := ["sign"]) (fr := []) (CSc.of (by kernel_rfl)) (bpi_str (bpv 0)) (fun _ _ _ _ _ => bpts_nil)
        (fun _ _ _ _ _ => (bpe_cmpR op_in1 (bpv 0) (bpe_const T.c_LETTERS) (by with_unfolding_all rfl)))) bpa_nil)))))), ?_⟩
    walk_at "rd"
    refine ⟨hz, ?_⟩
    split
    · rename_i h1
      have h1' : 1 ≤ l.length ∧ l.length ≤ 12 := by
        simp only [Bool.and_eq_true, decide_eq_true_eq] at h1
        omega
      refine rd_all (cs := abc) l rfl hz (fun c H2 Q2 _ h => ⟨_, rfl, c, rfl, _, rfl, by rw [tx_list]; exact h⟩) fun H2 s2 => ?_
      have e : goodC l = l.all fun c => decide (c ∈ abc) := by
        unfold goodC
        rw [decide_eq_true h1', Bool.true_and]
      rw [← e]
      exact k H2 s2
    · rename_i h1
      have e : goodC l = false := by
        unfold goodC
        rw [decide_eq_false (fun z => h1 (by simp only [Bool.and_eq_true, decide_eq_true_eq]; omega)), Bool.false_and]
      rw [← e]
      exact k H (Same.refl _)
theorem sc_good_figures : FnScope ["text"] ["text"] (defScope s_good_figures) := ⟨rfl, rfl, rfl, by decide +kernel, rfl, by decide +kernel, by decide +kernel⟩
theorem ok_good_figures (T : Txt K mg t) : FnOk P w K mg base (CX1 P w) 1 t.a_good_figures t.d_good_figures ["text"] (sp_good_figures) := by
  refine T.good_figures.fn.okN sc_good_figures (fun vs H Q E h => ?_) (fun cdv A outer s H vs Q E hr h => ?_)
  · obtain ⟨l, rfl, hz, k⟩ := h
    rfl
  · obtain ⟨l, rfl, hz, k⟩ := h
    refine ⟨_, Bx.un (bpss_cons (bps_if (bpt_not (bpt_betw bpe_int (bpe_callB call_len_str (by rfl) T.b_len PySem.boot_len (bpa_cons (bpv 0) bpa_nil)) (bpe_const T.c_MOST_FIGURES)))
      (bpss_one (bps_ret bpe_bl))
      bpss_nil)
      (bpss_cons (bps_if (bpw_and (bpt_val (bpe_bm PySem.F.plainAttrs_str PySem.F.slot_str_startswith PySem.F.type_str_startswith mt_starts (bpv 0) (bpa_cons bpe_str bpa_nil))) (bpw_and1 (bpt_cmpR op_ne (bpv 0) bpe_str (nomark _)))).bpt
      (bpss_one (bps_ret bpe_bl))
      bpss_nil)
      (bpss_one (bps_ret (bpe_callB (call_all rfl) (by rfl) T.b_all PyProof.Rows.boot_all (bpa_cons (bpe_comp rfl (N := ["sign"]) (fr := []) (CSc.of (by kernel_rfl)) (bpi_str (bpv 0)) (fun _ _ _ _ _ => bpts_nil)
        (fun _ _ _ _ _ => (bpe_cmpR op_in1 (bpv 0) (bpe_const T.c_FIGURES) (by with_unfolding_all rfl)))) bpa_nil)))))), ?_⟩
    walk_at "rd"
    have el : (decide ((1 : Int) ≤ (l.length : Int)) && decide ((l.length : Int) ≤ 60)) = decide (1 ≤ l.length ∧ l.length ≤ 60) := by
      rw [Bool.eq_iff_iff]
      simp only [Bool.and_eq_true, decide_eq_true_eq]
      omega
    refine ⟨hz, ?_⟩
    rw [el]
    split
    · rename_i h1
      have e : figsC l = false := by
        unfold figsC
        rw [h1]
        rfl
      rw [← e]
      exact k H (Same.refl _)
    · rename_i h1
      have h1' : decide (1 ≤ l.length ∧ l.length ≤ 60) = true := by simpa using h1
      split
      · rename_i h2
        split
        · rename_i h3
          have e : figsC l = false := by
            unfold figsC
            rw [h1', decide_eq_true h2, decide_eq_true h3]
            rfl
          rw [← e]
          exact k H (Same.refl _)
        · rename_i h3
          refine rd_all (cs := digs) l rfl hz (fun c H2 Q2 _ h => ⟨_, rfl, c, rfl, _, rfl, by rw [tx_list]; exact h⟩) fun H2 s2 => ?_
          have e : figsC l = l.all fun c => decide (c ∈ digs) := by
            unfold figsC
            rw [h1', decide_eq_true h2, decide_eq_false h3]
            rfl
          rw [← e]
          exact k H2 s2
      · rename_i h2
        refine rd_all (cs := digs) l rfl hz (fun c H2 Q2 _ h => ⟨_, rfl, c, rfl, _, rfl, by rw [tx_list]; exact h⟩) fun H2 s2 => ?_
        have e : figsC l = l.all fun c => decide (c ∈ digs) := by
          unfold figsC
          rw [h1', decide_eq_false h2]
          rfl
        rw [← e]
        exact k H2 s2
theorem sc_number_read : FnScope ["text", "figures"] ["text"] (defScope s_number_read) := ⟨rfl, rfl, rfl, by decide +kernel, rfl, by decide +kernel, by decide +kernel⟩
theorem ok_number_read (T : Txt K mg t) : FnOk P w K mg base (CX1 P w) 2 t.a_number_read t.d_number_read ["text"] (sp_number_read t) := by
  have G_good_figures := (ok_good_figures (P := P) (w := w) (base := base) T).mono (show 1 ≤ 1 by decide)
  refine T.number_read.fn.okX sc_number_read (fun vs H Q E h => ?_) (fun cdv A outer s H vs Q E hr h => ?_)
  · obtain ⟨l, rfl, hz, k⟩ := h
    rfl
  · obtain ⟨l, rfl, hz, k⟩ := h
    refine ⟨_, Bx.un (bpss_cons (bps_set (i := 1) sc_number_read.nd rfl (by first | exact Or.inl rfl | exact Or.inr rfl) (bpe_ifExp (bpt_val (bpe_bm PySem.F.plainAttrs_str PySem.F.slot_str_startswith PySem.F.type_str_startswith mt_starts (bpv 0) (bpa_cons bpe_str bpa_nil))) (bpe_slice sl_fr (bpv 0) (bpo_some bpe_int) bpo_none) (bpv 0)))
      (bpss_cons (bps_if (bpw_or (bpt_cmpR op_eq (bpv 0) bpe_str (nomark _)) (bpw_or1 (bpt_not (bpt_val (bpe_fnx T.good_figures G_good_figures hr pass1 (bpa_cons (bpv 1) bpa_nil)))))).bpt
      (bpss_one (bps_raise (T.xc_NoNumber) raises1 rfl bpe_str))
      bpss_nil)
      (bpss_one (bps_ret (bpe_callTy call_int_text (by rfl) T.b_int PyProof.Rows.boot_int (bpa_cons (bpv 0) bpa_nil)))))), ?_⟩
    walk_at "rd"
    have hd : (l.drop 1).length ≤ sizeLine := Nat.le_trans (by rw [List.length_drop]; omega) hz
    have fin : ∀ f, (if l.head? = some 45 then l.drop 1 else l) = f → f.length ≤ sizeLine → if l = [45, 48] then E (Value.ref t.c_NoNumber) none H else sp_good_figures [V.str (tx f)] H (fun x H1 => ∃ c, x = V.bl c ∧ if c = false then E (Value.ref t.c_NoNumber) none H1 else ∃ x, intText? (tx l) = some x ∧ l.length ≤ 640 ∧ Q (V.int x) H1) E := by
      intro f ef hf
      by_cases h2 : l = [45, 48]
      · rw [if_pos h2]
        have kk := k H (Same.refl _)
        rw [show readC l = none by unfold readC; rw [if_pos (.inl h2)]] at kk
        exact kk
      · rw [if_neg h2]
        refine ⟨f, rfl, hf, fun H2 s2 => ⟨_, rfl, ?_⟩⟩
        have kk := k H2 s2
        cases hc : figsC f with
        | false =>
          rw [if_pos rfl]
          rw [show readC l = none by unfold readC; rw [ef, if_pos (.inr hc)]] at kk
          exact kk
        | true =>
          rw [if_neg (by simp)]
          have hn : ¬ (l = [45, 48] ∨ figsC f = false) := by
            rintro (z | z)
            · exact h2 z
            · rw [hc] at z
              cases z
          obtain ⟨n, hn⟩ : ∃ n, readC l = some n := by
            unfold readC
            rw [ef, if_neg hn]
            exact ⟨_, rfl⟩
          obtain ⟨e1, e2⟩ := readC_int hn
          rw [hn] at kk
          exact ⟨n, e1, by omega, kk⟩
    split
    · rename_i h1
      exact ⟨hz, fin _ (if_pos h1) hd⟩
    · rename_i h1
      exact fin _ (if_neg h1) hz
theorem sc_name_end : FnScope ["text", "place", "end"] ["text", "place"] (defScope s_name_end) := ⟨rfl, rfl, rfl, by decide +kernel, rfl, by decide +kernel, by decide +kernel⟩
theorem ok_name_end (T : Txt K mg t) : FnOk P w K mg base (CX1 P w) 1 t.a_name_end t.d_name_end ["text", "place"] (sp_name_end) := by
  refine T.name_end.fn.okN sc_name_end (fun vs H Q E h => ?_) (fun cdv A outer s H vs Q E hr h => ?_)
  · obtain ⟨l, i, rfl, hi, hl, k⟩ := h
    rfl
  · obtain ⟨l, i, rfl, hi, hl, k⟩ := h
    refine ⟨_, Bx.un (bpss_cons (bps_if (bpt_val (bpe_bm PySem.F.plainAttrs_str PySem.F.slot_str_startswith PySem.F.type_str_startswith mt_startsF (bpv 0) (bpa_cons (bpe_const T.c_ANY_NAME) (bpa_cons (bpv 1) bpa_nil))))
      (bpss_one (bps_ret (bpe_op op_add (bpv 1) bpe_int)))
      bpss_nil)
      (bpss_cons (bps_set (i := 2) sc_name_end.nd rfl (by first | exact Or.inl rfl | exact Or.inr rfl) (bpv 1))
      (bpss_cons (bps_while PassesOwn.never (bpw_and (bpt_cmpR op_lt (bpv 2) (bpe_callB call_len_str (by rfl) T.b_len PySem.boot_len (bpa_cons (bpv 0) bpa_nil)) (nomark _)) (bpw_and1 (bpt_cmpR op_in1 (bpe_ixA ix_str (bpv 0) (bpv 2)) (bpe_const T.c_LETTERS) (by with_unfolding_all rfl)))).bpt
      (bpss_one (bps_set (i := 2) sc_name_end.nd rfl (by first | exact Or.inl rfl | exact Or.inr rfl) (bpe_op op_add (bpv 2) bpe_int))))
      (bpss_one (bps_ret (bpv 2)))))), ?_⟩
    walk_at "rd"
    refine rd_startsF ⟨_, rfl, ?_⟩
    unfold nameLen at k
    rw [List.head?_drop] at k
    by_cases h95 : l[i]? = some 95
    · rw [if_pos h95] at k
      exact ite_T (decide_eq_true h95) k
    · rw [if_neg h95] at k
      refine ite_F (by simp [h95]) ?_
      have hn : ((l.drop i).takeWhile isL).length ≤ l.length - i := by
        have := (List.takeWhile_sublist (l := l.drop i) isL).length_le
        rw [List.length_drop] at this
        exact this
      have sp : ∀ j, j ≤ ((l.drop i).takeWhile isL).length → ∀ c, l[i + j]? = some c → (c ∈ abc ↔ j < ((l.drop i).takeWhile isL).length) := fun j hj c hc => run_at hj (by rw [List.getElem?_drop]; exact hc)
      have en : ∀ j, j ≤ ((l.drop i).takeWhile isL).length → l.length ≤ i + j → j = ((l.drop i).takeWhile isL).length := by omega
      generalize ((l.drop i).takeWhile isL).length = n at *
      refine ⟨fun m σ H1 => ∃ j : Nat, m = n - j ∧ j ≤ n ∧ σ = [some (.str (tx l)), some (.int (i : Int)), some (.int ((i + j : Nat) : Int))] ∧ H1 = H, ⟨n, 0, rfl, Nat.zero_le _, rfl, rfl⟩, ?_⟩
      rintro m σ H1 ⟨j, rfl, hj, rfl, rfl⟩
      walk_at "rd"
      refine ⟨sz_of hl, ?_⟩
      by_cases hlt : i + j < l.length
      · refine ite_T (by omega) (rd_sign (sz_of hl) (by omega) (by omega) fun c hc => ⟨c, rfl, ?_⟩)
        rw [Int.toNat_natCast] at hc
        have s := sp j hj c hc
        by_cases hc' : c ∈ abc
        · have jn := s.mp hc'
          exact ite_T hc' ⟨fun σ' H' => σ' = [some (V.str (tx l)), some (V.int (i : Int)), some (V.int ((i + (j + 1) : Nat) : Int))] ∧ H' = H1, fun σ' H' ⟨a, b⟩ => ⟨n - (j + 1), by omega, j + 1, rfl, by omega, a, b⟩, rfl, rfl⟩
        · have jn : j = n := by
            have : ¬ j < n := fun z => hc' (s.mpr z)
            omega
          exact ite_F hc' (by rw [jn]; exact k)
      · exact ite_F (by omega) (by rw [en j hj (by omega)]; exact k)
theorem sc_condition_number : FnScope ["text"] ["text"] (defScope s_condition_number) := ⟨rfl, rfl, rfl, by decide +kernel, rfl, by decide +kernel, by decide +kernel⟩
theorem ok_condition_number (T : Txt K mg t) : FnOk P w K mg base (CX1 P w) 3 t.a_condition_number t.d_condition_number ["text"] (sp_condition_number t) := by
  have G_number_read := (ok_number_read (P := P) (w := w) (base := base) T).mono (show 2 ≤ 2 by decide)
  refine T.condition_number.fn.okX sc_condition_number (fun vs H Q E h => ?_) (fun cdv A outer s H vs Q E hr h => ?_)
  · obtain ⟨l, rfl, hz, k⟩ := h
    rfl
  · obtain ⟨l, rfl, hz, k⟩ := h
    refine ⟨_, Bx.un (bpss_one (bps_tryC rfl rfl
      (bpsx_one (bpsx_ret (bxe_fn T.number_read G_number_read hr (fun _ => (bpa_cons (bpv 0) bpa_nil)))))
      (HBs.cons (b := true) (fun _ hd => (hb_from (hd rfl) (T.xm.hit T.in_NoNumber) T.g_NoNumber (T.xc_NoPiece) raisesIn1 (fun _ => PassesOwnAt.leaving))) HBs.nil))), ?_⟩
    walk_at "rd"
    refine ⟨l, rfl, hz, fun H' s => ?_⟩
    have kk := k H' s
    cases e : readC l with
    | some n =>
      rw [e] at kk
      exact kk
    | none =>
      rw [e] at kk
      exact .inl ⟨rfl, fun _ => rfl, kk⟩
theorem sc_condition_end : FnScope ["text", "place", "shut"] ["text", "place"] (defScope s_condition_end) := ⟨rfl, rfl, rfl, by decide +kernel, rfl, by decide +kernel, by decide +kernel⟩
theorem ok_condition_end (T : Txt K mg t) : FnOk P w K mg base (CX1 P w) 1 t.a_condition_end t.d_condition_end ["text", "place"] (sp_condition_end t) := by
  refine T.condition_end.fn.okX sc_condition_end (fun vs H Q E h => ?_) (fun cdv A outer s H vs Q E hr h => ?_)
  · obtain ⟨l, i, rfl, hl, k⟩ := h
    rfl
  · obtain ⟨l, i, rfl, hl, k⟩ := h
    refine ⟨_, Bx.un (bpss_cons (bps_if (bpt_not (bpt_val (bpe_bm PySem.F.plainAttrs_str PySem.F.slot_str_startswith PySem.F.type_str_startswith mt_startsF (bpv 0) (bpa_cons bpe_str (bpa_cons (bpv 1) bpa_nil)))))
      (bpss_one (bps_ret (bpv 1)))
      bpss_nil)
      (bpss_cons (bps_set (i := 2) sc_condition_end.nd rfl (by first | exact Or.inl rfl | exact Or.inr rfl) (bpe_bm PySem.F.plainAttrs_str PySem.F.slot_str_find PySem.F.type_str_find mt_findF (bpv 0) (bpa_cons bpe_str (bpa_cons (bpv 1) bpa_nil))))
      (bpss_cons (bps_if (bpt_cmpR op_lt (bpv 2) bpe_int (nomark _))
      (bpss_one (bps_raise (T.xc_NoPiece) raises1 rfl bpe_str))
      bpss_nil)
      (bpss_one (bps_ret (bpe_op op_add (bpv 2) bpe_int)))))), ?_⟩
    walk_at "rd"
    refine rd_startsF ⟨_, rfl, ?_⟩
    unfold condLen at k
    rw [List.head?_drop] at k
    by_cases h91 : l[i]? = some 91
    · rw [if_pos h91] at k
      refine ite_F (by simp [h91]) (rd_findF ⟨_, rfl, ?_⟩)
      cases hj : firstAt 93 (l.drop i) with
      | none =>
        rw [hj] at k
        have e : findV 93 l i = -1 := by unfold findV; rw [hj]
        rw [e]
        exact ite_T (by decide) (k none)
      | some j =>
        rw [hj] at k
        have e : findV 93 l i = ((i + j : Nat) : Int) := by unfold findV; rw [hj]
        rw [e]
        exact ite_F (by omega) ⟨_, rfl, k⟩
    · rw [if_neg h91] at k
      exact ite_T (by simp [h91]) k
theorem sc_piece_end : FnScope ["text", "place", "start"] ["text", "place"] (defScope s_piece_end) := ⟨rfl, rfl, rfl, by decide +kernel, rfl, by decide +kernel, by decide +kernel⟩
theorem ok_piece_end (T : Txt K mg t) : FnOk P w K mg base (CX1 P w) 2 t.a_piece_end t.d_piece_end ["text", "place"] (sp_piece_end t) := by
  have G_condition_end := (ok_condition_end (P := P) (w := w) (base := base) T).mono (show 1 ≤ 1 by decide)
  have G_name_end := (ok_name_end (P := P) (w := w) (base := base) T).mono (show 1 ≤ 1 by decide)
  refine T.piece_end.fn.okX sc_piece_end (fun vs H Q E h => ?_) (fun cdv A outer s H vs Q E hr h => ?_)
  · obtain ⟨l, i, rfl, hi, hl, k⟩ := h
    rfl
  · obtain ⟨l, i, rfl, hi, hl, k⟩ := h
    refine ⟨_, Bx.un (bpss_cons (bps_if (bpt_cmpR op_in_seq (bpe_ixA ix_str (bpv 0) (bpv 1)) (bpe_const (v := .ref t.k_SINGLE_SIGNS) ⟨_, T.c_SINGLE_SIGNS, rfl⟩) (by with_unfolding_all rfl))
      (bpss_one (bps_ret (bpe_op op_add (bpv 1) bpe_int)))
      bpss_nil)
      (bpss_cons (bps_set (i := 2) sc_piece_end.nd rfl (by first | exact Or.inl rfl | exact Or.inr rfl) (bpe_ifExp (bpt_cmpR op_eq (bpe_ixA ix_str (bpv 0) (bpv 1)) bpe_str (nomark _)) (bpe_op op_add (bpv 1) bpe_int) (bpv 1)))
      (bpss_one (bps_ret (bpe_fnx T.condition_end G_condition_end hr pass1 (bpa_cons (bpv 0) (bpa_cons (bpe_fnx T.name_end G_name_end hr pass1 (bpa_cons (bpv 0) (bpa_cons (bpv 2) bpa_nil))) bpa_nil))))))), ?_⟩
    walk_at "rd"
    cases q : l.drop i with
    | nil =>
      have := congrArg List.length q
      rw [List.length_drop, List.length_nil] at this
      omega
    | cons c r =>
      have hc0 : l[i]? = some c := by
        have : (l.drop i)[0]? = some c := by rw [q]; rfl
        rw [List.getElem?_drop] at this
        exact this
      have sing : SqT K H t.k_SINGLE_SIGNS (singT.map fun z => V.str (tx z)) := T.s_SINGLE_SIGNS H
      rw [q] at k
      have ep : pieceLen (c :: r) = if c ∈ singles then some 1 else (condLen ((c :: r).drop ((if c = 60 then 1 else 0) + nameLen ((c :: r).drop (if c = 60 then 1 else 0))))).map (((if c = 60 then 1 else 0) + nameLen ((c :: r).drop (if c = 60 then 1 else 0))) + ·) := rfl
      rw [ep] at k
      refine rd_sign (sz_of hl) (by omega) (by omega) fun c1 hc1 => ?_
      rw [Int.toNat_natCast] at hc1
      obtain rfl : c1 = c := by rw [hc0] at hc1; exact (Option.some.inj hc1).symm
      refine rd_inT sing ⟨_, rfl, ?_⟩
      by_cases hs : c1 ∈ singles
      · rw [if_pos hs] at k
        exact ite_T (decide_eq_true (singT_mem.mpr hs)) k
      · rw [if_neg hs] at k
        refine ite_F (by simp [singT_mem, hs]) (rd_sign (sz_of hl) (by omega) (by omega) fun c2 hc2 => ?_)
        rw [Int.toNat_natCast] at hc2
        obtain rfl : c2 = c1 := by rw [hc0] at hc2; exact (Option.some.inj hc2).symm
        refine ⟨rfl, ?_⟩
        have go : ∀ st : Nat, (if c2 = 60 then 1 else 0) = st → i + st ≤ l.length → sp_name_end [V.str (tx l), V.int ((i + st : Nat) : Int)] H (fun x H1 => sp_condition_end t [V.str (tx l), x] H1 Q E) E := by
          intro st est hst
          rw [est, ← q, List.drop_drop, List.drop_drop] at k
          refine ⟨l, i + st, rfl, hst, hl, l, _, rfl, hl, ?_⟩
          rw [Nat.add_assoc]
          cases e : condLen (l.drop (i + (st + nameLen (l.drop (i + st))))) with
          | none =>
            rw [e] at k
            exact k
          | some n2 =>
            rw [e] at k
            show Q (V.int ((i + (st + nameLen (l.drop (i + st))) + n2 : Nat) : Int)) H
            rw [show i + (st + nameLen (l.drop (i + st))) + n2 = i + (st + nameLen (l.drop (i + st)) + n2) by omega]
            exact k
        by_cases h60 : c2 = 60
        · exact ite_T (by rw [h60]) (go 1 (if_pos h60) (by omega))
        · exact ite_F (fun z => h60 (by simpa [tx] using z)) (go 0 (if_neg h60) (by omega))
theorem sc_mark_read : FnScope ["text", "back", "halves", "name", "sign"] ["text"] (defScope s_mark_read) := ⟨rfl, rfl, rfl, by decide +kernel, rfl, by decide +kernel, by decide +kernel⟩
theorem ok_mark_read (T : Txt K mg t) : FnOk P w K mg base (CX1 P w) 4 t.a_mark_read t.d_mark_read ["text"] (sp_mark_read t) := by
  have G_condition_number := (ok_condition_number (P := P) (w := w) (base := base) T).mono (show 3 ≤ 3 by decide)
  have G_good_name := (ok_good_name (P := P) (w := w) (base := base) T).mono (show 1 ≤ 3 by decide)
  refine T.mark_read.fn.okX sc_mark_read (fun vs H Q E h => ?_) (fun cdv A outer s H vs Q E hr h => ?_)
  · obtain ⟨l, rfl, hl, h2, k⟩ := h
    rfl
  · obtain ⟨l, rfl, hl, h2, k⟩ := h
    refine ⟨_, Bx.un (bpss_cons (bps_set (i := 1) sc_mark_read.nd rfl (by first | exact Or.inl rfl | exact Or.inr rfl) (bpe_bm PySem.F.plainAttrs_str PySem.F.slot_str_startswith PySem.F.type_str_startswith mt_starts (bpv 0) (bpa_cons bpe_str bpa_nil)))
      (bpss_cons (bps_set (i := 2) sc_mark_read.nd rfl (by first | exact Or.inl rfl | exact Or.inr rfl) (bpe_bm PySem.F.plainAttrs_str PySem.F.slot_str_partition PySem.F.type_str_partition mt_partition (bpe_ifExp (bpt_val (bpv 1)) (bpe_slice sl_fr (bpv 0) (bpo_some bpe_int) bpo_none) (bpv 0)) (bpa_cons bpe_str bpa_nil)))
      (bpss_cons (bps_set (i := 3) sc_mark_read.nd rfl (by first | exact Or.inl rfl | exact Or.inr rfl) (bpe_ixA ix_tup (bpv 2) bpe_int))
      (bpss_cons (bps_if (bpw_and (bpt_cmpR op_ne (bpv 3) (bpe_const T.c_ANY_NAME) (nomark _)) (bpw_and1 (bpt_not (bpt_val (bpe_fnx T.good_name G_good_name hr pass1 (bpa_cons (bpv 3) bpa_nil)))))).bpt
      (bpss_one (bps_raise (T.xc_NoPiece) raises1 rfl bpe_str))
      bpss_nil)
      (bpss_cons (bps_if (bpt_cmpR op_eq (bpe_ixA ix_tup (bpv 2) bpe_int) bpe_str (nomark _))
      (bpss_one (bps_ret (bpe_tup (bpa_cons bpe_str (bpa_cons (bpv 3) (bpa_cons (bpv 1) (bpa_cons bpe_str (bpa_cons bpe_int bpa_nil))))))))
      bpss_nil)
      (bpss_cons (bps_set (i := 4) sc_mark_read.nd rfl (by first | exact Or.inl rfl | exact Or.inr rfl) (bpe_slice sl_to (bpe_ixA ix_tup (bpv 2) bpe_int) bpo_none (bpo_some bpe_int)))
      (bpss_cons (bps_if (bpt_cmpR op_notIn_seq (bpv 4) (bpe_const (v := .ref t.k_CONDITION_SIGNS) ⟨_, T.c_CONDITION_SIGNS, rfl⟩) (by with_unfolding_all rfl))
      (bpss_one (bps_raise (T.xc_NoPiece) raises1 rfl bpe_str))
      bpss_nil)
      (bpss_one (bps_ret (bpe_tup (bpa_cons bpe_str (bpa_cons (bpv 3) (bpa_cons (bpv 1) (bpa_cons (bpv 4) (bpa_cons (bpe_fnx T.condition_number G_condition_number hr pass1 (bpa_cons (bpe_slice sl_inner (bpe_ixA ix_tup (bpv 2) bpe_int) (bpo_some bpe_int) (bpo_some (bpe_un un_neg bpe_int))) bpa_nil)) bpa_nil))))))))))))))), ?_⟩
    walk_at "rs"
    refine seq_rule fun N hN => ?_
    walk_at "rd"
    refine hN _ _ ?_
    clear hN N
    unfold markR at k
    unfold two at h2
    dsimp only at k
    refine seq_rule fun N hN => ?_
    have go : ∀ body : List Nat, body = (if decide (l.head? = some 60) = true then l.drop 1 else l) → rPartition (V.str (tx body)) [V.str (tx [91])] H fun x H1 => N [some (.str (tx l)), some (.bl (decide (l.head? = some 60))), some x, none, none] H1 := by
      intro body eb
      have bz : body.length ≤ 100000 := by
        rw [eb]
        split
        · rw [List.length_drop]; omega
        · exact hl
      rw [← eb] at k h2
      clear eb
      have l1 : (partC 91 body).1.length ≤ 100000 := by
        unfold partC
        split
        · dsimp only; rw [List.length_take]; omega
        · exact bz
      have l3 : (partC 91 body).2.2.length ≤ 100000 := by
        unfold partC
        split
        · dsimp only; rw [List.length_drop]; omega
        · exact Nat.zero_le _
      refine rd_partition (sz_of bz) fun p hp => hN _ _ ?_
      clear hN N
      generalize partC 91 body = P at k h2 l1 l3
      obtain ⟨nm, sep, rest⟩ := P
      dsimp only at k h2 l1 l3 ⊢
      have s1 := Same.new (o := .tup [.str (tx nm), .str (tx sep), .str (tx rest)]) hp
      have e1 : upd H p (.tup [.str (tx nm), .str (tx sep), .str (tx rest)]) p = some (.tup [.str (tx nm), .str (tx sep), .str (tx rest)]) := upd_same
      generalize upd H p (.tup [.str (tx nm), .str (tx sep), .str (tx rest)]) = H1 at s1 e1
      refine seq_rule fun N hN => ?_
      walk_at "rd"
      refine rd_ixT e1 rfl (hN _ _ ?_)
      clear hN N
      refine seq_rule fun N hN => ?_
      have hM : ∀ H2, ¬ (nm ≠ [95] ∧ goodC nm = false) → Same H1 H2 → N [some (.str (tx l)), some (.bl (decide (l.head? = some 60))), some (.ref p), some (.str (tx nm)), none] H2 := by
        intro H2 gd s2
        rw [if_neg gd] at k
        refine hN _ _ ?_
        clear hN N
        have s12 := s1.trans s2
        have e2 := s2 _ _ e1
        by_cases es : sep = []
        · rw [if_pos es] at k
          walk_at "rd"
          refine rd_ixT e2 rfl ⟨rfl, ite_T (by rw [es]) ⟨by decide, fun r hr' => k r _ (s12.free hr') (s12.upd_new (s12.free hr')) upd_same⟩⟩
        · rw [if_neg es] at k
          walk_at "rd"
          refine rd_ixT e2 rfl ⟨rfl, ite_F (fun z => es (tx_inj.mp (by injection z))) ?_⟩
          have cnd : SqT K H2 t.k_CONDITION_SIGNS (condT.map fun z => V.str (tx z)) := T.s_CONDITION_SIGNS H2
          refine rd_ixT e2 rfl ⟨_, rfl, by rw [tx_len]; exact sz_of (by omega), ?_⟩
          rw [tx_list]
          refine rd_inT cnd ⟨_, rfl, ?_⟩
          rw [if_pos rfl]
          by_cases ht : rest.take 1 ∈ condT
          · rw [if_neg (fun z => z ht)] at k
            rw [decide_eq_true ht]
            refine ite_F (by decide) (rd_ixT e2 rfl ⟨_, rfl, rfl, rfl, h2 ht, sz_of l3, _, rfl, sz_of ?_, fun H3 s3 => ?_⟩)
            · rw [List.length_take, List.length_drop]
              omega
            have s13 := s12.trans s3
            cases hr' : readC ((rest.drop 1).take (rest.length - 2)) with
            | none =>
              rw [hr'] at k
              exact fun d => k _ _ s13
            | some n =>
              rw [hr'] at k
              exact ⟨by decide, fun r hr'' => k r _ (s13.free hr'') (s13.upd_new (s13.free hr'')) upd_same⟩
          · rw [if_pos ht] at k
            rw [decide_eq_false ht]
            exact ite_T rfl (k _ _ s12)
      walk_at "rd"
      by_cases e95 : nm = [95]
      · exact ite_F (fun z => z e95) (hM H1 (fun z => z.1 e95) (Same.refl _))
      · refine ite_T e95 ⟨_, rfl, sz_of l1, fun H2 s2 => ⟨_, rfl, ?_⟩⟩
        cases hg : goodC nm with
        | true => exact ite_F (by decide) (hM H2 (fun z => by rw [hg] at z; cases z.2) s2)
        | false =>
          rw [if_pos ⟨e95, hg⟩] at k
          exact ite_T rfl (k _ _ (s1.trans s2))
    walk_at "rd"
    by_cases hb : l.head? = some 60
    · exact ite_T hb ⟨sz_of hl, go _ (by rw [decide_eq_true hb, if_pos rfl])⟩
    · exact ite_F hb (go _ (by rw [decide_eq_false hb, if_neg Bool.false_ne_true]))
theorem sc_pieces : FnScope ["text", "found", "place", "end", "part"] ["text"] (defScope s_pieces) := ⟨rfl, rfl, rfl, by decide +kernel, rfl, by decide +kernel, by decide +kernel⟩
theorem ok_pieces (T : Txt K mg t) : FnOk P w K mg base (CX1 P w) 5 t.a_pieces t.d_pieces ["text"] (sp_pieces t) := by
  have G_piece_end := (ok_piece_end (P := P) (w := w) (base := base) T).mono (show 2 ≤ 4 by decide)
  have G_mark_read := (ok_mark_read (P := P) (w := w) (base := base) T).mono (show 4 ≤ 4 by decide)
  refine T.pieces.fn.okX sc_pieces (fun vs H Q E h => ?_) (fun cdv A outer s H vs Q E hr h => ?_)
  · obtain ⟨l, rfl, hl, k⟩ := h
    rfl
  · obtain ⟨l, rfl, hl, k⟩ := h
    refine ⟨_, Bx.un (bpss_cons (bps_set (i := 1) sc_pieces.nd rfl (by first | exact Or.inl rfl | exact Or.inr rfl) (bpe_lst bpa_nil))
      (bpss_cons (bps_set (i := 2) sc_pieces.nd rfl (by first | exact Or.inl rfl | exact Or.inr rfl) bpe_int)
      (bpss_cons (bps_while PassesOwn.leaving (bpt_cmpR op_lt (bpv 2) (bpe_callB call_len_str (by rfl) T.b_len PySem.boot_len (bpa_cons (bpv 0) bpa_nil)) (nomark _))
      (bpss_cons (bps_set (i := 3) sc_pieces.nd rfl (by first | exact Or.inl rfl | exact Or.inr rfl) (bpe_fnx T.piece_end G_piece_end hr pass1 (bpa_cons (bpv 0) (bpa_cons (bpv 2) bpa_nil))))
      (bpss_cons (bps_set (i := 4) sc_pieces.nd rfl (by first | exact Or.inl rfl | exact Or.inr rfl) (bpe_slice sl_mid (bpv 0) (bpo_some (bpv 2)) (bpo_some (bpv 3))))
      (bpss_cons (bps_expr (bpe_bm PySem.F.plainAttrs_list PySem.F.slot_list_append PySem.F.type_list_append mt_append (bpv 1) (bpa_cons (bpe_ifExp (bpt_cmpR op_in_seq (bpv 4) (bpe_const (v := .ref t.k_SINGLE_SIGNS) ⟨_, T.c_SINGLE_SIGNS, rfl⟩) (by with_unfolding_all rfl)) (bpv 4) (bpe_fnx T.mark_read G_mark_read hr pass1 (bpa_cons (bpv 4) bpa_nil))) bpa_nil)))
      (bpss_one (bps_set (i := 2) sc_pieces.nd rfl (by first | exact Or.inl rfl | exact Or.inr rfl) (bpv 3)))))))
      (bpss_one (bps_ret (bpv 1)))))), ?_⟩
    walk_at "rd"
    refine ⟨Nat.zero_le _, fun p hp => ?_⟩
    refine ⟨fun m σ H1 => ∃ (i : Nat) (us : List V) (row : List Pc) (v3 v4 : Option V), m = l.length - i ∧ i ≤ l.length ∧ row.length ≤ i ∧ σ = [some (.str (tx l)), some (.ref p), some (.int (i : Int)), v3, v4] ∧ Same H H1 ∧ H1 p = some (.lst us) ∧ All2 (PcAt H1) row us ∧ cutP l.length l = (cutP (l.drop i).length (l.drop i)).map (row ++ ·), ⟨_, 0, [], [], none, none, rfl, Nat.zero_le _, Nat.zero_le _, rfl, Same.new hp, upd_same, .nil, ?_⟩, ?_⟩
    · rw [List.drop_zero]
      cases cutP l.length l <;> rfl
    rintro m σ H1 ⟨i, us, row, v3, v4, rfl, hi, lr, rfl, s1, e1, al, ec⟩
    walk_at "rd"
    refine ⟨sz_of hl, ?_⟩
    by_cases hlt : i < l.length
    · have dne : l.drop i ≠ [] := fun z => by
        have := congrArg List.length z
        rw [List.length_drop, List.length_nil] at this
        omega
      have cs := cut_step dne
      rw [cs] at ec
      clear cs
      have lu := al.len
      have sz : us.length < sizeLine := Nat.lt_of_le_of_lt (show us.length ≤ 100000 by omega) (by rw [sizeLine_eq]; decide)
      refine ite_T (by omega) ⟨fun σ' H' => ∃ (i' : Nat) (us : List V) (row : List Pc) (v3 v4 : Option V), i < i' ∧ i' ≤ l.length ∧ row.length ≤ i' ∧ σ' = [some (.str (tx l)), some (.ref p), some (.int (i' : Int)), v3, v4] ∧ Same H H' ∧ H' p = some (.lst us) ∧ All2 (PcAt H') row us ∧ cutP l.length l = (cutP (l.drop i').length (l.drop i')).map (row ++ ·), fun σ' H' ⟨i', us, row, v3, v4, h0, h1, h2, h3, h4, h5, h6, h7⟩ => ⟨l.length - i', by omega, i', rfl, h1, us, row, h2, v3, v4, h3, h4, h5, h6, h7⟩, l, i, rfl, hlt, hl, ?_⟩
      cases hp' : pieceLen (l.drop i) with
      | none =>
        rw [hp'] at ec
        rw [ec] at k
        exact fun d => k d _ s1
      | some n =>
        rw [hp'] at ec
        dsimp only at ec
        have nle := pieceLen_le hp'
        rw [List.length_drop] at nle
        have sing : SqT K H1 t.k_SINGLE_SIGNS (singT.map fun z => V.str (tx z)) := T.s_SINGLE_SIGNS H1
        refine ⟨_, rfl, _, _, _, rfl, rfl, rfl, by omega, by omega, sz_of hl, ?_⟩
        rw [show i + n - i = n by omega]
        refine ⟨tyV_lst (SqL.of e1), rd_inT sing ⟨_, rfl, ?_⟩⟩
        have adv : ∀ q : Pc, pieceR ((l.drop i).take n) = some q → 0 < n ∧ cutP l.length l = (cutP (l.drop (i + n)).length (l.drop (i + n))).map ((row ++ [q]) ++ ·) := fun q hq => by
          rw [hq] at ec
          refine ⟨Nat.pos_of_ne_zero fun z => ?_, ?_⟩
          · rw [z, List.take_zero, pieceR_nil] at hq
            cases hq
          · rw [ec, List.drop_drop, Option.map_map]
            congr 1
            funext x
            simp
        by_cases hs : (l.drop i).take n ∈ singT
        · obtain ⟨c, ec1, _, ec2⟩ := pieceR_sing hs
          obtain ⟨n0, ad⟩ := adv _ ec2
          refine ite_T (decide_eq_true hs) ⟨_, e1, sz, i + n, us ++ [.str (tx ((l.drop i).take n))], row ++ [.sign c], _, _, by omega, by omega, by rw [List.length_append, List.length_singleton]; omega, rfl, s1.upd_new hp, upd_same, ?_, ad⟩
          have st := step_upd (o := .lst (us ++ [.str (tx ((l.drop i).take n))])) (Same.refl H1) e1
          exact (al.imp fun _ _ z => z.keep st.tup).snoc (show PcAt _ (.sign c) _ by rw [ec1]; rfl)
        · refine ite_F (by rw [decide_eq_false hs]; decide) ⟨_, rfl, by rw [List.length_take, List.length_drop]; omega, part_two hp', ?_⟩
          have pn := pieceR_not hs
          cases hm : markR ((l.drop i).take n) with
          | none =>
            rw [hm] at pn
            rw [pn] at ec
            rw [ec] at k
            exact fun d H2 s2 => k d _ (s1.trans s2)
          | some mk =>
            rw [hm] at pn
            obtain ⟨n0, ad⟩ := adv _ pn
            intro r H2 hr' s2 e2
            refine ⟨_, s2 _ _ e1, sz, i + n, us ++ [.ref r], row ++ [.mark mk], _, _, by omega, by omega, by rw [List.length_append, List.length_singleton]; omega, rfl, (s1.trans s2).upd_new hp, upd_same, ?_, ad⟩
            have st := step_upd (o := .lst (us ++ [.ref r])) (Same.refl H2) (s2 _ _ e1)
            exact (al.imp fun _ _ z => (z.same s2).keep st.tup).snoc ⟨r, rfl, st.tup _ _ e2⟩
    · have ie : i = l.length := by omega
      subst ie
      rw [List.drop_length] at ec
      have ec : cutP l.length l = some row := by
        rw [ec]
        show some (row ++ []) = some row
        rw [List.append_nil]
      rw [ec] at k
      exact ite_F (by omega) (k p H1 us hp s1 e1 al)
theorem sc_l_shown : FnScope ["piece", "told"] ["piece"] (defScope s_l_shown) := ⟨rfl, rfl, rfl, by decide +kernel, rfl, by decide +kernel, by decide +kernel⟩
theorem ok_l_shown (T : Txt K mg t) : FnOk P w K mg base (CX1 P w) 1 t.a_l_shown t.d_l_shown ["piece"] (sp_l_shown) := by
  refine T.l_shown.fn.okN sc_l_shown (fun vs H Q E h => ?_) (fun cdv A outer s H vs Q E hr h => ?_)
  · obtain ⟨p, v, rfl, hp, w, k⟩ := h
    rfl
  · obtain ⟨p, v, rfl, hp, w, k⟩ := h
    refine ⟨_, Bx.un (bpss_cons (bps_if (bpt_val (bpe_callB call_isinst (by rfl) T.b_isinstance PyProof.Rows.boot_isinstance (bpa_cons (bpv 0) (bpa_cons (bpe_ty T.b_str PyProof.Rows.boot_str) bpa_nil))))
      (bpss_one (bps_ret (bpv 0)))
      bpss_nil)
      (bpss_cons (bps_set (i := 1) sc_l_shown.nd rfl (by first | exact Or.inl rfl | exact Or.inr rfl) (bpe_ixA ix_tup (bpv 0) bpe_int))
      (bpss_cons (bps_if (bpt_val (bpe_ixA ix_tup (bpv 0) bpe_int))
      (bpss_one (bps_set (i := 1) sc_l_shown.nd rfl (by first | exact Or.inl rfl | exact Or.inr rfl) (bpe_op op_add_str bpe_str (bpv 1))))
      bpss_nil)
      (bpss_cons (bps_if (bpt_cmpR op_ne (bpe_ixA ix_tup (bpv 0) bpe_int) bpe_str (nomark _))
      (bpss_one (bps_set (i := 1) sc_l_shown.nd rfl (by first | exact Or.inl rfl | exact Or.inr rfl) (bpe_op op_add_str (bpe_op op_add_str (bpe_op op_add_str (bpe_op op_add_str (bpv 1) bpe_str) (bpe_ixA ix_tup (bpv 0) bpe_int)) (bpe_callTy call_str_int (by rfl) T.b_str PyProof.Rows.boot_str (bpa_cons (bpe_ixA ix_tup (bpv 0) bpe_int) bpa_nil))) bpe_str)))
      bpss_nil)
      (bpss_one (bps_ret (bpv 1))))))), ?_⟩
    walk_at "rd"
    cases p with
    | sign c =>
      have hp : v = .str (tx [c]) := hp
      subst hp
      exact ⟨_, .str _, _, kit_ss K, ite_T rfl k⟩
    | mark m =>
      obtain ⟨a, rfl, ea⟩ : ∃ a, v = .ref a ∧ H a = some (.tup (mkV m)) := hp
      have w : MrkW m := w
      have ml := markT_len w
      have lg := num_log w.num
      have k : Q (.str (tx (markT m))) H := k
      have nl : m.nm.length ≤ 12 := by
        rcases w.nm with e | ⟨_, h, _⟩
        · rw [e]
          decide
        · exact h
      have sl : m.sg.length ≤ 1 := by
        have all : ∀ l ∈ [[], [60], [62], [61], [33]], List.length l ≤ 1 := by decide
        exact all _ w.sg
      have cl := numC_len w.num
      refine ⟨_, .tup ea, _, kit_ts K, ite_F (by decide) (rd_ixT ea rfl (rd_ixT ea rfl ⟨_, rfl, ?_⟩))⟩
      have em : markT m = (if m.back = true then [60] else []) ++ (m.nm ++ condC m) := rfl
      unfold condC at em
      cases hb : m.back with
      | true =>
        rw [hb, if_pos rfl] at em
        refine ite_T rfl ⟨_, rfl, sz_of (by rw [tx_len]; omega), rd_ixT ea rfl ⟨rfl, ?_⟩⟩
        by_cases es : m.sg = []
        · rw [if_pos es, List.append_nil] at em
          refine ite_F (fun z => z (by rw [es])) ?_
          rw [tx_app, ← em]
          exact k
        · rw [if_neg es] at em
          refine ite_T (fun z => es (tx_inj.mp (by injection z))) ?_
          simp only [tx_app, tx_len]
          refine ⟨sz_of (by simp only [List.length_append, List.length_cons, List.length_nil]; omega), rd_ixT ea rfl ⟨_, rfl, sz_of (by simp only [tx_len, List.length_append, List.length_cons, List.length_nil]; omega), rd_ixT ea rfl ⟨_, rfl, lg, ?_⟩⟩⟩
          rw [numC_tx]
          simp only [tx_app, tx_len]
          refine ⟨sz_of (by simp only [List.length_append, List.length_cons, List.length_nil]; omega), sz_of (by simp only [List.length_append, List.length_cons, List.length_nil]; omega), ?_⟩
          have e2 : [60] ++ m.nm ++ [91] ++ m.sg ++ numC m.num ++ [93] = markT m := by rw [em]; simp
          rw [e2]
          exact k
      | false =>
        rw [hb, if_neg Bool.false_ne_true, List.nil_append] at em
        refine ite_F (by decide) (rd_ixT ea rfl ⟨rfl, ?_⟩)
        by_cases es : m.sg = []
        · rw [if_pos es, List.append_nil] at em
          refine ite_F (fun z => z (by rw [es])) ?_
          rw [← em]
          exact k
        · rw [if_neg es] at em
          refine ite_T (fun z => es (tx_inj.mp (by injection z))) ⟨_, rfl, sz_of (by rw [tx_len]; omega), ?_⟩
          simp only [tx_app, tx_len]
          refine rd_ixT ea rfl ⟨_, rfl, sz_of (by simp only [tx_len, List.length_append, List.length_cons, List.length_nil]; omega), rd_ixT ea rfl ⟨_, rfl, lg, ?_⟩⟩
          rw [numC_tx]
          simp only [tx_app, tx_len]
          refine ⟨sz_of (by simp only [List.length_append, List.length_cons, List.length_nil]; omega), sz_of (by simp only [List.length_append, List.length_cons, List.length_nil]; omega), ?_⟩
          have e2 : m.nm ++ [91] ++ m.sg ++ numC m.num ++ [93] = markT m := by rw [em]; simp
          rw [e2]
          exact k
theorem sc_l_any_sign : FnScope ["cell", "some"] ["cell"] (defScope s_l_any_sign) := ⟨rfl, rfl, rfl, by decide +kernel, rfl, by decide +kernel, by decide +kernel⟩
theorem ok_l_any_sign (T : Txt K mg t) : FnOk P w K mg base (CX1 P w) 1 t.a_l_any_sign t.d_l_any_sign ["cell"] (sp_l_any_sign) := by
  refine T.l_any_sign.fn.okN sc_l_any_sign (fun vs H Q E h => ?_) (fun cdv A outer s H vs Q E hr h => ?_)
  · obtain ⟨c, rfl, k⟩ := h
    rfl
  · obtain ⟨c, rfl, k⟩ := h
    refine ⟨_, Bx.un (bpss_cons (bps_set (i := 1) sc_l_any_sign.nd rfl (by first | exact Or.inl rfl | exact Or.inr rfl) bpe_str)
      (bpss_cons (bps_set (i := 1) sc_l_any_sign.nd rfl (by first | exact Or.inl rfl | exact Or.inr rfl) (bpe_op op_add_str (bpv 1) bpe_str))
      (bpss_cons (bps_if (bpt_cmpR op_eq (bpe_op op_mod (bpv 0) bpe_int) bpe_int (nomark _))
      (bpss_one (bps_ret (bpe_ixA ix_str (bpv 1) (bpe_op op_mod (bpe_op op_fdiv (bpv 0) bpe_int) bpe_int))))
      bpss_nil)
      (bpss_one (bps_ret (bpe_ixA ix_str bpe_str (bpe_op op_mod (bpe_op op_fdiv (bpv 0) bpe_int) bpe_int))))))), ?_⟩
    walk_at "rs"
    refine seq_rule fun N hN => ?_
    walk_at "rd"
    refine hN _ _ ?_
    clear hN N
    refine seq_rule fun N hN => ?_
    walk_at "rd"
    refine ⟨by decide, hN _ _ ?_⟩
    clear hN N
    walk_at "rd"
    refine ite_both (fun _ => rd_sign (by decide) (by omega) (by show c / 3 % 96 < 96; omega) fun x _ => k [x] _ (by simp) (Same.refl _)) fun _ => rd_sign (by decide) (by omega) (by show c / 3 % 11 < 11; omega) fun x _ => k [x] _ (by simp) (Same.refl _)
theorem sc_l_odd : FnScope ["cell", "ahead", "shut"] ["cell"] (defScope s_l_odd) := ⟨rfl, rfl, rfl, by decide +kernel, rfl, by decide +kernel, by decide +kernel⟩
theorem ok_l_odd (T : Txt K mg t) : FnOk P w K mg base (CX1 P w) 2 t.a_l_odd t.d_l_odd ["cell"] (sp_l_odd) := by
  have G_l_number_by := (ok_l_number_by (P := P) (w := w) (base := base) T).mono (show 1 ≤ 1 by decide)
  refine T.l_odd.fn.okN sc_l_odd (fun vs H Q E h => ?_) (fun cdv A outer s H vs Q E hr h => ?_)
  · obtain ⟨c, rfl, k⟩ := h
    rfl
  · obtain ⟨c, rfl, k⟩ := h
    refine ⟨_, Bx.un (bpss_cons (bps_set (i := 1) sc_l_odd.nd rfl (by first | exact Or.inl rfl | exact Or.inr rfl) (bpe_ixA ix_list bpe_lstS (bpe_op op_mod (bpe_op op_fdiv (bpv 0) bpe_int) bpe_int)))
      (bpss_cons (bps_set (i := 2) sc_l_odd.nd rfl (by first | exact Or.inl rfl | exact Or.inr rfl) (bpe_ixA ix_list bpe_lstS (bpe_op op_mod (bpe_op op_fdiv (bpv 0) bpe_int) bpe_int)))
      (bpss_one (bps_ret (bpe_op op_add_str (bpe_op op_add_str (bpe_op op_add_str (bpe_op op_add_str bpe_str (bpe_ixA ix_list bpe_lstS (bpe_op op_mod (bpv 0) bpe_int))) (bpv 1)) (bpe_callTy call_str_int (by rfl) T.b_str PyProof.Rows.boot_str (bpa_cons (bpe_fnx T.l_number_by G_l_number_by hr pass0' (bpa_cons (bpe_op op_fdiv (bpv 0) bpe_int) bpa_nil)) bpa_nil))) (bpv 2)))))), ?_⟩
    walk_at "rs"
    refine seq_rule fun N hN => ?_
    walk_at "rd"
    refine ⟨by decide, fun p hp => rd_pick (by omega) (by show c / 5 % 8 < 8; omega) fun v hv => hN _ _ ?_⟩
    clear hN N
    obtain ⟨y, rfl, hy⟩ : ∃ y : Nm, v = .str (tx y) ∧ y.length ≤ 2 := by
      simp only [List.mem_cons, List.not_mem_nil, or_false] at hv
      rcases hv with rfl | rfl | rfl | rfl | rfl | rfl | rfl | rfl <;> exact ⟨_, rfl, by decide⟩
    have n1 := Same.new (o := .lst [V.str (tx []), V.str (tx [48]), V.str (tx [45]), V.str (tx [45, 48]), V.str (tx [49]), V.str (tx [43]), V.str (tx [45, 45]), V.str (tx [32])]) hp
    generalize upd H p (.lst [V.str (tx []), V.str (tx [48]), V.str (tx [45]), V.str (tx [45, 48]), V.str (tx [49]), V.str (tx [43]), V.str (tx [45, 45]), V.str (tx [32])]) = H1 at n1
    refine seq_rule fun N hN => ?_
    walk_at "rd"
    refine ⟨by decide, fun q hq => rd_pick (by omega) (by show c / 40 % 5 < 5; omega) fun v hv => hN _ _ ?_⟩
    clear hN N
    obtain ⟨z, rfl, hz⟩ : ∃ y : Nm, v = .str (tx y) ∧ y.length ≤ 2 := by
      simp only [List.mem_cons, List.not_mem_nil, or_false] at hv
      rcases hv with rfl | rfl | rfl | rfl | rfl <;> exact ⟨_, rfl, by decide⟩
    have n2 := n1.trans (Same.new (o := .lst [V.str (tx [93]), V.str (tx [93]), V.str (tx []), V.str (tx [93, 93]), V.str (tx [32, 93])]) hq)
    generalize upd H1 q (.lst [V.str (tx [93]), V.str (tx [93]), V.str (tx []), V.str (tx [93, 93]), V.str (tx [32, 93])]) = H2 at n2
    walk_at "rd"
    refine ⟨by decide, fun r hr' => rd_pick (by omega) (by show c % 5 < 5; omega) fun v hv => ?_⟩
    obtain ⟨x, rfl, hx⟩ : ∃ y : Nm, v = .str (tx y) ∧ y.length ≤ 1 := by
      simp only [List.mem_cons, List.not_mem_nil, or_false] at hv
      rcases hv with rfl | rfl | rfl | rfl | rfl <;> exact ⟨_, rfl, by decide⟩
    have n3 := n2.trans (Same.new (o := .lst [V.str (tx [60]), V.str (tx [61]), V.str (tx [33]), V.str (tx []), V.str (tx [126])]) hr')
    refine ⟨_, rfl, ?_, ?_, _, rfl, fun n hn => ⟨_, rfl, num_log hn, ?_⟩⟩
    · rw [tx_len]; exact sz_of (by omega)
    · rw [tx_app, tx_len]; exact sz_of (by rw [List.length_append, List.length_singleton]; omega)
    have ln := numC_len hn
    rw [numC_tx]
    simp only [tx_app, tx_len]
    refine ⟨sz_of (by simp only [List.length_append, List.length_cons, List.length_nil]; omega), sz_of (by simp only [List.length_append, List.length_cons, List.length_nil]; omega), k _ _ (by simp only [List.length_append, List.length_cons, List.length_nil]; omega) n3⟩
theorem sc_l_begun : FnScope ["word", "many", "sign"] ["word", "many", "sign"] (defScope s_l_begun) := ⟨rfl, rfl, rfl, by decide +kernel, rfl, by decide +kernel, by decide +kernel⟩
theorem ok_l_begun (T : Txt K mg t) : FnOk P w K mg base (CX1 P w) 1 t.a_l_begun t.d_l_begun ["word", "many", "sign"] (sp_l_begun) := by
  refine T.l_begun.fn.okN sc_l_begun (fun vs H Q E h => ?_) (fun cdv A outer s H vs Q E hr h => ?_)
  · obtain ⟨s, c, rfl, ha, k⟩ := h
    rfl
  · obtain ⟨s, c, rfl, ha, k⟩ := h
    refine ⟨_, Bx.un (bpss_cons (bps_if (bpt_cmpR op_in1 (bpv 2) bpe_str (by with_unfolding_all rfl))
      (bpss_cons (bps_if (bpt_cmpR op_ne (bpv 0) bpe_str (nomark _))
      (bpss_one (bps_ret (bpe_tup (bpa_cons bpe_str (bpa_cons bpe_int bpa_nil)))))
      bpss_nil)
      (bpss_one (bps_if (bpt_cmpR op_lt (bpv 1) bpe_int (nomark _))
      (bpss_one (bps_ret (bpe_tup (bpa_cons bpe_str (bpa_cons (bpe_op op_add (bpv 1) bpe_int) bpa_nil)))))
      bpss_nil)))
      bpss_nil)
      (bpss_cons (bps_if (bpt_cmpR op_eq (bpv 2) bpe_str (nomark _))
      (bpss_one (bps_ret (bpe_tup (bpa_cons bpe_str (bpa_cons bpe_int bpa_nil)))))
      bpss_nil)
      (bpss_cons (bps_if (bpt_cmpR op_eq (bpv 2) bpe_str (nomark _))
      (bpss_one (bps_ret (bpe_tup (bpa_cons bpe_str (bpa_cons bpe_int bpa_nil)))))
      bpss_nil)
      (bpss_cons (bps_if (bpw_and (bpt_cmpR op_eq (bpv 2) bpe_str (nomark _)) (bpw_and1 (bpt_cmpR op_ne (bpv 0) bpe_str (nomark _)))).bpt
      (bpss_one (bps_ret (bpe_tup (bpa_cons bpe_str (bpa_cons bpe_int bpa_nil)))))
      bpss_nil)
      (bpss_cons (bps_if (bpt_cmpR op_in1 (bpv 2) bpe_str (by with_unfolding_all rfl))
      (bpss_one (bps_ret (bpe_tup (bpa_cons bpe_str (bpa_cons bpe_int bpa_nil)))))
      bpss_nil)
      (bpss_one (bps_ret (bpe_tup (bpa_cons bpe_str (bpa_cons bpe_int bpa_nil)))))))))), ?_⟩
    walk_at "rs"
    have fin : ∀ X : AS, begunA s c = X → (2 ≤ sizeLine ∧ ∀ p, H p = none → Q (.ref p) (upd H p (.tup [.str (tx X.word), .int (X.many : Int)]))) := fun X e => ⟨by decide, fun p hp => k p _ hp (Same.new hp) (by rw [e]; exact upd_same)⟩
    clear k
    have isLn : isL c = true ↔ c ∈ abc := by unfold isL; exact decide_eq_true_iff
    walk_at "rd"
    by_cases hL : c ∈ abc
    · have hl := isLn.mpr hL
      obtain ⟨l1, l2, l3⟩ := isL_no hl
      have l4 : c ∉ singles := fun z => by rw [(sing_no z).1] at hl; cases hl
      refine ite_T hL ?_
      cases s with
      | name j =>
        refine ite_F (fun z => z rfl) ?_
        by_cases hj : j < 12
        · refine ite_T (by show ((j : Nat) : Int) < 12; omega) (fin (.name (j + 1)) ?_)
          unfold begunA
          rw [if_pos hl]
          exact if_pos hj
        · refine ite_F (by show ¬ ((j : Nat) : Int) < 12; omega) (ite_F l1 (ite_F l2 (ite_F l3 (ite_F l4 (fin .bad ?_)))))
          unfold begunA
          rw [if_pos hl]
          exact if_neg hj
      | free => exact ite_T (by unfold AS.word; decide) (fin (.name 1) (by unfold begunA; rw [if_pos hl]))
      | under => exact ite_T (by unfold AS.word; decide) (fin (.name 1) (by unfold begunA; rw [if_pos hl]))
      | _ => cases ha
    · have hl : ¬ isL c = true := fun z => hL (isLn.mp z)
      refine ite_F hL ?_
      by_cases h95 : c = 95
      · exact ite_T h95 (fin .under (by unfold begunA; rw [if_neg hl, if_pos h95]))
      refine ite_F h95 ?_
      by_cases h60 : c = 60
      · exact ite_T h60 (fin .back (by unfold begunA; rw [if_neg hl, if_neg h95, if_pos h60]))
      refine ite_F h60 ?_
      by_cases h91 : c = 91
      · refine ite_T h91 ?_
        by_cases hf : s = .free
        · subst hf
          have ns : c ∉ singles := by rw [h91]; decide
          exact ite_F (fun z => z rfl) (ite_F ns (fin .bad (by unfold begunA; rw [if_neg hl, if_neg h95, if_neg h60, if_neg (fun z => z.2 rfl), if_neg ns])))
        · refine ite_T ?_ (fin .op (by unfold begunA; rw [if_neg hl, if_neg h95, if_neg h60, if_pos ⟨h91, hf⟩]))
          cases s with
          | free => exact absurd rfl hf
          | name j => show ¬ ([110, 97, 109, 101] : Nm) = [102, 114, 101, 101]; decide
          | under => unfold AS.word; decide
          | _ => cases ha
      refine ite_F h91 ?_
      by_cases hs : c ∈ singles
      · exact ite_T hs (fin .free (by unfold begunA; rw [if_neg hl, if_neg h95, if_neg h60, if_neg (fun z => h91 z.1), if_pos hs]))
      · exact ite_F hs (fin .bad (by unfold begunA; rw [if_neg hl, if_neg h95, if_neg h60, if_neg (fun z => h91 z.1), if_neg hs]))
theorem sc_l_step : FnScope ["word", "many", "sign"] ["word", "many", "sign"] (defScope s_l_step) := ⟨rfl, rfl, rfl, by decide +kernel, rfl, by decide +kernel, by decide +kernel⟩
theorem ok_l_step (T : Txt K mg t) : FnOk P w K mg base (CX1 P w) 2 t.a_l_step t.d_l_step ["word", "many", "sign"] (sp_l_step) := by
  have G_l_begun := (ok_l_begun (P := P) (w := w) (base := base) T).mono (show 1 ≤ 1 by decide)
  refine T.l_step.fn.okN sc_l_step (fun vs H Q E h => ?_) (fun cdv A outer s H vs Q E hr h => ?_)
  · obtain ⟨s, c, rfl, k⟩ := h
    rfl
  · obtain ⟨s, c, rfl, k⟩ := h
    refine ⟨_, Bx.un (bpss_cons (bps_if (bpw_or (bpt_cmpR op_eq (bpv 0) bpe_str (nomark _)) (bpw_or (bpt_cmpR op_eq (bpv 0) bpe_str (nomark _)) (bpw_or1 (bpt_cmpR op_eq (bpv 0) bpe_str (nomark _))))).bpt
      (bpss_one (bps_ret (bpe_fnx T.l_begun G_l_begun hr pass0' (bpa_cons (bpv 0) (bpa_cons (bpv 1) (bpa_cons (bpv 2) bpa_nil))))))
      bpss_nil)
      (bpss_cons (bps_if (bpw_and (bpt_cmpR op_eq (bpv 0) bpe_str (nomark _)) (bpw_and1 (bpw_or (bpt_cmpR op_eq (bpv 2) bpe_str (nomark _)) (bpw_or1 (bpt_cmpR op_in1 (bpv 2) bpe_str (by with_unfolding_all rfl)))).bpt)).bpt
      (bpss_one (bps_ret (bpe_fnx T.l_begun G_l_begun hr pass0' (bpa_cons bpe_str (bpa_cons bpe_int (bpa_cons (bpv 2) bpa_nil))))))
      bpss_nil)
      (bpss_cons (bps_if (bpw_and (bpt_cmpR op_eq (bpv 0) bpe_str (nomark _)) (bpw_and1 (bpt_cmpR op_in1 (bpv 2) bpe_str (by with_unfolding_all rfl)))).bpt
      (bpss_one (bps_ret (bpe_tup (bpa_cons bpe_str (bpa_cons bpe_int bpa_nil)))))
      bpss_nil)
      (bpss_cons (bps_if (bpw_and (bpt_cmpR op_eq (bpv 0) bpe_str (nomark _)) (bpw_and1 (bpt_cmpR op_eq (bpv 2) bpe_str (nomark _)))).bpt
      (bpss_one (bps_ret (bpe_tup (bpa_cons bpe_str (bpa_cons bpe_int bpa_nil)))))
      bpss_nil)
      (bpss_cons (bps_if (bpw_and (bpt_cmpR op_eq (bpv 0) bpe_str (nomark _)) (bpw_and1 (bpt_cmpR op_eq (bpv 2) bpe_str (nomark _)))).bpt
      (bpss_one (bps_ret (bpe_tup (bpa_cons bpe_str (bpa_cons bpe_int bpa_nil)))))
      bpss_nil)
      (bpss_cons (bps_if (bpw_and (bpw_or (bpt_cmpR op_eq (bpv 0) bpe_str (nomark _)) (bpw_or1 (bpt_cmpR op_eq (bpv 0) bpe_str (nomark _)))).bpt (bpw_and1 (bpt_cmpR op_in1 (bpv 2) bpe_str (by with_unfolding_all rfl)))).bpt
      (bpss_one (bps_ret (bpe_tup (bpa_cons bpe_str (bpa_cons bpe_int bpa_nil)))))
      bpss_nil)
      (bpss_cons (bps_if (bpw_and (bpt_cmpR op_eq (bpv 0) bpe_str (nomark _)) (bpw_and (bpt_cmpR op_in1 (bpv 2) bpe_str (by with_unfolding_all rfl)) (bpw_and1 (bpt_cmpR op_lt (bpv 1) bpe_int (nomark _))))).bpt
      (bpss_one (bps_ret (bpe_tup (bpa_cons bpe_str (bpa_cons (bpe_op op_add (bpv 1) bpe_int) bpa_nil)))))
      bpss_nil)
      (bpss_cons (bps_if (bpw_and (bpw_or (bpt_cmpR op_eq (bpv 0) bpe_str (nomark _)) (bpw_or1 (bpt_cmpR op_eq (bpv 0) bpe_str (nomark _)))).bpt (bpw_and1 (bpt_cmpR op_eq (bpv 2) bpe_str (nomark _)))).bpt
      (bpss_one (bps_ret (bpe_tup (bpa_cons bpe_str (bpa_cons bpe_int bpa_nil)))))
      bpss_nil)
      (bpss_one (bps_ret (bpe_tup (bpa_cons bpe_str (bpa_cons bpe_int bpa_nil))))))))))))), ?_⟩
    walk_at "rs"
    have fin : ∀ X : AS, stepA s c = X → (2 ≤ sizeLine ∧ ∀ p, H p = none → Q (.ref p) (upd H p (.tup [.str (tx X.word), .int (X.many : Int)]))) := fun X e => ⟨by decide, fun p hp => k p _ hp (Same.new hp) (by rw [e]; exact upd_same)⟩
    have beg : ∀ s' : AS, s'.at_ = true → stepA s c = begunA s' c → sp_l_begun [V.str (tx s'.word), V.int (s'.many : Int), V.str (tx [c])] H Q E0 := fun s' h e => ⟨s', c, rfl, h, fun p H' hp sm e' => k p H' hp sm (by rw [e]; exact e')⟩
    clear k
    have isLn : isL c = true ↔ c ∈ abc := by unfold isL; exact decide_eq_true_iff
    have dg : c ∈ [49, 50, 51, 52, 53, 54, 55, 56, 57] ↔ (49 ≤ c ∧ c ≤ 57) := by
      simp only [List.mem_cons, List.not_mem_nil, or_false]
      omega
    have d0 : c ∈ [48, 49, 50, 51, 52, 53, 54, 55, 56, 57] ↔ (48 ≤ c ∧ c ≤ 57) := by
      simp only [List.mem_cons, List.not_mem_nil, or_false]
      omega
    have cd : c ∈ [60, 62, 61, 33] ↔ [c] ∈ condT := by
      unfold condT
      simp
    cases s with
    | free =>
      simp only [AS.word, AS.many] at ⊢
      walk_at "rd"
      (try simp only [Nat.reduceEqDiff, false_and, and_false, if_false, if_true, and_self, true_and])
      exact beg .free rfl rfl
    | name j =>
      simp only [AS.word, AS.many] at ⊢
      walk_at "rd"
      (try simp only [Nat.reduceEqDiff, false_and, and_false, if_false, if_true, and_self, true_and])
      exact beg (.name j) rfl rfl
    | under =>
      simp only [AS.word, AS.many] at ⊢
      walk_at "rd"
      (try simp only [Nat.reduceEqDiff, false_and, and_false, if_false, if_true, and_self, true_and])
      exact beg .under rfl rfl
    | back =>
      simp only [AS.word, AS.many] at ⊢
      walk_at "rd"
      (try simp only [Nat.reduceEqDiff, false_and, and_false, if_false, if_true, and_self, true_and])
      have e : (c = 95 ∨ isL c = true) → stepA .back c = begunA .free c := fun z => if_pos z
      by_cases h1 : c = 95
      · exact ite_T h1 (beg .free rfl (e (.inl h1)))
      refine ite_F h1 ?_
      by_cases h2 : c ∈ abc
      · exact ite_T h2 (beg .free rfl (e (.inr (isLn.mpr h2))))
      · exact ite_F h2 (fin .bad (if_neg (by rintro (z | z); exact h1 z; exact h2 (isLn.mp z))))
    | op =>
      simp only [AS.word, AS.many] at ⊢
      walk_at "rd"
      (try simp only [Nat.reduceEqDiff, false_and, and_false, if_false, if_true, and_self, true_and])
      by_cases h1 : [c] ∈ condT
      · exact ite_T (cd.mpr h1) (fin .sign (if_pos h1))
      · exact ite_F (fun z => h1 (cd.mp z)) (fin .bad (if_neg h1))
    | sign =>
      simp only [AS.word, AS.many] at ⊢
      walk_at "rd"
      (try simp only [Nat.reduceEqDiff, false_and, and_false, if_false, if_true, and_self, true_and])
      have e : stepA .sign c = if c = 45 then .minus else if c = 48 then .nought else if 49 ≤ c ∧ c ≤ 57 then .figs 1 else .bad := rfl
      by_cases h1 : c = 45
      · exact ite_T h1 (fin .minus (by rw [e, if_pos h1]))
      refine ite_F h1 ?_
      by_cases h2 : c = 48
      · exact ite_T h2 (fin .nought (by rw [e, if_neg h1, if_pos h2]))
      refine ite_F h2 ?_
      by_cases h3 : 49 ≤ c ∧ c ≤ 57
      · exact ite_T (dg.mpr h3) (fin (.figs 1) (by rw [e, if_neg h1, if_neg h2, if_pos h3]))
      · exact ite_F (fun z => h3 (dg.mp z)) (fin .bad (by rw [e, if_neg h1, if_neg h2, if_neg h3]))
    | minus =>
      simp only [AS.word, AS.many] at ⊢
      walk_at "rd"
      (try simp only [Nat.reduceEqDiff, false_and, and_false, if_false, if_true, and_self, true_and])
      by_cases h3 : 49 ≤ c ∧ c ≤ 57
      · exact ite_T (dg.mpr h3) (fin (.figs 1) (if_pos h3))
      · exact ite_F (fun z => h3 (dg.mp z)) (fin .bad (if_neg h3))
    | nought =>
      simp only [AS.word, AS.many] at ⊢
      walk_at "rd"
      (try simp only [Nat.reduceEqDiff, false_and, and_false, if_false, if_true, and_self, true_and])
      by_cases h1 : c = 93
      · exact ite_T h1 (fin .free (if_pos h1))
      · exact ite_F h1 (fin .bad (if_neg h1))
    | figs j =>
      simp only [AS.word, AS.many] at ⊢
      walk_at "rd"
      (try simp only [Nat.reduceEqDiff, false_and, and_false, if_false, if_true, and_self, true_and])
      have e : stepA (.figs j) c = if (48 ≤ c ∧ c ≤ 57) ∧ j < 60 then .figs (j + 1) else if c = 93 then .free else .bad := rfl
      by_cases h1 : 48 ≤ c ∧ c ≤ 57
      · refine ite_T (d0.mpr h1) ?_
        have n93 : ¬ c = 93 := by omega
        by_cases h2 : j < 60
        · exact ite_T (by omega) (fin (.figs (j + 1)) (by rw [e, if_pos ⟨h1, h2⟩]))
        · exact ite_F (by omega) (ite_F n93 (fin .bad (by rw [e, if_neg (fun z => h2 z.2), if_neg n93])))
      · refine ite_F (fun z => h1 (d0.mp z)) ?_
        by_cases h2 : c = 93
        · exact ite_T h2 (fin .free (by rw [e, if_neg (fun z => h1 z.1), if_pos h2]))
        · exact ite_F h2 (fin .bad (by rw [e, if_neg (fun z => h1 z.1), if_neg h2]))
    | bad =>
      simp only [AS.word, AS.many] at ⊢
      walk_at "rd"
      (try simp only [Nat.reduceEqDiff, false_and, and_false, if_false, if_true, and_self, true_and])
      exact fin .bad rfl
theorem sc_l_many_pieces : FnScope ["text", "word", "many", "count", "sign", "more", "told"] ["text"] (defScope s_l_many_pieces) := ⟨rfl, rfl, rfl, by decide +kernel, rfl, by decide +kernel, by decide +kernel⟩
theorem ok_l_many_pieces (T : Txt K mg t) : FnOk P w K mg base (CX1 P w) 3 t.a_l_many_pieces t.d_l_many_pieces ["text"] (sp_l_many_pieces) := by
  have G_l_step := (ok_l_step (P := P) (w := w) (base := base) T).mono (show 2 ≤ 2 by decide)
  refine T.l_many_pieces.fn.okN sc_l_many_pieces (fun vs H Q E h => ?_) (fun cdv A outer s H vs Q E hr h => ?_)
  · obtain ⟨l, rfl, hl, k⟩ := h
    rfl
  · obtain ⟨l, rfl, hl, k⟩ := h
    refine ⟨_, Bx.un (bpss_cons (bps_set (i := 1) sc_l_many_pieces.nd rfl (by first | exact Or.inl rfl | exact Or.inr rfl) bpe_str)
      (bpss_cons (bps_set (i := 2) sc_l_many_pieces.nd rfl (by first | exact Or.inl rfl | exact Or.inr rfl) bpe_int)
      (bpss_cons (bps_set (i := 3) sc_l_many_pieces.nd rfl (by first | exact Or.inl rfl | exact Or.inr rfl) bpe_int)
      (bpss_cons (bps_for PassesOwn.never rfl (bpi_str (bpv 0)) (bpg_name (i := 4) sc_l_many_pieces.nd rfl (by first | exact Or.inl rfl | exact Or.inr rfl))
      (bpss_cons (bps_if (bpw_or (bpt_cmpR op_eq (bpv 1) bpe_str (nomark _)) (bpw_or (bpt_cmpR op_eq (bpv 1) bpe_str (nomark _)) (bpw_or1 (bpt_cmpR op_eq (bpv 1) bpe_str (nomark _))))).bpt
      (bpss_cons (bps_set (i := 5) sc_l_many_pieces.nd rfl (by first | exact Or.inl rfl | exact Or.inr rfl) (bpe_and (bpe_cmpR op_eq (bpv 1) bpe_str (nomark _)) (bpe_one (bpe_cmpR op_in1 (bpv 4) bpe_str (by with_unfolding_all rfl)))))
      (bpss_one (bps_if (bpw_and (bpt_cmpR op_ne (bpv 4) bpe_str (nomark _)) (bpw_and1 (bpt_not (bpt_val (bpv 5))))).bpt
      (bpss_one (bps_set (i := 3) sc_l_many_pieces.nd rfl (by first | exact Or.inl rfl | exact Or.inr rfl) (bpe_op op_add (bpv 3) bpe_int)))
      bpss_nil)))
      bpss_nil)
      (bpss_cons (bps_set (i := 6) sc_l_many_pieces.nd rfl (by first | exact Or.inl rfl | exact Or.inr rfl) (bpe_fnx T.l_step G_l_step hr pass0' (bpa_cons (bpv 1) (bpa_cons (bpv 2) (bpa_cons (bpv 4) bpa_nil)))))
      (bpss_cons (bps_set (i := 1) sc_l_many_pieces.nd rfl (by first | exact Or.inl rfl | exact Or.inr rfl) (bpe_ixA ix_tup (bpv 6) bpe_int))
      (bpss_one (bps_set (i := 2) sc_l_many_pieces.nd rfl (by first | exact Or.inl rfl | exact Or.inr rfl) (bpe_ixA ix_tup (bpv 6) bpe_int)))))))
      (bpss_cons (bps_if (bpw_or (bpt_cmpR op_eq (bpv 1) bpe_str (nomark _)) (bpw_or (bpt_cmpR op_eq (bpv 1) bpe_str (nomark _)) (bpw_or1 (bpt_cmpR op_eq (bpv 1) bpe_str (nomark _))))).bpt
      (bpss_one (bps_ret (bpv 3)))
      bpss_nil)
      (bpss_one (bps_ret (bpe_un un_neg bpe_int)))))))), ?_⟩
    walk_at "rs"
    refine seq_rule fun N hN => ?_
    walk_at "rd"
    refine hN _ _ ?_
    clear hN N
    refine seq_rule fun N hN => ?_
    walk_at "rd"
    refine hN _ _ ?_
    clear hN N
    refine seq_rule fun N hN => ?_
    walk_at "rd"
    refine hN _ _ ?_
    clear hN N
    refine seq_rule fun N hN => ?_
    have run : ∀ i c, l[i]? = some c → l.take (i + 1) = l.take i ++ [c] := fun i c h => by rw [List.take_add_one, h]; rfl
    refine ⟨_, rfl, tx l, rfl, for_str (z := tx l) (fun i σ H1 => ∃ (v4 v5 v6 : Option V), σ = [some (.str (tx l)), some (.str (tx (runA .free (l.take i)).word)), some (.int ((runA .free (l.take i)).many : Int)), some (.int ((cntA .free (l.take i) : Nat) : Int)), v4, v5, v6] ∧ Same H H1)
      ⟨_, _, _, rfl, Same.refl _⟩ ?_ ?_⟩
    · rintro i c σ H1 hi ⟨v4, v5, v6, rfl, s1⟩
      have hi : l[i]? = some c := by simpa [tx] using hi
      have tk := run i c hi
      have rs := run_snoc .free (l.take i) c
      have cs := cnt_snoc .free (l.take i) c
      rw [← tk] at rs cs
      generalize runA .free (l.take i) = s at rs cs ⊢
      generalize cntA .free (l.take i) = n at cs ⊢
      clear hN
      walk_at "rg"
      refine seq_rule fun N1 hN1 => ?_
      have go : ∀ (m : Nat) (v5 : Option V), moreA s c = m → N1 [some (.str (tx l)), some (.str (tx s.word)), some (.int (s.many : Int)), some (.int ((n : Int) + (m : Int))), some (.str (tx [c])), v5, v6] H1 := by
        intro m v5 em
        rw [em] at cs
        refine hN1 _ _ ?_
        clear hN1
        refine seq_rule fun N2 hN2 => ?_
        walk_at "rd"
        refine ⟨s, c, rfl, fun p H2 hp s2 e2 => hN2 _ _ ?_⟩
        clear hN2
        refine seq_rule fun N3 hN3 => ?_
        walk_at "rd"
        refine rd_ixT e2 rfl (hN3 _ _ ?_)
        clear hN3
        refine ⟨_, rfl, ?_⟩
        refine rd_ixT e2 rfl ⟨some (.str (tx [c])), v5, some (.ref p), ?_, s1.trans s2⟩
        rw [rs, cs, Int.natCast_add]
        rfl
      clear hN1
      have one : s.at_ = true → c ≠ 91 → ¬ (s.isName = true ∧ c ∈ abc) → moreA s c = 1 := fun h1 h2 h3 => by
        unfold moreA
        rw [if_pos ⟨h1, h2, fun z => h3 ⟨z.1, of_decide_eq_true z.2⟩⟩]
      have nul : ¬ (s.at_ = true ∧ c ≠ 91 ∧ ¬ (s.isName = true ∧ c ∈ abc)) → moreA s c = 0 := fun h => by
        unfold moreA
        rw [if_neg (fun z => h ⟨z.1, z.2.1, fun y => z.2.2 ⟨y.1, decide_eq_true y.2⟩⟩)]
      cases s with
      | free =>
        simp only [AS.word, AS.many] at ⊢
        walk_at "rd"
        (try simp only [Nat.reduceEqDiff, false_and, and_false, if_false, if_true, and_self, true_and])
        by_cases h91 : c = 91
        · exact ite_F (fun z => z h91) (go 0 _ (nul fun z => z.2.1 h91))
        · exact ite_T h91 (go 1 _ (one rfl h91 fun z => by cases z.1))
      | under =>
        simp only [AS.word, AS.many] at ⊢
        walk_at "rd"
        (try simp only [Nat.reduceEqDiff, false_and, and_false, if_false, if_true, and_self, true_and])
        by_cases h91 : c = 91
        · exact ite_F (fun z => z h91) (go 0 _ (nul fun z => z.2.1 h91))
        · exact ite_T h91 (go 1 _ (one rfl h91 fun z => by cases z.1))
      | name j =>
        simp only [AS.word, AS.many] at ⊢
        walk_at "rd"
        (try simp only [Nat.reduceEqDiff, false_and, and_false, if_false, if_true, and_self, true_and])
        by_cases h91 : c = 91
        · exact ite_F (fun z => z h91) (go 0 _ (nul fun z => z.2.1 h91))
        · refine ite_T h91 ?_
          by_cases hL : c ∈ abc
          · exact ite_F (fun z => z hL) (go 0 _ (nul fun z => z.2.2 ⟨rfl, hL⟩))
          · exact ite_T hL (go 1 _ (one rfl h91 fun z => hL z.2))
      | _ =>
        simp only [AS.word, AS.many] at ⊢
        walk_at "rd"
        (try simp only [Nat.reduceEqDiff, false_and, and_false, if_false, if_true, and_self, true_and])
        exact go 0 _ (nul fun z => by cases z.1)
    · rintro σ H1 ⟨v4, v5, v6, rfl, s1⟩
      refine hN _ _ ?_
      clear hN N
      rw [show (tx l).cps.size = l.length from rfl, List.take_length]
      have kk := k H1 s1
      unfold manyV resA at kk
      generalize runA .free l = s at kk ⊢
      generalize cntA .free l = n at kk ⊢
      cases s with
      | free =>
        walk_at "rd"
        simp only [AS.word]
        exact ite_T trivial kk
      | under =>
        walk_at "rd"
        simp only [AS.word]
        exact ite_F (by decide) (ite_T trivial kk)
      | name j =>
        walk_at "rd"
        simp only [AS.word]
        exact ite_F (by decide) (ite_F (by decide) (ite_T trivial kk))
      | _ =>
        walk_at "rd"
        simp only [AS.word]
        exact ite_F (by decide) (ite_F (by decide) (ite_F (by decide) kk))
theorem sc_l_written : FnScope ["piece", "sign"] ["piece"] (defScope s_l_written) := ⟨rfl, rfl, rfl, by decide +kernel, rfl, by decide +kernel, by decide +kernel⟩
theorem ok_l_written (T : Txt K mg t) : FnOk P w K mg base (CX1 P w) 2 t.a_l_written t.d_l_written ["piece"] (sp_l_written) := by
  have G_l_shown := (ok_l_shown (P := P) (w := w) (base := base) T).mono (show 1 ≤ 1 by decide)
  refine T.l_written.fn.okN sc_l_written (fun vs H Q E h => ?_) (fun cdv A outer s H vs Q E hr h => ?_)
  · obtain ⟨p, v, rfl, hp, w, k⟩ := h
    rfl
  · obtain ⟨p, v, rfl, hp, w, k⟩ := h
    refine ⟨_, Bx.un (bpss_cons (bps_if (bpt_val (bpe_callB call_isinst (by rfl) T.b_isinstance PyProof.Rows.boot_isinstance (bpa_cons (bpv 0) (bpa_cons (bpe_ty T.b_str PyProof.Rows.boot_str) bpa_nil))))
      (bpss_cons (bps_if (bpw_and (bpt_cmpR op_eq (bpe_callB call_len_str (by rfl) T.b_len PySem.boot_len (bpa_cons (bpv 0) bpa_nil)) bpe_int (nomark _)) (bpw_and1 (bpt_cmpR op_in1 (bpv 0) bpe_str (by with_unfolding_all rfl)))).bpt
      (bpss_one (bps_ret (bpv 0)))
      bpss_nil)
      (bpss_one (bps_ret bpe_str)))
      bpss_nil)
      (bpss_cons (bps_if (bpw_or (bpt_not (bpt_val (bpe_callB call_isinst (by rfl) T.b_isinstance PyProof.Rows.boot_isinstance (bpa_cons (bpv 0) (bpa_cons (bpe_ty T.b_tuple PyProof.Rows.boot_tuple) bpa_nil))))) (bpw_or (bpt_cmpR op_ne (bpe_callB call_len_seq (by rfl) T.b_len PySem.boot_len (bpa_cons (bpv 0) bpa_nil)) bpe_int (nomark _)) (bpw_or1 (bpt_cmpR op_ne (bpe_ixA ix_tup (bpv 0) bpe_int) bpe_str (nomark _))))).bpt
      (bpss_one (bps_ret bpe_str))
      bpss_nil)
      (bpss_cons (bps_if (bpw_or (bpt_not (bpt_val (bpe_callB call_isinst (by rfl) T.b_isinstance PyProof.Rows.boot_isinstance (bpa_cons (bpe_ixA ix_tup (bpv 0) bpe_int) (bpa_cons (bpe_ty T.b_str PyProof.Rows.boot_str) bpa_nil))))) (bpw_or (bpt_not (bpt_val (bpe_callB call_isinst (by rfl) T.b_isinstance PyProof.Rows.boot_isinstance (bpa_cons (bpe_ixA ix_tup (bpv 0) bpe_int) (bpa_cons (bpe_ty T.b_bool PyProof.Rows.boot_bool) bpa_nil))))) (bpw_or1 (bpt_not (bpt_val (bpe_callB call_isinst (by rfl) T.b_isinstance PyProof.Rows.boot_isinstance (bpa_cons (bpe_ixA ix_tup (bpv 0) bpe_int) (bpa_cons (bpe_ty T.b_str PyProof.Rows.boot_str) bpa_nil)))))))).bpt
      (bpss_one (bps_ret bpe_str))
      bpss_nil)
      (bpss_cons (bps_if (bpw_or (bpt_not (bpt_val (bpe_callB call_isinst (by rfl) T.b_isinstance PyProof.Rows.boot_isinstance (bpa_cons (bpe_ixA ix_tup (bpv 0) bpe_int) (bpa_cons (bpe_ty T.b_int PyProof.Rows.boot_int) bpa_nil))))) (bpw_or (bpt_val (bpe_callB call_isinst (by rfl) T.b_isinstance PyProof.Rows.boot_isinstance (bpa_cons (bpe_ixA ix_tup (bpv 0) bpe_int) (bpa_cons (bpe_ty T.b_bool PyProof.Rows.boot_bool) bpa_nil)))) (bpw_or1 (bpt_cmpR op_ge (bpe_callB call_abs (by rfl) T.b_abs PyProof.Rows.boot_abs (bpa_cons (bpe_ixA ix_tup (bpv 0) bpe_int) bpa_nil)) (bpe_op op_pow bpe_int bpe_int) (nomark _))))).bpt
      (bpss_one (bps_ret bpe_str))
      bpss_nil)
      (bpss_cons (bps_if (bpw_or (bpw_and (bpt_cmpR op_eq (bpe_ixA ix_tup (bpv 0) bpe_int) bpe_str (nomark _)) (bpw_and1 (bpt_cmpR op_ne (bpe_ixA ix_tup (bpv 0) bpe_int) bpe_int (nomark _)))).bpt (bpw_or1 (bpt_cmpR op_notIn_seq (bpe_ixA ix_tup (bpv 0) bpe_int) bpe_lstS (by with_unfolding_all rfl)))).bpt
      (bpss_one (bps_ret bpe_str))
      bpss_nil)
      (bpss_cons (bps_for PassesOwn.never rfl (bpi_str (bpe_ixA ix_tup (bpv 0) bpe_int)) (bpg_name (i := 1) sc_l_written.nd rfl (by first | exact Or.inl rfl | exact Or.inr rfl))
      (bpss_one (bps_if (bpw_and (bpt_cmpR op_notin1 (bpv 1) bpe_str (by with_unfolding_all rfl)) (bpw_and1 (bpt_cmpR op_ne (bpe_ixA ix_tup (bpv 0) bpe_int) bpe_str (nomark _)))).bpt
      (bpss_one (bps_ret bpe_str))
      bpss_nil)))
      (bpss_cons (bps_if (bpt_cmpR op_eq (bpe_ixA ix_tup (bpv 0) bpe_int) bpe_str (nomark _))
      (bpss_one (bps_ret bpe_str))
      bpss_nil)
      (bpss_one (bps_ret (bpe_fnx T.l_shown G_l_shown hr pass0' (bpa_cons (bpv 0) bpa_nil))))))))))), ?_⟩
    walk_at "rs"
    refine seq_rule fun N hN => ?_
    walk_at "rd"
    cases p with
    | sign c =>
      have hp : v = .str (tx [c]) := hp
      subst hp
      have w : c ∈ singles := w
      refine ⟨_, .str _, _, kit_ss K, ite_T rfl ⟨_, rfl, (show 1 ≤ sizeLine by decide), ite_T rfl ⟨c, rfl, ite_T w (k _ (Same.refl _))⟩⟩⟩
    | mark m =>
      obtain ⟨a, rfl, ea⟩ : ∃ a, v = .ref a ∧ H a = some (.tup (mkV m)) := hp
      have w : MrkW m := w
      refine ⟨_, .tup ea, _, kit_ts K, ite_F (by decide) (hN _ _ ?_)⟩
      clear hN N
      refine seq_rule fun N hN => ?_
      walk_at "rd"
      refine ⟨_, .tup ea, _, kit_tt K, ite_F (by decide) ⟨_, .inr (SqT.of ea), ite_F (fun z => z rfl) (rd_ixT ea rfl ⟨rfl, ite_F (fun z => z rfl) (hN _ _ ?_)⟩)⟩⟩
      clear hN N
      refine seq_rule fun N hN => ?_
      walk_at "rd"
      refine rd_ixT ea rfl ⟨_, .str _, _, kit_ss K, ite_F (by decide) (rd_ixT ea rfl ⟨_, .bl _, _, kit_bb K, ite_F (by decide) (rd_ixT ea rfl ⟨_, .str _, _, kit_ss K, ite_F (by decide) (hN _ _ ?_)⟩)⟩)⟩
      clear hN N
      refine seq_rule fun N hN => ?_
      walk_at "rd"
      have big : (10 : Nat) ^ 60 = 1000000000000000000000000000000000000000000000000000000000000 := by decide
      have wn := w.num
      rw [big] at wn
      refine rd_ixT ea rfl ⟨_, .int _, _, kit_ii K, ite_F (by decide) (rd_ixT ea rfl ⟨_, .int _, _, kit_ib K, ite_F (by decide) (rd_ixT ea rfl ⟨_, rfl, by decide, ite_F (by split <;> omega) (hN _ _ ?_)⟩)⟩)⟩
      clear hN N
      refine seq_rule fun N hN => ?_
      walk_at "rd"
      have inn : m.sg ∈ [[], [60], [62], [61], [33]] := w.sg
      have go : 5 ≤ sizeLine ∧ ∀ (p : Addr), H p = none → rIn K true (V.str (tx m.sg)) (V.ref p) (upd H p (HO.lst [V.str (tx []), V.str (tx [60]), V.str (tx [62]), V.str (tx [61]), V.str (tx [33])])) fun x H' => ∃ k, x = V.bl k ∧ if k = true then Q (V.str (tx [32])) H' else N [some (V.ref a), none] H' := by
        refine ⟨by decide, fun p hp => rd_inS (ns := [[], [60], [62], [61], [33]]) (SqL.of upd_same) ⟨_, rfl, ?_⟩⟩
        rw [if_pos rfl, decide_eq_true inn]
        refine ite_F (by decide) (hN _ _ ?_)
        clear hN N
        have n1 := Same.new (o := HO.lst [V.str (tx []), V.str (tx [60]), V.str (tx [62]), V.str (tx [61]), V.str (tx [33])]) hp
        generalize upd H p (HO.lst [V.str (tx []), V.str (tx [60]), V.str (tx [62]), V.str (tx [61]), V.str (tx [33])]) = H1 at n1
        have ea := n1 _ _ ea
        refine seq_rule fun N hN => ?_
        refine ⟨V.ref a, rfl, ?_⟩
        refine ⟨a, mkV m, 1, V.str (tx m.nm), rfl, rfl, SqT.of ea, rfl, tx m.nm, rfl, for_str (z := tx m.nm) (fun i σ H2 => ∃ v, σ = [some (.ref a), v] ∧ H2 = H1) ⟨none, rfl, rfl⟩ ?_ ?_⟩
        · rintro i c σ H2 hi ⟨v, rfl, rfl⟩
          have hi : m.nm[i]? = some c := by simpa [tx] using hi
          clear hN
          walk_at "rg"
          walk_at "rd"
          rcases w.nm with e | ⟨_, _, e⟩
          · have hc : c ∉ abc := by
              rw [e] at hi
              have : c = 95 := by
                cases i with
                | zero => injection hi with hi; exact hi.symm
                | succ i => cases hi
              rw [this]
              decide
            exact ite_T hc (rd_ixT ea rfl ⟨rfl, ite_F (fun z => z (by rw [e])) (by first | rfl | exact ⟨_, rfl⟩)⟩)
          · have hc : c ∈ abc := e c (List.mem_of_getElem? hi)
            exact ite_F (fun z => z hc) ⟨_, rfl⟩
        · rintro σ H2 ⟨v, rfl, rfl⟩
          refine hN _ _ ?_
          clear hN N
          refine seq_rule fun N hN => ?_
          walk_at "rd"
          obtain ⟨c0, r0, ec, _⟩ := nm_ne w
          refine rd_ixT ea rfl ⟨rfl, ite_F (fun z => ?_) (hN _ _ ?_)⟩
          · have := tx_inj.mp (V.str.inj z)
            rw [ec] at this
            cases this
          clear hN N
          walk_at "rd"
          exact ⟨.mark m, _, rfl, ⟨a, rfl, ea⟩, w, k _ n1⟩
      by_cases es : m.sg = []
      · exact rd_ixT ea rfl ⟨rfl, ite_T (by rw [es]) (rd_ixT ea rfl ⟨rfl, ite_F (fun z => z (by rw [w.non es])) (rd_ixT ea rfl go)⟩)⟩
      · exact rd_ixT ea rfl ⟨rfl, ite_F (fun z => es (tx_inj.mp (by injection z))) (rd_ixT ea rfl go)⟩
theorem sc_l_text : FnScope ["script", "wild", "alone", "parts", "k", "cell"] ["script"] (defScope s_l_text) := ⟨rfl, rfl, rfl, by decide +kernel, rfl, by decide +kernel, by decide +kernel⟩
theorem ok_l_text (T : Txt K mg t) : FnOk P w K mg base (CX1 P w) 3 t.a_l_text t.d_l_text ["script"] (sp_l_text K) := by
  have G_l_any_sign := (ok_l_any_sign (P := P) (w := w) (base := base) T).mono (show 1 ≤ 2 by decide)
  have G_l_odd := (ok_l_odd (P := P) (w := w) (base := base) T).mono (show 2 ≤ 2 by decide)
  have G_l_shown := (ok_l_shown (P := P) (w := w) (base := base) T).mono (show 1 ≤ 2 by decide)
  have G_l_mark_by := (ok_l_mark_by (P := P) (w := w) (base := base) T).mono (show 2 ≤ 2 by decide)
  refine T.l_text.fn.okN sc_l_text (fun vs H Q E h => ?_) (fun cdv A outer s H vs Q E hr h => ?_)
  · obtain ⟨a, ns, rfl, hS, hlen, k⟩ := h
    rfl
  · obtain ⟨a, ns, rfl, hS, hlen, k⟩ := h
    refine ⟨_, Bx.un (bpss_cons (bps_set (i := 1) sc_l_text.nd rfl (by first | exact Or.inl rfl | exact Or.inr rfl) bpe_int)
      (bpss_cons (bps_set (i := 2) sc_l_text.nd rfl (by first | exact Or.inl rfl | exact Or.inr rfl) (bpe_un un_neg bpe_int))
      (bpss_cons (bps_if (bpt_cmpR op_gt (bpe_callB call_len_seq (by rfl) T.b_len PySem.boot_len (bpa_cons (bpv 0) bpa_nil)) bpe_int (nomark _))
      (bpss_cons (bps_set (i := 1) sc_l_text.nd rfl (by first | exact Or.inl rfl | exact Or.inr rfl) (bpe_ixA ix_list (bpe_lst (bpa_cons bpe_int (bpa_cons bpe_int (bpa_cons bpe_int (bpa_cons bpe_int bpa_nil))))) (bpe_op op_mod (bpe_ixA ix_list (bpv 0) bpe_int) bpe_int)))
      (bpss_one (bps_if (bpt_cmpR op_eq (bpe_op op_mod (bpe_ixA ix_list (bpv 0) bpe_int) bpe_int) bpe_int (nomark _))
      (bpss_one (bps_set (i := 2) sc_l_text.nd rfl (by first | exact Or.inl rfl | exact Or.inr rfl) (bpe_op op_mod (bpe_op op_fdiv (bpe_ixA ix_list (bpv 0) bpe_int) bpe_int) (bpe_callB call_len_seq (by rfl) T.b_len PySem.boot_len (bpa_cons (bpv 0) bpa_nil)))))
      bpss_nil)))
      bpss_nil)
      (bpss_cons (bps_set (i := 3) sc_l_text.nd rfl (by first | exact Or.inl rfl | exact Or.inr rfl) (bpe_lst bpa_nil))
      (bpss_cons (bps_for PassesOwn.never rfl (bpi_range1 rfl T.b_range (bpa_cons (bpe_callB call_len_seq (by rfl) T.b_len PySem.boot_len (bpa_cons (bpv 0) bpa_nil)) bpa_nil)) (bpg_name (i := 4) sc_l_text.nd rfl (by first | exact Or.inl rfl | exact Or.inr rfl))
      (bpss_cons (bps_set (i := 5) sc_l_text.nd rfl (by first | exact Or.inl rfl | exact Or.inr rfl) (bpe_ixA ix_list (bpv 0) (bpv 4)))
      (bpss_one (bps_if (bpw_or (bpw_and (bpt_cmpR op_gt (bpv 1) bpe_int (nomark _)) (bpw_and1 (bpt_cmpR op_eq (bpe_op op_mod (bpe_op op_fdiv (bpv 5) bpe_int) (bpv 1)) bpe_int (nomark _)))).bpt (bpw_or1 (bpw_and (bpt_cmpR op_eq (bpv 4) (bpv 2) (nomark _)) (bpw_and1 (bpt_cmpR op_eq (bpe_op op_mod (bpe_op op_fdiv (bpv 5) bpe_int) bpe_int) bpe_int (nomark _)))).bpt)).bpt
      (bpss_one (bps_expr (bpe_bm PySem.F.plainAttrs_list PySem.F.slot_list_append PySem.F.type_list_append mt_append (bpv 3) (bpa_cons (bpe_fnx T.l_any_sign G_l_any_sign hr pass0' (bpa_cons (bpe_op op_fdiv (bpv 5) bpe_int) bpa_nil)) bpa_nil))))
      (bpss_one (bps_if (bpw_or (bpw_and (bpt_cmpR op_gt (bpv 1) bpe_int (nomark _)) (bpw_and1 (bpt_cmpR op_eq (bpe_op op_mod (bpe_op op_fdiv (bpv 5) bpe_int) (bpv 1)) bpe_int (nomark _)))).bpt (bpw_or1 (bpt_cmpR op_eq (bpv 4) (bpv 2) (nomark _)))).bpt
      (bpss_one (bps_expr (bpe_bm PySem.F.plainAttrs_list PySem.F.slot_list_append PySem.F.type_list_append mt_append (bpv 3) (bpa_cons (bpe_fnx T.l_odd G_l_odd hr pass0' (bpa_cons (bpe_op op_fdiv (bpv 5) bpe_int) bpa_nil)) bpa_nil))))
      (bpss_one (bps_if (bpw_and (bpt_cmpR op_eq (bpv 1) bpe_int (nomark _)) (bpw_and1 (bpt_cmpR op_eq (bpe_op op_mod (bpe_op op_fdiv (bpv 5) bpe_int) bpe_int) bpe_int (nomark _)))).bpt
      (bpss_one (bps_expr (bpe_bm PySem.F.plainAttrs_list PySem.F.slot_list_append PySem.F.type_list_append mt_append (bpv 3) (bpa_cons (bpe_slice sl_fr bpe_str (bpo_some (bpe_op op_mod (bpe_op op_fdiv (bpv 5) bpe_int) bpe_int)) bpo_none) bpa_nil))))
      (bpss_one (bps_if (bpt_cmpR op_lt (bpe_op op_mod (bpe_op op_fdiv (bpv 5) bpe_int) bpe_int) bpe_int (nomark _))
      (bpss_one (bps_expr (bpe_bm PySem.F.plainAttrs_list PySem.F.slot_list_append PySem.F.type_list_append mt_append (bpv 3) (bpa_cons (bpe_ixA ix_str bpe_str (bpe_op op_mod (bpe_op op_fdiv (bpv 5) bpe_int) bpe_int)) bpa_nil))))
      (bpss_one (bps_expr (bpe_bm PySem.F.plainAttrs_list PySem.F.slot_list_append PySem.F.type_list_append mt_append (bpv 3) (bpa_cons (bpe_fnx T.l_shown G_l_shown hr pass0' (bpa_cons (bpe_fnx T.l_mark_by G_l_mark_by hr pass0' (bpa_cons (bpe_op op_fdiv (bpv 5) bpe_int) bpa_nil)) bpa_nil)) bpa_nil))))))))))))))
      (bpss_one (bps_ret (bpe_bm PySem.F.plainAttrs_str PySem.F.slot_str_join PySem.F.type_str_join mt_join bpe_str (bpa_cons (bpv 3) bpa_nil))))))))), ?_⟩
    walk_at "rs"
    refine seq_rule fun N hN => ?_
    walk_at "rd"
    refine hN _ _ ?_
    clear hN N
    refine seq_rule fun N hN => ?_
    walk_at "rd"
    refine hN _ _ ?_
    clear hN N
    refine seq_rule fun N hN => ?_
    walk_at "rd"
    have hM : ∀ (w al : Int) (H1 : Hp), Same H H1 → N [some (.ref a), some (.int w), some (.int al), none, none, none] H1 := by
      intro w al H1 s1
      refine hN _ _ ?_
      clear hN N
      refine seq_rule fun N hN => ?_
      walk_at "rd"
      refine ⟨Nat.zero_le _, fun p hp => hN _ _ ?_⟩
      clear hN N
      have hp0 := s1.free hp
      have s2 := s1.trans (Same.new (o := .lst []) hp)
      have e2 : upd H1 p (.lst []) p = some (.lst []) := upd_same
      generalize upd H1 p (.lst []) = H2 at s2 e2
      refine seq_rule fun N hN => ?_
      refine ⟨_, rfl, a, _, rfl, .inl (s2.seq hS), _, rfl, by omega, by rw [List.length_map]; omega, for_range (n := (((ns.map V.int).length : Nat) : Int).toNat) (lo := 0) (fun i σ H3 => ∃ (ys : List Nm) (v4 v5 : Option V), σ = [some (.ref a), some (.int w), some (.int al), some (.ref p), v4, v5] ∧ ys.length = i ∧ (∀ y ∈ ys, y.length ≤ 200) ∧ H3 p = some (.lst (ys.map fun z => V.str (tx z))) ∧ Same H H3)
        ⟨[], none, none, rfl, rfl, fun y hy => (nomatch hy), e2, s2⟩ ?_ ?_⟩
      · rintro i σ H3 hi ⟨ys, v4, v5, rfl, ly, hy, e3, s3⟩
        rw [Int.toNat_natCast, List.length_map] at hi
        clear hN
        obtain ⟨x, hx⟩ : ∃ x, ns[i]? = some x := ⟨ns[i], by simp [hi]⟩
        have ax : atI (ns.map V.int) (0 + (i : Int)) = some (.int x) := by rw [Int.zero_add]; exact atI_nat (by rw [List.getElem?_map, hx]; rfl)
        have hS3 := s3.seq hS
        refine seq_rule fun N1 hN1 => ?_
        walk_at "rd"
        refine ⟨a, _, _, _, rfl, rfl, hS3, ax, hN1 _ _ ?_⟩
        clear hN1
        have app : ∀ (l : Nm) (H4 : Hp), l.length ≤ 200 → Same H3 H4 → ∃ xs, H4 p = some (.lst xs) ∧ xs.length < sizeLine ∧ ∃ (ys : List Nm), ys.length = i + 1 ∧ (∀ y ∈ ys, y.length ≤ 200) ∧ upd H4 p (.lst (xs ++ [.str (tx l)])) p = some (.lst (ys.map fun z => V.str (tx z))) ∧ Same H (upd H4 p (.lst (xs ++ [.str (tx l)]))) := fun l H4 ll s4 => by
          refine ⟨_, s4 _ _ e3, Nat.lt_of_le_of_lt (show _ ≤ 100 by rw [List.length_map]; omega) (by rw [sizeLine_eq]; decide), ys ++ [l], by rw [List.length_append, ly]; rfl, fun y hy' => ?_, by rw [upd_same, List.map_append]; rfl, (s3.trans s4).upd_new hp0⟩
          rcases List.mem_append.mp hy' with z | z
          · exact hy y z
          · rw [List.mem_singleton.mp z]; exact ll
        have A : tyV K "list" (V.ref p) H3 ∧ sp_l_any_sign [V.int (x / 24)] H3 (fun x H1 => ∃ x_1, H1 p = some (HO.lst x_1) ∧ x_1.length < sizeLine ∧ ∃ (ys : List Nm), ys.length = i + 1 ∧ (∀ y ∈ ys, y.length ≤ 200) ∧ upd H1 p (HO.lst (x_1 ++ [x])) p = some (HO.lst (List.map (fun z => V.str (tx z)) ys)) ∧ Same H (upd H1 p (HO.lst (x_1 ++ [x])))) E0 := ⟨tyV_lst (SqL.of e3), _, rfl, fun l H4 ll s4 => app l H4 (by omega) s4⟩
        have O : tyV K "list" (V.ref p) H3 ∧ sp_l_odd [V.int (x / 24)] H3 (fun x H1 => ∃ x_1, H1 p = some (HO.lst x_1) ∧ x_1.length < sizeLine ∧ ∃ (ys : List Nm), ys.length = i + 1 ∧ (∀ y ∈ ys, y.length ≤ 200) ∧ upd H1 p (HO.lst (x_1 ++ [x])) p = some (HO.lst (List.map (fun z => V.str (tx z)) ys)) ∧ Same H (upd H1 p (HO.lst (x_1 ++ [x])))) E0 := ⟨tyV_lst (SqL.of e3), _, rfl, fun l H4 ll s4 => app l H4 (by omega) s4⟩
        walk_at "rd"
        refine by_else (fun D => by_else (fun C => ite_both (fun h => ⟨h, ite_both (fun _ => A) fun _ => C⟩) fun _ => C) (ite_both (fun _ => ite_both (fun _ => A) fun _ => D) fun _ => D)) ?_
        refine by_else (fun F => by_else (fun D2 => ite_both (fun h => ⟨h, ite_both (fun _ => O) fun _ => D2⟩) fun _ => D2) (ite_both (fun _ => O) fun _ => F)) ?_
        clear A O
        have ty : tyV K "list" (V.ref p) H3 := tyV_lst (SqL.of e3)
        refine by_else (fun G => ite_both (fun _ => ite_both (fun _ => ⟨ty, by decide, by omega, app _ H3 ?_ (Same.refl _)⟩) fun _ => G) fun _ => G) ?_
        · rw [List.length_drop]
          exact Nat.le_trans (Nat.sub_le _ _) (by decide)
        refine ite_both (fun h => ⟨ty, rd_sign (by decide) (by omega) (by show x / 24 % 14 < 7; omega) fun c _ => app [c] H3 (by simp) (Same.refl _)⟩) fun _ => ⟨ty, _, rfl, fun m r H4 wm hr' s4 e4 => ⟨.mark m, _, rfl, ⟨r, rfl, e4⟩, wm, app _ H4 ?_ s4⟩⟩
        have := markT_len wm
        exact Nat.le_trans (show (markT m).length ≤ 100 from this) (by decide)
      · rintro σ H3 ⟨ys, v4, v5, rfl, ly, hy, e3, s3⟩
        refine hN _ _ ?_
        clear hN N
        walk_at "rd"
        rw [Int.toNat_natCast, List.length_map] at ly
        have sm : (ys.map List.length).sum ≤ 200 * ys.length := by
          clear e3 ly
          induction ys with
          | nil => exact Nat.zero_le _
          | cons y ys ih =>
            have h1 := hy y List.mem_cons_self
            have h2 := ih fun z hz => hy z (List.mem_cons_of_mem _ hz)
            rw [List.map_cons, List.sum_cons, List.length_cons, Nat.mul_succ]
            omega
        refine ⟨p, ys, rfl, rfl, SqL.of e3, by omega, k _ _ ?_ s3⟩
        rw [List.length_flatten]
        omega
    refine ⟨_, .inl hS, ite2 (fun h => ?_) fun _ => hM 0 (-1) H (Same.refl _)⟩
    cases ns with
    | nil => exact absurd h (by simp)
    | cons x r =>
      refine ⟨by decide, fun q hq => ?_⟩
      have n1 := Same.new (o := HO.lst [V.int 0, V.int 4, V.int 8, V.int 0]) hq
      have hS1 := n1.seq hS
      refine ⟨a, _, 0, .int x, rfl, rfl, hS1, atI_zero, x, rfl, rd_pick (by omega) (by show x % 4 < 4; omega) fun v hv => ⟨a, _, 0, .int x, rfl, rfl, hS1, atI_zero, x, rfl, ?_⟩⟩
      obtain ⟨w, rfl⟩ : ∃ w : Int, v = .int w := by
        simp only [List.mem_cons, List.not_mem_nil, or_false] at hv
        rcases hv with rfl | rfl | rfl | rfl <;> exact ⟨_, rfl⟩
      refine ite_both (fun _ => ⟨a, _, 0, .int x, rfl, rfl, hS1, atI_zero, x, rfl, _, .inl hS1, ?_, hM _ _ _ n1⟩) fun _ => hM _ _ _ n1
      rw [List.map_cons, List.length_cons]
      omega
theorem sc_law : FnScope ["script", "text", "due", "found", "told", "e"] ["script"] (defScope s_law) := ⟨rfl, rfl, rfl, by decide +kernel, rfl, by decide +kernel, by decide +kernel⟩
def spLaw (K : PySem.W.Frag) : Sp := fun vs H Q _ => ∃ (a : Addr) (ns : List Int), vs = [.ref a] ∧ SqL K H a (ns.map V.int) ∧ ns.length ≤ 63 ∧ ∀ H', Q (.bl true) H'
theorem ok_law {f : Addr} {fd : FuncData} (F : Fun K "law" "law" s_law f fd) (T : Txt K mg t) : FnOk P w K mg base (CX1 P w) 6 f fd ["script"] (spLaw K) := by
  have G_l_text := (ok_l_text (P := P) (w := w) (base := base) T).mono (show 3 ≤ 5 by decide)
  have G_l_many_pieces := (ok_l_many_pieces (P := P) (w := w) (base := base) T).mono (show 3 ≤ 5 by decide)
  have G_pieces := (ok_pieces (P := P) (w := w) (base := base) T).mono (show 5 ≤ 5 by decide)
  have G_l_written := (ok_l_written (P := P) (w := w) (base := base) T).mono (show 2 ≤ 5 by decide)
  refine F.okN sc_law (fun vs H Q E h => ?_) (fun cdv A outer s H vs Q E hr h => ?_)
  · obtain ⟨a, ns, rfl, hS, hlen, k⟩ := h
    rfl
  · obtain ⟨a, ns, rfl, hS, hlen, k⟩ := h
    refine ⟨_, Bx.un (bpss_cons (bps_set (i := 1) sc_law.nd rfl (by first | exact Or.inl rfl | exact Or.inr rfl) (bpe_fnx T.l_text G_l_text hr pass0' (bpa_cons (bpv 0) bpa_nil)))
      (bpss_cons (bps_set (i := 2) sc_law.nd rfl (by first | exact Or.inl rfl | exact Or.inr rfl) (bpe_fnx T.l_many_pieces G_l_many_pieces hr pass0' (bpa_cons (bpv 1) bpa_nil)))
      (bpss_cons (bps_set (i := 3) sc_law.nd rfl (by first | exact Or.inl rfl | exact Or.inr rfl) bpe_non)
      (bpss_cons (bps_set (i := 4) sc_law.nd rfl (by first | exact Or.inl rfl | exact Or.inr rfl) (bpe_lst bpa_nil))
      (bpss_cons (bps_tryS (T.xs.one T.xm T.in_NoPiece) T.g_NoPiece sc_law.nd (i := 5) rfl rfl rfl rfl
      (bpsx_one (bpsx_set (i := 3) sc_law.nd rfl (by first | exact Or.inl rfl | exact Or.inr rfl) (bxe_fn T.pieces G_pieces hr (fun _ => (bpa_cons (bpv 1) bpa_nil)))))
      (fun _ => by exact (bpss_one (bps_set (i := 4) sc_law.nd rfl (by first | exact Or.inl rfl | exact Or.inr rfl) (bpe_lst (bpa_cons (bpe_callB (call_isSs T.xs T.xk) (by rfl) T.b_isinstance PyProof.Rows.boot_isinstance (bpa_cons (bpv 5) (bpa_cons (bpe_cls T.g_SeekError) bpa_nil))) (bpa_cons (bpe_callB (call_isVs T.xs) (by rfl) T.b_isinstance PyProof.Rows.boot_isinstance (bpa_cons (bpv 5) (bpa_cons (bpe_ty T.b_ValueError boot_VE) bpa_nil))) (bpa_cons (bpe_callB (call_isXs T.xs) (by rfl) T.b_isinstance PyProof.Rows.boot_isinstance (bpa_cons (bpv 5) (bpa_cons (bpe_cls T.g_NoPattern) bpa_nil))) (bpa_cons (bpe_callB (call_isXs T.xs) (by rfl) T.b_isinstance PyProof.Rows.boot_isinstance (bpa_cons (bpv 5) (bpa_cons (bpe_cls T.g_TooGreat) bpa_nil))) bpa_nil)))))))))
      (bpss_cons (bps_if (bpt_cmpR op_lt (bpv 2) bpe_int (nomark _))
      (bpss_one (bps_ret (bpe_cmpR (op_eqD (hu64 hr)) (bpv 4) (bpe_lst (bpa_cons bpe_bl (bpa_cons bpe_bl (bpa_cons bpe_bl (bpa_cons bpe_bl bpa_nil))))) (nomark _))))
      bpss_nil)
      (bpss_cons (bps_if (bpw_or (bpt_cmpR (op_neD (hu64 hr)) (bpv 4) (bpe_lst bpa_nil) (nomark _)) (bpw_or (bpt_not (bpt_val (bpe_callB call_isinst (by rfl) T.b_isinstance PyProof.Rows.boot_isinstance (bpa_cons (bpv 3) (bpa_cons (bpe_ty T.b_list PyProof.Rows.boot_list) bpa_nil))))) (bpw_or1 (bpt_cmpR op_ne (bpe_callB call_len_seq (by rfl) T.b_len PySem.boot_len (bpa_cons (bpv 3) bpa_nil)) (bpv 2) (nomark _))))).bpt
      (bpss_one (bps_ret bpe_bl))
      bpss_nil)
      (bpss_one (bps_ret (bpe_cmpR op_eq (bpe_bm PySem.F.plainAttrs_str PySem.F.slot_str_join PySem.F.type_str_join mt_join bpe_str (bpa_cons (bpe_comp rfl (N := ["piece"]) (fr := []) (CSc.of (by kernel_rfl)) (bpi_list (bpv 3)) (fun _ _ _ _ _ => bpts_nil)
        (fun _ _ _ _ _ => (bpe_fnx T.l_written G_l_written hr pass0' (bpa_cons (bpv 0) bpa_nil)))) bpa_nil)) (bpv 1) (nomark _))))))))))), ?_⟩
    walk_at "rs"
    refine seq_rule fun N hN => ?_
    walk_at "rd"
    refine ⟨a, ns, rfl, hS, hlen, fun l H1 ll s1 => hN _ _ ?_⟩
    clear hN N
    refine seq_rule fun N hN => ?_
    walk_at "rd"
    refine ⟨l, rfl, by omega, fun H2 s2 => hN _ _ ?_⟩
    clear hN N
    refine seq_rule fun N hN => ?_
    walk_at "rd"
    refine hN _ _ ?_
    clear hN N
    refine seq_rule fun N hN => ?_
    walk_at "rd"
    refine ⟨Nat.zero_le _, fun p hp => hN _ _ ?_⟩
    clear hN N
    have e2 : upd H2 p (.lst []) p = some (.lst []) := upd_same
    generalize upd H2 p (.lst []) = H3 at e2
    have gd := cut_good l.length l (Nat.le_refl _)
    have mv : manyV l = match cutP l.length l with | some row => (row.length : Int) | none => -1 := by
      unfold manyV
      rw [gd.1]
      cases cutP l.length l <;> rfl
    have sh := gd.2
    rw [mv]
    clear mv gd
    refine seq_rule fun N hN => ?_
    walk_at "rd"
    refine ⟨l, rfl, by omega, ?_⟩
    cases hc : cutP l.length l with
    | none =>
      have nd : List.Nodup t.cs := of_decide_eq_true T.xs.nd
      have n1 : t.c_NoPiece ≠ t.c_NoPattern := by
        unfold Ad.cs at nd
        simp only [List.nodup_cons, List.mem_cons, List.not_mem_nil, or_false, not_or] at nd
        first | exact nd.2.1.2 | exact nd.1.2.1 | exact nd.1.1 | exact nd.2.1.1 | exact nd.1.2 | exact nd.1.2.2 | exact fun z => nd.2.1.2 z.symm | exact fun z => nd.2.1.1 z.symm | exact fun z => nd.1.1 z.symm | exact fun z => nd.1.2.1 z.symm | exact fun z => nd.1.2.2 z.symm
      have n2 : t.c_NoPiece ≠ t.c_TooGreat := by
        unfold Ad.cs at nd
        simp only [List.nodup_cons, List.mem_cons, List.not_mem_nil, or_false, not_or] at nd
        first | exact nd.2.1.1 | exact nd.1.1 | exact nd.2.1.2 | exact nd.1.2.1 | exact nd.1.2 | exact nd.1.2.2 | exact fun z => nd.2.1.2 z.symm | exact fun z => nd.2.1.1 z.symm | exact fun z => nd.1.1 z.symm | exact fun z => nd.1.2.1 z.symm | exact fun z => nd.1.2.2 z.symm
      intro d H' s'
      refine ⟨_, rfl, by simp, fun x hx => ⟨_, upd_same, T.in_NoPiece, _, upd_same, T.in_NoPiece, _, upd_same, T.in_NoPiece, T.in_NoPattern, _, upd_same, T.in_NoPiece, T.in_TooGreat, by decide, fun r hr' => hN _ _ ?_⟩⟩
      clear hN N
      rw [decide_eq_false (show ¬ (t.c_NoPiece : Nat) = t.c_NoPattern from n1), decide_eq_false (show ¬ (t.c_NoPiece : Nat) = t.c_TooGreat from n2)]
      walk_at "rd"
      refine ⟨by decide, fun z hz => ⟨_, .lst (SqL.of ((Same.new hz) _ _ upd_same)) (.cons (.bl _) (.cons (.bl _) (.cons (.bl _) (.cons (.bl _) .nil)))), .lst (SqL.of upd_same) (.cons (.bl _) (.cons (.bl _) (.cons (.bl _) (.cons (.bl _) .nil)))), by decide, k _⟩⟩
    | some row =>
      rw [hc] at sh
      obtain ⟨sh, pw⟩ := sh row rfl
      intro q H4 us hq s4 e4 al
      refine hN _ _ ?_
      clear hN N
      have ep := s4 _ _ e2
      have lu := al.len
      refine seq_rule fun N hN => ?_
      walk_at "rd"
      refine ite_F (by omega) (hN _ _ ?_)
      clear hN N
      refine seq_rule fun N hN => ?_
      walk_at "rd"
      refine ⟨Nat.zero_le _, fun z hz => ?_⟩
      have n5 := Same.new (o := HO.lst []) hz
      refine ⟨_, .lst (SqL.of (n5 _ _ ep)) .nil, .lst (SqL.of upd_same) .nil, by decide, _, .lst (n5 _ _ e4), _, kit_ll K, ite_F (by decide) ⟨_, .inl (SqL.of (n5 _ _ e4)), ite_F (fun z => z (by omega)) (hN _ _ ?_)⟩⟩
      clear hN N
      have e5 := n5 _ _ e4
      have al5 := al.imp fun _ _ z => PcAt.same n5 z
      generalize upd H4 z (.lst []) = H5 at e5 al5
      clear n5 al e4
      have tl := tells_list (K := K) (SqL.of e5)
      rw [← zip_snd al5.len] at tl
      have lu5 := al5.len
      have fl : (row.flatMap Pc.shown).length ≤ 20000 := by rw [sh]; exact ll
      have rl : row.length ≤ 20000 := Nat.le_trans (row_len pw) fl
      walk_at "rd"
      refine ⟨_, rfl, q, rfl, ⟨_, SqL.of e5⟩, comp_map tl (fun c => .str (tx c.1.shown)) (sz_of (by rw [List.length_zip]; omega)) (fun c H6 Q2 hc s6 h => ?_) fun D H6 hD s6 d6 => ?_⟩
      · exact ⟨_, rfl, c.1, c.2, rfl, (al5.zip c hc).same s6, pw c.1 (List.of_mem_zip hc).1, fun H7 s7 => h H7 s7⟩
      rw [zip_fst (f := fun q : Pc => V.str (tx q.shown)) al5.len] at d6
      have ef : (row.map Pc.shown).flatten = row.flatMap Pc.shown := rfl
      have el : ((row.map Pc.shown).map List.length).sum = (row.flatMap Pc.shown).length := by rw [← ef, List.length_flatten]
      refine ⟨D, row.map Pc.shown, rfl, rfl, SqL.of (by rw [List.map_map]; exact d6), by rw [el]; omega, ?_⟩
      rw [ef, sh]
      refine ⟨rfl, ?_⟩
      rw [decide_eq_true rfl]
      exact k _
end
theorem all_mk {l : PySem.W.OpenLaw} {w : World} {K : PySem.W.Frag} {h : Heap} {mg : Str → Option Value} {fa : Addr} (X : K.In h) (G : h.Ns mainGlobals mg) (hfa : mg "law" = some (.ref fa))
    {C_SeekError : Addr} (gc_SeekError : PySem.W.nsIn K mainGlobals "SeekError" = some (some (.ref C_SeekError)))
    {C_NoNumber : Addr} (gc_NoNumber : PySem.W.nsIn K mainGlobals "NoNumber" = some (some (.ref C_NoNumber)))
    {C_NoPiece : Addr} (gc_NoPiece : PySem.W.nsIn K mainGlobals "NoPiece" = some (some (.ref C_NoPiece)))
    {C_TooGreat : Addr} (gc_TooGreat : PySem.W.nsIn K mainGlobals "TooGreat" = some (some (.ref C_TooGreat)))
    {C_NoPattern : Addr} (gc_NoPattern : PySem.W.nsIn K mainGlobals "NoPattern" = some (some (.ref C_NoPattern)))
    {f0 : Addr} {od0 an0 : Option Addr} {sl0 : Array (Option Value)} {oc0 kV0 dc0 pm0 cd0 ct0 : Value}
    (a0 : PySem.W.nsIn K mainGlobals "good_name" = some (some (.ref f0)))
    (l0 : K.lookup f0 = some ⟨oc0, od0, .func (PySem.W.fnOf "good_name" "good_name" (defArgs s_good_name) (defBody s_good_name) (defScope s_good_name) .none kV0 dc0 pm0 an0 cd0 ct0), sl0⟩) (c0 : PySem.W.codeIn K cd0 "good_name" = true) (k0 : PySem.W.keepIn K (.ref f0) = true)
    {f1 : Addr} {od1 an1 : Option Addr} {sl1 : Array (Option Value)} {oc1 kV1 dc1 pm1 cd1 ct1 : Value}
    (a1 : PySem.W.nsIn K mainGlobals "good_figures" = some (some (.ref f1)))
    (l1 : K.lookup f1 = some ⟨oc1, od1, .func (PySem.W.fnOf "good_figures" "good_figures" (defArgs s_good_figures) (defBody s_good_figures) (defScope s_good_figures) .none kV1 dc1 pm1 an1 cd1 ct1), sl1⟩) (c1 : PySem.W.codeIn K cd1 "good_figures" = true) (k1 : PySem.W.keepIn K (.ref f1) = true)
    {f2 : Addr} {od2 an2 : Option Addr} {sl2 : Array (Option Value)} {oc2 kV2 dc2 pm2 cd2 ct2 : Value}
    (a2 : PySem.W.nsIn K mainGlobals "number_read" = some (some (.ref f2)))
    (l2 : K.lookup f2 = some ⟨oc2, od2, .func (PySem.W.fnOf "number_read" "number_read" (defArgs s_number_read) (defBody s_number_read) (defScope s_number_read) .none kV2 dc2 pm2 an2 cd2 ct2), sl2⟩) (c2 : PySem.W.codeIn K cd2 "number_read" = true) (k2 : PySem.W.keepIn K (.ref f2) = true)
    {f3 : Addr} {od3 an3 : Option Addr} {sl3 : Array (Option Value)} {oc3 kV3 dc3 pm3 cd3 ct3 : Value}
    (a3 : PySem.W.nsIn K mainGlobals "name_end" = some (some (.ref f3)))
    (l3 : K.lookup f3 = some ⟨oc3, od3, .func (PySem.W.fnOf "name_end" "name_end" (defArgs s_name_end) (defBody s_name_end) (defScope s_name_end) .none kV3 dc3 pm3 an3 cd3 ct3), sl3⟩) (c3 : PySem.W.codeIn K cd3 "name_end" = true) (k3 : PySem.W.keepIn K (.ref f3) = true)
    {f4 : Addr} {od4 an4 : Option Addr} {sl4 : Array (Option Value)} {oc4 kV4 dc4 pm4 cd4 ct4 : Value}
    (a4 : PySem.W.nsIn K mainGlobals "condition_end" = some (some (.ref f4)))
    (l4 : K.lookup f4 = some ⟨oc4, od4, .func (PySem.W.fnOf "condition_end" "condition_end" (defArgs s_condition_end) (defBody s_condition_end) (defScope s_condition_end) .none kV4 dc4 pm4 an4 cd4 ct4), sl4⟩) (c4 : PySem.W.codeIn K cd4 "condition_end" = true) (k4 : PySem.W.keepIn K (.ref f4) = true)
    {f5 : Addr} {od5 an5 : Option Addr} {sl5 : Array (Option Value)} {oc5 kV5 dc5 pm5 cd5 ct5 : Value}
    (a5 : PySem.W.nsIn K mainGlobals "piece_end" = some (some (.ref f5)))
    (l5 : K.lookup f5 = some ⟨oc5, od5, .func (PySem.W.fnOf "piece_end" "piece_end" (defArgs s_piece_end) (defBody s_piece_end) (defScope s_piece_end) .none kV5 dc5 pm5 an5 cd5 ct5), sl5⟩) (c5 : PySem.W.codeIn K cd5 "piece_end" = true) (k5 : PySem.W.keepIn K (.ref f5) = true)
    {f6 : Addr} {od6 an6 : Option Addr} {sl6 : Array (Option Value)} {oc6 kV6 dc6 pm6 cd6 ct6 : Value}
    (a6 : PySem.W.nsIn K mainGlobals "condition_number" = some (some (.ref f6)))
    (l6 : K.lookup f6 = some ⟨oc6, od6, .func (PySem.W.fnOf "condition_number" "condition_number" (defArgs s_condition_number) (defBody s_condition_number) (defScope s_condition_number) .none kV6 dc6 pm6 an6 cd6 ct6), sl6⟩) (c6 : PySem.W.codeIn K cd6 "condition_number" = true) (k6 : PySem.W.keepIn K (.ref f6) = true)
    {f7 : Addr} {od7 an7 : Option Addr} {sl7 : Array (Option Value)} {oc7 kV7 dc7 pm7 cd7 ct7 : Value}
    (a7 : PySem.W.nsIn K mainGlobals "mark_read" = some (some (.ref f7)))
    (l7 : K.lookup f7 = some ⟨oc7, od7, .func (PySem.W.fnOf "mark_read" "mark_read" (defArgs s_mark_read) (defBody s_mark_read) (defScope s_mark_read) .none kV7 dc7 pm7 an7 cd7 ct7), sl7⟩) (c7 : PySem.W.codeIn K cd7 "mark_read" = true) (k7 : PySem.W.keepIn K (.ref f7) = true)
    {f8 : Addr} {od8 an8 : Option Addr} {sl8 : Array (Option Value)} {oc8 kV8 dc8 pm8 cd8 ct8 : Value}
    (a8 : PySem.W.nsIn K mainGlobals "pieces" = some (some (.ref f8)))
    (l8 : K.lookup f8 = some ⟨oc8, od8, .func (PySem.W.fnOf "pieces" "pieces" (defArgs s_pieces) (defBody s_pieces) (defScope s_pieces) .none kV8 dc8 pm8 an8 cd8 ct8), sl8⟩) (c8 : PySem.W.codeIn K cd8 "pieces" = true) (k8 : PySem.W.keepIn K (.ref f8) = true)
    {f9 : Addr} {od9 an9 : Option Addr} {sl9 : Array (Option Value)} {oc9 kV9 dc9 pm9 cd9 ct9 : Value}
    (a9 : PySem.W.nsIn K mainGlobals "_law_name_by" = some (some (.ref f9)))
    (l9 : K.lookup f9 = some ⟨oc9, od9, .func (PySem.W.fnOf "_law_name_by" "_law_name_by" (defArgs s_l_name_by) (defBody s_l_name_by) (defScope s_l_name_by) .none kV9 dc9 pm9 an9 cd9 ct9), sl9⟩) (c9 : PySem.W.codeIn K cd9 "_law_name_by" = true) (k9 : PySem.W.keepIn K (.ref f9) = true)
    {f10 : Addr} {od10 an10 : Option Addr} {sl10 : Array (Option Value)} {oc10 kV10 dc10 pm10 cd10 ct10 : Value}
    (a10 : PySem.W.nsIn K mainGlobals "_law_number_by" = some (some (.ref f10)))
    (l10 : K.lookup f10 = some ⟨oc10, od10, .func (PySem.W.fnOf "_law_number_by" "_law_number_by" (defArgs s_l_number_by) (defBody s_l_number_by) (defScope s_l_number_by) .none kV10 dc10 pm10 an10 cd10 ct10), sl10⟩) (c10 : PySem.W.codeIn K cd10 "_law_number_by" = true) (k10 : PySem.W.keepIn K (.ref f10) = true)
    {f11 : Addr} {od11 an11 : Option Addr} {sl11 : Array (Option Value)} {oc11 kV11 dc11 pm11 cd11 ct11 : Value}
    (a11 : PySem.W.nsIn K mainGlobals "_law_mark_by" = some (some (.ref f11)))
    (l11 : K.lookup f11 = some ⟨oc11, od11, .func (PySem.W.fnOf "_law_mark_by" "_law_mark_by" (defArgs s_l_mark_by) (defBody s_l_mark_by) (defScope s_l_mark_by) .none kV11 dc11 pm11 an11 cd11 ct11), sl11⟩) (c11 : PySem.W.codeIn K cd11 "_law_mark_by" = true) (k11 : PySem.W.keepIn K (.ref f11) = true)
    {f12 : Addr} {od12 an12 : Option Addr} {sl12 : Array (Option Value)} {oc12 kV12 dc12 pm12 cd12 ct12 : Value}
    (a12 : PySem.W.nsIn K mainGlobals "_law_shown" = some (some (.ref f12)))
    (l12 : K.lookup f12 = some ⟨oc12, od12, .func (PySem.W.fnOf "_law_shown" "_law_shown" (defArgs s_l_shown) (defBody s_l_shown) (defScope s_l_shown) .none kV12 dc12 pm12 an12 cd12 ct12), sl12⟩) (c12 : PySem.W.codeIn K cd12 "_law_shown" = true) (k12 : PySem.W.keepIn K (.ref f12) = true)
    {f13 : Addr} {od13 an13 : Option Addr} {sl13 : Array (Option Value)} {oc13 kV13 dc13 pm13 cd13 ct13 : Value}
    (a13 : PySem.W.nsIn K mainGlobals "_law_any_sign" = some (some (.ref f13)))
    (l13 : K.lookup f13 = some ⟨oc13, od13, .func (PySem.W.fnOf "_law_any_sign" "_law_any_sign" (defArgs s_l_any_sign) (defBody s_l_any_sign) (defScope s_l_any_sign) .none kV13 dc13 pm13 an13 cd13 ct13), sl13⟩) (c13 : PySem.W.codeIn K cd13 "_law_any_sign" = true) (k13 : PySem.W.keepIn K (.ref f13) = true)
    {f14 : Addr} {od14 an14 : Option Addr} {sl14 : Array (Option Value)} {oc14 kV14 dc14 pm14 cd14 ct14 : Value}
    (a14 : PySem.W.nsIn K mainGlobals "_law_odd" = some (some (.ref f14)))
    (l14 : K.lookup f14 = some ⟨oc14, od14, .func (PySem.W.fnOf "_law_odd" "_law_odd" (defArgs s_l_odd) (defBody s_l_odd) (defScope s_l_odd) .none kV14 dc14 pm14 an14 cd14 ct14), sl14⟩) (c14 : PySem.W.codeIn K cd14 "_law_odd" = true) (k14 : PySem.W.keepIn K (.ref f14) = true)
    {f15 : Addr} {od15 an15 : Option Addr} {sl15 : Array (Option Value)} {oc15 kV15 dc15 pm15 cd15 ct15 : Value}
    (a15 : PySem.W.nsIn K mainGlobals "_law_text" = some (some (.ref f15)))
    (l15 : K.lookup f15 = some ⟨oc15, od15, .func (PySem.W.fnOf "_law_text" "_law_text" (defArgs s_l_text) (defBody s_l_text) (defScope s_l_text) .none kV15 dc15 pm15 an15 cd15 ct15), sl15⟩) (c15 : PySem.W.codeIn K cd15 "_law_text" = true) (k15 : PySem.W.keepIn K (.ref f15) = true)
    {f16 : Addr} {od16 an16 : Option Addr} {sl16 : Array (Option Value)} {oc16 kV16 dc16 pm16 cd16 ct16 : Value}
    (a16 : PySem.W.nsIn K mainGlobals "_law_begun" = some (some (.ref f16)))
    (l16 : K.lookup f16 = some ⟨oc16, od16, .func (PySem.W.fnOf "_law_begun" "_law_begun" (defArgs s_l_begun) (defBody s_l_begun) (defScope s_l_begun) .none kV16 dc16 pm16 an16 cd16 ct16), sl16⟩) (c16 : PySem.W.codeIn K cd16 "_law_begun" = true) (k16 : PySem.W.keepIn K (.ref f16) = true)
    {f17 : Addr} {od17 an17 : Option Addr} {sl17 : Array (Option Value)} {oc17 kV17 dc17 pm17 cd17 ct17 : Value}
    (a17 : PySem.W.nsIn K mainGlobals "_law_step" = some (some (.ref f17)))
    (l17 : K.lookup f17 = some ⟨oc17, od17, .func (PySem.W.fnOf "_law_step" "_law_step" (defArgs s_l_step) (defBody s_l_step) (defScope s_l_step) .none kV17 dc17 pm17 an17 cd17 ct17), sl17⟩) (c17 : PySem.W.codeIn K cd17 "_law_step" = true) (k17 : PySem.W.keepIn K (.ref f17) = true)
    {f18 : Addr} {od18 an18 : Option Addr} {sl18 : Array (Option Value)} {oc18 kV18 dc18 pm18 cd18 ct18 : Value}
    (a18 : PySem.W.nsIn K mainGlobals "_law_many_pieces" = some (some (.ref f18)))
    (l18 : K.lookup f18 = some ⟨oc18, od18, .func (PySem.W.fnOf "_law_many_pieces" "_law_many_pieces" (defArgs s_l_many_pieces) (defBody s_l_many_pieces) (defScope s_l_many_pieces) .none kV18 dc18 pm18 an18 cd18 ct18), sl18⟩) (c18 : PySem.W.codeIn K cd18 "_law_many_pieces" = true) (k18 : PySem.W.keepIn K (.ref f18) = true)
    {f19 : Addr} {od19 an19 : Option Addr} {sl19 : Array (Option Value)} {oc19 kV19 dc19 pm19 cd19 ct19 : Value}
    (a19 : PySem.W.nsIn K mainGlobals "_law_written" = some (some (.ref f19)))
    (l19 : K.lookup f19 = some ⟨oc19, od19, .func (PySem.W.fnOf "_law_written" "_law_written" (defArgs s_l_written) (defBody s_l_written) (defScope s_l_written) .none kV19 dc19 pm19 an19 cd19 ct19), sl19⟩) (c19 : PySem.W.codeIn K cd19 "_law_written" = true) (k19 : PySem.W.keepIn K (.ref f19) = true)
    {f20 : Addr} {od20 an20 : Option Addr} {sl20 : Array (Option Value)} {oc20 kV20 dc20 pm20 cd20 ct20 : Value}
    (a20 : PySem.W.nsIn K mainGlobals "law" = some (some (.ref f20)))
    (l20 : K.lookup f20 = some ⟨oc20, od20, .func (PySem.W.fnOf "law" "law" (defArgs s_law) (defBody s_law) (defScope s_law) .none kV20 dc20 pm20 an20 cd20 ct20), sl20⟩) (c20 : PySem.W.codeIn K cd20 "law" = true) (k20 : PySem.W.keepIn K (.ref f20) = true)
    {tk0 : Tok} (g0 : PySem.W.nsIn K mainGlobals "LETTERS" = some (some (Value.str (v_LETTERS) tk0)))
    {tk1 : Tok} (g1 : PySem.W.nsIn K mainGlobals "FIGURES" = some (some (Value.str (v_FIGURES) tk1)))
    {tk2 : Tok} (g2 : PySem.W.nsIn K mainGlobals "MOST_LETTERS" = some (some (Value.int (12) tk2)))
    {tk3 : Tok} (g3 : PySem.W.nsIn K mainGlobals "MOST_FIGURES" = some (some (Value.int (60) tk3)))
    {tk4 : Tok} (g4 : PySem.W.nsIn K mainGlobals "ANY_NAME" = some (some (Value.str (v_ANY_NAME) tk4)))
    {ka0 : Addr} {kd0 : Option Addr} {kn0 : Nat} {ks0 : Array (Option Value)} {kt0_0 : Tok} {kt0_1 : Tok} {kt0_2 : Tok} {kt0_3 : Tok} {kt0_4 : Tok} {kt0_5 : Tok} {kt0_6 : Tok}
    (kg0 : PySem.W.nsIn K mainGlobals "SINGLE_SIGNS" = some (some (.ref ka0)))
    (kl0 : K.lookup ka0 = some ⟨.type "tuple", kd0, .seq #[.str (tx [46]) kt0_0, .str (tx [124]) kt0_1, .str (tx [42]) kt0_2, .str (tx [43]) kt0_3, .str (tx [63]) kt0_4, .str (tx [40]) kt0_5, .str (tx [41]) kt0_6] kn0, ks0⟩)
    {ka1 : Addr} {kd1 : Option Addr} {kn1 : Nat} {ks1 : Array (Option Value)} {kt1_0 : Tok} {kt1_1 : Tok} {kt1_2 : Tok} {kt1_3 : Tok}
    (kg1 : PySem.W.nsIn K mainGlobals "CONDITION_SIGNS" = some (some (.ref ka1)))
    (kl1 : K.lookup ka1 = some ⟨.type "tuple", kd1, .seq #[.str (tx [60]) kt1_0, .str (tx [62]) kt1_1, .str (tx [61]) kt1_2, .str (tx [33]) kt1_3] kn1, ks1⟩)
    (z0 : PySem.W.nsIn K mainGlobals "all" = some none)
    (z1 : PySem.W.nsIn K mainGlobals "list" = some none)
    (z2 : PySem.W.nsIn K mainGlobals "ValueError" = some none)
    (z3 : PySem.W.nsIn K mainGlobals "abs" = some none)
    (z4 : PySem.W.nsIn K mainGlobals "len" = some none)
    (z5 : PySem.W.nsIn K mainGlobals "isinstance" = some none)
    (z6 : PySem.W.nsIn K mainGlobals "bool" = some none)
    (z7 : PySem.W.nsIn K mainGlobals "int" = some none)
    (z8 : PySem.W.nsIn K mainGlobals "str" = some none)
    (z9 : PySem.W.nsIn K mainGlobals "range" = some none)
    (z10 : PySem.W.nsIn K mainGlobals "tuple" = some none)
    (xs : ([C_NoNumber, C_NoPiece, C_TooGreat, C_NoPattern] : List Addr).map (xRow K C_SeekError [C_NoNumber, C_NoPiece, C_TooGreat, C_NoPattern]) = ([C_NoNumber, C_NoPiece, C_TooGreat, C_NoPattern] : List Addr).map (xRow0 [C_NoNumber, C_NoPiece, C_TooGreat, C_NoPattern]))
    (xnd : decide (@List.Nodup Nat [C_NoNumber, C_NoPiece, C_TooGreat, C_NoPattern]) = true)
    (xm : ([C_NoNumber, C_NoPiece, C_TooGreat, C_NoPattern] : List Addr).map (fun C => ([C_NoNumber, C_NoPiece, C_TooGreat, C_NoPattern] : List Addr).map fun D => PySem.W.exmOne K (.ref C) (.ref D)) = ([C_NoNumber, C_NoPiece, C_TooGreat, C_NoPattern] : List Addr).map fun C => ([C_NoNumber, C_NoPiece, C_TooGreat, C_NoPattern] : List Addr).map fun D => some (decide ((C : Nat) = D)))
    (xk : ([C_NoNumber, C_NoPiece, C_TooGreat, C_NoPattern] : List Addr).map (fun C => PySem.W.kitOne K (.ref C) (.ref C_SeekError)) = ([C_NoNumber, C_NoPiece, C_TooGreat, C_NoPattern] : List Addr).map fun _ => some true)
    : ∃ fd : FuncData, (∀ (s : Shared) (v : Value), BindsTo s fd ⟨[v], []⟩ [("script", v)]) ∧ ∀ base : Heap, K.In base → base.Ns mainGlobals mg → FnOk l.prog w K mg base (CX1 l.prog w) 6 fa fd ["script"] (spLaw K) := by
  have e := hfa.symm.trans (PySem.W.mg_of X G a20)
  cases e
  have F0 := fun_mk (st := s_good_name) l0 c0 k0
  have b0 := F0.binds (ps := ["text"]) fun _ _ _ _ _ _ us hl => match us, hl with | [_], _ => rfl
  have F1 := fun_mk (st := s_good_figures) l1 c1 k1
  have b1 := F1.binds (ps := ["text"]) fun _ _ _ _ _ _ us hl => match us, hl with | [_], _ => rfl
  have F2 := fun_mk (st := s_number_read) l2 c2 k2
  have b2 := F2.binds (ps := ["text"]) fun _ _ _ _ _ _ us hl => match us, hl with | [_], _ => rfl
  have F3 := fun_mk (st := s_name_end) l3 c3 k3
  have b3 := F3.binds (ps := ["text", "place"]) fun _ _ _ _ _ _ us hl => match us, hl with | [_, _], _ => rfl
  have F4 := fun_mk (st := s_condition_end) l4 c4 k4
  have b4 := F4.binds (ps := ["text", "place"]) fun _ _ _ _ _ _ us hl => match us, hl with | [_, _], _ => rfl
  have F5 := fun_mk (st := s_piece_end) l5 c5 k5
  have b5 := F5.binds (ps := ["text", "place"]) fun _ _ _ _ _ _ us hl => match us, hl with | [_, _], _ => rfl
  have F6 := fun_mk (st := s_condition_number) l6 c6 k6
  have b6 := F6.binds (ps := ["text"]) fun _ _ _ _ _ _ us hl => match us, hl with | [_], _ => rfl
  have F7 := fun_mk (st := s_mark_read) l7 c7 k7
  have b7 := F7.binds (ps := ["text"]) fun _ _ _ _ _ _ us hl => match us, hl with | [_], _ => rfl
  have F8 := fun_mk (st := s_pieces) l8 c8 k8
  have b8 := F8.binds (ps := ["text"]) fun _ _ _ _ _ _ us hl => match us, hl with | [_], _ => rfl
  have F9 := fun_mk (st := s_l_name_by) l9 c9 k9
  have b9 := F9.binds (ps := ["cell"]) fun _ _ _ _ _ _ us hl => match us, hl with | [_], _ => rfl
  have F10 := fun_mk (st := s_l_number_by) l10 c10 k10
  have b10 := F10.binds (ps := ["cell"]) fun _ _ _ _ _ _ us hl => match us, hl with | [_], _ => rfl
  have F11 := fun_mk (st := s_l_mark_by) l11 c11 k11
  have b11 := F11.binds (ps := ["cell"]) fun _ _ _ _ _ _ us hl => match us, hl with | [_], _ => rfl
  have F12 := fun_mk (st := s_l_shown) l12 c12 k12
  have b12 := F12.binds (ps := ["piece"]) fun _ _ _ _ _ _ us hl => match us, hl with | [_], _ => rfl
  have F13 := fun_mk (st := s_l_any_sign) l13 c13 k13
  have b13 := F13.binds (ps := ["cell"]) fun _ _ _ _ _ _ us hl => match us, hl with | [_], _ => rfl
  have F14 := fun_mk (st := s_l_odd) l14 c14 k14
  have b14 := F14.binds (ps := ["cell"]) fun _ _ _ _ _ _ us hl => match us, hl with | [_], _ => rfl
  have F15 := fun_mk (st := s_l_text) l15 c15 k15
  have b15 := F15.binds (ps := ["script"]) fun _ _ _ _ _ _ us hl => match us, hl with | [_], _ => rfl
  have F16 := fun_mk (st := s_l_begun) l16 c16 k16
  have b16 := F16.binds (ps := ["word", "many", "sign"]) fun _ _ _ _ _ _ us hl => match us, hl with | [_, _, _], _ => rfl
  have F17 := fun_mk (st := s_l_step) l17 c17 k17
  have b17 := F17.binds (ps := ["word", "many", "sign"]) fun _ _ _ _ _ _ us hl => match us, hl with | [_, _, _], _ => rfl
  have F18 := fun_mk (st := s_l_many_pieces) l18 c18 k18
  have b18 := F18.binds (ps := ["text"]) fun _ _ _ _ _ _ us hl => match us, hl with | [_], _ => rfl
  have F19 := fun_mk (st := s_l_written) l19 c19 k19
  have b19 := F19.binds (ps := ["piece"]) fun _ _ _ _ _ _ us hl => match us, hl with | [_], _ => rfl
  have F20 := fun_mk (st := s_law) l20 c20 k20
  have T : Txt K mg ⟨f0, _, f1, _, f2, _, f3, _, f4, _, f5, _, f6, _, f7, _, f8, _, f9, _, f10, _, f11, _, f12, _, f13, _, f14, _, f15, _, f16, _, f17, _, f18, _, f19, _, C_SeekError, C_NoNumber, C_NoPiece, C_TooGreat, C_NoPattern, ka0, ka1⟩ := ⟨⟨F0, b0, PySem.W.mg_of X G a0⟩, ⟨F1, b1, PySem.W.mg_of X G a1⟩, ⟨F2, b2, PySem.W.mg_of X G a2⟩, ⟨F3, b3, PySem.W.mg_of X G a3⟩, ⟨F4, b4, PySem.W.mg_of X G a4⟩, ⟨F5, b5, PySem.W.mg_of X G a5⟩, ⟨F6, b6, PySem.W.mg_of X G a6⟩, ⟨F7, b7, PySem.W.mg_of X G a7⟩, ⟨F8, b8, PySem.W.mg_of X G a8⟩, ⟨F9, b9, PySem.W.mg_of X G a9⟩, ⟨F10, b10, PySem.W.mg_of X G a10⟩, ⟨F11, b11, PySem.W.mg_of X G a11⟩, ⟨F12, b12, PySem.W.mg_of X G a12⟩, ⟨F13, b13, PySem.W.mg_of X G a13⟩, ⟨F14, b14, PySem.W.mg_of X G a14⟩, ⟨F15, b15, PySem.W.mg_of X G a15⟩, ⟨F16, b16, PySem.W.mg_of X G a16⟩, ⟨F17, b17, PySem.W.mg_of X G a17⟩, ⟨F18, b18, PySem.W.mg_of X G a18⟩, ⟨F19, b19, PySem.W.mg_of X G a19⟩, ⟨_, PySem.W.mg_of X G g0, ⟨_, rfl⟩⟩, ⟨_, PySem.W.mg_of X G g1, ⟨_, rfl⟩⟩, ⟨_, PySem.W.mg_of X G g2, ⟨_, rfl⟩⟩, ⟨_, PySem.W.mg_of X G g3, ⟨_, rfl⟩⟩, ⟨_, PySem.W.mg_of X G g4, ⟨_, rfl⟩⟩, PySem.W.mg_of X G kg0, fun H => .inr ⟨_, _, _, kl0, rfl, rfl, (by show 7 ≤ sizeLine; decide), (.cons ⟨_, rfl⟩ (.cons ⟨_, rfl⟩ (.cons ⟨_, rfl⟩ (.cons ⟨_, rfl⟩ (.cons ⟨_, rfl⟩ (.cons ⟨_, rfl⟩ (.cons ⟨_, rfl⟩ .nil)))))))⟩, PySem.W.mg_of X G kg1, fun H => .inr ⟨_, _, _, kl1, rfl, rfl, (by show 4 ≤ sizeLine; decide), (.cons ⟨_, rfl⟩ (.cons ⟨_, rfl⟩ (.cons ⟨_, rfl⟩ (.cons ⟨_, rfl⟩ .nil))))⟩, PySem.W.mg_none_of X G z0, PySem.W.mg_none_of X G z1, PySem.W.mg_none_of X G z2, PySem.W.mg_none_of X G z3, PySem.W.mg_none_of X G z4, PySem.W.mg_none_of X G z5, PySem.W.mg_none_of X G z6, PySem.W.mg_none_of X G z7, PySem.W.mg_none_of X G z8, PySem.W.mg_none_of X G z9, PySem.W.mg_none_of X G z10, PySem.W.mg_of X G gc_SeekError, PySem.W.mg_of X G gc_NoNumber, PySem.W.mg_of X G gc_NoPiece, PySem.W.mg_of X G gc_TooGreat, PySem.W.mg_of X G gc_NoPattern, ⟨xs, xnd⟩, ⟨xm, xnd⟩, ⟨xk⟩⟩
  exact ⟨PySem.W.fnOf "law" "law" (defArgs s_law) (defBody s_law) (defScope s_law) .none kV20 dc20 pm20 an20 cd20 ct20, fun s v => .of_eq rfl, fun base _ _ => ok_law F20 T⟩
theorem walk {l : PySem.W.OpenLaw} {q : Program} {loose : List Str} {XP : (Str → Option Value) → Heap → Prop} {YP : World → Heap → Prop} {d : DefRec} {K : Params → PySem.W.Frag} (hn : l.most = some 63) (hdf : d.params.defaults = [])
    (hY : ∀ (w : World) (h : Heap), YP w h → (K w.params).In h)
    (F : ∀ (w : World) (mg : Str → Option Value) (fa : Addr) (h : Heap), (K w.params).In h → h.Ns mainGlobals mg → mg d.name = some (.ref fa) →
      ∃ fd : FuncData, (∀ (s : Shared) (u : Value), BindsTo s fd ⟨[u], []⟩ [("script", u)]) ∧ ∀ base : Heap, (K w.params).In base → base.Ns mainGlobals mg → FnOk l.prog w (K w.params) mg base (CX1 l.prog w) 6 fa fd ["script"] (spLaw (K w.params))) :
    PySem.W.WalkO q loose XP YP l.row.toRowW d [] (fun f vs => PySem.call f vs) :=
  L2.walk_of (n := 63) (k := 6) (x := "script") (CX := fun w => CX1 l.prog w) (sp := fun w => spLaw (K w.params)) hn (by decide) hdf ⟨rfl, by decide, by decide⟩ hY F (fun _ _ a ns hl _ hS => ⟨a, ns, rfl, hS, hl, fun _ => rfl⟩) fun _ _ _ _ _ ⟨_, _, _, _, _, _, _, z⟩ => z
end K18
open PySem PySem.W PyProof.Rows
abbrev rowAt : RowW := PySem.Challenge.rw_tieseek_k18_any_text_cut.row.toRowW
def seenP : Program :=
  { rowAt.prog with main := { rowAt.prog.main with
      body := ((((rowAt.prog.main.body.eraseIdx 24).eraseIdx 14).eraseIdx 6).eraseIdx 0) } }
abbrev seenX : Shared → Bool := fun s => xlAt seenP [] s && recOk rowAt.records s
theorem two_looks {W α β γ : Type} {x : W → Option α} {f : α → β} {g : α → γ} {b : β} {c : W → γ}
    (h : ∀ w, (x w).map f = some b) (k : ∀ w, (x w).map g = some (c w)) (w : W) :
    (x w).map (fun s => (f s, g s)) = some (b, c w) := by
  have h := h w
  have k := k w
  revert h k
  cases x w with
  | none => intro h; cases h
  | some a => intro h k; cases h; rw [← Option.some.inj k]; rfl
set_option maxRecDepth 100000 in
set_option maxHeartbeats 0 in
theorem first_look : ∀ w : World, (openEnds treeTable rowAt.prog w 3710).map
    (fun s => openSeen seenP [] (importedModules rowAt.prog.main.body) seenX true s) =
    some (openGood seenP []) := by
  intro w
  unfold openEnds fencedOpening topFrom
  rw [Fast.te14082659384304107361,
      Fast.te14364793385576792824,
      Fast.te10274390034422433532,
      Fast.te14289696077712309145,
      Fast.te1435165496053646825,
      Fast.te4187177175401517315,
      Fast.te5923862056798008813]
  kernel_rfl
local macro_rules
  | `(tactic| o_head $H) => `(tactic|
    refine holds_open (q := seenP) (loose := []) (Xt := seenX)
      (XP := XL seenP []) (Yf := Hook.obs $H) (Ya := Hook.val $H)
      (YP := Hook.says $H) (N := 3710) (two_looks first_look ?hl) (Hook.of $H) (Hook.keeps $H)
      (fun s e => xl_of s (Bool.and_eq_true_iff.mp e).1) XL.keeps
      (by rfl) (by rfl) (by rfl)
      (fun s e => recFacts_of (Bool.and_eq_true_iff.mp e).2)
      (by rfl) (by first | assumption | decide +kernel)
      (by decide +kernel) ⟨rfl, rfl, rfl, rfl, rfl, by decide +kernel⟩ ?hw ?hc)
set_option maxRecDepth 100000 in
set_option maxHeartbeats 0 in
theorem PySem.Challenge.cw_tieseek_k18_any_text_cut_holds : PySem.Challenge.rw_tieseek_k18_any_text_cut.Holds := by
  w_on; o_law; k_head; (case hw => w_witness2)
  case hl =>
    intro w
    unfold openEnds fencedOpening topFrom
    rw [Fast.te14082659384304107361, Fast.te14364793385576792824, Fast.te10274390034422433532, Fast.te14289696077712309145, Fast.te1435165496053646825, Fast.te5923862056798008813]
    kernel_rfl
  k_fill
  refine K18.walk (l := PySem.Challenge.rw_tieseek_k18_any_text_cut) rfl rfl (fun w h Y => PySem.W.kIn_of Y) ?F
  case F =>
    intro w mg fa h KX G hmg
    refine' K18.all_mk KX G hmg ?gc_SeekError ?gc_NoNumber ?gc_NoPiece ?gc_TooGreat ?gc_NoPattern ?xa0 ?xl0 ?xc0 ?xk0 ?xa1 ?xl1 ?xc1 ?xk1 ?xa2 ?xl2 ?xc2 ?xk2 ?xa3 ?xl3 ?xc3 ?xk3 ?xa4 ?xl4 ?xc4 ?xk4 ?xa5 ?xl5 ?xc5 ?xk5 ?xa6 ?xl6 ?xc6 ?xk6 ?xa7 ?xl7 ?xc7 ?xk7 ?xa8 ?xl8 ?xc8 ?xk8 ?xa9 ?xl9 ?xc9 ?xk9 ?xa10 ?xl10 ?xc10 ?xk10 ?xa11 ?xl11 ?xc11 ?xk11 ?xa12 ?xl12 ?xc12 ?xk12 ?xa13 ?xl13 ?xc13 ?xk13 ?xa14 ?xl14 ?xc14 ?xk14 ?xa15 ?xl15 ?xc15 ?xk15 ?xa16 ?xl16 ?xc16 ?xk16 ?xa17 ?xl17 ?xc17 ?xk17 ?xa18 ?xl18 ?xc18 ?xk18 ?xa19 ?xl19 ?xc19 ?xk19 ?xa20 ?xl20 ?xc20 ?xk20 ?xg0 ?xg1 ?xg2 ?xg3 ?xg4 ?kg0 ?kl0 ?kg1 ?kl1 ?xz0 ?xz1 ?xz2 ?xz3 ?xz4 ?xz5 ?xz6 ?xz7 ?xz8 ?xz9 ?xz10 ?xs ?xnd ?xm ?xk
    (case gc_SeekError => k_is)
    (case gc_NoNumber => k_is)
    (case gc_NoPiece => k_is)
    (case gc_TooGreat => k_is)
    (case gc_NoPattern => k_is)
    (case xa0 => k_is)
    (case xl0 => k_is)
    (case xc0 => k_is)
    (case xk0 => k_is)
    (case xa1 => k_is)
    (case xl1 => k_is)
    (case xc1 => k_is)
    (case xk1 => k_is)
    (case xa2 => k_is)
    (case xl2 => k_is)
    (case xc2 => k_is)
    (case xk2 => k_is)
    (case xa3 => k_is)
    (case xl3 => k_is)
    (case xc3 => k_is)
    (case xk3 => k_is)
    (case xa4 => k_is)
    (case xl4 => k_is)
    (case xc4 => k_is)
    (case xk4 => k_is)
    (case xa5 => k_is)
    (case xl5 => k_is)
    (case xc5 => k_is)
    (case xk5 => k_is)
    (case xa6 => k_is)
    (case xl6 => k_is)
    (case xc6 => k_is)
    (case xk6 => k_is)
    (case xa7 => k_is)
    (case xl7 => k_is)
    (case xc7 => k_is)
    (case xk7 => k_is)
    (case xa8 => k_is)
    (case xl8 => k_is)
    (case xc8 => k_is)
    (case xk8 => k_is)
    (case xa9 => k_is)
    (case xl9 => k_is)
    (case xc9 => k_is)
    (case xk9 => k_is)
    (case xa10 => k_is)
    (case xl10 => k_is)
    (case xc10 => k_is)
    (case xk10 => k_is)
    (case xa11 => k_is)
    (case xl11 => k_is)
    (case xc11 => k_is)
    (case xk11 => k_is)
    (case xa12 => k_is)
    (case xl12 => k_is)
    (case xc12 => k_is)
    (case xk12 => k_is)
    (case xa13 => k_is)
    (case xl13 => k_is)
    (case xc13 => k_is)
    (case xk13 => k_is)
    (case xa14 => k_is)
    (case xl14 => k_is)
    (case xc14 => k_is)
    (case xk14 => k_is)
    (case xa15 => k_is)
    (case xl15 => k_is)
    (case xc15 => k_is)
    (case xk15 => k_is)
    (case xa16 => k_is)
    (case xl16 => k_is)
    (case xc16 => k_is)
    (case xk16 => k_is)
    (case xa17 => k_is)
    (case xl17 => k_is)
    (case xc17 => k_is)
    (case xk17 => k_is)
    (case xa18 => k_is)
    (case xl18 => k_is)
    (case xc18 => k_is)
    (case xk18 => k_is)
    (case xa19 => k_is)
    (case xl19 => k_is)
    (case xc19 => k_is)
    (case xk19 => k_is)
    (case xa20 => k_is)
    (case xl20 => k_is)
    (case xc20 => k_is)
    (case xk20 => k_is)
    (case xg0 => k_is)
    (case xg1 => k_is)
    (case xg2 => k_is)
    (case xg3 => k_is)
    (case xg4 => k_is)
    (case kg0 => k_is)
    (case kl0 => k_is)
    (case kg1 => k_is)
    (case kl1 => k_is)
    (case xz0 => k_is)
    (case xz1 => k_is)
    (case xz2 => k_is)
    (case xz3 => k_is)
    (case xz4 => k_is)
    (case xz5 => k_is)
    (case xz6 => k_is)
    (case xz7 => k_is)
    (case xz8 => k_is)
    (case xz9 => k_is)
    (case xz10 => k_is)
    (case xs => kernel_rfl)
    (case xnd => kernel_rfl)
    (case xm => kernel_rfl)
    (case xk => kernel_rfl)
