import PyProof.Rows.All
import Wide.All
import KE.KDictOf
import KE.KFromBytes
import KE.KIntText
import KE.KItemsList
import KE.KRevIter
import KE.KSortTup
import KE.KTryMore
import KE.LcSums
import Wide.FinOn
import Lean
import PyProof.EqAt
import PyProof.EqKinds
import PyProof.TupleCall
import PySem.Challenge.RW_tieseek_k14_whole_web_read_back
set_option Elab.async false
set_option linter.all false
set_option maxRecDepth 100000
section
open PySem PySem.W PyProof.Rows
abbrev rowAt : RowW := PySem.Challenge.rw_tieseek_k14_whole_web_read_back.row.toRowW
def seenP : Program :=
  { rowAt.prog with main := { rowAt.prog.main with
      body := ((((((rowAt.prog.main.body.eraseIdx 42).eraseIdx 37).eraseIdx 31).eraseIdx 22).eraseIdx 12).eraseIdx 1) } }
abbrev seenX : Shared → Bool := fun s => xlAt seenP [] s && recOk rowAt.records s
theorem two_looks {W α β γ : Type} {x : W → Option α} {f : α → β} {g : α → γ} {b : β} {c : W → γ}
    (h : ∀ w, (x w).map f = some b) (k : ∀ w, (x w).map g = some (c w)) (w : W) :
    (x w).map (fun s => (f s, g s)) = some (b, c w) := by
  have h := h w
  have k := k w
  revert h k
  cases x w with
  | none => intro h; cases h
  | some a => intro h k; cases h; rw [← Option.some.inj k]; rfl
theorem split_look {α : Type} {p : Program} {N : Nat} {f : Shared → α} {c : World → α} (row : String)
    (h0 : ∀ w : World, ((fencedOpening treeTable p w N).bind (topFrom treeTable p (w.withFollow row false) N)).map f = some (c (w.withFollow row false)))
    (h1 : ∀ w : World, ((fencedOpening treeTable p w N).bind (topFrom treeTable p (w.withFollow row true) N)).map f = some (c (w.withFollow row true)))
    (w : World) : (openEnds treeTable p w N).map f = some (c w) := by
  have e := World.withFollow_self w row
  unfold openEnds
  cases hb : w.params.followText row <;> rw [hb] at e
  · have k := h0 w
    rw [e] at k
    exact k
  · have k := h1 w
    rw [e] at k
    exact k
set_option maxRecDepth 100000 in
set_option maxHeartbeats 0 in
theorem look_no : ∀ w : World, ((fencedOpening treeTable rowAt.prog w 8202).bind (topFrom treeTable rowAt.prog (w.withFollow "special-get-raises" false) 8202)).map
    (fun s => openSeen seenP ["LENGTHS"] (importedModules rowAt.prog.main.body) seenX true s) = some (openGood seenP ["LENGTHS"]) := by
  intro w
  unfold fencedOpening topFrom
  rw [Fast.te14082659384304107361,
      Fast.te14364793385576792824,
      Fast.te10274390034422433532,
      Fast.te14289696077712309145,
      Fast.te1435165496053646825,
      Fast.te4187177175401517315,
      Fast.te5923862056798008813]
  kernel_rfl
set_option maxRecDepth 100000 in
set_option maxHeartbeats 0 in
theorem look_yes : ∀ w : World, ((fencedOpening treeTable rowAt.prog w 8202).bind (topFrom treeTable rowAt.prog (w.withFollow "special-get-raises" true) 8202)).map
    (fun s => openSeen seenP ["LENGTHS"] (importedModules rowAt.prog.main.body) seenX true s) = some (openGood seenP ["LENGTHS"]) := by
  intro w
  unfold fencedOpening topFrom
  rw [Fast.te14082659384304107361,
      Fast.te14364793385576792824,
      Fast.te10274390034422433532,
      Fast.te14289696077712309145,
      Fast.te1435165496053646825,
      Fast.te4187177175401517315,
      Fast.te5923862056798008813]
  kernel_rfl
theorem keep_hook {P : Prop} (_ : Hook) (h : P) : P := h
local macro_rules
  | `(tactic| o_head $H) => `(tactic| (refine keep_hook $H ?_; assumption))
set_option maxRecDepth 100000 in
set_option maxHeartbeats 0 in
theorem heapAt (hyp : PySem.Challenge.rw_tieseek_k14_whole_web_read_back.row.Holds) : PySem.Challenge.rw_tieseek_k14_whole_web_read_back.row.Holds := by
  k_head
def asAt : List Addr := [2, 3, 15, 17, 18, 20, 21, 22, 29, 30, 31, 32, 35, 42, 43, 44, 47, 54, 55, 56, 59, 66, 67, 68, 71, 78, 79, 80, 83, 90, 91, 92, 95, 102, 103, 104, 107, 114, 115, 116, 119, 126, 127, 128, 131, 138, 139, 140, 143, 146, 147, 148, 150, 151, 153, 154, 155, 157, 158, 160, 161, 162, 165, 166, 167, 169, 170, 172, 173, 174, 175, 176, 178, 179, 181, 182, 183, 185, 186, 188, 189, 190, 192, 193, 195, 196, 197, 199, 200, 202, 203, 204, 206, 207, 209, 210, 211, 213, 214, 216, 217, 218, 220, 221, 223, 224, 225, 227, 228, 230, 231, 239, 241, 242, 244, 245, 246, 248, 249, 251, 252, 253, 255, 256, 258, 259, 260, 262, 263, 265, 266, 267, 269, 270, 272, 273, 274, 276, 277, 279, 280, 281, 283, 284, 286, 287, 288, 289, 291, 292, 294, 295, 296, 298, 299, 301, 302, 303, 305, 306, 308, 309, 310, 312, 313, 315, 316, 317, 319, 320, 322, 323, 324, 326, 327, 329, 330, 331, 333, 334, 336, 337, 338, 340, 341, 343, 344, 345, 348, 349, 350, 353, 354, 355, 357, 358, 360, 361, 362, 365, 366, 367, 368, 369, 370, 371, 374, 376, 377, 379, 380, 381, 383, 384, 386, 387, 388, 390, 391, 393, 394, 395, 397, 398, 400, 401, 402, 404, 405, 407, 408, 409, 411, 412, 414, 415, 416, 418, 419, 421, 422, 423, 425, 426, 428, 429, 430, 432, 433, 435, 436, 437, 439, 440, 442, 443, 444, 447, 448, 449, 451, 452, 454, 455, 456, 458, 459, 461, 462, 463, 465, 466, 468, 469, 470, 472, 473, 475, 476, 477, 479, 480, 482, 483]
set_option maxRecDepth 100000 in
theorem asEq : ∀ P : Params, asAt = (heapAt.heap_1 P).map (·.1) := fun _ => by kernel_rfl
set_option maxRecDepth 100000 in
set_option maxHeartbeats 0 in
theorem h_no : ∀ w : World, ((fencedOpening treeTable rowAt.prog w 8202).bind (topFrom treeTable rowAt.prog (w.withFollow "special-get-raises" false) 8202)).map
    (Hook.obs (kHook heapAt.heap_1 asAt asEq)) = some (Hook.val (kHook heapAt.heap_1 asAt asEq) (w.withFollow "special-get-raises" false)) := by
  intro w
  unfold fencedOpening topFrom
  rw [Fast.te14082659384304107361, Fast.te14364793385576792824, Fast.te10274390034422433532, Fast.te14289696077712309145, Fast.te1435165496053646825, Fast.te5923862056798008813]
  kernel_rfl
set_option maxRecDepth 100000 in
set_option maxHeartbeats 0 in
theorem h_yes : ∀ w : World, ((fencedOpening treeTable rowAt.prog w 8202).bind (topFrom treeTable rowAt.prog (w.withFollow "special-get-raises" true) 8202)).map
    (Hook.obs (kHook heapAt.heap_1 asAt asEq)) = some (Hook.val (kHook heapAt.heap_1 asAt asEq) (w.withFollow "special-get-raises" true)) := by
  intro w
  unfold fencedOpening topFrom
  rw [Fast.te14082659384304107361, Fast.te14364793385576792824, Fast.te10274390034422433532, Fast.te14289696077712309145, Fast.te1435165496053646825, Fast.te5923862056798008813]
  kernel_rfl
end
set_option Elab.async false
set_option linter.all false
set_option maxRecDepth 100000
namespace L2
open PySem PySem.Spec PyProof.Rows
abbrev Key := Sum Int Str
def keyIs : Key → Value → Bool
  | .inl k, v => Value.isInt k v
  | .inr x, v => Value.isStrOf x v
def keyH (w : World) : Key → Int
  | .inl k => hashInt k
  | .inr x => hashStr w x
theorem keyIs_shape : ∀ {k : Key} {v : Value}, keyIs k v = true → (∃ i t, k = Sum.inl i ∧ v = Value.int i t) ∨ (∃ x t, k = Sum.inr x ∧ v = Value.str x t)
  | .inl i, v, h => by
    obtain ⟨t, e⟩ := Value.isInt_shape (k := i) (v := v) h
    exact .inl ⟨i, t, rfl, e⟩
  | .inr x, v, h => by
    obtain ⟨t, e⟩ := Value.isStrOf_shape (x := x) (v := v) h
    exact .inr ⟨x, t, rfl, e⟩
theorem keyIs_int (i : Int) (t : Tok) : keyIs (.inl i) (.int i t) = true := by simp [keyIs, Value.isInt]
theorem keyIs_str (x : Str) (t : Tok) : keyIs (.inr x) (.str x t) = true := by simp [keyIs, Value.isStrOf]
theorem key_ll (a b : Int) : decide ((Sum.inl a : Key) = Sum.inl b) = (a == b) := by
  by_cases e : a = b
  · subst e; simp
  · have h : ¬ (Sum.inl a : Key) = Sum.inl b := fun q => e (Sum.inl.inj q)
    rw [decide_eq_false h]
    exact (beq_eq_false_iff_ne.mpr e).symm
theorem key_rr (a b : Str) : decide ((Sum.inr a : Key) = Sum.inr b) = decide (a = b) := by
  by_cases e : a = b
  · subst e; simp
  · have h : ¬ (Sum.inr a : Key) = Sum.inr b := fun q => e (Sum.inr.inj q)
    rw [decide_eq_false h, decide_eq_false e]
theorem key_lr (a : Int) (b : Str) : decide ((Sum.inl a : Key) = Sum.inr b) = false := decide_eq_false (fun q => nomatch q)
theorem key_rl (a : Str) (b : Int) : decide ((Sum.inr a : Key) = Sum.inl b) = false := decide_eq_false (fun q => nomatch q)
def mixKind (prog : Program) (w : World) : PySem.KeyKind prog w Key where
  is := keyIs
  hash := keyH w
  inj := fun v a b ha hb => by
    rcases keyIs_shape ha with ⟨i, t, rfl, rfl⟩ | ⟨x, t, rfl, rfl⟩
    · rcases keyIs_shape hb with ⟨j, u, rfl, e⟩ | ⟨y, u, rfl, e⟩
      · injection e with e1 _; rw [e1]
      · exact nomatch e
    · rcases keyIs_shape hb with ⟨j, u, rfl, e⟩ | ⟨y, u, rfl, e⟩
      · exact nomatch e
      · injection e with e1 _; rw [e1]
  byValue := fun k v h => by
    rcases keyIs_shape h with ⟨i, t, rfl, rfl⟩ | ⟨x, t, rfl, rfl⟩ <;> rfl
  pyHash := fun hv h => by
    rcases keyIs_shape hv with ⟨i, t, rfl, rfl⟩ | ⟨x, t, rfl, rfl⟩
    · exact wpAny_pyHash_int h
    · exact wpAny_pyHash_str h
  eqBool := fun hu hv h => by
    rcases keyIs_shape hu with ⟨i, t, rfl, rfl⟩ | ⟨x, t, rfl, rfl⟩
    · rcases keyIs_shape hv with ⟨j, u, rfl, rfl⟩ | ⟨y, u, rfl, rfl⟩
      · rw [key_ll] at h; exact wpAny_eqBool_int h
      · rw [key_lr] at h; exact SeqAt.EqAt.int_str i t y u _ _ _ _ h
    · rcases keyIs_shape hv with ⟨j, u, rfl, rfl⟩ | ⟨y, u, rfl, rfl⟩
      · rw [key_rl] at h; exact SeqAt.EqAt.str_int x t j u _ _ _ _ h
      · rw [key_rr] at h; exact wpAny_eqBool_str h
  «strs» := fun k x t v h => by
    rcases keyIs_shape h with ⟨i, u, rfl, e⟩ | ⟨y, u, rfl, e⟩
    · exact nomatch e
    · injection e with e1 _
      subst e1
      cases v <;> rfl
theorem mixKind_int (prog : Program) (w : World) (i : Int) (t : Tok) : (mixKind prog w).is (.inl i) (.int i t) = true := keyIs_int i t
theorem mixKind_str (prog : Program) (w : World) (x : Str) (t : Tok) : (mixKind prog w).is (.inr x) (.str x t) = true := keyIs_str x t
end L2
namespace L2
open PySem PySem.Spec PyProof.Rows
inductive V where
  | non | bl (b : Bool) | int (i : Int) | str (x : Str) | byt (b : Array UInt8) | flt (b : UInt64) | ref (a : Addr) | ty (n : String)
  deriving DecidableEq
def RelV : V → Value → Prop
  | .non, u => u = Value.none
  | .bl b, u => u = Value.bool b
  | .int i, u => ∃ t, u = Value.int i t
  | .str x, u => ∃ t, u = Value.str x t
  | .byt b, u => ∃ t, u = Value.bytes b t
  | .flt b, u => ∃ t, u = Value.float b t
  | .ref a, u => u = Value.ref a
  | .ty n, u => u = Value.type n
abbrev Vals : List V → List Value → Prop := Paired RelV
theorem Vals.length {xs : List V} {us : List Value} (r : Vals xs us) : xs.length = us.length := Paired.length r
theorem Vals.get : ∀ {xs : List V} {us : List Value} {i : Nat} {x : V}, Vals xs us → xs[i]? = some x → ∃ u, us[i]? = some u ∧ RelV x u
  | _, _, _, _, .nil, e => by simp at e
  | _, _, 0, _, .cons r _, e => by simp at e; subst e; exact ⟨_, rfl, r⟩
  | _, _, i + 1, x, .cons _ t, e => by
    obtain ⟨u, h1, h2⟩ := Vals.get (i := i) (x := x) t (by simpa using e)
    exact ⟨u, by simpa using h1, h2⟩
theorem Vals.append : ∀ {xs ys : List V} {us ws : List Value}, Vals xs us → Vals ys ws → Vals (xs ++ ys) (us ++ ws)
  | _, _, _, _, .nil, s => s
  | _, _, _, _, .cons r t, s => .cons r (Vals.append t s)
theorem Vals.take : ∀ {xs : List V} {us : List Value} (n : Nat), Vals xs us → Vals (xs.take n) (us.take n)
  | _, _, 0, _ => .nil
  | _, _, _ + 1, .nil => .nil
  | _, _, n + 1, .cons r t => .cons r (Vals.take n t)
theorem Vals.drop : ∀ {xs : List V} {us : List Value} (n : Nat), Vals xs us → Vals (xs.drop n) (us.drop n)
  | _, _, 0, r => r
  | _, _, _ + 1, .nil => .nil
  | _, _, n + 1, .cons _ t => Vals.drop n t
def RelO : Option V → Option Value → Prop
  | some v, some u => RelV v u
  | none, none => True
  | _, _ => False
def KV {κ : Type} : List (κ × V) → List (κ × Value) → Prop := Paired fun (p : κ × V) (q : κ × Value) => p.1 = q.1 ∧ RelV p.2 q.2
def kV : Key → V
  | .inl i => .int i
  | .inr x => .str x
inductive HO where
    | lst (xs : List V)
    | tup (xs : List V)
    | dK (kvs : List (Key × V)) | dT (kvs : List (List Key × V))
    | set (S : Int → Bool) (n : Nat)
    | ins (C dx : Addr) (fs : List (Str × V))
    | own (x : Addr)
    | xd (fs : List (Str × V))
    | met (f x : Addr)
    | rng (lo hi : Int)
    | frz (o : Obj) (u : HO)
    | tbl (ps : Array Value)
    | ext (φ : Heap → Prop)
abbrev Hp := Addr → Option HO
def upd (H : Hp) (a : Addr) (o : HO) : Hp := fun b => if b = a then some o else H b
theorem upd_same {H : Hp} {a : Addr} {o : HO} : upd H a o a = some o := by unfold upd; rw [if_pos rfl]
theorem upd_ne {H : Hp} {a b : Addr} {o : HO} (h : b ≠ a) : upd H a o b = H b := by unfold upd; rw [if_neg h]
theorem ne_of {H : Hp} {a b : Addr} {o u : HO} (h : H a = some o) (h' : H b = some u) (d : o ≠ u) : a ≠ b := by
  intro e; subst e; rw [h] at h'; exact d (Option.some.inj h')
theorem ne_of_none {H : Hp} {a b : Addr} {o : HO} (h : H a = some o) (h' : H b = none) : a ≠ b := by
  intro e; subst e; rw [h] at h'; cases h'
section
variable (P : Program) (w : World)
def ObjOk (H : Hp) (h : Heap) (a : Addr) : HO → Prop
  | .lst xs => xs.length ≤ sizeLine ∧ ∃ (its : List Value) (n : Nat), Vals xs its ∧ h.get? a = some { cls := .type "list", data := .seq its.toArray n }
  | .tup xs => xs.length ≤ sizeLine ∧ ∃ its : List Value, Vals xs its ∧ IsTup h a its.toArray
  | .dK kvs => kvs.length ≤ sizeLine ∧ (a == sysModules) = false ∧ ∃ vs, KV kvs vs ∧ h.DictOf (mixKind P w) a vs
  | .dT kvs => kvs.length ≤ sizeLine ∧ (a == sysModules) = false ∧ ∃ xs : List (List Key × Addr × Value),
      Paired (fun (p : List Key × V) (q : List Key × Addr × Value) => p.1 = q.1 ∧ H q.2.1 = some (.tup (p.1.map kV)) ∧ RelV p.2 q.2.2) kvs xs ∧
      ∃ o es ep, h.get? a = some o ∧ o.ExactDict ∧ o.data = .dict es ep ∧ es.toList = xs.map (entryOfKey (tupleKind (mixKind P w))) ∧ (xs.map (·.1)).Nodup
  | .set S n => h.SetOf (intKind P w) a S n
  | .ins C dx fs => H dx = some (.own a) ∧ fs.length ≤ 1000 ∧ dx ≠ a ∧ h.get? a = some (PySem.W.instObj C dx) ∧
      ∃ mA, h.Ns1 dx mA ∧ (∀ f, RelO (fs.lookup f) (mA f)) ∧ PySem.Within mA (fs.map (·.1))
  | .own _ => ∃ o, h.get? a = some o
  | .xd fs => ∃ mA, h.Ns1 a mA ∧ ∀ f, RelO (fs.lookup f) (mA f)
  | .rng lo hi => ∃ t u v, h.get? a = some { cls := .type "range", data := .fields #[.int lo t, .int hi u, .int 1 v] }
  | .frz o u => h.get? a = some o ∧ ObjOk H h a u
  | .tbl ps => h.get? a = some { cls := .none, data := .fields ps }
  | .met f x => h.get? a = some (PySem.W.methodObj (.ref f) (.ref x))
  | .ext φ => φ h ∧ (∃ o, h.get? a = some o) ∧ ∀ h1 h2 : Heap, φ h1 → (∀ o, h1.get? a = some o → h2.get? a = some o) → φ h2
def HOk (H : Hp) (h : Heap) : Prop := ∀ a o, H a = some o → ObjOk P w H h a o
end
section
variable {P : Program} {w : World} {H H' : Hp} {h h' : Heap} {a : Addr} {o : HO}
theorem ObjOk.lt (x : ObjOk P w H h a o) : a < h.objs.size := by
  cases o with
  | lst xs => obtain ⟨_, _, _, _, e⟩ := x; exact Heap.lt_size e
  | tup xs => obtain ⟨_, _, _, p⟩ := x; exact p.lt
  | dK kvs => obtain ⟨_, _, _, _, o, _, _, e, _⟩ := x; exact Heap.lt_size e
  | dT kvs => obtain ⟨_, _, _, _, o, _, _, e, _⟩ := x; exact Heap.lt_size e
  | set S n => obtain ⟨o, _, _, _, e, _⟩ := x; exact Heap.lt_size e
  | ins C dx fs => obtain ⟨_, _, _, e, _⟩ := x; exact Heap.lt_size e
  | own y => obtain ⟨_, e⟩ := x; exact Heap.lt_size e
  | xd fs => obtain ⟨_, ⟨_, _, _, e, _⟩, _⟩ := x; exact Heap.lt_size e
  | rng lo hi => obtain ⟨_, _, _, e⟩ := x; exact Heap.lt_size e
  | frz ob u => obtain ⟨e, _⟩ := x; exact Heap.lt_size e
  | tbl ps => exact Heap.lt_size (show h.get? a = some _ from x)
  | met f y => exact Heap.lt_size (show h.get? a = some _ from x)
  | ext φ => obtain ⟨_, ⟨_, e⟩, _⟩ := x; exact Heap.lt_size e
theorem Paired.mapP {α β : Type} {F G : α → β → Prop} : ∀ {l₁ : List α} {l₂ : List β}, Paired F l₁ l₂ → (∀ a b, F a b → G a b) → Paired G l₁ l₂
  | _, _, .nil, _ => .nil
  | _, _, .cons r t, f => .cons (f _ _ r) (Paired.mapP t f)
theorem ObjOk.stay (x : ObjOk P w H h a o) (k : ∀ b u, (b = a ∨ H b = some (.own a)) → h.get? b = some u → h'.get? b = some u)
    (ho : ∀ b, H b = some (.own a) → H' b = some (.own a)) (ht : ∀ b xs, H b = some (.tup xs) → H' b = some (.tup xs)) : ObjOk P w H' h' a o := by
  induction o with
  | lst xs => obtain ⟨z, its, n, r, e⟩ := x; exact ⟨z, its, n, r, k _ _ (.inl rfl) e⟩
  | tup xs => obtain ⟨z, its, r, ob, e, c⟩ := x; exact ⟨z, its, r, ob, k _ _ (.inl rfl) e, c⟩
  | dK kvs => obtain ⟨z, y, vs, r, ob, es, ep, e, c⟩ := x; exact ⟨z, y, vs, r, ob, es, ep, k _ _ (.inl rfl) e, c⟩
  | dT kvs =>
    obtain ⟨z, y, xs, r, ob, es, ep, e, c⟩ := x
    exact ⟨z, y, xs, Paired.mapP r fun p q z => ⟨z.1, ht _ _ z.2.1, z.2.2⟩, ob, es, ep, k _ _ (.inl rfl) e, c⟩
  | set S n => obtain ⟨ob, es, ep, t, e, c⟩ := x; exact ⟨ob, es, ep, t, k _ _ (.inl rfl) e, c⟩
  | ins C dx fs =>
    obtain ⟨d, z, ne, e, mA, ⟨od, es, ep, e2, c⟩, r⟩ := x
    exact ⟨ho _ d, z, ne, k _ _ (.inl rfl) e, mA, ⟨od, es, ep, k _ _ (.inr d) e2, c⟩, r⟩
  | own y => obtain ⟨ob, e⟩ := x; exact ⟨ob, k _ _ (.inl rfl) e⟩
  | xd fs => obtain ⟨mA, ⟨od, es, ep, e, c⟩, r⟩ := x; exact ⟨mA, ⟨od, es, ep, k _ _ (.inl rfl) e, c⟩, r⟩
  | rng lo hi => obtain ⟨t, u, v, e⟩ := x; exact ⟨t, u, v, k _ _ (.inl rfl) e⟩
  | frz ob u ih => obtain ⟨e, q⟩ := x; exact ⟨k _ _ (.inl rfl) e, ih q⟩
  | tbl ps =>
    have e : h.get? a = some { cls := .none, data := .fields ps } := x
    show h'.get? a = some { cls := .none, data := .fields ps }
    exact k a _ (.inl rfl) e
  | met f y =>
    have e : h.get? a = some (PySem.W.methodObj (.ref f) (.ref y)) := x
    show h'.get? a = some (PySem.W.methodObj (.ref f) (.ref y))
    exact k a _ (.inl rfl) e
  | ext φ => obtain ⟨p, ⟨o, e⟩, st⟩ := x; exact ⟨st _ _ p fun o q => k _ _ (.inl rfl) q, ⟨o, k _ _ (.inl rfl) e⟩, st⟩
theorem HOk.lt (x : HOk P w H h) (e : H a = some o) : a < h.objs.size := (x a o e).lt
theorem HOk.fresh (x : HOk P w H h) (e : h.objs.size ≤ a) : H a = none := by
  cases q : H a with
  | none => rfl
  | some u => exact absurd (Nat.lt_of_lt_of_le (x.lt q) e) (Nat.lt_irrefl _)
theorem HOk.kept (x : HOk P w H h) (k : ∀ b u, h.get? b = some u → h'.get? b = some u) : HOk P w H h' := fun a o e =>
  (x a o e).stay (fun b u _ q => k b u q) (fun _ q => q) fun _ _ q => q
theorem HOk.laid (x : HOk P w H h) (k : ∀ b u, h.get? b = some u → h'.get? b = some u) (hp : h.objs.size ≤ a) (new : ObjOk P w (upd H a o) h' a o) : HOk P w (upd H a o) h' := fun b u e => by
  have hn := x.fresh hp
  by_cases hb : b = a
  · subst hb; rw [upd_same] at e; cases e; exact new
  · rw [upd_ne hb] at e
    exact (x b u e).stay (fun c v _ q => k c v q) (fun c q => by rw [upd_ne (ne_of_none q hn)]; exact q) fun c xs q => by rw [upd_ne (ne_of_none q hn)]; exact q
end
def Rd (H : Hp) (a : Addr) (u : HO) : Prop := H a = some u ∨ ∃ o, H a = some (.frz o u)
theorem Rd.ok {P : Program} {w : World} {H : Hp} {h : Heap} {a : Addr} {u : HO} (r : Rd H a u) (x : HOk P w H h) : ObjOk P w H h a u := by
  rcases r with r | ⟨o, r⟩
  · exact x a u r
  · obtain ⟨_, q⟩ := x a _ r
    exact q
def Mut : Option HO → Prop
  | some (.lst _) => True
  | some (.dK _) => True
  | some (.dT _) => True
  | some (.set _ _) => True
  | some (.ins _ _ _) => True
  | some (.ext _) => True
  | _ => False
section
variable {P : Program} {w : World} {H : Hp} {h h' : Heap} {x e : Addr} {o' : HO}
theorem HOk.write (ok : HOk P w H h) (mu : Mut (H x)) (he : e = x ∨ H e = some (.own x)) (k : ∀ b u, b ≠ e → h.get? b = some u → h'.get? b = some u) (heo : ∃ u, h'.get? e = some u)
    (new : ObjOk P w (upd H x o') h' x o') : HOk P w (upd H x o') h' := fun b u q => by
  have nown : ∀ c y, H c = some (.own y) → c ≠ x := fun c y r z => by subst z; rw [r] at mu; exact mu
  have ntup : ∀ c xs, H c = some (.tup xs) → c ≠ x := fun c xs r z => by subst z; rw [r] at mu; exact mu
  by_cases hb : b = x
  · subst hb; rw [upd_same] at q; cases q; exact new
  · rw [upd_ne hb] at q
    by_cases hbe : b = e
    · have q' : H b = some (.own x) := by
        rcases he with z | z
        · exact absurd (hbe.trans z) hb
        · rw [hbe]; exact z
      rw [q] at q'; cases q'
      obtain ⟨v, hv⟩ := heo
      exact ⟨v, by rw [hbe]; exact hv⟩
    · refine (ok b u q).stay (fun c v hc r => k c v ?_ r) (fun c r => by rw [upd_ne (nown c b r)]; exact r) fun c xs r => by rw [upd_ne (ntup c xs r)]; exact r
      rcases hc with rfl | hc
      · exact hbe
      · rintro rfl
        rcases he with z | z
        · exact nown c b hc z
        · rw [hc] at z; cases z; exact hb rfl
end
structure Un (fs ex : List Addr) (H H' : Hp) (h h' : Heap) : Prop where
  keep : ∀ b o, h.get? b = some o → H b = none → b ∉ fs → b ∉ ex → h'.get? b = some o
  slot : ∀ b o, h.get? b = some o → H b = none → b ∈ fs → b ∉ ex → ∃ sl, h'.get? b = some { o with slots := sl }
  free : ∀ b o, h.get? b = some o → H b = none → b ∉ ex → H' b = none
  there : ∀ b o, h.get? b = some o → b ∉ ex → ∃ o', h'.get? b = some o'
  tups : ∀ b xs, H b = some (.tup xs) → H' b = some (.tup xs)
  frzs : ∀ b o u, H b = some (.frz o u) → H' b = some (.frz o u)
  tbls : ∀ b ps, H b = some (.tbl ps) → ∃ more, H' b = some (.tbl (ps ++ more))
section
variable {fs fs' ex ex' : List Addr} {H H1 H2 : Hp} {h h1 h2 h' : Heap} {a x e : Addr} {o : HO}
theorem Un.any (u : Un fs ex H H1 h h1) {b : Addr} {ob : Obj} (q : h.get? b = some ob) (n : H b = none) (hx : b ∉ ex) : ∃ sl, h1.get? b = some { ob with slots := sl } := by
  by_cases hb : b ∈ fs
  · exact u.slot b ob q n hb hx
  · exact ⟨ob.slots, u.keep b ob q n hb hx⟩
theorem Un.trans (a : Un fs ex H H1 h h1) (b : Un fs ex H1 H2 h1 h2) : Un fs ex H H2 h h2 where
  keep := fun c ob q n hc hx => b.keep c ob (a.keep c ob q n hc hx) (a.free c ob q n hx) hc hx
  slot := fun c ob q n hc hx => by
    obtain ⟨sl, e1⟩ := a.slot c ob q n hc hx
    obtain ⟨sl', e2⟩ := b.slot c _ e1 (a.free c ob q n hx) hc hx
    exact ⟨sl', e2⟩
  free := fun c ob q n hx => by
    obtain ⟨o', e1⟩ := a.there c ob q hx
    exact b.free c o' e1 (a.free c ob q n hx) hx
  there := fun c ob q hx => by
    obtain ⟨o', e1⟩ := a.there c ob q hx
    exact b.there c o' e1 hx
  tups := fun c xs q => b.tups c xs (a.tups c xs q)
  frzs := fun c ob xs q => b.frzs c ob xs (a.frzs c ob xs q)
  tbls := fun c ps q => by
    obtain ⟨m1, e1⟩ := a.tbls c ps q
    obtain ⟨m2, e2⟩ := b.tbls c _ e1
    exact ⟨m1 ++ m2, by rw [e2, Array.append_assoc]⟩
theorem Un.kept (k : ∀ b u, h.get? b = some u → h'.get? b = some u) : Un fs ex H H h h' :=
  ⟨fun b ob q _ _ _ => k b ob q, fun b ob q _ _ _ => ⟨ob.slots, k b ob q⟩, fun _ _ _ n _ => n, fun b ob q _ => ⟨ob, k b ob q⟩, fun _ _ q => q, fun _ _ _ q => q, fun _ ps q => ⟨#[], by rw [q]; simp⟩⟩
theorem Un.refl : Un fs ex H H h h := Un.kept fun _ _ q => q
theorem Un.laid (k : ∀ b u, h.get? b = some u → h'.get? b = some u) (hp : h.objs.size ≤ a) (hn : H a = none) : Un fs ex H (upd H a o) h h' where
  keep := fun b u q _ _ _ => k b u q
  slot := fun b u q _ _ _ => ⟨u.slots, k b u q⟩
  free := fun b u q n _ => by rw [upd_ne (Nat.ne_of_lt (Nat.lt_of_lt_of_le (Heap.lt_size q) hp))]; exact n
  there := fun b u q _ => ⟨u, k b u q⟩
  tups := fun b xs q => by rw [upd_ne (ne_of_none q hn)]; exact q
  frzs := fun b u xs q => by rw [upd_ne (ne_of_none q hn)]; exact q
  tbls := fun b ps q => ⟨#[], by rw [upd_ne (ne_of_none q hn), q]; simp⟩
theorem Un.write (mu : Mut (H x)) (he : e = x ∨ H e = some (.own x)) (k : ∀ b u, b ≠ e → h.get? b = some u → h'.get? b = some u) (heo : ∃ u, h'.get? e = some u) : Un fs ex H (upd H x o) h h' := by
  have hx : ∀ b, H b = none → b ≠ x := fun b n z => by subst z; rw [n] at mu; exact mu
  have hb : ∀ b, H b = none → b ≠ e := fun b n z => by
    subst z
    rcases he with r | r
    · exact hx b n r
    · rw [n] at r; cases r
  have hm : ∀ b u, H b = some u → ¬ Mut (some u) → b ≠ x := fun b u q nm z => by subst z; rw [q] at mu; exact nm mu
  refine ⟨fun b u q n _ _ => k b u (hb b n) q, fun b u q n _ _ => ⟨u.slots, k b u (hb b n) q⟩, fun b u q n _ => by rw [upd_ne (hx b n)]; exact n, fun b u q _ => ?_,
    fun b xs q => by rw [upd_ne (hm b _ q fun z => z)]; exact q, fun b u xs q => by rw [upd_ne (hm b _ q fun z => z)]; exact q, fun b ps q => ⟨#[], by rw [upd_ne (hm b _ q fun z => z), q]; simp⟩⟩
  by_cases hbe : b = e
  · subst hbe; exact heo
  · exact ⟨u, k b u hbe q⟩
end
def trk (h : Heap) (H : Hp) : List Addr := (List.range h.objs.size).filter fun a => (H a).isSome
def hidT (h : Heap) (H : Hp) : Heap := PySem.W.hideAll h (trk h H)
theorem hidT_size (h : Heap) (H : Hp) : (hidT h H).objs.size = h.objs.size := PySem.W.hideAll_size _ _
theorem hidT_get {h : Heap} {H : Hp} {b : Addr} {o : Obj} (e : h.get? b = some o) (n : H b = none) : (hidT h H).get? b = some o :=
  PySem.W.hideAll_get _ e fun hm => by
    have q : (H b).isSome = true := (List.mem_filter.mp hm).2
    rw [n] at q; simp at q
theorem of_hidT {h : Heap} {H : Hp} {b : Addr} {o : Obj} (e : (hidT h H).get? b = some o) : h.get? b = some o ∧ H b = none := by
  have e' : h.get? b = some o := PySem.W.of_hideAll (trk h H) e
  refine ⟨e', ?_⟩
  cases q : H b with
  | none => rfl
  | some x =>
    have hm : b ∈ trk h H := List.mem_filter.mpr ⟨List.mem_range.mpr (Heap.lt_size e'), by simp [q]⟩
    have z : (hidT h H).get? b = none := PySem.W.hideAll_none (trk h H) hm
    rw [z] at e; cases e
def allNews (g h : Heap) (L : Addr) : List (Addr × Obj) := (List.range h.objs.size).filterMap fun a => if a = L ∨ (g.get? a).isSome = true then none else (h.get? a).map fun o => (a, o)
def rest (g h : Heap) (L d : Addr) : List (Addr × Obj) := (allNews g h L).filter fun p => decide (p.1 ≠ d)
end L2
namespace L2
open PySem PySem.Spec PyProof.Rows
structure Mod (K : PySem.W.Frag) (mg : Str → Option Value) (base : Heap) : Prop where
  kin : K.In base
  glob : base.Ns mainGlobals mg
  blt : ∃ mb, base.Ns builtinsNs mb ∧ ∀ x : Str, x ≠ "__name__" → mb x = bootBuiltins x
  nolimit : base.NoLimit
structure Cx where
  prog : Program
  w : World
  K : PySem.W.Frag
  mg : Str → Option Value
  base : Heap
  A : Around
  N : List Str
  s₀ : Shared
  H₀ : Hp
  env : Env
  outer : List Env
  stack : List Env
  ex : List Addr
  fn : Str → Bool
  calm : Bool
  pn : List (Addr × Obj)
  xe : Value → Shared → Prop
def frs (l : List Env) : List Addr := l.filterMap (·.frame)
abbrev Cx.fs (X : Cx) : List Addr := frs X.outer
def Vis (sc : Scope) (x : Str) : Prop := sc.names.lookup x = some .local ∨ sc.names.lookup x = some .cell ∨ sc.names.lookup x = some .free
def Loc (sc : Scope) (x : Str) : Prop := sc.names.lookup x = some .local ∨ sc.names.lookup x = some .cell
def Look (env : Env) (h : Heap) (m : Str → Option Value) (x : Str) (u : Value) : Prop :=
  (env.kindOf x = some .local ∧ m x = some u) ∨ ((env.kindOf x = some .cell ∨ env.kindOf x = some .free) ∧ ∃ c, env.cells.lookup x = some c ∧ h.IsCell c (some u))
structure Cx.Ok (X : Cx) : Prop where
  mod : Mod X.K X.mg X.base
  kind : X.env.scope.kind = .function
  glob : X.env.globals = mainGlobals
  blt : X.env.builtins = builtinsNs
  above : X.s₀.heap.objs.size ≤ X.env.locals
  inj : ∀ x y c, X.env.cells.lookup x = some c → X.env.cells.lookup y = some c → x = y
  has : ∀ x, (X.env.kindOf x = some .cell ∨ X.env.kindOf x = some .free) → ∃ c, X.env.cells.lookup x = some c
  cab : ∀ x c, X.fn x = true → X.env.cells.lookup x = some c → X.s₀.heap.objs.size ≤ c
  hd : X.calm = true → X.A.handled = none
  frames : X.A.frames = some X.stack
  stk : X.stack = X.outer ∨ (X.stack = X.env :: X.outer ∧ X.env.frame = some X.env.locals)
  exf : ∀ b ∈ X.ex, b ≠ X.env.locals ∧ ∀ x c, X.env.cells.lookup x = some c → c ≠ b
  bs : ∀ b o, X.base.get? b = some o → X.s₀.heap.get? b = some o ∧ X.H₀ b = none
  bsz : X.base.objs.size ≤ X.s₀.heap.objs.size
  noex : ∀ b o, X.base.get? b = some o → b ∉ X.ex
  exfs : ∀ b ∈ X.ex, b ∉ X.fs
  funs : X.s₀.heap.FunFrames X.base X.outer
  frf : ∀ b ∈ X.fs, X.H₀ b = none
structure Inv (X : Cx) (pins : List (Addr × Obj)) (σ : List (Option V)) (H : Hp) (s : Shared) : Prop where
  ok : X.Ok
  os : s.os = X.s₀.os
  bare : AllBare s.gens
  base : Un X.fs X.ex X.H₀ H X.s₀.heap s.heap
  loc : ∃ m, s.heap.Ns X.env.locals m ∧ ∀ (i : Nat) (x : Str) (v : V), X.N[i]? = some x → σ[i]? = some (some v) → Vis X.env.scope x → ∃ u, RelV v u ∧ Look X.env s.heap m x u
  cell : ∀ x c, X.env.cells.lookup x = some c → ∃ v, s.heap.IsCell c v
  free : H X.env.locals = none
  freeC : ∀ x c, X.env.cells.lookup x = some c → H c = none
  pin : ∀ p ∈ X.pn ++ pins, s.heap.get? p.1 = some p.2 ∧ H p.1 = none ∧ p.1 ≠ X.env.locals ∧ p.1 ∉ X.fs ∧ ∀ v, p.2.data ≠ .cell v
  hok : HOk X.prog X.w H s.heap
  len : σ.length = X.N.length
section
variable {X : Cx} {pins : List (Addr × Obj)} {σ : List (Option V)} {H H' : Hp} {s : Shared} {h' : Heap}
theorem Cx.Ok.nofr (ok : X.Ok) {b : Addr} {o : Obj} (e : X.base.get? b = some o) : b ∉ X.fs := fun hb => by
  have := (ok.funs.mem hb).1
  rw [e] at this; cases this
theorem Inv.bs (I : Inv X pins σ H s) : ∀ b o, X.base.get? b = some o → s.heap.get? b = some o ∧ H b = none := fun b o e =>
  ⟨I.base.keep b o (I.ok.bs b o e).1 (I.ok.bs b o e).2 (I.ok.nofr e) (I.ok.noex b o e), I.base.free b o (I.ok.bs b o e).1 (I.ok.bs b o e).2 (I.ok.noex b o e)⟩
theorem Inv.bk (I : Inv X pins σ H s) : ∀ b o, X.base.get? b = some o → s.heap.get? b = some o := fun b o e => (I.bs b o e).1
theorem Inv.mod (I : Inv X pins σ H s) : Mod X.K X.mg X.base := I.ok.mod
theorem Inv.kIn (I : Inv X pins σ H s) : X.K.In s.heap := I.ok.mod.kin.keeps I.bk
theorem Inv.lt (I : Inv X pins σ H s) : X.env.locals < s.heap.objs.size := let ⟨_, hn, _⟩ := I.loc; hn.lt
theorem Inv.sz (I : Inv X pins σ H s) : X.s₀.heap.objs.size ≤ s.heap.objs.size := Nat.le_trans I.ok.above (Nat.le_of_lt I.lt)
theorem Inv.nofs (I : Inv X pins σ H s) {a : Addr} (h : s.heap.objs.size ≤ a) : a ∉ X.fs := fun hb => by
  obtain ⟨_, o, ho, _⟩ := I.ok.funs.mem hb
  exact absurd (Nat.lt_of_lt_of_le (Heap.lt_size ho) (Nat.le_trans I.sz h)) (Nat.lt_irrefl _)
theorem Inv.cne (I : Inv X pins σ H s) : ∀ x c, X.env.cells.lookup x = some c → c ≠ X.env.locals := fun x c e z => by
  obtain ⟨v, o, ho, hd⟩ := I.cell x c e
  obtain ⟨m, ⟨o', es, ep, ho', hd', _⟩, _⟩ := I.loc
  rw [z, ho'] at ho; cases ho; rw [hd'] at hd; cases hd
theorem Inv.funs (I : Inv X pins σ H s) : s.heap.FunFrames X.base X.outer := by
  have all : ∀ (l : List Env), (∀ b ∈ frs l, b ∈ X.fs) → X.s₀.heap.FunFrames X.base l → s.heap.FunFrames X.base l := by
    intro l
    induction l with
    | nil => intro _ _; trivial
    | cons env r ih =>
      intro hs hl
      obtain ⟨hk, ⟨L, o, hf, hn, ho, hd⟩, hr⟩ := hl
      have hL : L ∈ X.fs := hs L (by unfold frs; rw [List.filterMap_cons, hf]; exact List.mem_cons_self)
      obtain ⟨sl, e⟩ := I.base.slot L o ho (I.ok.frf L hL) hL fun z => I.ok.exfs L z hL
      exact ⟨hk, ⟨L, _, hf, hn, e, hd⟩, ih (fun b hb => hs b (by unfold frs; rw [List.filterMap_cons, hf]; exact List.mem_cons_of_mem _ hb)) hr⟩
  exact all X.outer (fun _ hb => hb) I.ok.funs
theorem Inv.stack (I : Inv X pins σ H s) : s.heap.FunFrames X.base X.stack := by
  rcases I.ok.stk with e | ⟨e, hf⟩
  · rw [e]; exact I.funs
  · rw [e]
    obtain ⟨m, hn, _⟩ := I.loc
    refine .cons (by rw [I.ok.kind]; decide) hf hn ?_ I.funs
    exact Heap.get?_none_of_le (Nat.le_trans I.ok.bsz I.ok.above)
theorem Inv.stkSub (I : Inv X pins σ H s) : ∀ b ∈ frs X.stack, b ∈ X.env.locals :: X.fs := fun b hb => by
  rcases I.ok.stk with e | ⟨e, hf⟩
  · rw [e] at hb; exact List.mem_cons_of_mem _ hb
  · rw [e] at hb
    unfold frs at hb
    rw [List.filterMap_cons, hf] at hb
    exact hb
theorem Inv.stkFree (I : Inv X pins σ H s) : ∀ b ∈ frs X.stack, H b = none := fun b hb => by
  rcases List.mem_cons.mp (I.stkSub b hb) with e | hb
  · rw [e]; exact I.free
  · obtain ⟨_, o, ho, _⟩ := I.ok.funs.mem hb
    exact I.base.free b o ho (I.ok.frf b hb) fun z => I.ok.exfs b z hb
theorem Inv.step {g' : Array GenState} {t' : Nat} {d' : Drawn} {ch : List Addr} (I : Inv X pins σ H s)
    (hch : ∀ b ∈ ch, (b ∈ X.ex ∨ X.s₀.heap.objs.size ≤ b) ∧ b ≠ X.env.locals ∧ (∀ x c, X.env.cells.lookup x = some c → c ≠ b) ∧ ∀ p ∈ X.pn ++ pins, p.1 ≠ b)
    (keep : ∀ b o, b ≠ X.env.locals → b ∉ X.fs → b ∉ ch → s.heap.get? b = some o → H b = none → h'.get? b = some o)
    (slot : ∀ b o, b ≠ X.env.locals → b ∈ X.fs → b ∉ ch → s.heap.get? b = some o → H b = none → ∃ sl, h'.get? b = some { o with slots := sl }) (free : ∀ b o, b ∉ ch → s.heap.get? b = some o → H b = none → H' b = none)
    (there : ∀ b o, b ∉ ch → s.heap.get? b = some o → ∃ o', h'.get? b = some o')
    (tups : ∀ b xs, H b = some (.tup xs) → H' b = some (.tup xs)) (frzs : ∀ b o u, H b = some (.frz o u) → H' b = some (.frz o u)) (tbls : ∀ b ps, H b = some (.tbl ps) → ∃ more, H' b = some (.tbl (ps ++ more)))
    (ns : ∀ m, s.heap.Ns X.env.locals m → h'.Ns X.env.locals m) (hok : HOk X.prog X.w H' h') (hg : AllBare g') :
    Inv X pins σ H' { s with heap := h', gens := g', drawn := d', toks := t' } := by
  have neL : ∀ b o, X.s₀.heap.get? b = some o → b ≠ X.env.locals := fun b o e => Nat.ne_of_lt (Nat.lt_of_lt_of_le (Heap.lt_size e) I.ok.above)
  have neC : ∀ b o, X.s₀.heap.get? b = some o → b ∉ X.ex → b ∉ ch := fun b o e hx hb => by
    rcases (hch b hb).1 with z | z
    · exact hx z
    · exact absurd (Nat.lt_of_lt_of_le (Heap.lt_size e) z) (Nat.lt_irrefl _)
  have cellK : ∀ x c, X.env.cells.lookup x = some c → ∀ v, s.heap.IsCell c v → h'.IsCell c v := fun x c e v ⟨o, ho, hd⟩ => by
    have nch : c ∉ ch := fun z => (hch c z).2.2.1 x c e rfl
    by_cases hc : c ∈ X.fs
    · obtain ⟨sl, q⟩ := slot c o (I.cne x c e) hc nch ho (I.freeC x c e)
      exact ⟨_, q, hd⟩
    · exact ⟨o, keep c o (I.cne x c e) hc nch ho (I.freeC x c e), hd⟩
  refine ⟨I.ok, I.os, hg, ⟨fun b o e n hb hx => ?_, fun b o e n hb hx => ?_, fun b o e n hx => ?_, fun b o e hx => ?_, fun b xs e => tups b xs (I.base.tups b xs e), fun b o xs e => frzs b o xs (I.base.frzs b o xs e), fun b ps e => ?_⟩, ?_, fun x c e => ?_, ?_, fun x c e => ?_, fun p hp => ?_, hok, I.len⟩
  · exact keep b o (neL b o e) hb (neC b o e hx) (I.base.keep b o e n hb hx) (I.base.free b o e n hx)
  · obtain ⟨sl, e1⟩ := I.base.slot b o e n hb hx
    obtain ⟨sl', e2⟩ := slot b _ (neL b o e) hb (neC b o e hx) e1 (I.base.free b o e n hx)
    exact ⟨sl', e2⟩
  · obtain ⟨o', e1⟩ := I.base.there b o e hx
    exact free b o' (neC b o e hx) e1 (I.base.free b o e n hx)
  · obtain ⟨o', e1⟩ := I.base.there b o e hx
    exact there b o' (neC b o e hx) e1
  · obtain ⟨m1, e1⟩ := I.base.tbls b ps e
    obtain ⟨m2, e2⟩ := tbls b _ e1
    exact ⟨m1 ++ m2, by rw [e2, Array.append_assoc]⟩
  · obtain ⟨m, hn, hl⟩ := I.loc
    refine ⟨m, ns m hn, fun i x v e1 e2 e3 => ?_⟩
    obtain ⟨u, r, l⟩ := hl i x v e1 e2 e3
    refine ⟨u, r, ?_⟩
    rcases l with l | ⟨k, c, e, z⟩
    · exact .inl l
    · exact .inr ⟨k, c, e, cellK x c e _ z⟩
  · obtain ⟨v, z⟩ := I.cell x c e
    exact ⟨v, cellK x c e v z⟩
  · obtain ⟨m, ⟨o, _, _, ho, _⟩, _⟩ := I.loc
    exact free _ o (fun z => (hch _ z).2.1 rfl) ho I.free
  · obtain ⟨v, o, ho, hd⟩ := I.cell x c e
    exact free c o (fun z => (hch c z).2.2.1 x c e rfl) ho (I.freeC x c e)
  · obtain ⟨e, n, ne, nf, d⟩ := I.pin p hp
    have nch : p.1 ∉ ch := fun z => (hch p.1 z).2.2.2 p hp rfl
    exact ⟨keep p.1 p.2 ne nf nch e n, free p.1 p.2 nch e n, ne, nf, d⟩
theorem Inv.un {t' : Nat} (I : Inv X pins σ H s) (u : Un X.fs [] H H' s.heap h') (hok : HOk X.prog X.w H' h') : Inv X pins σ H' { s with heap := h', toks := t' } := by
  obtain ⟨m, ⟨o, es, ep, ho, r⟩, _⟩ := id I.loc
  obtain ⟨sl, hL⟩ := u.any ho I.free (by simp)
  exact I.step (g' := s.gens) (d' := s.drawn) (ch := []) (fun _ z => nomatch z) (fun b o _ hb _ e n => u.keep b o e n hb (by simp)) (fun b o _ hb _ e n => u.slot b o e n hb (by simp)) (fun b o _ e n => u.free b o e n (by simp)) (fun b o _ e => u.there b o e (by simp)) u.tups u.frzs u.tbls (fun m' hm => by
    obtain ⟨o', es', ep', ho', r'⟩ := hm
    rw [ho] at ho'; cases ho'
    exact ⟨_, es', ep', hL, r'⟩) hok I.bare
theorem Inv.call {g' : Array GenState} {t' : Nat} {d' : Drawn} {ch : List Addr} (I : Inv X pins σ H s) (u : Un (frs X.stack) ch H H' s.heap h') (hok : HOk X.prog X.w H' h') (hg : AllBare g')
    (hch : ∀ b ∈ ch, (b ∈ X.ex ∨ X.s₀.heap.objs.size ≤ b) ∧ b ≠ X.env.locals ∧ (∀ x c, X.env.cells.lookup x = some c → c ≠ b) ∧ ∀ p ∈ X.pn ++ pins, p.1 ≠ b) :
    Inv X pins σ H' { s with heap := h', gens := g', drawn := d', toks := t' } := by
  obtain ⟨m, ⟨o, es, ep, ho, r⟩, _⟩ := id I.loc
  obtain ⟨sl, hL⟩ := u.any ho I.free fun z => (hch _ z).2.1 rfl
  exact I.step (ch := ch) hch (fun b o hL hb hc e n => u.keep b o e n (fun z => (List.mem_cons.mp (I.stkSub b z)).elim hL hb) hc) (fun b o _ _ hc e n => u.any e n hc) (fun b o hc e n => u.free b o e n hc) (fun b o hc e => u.there b o e hc) u.tups u.frzs u.tbls (fun m' hm => by
    obtain ⟨o', es', ep', ho', r'⟩ := hm
    rw [ho] at ho'; cases ho'
    exact ⟨_, es', ep', hL, r'⟩) hok hg
theorem Inv.turned {t' : Nat} {it : Addr} (I : Inv X pins σ H s) (k : ∀ b o, b ≠ it → s.heap.get? b = some o → h'.get? b = some o) (hn : H it = none) (hL : it ≠ X.env.locals)
    (h1 : it ∈ X.ex ∨ X.s₀.heap.objs.size ≤ it) (h2 : ∀ x c, X.env.cells.lookup x = some c → c ≠ it) (h3 : ∀ p ∈ X.pn ++ pins, p.1 ≠ it) : Inv X pins σ H { s with heap := h', toks := t' } := by
  have nit : ∀ b u, H b = some u → b ≠ it := fun b u e z => by rw [z, hn] at e; cases e
  refine I.step (g' := s.gens) (d' := s.drawn) (ch := [it]) (fun b hb => ?_) (fun b o _ _ hc e _ => k b o (fun z => hc (by simp [z])) e) (fun b o _ _ hc e _ => ⟨o.slots, k b o (fun z => hc (by simp [z])) e⟩) (fun _ _ _ _ n => n)
    (fun b o hc e => ⟨o, k b o (fun z => hc (by simp [z])) e⟩) (fun _ _ e => e) (fun _ _ _ e => e) (fun b ps e => ⟨#[], by rw [e]; simp⟩) (fun m hm => ?_) (fun b u e => ?_) I.bare
  · have e : b = it := by simpa using hb
    subst e
    exact ⟨h1, hL, h2, h3⟩
  · obtain ⟨o, es, ep, ho, r⟩ := hm
    exact ⟨o, es, ep, k _ o (Ne.symm hL) ho, r⟩
  · refine (I.hok b u e).stay (fun c v hc q => k c v ?_ q) (fun _ q => q) fun _ _ q => q
    rcases hc with z | z
    · rw [z]; exact nit b u e
    · exact nit c _ z
theorem Inv.tok (I : Inv X pins σ H s) (t : Nat) : Inv X pins σ H { s with toks := t } := I.un (h' := s.heap) (t' := t) Un.refl I.hok
theorem Inv.kept {t' : Nat} (I : Inv X pins σ H s) (k : ∀ b u, s.heap.get? b = some u → h'.get? b = some u) : Inv X pins σ H { s with heap := h', toks := t' } := I.un (Un.kept k) (I.hok.kept k)
theorem Inv.laid {a : Addr} {o : HO} {t' : Nat} (I : Inv X pins σ H s) (k : ∀ b u, s.heap.get? b = some u → h'.get? b = some u) (hp : s.heap.objs.size ≤ a) (new : ObjOk X.prog X.w (upd H a o) h' a o) :
    Inv X pins σ (upd H a o) { s with heap := h', toks := t' } := I.un (Un.laid k hp (I.hok.fresh hp)) (I.hok.laid k hp new)
theorem Inv.write {x e : Addr} {o : HO} {t' : Nat} (I : Inv X pins σ H s) (mu : Mut (H x)) (he : e = x ∨ H e = some (.own x)) (k : ∀ b u, b ≠ e → s.heap.get? b = some u → h'.get? b = some u) (heo : ∃ u, h'.get? e = some u)
    (new : ObjOk X.prog X.w (upd H x o) h' x o) : Inv X pins σ (upd H x o) { s with heap := h', toks := t' } := I.un (Un.write mu he k heo) (I.hok.write mu he k heo new)
theorem Inv.weak {σ' : List (Option V)} (I : Inv X pins σ H s) (hl : σ'.length = σ.length) (w : ∀ (i : Nat) v, σ'[i]? = some (some v) → σ[i]? = some (some v)) : Inv X pins σ' H s :=
  ⟨I.ok, I.os, I.bare, I.base, let ⟨m, hn, hl'⟩ := I.loc; ⟨m, hn, fun i x v e1 e2 e3 => hl' i x v e1 (w i v e2) e3⟩, I.cell, I.free, I.freeC, I.pin, I.hok, hl.trans I.len⟩
theorem Inv.pins_of {pins' : List (Addr × Obj)} (I : Inv X pins σ H s) (h : ∀ p ∈ pins', s.heap.get? p.1 = some p.2 ∧ H p.1 = none ∧ p.1 ≠ X.env.locals ∧ p.1 ∉ X.fs ∧ ∀ v, p.2.data ≠ .cell v) : Inv X pins' σ H s :=
  ⟨I.ok, I.os, I.bare, I.base, I.loc, I.cell, I.free, I.freeC, fun p hp => (List.mem_append.mp hp).elim (fun z => I.pin p (List.mem_append_left _ z)) (h p), I.hok, I.len⟩
theorem nodup_ix {N : List Str} (hN : N.Nodup) {i j : Nat} {x : Str} (a : N[i]? = some x) (b : N[j]? = some x) : i = j := by
  obtain ⟨h1, e1⟩ := List.getElem?_eq_some_iff.mp a
  obtain ⟨h2, e2⟩ := List.getElem?_eq_some_iff.mp b
  exact (List.getElem_inj hN).mp (e1.trans e2.symm)
theorem store_ok2 {M : Model} {A : Around} {E : Value → Shared → Prop} {i : Nat} {x : Str} {v : V} {u : Value} {Q : Unit → Shared → Prop} (I : Inv X pins σ H s) (hN : X.N.Nodup) (hi : X.N[i]? = some x) (hx : Loc X.env.scope x) (r : RelV v u)
    (h : ∀ s', Inv X pins (σ.set i (some v)) H s' → (∃ a, Heap.SameBut a s.heap s'.heap ∧ (a = X.env.locals ∨ X.env.cells.lookup x = some a)) → Q () s') (hf : X.fn x = true ∨ X.env.scope.names.lookup x = some .local := by first | exact .inl rfl | exact .inr rfl | assumption) : wpAny M A (storeName X.env x u) Q E s := by
  obtain ⟨m, hn, hl⟩ := id I.loc
  have hcls : (X.env.scope.kind == .class || (X.env.scope.kind == .module && X.env.locals != X.env.globals)) = false := by rw [I.ok.kind]; rfl
  have hiσ : i < σ.length := by rw [I.len]; exact (List.getElem?_eq_some_iff.mp hi).1
  have cne := I.cne
  have tracked : ∀ {a : Addr} {h' : Heap}, (∃ o, s.heap.get? a = some o ∧ H a = none) → Heap.SameBut a s.heap h' → HOk X.prog X.w H h' := fun {a h'} ha hs b ob e => by
    obtain ⟨_, _, hfree⟩ := ha
    refine (I.hok b ob e).stay (fun c w' hc q => (hs.2 c ?_).trans q) (fun _ q => q) fun _ _ q => q
    rintro rfl
    rcases hc with rfl | hc
    · rw [hfree] at e; cases e
    · rw [hfree] at hc; cases hc
  rcases hx with hk | hk
  · refine wpAny_storeName_local hk hn (fun h' hn' hs => ?_) hcls
    obtain ⟨oL, _, _, hoL, _⟩ := id hn
    refine h _ ⟨I.ok, I.os, I.bare, ⟨fun b o e n hb hx => ?_, fun b o e n hb hx => ?_, I.base.free, fun b o e hx => ?_, I.base.tups, I.base.frzs, I.base.tbls⟩, ⟨_, hn', fun j y v' e1 e2 e3 => ?_⟩, fun y c e => ?_, I.free, I.freeC, fun p hp => ?_, tracked ⟨oL, hoL, I.free⟩ hs, by simpa using I.len⟩ ⟨_, hs, .inl rfl⟩
    · exact (hs.2 b (Nat.ne_of_lt (Nat.lt_of_lt_of_le (Heap.lt_size e) I.ok.above))).trans (I.base.keep b o e n hb hx)
    · obtain ⟨sl, e1⟩ := I.base.slot b o e n hb hx
      exact ⟨sl, (hs.2 b (Nat.ne_of_lt (Nat.lt_of_lt_of_le (Heap.lt_size e) I.ok.above))).trans e1⟩
    · obtain ⟨o', e1⟩ := I.base.there b o e hx
      exact ⟨o', (hs.2 b (Nat.ne_of_lt (Nat.lt_of_lt_of_le (Heap.lt_size e) I.ok.above))).trans e1⟩
    · by_cases hj : j = i
      · subst hj
        rw [hi] at e1; cases e1
        rw [List.getElem?_set_self hiσ] at e2
        cases e2
        exact ⟨u, r, .inl ⟨hk, by simp⟩⟩
      · rw [List.getElem?_set_ne (Ne.symm hj)] at e2
        obtain ⟨u', r', q⟩ := hl j y v' e1 e2 e3
        refine ⟨u', r', ?_⟩
        rcases q with ⟨k, e⟩ | ⟨k, c, e, z⟩
        · refine .inl ⟨k, ?_⟩
          have : y ≠ x := fun e => hj (nodup_ix hN e1 (e ▸ hi))
          simp [this, e]
        · exact .inr ⟨k, c, e, z.sameBut hs (cne y c e)⟩
    · obtain ⟨w', z⟩ := I.cell y c e
      exact ⟨w', z.sameBut hs (cne y c e)⟩
    · obtain ⟨e, n, ne, nf, d⟩ := I.pin p hp
      exact ⟨(hs.2 p.1 ne).trans e, n, ne, nf, d⟩
  · have hfn : X.fn x = true := by
      rcases hf with z | z
      · exact z
      · rw [z] at hk; cases hk
    obtain ⟨c, hc⟩ := I.ok.has x (.inl hk)
    obtain ⟨w', z⟩ := I.cell x c hc
    refine wpAny_storeName_cell I.ok.kind hk hc z (fun h' hc' hs => ?_)
    obtain ⟨oc, hoc, hocd⟩ := id z
    refine h { s with heap := h' } ⟨I.ok, I.os, I.bare, ⟨fun b o e n hb hx => ?_, fun b o e n hb hx => ?_, I.base.free, fun b o e hx => ?_, I.base.tups, I.base.frzs, I.base.tbls⟩, ⟨m, hn.sameBut hs (Ne.symm (cne x c hc)), fun j y v' e1 e2 e3 => ?_⟩, fun y c' e => ?_, I.free, I.freeC, fun p hp => ?_, tracked ⟨oc, hoc, I.freeC x c hc⟩ hs, by simpa using I.len⟩ ⟨c, hs, .inr hc⟩
    · exact (hs.2 b (Nat.ne_of_lt (Nat.lt_of_lt_of_le (Heap.lt_size e) (I.ok.cab x c hfn hc)))).trans (I.base.keep b o e n hb hx)
    · obtain ⟨sl, e1⟩ := I.base.slot b o e n hb hx
      exact ⟨sl, (hs.2 b (Nat.ne_of_lt (Nat.lt_of_lt_of_le (Heap.lt_size e) (I.ok.cab x c hfn hc)))).trans e1⟩
    · obtain ⟨o', e1⟩ := I.base.there b o e hx
      exact ⟨o', (hs.2 b (Nat.ne_of_lt (Nat.lt_of_lt_of_le (Heap.lt_size e) (I.ok.cab x c hfn hc)))).trans e1⟩
    · by_cases hj : j = i
      · subst hj
        rw [hi] at e1; cases e1
        rw [List.getElem?_set_self hiσ] at e2
        cases e2
        exact ⟨u, r, .inr ⟨.inl hk, c, hc, hc'⟩⟩
      · rw [List.getElem?_set_ne (Ne.symm hj)] at e2
        obtain ⟨u', r', q⟩ := hl j y v' e1 e2 e3
        refine ⟨u', r', ?_⟩
        rcases q with q | ⟨k, c', e, z'⟩
        · exact .inl q
        · refine .inr ⟨k, c', e, z'.sameBut hs ?_⟩
          rintro rfl
          exact hj (nodup_ix hN e1 (I.ok.inj _ _ _ e hc ▸ hi))
    · by_cases hcc : c' = c
      · subst hcc; exact ⟨_, hc'⟩
      · obtain ⟨w2, z2⟩ := I.cell y c' e
        exact ⟨w2, z2.sameBut hs hcc⟩
    · obtain ⟨e, n, ne, nf, d⟩ := I.pin p hp
      refine ⟨(hs.2 p.1 ?_).trans e, n, ne, nf, d⟩
      intro q
      rw [q, hoc] at e
      have q' : oc = p.2 := Option.some.inj e
      exact d w' (by rw [← q']; exact hocd)
theorem store_ok {M : Model} {A : Around} {E : Value → Shared → Prop} {i : Nat} {x : Str} {v : V} {u : Value} {Q : Unit → Shared → Prop} (I : Inv X pins σ H s) (hN : X.N.Nodup) (hi : X.N[i]? = some x) (hx : Loc X.env.scope x) (r : RelV v u)
    (h : ∀ s', Inv X pins (σ.set i (some v)) H s' → Q () s') (hf : X.fn x = true ∨ X.env.scope.names.lookup x = some .local := by first | exact .inl rfl | exact .inr rfl | assumption) : wpAny M A (storeName X.env x u) Q E s :=
  store_ok2 I hN hi hx r (fun s' I' _ => h s' I') hf
theorem Inv.call' {s' : Shared} {ch : List Addr} (I : Inv X pins σ H s) (ho : s'.os = s.os) (u : Un (frs X.stack) ch H H' s.heap s'.heap) (hok : HOk X.prog X.w H' s'.heap) (hg : AllBare s'.gens)
    (hch : ∀ b ∈ ch, (b ∈ X.ex ∨ X.s₀.heap.objs.size ≤ b) ∧ b ≠ X.env.locals ∧ (∀ x c, X.env.cells.lookup x = some c → c ≠ b) ∧ ∀ p ∈ X.pn ++ pins, p.1 ≠ b) : Inv X pins σ H' s' := by
  obtain ⟨h', g', d', t', o'⟩ := s'
  have e : o' = s.os := ho
  subst e
  exact I.call (g' := g') (t' := t') (d' := d') u hok hg hch
end
abbrev XK := Value → Option Addr → Hp → Prop
abbrev St := List (Option V)
abbrev VK := V → Hp → Prop
abbrev TE := St → Hp → VK → Prop
abbrev TT := St → Hp → (Bool → Hp → Prop) → Prop
abbrev TA := St → Hp → (List V → Hp → Prop) → Prop
structure Ends where
  nx : St → Hp → Prop
  rt : VK
  bk : St → Hp → Prop := fun _ _ => False
  ct : St → Hp → Prop := fun _ _ => False
abbrev TS := Ends → St → Hp → Prop
def EP (X : Cx) (pins : List (Addr × Obj)) (σ : St) (Q : VK) (u : Value) (s' : Shared) : Prop := ∃ v H', Inv X pins σ H' s' ∧ RelV v u ∧ Q v H'
def TP (X : Cx) (pins : List (Addr × Obj)) (σ : St) (Q : Bool → Hp → Prop) (b : Bool) (s' : Shared) : Prop := ∃ H', Inv X pins σ H' s' ∧ Q b H'
def AP (X : Cx) (pins : List (Addr × Obj)) (σ : St) (Q : List V → Hp → Prop) (us : List Value) (s' : Shared) : Prop := ∃ vs H', Inv X pins σ H' s' ∧ Vals vs us ∧ Q vs H'
def SP (X : Cx) (pins : List (Addr × Obj)) (D : Ends) (f : Flow) (s' : Shared) : Prop :=
  match f with
  | .next => ∃ σ' H', Inv X pins σ' H' s' ∧ D.nx σ' H'
  | .brk => ∃ σ' H', Inv X pins σ' H' s' ∧ D.bk σ' H'
  | .cont => ∃ σ' H', Inv X pins σ' H' s' ∧ D.ct σ' H'
  | .ret u => ∃ v σ' H', Inv X pins σ' H' s' ∧ RelV v u ∧ D.rt v H'
def PE (X : Cx) (e : Expr) (t : TE) : Prop :=
  ∀ (pins : List (Addr × Obj)) (s : Shared) (σ : St) (H : Hp) (Q : VK), Inv X pins σ H s → t σ H Q → wpAny (model X.prog X.w) X.A (eval e X.env) (EP X pins σ Q) X.xe s
def PT (X : Cx) (e : Expr) (t : TT) : Prop :=
  ∀ (pins : List (Addr × Obj)) (s : Shared) (σ : St) (H : Hp) (Q : Bool → Hp → Prop), Inv X pins σ H s → t σ H Q → wpAny (model X.prog X.w) X.A (isTrue e X.env (eval e X.env)) (TP X pins σ Q) X.xe s
def PW (X : Cx) (e : Expr) (t : TT) : Prop :=
  ∀ (whole : Sem Value) (pins : List (Addr × Obj)) (s : Shared) (σ : St) (H : Hp) (Q : Bool → Hp → Prop), Inv X pins σ H s → t σ H Q → wpAny (model X.prog X.w) X.A (isTrue e X.env whole) (TP X pins σ Q) X.xe s
theorem PW.pt {X : Cx} {e : Expr} {t : TT} (h : PW X e t) : PT X e t := h _
def PA (X : Cx) (es : List Expr) (t : TA) : Prop :=
  ∀ (pos : Pos) (pins : List (Addr × Obj)) (s : Shared) (σ : St) (H : Hp) (Q : List V → Hp → Prop), Inv X pins σ H s → t σ H Q → wpAny (model X.prog X.w) X.A (spliced (backTo pos (starEach es X.env))) (AP X pins σ Q) X.xe s
def PS (X : Cx) (st : Stmt) (t : TS) : Prop :=
  ∀ (pins : List (Addr × Obj)) (s : Shared) (σ : St) (H : Hp) (D : Ends), Inv X pins σ H s → t D σ H → wpAny (model X.prog X.w) X.A (exec st X.env) (SP X pins D) X.xe s
def PSs (X : Cx) (st : List Stmt) (t : TS) : Prop :=
  ∀ (pins : List (Addr × Obj)) (s : Shared) (σ : St) (H : Hp) (D : Ends), Inv X pins σ H s → t D σ H → wpAny (model X.prog X.w) X.A (execs st X.env) (SP X pins D) X.xe s
theorem thn {α : Type} {t : Sem α} {Q Q' : α → Shared → Prop} {M : Model} {A : Around} {E : Value → Shared → Prop} {s : Shared} (h : wpAny M A t Q E s) (hQ : ∀ a s, Q a s → Q' a s) : wpAny M A t Q' E s := wpAny_mono h hQ fun _ _ x => x
end L2
namespace L2
open PySem PySem.Spec PyProof.Rows
section
variable {X : Cx}
def tVar (i : Nat) : TE := fun σ H Q => ∃ v, σ[i]? = some (some v) ∧ Q v H
def tC (v : V) : TE := fun _ H Q => Q v H
theorem pe_var {i : Nat} {x : Str} {pos : Pos} (hN : X.N[i]? = some x) (hv : Vis X.env.scope x) (hd : (x == ("__debug__" : Str)) = false := by decide) (hcd : (x == ("__classdict__" : Str)) = false := by decide) : PE X (.Name x pos) (tVar i) := by
  intro pins s σ H Q I h
  obtain ⟨v, e, h⟩ := h
  obtain ⟨m, hn, hl⟩ := I.loc
  obtain ⟨u, r, l⟩ := hl i x v hN e hv
  have fin : EP X pins σ Q u s := ⟨v, H, I, r, h⟩
  rcases l with ⟨hk, hm⟩ | ⟨hk, c, hc, hcell⟩
  · exact wpAny_Name (wpAny_loadName_local I.ok.kind hk hn hm fin) hd
  · rcases hk with hk | hk
    · exact wpAny_Name (wpAny_loadName_cell I.ok.kind hk hc hcell fin) hd
    · exact wpAny_Name (wpAny_loadName_free I.ok.kind hk hc hcell fin hcd) hd
theorem pe_int {i j pos} : PE X (.Constant (.int i) j pos) (tC (.int i)) := fun _ _ _ H _ I h => wpAny_Constant_int ⟨.int i, H, I.tok _, ⟨_, rfl⟩, h⟩
theorem pe_bl {b j pos} : PE X (.Constant (.bool b) j pos) (tC (.bl b)) := fun _ _ _ H _ I h => Constant_bool ⟨.bl b, H, I, rfl, h⟩
theorem pe_non {j pos} : PE X (.Constant .none j pos) (tC .non) := fun _ _ _ H _ I h => Constant_none ⟨.non, H, I, rfl, h⟩
theorem pe_str {x j pos} : PE X (.Constant (.str x) j pos) (tC (.str x)) := fun _ _ _ H _ I h => Calls.Constant_str ⟨.str x, H, I.tok _, ⟨_, rfl⟩, h⟩
def Gl (X : Cx) (x : Str) : Prop := X.env.kindOf x = some .globalImplicit
theorem ld_glob {E : Value → Shared → Prop} {pins : List (Addr × Obj)} {s : Shared} {σ : St} {H : Hp} {x : Str} {u : Value} {pos : Pos} {Q : Value → Shared → Prop} (I : Inv X pins σ H s) (hg : Gl X x) (hm : X.mg x = some u) (h : Q u s)
    (hd : (x == ("__debug__" : Str)) = false := by decide) : wpAny (model X.prog X.w) X.A (eval (.Name x pos) X.env) Q E s :=
  Calls.Name_function_global I.ok.kind hg (Calls.loadGlobal_global (by rw [I.ok.glob]; exact I.mod.glob.keeps I.bk) hm h) hd
theorem ld_blt {E : Value → Shared → Prop} {pins : List (Addr × Obj)} {s : Shared} {σ : St} {H : Hp} {x : Str} {u : Value} {pos : Pos} {Q : Value → Shared → Prop} (I : Inv X pins σ H s) (hg : Gl X x) (hm : X.mg x = none) (hv : bootBuiltins x = some u) (h : Q u s)
    (hn : x ≠ "__name__" := by decide) (hd : (x == ("__debug__" : Str)) = false := by decide) : wpAny (model X.prog X.w) X.A (eval (.Name x pos) X.env) Q E s := by
  obtain ⟨mb, h1, h2⟩ := I.mod.blt
  exact Calls.Name_function_global I.ok.kind hg (Calls.loadGlobal_builtin (by rw [I.ok.glob]; exact I.mod.glob.keeps I.bk) hm (by rw [I.ok.blt]; exact h1.keeps I.bk) ((h2 x hn).trans hv) h) hd
theorem pe_glob {x : Str} {v : V} {u : Value} {pos : Pos} (hg : Gl X x) (hm : X.mg x = some u) (r : RelV v u) (hd : (x == ("__debug__" : Str)) = false := by decide) : PE X (.Name x pos) (tC v) :=
  fun _ _ _ H _ I h => ld_glob I hg hm ⟨v, H, I, r, h⟩ hd
theorem pe_bltn {x : Str} {v : V} {u : Value} {pos : Pos} (hg : Gl X x) (hm : X.mg x = none) (hv : bootBuiltins x = some u) (r : RelV v u) (hn : x ≠ "__name__" := by decide) (hd : (x == ("__debug__" : Str)) = false := by decide) : PE X (.Name x pos) (tC v) :=
  fun _ _ _ H _ I h => ld_blt I hg hm hv ⟨v, H, I, r, h⟩ hn hd
variable {a b : Expr} {ta tb : TE} {pos : Pos}
def PC (X : Cx) (op : CmpOp) (a b : Expr) (t : TE) : Prop :=
  ∀ (pins : List (Addr × Obj)) (s : Shared) (σ : St) (H : Hp) (Q : VK), Inv X pins σ H s → t σ H Q →
    wpAny (model X.prog X.w) X.A (eval a X.env) (fun v s₁ => wpAny (model X.prog X.w) X.A (eval b X.env) (fun u s₂ => wpAny (model X.prog X.w) X.A (compareOp op v u) (EP X pins σ Q) X.xe s₂) X.xe s₁) X.xe s
def tB (t : TE) : TT := fun σ H Q => t σ H fun x H1 => ∃ c, x = .bl c ∧ Q c H1
theorem pt_cmp {op : CmpOp} {t : TE} (h : PC X op a b t) (h1 : behindInMarks op b = false := by first | exact nobehind _ (by decide) (by decide) | rfl) : PT X (.Compare a [op] [b] pos) (tB t) := by
  intro pins s σ H Q I hw
  refine wpAny_isTrue_Compare1 (thn (h pins s σ H _ I hw) fun v s1 h1 => thn h1 fun u s2 h2 => thn h2 fun c s3 ⟨x, H1, I1, r1, q1⟩ => ?_) h1
  obtain ⟨d, rfl, q⟩ := q1
  cases r1
  exact wpAny_truthy_bool ⟨H1, I1, q⟩
theorem pt_val {e : Expr} {t : TE} (h : PE X e t) (he : ∀ whole, isTrue e X.env whole = (do let v ← whole; standAt e.pos; holding [v] (truthy v)) := by intro _; rfl) : PT X e (tB t) := by
  intro pins s σ H Q I hw
  refine isTrue_plain (thn (h pins s σ H _ I hw) fun v s1 ⟨x, H1, I1, r1, q1⟩ => ?_) (he _)
  obtain ⟨d, rfl, q⟩ := q1
  cases r1
  exact wpAny_truthy_bool ⟨H1, I1, q⟩
variable {tA tB' : TT} {rest : List Expr}
def tAnd (t u : TT) : TT := fun σ H Q => t σ H fun c H1 => if c = true then u σ H1 Q else Q false H1
def tOr (t u : TT) : TT := fun σ H Q => t σ H fun c H1 => if c = true then Q true H1 else u σ H1 Q
def tNot (t : TT) : TT := fun σ H Q => t σ H fun c H1 => Q (!c) H1
theorem pw_and1 (ha : PT X a tA) : PW X (.BoolOp .And [a] pos) tA := by
  intro wh pins s σ H Q I h
  refine isTrue_and (thn (ha pins s σ H Q I h) fun c s1 e => ?_)
  cases c with
  | true => exact isTrue_and_nil e
  | false => exact e
theorem pw_or1 (ha : PT X a tA) : PW X (.BoolOp .Or [a] pos) tA := by
  intro wh pins s σ H Q I h
  refine isTrue_or (thn (ha pins s σ H Q I h) fun c s1 e => ?_)
  cases c with
  | false => exact isTrue_or_nil e
  | true => exact e
theorem pw_and (ha : PT X a tA) (hb : PW X (.BoolOp .And (b :: rest) pos) tB') : PW X (.BoolOp .And (a :: b :: rest) pos) (tAnd tA tB') := by
  intro wh pins s σ H Q I h
  refine isTrue_and (thn (ha pins s σ H _ I h) fun c s1 ⟨H1, I1, q1⟩ => ?_)
  cases c with
  | true => exact hb wh pins s1 σ H1 Q I1 q1
  | false => exact ⟨H1, I1, q1⟩
theorem pw_or (ha : PT X a tA) (hb : PW X (.BoolOp .Or (b :: rest) pos) tB') : PW X (.BoolOp .Or (a :: b :: rest) pos) (tOr tA tB') := by
  intro wh pins s σ H Q I h
  refine isTrue_or (thn (ha pins s σ H _ I h) fun c s1 ⟨H1, I1, q1⟩ => ?_)
  cases c with
  | true => exact ⟨H1, I1, q1⟩
  | false => exact hb wh pins s1 σ H1 Q I1 q1
theorem pt_not (ha : PT X a tA) : PT X (.UnaryOp .Not a pos) (tNot tA) := by
  intro pins s σ H Q I h
  exact isTrue_not (ha pins s σ H (fun c H1 => Q (!c) H1) I h)
def tAndV (ta tb : TE) : TE := fun σ H Q => ta σ H fun x H1 => ∃ c, x = .bl c ∧ if c = true then tb σ H1 Q else Q (.bl false) H1
theorem pe_one {op} {t : TE} (h : PE X a t) : PE X (.BoolOp op [a] pos) t := fun pins s σ H Q I hw => BoolOp_one (h pins s σ H Q I hw)
theorem pe_and (ha : PE X a ta) (hb : PE X (.BoolOp .And (b :: rest) pos) tb) : PE X (.BoolOp .And (a :: b :: rest) pos) (tAndV ta tb) := by
  intro pins s σ H Q I h
  refine BoolOp_and (thn (ha pins s σ H _ I h) fun v s1 ⟨x, H1, I1, r1, q1⟩ => ?_)
  obtain ⟨c, rfl, q1⟩ := q1
  cases r1
  refine wpAny_truthy_bool ?_
  cases c with
  | true => exact hb pins s1 σ H1 Q I1 q1
  | false => exact ⟨.bl false, H1, I1, rfl, q1⟩
def tIf (t : TT) (ta tb : TE) : TE := fun σ H Q => t σ H fun c H1 => if c = true then ta σ H1 Q else tb σ H1 Q
theorem pe_ifExp {c : Expr} (hc : PT X c tA) (ha : PE X a ta) (hb : PE X b tb) : PE X (.IfExp c a b pos) (tIf tA ta tb) := by
  intro pins s σ H Q I h
  refine wpAny_IfExp (thn (hc pins s σ H _ I h) fun d s1 ⟨H1, I1, q1⟩ => ?_)
  cases d with
  | true => exact ha pins s1 σ H1 Q I1 q1
  | false => exact hb pins s1 σ H1 Q I1 q1
end
end L2
namespace L2
open PySem PySem.Spec PyProof.Rows
def SqL (K : PySem.W.Frag) (H : Hp) (a : Addr) (xs : List V) : Prop :=
  Rd H a (.lst xs) ∨
    ∃ (o : Obj) (its : Array Value) (n : Nat), K.lookup a = some o ∧ o.cls = .type "list" ∧ o.dict = none ∧ o.data = .seq its n ∧ its.size ≤ sizeLine ∧ Vals xs its.toList
def SqT (K : PySem.W.Frag) (H : Hp) (a : Addr) (xs : List V) : Prop :=
  Rd H a (.tup xs) ∨
    ∃ (o : Obj) (its : Array Value) (n : Nat), K.lookup a = some o ∧ o.cls = .type "tuple" ∧ o.data = .seq its n ∧ its.size ≤ sizeLine ∧ Vals xs its.toList
def absV : Value → Option V
  | .none => some .non
  | .bool b => some (.bl b)
  | .int i _ => some (.int i)
  | .str x _ => some (.str x)
  | .bytes b _ => some (.byt b)
  | .float b _ => some (.flt b)
  | .ref a => some (.ref a)
  | .type n => some (.ty n)
  | _ => none
theorem RelV.abs {x : V} {u : Value} (r : RelV x u) : absV u = some x := by
  cases x with
  | non => cases r; rfl
  | bl _ => cases r; rfl
  | int _ => obtain ⟨t, rfl⟩ := r; rfl
  | str _ => obtain ⟨t, rfl⟩ := r; rfl
  | byt _ => obtain ⟨t, rfl⟩ := r; rfl
  | flt _ => obtain ⟨t, rfl⟩ := r; rfl
  | ref _ => cases r; rfl
  | ty _ => cases r; rfl
theorem RelV.inj {x y : V} {u : Value} (r : RelV x u) (q : RelV y u) : x = y := Option.some.inj (r.abs.symm.trans q.abs)
theorem Vals.inj : ∀ {xs ys : List V} {us : List Value}, Vals xs us → Vals ys us → xs = ys
  | _, _, _, .nil, .nil => rfl
  | _, _, _, .cons r t, .cons r' t' => by rw [r.inj r', Vals.inj t t']
section
variable {X : Cx} {pins : List (Addr × Obj)} {σ : St} {H : Hp} {s : Shared} {a : Addr} {xs ys : List V}
theorem SqL.of {K : PySem.W.Frag} (h : H a = some (.lst xs)) : SqL K H a xs := .inl (.inl h)
theorem SqT.of {K : PySem.W.Frag} (h : H a = some (.tup xs)) : SqT K H a xs := .inl (.inl h)
theorem Inv.list (I : Inv X pins σ H s) (h : SqL X.K H a xs) : ∃ its : List Value, Vals xs its ∧ PlainL s.heap a its.toArray ∧ xs.length ≤ sizeLine := by
  rcases h with h | ⟨o, its, n, hk, hc, hd, hs, hz, r⟩
  · obtain ⟨z, its, n, r, e⟩ := h.ok I.hok
    exact ⟨its, r, ⟨_, n, e, rfl, rfl, rfl⟩, z⟩
  · refine ⟨its.toList, r, ⟨o, n, I.kIn a o hk, hc, hd, by simpa using hs⟩, ?_⟩
    have e := r.length
    simp only [Array.length_toList] at e
    omega
theorem Inv.tuple (I : Inv X pins σ H s) (h : SqT X.K H a xs) : ∃ its : List Value, Vals xs its ∧ IsTup s.heap a its.toArray ∧ xs.length ≤ sizeLine := by
  rcases h with h | ⟨o, its, n, hk, hc, hs, hz, r⟩
  · obtain ⟨z, its, r, p⟩ := h.ok I.hok
    exact ⟨its, r, p, z⟩
  · refine ⟨its.toList, r, ⟨o, I.kIn a o hk, hc, n, by simpa using hs⟩, ?_⟩
    have e := r.length
    simp only [Array.length_toList] at e
    omega
theorem Inv.list_inj (I : Inv X pins σ H s) (h : SqL X.K H a xs) (h' : SqL X.K H a ys) : xs = ys := by
  obtain ⟨its, r, ⟨o, n, e, _, _, d⟩, _⟩ := I.list h
  obtain ⟨its', r', ⟨o', n', e', _, _, d'⟩, _⟩ := I.list h'
  rw [e] at e'; cases e'
  rw [d] at d'
  injection d' with d1 _
  have : its = its' := by simpa using congrArg Array.toList d1
  subst this
  exact r.inj r'
end
abbrev Cx.wish (X : Cx) (E : Value → Shared → Prop) : Cx := { X with xe := E }
abbrev Cx.nox (X : Cx) : Cx := X.wish fun _ _ => False
theorem Cx.Ok.wish {X : Cx} (ok : X.Ok) (E : Value → Shared → Prop) : (X.wish E).Ok :=
  ⟨ok.mod, ok.kind, ok.glob, ok.blt, ok.above, ok.inj, ok.has, ok.cab, ok.hd, ok.frames, ok.stk, ok.exf, ok.bs, ok.bsz, ok.noex, ok.exfs, ok.funs, ok.frf⟩
theorem Cx.Ok.unwish {X : Cx} {E : Value → Shared → Prop} (ok : (X.wish E).Ok) : X.Ok :=
  ⟨ok.mod, ok.kind, ok.glob, ok.blt, ok.above, ok.inj, ok.has, ok.cab, ok.hd, ok.frames, ok.stk, ok.exf, ok.bs, ok.bsz, ok.noex, ok.exfs, ok.funs, ok.frf⟩
section
variable {X : Cx} {pins : List (Addr × Obj)} {σ : St} {H : Hp} {s : Shared} {E : Value → Shared → Prop}
theorem Inv.wish (I : Inv X pins σ H s) (E : Value → Shared → Prop) : Inv (X.wish E) pins σ H s := ⟨I.ok.wish E, I.os, I.bare, I.base, I.loc, I.cell, I.free, I.freeC, I.pin, I.hok, I.len⟩
theorem Inv.unwish (I : Inv (X.wish E) pins σ H s) : Inv X pins σ H s := ⟨I.ok.unwish, I.os, I.bare, I.base, I.loc, I.cell, I.free, I.freeC, I.pin, I.hok, I.len⟩
theorem SP.unwish {D : Ends} {f : Flow} {s' : Shared} (h : SP (X.wish E) pins D f s') : SP X pins D f s' := by
  cases f with
  | next => obtain ⟨σ', H', I, q⟩ := h; exact ⟨σ', H', I.unwish, q⟩
  | brk => obtain ⟨σ', H', I, q⟩ := h; exact ⟨σ', H', I.unwish, q⟩
  | cont => obtain ⟨σ', H', I, q⟩ := h; exact ⟨σ', H', I.unwish, q⟩
  | ret u => obtain ⟨v, σ', H', I, r, q⟩ := h; exact ⟨v, σ', H', I.unwish, r, q⟩
theorem PSs.nox {st : List Stmt} {t : TS} (h : PSs X.nox st t) : PSs X st t := fun pins s σ H D I hw =>
  wpAny_mono (h pins s σ H D (I.wish _) hw) (fun _ _ q => q.unwish) fun _ _ z => False.elim z
end
section
variable {X : Cx} {st : Stmt} {rest : List Stmt} {t u : TS} {e : Expr} {te : TE} {pos : Pos}
def tNext : TS := fun D σ H => D.nx σ H
def tSeq (t u : TS) : TS := fun D σ H => t { D with nx := u D } σ H
theorem pss_nil : PSs X [] tNext := fun _ _ σ H _ I h => wpAny_execs_nil ⟨σ, H, I, h⟩
theorem pss_cons (h1 : PS X st t) (h2 : PSs X rest u) : PSs X (st :: rest) (tSeq t u) := by
  intro pins s σ H D I h
  refine wpAny_execs_cons (thn (h1 pins s σ H { D with nx := u D } I h) fun f s1 q => ?_)
  cases f with
  | next =>
    obtain ⟨σ', H', I', q⟩ := q
    exact h2 pins s1 σ' H' D I' q
  | ret v => exact q
  | brk => exact q
  | cont => exact q
theorem pss_one (h1 : PS X st t) : PSs X [st] t := by
  intro pins s σ H D I h
  refine wpAny_execs_cons (thn (h1 pins s σ H D I h) fun f s1 q => ?_)
  cases f with
  | next => exact wpAny_execs_nil q
  | ret v => exact q
  | brk => exact q
  | cont => exact q
theorem Inv.quiet {pins : List (Addr × Obj)} {σ : St} {H : Hp} {s : Shared} (I : Inv X pins σ H s) : interactive X.env = false := by simp [interactive, I.ok.kind]
def tDrop (te : TE) : TS := fun D σ H => te σ H fun _ H1 => D.nx σ H1
theorem ps_expr (he : PE X e te) (hs : swapsWith e none pos.line X.env = pure false := by rfl) : PS X (.Expr e pos) (tDrop te) := by
  intro pins s σ H D I h
  exact wpAny_Expr_any (thn (he pins s σ H _ I h) fun v s1 ⟨x, H1, I1, r1, q1⟩ => ⟨σ, H1, I1, q1⟩) I.quiet hs
def tRet (te : TE) : TS := fun D σ H => te σ H D.rt
theorem ps_ret (he : PE X e te) : PS X (.Return (some e) pos) (tRet te) := by
  intro pins s σ H D I h
  exact wpAny_Return_some (thn (he pins s σ H _ I h) fun v s1 ⟨x, H1, I1, r1, q1⟩ => ⟨x, σ, H1, I1, r1, q1⟩)
def tIfS (c : TT) (t u : TS) : TS := fun D σ H => c σ H fun b H1 => if b = true then t D σ H1 else u D σ H1
theorem ps_if {c : Expr} {a b : List Stmt} {tc : TT} (hc : PT X c tc) (ha : PSs X a t) (hb : PSs X b u) : PS X (.If c a b pos) (tIfS tc t u) := by
  intro pins s σ H D I h
  refine wpAny_If (thn (hc pins s σ H _ I h) fun d s1 ⟨H1, I1, q1⟩ => ?_)
  cases d with
  | true => exact ha pins s1 σ H1 D I1 q1
  | false => exact hb pins s1 σ H1 D I1 q1
end
abbrev TG := V → St → Hp → (St → Hp → Prop) → Prop
abbrev TGs := List V → St → Hp → (St → Hp → Prop) → Prop
def PG (X : Cx) (target : Expr) (t : TG) : Prop :=
  ∀ (pins : List (Addr × Obj)) (s : Shared) (σ : St) (H : Hp) (v : V) (u : Value) (Q : St → Hp → Prop), Inv X pins σ H s → RelV v u → t v σ H Q →
    wpAny (model X.prog X.w) X.A (assign target X.env u) (fun _ s' => ∃ σ' H', Inv X pins σ' H' s' ∧ Q σ' H') X.xe s
def PGs (X : Cx) (ts : List Expr) (t : TGs) : Prop :=
  ∀ (pins : List (Addr × Obj)) (s : Shared) (σ : St) (H : Hp) (vs : List V) (us : List Value) (Q : St → Hp → Prop), Inv X pins σ H s → Vals vs us → t vs σ H Q →
    wpAny (model X.prog X.w) X.A (assignInOrder ((assignEach ts X.env).map (·.2)) us) (fun _ s' => ∃ σ' H', Inv X pins σ' H' s' ∧ Q σ' H') X.xe s
section
variable {X : Cx} {pos : Pos}
def gName (i : Nat) : TG := fun v σ H Q => Q (σ.set i (some v)) H
theorem pg_name {i : Nat} {x : Str} (hN : X.N.Nodup) (hi : X.N[i]? = some x) (hx : Loc X.env.scope x) (hf : X.fn x = true ∨ X.env.scope.names.lookup x = some .local := by first | exact .inl rfl | exact .inr rfl | assumption) : PG X (.Name x pos) (gName i) := by
  intro pins s σ H v u Q I r h
  exact wpAny_assign_Name (store_ok I hN hi hx r (fun s' I' => ⟨_, H, I', h⟩) hf)
def gNil : TGs := fun vs σ H Q => vs = [] ∧ Q σ H
def gCons (t : TG) (u : TGs) : TGs := fun vs σ H Q => ∃ v r, vs = v :: r ∧ t v σ H fun σ' H' => u r σ' H' Q
theorem pgs_nil : PGs X [] gNil := by
  intro pins s σ H vs us Q I r h
  obtain ⟨e, h⟩ := h
  subst e
  cases r
  exact assignInOrder_nil ⟨σ, H, I, h⟩
theorem pgs_cons {e : Expr} {es : List Expr} {t : TG} {u : TGs} (h1 : PG X e t) (h2 : PGs X es u)
    (hs : (assignEach (e :: es) X.env).map (·.2) = assign e X.env :: (assignEach es X.env).map (·.2) := by rfl) : PGs X (e :: es) (gCons t u) := by
  intro pins s σ H vs us Q I r h
  obtain ⟨v, vr, e1, h⟩ := h
  subst e1
  cases r with
  | cons r rr =>
    rw [hs]
    refine assignInOrder_cons (thn (h1 pins s σ H _ _ _ I r h) fun _ s1 ⟨σ1, H1, I1, q1⟩ => ?_)
    exact h2 pins s1 σ1 H1 _ _ Q I1 rr q1
def gTup (K : PySem.W.Frag) (n : Nat) (t : TGs) : TG := fun v σ H Q => ∃ a xs, v = .ref a ∧ SqT K H a xs ∧ xs.length = n ∧ t xs σ H Q
theorem pg_tup {es : List Expr} {k : Nat} {t : TGs} {n : Nat} (hc : X.calm = true) (h : PGs X es t)
    (hn : (assignEach es X.env).length = n := by rfl) (hst : (assignEach es X.env).findIdx? (·.1) = none := by rfl) : PG X (.Tuple es k pos) (gTup X.K n t) := by
  intro pins s σ H v u Q I r hw
  obtain ⟨a, xs, e1, hq, hl, hw⟩ := hw
  subst e1
  cases r
  obtain ⟨its, rv, ht, hz⟩ := I.tuple hq
  refine assign_Tuple_tuple (I.ok.hd hc) ht (by simp [hn, ← hl, rv.length]) hst fun h' hx => ?_
  have I1 : Inv X pins σ H { s with heap := h' } := I.kept (t' := s.toks) fun b o e => hx b o (Nat.ne_of_lt (Heap.lt_size e)) e
  exact h pins _ σ H xs _ Q I1 (by simpa using rv) hw
def tAsg (te : TE) (g : TG) : TS := fun D σ H => te σ H fun x H1 => g x σ H1 D.nx
theorem ps_set {i : Nat} {x : Str} {e : Expr} {te : TE} {pos' : Pos} (hN : X.N.Nodup) (hi : X.N[i]? = some x) (hx : Loc X.env.scope x) (he : PE X e te) (hs : swapsWith e (some (.Name x pos')) pos.line X.env = pure false := by rfl) (hf : X.fn x = true ∨ X.env.scope.names.lookup x = some .local := by first | exact .inl rfl | exact .inr rfl | assumption) :
    PS X (.Assign [.Name x pos'] e pos) (tAsg te (gName i)) := by
  intro pins s σ H D I h
  refine wpAny_Assign_Name (thn (he pins s σ H _ I h) fun v s1 ⟨y, H1, I1, r1, q1⟩ => ?_) hs
  exact store_ok I1 hN hi hx r1 (fun s2 I2 => ⟨_, H1, I2, q1⟩) hf
end
section
variable {X : Cx} {pos : Pos}
end
structure It where
  go : Nat → Hp → Prop
  yld : Nat → Hp → V → Hp → Prop
  stop : Nat → Hp → Prop
def FpOk (X : Cx) (pins : List (Addr × Obj)) (H : Hp) (b : Addr) : Prop :=
  H b = none ∧ b ≠ X.env.locals ∧ b ∉ X.fs ∧ (b ∈ X.ex ∨ X.s₀.heap.objs.size ≤ b) ∧ (∀ x c, X.env.cells.lookup x = some c → c ≠ b) ∧ ∀ p ∈ X.pn ++ pins, p.1 ≠ b
theorem Inv.fpOk {X : Cx} {pins : List (Addr × Obj)} {σ : St} {H H' : Hp} {s : Shared} {b : Addr} (I : Inv X pins σ H s) (hb : s.heap.objs.size ≤ b) (hn : H' b = none) : FpOk X pins H' b := by
  refine ⟨hn, Nat.ne_of_gt (Nat.lt_of_lt_of_le I.lt hb), I.nofs hb, .inr (Nat.le_trans I.sz hb), fun x c e z => ?_, fun p hp z => ?_⟩
  · obtain ⟨v, q⟩ := I.cell x c e
    exact absurd (Nat.lt_of_lt_of_le q.lt (by rw [z]; exact hb)) (Nat.lt_irrefl _)
  · exact absurd (Nat.lt_of_lt_of_le (Heap.lt_size (I.pin p hp).1) (by rw [z]; exact hb)) (Nat.lt_irrefl _)
structure Turn (P : Program) (w : World) (K : PySem.W.Frag) (tg : Expr) (J : It) (fp : List Addr) (it : Addr) (tn : Nat → Heap → Prop) : Prop where
  mem : it ∈ fp
  obj : ∀ i h, tn i h → ∀ b ∈ fp, ∃ o, h.get? b = some o ∧ ∀ v, o.data ≠ .cell v
  keep : ∀ i h h', tn i h → (∀ b ∈ fp, ∀ o, h.get? b = some o → h'.get? b = some o) → tn i h'
  item : ∀ (X : Cx), X.prog = P → X.w = w → X.K = K → X.calm = true → ∀ (i : Nat) (pins : List (Addr × Obj)) (s : Shared) (σ : St) (H : Hp) (E : Value → Shared → Prop), Inv X pins σ H s → (∀ b ∈ fp, FpOk X pins H b) → tn i s.heap → J.go i H →
    wpAny (model P w) X.A (pyNext (.ref it)) (fun r s1 => ∃ u, r = some u ∧
      wpAny (model P w) X.A (letOwnedTupleGo tg (.ref it) u) (fun _ s2 => ∃ x H', Inv X pins σ H' s2 ∧ RelV x u ∧ J.yld i H x H' ∧ tn (i + 1) s2.heap ∧ ∀ b ∈ fp, H' b = none) E s1) E s
  done : ∀ (X : Cx), X.prog = P → X.w = w → X.K = K → X.calm = true → ∀ (i : Nat) (pins : List (Addr × Obj)) (s : Shared) (σ : St) (H : Hp) (E : Value → Shared → Prop), Inv X pins σ H s → (∀ b ∈ fp, FpOk X pins H b) → tn i s.heap → J.stop i H →
    wpAny (model P w) X.A (pyNext (.ref it)) (fun r s1 => r = none ∧ Inv X pins σ H s1) E s
  self : ∀ (A : Around) (i : Nat) (s : Shared) (Q : Value → Shared → Prop) (E : Value → Shared → Prop), tn i s.heap → Q (.ref it) s → wpAny (model P w) A (pyIter (.ref it)) Q E s
abbrev TI := St → Hp → (It → Hp → Prop) → Prop
def PIE (X : Cx) (pins : List (Addr × Obj)) (σ : St) (tg : Expr) (R : It → Hp → Prop) (itv : Value) (s2 : Shared) : Prop :=
  ∃ (it : Addr) (fp : List Addr) (tn : Nat → Heap → Prop) (J : It) (H' : Hp), itv = .ref it ∧ Inv X pins σ H' s2 ∧ Turn X.prog X.w X.K tg J fp it tn ∧ tn 0 s2.heap ∧ (∀ b ∈ fp, FpOk X pins H' b) ∧ R J H'
def PI (X : Cx) (tg iter : Expr) (wi : TI) : Prop :=
  ∀ (pins : List (Addr × Obj)) (s : Shared) (σ : St) (H : Hp) (R : It → Hp → Prop), Inv X pins σ H s → wi σ H R →
    wpAny (model X.prog X.w) X.A (eval iter X.env) (fun v s1 => wpAny (model X.prog X.w) X.A (pyIter v) (PIE X pins σ tg R) X.xe s1) X.xe s
theorem go_of {M : Model} {A : Around} {E : Value → Shared → Prop} {s : Shared} {tg : Expr} {it : Addr} {u : Value} {o : Obj} {n : String} {vs : Array Value} {Q : Unit → Shared → Prop} (ho : s.heap.get? it = some o) (hc : o.cls = .type n) (hd : o.data = .fields vs)
    (hn : ["enumerate", "zip", "dict_itemiterator", "dict_reverseitemiterator", "odict_iterator", "itertools.zip_longest", "itertools.pairwise"].contains n = false) (hQ : Q () s) : wpAny M A (letOwnedTupleGo tg (.ref it) u) Q E s := by
  unfold letOwnedTupleGo
  cases tg <;> first
    | exact wpAny_pure hQ
    | (cases u <;> first
        | exact wpAny_pure hQ
        | (refine wpAny_bind (wpAny_load ho ?_)
           rw [hc, hd]
           show wpAny M A (if (["enumerate", "zip", "dict_itemiterator", "dict_reverseitemiterator", "odict_iterator", "itertools.zip_longest", "itertools.pairwise"].contains n && vs[0]? == some (rawInt _)) = true then _ else _) Q E s
           rw [if_neg (by intro h; rw [hn, Bool.false_and] at h; cases h)]
           exact wpAny_pure hQ))
def Itl (K : PySem.W.Frag) (a : Addr) : It :=
  ⟨fun i H => ∃ xs x, SqL K H a xs ∧ xs[i]? = some x, fun i H x H' => H' = H ∧ ∀ xs, SqL K H a xs → xs[i]? = some x, fun i H => ∃ xs, SqL K H a xs ∧ xs.length ≤ i⟩
def Itr (lo : Int) (n : Nat) : It := ⟨fun i _ => i < n, fun i H x H' => H' = H ∧ x = .int (lo + i), fun i _ => n ≤ i⟩
theorem turn_list {P : Program} {w : World} {K : PySem.W.Frag} {tg : Expr} (a it : Addr) : Turn P w K tg (Itl K a) [it] it (fun i h => h.IsListIter it a i) where
  mem := by simp
  obj := fun i h st b hb => by
    have e : b = it := by simpa using hb
    subst e
    obtain ⟨o, e, c, d⟩ := st
    exact ⟨o, e, fun v z => by rw [d] at z; cases z⟩
  keep := fun i h h' st k => st.at fun o e => k it (by simp) o e
  item := by
    intro X hP hw hK hc i pins s σ H E I hf st hg
    subst hP hw hK
    obtain ⟨xs, x, hq, hx⟩ := hg
    obtain ⟨its, rv, p, hz⟩ := I.list hq
    obtain ⟨u, hu, ru⟩ := rv.get hx
    obtain ⟨f0, f1, f2, f3, f4, f5⟩ := hf it (by simp)
    refine wpAny_pyNext_list_item st p.isList (x := u) (by simpa using hu) fun h' st' sb => ?_
    have I1 : Inv X pins σ H { s with heap := h' } := I.turned (t' := s.toks) (fun b o hb e => (sb.2 b hb).trans e) f0 f1 f3 f4 f5
    obtain ⟨o, e, c, d⟩ := id st'
    exact ⟨u, rfl, go_of (s := { s with heap := h' }) e c d (by decide) ⟨x, H, I1, ru, ⟨rfl, fun ys hy => by rw [I.list_inj hy hq]; exact hx⟩, st', fun b hb => (hf b hb).1⟩⟩
  done := by
    intro X hP hw hK hc i pins s σ H E I hf st hg
    subst hP hw hK
    obtain ⟨xs, hq, hx⟩ := hg
    obtain ⟨its, rv, p, hz⟩ := I.list hq
    obtain ⟨f0, f1, f2, f3, f4, f5⟩ := hf it (by simp)
    have hl := rv.length
    exact wpAny_pyNext_list_end (I.ok.hd hc) st p.isList (by simp; omega) fun h' eb => ⟨rfl, I.turned (t' := s.toks) (fun b o hb e => eb b o hb e) f0 f1 f3 f4 f5⟩
  self := fun _ _ _ _ _ st h => wpAny_pyIter_listiter st h
theorem turn_range {P : Program} {w : World} {K : PySem.W.Frag} {tg : Expr} (it : Addr) (lo : Int) (n : Nat) : Turn P w K tg (Itr lo n) [it] it (fun i h => IsRangeIter h it (lo + (i : Nat) * 1) ((n : Int) - (i : Nat)) 1) where
  mem := by simp
  obj := fun i h st b hb => by
    have e : b = it := by simpa using hb
    subst e
    exact ⟨_, st, fun v z => by
      have z' : Data.fields _ = Data.cell v := z
      cases z'⟩
  keep := fun i h h' st k => k it (by simp) _ st
  item := by
    intro X hP hw hK hc i pins s σ H E I hf st hg
    subst hP hw hK
    obtain ⟨f0, f1, f2, f3, f4, f5⟩ := hf it (by simp)
    have W := Walks.range (prog := X.prog) (w := X.w) (I.ok.hd hc) it lo 1 n
    refine W.item i s _ _ hg st fun v h' tk hv st' kk => ?_
    obtain ⟨t, rfl⟩ := hv
    have I1 : Inv X pins σ H { s with heap := h', toks := tk } := I.turned (fun b o hb e => kk b o (by simpa using hb) e) f0 f1 f3 f4 f5
    refine ⟨_, rfl, go_of (s := { s with heap := h', toks := tk }) (n := "range_iterator") st' rfl rfl (by decide) ⟨.int (lo + i), H, I1, ⟨t, ?_⟩, ⟨rfl, rfl⟩, st', fun b hb => (hf b hb).1⟩⟩
    rw [Int.mul_one]
  done := by
    intro X hP hw hK hc i pins s σ H E I hf st hg
    subst hP hw hK
    obtain ⟨f0, f1, f2, f3, f4, f5⟩ := hf it (by simp)
    exact wpAny_pyNext_range_end (I.ok.hd hc) st (by have : n ≤ i := hg; omega) fun h' eb => ⟨rfl, I.turned (t' := s.toks) (fun b o hb e => eb b o hb e) f0 f1 f3 f4 f5⟩
  self := fun _ _ _ _ _ st h => wpAny_pyIter_rangeiter st h
end L2
namespace L2
open PySem PySem.Spec PyProof.Rows
section
variable {X : Cx} {tg : Expr}
def iList (K : PySem.W.Frag) (tl : TE) : TI := fun σ H R => tl σ H fun x H1 => ∃ a, x = .ref a ∧ (∃ xs, SqL K H1 a xs) ∧ R (Itl K a) H1
theorem pi_list {l : Expr} {tl : TE} (hl : PE X l tl) : PI X tg l (iList X.K tl) := by
  intro pins s σ H R I h
  refine thn (hl pins s σ H _ I h) fun v s1 ⟨x, H1, I1, r1, q1⟩ => ?_
  obtain ⟨a, e, ⟨xs, hq⟩, q⟩ := q1
  subst e
  cases r1
  obtain ⟨its, rv, p, hz⟩ := I1.list hq
  refine wpAny_pyIter_list p.isList ?_
  refine ⟨s1.heap.objs.size, [s1.heap.objs.size], _, _, H1, rfl, I1.kept (t' := s1.toks) fun b o e => Heap.get?_push_of_some _ e, turn_list a _, ⟨_, Heap.get?_push_size _ rfl, rfl, rfl⟩, fun b hb => ?_, q⟩
  have e : b = s1.heap.objs.size := by simpa using hb
  subst e
  exact I1.fpOk (Nat.le_refl _) (I1.hok.fresh (Nat.le_refl _))
theorem range_it {pins : List (Addr × Obj)} {σ : St} {H : Hp} {s : Shared} {R : It → Hp → Prop} {E : Value → Shared → Prop} {lo hi : Int} {t u v : Tok} {tk : Nat} (I : Inv X pins σ H s) (h1 : -(2 ^ 62) ≤ lo) (h2 : lo < 2 ^ 62) (h3 : -(2 ^ 62) ≤ hi) (h4 : hi < 2 ^ 62)
    (q : R (Itr lo (hi - lo).toNat) H) : wpAny (model X.prog X.w) X.A (pyIter (.ref s.heap.objs.size)) (PIE X pins σ tg R) E { s with heap := s.heap.push { cls := .type "range", data := .fields #[.int lo t, .int hi u, .int 1 v] }, toks := tk } := by
  refine wpAny_pyIter_range (IsRange.new ..) (small_one h1 h2 h3 h4) ?_
  have I1 : Inv X pins σ H { s with heap := s.heap.push { cls := .type "range", data := .fields #[.int lo t, .int hi u, .int 1 v] }, toks := tk } := I.kept fun b o e => Heap.get?_push_of_some _ e
  refine ⟨(s.heap.push { cls := .type "range", data := .fields #[.int lo t, .int hi u, .int 1 v] }).objs.size, [(s.heap.push { cls := .type "range", data := .fields #[.int lo t, .int hi u, .int 1 v] }).objs.size], _, _, H, rfl,
    I1.kept (t' := tk) fun b o e => Heap.get?_push_of_some _ e, turn_range _ lo (hi - lo).toNat, ?_, fun b hb => ?_, q⟩
  · have e1 : lo + ((0 : Nat) : Int) * 1 = lo := by simp
    have e2 : (((hi - lo).toNat : Nat) : Int) - ((0 : Nat) : Int) = Builtin.Range.rangeSize lo hi 1 := by rw [rangeSize_one]; split <;> omega
    show IsRangeIter _ _ (lo + ((0 : Nat) : Int) * 1) ((((hi - lo).toNat : Nat) : Int) - ((0 : Nat) : Int)) 1
    rw [e1, e2]
    exact Heap.get?_push_size _ rfl
  · have e : b = (s.heap.push { cls := .type "range", data := .fields #[.int lo t, .int hi u, .int 1 v] }).objs.size := by simpa using hb
    subst e
    exact I1.fpOk (Nat.le_refl _) (I1.hok.fresh (Nat.le_refl _))
def iRng1 (ta : TA) : TI := fun σ H R => ta σ H fun vs H1 => ∃ j : Int, vs = [.int j] ∧ -(2 ^ 62) ≤ j ∧ j < 2 ^ 62 ∧ R (Itr 0 j.toNat) H1
theorem pi_range1 {a : Expr} {ta : TA} {p pos : Pos} (hg : Gl X "range") (hm : X.mg "range" = none) (ha : PA X [a] ta) (hs : starEach [a] X.env = [(false, eval a X.env)] := by rfl) : PI X tg (.Call (.Name "range" p) [a] [] pos) (iRng1 ta) := by
  intro pins s σ H R I h
  refine Call_ (ld_blt I hg hm boot_range (PyProof.Rows.callWith_type1 (thn (ha pos pins s σ H _ I h) fun us s1 ⟨vs, H1, I1, r1, q1⟩ => ?_) hs rfl))
  obtain ⟨j, e, q1, q2, q⟩ := q1
  subst e
  cases r1 with
  | cons r rr =>
    cases rr
    obtain ⟨t, rfl⟩ := r
    exact call_range_1 (range_it I1 (by omega) (by omega) q1 q2 (by simpa using q))
def tFor (wi : TI) (g : TG) (tb : TS) : TS := fun D σ H => wi σ H fun J H1 => ∃ W : Nat → Nat → St → Hp → Prop, (∃ m, W 0 m σ H1) ∧ ∀ i m σ H, W i m σ H →
  (J.stop i H ∧ D.nx σ H) ∨ (J.go i H ∧ ∃ N : St → Hp → Prop, (∀ σ' H', N σ' H' → ∃ m', m' < m ∧ W (i + 1) m' σ' H') ∧ ∀ x H', J.yld i H x H' → g x σ H' fun σ2 H2 => tb { D with nx := N, ct := N, bk := D.nx } σ2 H2)
def pinsAt (fp : List Addr) (h : Heap) : List (Addr × Obj) := fp.filterMap fun b => (h.get? b).map fun o => (b, o)
theorem mem_pinsAt {fp : List Addr} {h : Heap} {b : Addr} {o : Obj} (hb : b ∈ fp) (e : h.get? b = some o) : (b, o) ∈ pinsAt fp h := List.mem_filterMap.mpr ⟨b, hb, by rw [e]; rfl⟩
theorem of_pinsAt {fp : List Addr} {h : Heap} {p : Addr × Obj} (hp : p ∈ pinsAt fp h) : p.1 ∈ fp ∧ h.get? p.1 = some p.2 := by
  obtain ⟨b, hb, e⟩ := List.mem_filterMap.mp hp
  cases q : h.get? b with
  | none => rw [q] at e; cases e
  | some o =>
    rw [q] at e
    have e' : (b, o) = p := Option.some.inj e
    subst e'
    exact ⟨hb, q⟩
theorem Inv.pinned {pins : List (Addr × Obj)} {σ : St} {H : Hp} {s : Shared} {fp : List Addr} (I : Inv X pins σ H s) (hf : ∀ b ∈ fp, FpOk X pins H b) (ho : ∀ b ∈ fp, ∃ o, s.heap.get? b = some o ∧ ∀ v, o.data ≠ .cell v) : Inv X (pins ++ pinsAt fp s.heap) σ H s :=
  I.pins_of fun p hp => (List.mem_append.mp hp).elim (fun z => I.pin p (List.mem_append_right _ z)) fun z => by
    obtain ⟨hb, e⟩ := of_pinsAt z
    obtain ⟨f0, f1, f2, _⟩ := hf p.1 hb
    obtain ⟨o, e', d⟩ := ho p.1 hb
    rw [e] at e'; cases e'
    exact ⟨e, f0, f1, f2, d⟩
theorem Inv.unpinned {pins pl : List (Addr × Obj)} {σ : St} {H : Hp} {s : Shared} (I : Inv X (pins ++ pl) σ H s) : Inv X pins σ H s := I.pins_of fun p hp => I.pin p (List.mem_append_right _ (List.mem_append_left _ hp))
theorem ps_for {iter : Expr} {body : List Stmt} {wi : TI} {g : TG} {tb : TS} {pos : Pos} (hp : PassesOwn (model X.prog X.w) X.A X.env X.xe) (hc : X.calm = true) (hi : PI X tg iter wi) (hg : PG X tg g) (hb : PSs X body tb)
    (hs : ∀ x, foldedSetIterable iter X.env x = pure x := by intro _; rfl) : PS X (.For tg iter body [] pos) (tFor wi g tb) := by
  intro pins s σ H D I h
  refine wpAny_For (thn (hi pins s σ H _ I h) fun v s1 h1 => thn h1 fun itv s2 h2 => ?_) hs
  obtain ⟨it, fp, tn, J, H2, e, I2, T, st2, f2, W, ⟨m0, w0⟩, turn⟩ := h2
  subst e
  have stat : ∀ {H' : Hp}, (∀ b ∈ fp, H' b = none) → ∀ b ∈ fp, FpOk X pins H' b := fun hn b hb => ⟨hn b hb, (f2 b hb).2⟩
  refine codeAny_forLoop_any (fun n s' => ∃ i σ' H', Inv X pins σ' H' s' ∧ tn i s'.heap ∧ (∀ b ∈ fp, H' b = none) ∧ W i n σ' H') ?_ m0 ⟨0, σ, H2, I2, st2, fun b hb => (f2 b hb).1, w0⟩
  rintro n s3 ⟨i, σ3, H3, I3, st3, fr3, w3⟩
  rcases turn i n σ3 H3 w3 with ⟨stop, qn⟩ | ⟨go, N, hN, step⟩
  · refine wpAny_passesOwn hp (thn (T.done X rfl rfl rfl hc i pins s3 σ3 H3 X.xe I3 (stat fr3) st3 stop) fun r s4 ⟨hr, I4⟩ => ?_)
    subst hr
    exact wpAny_execs_nil ⟨σ3, H3, I4, qn⟩
  · refine wpAny_passesOwn hp (thn (T.item X rfl rfl rfl hc i pins s3 σ3 H3 X.xe I3 (stat fr3) st3 go) fun r s4 ⟨u, hr, h4⟩ => ?_)
    subst hr
    refine wpAny_passesOwn hp (thn h4 fun _ s5 ⟨x, H5, I5, r5, y5, st5, fr5⟩ => ?_)
    have I5' := I5.pinned (stat fr5) (T.obj _ _ st5)
    refine wpAny_passesOwn hp (thn (hg _ s5 σ3 H5 x u _ I5' r5 (step x H5 y5)) fun _ s6 ⟨σ6, H6, I6, q6⟩ => ?_)
    refine wpAny_passesOwn hp (thn (hb _ s6 σ6 H6 _ I6 q6) fun f s7 q7 => ?_)
    have again : ∀ {σ7 : St} {H7 : Hp}, Inv X (pins ++ pinsAt fp s5.heap) σ7 H7 s7 → N σ7 H7 → ∃ m, m < n ∧ ∃ i σ' H', Inv X pins σ' H' s7 ∧ tn i s7.heap ∧ (∀ b ∈ fp, H' b = none) ∧ W i m σ' H' := fun {σ7 H7} I7 n7 => by
      obtain ⟨m', hm, w7⟩ := hN σ7 H7 n7
      refine ⟨m', hm, i + 1, σ7, H7, I7.unpinned, T.keep _ _ _ st5 fun b hb o e => (I7.pin (b, o) (List.mem_append_right _ (List.mem_append_right _ (mem_pinsAt hb e)))).1, fun b hb => ?_, w7⟩
      obtain ⟨o, e, d⟩ := T.obj _ _ st5 b hb
      exact (I7.pin (b, o) (List.mem_append_right _ (List.mem_append_right _ (mem_pinsAt hb e)))).2.1
    cases f with
    | next => obtain ⟨σ7, H7, I7, n7⟩ := q7; exact again I7 n7
    | cont => obtain ⟨σ7, H7, I7, n7⟩ := q7; exact again I7 n7
    | brk => obtain ⟨σ7, H7, I7, q7⟩ := q7; exact ⟨σ7, H7, I7.unpinned, q7⟩
    | ret v => obtain ⟨x7, σ7, H7, I7, r7, q7⟩ := q7; exact ⟨x7, σ7, H7, I7.unpinned, r7, q7⟩
end
theorem for_list {K : PySem.W.Frag} {a : Addr} {xs : List V} {g : TG} {tb : TS} {D : Ends} {σ : St} {H : Hp} (Pv : Nat → St → Hp → Prop) (h0 : Pv 0 σ H) (hl : ∀ i σ H, i ≤ xs.length → Pv i σ H → SqL K H a xs)
    (hs : ∀ i x σ H, xs[i]? = some x → Pv i σ H → g x σ H fun σ2 H2 => tb { D with nx := Pv (i + 1), ct := Pv (i + 1), bk := D.nx } σ2 H2) (hd : ∀ σ H, Pv xs.length σ H → D.nx σ H) :
    ∃ W : Nat → Nat → St → Hp → Prop, (∃ m, W 0 m σ H) ∧ ∀ i m σ H, W i m σ H →
      ((Itl K a).stop i H ∧ D.nx σ H) ∨ ((Itl K a).go i H ∧ ∃ N : St → Hp → Prop, (∀ σ' H', N σ' H' → ∃ m', m' < m ∧ W (i + 1) m' σ' H') ∧ ∀ x H', (Itl K a).yld i H x H' → g x σ H' fun σ2 H2 => tb { D with nx := N, ct := N, bk := D.nx } σ2 H2) := by
  refine ⟨fun i m σ H => m = xs.length - i ∧ i ≤ xs.length ∧ Pv i σ H, ⟨xs.length, by simp, Nat.zero_le _, h0⟩, ?_⟩
  rintro i m σ H ⟨rfl, hi, p⟩
  have q := hl i σ H hi p
  by_cases hlt : i < xs.length
  · refine .inr ⟨⟨xs, xs[i], q, by simp [hlt]⟩, Pv (i + 1), fun σ' H' p' => ⟨xs.length - (i + 1), by omega, rfl, hlt, p'⟩, fun x H' y => ?_⟩
    obtain ⟨e, y⟩ := y
    subst e
    exact hs i x σ _ (y xs q) p
  · have e : i = xs.length := by omega
    subst e
    exact .inl ⟨⟨xs, q, Nat.le_refl _⟩, hd σ H p⟩
theorem for_range {lo : Int} {n : Nat} {g : TG} {tb : TS} {D : Ends} {σ : St} {H : Hp} (Pv : Nat → St → Hp → Prop) (h0 : Pv 0 σ H)
    (hs : ∀ i σ H, i < n → Pv i σ H → g (.int (lo + i)) σ H fun σ2 H2 => tb { D with nx := Pv (i + 1), ct := Pv (i + 1), bk := D.nx } σ2 H2) (hd : ∀ σ H, Pv n σ H → D.nx σ H) :
    ∃ W : Nat → Nat → St → Hp → Prop, (∃ m, W 0 m σ H) ∧ ∀ i m σ H, W i m σ H →
      ((Itr lo n).stop i H ∧ D.nx σ H) ∨ ((Itr lo n).go i H ∧ ∃ N : St → Hp → Prop, (∀ σ' H', N σ' H' → ∃ m', m' < m ∧ W (i + 1) m' σ' H') ∧ ∀ x H', (Itr lo n).yld i H x H' → g x σ H' fun σ2 H2 => tb { D with nx := N, ct := N, bk := D.nx } σ2 H2) := by
  refine ⟨fun i m σ H => m = n - i ∧ i ≤ n ∧ Pv i σ H, ⟨n, by simp, Nat.zero_le _, h0⟩, ?_⟩
  rintro i m σ H ⟨rfl, hi, p⟩
  by_cases hlt : i < n
  · refine .inr ⟨hlt, Pv (i + 1), fun σ' H' p' => ⟨n - (i + 1), by omega, rfl, hlt, p'⟩, fun x H' y => ?_⟩
    obtain ⟨e, y⟩ := y
    subst e y
    exact hs i σ _ hlt p
  · have e : i = n := by omega
    subst e
    exact .inl ⟨Nat.le_refl _, hd σ H p⟩
end L2
namespace L2
open PySem PySem.Spec PyProof.Rows
abbrev R2 := V → V → Hp → VK → Prop
def OpR (X : Cx) (f : Value → Value → Sem Value) (r : R2) : Prop :=
  ∀ (pins : List (Addr × Obj)) (s : Shared) (σ : St) (H : Hp) (x y : V) (v u : Value) (Q : VK), Inv X pins σ H s → RelV x v → RelV y u → r x y H Q →
    wpAny (model X.prog X.w) X.A (f v u) (EP X pins σ Q) X.xe s
def UnR (X : Cx) (f : Value → Sem Value) (r : V → Hp → VK → Prop) : Prop :=
  ∀ (pins : List (Addr × Obj)) (s : Shared) (σ : St) (H : Hp) (x : V) (v : Value) (Q : VK), Inv X pins σ H s → RelV x v → r x H Q →
    wpAny (model X.prog X.w) X.A (f v) (EP X pins σ Q) X.xe s
def CallR (X : Cx) (f : Value) (r : List V → Hp → VK → Prop) : Prop :=
  ∀ (pins : List (Addr × Obj)) (s : Shared) (σ : St) (H : Hp) (xs : List V) (us : List Value) (Q : VK), Inv X pins σ H s → Vals xs us → r xs H Q →
    wpAny (model X.prog X.w) X.A (call f us) (EP X pins σ Q) X.xe s
def TruR (X : Cx) (r : V → Hp → (Bool → Hp → Prop) → Prop) : Prop :=
  ∀ (pins : List (Addr × Obj)) (s : Shared) (σ : St) (H : Hp) (x : V) (v : Value) (Q : Bool → Hp → Prop), Inv X pins σ H s → RelV x v → r x H Q →
    wpAny (model X.prog X.w) X.A (truthy v) (TP X pins σ Q) X.xe s
def tOp (r : R2) (ta tb : TE) : TE := fun σ H Q => ta σ H fun x H1 => tb σ H1 fun y H2 => r x y H2 Q
def tUn (r : V → Hp → VK → Prop) (ta : TE) : TE := fun σ H Q => ta σ H fun x H1 => r x H1 Q
def rI (C : Int → Int → Prop) (g : Int → Int → V) : R2 := fun x y H Q => ∃ i j, x = .int i ∧ y = .int j ∧ C i j ∧ Q (g i j) H
def rI0 (g : Int → Int → V) : R2 := fun x y H Q => ∃ i j, x = .int i ∧ y = .int j ∧ Q (g i j) H
def rU (g : Int → V) : V → Hp → VK → Prop := fun x H Q => ∃ i, x = .int i ∧ Q (g i) H
section
variable {X : Cx} {a b c : Expr} {ta tb tc : TE} {pos : Pos}
theorem binT (ha : PE X a ta) (hb : PE X b tb) {pins : List (Addr × Obj)} {s : Shared} {σ : St} {H : Hp} {R : V → V → Hp → Prop} (I : Inv X pins σ H s)
    (h : ta σ H fun x H1 => tb σ H1 fun y H2 => R x y H2) {Q : Value → Shared → Prop} {f : Value → Value → Sem Value}
    (hf : ∀ v u s2 x y H2, Inv X pins σ H2 s2 → RelV x v → RelV y u → R x y H2 → wpAny (model X.prog X.w) X.A (f v u) Q X.xe s2) :
    wpAny (model X.prog X.w) X.A (eval a X.env) (fun v s₁ => wpAny (model X.prog X.w) X.A (eval b X.env) (fun u s₂ => wpAny (model X.prog X.w) X.A (f v u) Q X.xe s₂) X.xe s₁) X.xe s := by
  refine thn (ha pins s σ H _ I h) fun v s1 ⟨x, H1, I1, r1, q1⟩ => ?_
  refine thn (hb pins s1 σ H1 _ I1 q1) fun u s2 ⟨y, H2, I2, r2, q2⟩ => ?_
  exact hf v u s2 x y H2 I2 r1 r2 q2
theorem pe_op {op : Operator} {r : R2} (ho : OpR X (binaryOp op) r) (ha : PE X a ta) (hb : PE X b tb) : PE X (.BinOp a op b pos) (tOp r ta tb) := by
  intro pins s σ H Q I h
  exact wpAny_BinOp (binT ha hb I h fun v u s2 x y H2 I2 rx ry q => ho pins s2 σ H2 x y v u Q I2 rx ry q)
theorem pe_un {op : UnaryOp} {r : V → Hp → VK → Prop} (ho : UnR X (unaryOp op) r) (ha : PE X a ta) : PE X (.UnaryOp op a pos) (tUn r ta) := by
  intro pins s σ H Q I h
  exact UnaryOp_ (thn (ha pins s σ H _ I h) fun v s1 ⟨x, H1, I1, r1, q1⟩ => ho pins s1 σ H1 x v Q I1 r1 q1)
theorem opI {f : Value → Value → Sem Value} {C : Int → Int → Prop} {g : Int → Int → Int}
    (rule : ∀ (i j : Int) (t u : Tok) (s : Shared) (Q : Value → Shared → Prop) (E : Value → Shared → Prop), C i j → Q (.int (g i j) s.toks) { s with toks := s.toks + 1 } → wpAny (model X.prog X.w) X.A (f (.int i t) (.int j u)) Q E s) :
    OpR X f (rI C fun i j => .int (g i j)) := by
  intro pins s σ H x y v u Q I rx ry h
  obtain ⟨i, j, rfl, rfl, hc, q⟩ := h
  obtain ⟨t, rfl⟩ := rx
  obtain ⟨t', rfl⟩ := ry
  exact rule i j t t' s _ _ hc ⟨.int (g i j), H, I.tok _, ⟨_, rfl⟩, q⟩
theorem opI0 {f : Value → Value → Sem Value} {g : Int → Int → Int}
    (rule : ∀ (i j : Int) (t u : Tok) (s : Shared) (Q : Value → Shared → Prop) (E : Value → Shared → Prop), Q (.int (g i j) s.toks) { s with toks := s.toks + 1 } → wpAny (model X.prog X.w) X.A (f (.int i t) (.int j u)) Q E s) :
    OpR X f (rI0 fun i j => .int (g i j)) := by
  intro pins s σ H x y v u Q I rx ry h
  obtain ⟨i, j, rfl, rfl, q⟩ := h
  obtain ⟨t, rfl⟩ := rx
  obtain ⟨t', rfl⟩ := ry
  exact rule i j t t' s _ _ ⟨.int (g i j), H, I.tok _, ⟨_, rfl⟩, q⟩
theorem opB0 {f : Value → Value → Sem Value} {g : Int → Int → Bool}
    (rule : ∀ (i j : Int) (t u : Tok) (s : Shared) (Q : Value → Shared → Prop) (E : Value → Shared → Prop), Q (.bool (g i j)) s → wpAny (model X.prog X.w) X.A (f (.int i t) (.int j u)) Q E s) :
    OpR X f (rI0 fun i j => .bl (g i j)) := by
  intro pins s σ H x y v u Q I rx ry h
  obtain ⟨i, j, rfl, rfl, q⟩ := h
  obtain ⟨t, rfl⟩ := rx
  obtain ⟨t', rfl⟩ := ry
  exact rule i j t t' s _ _ ⟨.bl (g i j), H, I, rfl, q⟩
def CDiv (i j : Int) : Prop := 0 < j ∧ j < 1073741824
def CPow (i j : Int) : Prop := 0 ≤ j ∧ j ≤ 1000000 ∧ i.natAbs < 2 ^ 64
def CMul (i j : Int) : Prop := (-(2 ^ 64) < i ∧ i < 2 ^ 64) ∨ (-(2 ^ 64) < j ∧ j < 2 ^ 64)
theorem CMul.ok {i j : Int} (h : CMul i j) : IntMulOk i j := by
  rcases h with ⟨h1, h2⟩ | ⟨h1, h2⟩
  · exact .of_left (intBits_le_64 h1 h2)
  · exact .of_right (intBits_le_64 h1 h2)
theorem op_add : OpR X (binaryOp .Add) (rI0 fun i j => .int (i + j)) := opI0 fun _ _ _ _ _ _ _ q => add_int q
theorem op_sub : OpR X (binaryOp .Sub) (rI0 fun i j => .int (i - j)) := opI0 fun _ _ _ _ _ _ _ q => sub_int q
theorem op_mul : OpR X (binaryOp .Mult) (rI CMul fun i j => .int (i * j)) := opI fun _ _ _ _ _ _ _ hc q => mul_int q hc.ok
theorem op_fdiv : OpR X (binaryOp .FloorDiv) (rI CDiv fun i j => .int (i / j)) := opI fun i j _ _ _ _ _ hc q => by
  have h1 : (0 : Int) < j := hc.1
  have h2 : j < 1073741824 := hc.2
  exact floordiv_int (by omega) (by rw [Int.fdiv_eq_ediv_of_nonneg i (by omega)]; exact q) (.inl (PyProof.noPylong_small (by omega)))
theorem op_mod : OpR X (binaryOp .Mod) (rI (fun _ j => 0 < j) fun i j => .int (i % j)) := opI fun i j _ _ _ _ _ hc q => by
  have h1 : (0 : Int) < j := hc
  exact mod_int' (by omega) (by rw [Int.fmod_eq_emod_of_nonneg i (by omega)]; exact q)
theorem op_pow : OpR X (binaryOp .Pow) (rI CPow fun i j => .int (i ^ j.toNat)) := opI fun _ _ _ _ _ _ _ hc q => pow_int_small hc.1 hc.2.1 hc.2.2 q
theorem unI {f : Value → Sem Value} {g : Int → Int}
    (rule : ∀ (i : Int) (t : Tok) (s : Shared) (Q : Value → Shared → Prop) (E : Value → Shared → Prop), Q (.int (g i) s.toks) { s with toks := s.toks + 1 } → wpAny (model X.prog X.w) X.A (f (.int i t)) Q E s) :
    UnR X f (rU fun i => .int (g i)) := by
  intro pins s σ H x v Q I rx h
  obtain ⟨i, rfl, q⟩ := h
  obtain ⟨t, rfl⟩ := rx
  exact rule i t s _ _ ⟨.int (g i), H, I.tok _, ⟨_, rfl⟩, q⟩
theorem un_neg : UnR X (unaryOp .USub) (rU fun i => .int (-i)) := unI fun _ _ _ _ _ q => neg_int q
end
def scal : V → V → Bool
  | .non, .non => true | .non, .int _ => true | .int _, .non => true | .non, .bl _ => true | .bl _, .non => true | .non, .str _ => true | .str _, .non => true
  | .int _, .int _ => true | .bl _, .bl _ => true | .str _, .str _ => true | .byt _, .byt _ => true
  | .int _, .str _ => true | .str _, .int _ => true | .bl _, .str _ => true | .str _, .bl _ => true
  | _, _ => false
def rEq : R2 := fun x y H Q => scal x y = true ∧ Q (.bl (decide (x = y))) H
def rNe : R2 := fun x y H Q => scal x y = true ∧ Q (.bl (!decide (x = y))) H
theorem dec_int {i j : Int} : decide (V.int i = V.int j) = (i == j) := by
  rw [Bool.eq_iff_iff]
  simp
theorem dec_bl {i j : Bool} : decide (V.bl i = V.bl j) = (i == j) := by
  rw [Bool.eq_iff_iff]
  simp
theorem dec_str {i j : Str} : decide (V.str i = V.str j) = (i == j) := by
  rw [Bool.eq_iff_iff]
  simp
theorem dec_byt {i j : Array UInt8} : decide (V.byt i = V.byt j) = (i.toList == j.toList) := by
  rw [Bool.eq_iff_iff]
  cases i
  cases j
  simp
section
variable {X : Cx} {a b c : Expr} {ta tb tc : TE} {pos : Pos}
theorem fin_bl {pins : List (Addr × Obj)} {σ : St} {H : Hp} {s : Shared} {Q : VK} {k k' : Bool} (I : Inv X pins σ H s) (q : Q (.bl k) H) (e : k = k') : EP X pins σ Q (.bool k') s := by
  subst e
  exact ⟨.bl k, H, I, rfl, q⟩
theorem op_eq : OpR X (compareOp .Eq) rEq := by
  intro pins s σ H x y v u Q I rx ry h
  obtain ⟨hs, q⟩ := h
  cases x with
  | non =>
    cases rx
    cases y with
    | non => cases ry; exact PySem.EqNone.eq_none_none (fin_bl I q (by simp))
    | bl j => cases ry; exact PySem.EqNone.eq_none_bool (fin_bl I q (by simp))
    | int j => obtain ⟨t', rfl⟩ := ry; exact PySem.EqNone.eq_none_int (fin_bl I q (by simp))
    | str j => obtain ⟨t', rfl⟩ := ry; exact PySem.EqNone.eq_none_str (fin_bl I q (by simp))
    | _ => exact absurd (show false = true from hs) Bool.false_ne_true
  | bl i =>
    cases rx
    cases y with
    | non => cases ry; exact PySem.EqNone.eq_bool_none (fin_bl I q (by simp))
    | bl j => cases ry; exact eq_bool (fin_bl I q dec_bl)
    | str j => obtain ⟨t', rfl⟩ := ry; exact PySem.EqMixed.eq_bool_str (fin_bl I q (by simp))
    | _ => exact absurd (show false = true from hs) Bool.false_ne_true
  | int i =>
    obtain ⟨t, rfl⟩ := rx
    cases y with
    | non => cases ry; exact PySem.EqNone.eq_int_none (fin_bl I q (by simp))
    | int j => obtain ⟨t', rfl⟩ := ry; exact eq_int (fin_bl I q dec_int)
    | str j => obtain ⟨t', rfl⟩ := ry; exact PySem.EqMixed.eq_int_str (fin_bl I q (by simp))
    | _ => exact absurd (show false = true from hs) Bool.false_ne_true
  | str i =>
    obtain ⟨t, rfl⟩ := rx
    cases y with
    | non => cases ry; exact PySem.EqNone.eq_str_none (fin_bl I q (by simp))
    | bl j => cases ry; exact PySem.EqMixed.eq_str_bool (fin_bl I q (by simp))
    | int j => obtain ⟨t', rfl⟩ := ry; exact PySem.EqMixed.eq_str_int (fin_bl I q (by simp))
    | str j => obtain ⟨t', rfl⟩ := ry; exact eq_str (fin_bl I q dec_str)
    | _ => exact absurd (show false = true from hs) Bool.false_ne_true
  | byt i =>
    obtain ⟨t, rfl⟩ := rx
    cases y with
    | byt j => obtain ⟨t', rfl⟩ := ry; exact PySem.W.eq_bytes (fin_bl I q dec_byt)
    | _ => exact absurd (show false = true from hs) Bool.false_ne_true
  | _ => cases y <;> exact absurd (show false = true from hs) Bool.false_ne_true
theorem op_ne : OpR X (compareOp .NotEq) rNe := by
  intro pins s σ H x y v u Q I rx ry h
  obtain ⟨hs, q⟩ := h
  cases x with
  | non =>
    cases rx
    cases y with
    | non => cases ry; exact PySem.EqNone.ne_none_none (fin_bl I q (by simp))
    | bl j => cases ry; exact PySem.EqNone.ne_none_bool (fin_bl I q (by simp))
    | int j => obtain ⟨t', rfl⟩ := ry; exact PySem.EqNone.ne_none_int (fin_bl I q (by simp))
    | str j => obtain ⟨t', rfl⟩ := ry; exact PySem.EqNone.ne_none_str (fin_bl I q (by simp))
    | _ => exact absurd (show false = true from hs) Bool.false_ne_true
  | bl i =>
    cases rx
    cases y with
    | non => cases ry; exact PySem.EqNone.ne_bool_none (fin_bl I q (by simp))
    | bl j => cases ry; exact ne_bool (fin_bl I q (congrArg not dec_bl))
    | str j => obtain ⟨t', rfl⟩ := ry; exact PySem.EqMixed.ne_bool_str (fin_bl I q (by simp))
    | _ => exact absurd (show false = true from hs) Bool.false_ne_true
  | int i =>
    obtain ⟨t, rfl⟩ := rx
    cases y with
    | non => cases ry; exact PySem.EqNone.ne_int_none (fin_bl I q (by simp))
    | int j => obtain ⟨t', rfl⟩ := ry; exact ne_int (fin_bl I q (congrArg not dec_int))
    | str j => obtain ⟨t', rfl⟩ := ry; exact PySem.EqMixed.ne_int_str (fin_bl I q (by simp))
    | _ => exact absurd (show false = true from hs) Bool.false_ne_true
  | str i =>
    obtain ⟨t, rfl⟩ := rx
    cases y with
    | non => cases ry; exact PySem.EqNone.ne_str_none (fin_bl I q (by simp))
    | bl j => cases ry; exact PySem.EqMixed.ne_str_bool (fin_bl I q (by simp))
    | int j => obtain ⟨t', rfl⟩ := ry; exact PySem.EqMixed.ne_str_int (fin_bl I q (by simp))
    | str j => obtain ⟨t', rfl⟩ := ry; exact ne_str (fin_bl I q (congrArg not dec_str))
    | _ => exact absurd (show false = true from hs) Bool.false_ne_true
  | byt i =>
    obtain ⟨t, rfl⟩ := rx
    cases y with
    | byt j => obtain ⟨t', rfl⟩ := ry; exact PySem.W.ne_bytes (fin_bl I q (congrArg not dec_byt))
    | _ => exact absurd (show false = true from hs) Bool.false_ne_true
  | _ => cases y <;> exact absurd (show false = true from hs) Bool.false_ne_true
theorem op_lt : OpR X (compareOp .Lt) (rI0 fun i j => .bl (decide (i < j))) := opB0 fun _ _ _ _ _ _ _ q => lt_int q
theorem op_le : OpR X (compareOp .LtE) (rI0 fun i j => .bl (decide (i ≤ j))) := opB0 fun _ _ _ _ _ _ _ q => le_int q
theorem op_gt : OpR X (compareOp .Gt) (rI0 fun i j => .bl (decide (j < i))) := opB0 fun _ _ _ _ _ _ _ q => gt_int q
theorem op_ge : OpR X (compareOp .GtE) (rI0 fun i j => .bl (decide (j ≤ i))) := opB0 fun _ _ _ _ _ _ _ q => ge_int q
theorem op_in_str : OpR X (compareOp .In) (fun x y H Q => ∃ i j, x = .str i ∧ y = .str j ∧ Q (.bl (!(Builtin.Str.occurrences j i 0 j.length 1).isEmpty)) H) := by
  intro pins s σ H x y v u Q I rx ry h
  obtain ⟨i, j, rfl, rfl, q⟩ := h
  obtain ⟨t, rfl⟩ := rx
  obtain ⟨t', rfl⟩ := ry
  exact in_str (fin_bl I q rfl)
theorem nomark (b : Expr) {op : CmpOp} (h : op ≠ .In := by decide) (h2 : op ≠ .NotIn := by decide) : behindInMarks op b = false := by
  have e1 : (op == CmpOp.In) = false := by cases op <;> first | rfl | exact absurd rfl h
  have e2 : (op == CmpOp.NotIn) = false := by cases op <;> first | rfl | exact absurd rfl h2
  cases b <;> simp [behindInMarks, e1, e2]
theorem pe_cmpR {op : CmpOp} {r : R2} (ho : OpR X (compareOp op) r) (ha : PE X a ta) (hb : PE X b tb) (hm : behindInMarks op b = false) : PE X (.Compare a [op] [b] pos) (tOp r ta tb) := by
  intro pins s σ H Q I h
  exact wpAny_Compare1 (binT ha hb I h fun v u s2 x y H2 I2 rx ry q => ho pins s2 σ H2 x y v u Q I2 rx ry q) hm
def tTest (t : TE) : TT := fun σ H Q => t σ H fun x H' => ∃ k, x = .bl k ∧ Q k H'
theorem pt_cmpR {op : CmpOp} {r : R2} (ho : OpR X (compareOp op) r) (ha : PE X a ta) (hb : PE X b tb) (hm : behindInMarks op b = false) : PT X (.Compare a [op] [b] pos) (tTest (tOp r ta tb)) := by
  intro pins s σ H Q I h
  refine wpAny_isTrue_Compare1 (thn (ha pins s σ H _ I h) fun v s1 ⟨x, H1, I1, r1, q1⟩ => thn (hb pins s1 σ H1 _ I1 q1) fun u s2 ⟨y, H2, I2, r2, q2⟩ =>
    thn (ho pins s2 σ H2 x y v u _ I2 r1 r2 q2) fun c s3 ⟨z, H3, I3, r3, k, e, q3⟩ => ?_) hm
  subst e
  cases r3
  exact wpAny_truthy_bool ⟨H3, I3, q3⟩
def TruV (K : PySem.W.Frag) (x : V) (H : Hp) (k : Bool) : Prop :=
  match x with
  | .non => k = false
  | .bl b => k = b
  | .int i => k = (i != 0)
  | .str y => y.length ≤ sizeLine ∧ k = ((y.length : Int) != 0)
  | .byt y => y.size ≤ sizeLine ∧ k = ((y.size : Int) != 0)
  | .ref p => (∃ xs, SqL K H p xs ∧ k = !xs.isEmpty) ∨ (∃ xs, SqT K H p xs ∧ k = !xs.isEmpty) ∨ ∃ kvs, H p = some (.dK kvs) ∧ k = !kvs.isEmpty
  | _ => False
theorem isEmpty_kv {κ : Type} {kvs : List (κ × V)} {vs : List (κ × Value)} (r : KV kvs vs) : (!vs.isEmpty) = !kvs.isEmpty := by
  cases r <;> rfl
theorem isEmpty_of {xs : List V} {its : List Value} (r : Vals xs its) : (!its.toArray.isEmpty) = !xs.isEmpty := by
  cases r <;> simp
theorem line63 : (sizeLine : Nat) < 2 ^ 63 := by rw [sizeLine_eq]; decide
theorem tru_ok : TruR X (fun x H Q => ∃ k, TruV X.K x H k ∧ Q k H) := by
  intro pins s σ H x v Q I rx h
  obtain ⟨k, e, q⟩ := h
  have hl := line63
  have hs : sizeLine = 16777216 := sizeLine_eq
  cases x with
  | non =>
    cases rx
    have e' : k = false := e
    subst e'
    exact truthy_none ⟨H, I, q⟩
  | bl b =>
    cases rx
    have e' : k = b := e
    subst e'
    exact wpAny_truthy_bool ⟨H, I, q⟩
  | int i =>
    obtain ⟨t, rfl⟩ := rx
    have e' : k = (i != 0) := e
    subst e'
    exact PySem.P.truthy_int ⟨H, I, q⟩
  | str y =>
    obtain ⟨t, rfl⟩ := rx
    obtain ⟨hy, e'⟩ : y.length ≤ sizeLine ∧ k = ((y.length : Int) != 0) := e
    subst e'
    exact PySem.P.truthy_str (by omega) ⟨H, I.tok _, q⟩
  | byt y =>
    obtain ⟨t, rfl⟩ := rx
    obtain ⟨hy, e'⟩ : y.size ≤ sizeLine ∧ k = ((y.size : Int) != 0) := e
    subst e'
    exact PySem.W.truthy_bytes (by omega) ⟨H, I.tok _, q⟩
  | ref p =>
    cases rx
    have e' : (∃ xs, SqL X.K H p xs ∧ k = !xs.isEmpty) ∨ (∃ xs, SqT X.K H p xs ∧ k = !xs.isEmpty) ∨ ∃ kvs, H p = some (.dK kvs) ∧ k = !kvs.isEmpty := e
    rcases e' with ⟨xs, hx, e'⟩ | ⟨xs, hx, e'⟩ | ⟨kvs, hx, e'⟩
    · subst e'
      obtain ⟨its, r, pl, hz⟩ := I.list hx
      have hlen := r.length
      exact wpAny_truthy_list pl.isList (by simp only [List.size_toArray]; omega) ⟨H, I.tok _, by rw [isEmpty_of r]; exact q⟩
    · subst e'
      obtain ⟨its, r, pl, hz⟩ := I.tuple hx
      have hlen := r.length
      exact truthy_tuple pl (by simp only [List.size_toArray]; omega) ⟨H, I.tok _, by rw [isEmpty_of r]; exact q⟩
    · subst e'
      obtain ⟨hz, hS, vs, r, m⟩ : kvs.length ≤ sizeLine ∧ (p == sysModules) = false ∧ ∃ vs, KV kvs vs ∧ s.heap.DictOf (mixKind X.prog X.w) p vs := I.hok p _ hx
      have hlen : kvs.length = vs.length := Paired.length r
      exact wpAny_truthy_dict hS m (by omega) ⟨H, I.tok _, by rw [isEmpty_kv r]; exact q⟩
  | _ => exact (show False from e).elim
theorem pt_truth (ha : PE X a ta) (he : ∀ whole, isTrue a X.env whole = (do let v ← whole; standAt a.pos; holding [v] (truthy v))) :
    PT X a (fun σ H Q => ta σ H fun x H' => ∃ k, TruV X.K x H' k ∧ Q k H') := by
  intro pins s σ H Q I h
  exact isTrue_plain (thn (ha pins s σ H _ I h) fun v s1 ⟨x, H1, I1, r1, q1⟩ => tru_ok pins s1 σ H1 x v Q I1 r1 q1) (he _)
theorem op_add_str : OpR X (binaryOp .Add) (fun x y H Q => ∃ i j, x = .str i ∧ y = .str j ∧ i.length + j.length ≤ sizeLine ∧ Q (.str (i ++ j)) H) := by
  intro pins s σ H x y v u Q I rx ry h
  obtain ⟨i, j, rfl, rfl, hz, q⟩ := h
  obtain ⟨t, rfl⟩ := rx
  obtain ⟨t', rfl⟩ := ry
  exact add_str (fun t' tk => ⟨.str (i ++ j), H, I.tok _, ⟨_, rfl⟩, q⟩) hz
theorem vals1 {x : V} {us : List Value} (r : Vals [x] us) : ∃ u, us = [u] ∧ RelV x u := by
  cases r with
  | cons r1 r2 => cases r2; exact ⟨_, rfl, r1⟩
theorem call_abs : CallR X (.builtin "abs") (fun xs H Q => ∃ i, xs = [.int i] ∧ Q (.int (if i < 0 then -i else i)) H) := by
  intro pins s σ H xs us Q I r h
  obtain ⟨i, rfl, q⟩ := h
  obtain ⟨u, rfl, t, rfl⟩ := vals1 r
  exact call_abs_int fun u tk => ⟨.int (if i < 0 then -i else i), H, I.tok _, ⟨_, rfl⟩, q⟩
theorem call_str_int : CallR X (.type "str") (fun xs H Q => ∃ i, xs = [.int i] ∧ i.natAbs.log2 < 1920 ∧ Q (.str (toString i)) H) := by
  intro pins s σ H xs us Q I r h
  obtain ⟨i, rfl, hz, q⟩ := h
  obtain ⟨u, rfl, t, rfl⟩ := vals1 r
  exact PySem.P.str_of_int hz ⟨.str _, H, I.tok _, ⟨_, rfl⟩, q⟩
end
end L2
namespace L2
open PySem PySem.Spec PyProof.Rows
structure ObjM (h : Heap) (x dx C : Addr) (mA : Str → Option Value) : Prop where
  obj : h.get? x = some (PySem.W.instObj C dx)
  ns : h.Ns1 dx mA
  ne : dx ≠ x
theorem lookIn_ns {h : Heap} {dx : Addr} {mA : Str → Option Value} (n : h.Ns1 dx mA) : ∃ od, h.get? dx = some od ∧ ∀ name, PySem.W.lookIn name od = some (mA name) := by
  obtain ⟨o, es, ep, ho, hd, hk, _, hm⟩ := n
  refine ⟨o, ho, fun name => ?_⟩
  have e := hm name
  unfold nsFind findBy at e
  rw [← Array.find?_toList] at e
  unfold PySem.W.lookIn
  rw [hd]
  dsimp only
  split
  · rename_i y q
    rw [q] at e
    exact congrArg some e
  · rename_i q
    rw [q] at e
    have a : es.toList.any (·.refKey) = false := by
      rw [List.any_eq_false]
      intro y hy
      obtain ⟨z, t, hkey⟩ := hk y (Array.mem_toList_iff.mp hy)
      simp [DictEntry.refKey, hkey]
    have a' : ¬ es.toList.any (·.refKey) = true := by rw [a]; exact Bool.false_ne_true
    rw [if_neg a']
    exact congrArg some e
theorem ObjM.look {h : Heap} {x dx C : Addr} {mA : Str → Option Value} (I : ObjM h x dx C mA) : ∃ od, PySem.W.InstAt h x (PySem.W.instObj C dx) C (some od) ∧ ∀ name, PySem.W.lookIn name od = some (mA name) :=
  let ⟨od, ho, hl⟩ := lookIn_ns I.ns
  ⟨od, ⟨I.obj, rfl, rfl, ho⟩, hl⟩
section
variable {prog : Program} {w : World} {A : Around} {E : Value → Shared → Prop} {s : Shared} {K : PySem.W.Frag} {x dx C f : Addr} {mA : Str → Option Value} {name : Str} {v : Value}
theorem get_map {expr : Bool} {Q : Value → Shared → Prop} (X : K.In s.heap) (I : ObjM s.heap x dx C mA) (hg : PySem.W.plainGet K C name = true) (hh : PySem.W.hasDictIn K C = true)
    (ha : PySem.W.findIn K (.ref C) name = some none) (hv : mA name = some v) (hv' : PySem.W.handedIn v = true) (h : Q v { s with toks := s.toks + 1 }) :
    wpAny (model prog w) A (getAttr (.ref x) name expr) Q E s := by
  obtain ⟨od, J, hl⟩ := I.look
  exact PySem.W.get_value X J (PySem.W.plainGet_of hg).1 (PySem.W.findObj_own hh ha rfl (by rw [hl, hv])) hv' h
theorem get_meth {pl : Sem Bool} {Q : Value × List Value → Shared → Prop} (X : K.In s.heap) (I : ObjM s.heap x dx C mA) (hg : PySem.W.plainGet K C name = true)
    (hf : PySem.W.findIn K (.ref C) name = some (some (.ref f))) (ht : PySem.W.isFn K (.ref f) = true) (hv : mA name = none) (h : Q (.ref f, [.ref x]) s) :
    wpAny (model prog w) A (getMethod (.ref x) name pl) Q E s := by
  obtain ⟨od, J, hl⟩ := I.look
  exact PySem.W.method_fn X J (PySem.W.plainGet_of hg).1 (PySem.W.plainGet_of hg).2 hf (beq_iff_eq.mp ht) (by show (PySem.W.lookIn name od).map (·.isSome) = some false; rw [hl, hv]; rfl) h
theorem set_map {ns : List Str} {Q : Unit → Shared → Prop} (X : K.In s.heap) (I : ObjM s.heap x dx C mA)
    (hs : PySem.W.findIn K (.ref C) "__setattr__" = some (some (.builtin "object.__setattr__"))) (hp : PySem.W.plainOver K C = true) (ht : PySem.W.takerIn K C name = some none) (hh : PySem.W.hasDictIn K C = true)
    (hw : PySem.Within mA ns) (hsz : ns.length ≤ sizeLine)
    (h : ∀ h', ObjM h' x dx C (fun y => if y = name then some v else mA y) → Heap.SameBut dx s.heap h' → Q () { s with heap := h', toks := s.toks + 2 }) :
    wpAny (model prog w) A (setAttr (.ref x) name v) Q E s := by
  obtain ⟨od, J, hl⟩ := I.look
  refine PySem.W.set_plain X J hs (PySem.W.osa_open (s := { s with toks := s.toks + 1 }) (r := none) X J hp ht fun b => ?_)
  obtain ⟨cd, hc, hd'⟩ := PySem.W.any_some hh
  have hx : s.heap.get? x = some ⟨.ref C, some dx, .plain, #[]⟩ := I.obj
  refine wpAny_bind (wpAny_pure (wpAny_bind (wpAny_bind (wpAny_loadPart hx (wpAny_bind (PySem.W.Looks.here (s := { s with toks := s.toks + 1 }) (PySem.W.looks_clsIn X hc) ?_))))))
  rw [hd']
  refine wpAny_pure (a := some dx) (wpAny_bind (wpAny_pure (wpAny_bind ?_)))
  refine wpAny_nsSet1 (s := { s with toks := s.toks + 1 }) I.ns fun h' hn2 hs2 => ?_
  obtain ⟨oD, esD, epD, hoD, hdD, hcD⟩ := hn2.count (PySem.Within.cons name v hw)
  refine wpAny_bind (wpAny_lookBehind hoD (by rw [hdD]; exact pastItsLine_dict (Nat.le_trans hcD (by rw [List.length_cons]; omega))) ?_)
  exact wpAny_pure (h _ ⟨(hs2.2 _ (Ne.symm I.ne)).trans I.obj, hn2, I.ne⟩ hs2)
theorem make_map {R : Result → Shared → Prop} {vs : List Value} {kw : List (Str × Value)} (X : K.In s.heap) (hm : PySem.W.makesIn K C = true)
    (hi : PySem.W.findIn K (.ref C) "__init__" = some (some (.ref f))) (hf : PySem.W.typeIn K (.ref f) = some (.type "function"))
    (h : codeAny (model prog w) (A.under (.builtin "type.__call__" ⟨.ref C :: vs, kw⟩)) (.call (.ref f) ⟨.ref (s.heap.objs.size + 1) :: vs, kw⟩) (PySem.W.InitBack (s.heap.objs.size + 1) R)
      { s with heap := (s.heap.push PySem.W.emptyDict).push (PySem.W.instObj C s.heap.objs.size) }) :
    codeAny (model prog w) A (.call (.ref C) ⟨vs, kw⟩) R s := by
  obtain ⟨hh, g, d, t, os⟩ := s
  exact PySem.W.make_core (PySem.W.makes_of X hm) (PySem.W.looks_findIn X hi) (fun self => PySem.W.bind_fn X self hf) (.inl rfl) h
end
def putF (f : Str) (v : V) : List (Str × V) → List (Str × V)
  | [] => [(f, v)]
  | (g, x) :: r => if g = f then (g, v) :: r else (g, x) :: putF f v r
theorem lookup_putF (f g : Str) (v : V) : ∀ fs : List (Str × V), (putF f v fs).lookup g = if g = f then some v else fs.lookup g
  | [] => by
    show List.lookup g [(f, v)] = _
    by_cases h : g = f
    · have hb : (g == f) = true := beq_iff_eq.mpr h
      simp only [List.lookup, hb, if_pos h]
    · have hb : (g == f) = false := beq_eq_false_iff_ne.mpr h
      simp only [List.lookup, hb, if_neg h]
  | (k, x) :: r => by
    have ih := lookup_putF f g v r
    rw [show putF f v ((k, x) :: r) = (if k = f then (k, v) :: r else (k, x) :: putF f v r) from rfl]
    by_cases hk : k = f
    · rw [if_pos hk]
      by_cases h : g = k
      · have hb : (g == k) = true := beq_iff_eq.mpr h
        simp only [List.lookup, hb, if_pos (h.trans hk)]
      · have hb : (g == k) = false := beq_eq_false_iff_ne.mpr h
        simp only [List.lookup, hb, if_neg (fun e : g = f => h (e.trans hk.symm))]
    · rw [if_neg hk]
      by_cases h : g = k
      · have hb : (g == k) = true := beq_iff_eq.mpr h
        simp only [List.lookup, hb, if_neg (fun e : g = f => hk (h.symm.trans e))]
      · have hb : (g == k) = false := beq_eq_false_iff_ne.mpr h
        simp only [List.lookup, hb]
        exact ih
theorem keys_putF (f : Str) (v : V) : ∀ fs : List (Str × V), f ∈ (putF f v fs).map (·.1) ∧ ∀ g, g ∈ fs.map (·.1) → g ∈ (putF f v fs).map (·.1)
  | [] => ⟨by simp [putF], fun g h => by simp at h⟩
  | (k, x) :: r => by
    obtain ⟨i1, i2⟩ := keys_putF f v r
    rw [show putF f v ((k, x) :: r) = (if k = f then (k, v) :: r else (k, x) :: putF f v r) from rfl]
    by_cases hk : k = f
    · rw [if_pos hk]
      subst hk
      exact ⟨by simp, fun g h => by simpa using h⟩
    · rw [if_neg hk]
      refine ⟨?_, fun g h => ?_⟩
      · rw [List.map_cons]
        exact List.mem_cons_of_mem _ i1
      · rw [List.map_cons] at h ⊢
        rcases List.mem_cons.mp h with e | e
        · exact List.mem_cons.mpr (.inl e)
        · exact List.mem_cons_of_mem _ (i2 g e)
theorem length_putF (f : Str) (v : V) : ∀ fs : List (Str × V), (putF f v fs).length ≤ fs.length + 1
  | [] => by simp [putF]
  | (k, x) :: r => by
    have ih := length_putF f v r
    rw [show putF f v ((k, x) :: r) = (if k = f then (k, v) :: r else (k, x) :: putF f v r) from rfl]
    by_cases hk : k = f
    · rw [if_pos hk, List.length_cons, List.length_cons]; omega
    · rw [if_neg hk, List.length_cons, List.length_cons]; omega
theorem RelO.some_of {v : V} {o : Option Value} (r : RelO (some v) o) : ∃ u, o = some u ∧ RelV v u := by
  cases o with
  | none => exact (show False from r).elim
  | some u => exact ⟨u, rfl, r⟩
theorem RelO.none_of {o : Option Value} (r : RelO none o) : o = none := by
  cases o with
  | none => rfl
  | some u => exact (show False from r).elim
theorem handed_of {v : V} {u : Value} (r : RelV v u) : PySem.W.handedIn u = true := by
  cases v with
  | non => cases (show u = Value.none from r); rfl
  | bl b => cases (show u = Value.bool b from r); rfl
  | int i => obtain ⟨t, e⟩ := (show ∃ t, u = Value.int i t from r); cases e; rfl
  | str x => obtain ⟨t, e⟩ := (show ∃ t, u = Value.str x t from r); cases e; rfl
  | byt b => obtain ⟨t, e⟩ := (show ∃ t, u = Value.bytes b t from r); cases e; rfl
  | flt b => obtain ⟨t, e⟩ := (show ∃ t, u = Value.float b t from r); cases e; rfl
  | ref a => cases (show u = Value.ref a from r); rfl
  | ty n => cases (show u = Value.type n from r); rfl
section
variable {P : Program} {w : World} {H H' : Hp} {h h' : Heap} {a C dx : Addr} {fs fs' : List (Str × V)}
theorem ins_get (hok : HOk P w H h) (e : H a = some (.ins C dx fs)) : ∃ mA, ObjM h a dx C mA ∧ (∀ f, RelO (fs.lookup f) (mA f)) ∧ PySem.Within mA (fs.map (·.1)) ∧ fs.length ≤ 1000 ∧ H dx = some (.own a) := by
  obtain ⟨d, z, ne, ob, mA, n, r, q⟩ := (show ObjOk P w H h a (.ins C dx fs) from hok a _ e)
  exact ⟨mA, ⟨ob, n, ne⟩, r, q, z, d⟩
end
structure Cls (K : PySem.W.Frag) (C : Addr) : Prop where
  pg : PySem.W.plainGet K C Str.empty = true
  hd : PySem.W.hasDictIn K C = true
  po : PySem.W.plainOver K C = true
  sa : PySem.W.findIn K (.ref C) "__setattr__" = some (some (.builtin "object.__setattr__"))
theorem Cls.get {K : PySem.W.Frag} {C : Addr} (c : Cls K C) (f : Str) : PySem.W.plainGet K C f = true := c.pg
def NoAttr (K : PySem.W.Frag) (C : Addr) (f : Str) : Prop := PySem.W.findIn K (.ref C) f = some none
theorem NoAttr.taker {K : PySem.W.Frag} {C : Addr} {f : Str} (n : NoAttr K C f) : PySem.W.takerIn K C f = some none := by
  unfold PySem.W.takerIn
  rw [show PySem.W.findIn K (.ref C) f = some none from n]
  rfl
structure Meth (K : PySem.W.Frag) (C : Addr) (m : Str) (f : Addr) : Prop where
  at_ : PySem.W.findIn K (.ref C) m = some (some (.ref f))
  fn : PySem.W.isFn K (.ref f) = true
  kp : PySem.W.keepIn K (.ref f) = true
section
variable {X : Cx} {pins : List (Addr × Obj)} {σ : St} {H : Hp} {s : Shared} {a C dx : Addr} {fs : List (Str × V)} {f : Str} {v : V} {A : Around} {E : Value → Shared → Prop}
theorem getattr_ok {b : Bool} {Q : Value → Shared → Prop} (I : Inv X pins σ H s) (e : H a = some (.ins C dx fs)) (c : Cls X.K C) (n : NoAttr X.K C f) (l : fs.lookup f = some v)
    (h : ∀ u s', Inv X pins σ H s' → RelV v u → Q u s') : wpAny (model X.prog X.w) A (getAttr (.ref a) f b) Q E s := by
  obtain ⟨mA, O, r, _, _, _⟩ := ins_get I.hok e
  obtain ⟨u, hu, ru⟩ := RelO.some_of (v := v) (o := mA f) (by rw [← l]; exact r f)
  exact get_map I.kIn O (c.get f) c.hd n hu (handed_of ru) (h u _ (I.tok _) ru)
theorem getmeth_ok {m : Str} {g : Addr} {pl : Sem Bool} {Q : Value × List Value → Shared → Prop} (I : Inv X pins σ H s) (e : H a = some (.ins C dx fs)) (c : Cls X.K C) (k : Meth X.K C m g) (l : fs.lookup m = none)
    (h : Q (.ref g, [.ref a]) s) : wpAny (model X.prog X.w) A (getMethod (.ref a) m pl) Q E s := by
  obtain ⟨mA, O, r, _, _, _⟩ := ins_get I.hok e
  have hn : mA m = none := RelO.none_of (by rw [← l]; exact r m)
  exact get_meth I.kIn O (c.get m) k.at_ k.fn hn h
theorem setattr_ok {y : V} {u : Value} {Q : Unit → Shared → Prop} (I : Inv X pins σ H s) (e : H a = some (.ins C dx fs)) (c : Cls X.K C) (n : NoAttr X.K C f) (hl : fs.length < 1000) (ry : RelV y u)
    (h : ∀ s', Inv X pins σ (upd H a (.ins C dx (putF f y fs))) s' → Q () s') : wpAny (model X.prog X.w) A (setAttr (.ref a) f u) Q E s := by
  obtain ⟨mA, O, r, wi, _, ho⟩ := ins_get I.hok e
  have hz : (fs.map (·.1)).length ≤ sizeLine := by rw [List.length_map, sizeLine_eq]; omega
  refine set_map I.kIn O c.sa c.po n.taker c.hd wi hz fun h' O' sb => h _ ?_
  have hd : ∃ o, h'.get? dx = some o := let ⟨o, _, _, e', _⟩ := O'.ns; ⟨o, e'⟩
  refine I.write (x := a) (e := dx) (by rw [e]; exact True.intro) (.inr ho) (fun b q hb z => (sb.2 b hb).trans z) hd ?_
  refine ⟨by rw [upd_ne O.ne]; exact ho, ?_, O.ne, O'.obj, _, O'.ns, fun g => ?_, fun g hg => ?_⟩
  · have := length_putF f y fs; omega
  · show RelO ((putF f y fs).lookup g) (if g = f then some u else mA g)
    rw [lookup_putF]
    by_cases q : g = f
    · rw [if_pos q, if_pos q]; exact ry
    · rw [if_neg q, if_neg q]; exact r g
  · by_cases q : g = f
    · rw [q]; exact (keys_putF f y fs).1
    · refine (keys_putF f y fs).2 g (wi g fun z => hg ?_)
      show (if g = f then some u else mA g) = none
      rw [if_neg q]; exact z
theorem Inv.made (I : Inv X pins σ H s) : Inv X pins σ (upd (upd H s.heap.objs.size (.own (s.heap.objs.size + 1))) (s.heap.objs.size + 1) (.ins C s.heap.objs.size []))
    { s with heap := (s.heap.push PySem.W.emptyDict).push (PySem.W.instObj C s.heap.objs.size) } := by
  have e1 : (s.heap.push PySem.W.emptyDict).get? s.heap.objs.size = some PySem.W.emptyDict := Heap.get?_push_size s.heap rfl
  have e2 : ((s.heap.push PySem.W.emptyDict).push (PySem.W.instObj C s.heap.objs.size)).get? (s.heap.objs.size + 1) = some (PySem.W.instObj C s.heap.objs.size) := by
    have := Heap.get?_push_size (s.heap.push PySem.W.emptyDict) (o := PySem.W.instObj C s.heap.objs.size) rfl
    rwa [Heap.size_push] at this
  have e3 : (s.heap.push PySem.W.emptyDict).Ns s.heap.objs.size (fun _ => none) := ⟨PySem.W.emptyDict, #[], _, e1, rfl, (fun e he => absurd he (by simp)), fun _ => rfl⟩
  have I1 := I.laid (a := s.heap.objs.size) (o := .own (s.heap.objs.size + 1)) (h' := s.heap.push PySem.W.emptyDict) (t' := s.toks) (fun b u q => Heap.get?_push_of_some _ q) (Nat.le_refl _) ⟨_, e1⟩
  refine I1.laid (a := s.heap.objs.size + 1) (o := .ins C s.heap.objs.size []) (t' := s.toks) (fun b u q => Heap.get?_push_of_some _ q) (Nat.le_of_eq (Heap.size_push _ _)) ?_
  have ne : s.heap.objs.size ≠ s.heap.objs.size + 1 := Nat.ne_of_lt (Nat.lt_succ_self _)
  refine ⟨by rw [upd_ne ne, upd_same], Nat.zero_le _, ne, e2, fun _ => none, (Heap.Ns1.of_empty e3).at fun o q => Heap.get?_push_of_some _ q, fun _ => True.intro, fun y hy => absurd rfl hy⟩
theorem attr_of {prog : Program} {w : World} {env : Env} {e : Expr} {f : Str} {pos : Pos} {s : Shared} {Q : Value → Shared → Prop} (hb : attributeBase e f env (eval e env) = eval e env)
    (h : wpAny (model prog w) A (eval e env) (fun o s₁ => wpAny (model prog w) A (getAttr o f true) Q E s₁) E s) : wpAny (model prog w) A (eval (.Attribute e f pos) env) Q E s :=
  Attribute_any_ h (by rw [arm_eval_Attribute, hb])
end
def tFld (K : PySem.W.Frag) (ta : TE) (f : Str) : TE := fun σ H Q => ta σ H fun x H1 => ∃ a C dx fs v, x = .ref a ∧ H1 a = some (.ins C dx fs) ∧ Cls K C ∧ NoAttr K C f ∧ fs.lookup f = some v ∧ Q v H1
def sFld (K : PySem.W.Frag) (ta tv : TE) (f : Str) : TS := fun D σ H => tv σ H fun y H1 => ta σ H1 fun x H2 => ∃ a C dx fs, x = .ref a ∧ H2 a = some (.ins C dx fs) ∧ Cls K C ∧ NoAttr K C f ∧ fs.length < 1000 ∧
  D.nx σ (upd H2 a (.ins C dx (putF f y fs)))
section
variable {X : Cx} {o e value : Expr} {f : Str} {pos pos' tpos : Pos} {ta tv : TE}
theorem pe_fld (he : PE X e ta) (hb : attributeBase e f X.env (eval e X.env) = eval e X.env) : PE X (.Attribute e f pos) (tFld X.K ta f) := by
  intro pins s σ H Q I h
  refine attr_of hb (thn (he pins s σ H _ I h) fun u s1 ⟨x, H1, I1, rx, a, C, dx, fs, v, ex, ea, c, n, l, q⟩ => ?_)
  subst ex
  obtain rfl : u = Value.ref a := rx
  exact getattr_ok I1 ea c n l fun u' s2 I2 ru => ⟨v, H1, I2, ru, q⟩
theorem ps_fld (ha : PE X o ta) (hv : PE X value tv) (hs : swapsWith value (some (.Attribute o f pos')) pos.line X.env = pure false) : PS X (.Assign [.Attribute o f pos'] value pos) (sFld X.K ta tv f) := by
  intro pins s σ H D I h
  refine plainObj_wpAny_Assign_Attribute (thn (hv pins s σ H _ I h) fun u s1 ⟨y, H1, I1, ry, q⟩ => thn (ha pins s1 σ H1 _ I1 q) fun ov s2 ⟨x, H2, I2, rx, a, C, dx, fs, ex, ea, c, n, l, q2⟩ => ?_) hs
  subst ex
  obtain rfl : ov = Value.ref a := rx
  exact setattr_ok I2 ea c n l ry fun s3 I3 => ⟨σ, _, I3, q2⟩
end
section
variable {X : Cx} {pins : List (Addr × Obj)} {σ : St} {H : Hp} {s : Shared} {A : Around} {E : Value → Shared → Prop} {Q : Value → Shared → Prop} {c : Value} {b : Bool}
inductive TyOf (K : PySem.W.Frag) (H : Hp) : V → Value → Prop where
  | non : TyOf K H .non (.type "NoneType")
  | bl (x : Bool) : TyOf K H (.bl x) (.type "bool")
  | int (i : Int) : TyOf K H (.int i) (.type "int")
  | str (x : Str) : TyOf K H (.str x) (.type "str")
  | flt (x : UInt64) : TyOf K H (.flt x) (.type "float")
  | lst {a : Addr} {xs : List V} (e : H a = some (.lst xs)) : TyOf K H (.ref a) (.type "list")
  | frz {a : Addr} {o : Obj} {xs : List V} (e : H a = some (.frz o (.lst xs))) : TyOf K H (.ref a) (.type "list")
  | tup {a : Addr} {xs : List V} (e : H a = some (.tup xs)) : TyOf K H (.ref a) (.type "tuple")
  | dK {a : Addr} {kvs : List (Key × V)} (e : H a = some (.dK kvs)) : TyOf K H (.ref a) (.type "dict")
  | dT {a : Addr} {kvs : List (List Key × V)} (e : H a = some (.dT kvs)) : TyOf K H (.ref a) (.type "dict")
  | ins {a C dx : Addr} {fs : List (Str × V)} (e : H a = some (.ins C dx fs)) (cl : Cls K C) (ha : PySem.W.findIn K (.ref C) "__class__" = some (some (.builtin "object.__class__")))
      (hn : PySem.W.specialIn K (.builtin "object.__class__") "__get__" = some (some (.builtin "getset_descriptor.__get__"))) (htk : PySem.W.takesIn K (.builtin "object.__class__") = some true)
      (hm : PySem.W.mroIn K C (.type "object") = some true) : TyOf K H (.ref a) (.ref C)
theorem isinst_ok {x : V} {u t : Value} (I : Inv X pins σ H s) (rx : RelV x u) (ty : TyOf X.K H x t) (e : PySem.W.kitOne X.K t c = some b) (h : ∀ tk, Q (.bool b) { s with toks := tk }) :
    wpAny (model X.prog X.w) A (call (.builtin "isinstance") [u, c]) Q E s := by
  cases ty with
  | non => cases (show u = Value.none from rx); exact PySem.W.kia_one PySem.W.kitx_none I.kIn True.intro e (fun z => nomatch z) h
  | bl y => cases (show u = Value.bool y from rx); exact PySem.W.kia_one PySem.W.kitx_bool I.kIn True.intro e (fun z => nomatch z) h
  | int i => obtain ⟨t, q⟩ := (show ∃ t, u = Value.int i t from rx); cases q; exact PySem.W.kia_one PySem.W.kitx_int I.kIn True.intro e (fun z => nomatch z) h
  | str y => obtain ⟨t, q⟩ := (show ∃ t, u = Value.str y t from rx); cases q; exact PySem.W.kia_one PySem.W.kitx_str I.kIn True.intro e (fun z => nomatch z) h
  | flt y => obtain ⟨t, q⟩ := (show ∃ t, u = Value.float y t from rx); cases q; exact PySem.W.kia_one PySem.W.kitx_float I.kIn True.intro e (fun z => nomatch z) h
  | @lst a xs ea =>
    cases (show u = Value.ref a from rx)
    obtain ⟨_, _, n, _, h1⟩ := (show ObjOk X.prog X.w H s.heap a (.lst xs) from I.hok a _ ea)
    exact PySem.W.kia_one PySem.W.kitx_list I.kIn ⟨_, h1, rfl⟩ e (fun z => nomatch z) h
  | @frz a ob xs ea =>
    cases (show u = Value.ref a from rx)
    obtain ⟨_, _, _, n, _, h1⟩ := (show ObjOk X.prog X.w H s.heap a (.frz ob (.lst xs)) from I.hok a _ ea)
    exact PySem.W.kia_one PySem.W.kitx_list I.kIn ⟨_, h1, rfl⟩ e (fun z => nomatch z) h
  | @tup a xs ea =>
    cases (show u = Value.ref a from rx)
    obtain ⟨_, _, _, p⟩ := (show ObjOk X.prog X.w H s.heap a (.tup xs) from I.hok a _ ea)
    obtain ⟨o, h1, h2, _⟩ := p
    exact PySem.W.kia_one PySem.W.kitx_tuple I.kIn ⟨o, h1, h2⟩ e (fun z => nomatch z) h
  | @dK a kvs ea =>
    cases (show u = Value.ref a from rx)
    obtain ⟨_, _, vs, _, p⟩ := (show ObjOk X.prog X.w H s.heap a (.dK kvs) from I.hok a _ ea)
    obtain ⟨o, es, ep, h1, h2, _⟩ := p
    exact PySem.W.kia_one PySem.W.kitx_dict I.kIn ⟨o, h1, h2.1⟩ e (fun z => nomatch z) h
  | @dT a kvs ea =>
    cases (show u = Value.ref a from rx)
    obtain ⟨_, _, xs, _, o, es, ep, h1, h2, _⟩ := (show ObjOk X.prog X.w H s.heap a (.dT kvs) from I.hok a _ ea)
    exact PySem.W.kia_one PySem.W.kitx_dict I.kIn ⟨o, h1, h2.1⟩ e (fun z => nomatch z) h
  | @ins a C dx fs ea cl ha hn htk hm =>
    cases (show u = Value.ref a from rx)
    obtain ⟨mA, O, _⟩ := ins_get I.hok ea
    obtain ⟨od, J, _⟩ := O.look
    exact PySem.W.kia_one (PySem.W.kitx_own (cl.get _) cl.hd ha hn htk hm) I.kIn J e (fun z => nomatch z) h
end
end L2
namespace L2
open PySem PySem.Spec PyProof.Rows
structure Room (k : Nat) (A : Around) : Prop where
  hd : A.handled = none
  dp : A.depth + 3 * k + 5 < recursionLimit
  un : A.units + 16 * k + 200 < cLine
theorem Room.mono {j k : Nat} {A : Around} (r : Room k A) (h : j ≤ k) : Room j A := ⟨r.hd, by have := r.dp; omega, by have := r.un; omega⟩
theorem Room.deeper {k : Nat} {A : Around} (r : Room (k + 1) A) (env : Env) : Room k (A.deeper env) :=
  ⟨r.hd, by have := r.dp; show A.depth + 1 + 3 * k + 5 < _; omega, by have := r.un; show A.units + 3 + 16 * k + 200 < _; omega⟩
theorem make_depth {A : Around} {C : Addr} {us : List Value} {kw : List (Str × Value)} : (A.under (.builtin "type.__call__" ⟨.ref C :: us, kw⟩)).depth = A.depth + 1 := by
  first | rfl | simp [Around.under, Code.weight, Code.isCreation, Code.isGuard, Code.isCaller, Code.frames, Code.isFrame, guardIds]
theorem make_units {A : Around} {C : Addr} {us : List Value} {kw : List (Str × Value)} : (A.under (.builtin "type.__call__" ⟨.ref C :: us, kw⟩)).units = A.units + 1 := by
  first | rfl | simp [Around.under, Code.cUnits, Code.frames, Code.isFrame]
theorem Room.make {k : Nat} {A : Around} (r : Room (k + 1) A) (C : Addr) (us : List Value) (kw : List (Str × Value)) : Room k (A.under (.builtin "type.__call__" ⟨.ref C :: us, kw⟩)) :=
  ⟨r.hd, by have := r.dp; rw [make_depth]; omega, by have := r.un; rw [make_units]; omega⟩
theorem Room.depth {k : Nat} {A : Around} (r : Room k A) : A.depth < recursionLimit := by have := r.dp; omega
theorem Room.units {k : Nat} {A : Around} (r : Room k A) : A.units + 64 < cLine := by have := r.un; omega
def tNil : TA := fun _ H Q => Q [] H
def tCons (ta : TE) (tr : TA) : TA := fun σ H Q => ta σ H fun x H1 => tr σ H1 fun xs H2 => Q (x :: xs) H2
section
variable {X : Cx} {e : Expr} {es : List Expr} {te : TE} {t : TA} {pos : Pos}
theorem pa_nil : PA X [] tNil := fun _ _ _ _ H Q I h => Calls.spliced_nil ⟨[], H, I, .nil, h⟩
theorem pa_cons (ha : PE X e te) (hr : PA X es t) (hs : starEach (e :: es) X.env = (false, eval e X.env) :: starEach es X.env := by rfl) : PA X (e :: es) (tCons te t) := by
  intro pos pins s σ H Q I h
  rw [hs]
  show wpAny _ _ (spliced ((false, eval e X.env) :: backTo pos (starEach es X.env))) _ _ s
  refine Calls.spliced_cons (thn (ha pins s σ H _ I h) fun u s1 ⟨x, H1, I1, r1, q1⟩ => ?_)
  exact thn (hr pos pins s1 σ H1 _ I1 q1) fun us s2 ⟨xs, H2, I2, r2, q2⟩ => ⟨x :: xs, H2, I2, .cons r1 r2, q2⟩
def tTup (t : TA) : TE := fun σ H Q => t σ H fun xs H1 => xs.length ≤ sizeLine ∧ ∀ p, H1 p = none → Q (.ref p) (upd H1 p (.tup xs))
def tLst (t : TA) : TE := fun σ H Q => t σ H fun xs H1 => xs.length ≤ sizeLine ∧ ∀ p, H1 p = none → Q (.ref p) (upd H1 p (.lst xs))
theorem pe_tup {x1} (h : PA X es t) : PE X (.Tuple es x1 pos) (tTup t) := by
  intro pins s σ H Q I hq
  refine wpAny_Tuple_spliced (thn (h pos pins s σ H _ I hq) fun us s1 ⟨xs, H1, I1, r, z, q⟩ => ⟨by rw [← r.length]; exact z, ?_⟩)
  have hf : H1 s1.heap.objs.size = none := I1.hok.fresh (Nat.le_refl _)
  refine ⟨.ref s1.heap.objs.size, upd H1 s1.heap.objs.size (.tup xs), I1.laid (t' := s1.toks) (fun b u e => Heap.get?_push_of_some _ e) (Nat.le_refl _) ?_, rfl, q _ hf⟩
  exact ⟨z, us, r, ⟨_, Heap.get?_push_size _ rfl, rfl, _, rfl⟩⟩
theorem pe_lst (h : PA X es t) : PE X (.List es pos) (tLst t) := by
  intro pins s σ H Q I hq
  refine wpAny_List_spliced (thn (h pos pins s σ H _ I hq) fun us s1 ⟨xs, H1, I1, r, z, q⟩ => ⟨by rw [← r.length]; exact z, ?_⟩)
  have hf : H1 s1.heap.objs.size = none := I1.hok.fresh (Nat.le_refl _)
  refine ⟨.ref s1.heap.objs.size, upd H1 s1.heap.objs.size (.lst xs), I1.laid (t' := s1.toks) (fun b u e => Heap.get?_push_of_some _ e) (Nat.le_refl _) ?_, rfl, q _ hf⟩
  exact ⟨z, us, 0, r, Heap.get?_push_size _ rfl⟩
end
abbrev Sp := List V → Hp → VK → XK → Prop
abbrev CXT := List Env → Hp → Shared → XK → Value → Shared → Prop
structure Env0 (P : Program) (w : World) (K : PySem.W.Frag) (mg : Str → Option Value) (base : Heap) (A : Around) (outer : List Env) (s : Shared) (H : Hp) : Prop where
  frames : A.frames = some outer
  mod : Mod K mg base
  bs : ∀ b o, base.get? b = some o → s.heap.get? b = some o ∧ H b = none
  bsz : base.objs.size ≤ s.heap.objs.size
  funs : s.heap.FunFrames base outer
  frf : ∀ b ∈ frs outer, H b = none
  hok : HOk P w H s.heap
  bare : AllBare s.gens
def CE (outer : List Env) (P : Program) (w : World) (H : Hp) (s : Shared) (Q : VK) (u : Value) (s' : Shared) : Prop :=
  ∃ v H', s'.os = s.os ∧ AllBare s'.gens ∧ Un (frs outer) [] H H' s.heap s'.heap ∧ HOk P w H' s'.heap ∧ RelV v u ∧ Q v H'
def CR (CX : CXT) (outer : List Env) (P : Program) (w : World) (H : Hp) (s : Shared) (Q : VK) (E : XK) (r : Result) (s' : Shared) : Prop :=
  match r with
  | .ok (.ret u) => CE outer P w H s Q u s'
  | .ok _ => False
  | .error e => CX outer H s E e s'
structure FnOk (P : Program) (w : World) (K : PySem.W.Frag) (mg : Str → Option Value) (base : Heap) (CX : CXT) (k : Nat) (f : Addr) (fd : FuncData) (ps : List Str) (sp : Sp) : Prop where
  len : ∀ vs H Q E, sp vs H Q E → vs.length = ps.length
  run : ∀ (A : Around) (outer : List Env) (s : Shared) (H : Hp) (args : Args) (us : List Value) (vs : List V) (Q : VK) (E : XK), Room k A → Env0 P w K mg base A outer s H → BindsTo s fd args (ps.zip us) → Vals vs us → sp vs H Q E →
    codeAny (model P w) A (.call (.ref f) args) (CR CX outer P w H s Q E) s
theorem FnOk.mono {P : Program} {w : World} {K : PySem.W.Frag} {mg : Str → Option Value} {base : Heap} {CX : CXT} {j k : Nat} {f : Addr} {fd : FuncData} {ps : List Str} {sp : Sp} (F : FnOk P w K mg base CX j f fd ps sp) (h : j ≤ k) :
    FnOk P w K mg base CX k f fd ps sp := ⟨F.len, fun A outer s H args us vs Q E hr => F.run A outer s H args us vs Q E (hr.mono h)⟩
theorem Env0.make {P : Program} {w : World} {K : PySem.W.Frag} {mg : Str → Option Value} {base : Heap} {A : Around} {outer : List Env} {s : Shared} {H : Hp} (e : Env0 P w K mg base A outer s H) (C : Addr) (us : List Value) (kw : List (Str × Value)) :
    Env0 P w K mg base (A.under (.builtin "type.__call__" ⟨.ref C :: us, kw⟩)) outer s H := ⟨by first | exact e.frames | (simpa [Around.under, Code.envs, Code.isFrame, pushEnvs] using e.frames), e.mod, e.bs, e.bsz, e.funs, e.frf, e.hok, e.bare⟩
section
variable {X : Cx} {pins : List (Addr × Obj)} {σ : St} {H : Hp} {s s' : Shared}
theorem Inv.env0 (I : Inv X pins σ H s) : Env0 X.prog X.w X.K X.mg X.base X.A X.stack s H :=
  ⟨I.ok.frames, I.ok.mod, I.bs, Nat.le_trans I.ok.bsz I.sz, I.stack, I.stkFree, I.hok, I.bare⟩
theorem Inv.after {Q : VK} {u : Value} (I : Inv X pins σ H s) (h : CE X.stack X.prog X.w H s Q u s') : EP X pins σ Q u s' := by
  obtain ⟨v, H', os, bare, un, hok, r, q⟩ := h
  obtain ⟨hh, g, d, t, os'⟩ := s'
  obtain rfl : os' = s.os := os
  exact ⟨v, H', I.call (h' := hh) (g' := g) (d' := d) (t' := t) (ch := []) un hok bare (fun b z => absurd z (by simp)), r, q⟩
end
def tCall (sp : Sp) (dvs : List V) (E : XK) (t : TA) : TE := fun σ H Q => t σ H fun vs H1 => sp (vs ++ dvs) H1 Q E
def tMeth (C : Addr) (m : Str) (sp : Sp) (dvs : List V) (E : XK) (ta : TE) (t : TA) : TE := fun σ H Q => ta σ H fun x H1 => ∃ a dx fs, x = .ref a ∧ H1 a = some (.ins C dx fs) ∧ fs.lookup m = none ∧
  t σ H1 fun vs H2 => sp (x :: (vs ++ dvs)) H2 Q E
def tMake (C : Addr) (sp : Sp) (dvs : List V) (E : XK) (t : TA) : TE := fun σ H Q => t σ H fun vs H1 => ∀ x dx, H1 x = none → H1 dx = none → dx ≠ x →
  sp (.ref x :: (vs ++ dvs)) (upd (upd H1 dx (.own x)) x (.ins C dx [])) (fun v H2 => v = .non ∧ Q (.ref x) H2) E
def Binds (K : PySem.W.Frag) (fd : FuncData) (ps : List Str) (ds : List Value) : Prop :=
  ∀ (s : Shared) (us : List Value), K.In s.heap → (us ++ ds).length = ps.length → BindsTo s fd ⟨us, []⟩ (ps.zip (us ++ ds))
theorem Binds.all {K : PySem.W.Frag} {fd : FuncData} {ps : List Str} (h : ∀ us : List Value, us.length = ps.length → bindArgs fd ⟨us, []⟩ = pure (ps.zip us)) : Binds K fd ps [] := fun s us _ hl => by
  rw [List.append_nil] at hl ⊢
  exact .of_eq (h us hl)
def Passes (CX : CXT) (X : Cx) (E : XK) : Prop := ∀ (pins : List (Addr × Obj)) (σ : St) (H : Hp) (s : Shared) (e : Value) (s' : Shared), Inv X pins σ H s → CX X.stack H s E e s' → X.xe e s'
section
variable {X : Cx} {CX : CXT} {k : Nat} {f C : Addr} {fd : FuncData} {ps : List Str} {sp : Sp} {dvs : List V} {ds : List Value} {E : XK} {x m : Str} {p pos apos : Pos} {e o : Expr} {es : List Expr} {ta : TE} {t : TA}
theorem run_fn {pins : List (Addr × Obj)} {σ : St} {H : Hp} {s : Shared} {Q : VK} {us : List Value} {vs : List V} (F : FnOk X.prog X.w X.K X.mg X.base CX k f fd ps sp) (hr : Room k X.A) (hb : Binds X.K fd ps ds) (hd : Vals dvs ds) (hx : Passes CX X E)
    (I : Inv X pins σ H s) (r : Vals vs us) (h : sp (vs ++ dvs) H Q E) : wpAny (model X.prog X.w) X.A (call (.ref f) us) (EP X pins σ Q) X.xe s := by
  have r2 : Vals (vs ++ dvs) (us ++ ds) := r.append hd
  have hl : (us ++ ds).length = ps.length := by rw [← r2.length]; exact F.len _ _ _ _ h
  refine wpAny_call (codeAny_mono (F.run X.A X.stack s H ⟨us, []⟩ (us ++ ds) (vs ++ dvs) Q E hr I.env0 (hb s us I.kIn hl) r2 h) fun r s' hq => ?_)
  cases r with
  | error e => exact hx pins σ H s e s' I hq
  | ok fl =>
    cases fl with
    | ret u => exact I.after hq
    | next => exact False.elim hq
    | brk => exact False.elim hq
    | cont => exact False.elim hq
theorem pe_call (F : FnOk X.prog X.w X.K X.mg X.base CX k f fd ps sp) (hr : Room k X.A) (hg : Gl X x) (hm : X.mg x = some (.ref f)) (hk : PySem.W.keepIn X.K (.ref f) = true) (hb : Binds X.K fd ps ds) (hd : Vals dvs ds) (hx : Passes CX X E)
    (ha : PA X (e :: es) t) (hdb : (x == ("__debug__" : Str)) = false := by decide) (he : starEach (e :: es) X.env = (false, eval e X.env) :: starEach es X.env := by rfl) (hpl : (backTo pos (starEach es X.env)).any (·.1) = false := by rfl) :
    PE X (.Call (.Name x p) (e :: es) [] pos) (tCall sp dvs E t) := by
  intro pins s σ H Q I h
  refine wpAny_Call_Name_kw (ld_glob I hg hm ?_ hdb)
  refine PySem.W.callWith_K (h₀ := X.base) I.ok.mod.kin hk (thn (ha pos pins s σ H _ I h) fun us s1 ⟨vs, H1, I1, r, q⟩ => ⟨I1.kIn, ?_⟩) he hpl
  exact run_fn F hr hb hd hx I1 r q
theorem pe_meth {pl : Sem Bool} (he : PE X o ta) (c : Cls X.K C) (hm : Meth X.K C m f) (F : FnOk X.prog X.w X.K X.mg X.base CX k f fd ps sp) (hr : Room k X.A) (hb : Binds X.K fd ps ds) (hd : Vals dvs ds) (hx : Passes CX X E) (ha : PA X (e :: es) t)
    (hst : starEach (e :: es) X.env = (false, eval e X.env) :: starEach es X.env := by rfl) (hpl : (backTo pos (starEach es X.env)).any (·.1) = false := by rfl)
    (ht : eval (.Call (.Attribute o m apos) (e :: es) [] pos) X.env = (do
      let ov ← eval o X.env
      standAt apos.atName
      let (f, first) ← holding [ov] (getMethod ov m pl)
      callWith pos f first (backTo pos (starEach (e :: es) X.env)) (backToKw pos (keywordEach [] X.env))) := by rfl) :
    PE X (.Call (.Attribute o m apos) (e :: es) [] pos) (tMeth C m sp dvs E ta t) := by
  intro pins s σ H Q I h
  refine PySem.W.methodCall_KW (pl := pl) (thn (he pins s σ H _ I h) fun u s1 ⟨x, H1, I1, rx, a, dx, fs, ex, ea, l, q⟩ => ?_) ht
  subst ex
  obtain rfl : u = Value.ref a := rx
  refine getmeth_ok I1 ea c hm l ?_
  refine PySem.W.callWith_K (first := [.ref a]) (h₀ := X.base) I.ok.mod.kin hm.kp (thn (ha pos pins s1 σ H1 _ I1 q) fun us s2 ⟨vs, H2, I2, r, q2⟩ => ⟨I2.kIn, ?_⟩) hst hpl
  exact run_fn (us := .ref a :: us) (vs := .ref a :: vs) F hr hb hd hx I2 (.cons rfl r) q2
theorem pe_meth0 {pl : Sem Bool} (he : PE X o ta) (c : Cls X.K C) (hm : Meth X.K C m f) (F : FnOk X.prog X.w X.K X.mg X.base CX k f fd ps sp) (hr : Room k X.A) (hb : Binds X.K fd ps ds) (hd : Vals dvs ds) (hx : Passes CX X E)
    (ht : eval (.Call (.Attribute o m apos) [] [] pos) X.env = (do
      let ov ← eval o X.env
      standAt apos.atName
      let (f, first) ← holding [ov] (getMethod ov m pl)
      callWith pos f first (backTo pos (starEach [] X.env)) (backToKw pos (keywordEach [] X.env))) := by rfl) :
    PE X (.Call (.Attribute o m apos) [] [] pos) (tMeth C m sp dvs E ta tNil) := by
  intro pins s σ H Q I h
  refine PySem.W.methodCall_KW (pl := pl) (thn (he pins s σ H _ I h) fun u s1 ⟨x, H1, I1, rx, a, dx, fs, ex, ea, l, q⟩ => ?_) ht
  subst ex
  obtain rfl : u = Value.ref a := rx
  refine getmeth_ok I1 ea c hm l ?_
  exact PySem.W.callWith_K0 (first := [.ref a]) I1.kIn hm.kp (run_fn (us := [.ref a]) (vs := [.ref a]) F hr hb hd hx I1 (.cons rfl .nil) q)
structure Mk (K : PySem.W.Frag) (C f : Addr) : Prop where
  makes : PySem.W.makesIn K C = true
  init : PySem.W.findIn K (.ref C) "__init__" = some (some (.ref f))
  fn : PySem.W.isFn K (.ref f) = true
  kp : PySem.W.keepIn K (.ref C) = true
theorem run_make {pins : List (Addr × Obj)} {σ : St} {H : Hp} {s : Shared} {Q : VK} {us : List Value} {vs : List V} (M : Mk X.K C f) (F : FnOk X.prog X.w X.K X.mg X.base CX k f fd ps sp) (hr : Room (k + 1) X.A) (hb : Binds X.K fd ps ds) (hd : Vals dvs ds)
    (hx : Passes CX X E) (I : Inv X pins σ H s) (r : Vals vs us)
    (h : ∀ x dx, H x = none → H dx = none → dx ≠ x → sp (.ref x :: (vs ++ dvs)) (upd (upd H dx (.own x)) x (.ins C dx [])) (fun v H2 => v = .non ∧ Q (.ref x) H2) E) :
    wpAny (model X.prog X.w) X.A (call (.ref C) us) (EP X pins σ Q) X.xe s := by
  have hq := h (s.heap.objs.size + 1) s.heap.objs.size (I.hok.fresh (Nat.le_succ _)) (I.hok.fresh (Nat.le_refl _)) (Nat.ne_of_lt (Nat.lt_succ_self _))
  have I2 := Inv.made (C := C) I
  have r2 : Vals (V.ref (s.heap.objs.size + 1) :: (vs ++ dvs)) (Value.ref (s.heap.objs.size + 1) :: (us ++ ds)) := .cons rfl (r.append hd)
  have hl : (Value.ref (s.heap.objs.size + 1) :: us ++ ds).length = ps.length := by
    have e := r2.length
    rw [F.len _ _ _ _ hq] at e
    exact e.symm
  refine wpAny_call (make_map (f := f) I.kIn M.makes M.init (beq_iff_eq.mp M.fn) (codeAny_mono (F.run _ X.stack _ _ ⟨Value.ref (s.heap.objs.size + 1) :: us, []⟩ (Value.ref (s.heap.objs.size + 1) :: (us ++ ds)) _ _ E (hr.make C us [])
    (I2.env0.make C us []) (hb _ (Value.ref (s.heap.objs.size + 1) :: us) I2.kIn hl) r2 hq) fun r s' hq' => ?_))
  cases r with
  | error e => exact hx pins σ _ _ e s' I2 hq'
  | ok fl =>
    cases fl with
    | ret u =>
      obtain ⟨v, H', I3, rv, ev, q3⟩ := I2.after hq'
      subst ev
      exact ⟨rv, ⟨V.ref (s.heap.objs.size + 1), H', I3, rfl, q3⟩⟩
    | next => exact False.elim hq'
    | brk => exact False.elim hq'
    | cont => exact False.elim hq'
theorem pe_make0 (M : Mk X.K C f) (F : FnOk X.prog X.w X.K X.mg X.base CX k f fd ps sp) (hr : Room (k + 1) X.A) (hg : Gl X x) (hm : X.mg x = some (.ref C)) (hb : Binds X.K fd ps ds) (hd : Vals dvs ds) (hx : Passes CX X E)
    (hdb : (x == ("__debug__" : Str)) = false := by decide) : PE X (.Call (.Name x p) [] [] pos) (tMake C sp dvs E tNil) := by
  intro pins s σ H Q I h
  refine wpAny_Call_Name_kw (ld_glob I hg hm ?_ hdb)
  exact PySem.W.callWith_K0 I.kIn M.kp (run_make (us := []) M F hr hb hd hx I .nil h)
end
section
variable {X : Cx} {CX : CXT} {k : Nat} {f C : Addr} {fd : FuncData} {ps ks : List Str} {sp : Sp} {E : XK} {x m : Str} {p pos apos kpos : Pos} {e o : Expr} {es : List Expr} {kws : List Keyword} {te ta : TE} {t tk : TA} {nm : Option Str}
variable {g : List Value → List Value → List Value} {gV : List V → List V → List V}
end
structure FnScope (N P : List Str) (sc : Scope) : Prop where
  kind : sc.kind = .function
  co : sc.isCoroutine = false
  gen : sc.isGenerator = false
  nd : N.Nodup
  pre : N.take P.length = P
  par : ∀ x ∈ P, sc.names.lookup x = some .local ∨ sc.names.lookup x = some .cell
  nofree : ∀ y ∈ sc.names, y.2 ≠ .free
theorem bindL_out {kindOf : Str → Option NameKind} {x : Str} : ∀ {binds : List (Str × Value)} {m : Str → Option Value}, (∀ v, (x, v) ∉ binds) → bindL kindOf binds m x = m x
  | [], _, _ => rfl
  | (n, v) :: r, m, h => by
    unfold bindL
    rw [bindL_out fun w hw => h w (List.mem_cons_of_mem _ hw)]
    split
    · have : x ≠ n := by rintro rfl; exact h v List.mem_cons_self
      simp [this]
    · rfl
theorem bindC_out {kindOf : Str → Option NameKind} {x : Str} : ∀ {binds : List (Str × Value)} {m : Str → Option Value}, (∀ v, (x, v) ∉ binds) → bindC kindOf binds m x = m x
  | [], _, _ => rfl
  | (n, v) :: r, m, h => by
    unfold bindC
    rw [bindC_out fun w hw => h w (List.mem_cons_of_mem _ hw)]
    split
    · rfl
    · have : x ≠ n := by rintro rfl; exact h v List.mem_cons_self
      simp [this]
theorem bindL_get {kindOf : Str → Option NameKind} {x : Str} {v : Value} : ∀ {P : List Str} {vs : List Value} {i : Nat} {m : Str → Option Value}, P.Nodup → P[i]? = some x → vs[i]? = some v → kindOf x = some .local →
    bindL kindOf (P.zip vs) m x = some v
  | [], _, _, _, _, h, _, _ => by simp at h
  | _ :: _, [], _, _, _, _, h, _ => by simp at h
  | p :: P, w :: vs, 0, m, nd, h1, h2, hk => by
    simp at h1 h2; subst h1; subst h2
    show bindL kindOf ((p, w) :: P.zip vs) m p = _
    unfold bindL
    rw [bindL_out fun v hv => (List.nodup_cons.mp nd).1 (List.of_mem_zip hv).1, if_pos hk]
    simp
  | p :: P, w :: vs, i + 1, m, nd, h1, h2, hk => by
    show bindL kindOf ((p, w) :: P.zip vs) m x = _
    unfold bindL
    exact bindL_get (i := i) (List.nodup_cons.mp nd).2 (by simpa using h1) (by simpa using h2) hk
theorem bindC_get {kindOf : Str → Option NameKind} {x : Str} {v : Value} : ∀ {P : List Str} {vs : List Value} {i : Nat} {m : Str → Option Value}, P.Nodup → P[i]? = some x → vs[i]? = some v → kindOf x ≠ some .local →
    bindC kindOf (P.zip vs) m x = some v
  | [], _, _, _, _, h, _, _ => by simp at h
  | _ :: _, [], _, _, _, _, h, _ => by simp at h
  | p :: P, w :: vs, 0, m, nd, h1, h2, hk => by
    simp at h1 h2; subst h1; subst h2
    show bindC kindOf ((p, w) :: P.zip vs) m p = _
    unfold bindC
    rw [bindC_out fun v hv => (List.nodup_cons.mp nd).1 (List.of_mem_zip hv).1, if_neg hk]
    simp
  | p :: P, w :: vs, i + 1, m, nd, h1, h2, hk => by
    show bindC kindOf ((p, w) :: P.zip vs) m x = _
    unfold bindC
    exact bindC_get (i := i) (List.nodup_cons.mp nd).2 (by simpa using h1) (by simpa using h2) hk
def start (N : List Str) (vs : List V) : St := vs.map some ++ List.replicate (N.length - vs.length) none
def cxOf (CX : CXT) (P : Program) (w : World) (K : PySem.W.Frag) (mg : Str → Option Value) (base : Heap) (N : List Str) (qual : Str) (scope : Scope) (f : Addr) (cd : Value) (A : Around) (outer : List Env) (s : Shared) (H : Hp) (E : XK) : Cx where
  prog := P
  w := w
  K := K
  mg := mg
  base := base
  A := A.deeper (envOfC qual scope s.heap.objs.size f cd)
  N := N
  s₀ := s
  H₀ := H
  env := envOfC qual scope s.heap.objs.size f cd
  outer := outer
  stack := envOfC qual scope s.heap.objs.size f cd :: outer
  ex := []
  calm := true
  fn := fun _ => true
  pn := []
  xe := fun e s' => wpAny (model P w) (A.deeper (envOfC qual scope s.heap.objs.size f cd)) (leaving (envOfC qual scope s.heap.objs.size f cd) e) (fun _ s'' => CX outer H s E e s'') (fun e' s'' => CX outer H s E e' s'') s'
theorem cell_has {sc : Scope} {n : Nat} {x : Str} (h : sc.names.lookup x = some .cell) : ∃ c, (cellsFrom n sc.names []).lookup x = some c := by
  have q := PySem.W.cellsFrom_some sc.names n [] (.inl h)
  exact Option.isSome_iff_exists.mp q
theorem inv_start {CX : CXT} {P : Program} {w : World} {K : PySem.W.Frag} {mg : Str → Option Value} {base : Heap} {N ps : List Str} {qual : Str} {scope : Scope} {f : Addr} {cd : Value} {A : Around} {outer : List Env} {s s1 : Shared} {H : Hp} {E : XK} {us : List Value} {vs : List V}
    (S : FnScope N ps scope) (hd : A.handled = none) (e0 : Env0 P w K mg base A outer s H) (hl : vs.length = ps.length) (r : Vals vs us)
    (x : InCallC s s.heap.objs.size (bindL (envOfC qual scope s.heap.objs.size f cd).kindOf (ps.zip us) fun _ => none) (cellsFrom (s.heap.objs.size + 1) scope.names []) (bindC (envOfC qual scope s.heap.objs.size f cd).kindOf (ps.zip us) fun _ => none) s1) :
    Inv (cxOf CX P w K mg base N qual scope f cd A outer s H E) [] (start N vs) H s1 := by
  have hpl : ps.length ≤ N.length := by have := congrArg List.length S.pre; rw [List.length_take] at this; omega
  obtain ⟨h1, tk, rfl, hk⟩ := x.done
  have noA : ∀ b : Addr, b ∉ (cxOf CX P w K mg base N qual scope f cd A outer s H E).ex := fun b z => absurd (show b ∈ ([] : List Addr) from z) (by simp)
  refine ⟨⟨e0.mod, S.kind, rfl, rfl, Nat.le_refl _, fun y z c h1 h2 => ?_, fun y hy => ?_, fun y c _ h => ?_, fun _ => hd, Around.frames_deeper e0.frames, .inr ⟨rfl, rfl⟩, fun b z => absurd z (noA b), e0.bs, e0.bsz, fun b _ _ => noA b, fun b z => absurd z (noA b), e0.funs, e0.frf⟩,
    rfl, e0.bare, Un.kept hk, ⟨_, x.toInCall.ns, fun i y v h1 h2 h3 => ?_⟩, fun y c h => ⟨_, x.cell y c h⟩, e0.hok.fresh (Nat.le_refl _), fun y c h => ?_, fun p hp => absurd (show p ∈ ([] : List (Addr × Obj)) from hp) (by simp), e0.hok.kept hk, ?_⟩
  · exact name_of_addr x.apart (PySem.mem_of_lookup h1) (PySem.mem_of_lookup h2)
  · have hy : scope.names.lookup y = some .cell ∨ scope.names.lookup y = some .free := hy
    rcases hy with hy | hy
    · exact cell_has hy
    · exact absurd rfl (S.nofree _ (PySem.mem_of_lookup hy))
  · exact Nat.le_of_lt (x.above y c (PySem.mem_of_lookup h))
  · have hi : i < vs.length := by
      unfold start at h2
      by_cases hi : i < vs.length
      · exact hi
      · rw [List.getElem?_append_right (by simpa using hi)] at h2
        rw [List.getElem?_replicate] at h2
        split at h2 <;> cases h2
    have ha : vs[i]? = some v := by
      unfold start at h2
      rw [List.getElem?_append_left (by simpa using hi), List.getElem?_map] at h2
      cases e : vs[i]? with
      | none => rw [e] at h2; cases h2
      | some a => rw [e] at h2; cases h2; rfl
    obtain ⟨u, hu, rv⟩ := r.get ha
    have hp : ps[i]? = some y := by
      rw [← S.pre, List.getElem?_take_of_lt (by omega)]; exact h1
    have ndP : ps.Nodup := by rw [← S.pre]; exact S.nd.sublist (List.take_sublist _ _)
    refine ⟨u, rv, ?_⟩
    rcases S.par y (List.mem_of_getElem? hp) with k | k
    · exact .inl ⟨k, bindL_get ndP hp hu k⟩
    · obtain ⟨c, e⟩ := cell_has (n := s.heap.objs.size + 1) k
      refine .inr ⟨.inl k, c, e, ?_⟩
      have q := x.cell y c e
      rw [bindC_get ndP hp hu (by show scope.names.lookup y ≠ _; rw [k]; decide)] at q
      exact q
  · exact e0.hok.fresh (Nat.le_of_lt (x.above y c (PySem.mem_of_lookup h)))
  · unfold start
    show _ = N.length
    rw [List.length_append, List.length_map, List.length_replicate]
    omega
theorem fn_of {CX : CXT} {P : Program} {w : World} {K : PySem.W.Frag} {mg : Str → Option Value} {base : Heap} {k : Nat} {f : Addr} {name qual : Str} {params : Arguments} {body : List Stmt} {scope : Scope} {dV kV doc pm cdv ct oc : Value} {an od : Option Addr}
    {osl : Array (Option Value)} {N ps : List Str} {sp : Sp} (lk : K.lookup f = some ⟨oc, od, .func (PySem.W.fnOf name qual params body scope dV kV doc pm an cdv ct), osl⟩) (hcd : PySem.W.codeIn K cdv qual = true) (S : FnScope N ps scope)
    (len : ∀ vs H Q E, sp vs H Q E → vs.length = ps.length)
    (hbody : ∀ (A : Around) (outer : List Env) (s : Shared) (H : Hp) (vs : List V) (Q : VK) (E : XK), Room k (A.deeper (envOfC qual scope s.heap.objs.size f cdv)) → sp vs H Q E →
      ∃ t, PSs (cxOf CX P w K mg base N qual scope f cdv A outer s H E) body t ∧ t { nx := fun _ H' => Q .non H', rt := Q } (start N vs) H) :
    FnOk P w K mg base CX (k + 1) f (PySem.W.fnOf name qual params body scope dV kV doc pm an cdv ct) ps sp := by
  refine ⟨len, fun A outer s H args us vs Q E hr e0 hb r hsp => ?_⟩
  have hl := len _ _ _ _ hsp
  have KX : K.In s.heap := e0.mod.kin.keeps fun b o e => (e0.bs b o e).1
  have lim : s.heap.NoLimit := e0.mod.nolimit.keeps fun b o e => (e0.bs b o e).1
  have hkind : ∀ y ∈ ps.zip us, scope.names.lookup y.1 = some .local ∨ (scope.names.lookup y.1 = some .cell ∧ ((cellsFrom (s.heap.objs.size + 1) scope.names []).lookup y.1).isSome = true) := fun ⟨n, v⟩ hy => by
    rcases S.par n (List.of_mem_zip hy).1 with q | q
    · exact .inl q
    · exact .inr ⟨q, PySem.W.cellsFrom_some _ _ _ (.inl q)⟩
  refine codeAny_call_function hr.depth (KX _ _ lk) rfl S.co S.gen rfl (PySem.W.codeRec_of KX hcd) (hb _ _ _ _ ?_)
  refine wpAny_newFunctionEnv_cells S.kind hkind fun env he s1 x => ?_
  subst he
  refine ⟨lim.keeps x.toInCall.keep, codeAny_func ?_⟩
  obtain ⟨t, ht, hq⟩ := hbody A outer s H vs Q E (hr.deeper _) hsp
  have I : Inv (cxOf CX P w K mg base N qual scope f cdv A outer s H E) [] (start N vs) H s1 := inv_start S hr.hd e0 hl r x
  refine wpAny_mono (ht [] s1 (start N vs) H _ I hq) (fun fl s' hs => ?_) fun e s' hs => hs
  have fin : ∀ {σ' : St} {H' : Hp} {v : V} {u : Value}, Inv (cxOf CX P w K mg base N qual scope f cdv A outer s H E) [] σ' H' s' → RelV v u → Q v H' → CE outer P w H s Q u s' :=
    fun {σ' H' v u} J rv q => ⟨v, H', J.os, J.bare, J.base, J.hok, rv, q⟩
  cases fl with
  | ret u =>
    obtain ⟨v, σ', H', J, rv, q⟩ := hs
    exact fin J rv q
  | next =>
    obtain ⟨σ', H', J, q⟩ := hs
    exact fin (v := V.non) (u := Value.none) J rfl q
  | brk =>
    obtain ⟨_, _, _, q⟩ := hs
    exact False.elim q
  | cont =>
    obtain ⟨_, _, _, q⟩ := hs
    exact False.elim q
end L2
namespace L2
open PySem PySem.Spec PyProof.Rows
section
variable {X : Cx} {x : Str} {p pos : Pos} {e : Expr} {es : List Expr} {t : TA} {id T : String} {r : List V → Hp → VK → Prop}
def tCB (r : List V → Hp → VK → Prop) (t : TA) : TE := fun σ H Q => t σ H fun vs H1 => r vs H1 Q
theorem pe_callB (hc : CallR X (.builtin id) r) (hg : Gl X x) (hm : X.mg x = none) (hv : bootBuiltins x = some (.builtin id)) (ha : PA X (e :: es) t) (hn : x ≠ "__name__" := by decide) (hdb : (x == ("__debug__" : Str)) = false := by decide)
    (he : starEach (e :: es) X.env = (false, eval e X.env) :: starEach es X.env := by rfl) (hpl : (backTo pos (starEach es X.env)).any (·.1) = false := by rfl) : PE X (.Call (.Name x p) (e :: es) [] pos) (tCB r t) := by
  intro pins s σ H Q I h
  refine wpAny_Call_Name_kw (ld_blt I hg hm hv ?_ hn hdb)
  exact PyProof.Rows.callWith_builtin1 (thn (ha pos pins s σ H _ I h) fun us s1 ⟨vs, H1, I1, r1, q1⟩ => hc pins s1 σ H1 vs us Q I1 r1 q1) he hpl
theorem pe_callTy (hc : CallR X (.type T) r) (hg : Gl X x) (hm : X.mg x = none) (hv : bootBuiltins x = some (.type T)) (ha : PA X (e :: es) t) (hn : x ≠ "__name__" := by decide) (hdb : (x == ("__debug__" : Str)) = false := by decide)
    (he : starEach (e :: es) X.env = (false, eval e X.env) :: starEach es X.env := by rfl) (hpl : (backTo pos (starEach es X.env)).any (·.1) = false := by rfl) : PE X (.Call (.Name x p) (e :: es) [] pos) (tCB r t) := by
  intro pins s σ H Q I h
  refine wpAny_Call_Name_kw (ld_blt I hg hm hv ?_ hn hdb)
  exact PyProof.Rows.callWith_type1 (thn (ha pos pins s σ H _ I h) fun us s1 ⟨vs, H1, I1, r1, q1⟩ => hc pins s1 σ H1 vs us Q I1 r1 q1) he hpl
end
end L2
namespace HT
open PySem PyProof.Rows
section
open PySem.SeqAt
open PySem.AutoSeq1 (wpAny_loadPart')
open PySem.MeetsSeq PySem.MeetsSeq2 PySem.MeetsSeq3
end
section
variable {prog : Program} {w : World} {A : Around} {E : Value → Shared → Prop} {s : Shared}
def sIx (n d : Nat) : Option Int → Nat
  | none => d
  | some v => if v < 0 then (v + (n : Int)).toNat else min v.toNat n
theorem sIx_none (n d : Nat) : sIx n d none = d := rfl
theorem sIx_nat (n d k : Nat) : sIx n d (some (k : Int)) = min k n := by
  show (if (k : Int) < 0 then ((k : Int) + (n : Int)).toNat else min (k : Int).toNat n) = min k n
  rw [if_neg (by omega), Int.toNat_natCast]
end
end HT
namespace L2
open PySem PySem.Spec PyProof.Rows
abbrev TO := St → Hp → (Option Int → Hp → Prop) → Prop
def PO (X : Cx) (e : Option Expr) (t : TO) : Prop :=
  ∀ (pins : List (Addr × Obj)) (s : Shared) (σ : St) (H : Hp) (Q : Option Int → Hp → Prop), Inv X pins σ H s → t σ H Q →
    wpAny (model X.prog X.w) X.A (evalPart e X.env) (fun u s' => ∃ o H', Inv X pins σ H' s' ∧ IsPart u o ∧ Q o H') X.xe s
def tNoPart : TO := fun _ H Q => Q none H
def tPart (t : TE) : TO := fun σ H Q => t σ H fun x H1 => ∃ i, x = .int i ∧ Q (some i) H1
section
variable {X : Cx} {e : Expr} {te : TE} {lo hi : Option Expr} {tl th : TO} {pos p2 : Pos}
theorem po_none : PO X none tNoPart := by
  intro pins s σ H Q I h
  rw [evalPart_none]
  exact wpAny_pure ⟨none, H, I, .none, h⟩
theorem po_some (h : PE X e te) : PO X (some e) (tPart te) := by
  intro pins s σ H Q I hw
  rw [evalPart_some]
  refine thn (h pins s σ H _ I hw) fun u s1 ⟨x, H1, I1, r1, q1⟩ => ?_
  obtain ⟨i, rfl, q⟩ := q1
  obtain ⟨t, rfl⟩ := r1
  exact ⟨some i, H1, I1, .int i t, q⟩
def SlR (X : Cx) (r : V → Option Int → Option Int → Hp → VK → Prop) : Prop :=
  ∀ (pins : List (Addr × Obj)) (s : Shared) (σ : St) (H : Hp) (x : V) (v vl vu : Value) (lo hi : Option Int) (sl : Addr) (Q : VK), Inv X pins σ H s → RelV x v → s.heap.IsSliceOf sl vl vu .none → IsPart vl lo → IsPart vu hi → r x lo hi H Q →
    ∃ T id, typeLookup (.type T) "__getitem__" = pure (some (.builtin id)) ∧ s.TypeIs v T ∧ wpAny (model X.prog X.w) X.A (getItem v (.ref sl)) (EP X pins σ Q) X.xe s
def tSl (r : V → Option Int → Option Int → Hp → VK → Prop) (te : TE) (tl th : TO) : TE := fun σ H Q => te σ H fun x H1 => tl σ H1 fun l H2 => th σ H2 fun u H3 => r x l u H3 Q
theorem pe_slice {r : V → Option Int → Option Int → Hp → VK → Prop} (hr : SlR X r) (he : PE X e te) (hl : PO X lo tl) (hu : PO X hi th) : PE X (.Subscript e (.Slice lo hi none p2) pos) (tSl r te tl th) := by
  intro pins s σ H Q I h
  refine Subscript_ (thn (he pins s σ H _ I h) fun v s1 ⟨x, H1, I1, r1, q1⟩ => ?_)
  refine wpAny_Slice (thn (hl pins s1 σ H1 _ I1 q1) fun vl s2 ⟨l, H2, I2, pl, q2⟩ => thn (hu pins s2 σ H2 _ I2 q2) fun vu s3 ⟨u, H3, I3, pu, q3⟩ => ?_)
  rw [evalPart_none]
  refine wpAny_pure ?_
  have I4 : Inv X pins σ H3 { s3 with heap := s3.heap.push { cls := .type "slice", data := .fields #[vl, vu, .none] } } := I3.kept (t' := s3.toks) fun b ob q => Heap.get?_push_of_some _ q
  obtain ⟨T, id, hT, ht, hg⟩ := hr pins { s3 with heap := s3.heap.push { cls := .type "slice", data := .fields #[vl, vu, .none] } } σ H3 x v vl vu l u s3.heap.objs.size Q I4 r1 (Heap.IsSliceOf.new ..) pl pu q3
  show wpAny (model X.prog X.w) X.A (subscriptTail e (.Slice lo hi none p2) v (.ref s3.heap.objs.size)) (EP X pins σ Q) X.xe { s3 with heap := s3.heap.push { cls := .type "slice", data := .fields #[vl, vu, .none] } }
  exact tail_any (ops := [.ref s3.heap.objs.size, v]) ht hT hg (by with_unfolding_all rfl)
def cutV (xs : List V) (lo hi : Option Int) : List V := (xs.drop (HT.sIx xs.length 0 lo)).take (HT.sIx xs.length xs.length hi - HT.sIx xs.length 0 lo)
theorem cutV_length (xs : List V) (lo hi : Option Int) : (cutV xs lo hi).length ≤ xs.length := by
  unfold cutV
  rw [List.length_take, List.length_drop]
  omega
end
end L2
namespace L2
open PySem PySem.Spec PyProof.Rows
def ixN (n : Nat) (i : Int) : Option Nat := if 0 ≤ i then (if i < n then some i.toNat else none) else if -(n : Int) ≤ i then some (i + n).toNat else none
def atI {α : Type} (xs : List α) (i : Int) : Option α := (ixN xs.length i).bind fun j => xs[j]?
theorem ixN_seq {n : Nat} {i : Int} {j : Nat} (h : ixN n i = some j) : seqIndex? i n = some j ∧ j < n ∧ -(n : Int) ≤ i ∧ i < n := by
  unfold ixN at h
  by_cases h0 : 0 ≤ i
  · rw [if_pos h0] at h
    by_cases h1 : i < n
    · rw [if_pos h1] at h
      have e : i.toNat = j := Option.some.inj h
      exact ⟨by rw [seqIndex_of h0 h1, e], by omega, by omega, h1⟩
    · rw [if_neg h1] at h; cases h
  · rw [if_neg h0] at h
    by_cases h1 : -(n : Int) ≤ i
    · rw [if_pos h1] at h
      have e : (i + n).toNat = j := Option.some.inj h
      exact ⟨by rw [seqIndex_neg (by omega) h1, e], by omega, h1, by omega⟩
    · rw [if_neg h1] at h; cases h
theorem atI_get {α : Type} {xs : List α} {i : Int} {v : α} (h : atI xs i = some v) : ∃ j, seqIndex? i xs.length = some j ∧ xs[j]? = some v ∧ j < xs.length ∧ -(xs.length : Int) ≤ i ∧ i < xs.length := by
  unfold atI at h
  cases e : ixN xs.length i with
  | none => rw [e] at h; cases h
  | some j =>
    rw [e] at h
    obtain ⟨h1, h2, h3, h4⟩ := ixN_seq e
    exact ⟨j, h1, h, h2, h3, h4⟩
theorem atI_nat {α : Type} {xs : List α} {j : Nat} {v : α} (h : xs[j]? = some v) : atI xs (j : Int) = some v := by
  have hj : j < xs.length := (List.getElem?_eq_some_iff.mp h).1
  have e : ixN xs.length (j : Int) = some j := by
    unfold ixN
    rw [if_pos (by omega), if_pos (by omega)]; simp
  unfold atI; rw [e]; exact h
def PlainIx (b : Expr) : Prop := ∀ o i, subscripted b false o i = operate [o, i] (getItem o i)
def IxR (X : Cx) (r : R2) : Prop :=
  ∀ (value slice : Expr) (pins : List (Addr × Obj)) (s : Shared) (σ : St) (H : Hp) (x y : V) (v u : Value) (Q : VK), Inv X pins σ H s → RelV x v → RelV y u → r x y H Q →
    subscripted slice false v u = operate [v, u] (getItem v u) → wpAny (model X.prog X.w) X.A (subscriptTail value slice v u) (EP X pins σ Q) X.xe s
def MtR (X : Cx) (id : String) (r : V → List V → Hp → VK → Prop) : Prop :=
  ∀ (pins : List (Addr × Obj)) (s : Shared) (σ : St) (H : Hp) (x : V) (xs : List V) (v : Value) (us : List Value) (Q : VK), Inv X pins σ H s → RelV x v → Vals xs us → r x xs H Q →
    wpAny (model X.prog X.w) X.A (call (.builtin id) (v :: us)) (EP X pins σ Q) X.xe s
section
variable {X : Cx} {a b : Expr} {ta tb : TE} {pos : Pos}
theorem pe_ix {r : R2} (hr : IxR X r) (ha : PE X a ta) (hb : PE X b tb) (hs : PlainIx b) : PE X (.Subscript a b pos) (tOp r ta tb) := by
  intro pins s σ H Q I h
  exact Subscript_ (binT ha hb I h fun v u s2 x y H2 I2 rx ry q => hr a b pins s2 σ H2 x y v u Q I2 rx ry q (hs _ _))
def rIxL (K : PySem.W.Frag) : R2 := fun x y H Q => ∃ p xs i v, x = .ref p ∧ y = .int i ∧ SqL K H p xs ∧ atI xs i = some v ∧ Q v H
def rIxT (K : PySem.W.Frag) : R2 := fun x y H Q => ∃ p xs i v, x = .ref p ∧ y = .int i ∧ SqT K H p xs ∧ atI xs i = some v ∧ Q v H
def rIxS : R2 := fun x y H Q => ∃ z i c, x = .str z ∧ y = .int i ∧ z.length ≤ sizeLine ∧ atI z.cps.toList i = some c ∧ Q (.str ⟨#[c]⟩) H
theorem ix_list : IxR X (rIxL X.K) := by
  intro value slice pins s σ H x y v u Q I rx ry h hs
  obtain ⟨p, xs, i, z, rfl, rfl, hq, he, q⟩ := h
  cases rx
  obtain ⟨t, rfl⟩ := ry
  obtain ⟨its, r, pl, hz⟩ := I.list hq
  obtain ⟨j, h1, h2, h3, h4, h5⟩ := atI_get he
  obtain ⟨w, ew, rw'⟩ := r.get h2
  have hl := r.length
  have hn := line63
  have fin : EP X pins σ Q w s := ⟨z, H, I, rw', q⟩
  by_cases h0 : 0 ≤ i
  · have hj : i.toNat = j := by
      rw [seqIndex_of h0 h5] at h1
      exact Option.some.inj h1
    exact item_listR pl.isList h0 (by omega) (by rw [hj]; simpa using ew) fin hs
  · have hj : (i + (its.toArray.size : Int)).toNat = j := by
      rw [seqIndex_neg (by omega) h4] at h1
      rw [List.size_toArray, ← hl]
      exact Option.some.inj h1
    exact subscriptTail_builtinR (x := w) pl.isList.typeIs slot_list_getitem.lookup
      (wpAny_getItem_list_neg (Q := fun r s' => r = w ∧ EP X pins σ Q r s') pl.isList (by omega) (by rw [List.size_toArray] <;> omega) (by omega) (by rw [hj]; simpa using ew) ⟨rfl, fin⟩) hs
theorem ix_tup : IxR X (rIxT X.K) := by
  intro value slice pins s σ H x y v u Q I rx ry h hs
  obtain ⟨p, xs, i, z, rfl, rfl, hq, he, q⟩ := h
  cases rx
  obtain ⟨t, rfl⟩ := ry
  obtain ⟨its, r, pl, hz⟩ := I.tuple hq
  obtain ⟨j, h1, h2, h3, h4, h5⟩ := atI_get he
  obtain ⟨w, ew, rw'⟩ := r.get h2
  have hl := r.length
  have hn := line63
  have fin : EP X pins σ Q w s := ⟨z, H, I, rw', q⟩
  exact subscriptTail_builtinR (x := w) pl.typeIs slot_tuple_getitem.lookup
    (getItem_tuple (j := j) (Q := fun r s' => r = w ∧ EP X pins σ Q r s') pl (by omega) (by omega) (by rw [List.size_toArray, ← hl]; exact h1) (by simpa using ew) ⟨rfl, fin⟩) hs
theorem ix_str : IxR X rIxS := by
  intro value slice pins s σ H x y v u Q I rx ry h hs
  obtain ⟨z, i, c, rfl, rfl, hz, he, q⟩ := h
  obtain ⟨t, rfl⟩ := rx
  obtain ⟨t', rfl⟩ := ry
  obtain ⟨j, h1, h2, h3, h4, h5⟩ := atI_get he
  have hl : z.cps.toList.length = z.length := by simp [Str.length]
  rw [hl] at h1 h4 h5
  have hn := line63
  exact tail_any (typeIs_str s z t) slot_str_getitem.lookup (getItem_str (c := c) (by
    have e1 : decide (i < -(2 ^ 63 : Int)) = false := decide_eq_false (by omega)
    have e2 : decide (i ≥ 2 ^ 63) = false := decide_eq_false (by omega)
    rw [e1, e2, Bool.or_false]) (by rw [h1]; simpa using h2) ⟨.str ⟨#[c]⟩, H, I.tok _, ⟨_, rfl⟩, q⟩) hs
theorem slice_bounds (lo hi : Option Int) (n : Nat) : (sliceBounds lo hi none n).1 = ((HT.sIx n 0 lo : Nat) : Int) ∧ (sliceBounds lo hi none n).2.1 = ((HT.sIx n n hi : Nat) : Int) ∧ (sliceBounds lo hi none n).2.2 = 1 := by
  refine ⟨?_, ?_, rfl⟩
  · cases lo with
    | none => simp [sliceBounds, HT.sIx]
    | some i =>
      simp only [sliceBounds, HT.sIx, Option.getD_none, show (1 : Int) > 0 by decide, if_true]
      by_cases h : i < 0
      · simp only [h, if_true] <;> omega
      · simp only [h, if_false] <;> omega
  · cases hi with
    | none => simp [sliceBounds, HT.sIx]
    | some i =>
      simp only [sliceBounds, HT.sIx, Option.getD_none, show (1 : Int) > 0 by decide, if_true]
      by_cases h : i < 0
      · simp only [h, if_true] <;> omega
      · simp only [h, if_false] <;> omega
theorem slicePick_cut (its : List Value) (lo hi : Option Int) : slicePick its.toArray lo hi none = ((its.drop (HT.sIx its.length 0 lo)).take (HT.sIx its.length its.length hi - HT.sIx its.length 0 lo)).toArray := by
  obtain ⟨h1, h2, h3⟩ := slice_bounds lo hi its.toArray.size
  unfold slicePick
  rw [h1, h2, h3]
  simp only [sliceRange_one, pick_run, List.size_toArray] <;> rfl
def rSlL (K : PySem.W.Frag) : V → Option Int → Option Int → Hp → VK → Prop := fun x lo hi H Q => ∃ a xs, x = .ref a ∧ SqL K H a xs ∧ ∀ p, H p = none → Q (.ref p) (upd H p (.lst (cutV xs lo hi)))
theorem sl_list : SlR X (rSlL X.K) := by
  intro pins s σ H x v vl vu lo hi sl Q I rx hs pl pu h
  obtain ⟨a, xs, rfl, hx, q⟩ := h
  cases rx
  obtain ⟨its, r, ht, hz⟩ := I.list hx
  have hlen := r.length
  refine ⟨"list", _, slot_list_getitem.lookup, ht.isList.typeIs, ?_⟩
  refine wpAny_getItem_list_slice ht.isList hs pl pu .none (by simp) ?_ (by rw [List.size_toArray] <;> omega)
  rw [slicePick_cut, ← hlen]
  refine ⟨.ref s.heap.objs.size, _, I.laid (t' := s.toks) (o := .lst (cutV xs lo hi)) (fun b ob q => Heap.get?_push_of_some _ q) (Nat.le_refl _) ?_, rfl, q _ (I.hok.fresh (Nat.le_refl _))⟩
  exact ⟨Nat.le_trans (cutV_length xs lo hi) hz, _, 0, (r.drop (HT.sIx xs.length 0 lo)).take (HT.sIx xs.length xs.length hi - HT.sIx xs.length 0 lo), Heap.get?_push_size _ rfl⟩
def flatV : V → Bool
  | .non => true
  | .bl _ => true
  | .int _ => true
  | .str _ => true
  | _ => false
def eqV : V → V → Bool
  | .non, .non => true
  | .bl a, .bl b => a == b
  | .bl a, .int b => (if a then 1 else 0) == b
  | .int a, .bl b => a == (if b then 1 else 0)
  | .int a, .int b => a == b
  | .str a, .str b => a == b
  | _, _ => false
theorem eqAt_V {A : Around} {s : Shared} {y x : V} {u v : Value} (ry : RelV y u) (rx : RelV x v) (fy : flatV y = true) (fx : flatV x = true) : SeqAt.EqAt A s u v (eqV y x) := by
  cases y with
  | non =>
    cases ry
    cases x with
    | non => cases rx; exact SeqAt.EqAt.same _
    | bl b => cases rx; exact SeqAt.EqAt.none_bool b
    | int b => obtain ⟨t, rfl⟩ := rx; exact SeqAt.EqAt.none_int b t
    | str b => obtain ⟨t, rfl⟩ := rx; exact SeqAt.EqAt.none_str b t
    | _ => exact absurd (show false = true from fx) Bool.false_ne_true
  | bl a =>
    cases ry
    cases x with
    | non => cases rx; exact SeqAt.EqAt.bool_none a
    | bl b => cases rx; exact SeqAt.EqAt.bool_bool a b
    | int b => obtain ⟨t, rfl⟩ := rx; exact SeqAt.EqAt.bool_int a b t
    | str b => obtain ⟨t, rfl⟩ := rx; exact SeqAt.EqAt.bool_str a b t
    | _ => exact absurd (show false = true from fx) Bool.false_ne_true
  | int a =>
    obtain ⟨t', rfl⟩ := ry
    cases x with
    | non => cases rx; exact SeqAt.EqAt.int_none a t'
    | bl b => cases rx; exact SeqAt.EqAt.int_bool a t' b
    | int b => obtain ⟨t, rfl⟩ := rx; exact SeqAt.EqAt.int_int a t' b t
    | str b => obtain ⟨t, rfl⟩ := rx; exact SeqAt.EqAt.int_str a t' b t
    | _ => exact absurd (show false = true from fx) Bool.false_ne_true
  | str a =>
    obtain ⟨t', rfl⟩ := ry
    cases x with
    | non => cases rx; exact SeqAt.EqAt.str_none a t'
    | bl b => cases rx; exact SeqAt.EqAt.str_bool a t' b
    | int b => obtain ⟨t, rfl⟩ := rx; exact SeqAt.EqAt.str_int a t' b t
    | str b => obtain ⟨t, rfl⟩ := rx; exact SeqAt.EqAt.str_str a t' b t
    | _ => exact absurd (show false = true from fx) Bool.false_ne_true
  | _ => exact absurd (show false = true from fy) Bool.false_ne_true
def eqU (x : V) (u : Value) : Bool := match u with
  | .none => eqV .non x
  | .bool b => eqV (.bl b) x
  | .int i _ => eqV (.int i) x
  | .str z _ => eqV (.str z) x
  | _ => false
theorem eqU_of {x y : V} {u : Value} (r : RelV y u) (f : flatV y = true) : eqU x u = eqV y x := by
  cases y with
  | non => cases r; rfl
  | bl b => cases r; rfl
  | int i => obtain ⟨t, rfl⟩ := r; rfl
  | str z => obtain ⟨t, rfl⟩ := r; rfl
  | _ => exact absurd (show false = true from f) Bool.false_ne_true
theorem any_eqU {x : V} : ∀ {xs : List V} {us : List Value}, Vals xs us → xs.all flatV = true → us.any (eqU x) = xs.any fun y => eqV y x
  | _, _, .nil, _ => rfl
  | y :: xs, u :: us, .cons r t, f => by
    rw [List.all_cons, Bool.and_eq_true] at f
    rw [List.any_cons, List.any_cons, eqU_of r f.1, any_eqU t f.2]
theorem mem_eqAt {A : Around} {s : Shared} {x : V} {v : Value} (rx : RelV x v) (fx : flatV x = true) : ∀ {xs : List V} {us : List Value}, Vals xs us → xs.all flatV = true → ∀ u ∈ us, SeqAt.EqAt A s u v (eqU x u)
  | _, _, .nil, _ => fun u hu => by cases hu
  | y :: xs, u :: us, .cons r t, f => fun u' hu => by
    rw [List.all_cons, Bool.and_eq_true] at f
    rcases List.mem_cons.mp hu with rfl | hu
    · rw [eqU_of r f.1]; exact eqAt_V r rx f.1 fx
    · exact mem_eqAt rx fx t f.2 u' hu
def inV (x : V) (xs : List V) : Bool := xs.any fun y => eqV y x
def rIn (K : PySem.W.Frag) (neg : Bool) : R2 := fun x y H Q => ∃ p xs, y = .ref p ∧ (SqL K H p xs ∨ SqT K H p xs) ∧ flatV x = true ∧ xs.all flatV = true ∧ Q (.bl (if neg then !inV x xs else inV x xs)) H
theorem op_in_seq : OpR X (compareOp .In) (rIn X.K false) := by
  intro pins s σ H x y v u Q I rx ry h
  obtain ⟨p, xs, rfl, hq, fx, fs, q⟩ := h
  cases ry
  rcases hq with hq | hq
  · obtain ⟨its, r, pl, hz⟩ := I.list hq
    refine SeqAt.in_listAt (eqU x) pl.isList (fun w hw => mem_eqAt rx fx r fs w (by simpa using hw)) ⟨.bl _, H, I, rfl, ?_⟩
    rw [show its.toArray.any (eqU x) = its.any (eqU x) by simp, any_eqU r fs]
    exact q
  · obtain ⟨its, r, pl, hz⟩ := I.tuple hq
    refine SeqAt.in_tupleAt (eqU x) pl (fun w hw => mem_eqAt rx fx r fs w (by simpa using hw)) ⟨.bl _, H, I, rfl, ?_⟩
    rw [show its.toArray.any (eqU x) = its.any (eqU x) by simp, any_eqU r fs]
    exact q
theorem call_len_seq : CallR X (.builtin "len") (fun xs H Q => ∃ p ys, xs = [.ref p] ∧ (SqL X.K H p ys ∨ SqT X.K H p ys) ∧ Q (.int ys.length) H) := by
  intro pins s σ H xs us Q I r h
  obtain ⟨p, ys, rfl, hq, q⟩ := h
  obtain ⟨u, rfl, rx⟩ := vals1 r
  cases rx
  have hn := line63
  rcases hq with hq | hq
  · obtain ⟨its, r', pl, hz⟩ := I.list hq
    have hlen := r'.length
    exact Calls.call_len_list pl.isList (by simp only [List.size_toArray] <;> omega) ⟨.int ys.length, H, I.tok _, ⟨s.toks + 1, by rw [List.size_toArray, hlen]⟩, q⟩
  · obtain ⟨its, r', pl, hz⟩ := I.tuple hq
    have hlen := r'.length
    exact len_tuple pl (by simp only [List.size_toArray] <;> omega) ⟨.int ys.length, H, I.tok _, ⟨s.toks + 1, by rw [List.size_toArray, hlen]⟩, q⟩
theorem call_len_str : CallR X (.builtin "len") (fun xs H Q => ∃ z, xs = [.str z] ∧ z.length ≤ sizeLine ∧ Q (.int z.length) H) := by
  intro pins s σ H xs us Q I r h
  obtain ⟨z, rfl, hz, q⟩ := h
  obtain ⟨u, rfl, t, rfl⟩ := vals1 r
  have hn := line63
  exact len_str (by omega) ⟨.int z.length, H, I.tok _, ⟨_, rfl⟩, q⟩
theorem call_list_of : CallR X (.type "list") (fun xs H Q => ∃ p ys, xs = [.ref p] ∧ (SqL X.K H p ys ∨ SqT X.K H p ys) ∧ ∀ l, H l = none → Q (.ref l) (upd H l (.lst ys))) := by
  intro pins s σ H xs us Q I r h
  obtain ⟨p, ys, rfl, hq, q⟩ := h
  obtain ⟨u, rfl, rx⟩ := vals1 r
  cases rx
  have fin : ∀ (its : List Value), Vals ys its → ys.length ≤ sizeLine → ∀ (h' : Heap) (c' : Nat), (∀ b o', s.heap.get? b = some o' → h'.get? b = some o') →
      h'.get? s.heap.objs.size = some { cls := .type "list", dict := none, data := .seq its.toArray c', slots := #[] } → EP X pins σ Q (.ref s.heap.objs.size) { s with heap := h' } := fun its r' hz h' c' kp e =>
    ⟨.ref s.heap.objs.size, _, I.laid (t' := s.toks) kp (Nat.le_refl _) (show ObjOk X.prog X.w _ h' _ (.lst ys) from ⟨hz, its, c', r', e⟩), rfl, q _ (I.hok.fresh (Nat.le_refl _))⟩
  rcases hq with hq | hq
  · obtain ⟨its, r', pl, hz⟩ := I.list hq
    have hlen := r'.length
    obtain ⟨o, ho, hc, n, hd⟩ := pl.isList
    exact call_list_seq p (.inl rfl) ho hc hd (fun h' c' kp e => fin its r' hz h' c' kp e) (by simp only [List.size_toArray] <;> omega)
  · obtain ⟨its, r', pl, hz⟩ := I.tuple hq
    have hlen := r'.length
    obtain ⟨o, ho, hc, n, hd⟩ := pl
    exact call_list_seq p (.inr rfl) ho hc hd (fun h' c' kp e => fin its r' hz h' c' kp e) (by simp only [List.size_toArray] <;> omega)
def tyV (K : PySem.W.Frag) (T : String) (x : V) (H : Hp) : Prop := match x with
  | .str _ => T = "str"
  | .int _ => T = "int"
  | .ref p => (T = "list" ∧ ∃ xs, SqL K H p xs) ∨ (T = "tuple" ∧ ∃ o, K.lookup p = some o ∧ o.cls = .type "tuple" ∧ o.dict = none) ∨
      (T = "dict" ∧ ((∃ kvs, H p = some (.dK kvs)) ∨ ∃ kvs, H p = some (.dT kvs))) ∨ (T = "set" ∧ ∃ S n, H p = some (.set S n))
  | _ => False
theorem tyV_is {pins : List (Addr × Obj)} {σ : St} {H : Hp} {s : Shared} {T : String} {x : V} {v : Value} (I : Inv X pins σ H s) (r : RelV x v) (ty : tyV X.K T x H) :
    s.TypeIs v T ∧ ∀ a, v = .ref a → ∃ ob, s.heap.get? a = some ob ∧ ob.dict = none := by
  cases x with
  | str z =>
    obtain ⟨t, rfl⟩ := r
    cases (show T = "str" from ty)
    exact ⟨typeIs_str s z t, fun _ e => nomatch e⟩
  | int i =>
    obtain ⟨t, rfl⟩ := r
    cases (show T = "int" from ty)
    exact ⟨typeIs_int s i t, fun _ e => nomatch e⟩
  | ref p =>
    cases r
    rcases ty with ⟨rfl, xs, hq⟩ | ⟨rfl, o, hk, hc, hd⟩ | ⟨rfl, hk⟩ | ⟨rfl, S, n, hk⟩
    · obtain ⟨its, _, pl, _⟩ := I.list hq
      refine ⟨pl.isList.typeIs, fun a e => ?_⟩
      cases e
      obtain ⟨o, n, e, c, hd, _⟩ := pl
      exact ⟨o, e, hd⟩
    · refine ⟨⟨o, I.kIn p o hk, hc⟩, fun a e => ?_⟩
      cases e
      exact ⟨o, I.kIn _ o hk, hd⟩
    · have z : ∃ o, s.heap.get? p = some o ∧ o.ExactDict := by
        rcases hk with ⟨kvs, hk⟩ | ⟨kvs, hk⟩
        · obtain ⟨_, _, _, _, o, _, _, e, ex, _⟩ := I.hok p _ hk
          exact ⟨o, e, ex⟩
        · obtain ⟨_, _, _, _, o, _, _, e, ex, _⟩ := I.hok p _ hk
          exact ⟨o, e, ex⟩
      obtain ⟨o, e, ex⟩ := z
      refine ⟨⟨o, e, ex.1⟩, fun a e2 => ?_⟩
      cases e2
      exact ⟨o, e, ex.2.1⟩
    · obtain ⟨o, _, _, _, e, ex, _⟩ := I.hok p _ hk
      refine ⟨⟨o, e, ex.1⟩, fun a e2 => ?_⟩
      cases e2
      exact ⟨o, e, ex.2.1⟩
  | _ => exact False.elim ty
def tBM0 (K : PySem.W.Frag) (T : String) (r : V → List V → Hp → VK → Prop) (to : TE) : TE := fun σ H Q => to σ H fun x H1 => tyV K T x H1 ∧ r x [] H1 Q
def tBM (K : PySem.W.Frag) (T : String) (r : V → List V → Hp → VK → Prop) (to : TE) (t : TA) : TE := fun σ H Q => to σ H fun x H1 => tyV K T x H1 ∧ t σ H1 fun xs H2 => r x xs H2 Q
variable {o e : Expr} {es : List Expr} {to : TE} {t : TA} {name : Str} {apos cpos : Pos} {T id : String} {r : V → List V → Hp → VK → Prop}
theorem pe_bm0 (pa : PlainAttrs T) (slot : Slot T name id) (hty : typeOf (.builtin id) = pure (.type "method_descriptor")) (hm : MtR X id r) (ho : PE X o to)
    (hbase : attributeBase o name X.env (eval o X.env) = eval o X.env := by rfl) (hline : (apos.endLine == cpos.line) = true := by rfl) : PE X (.Call (.Attribute o name apos) [] [] cpos) (tBM0 X.K T r to) := by
  intro pins s σ H Q I h
  refine wpAny_Call_method0_late hbase hline (thn (ho pins s σ H _ I h) fun v s1 ⟨x, H1, I1, r1, ty, q1⟩ => ?_)
  obtain ⟨h1, h2⟩ := tyV_is I1 r1 ty
  exact ⟨T, id, pa, slot, hty, h1, h2, Calls.callWith_builtin rfl (PySem.evalArgs_none (hm pins s1 σ H1 x [] v [] Q I1 r1 .nil q1))⟩
theorem pe_bm (pa : PlainAttrs T) (slot : Slot T name id) (hty : typeOf (.builtin id) = pure (.type "method_descriptor")) (hm : MtR X id r) (ho : PE X o to) (ha : PA X (e :: es) t)
    (hbase : attributeBase o name X.env (eval o X.env) = eval o X.env := by rfl)
    (hfew : ((backTo cpos (starEach (e :: es) X.env)).all (fun x => !x.1) && (backToKw cpos (keywordEach [] X.env)).all (fun x => x.1.isSome)
      && decide ((e :: es).length + ([] : List Keyword).length + (if ([] : List Keyword).isEmpty then 0 else 1) < 30)) = true := by rfl)
    (hline : (apos.endLine == cpos.line) = true := by rfl) (hs : starEach (e :: es) X.env = (false, eval e X.env) :: starEach es X.env := by rfl) (hplain : (backTo cpos (starEach es X.env)).any (·.1) = false := by rfl) :
    PE X (.Call (.Attribute o name apos) (e :: es) [] cpos) (tBM X.K T r to t) := by
  intro pins s σ H Q I h
  refine wpAny_Call_method_late hbase hfew hline rfl (thn (ho pins s σ H _ I h) fun v s1 ⟨x, H1, I1, r1, ty, q1⟩ => ?_)
  obtain ⟨h1, h2⟩ := tyV_is I1 r1 ty
  refine ⟨T, id, pa, slot, hty, h1, h2, ?_⟩
  have hA := ha cpos pins s1 σ H1 _ I1 q1
  rw [hs] at hA ⊢
  refine Calls.callWith_builtin (by show (false || (backTo cpos (starEach es X.env)).any (·.1)) = false; rw [hplain] <;> rfl) (Calls.evalArgs_plain ?_)
  exact thn hA fun us s2 ⟨vs, H2, I2, r2, q2⟩ => hm pins s2 σ H2 x vs v us Q I2 r1 r2 q2
/- xs.append(e), list.index on a module's tuple .. are MtR facts of 06m -/
end
end L2
namespace L2
open PySem PySem.Spec PyProof.Rows
def MtM (X : Cx) (id : String) (r : V → List V → Hp → VK → Prop) : Prop :=
  ∀ (pins : List (Addr × Obj)) (s : Shared) (σ : St) (H : Hp) (x : V) (xs : List V) (v : Value) (us : List Value) (Q : VK), Inv X pins σ H s → RelV x v → Vals xs us → r x xs H Q →
    wpAny (model X.prog X.w) X.A (call (.builtin id) (v :: us)) (EP X pins σ Q) X.xe s
theorem Vals.one : ∀ {x : V} {us : List Value}, Vals [x] us → ∃ u, us = [u] ∧ RelV x u
  | _, _, .cons r .nil => ⟨_, rfl, r⟩
theorem Vals.two : ∀ {x y : V} {us : List Value}, Vals [x, y] us → ∃ u v, us = [u, v] ∧ RelV x u ∧ RelV y v
  | _, _, _, .cons r (.cons q .nil) => ⟨_, _, rfl, r, q⟩
theorem Vals.zero : ∀ {us : List Value}, Vals [] us → us = []
  | _, .nil => rfl
section
variable {X : Cx} {pins : List (Addr × Obj)} {σ : St} {H : Hp} {s : Shared} {l b : Addr} {xs ys zs : List V}
theorem Inv.lset {its its' : List Value} {n : Nat} {f : Array Value → Array Value} {t' : Nat} (I : Inv X pins σ H s) (hH : H l = some (.lst xs))
    (e : s.heap.get? l = some { cls := .type "list", data := .seq its.toArray n }) (hf : f its.toArray = its'.toArray) (hv : Vals ys its') (hz : ys.length ≤ sizeLine) :
    Inv X pins σ (upd H l (.lst ys)) { s with heap := s.heap.update l (Obj.mapSeq f), toks := t' } := by
  have q := PySem.IsL.update e f
  rw [hf] at q
  refine I.write (x := l) (e := l) (by rw [hH]; exact trivial) (.inl rfl) (fun b' u hb hu => (Heap.get?_update_other s.heap (Obj.mapSeq f) (Ne.symm hb)).trans hu) ⟨_, q⟩ ?_
  exact ⟨hz, its', _, hv, q⟩
theorem Inv.lnew {its : List Value} {t' : Nat} (I : Inv X pins σ H s) (hv : Vals ys its) (hz : ys.length ≤ sizeLine) :
    Inv X pins σ (upd H s.heap.objs.size (.lst ys)) { s with heap := s.heap.push { cls := .type "list", data := .seq its.toArray }, toks := t' } :=
  I.laid (fun _ _ q => Heap.get?_push_of_some _ q) (Nat.le_refl _) ⟨hz, its, 0, hv, Heap.get?_push_size _ rfl⟩
theorem Inv.fresh (I : Inv X pins σ H s) : H s.heap.objs.size = none := I.hok.fresh (Nat.le_refl _)
theorem Inv.lstM (I : Inv X pins σ H s) (hH : H l = some (.lst xs)) : xs.length ≤ sizeLine ∧ ∃ (its : List Value) (n : Nat), Vals xs its ∧ xs.length = its.length ∧ s.heap.get? l = some { cls := .type "list", data := .seq its.toArray n } := by
  obtain ⟨z, its, n, r, e⟩ := I.hok l _ hH
  exact ⟨z, its, n, r, r.length, e⟩
theorem notLongL {n : Nat} (h : n ≤ sizeLine) : Builtin.List.listTooLong n = false := by
  unfold Builtin.List.listTooLong
  exact decide_eq_false (by omega)
end
section
variable {X : Cx}
def rAppend : V → List V → Hp → VK → Prop := fun x vs H Q => ∃ l xs y, x = .ref l ∧ vs = [y] ∧ H l = some (.lst xs) ∧ xs.length < sizeLine ∧ Q .non (upd H l (.lst (xs ++ [y])))
theorem mt_append : MtM X "list.append" rAppend := by
  intro pins s σ H x vs v us Q I rx rv h
  obtain ⟨l, xs, y, rfl, rfl, hH, hz, q⟩ := h
  cases rx
  obtain ⟨u, rfl, ru⟩ := rv.one
  obtain ⟨z, its, n, r, hl, e⟩ := I.lstM hH
  refine call_meets F.slot_list_append ⟨_, e, rfl⟩ F.entry_list_append (F.args_list_append_2 _ _) (PySem.list_append l its.toArray n u (by rw [List.size_toArray]; omega)) ⟨e, ?_⟩
  refine ⟨.non, _, I.lset (its' := its ++ [u]) hH e (by simp) (r.append (.cons ru .nil)) ?_, rfl, q⟩
  rw [List.length_append, List.length_singleton]
  omega
def rExtend : V → List V → Hp → VK → Prop := fun x vs H Q => ∃ l b xs zs, x = .ref l ∧ vs = [.ref b] ∧ H l = some (.lst xs) ∧ H b = some (.lst zs) ∧ xs.length + zs.length ≤ sizeLine ∧ Q .non (upd H l (.lst (xs ++ zs)))
theorem mt_extend : MtM X "list.extend" rExtend := by
  intro pins s σ H x vs v us Q I rx rv h
  obtain ⟨l, b, xs, zs, rfl, rfl, hH, hB, hz, q⟩ := h
  cases rx
  obtain ⟨u, rfl, ru⟩ := rv.one
  cases ru
  obtain ⟨z, its, n, r, hl, e⟩ := I.lstM hH
  obtain ⟨z2, its2, n2, r2, hl2, e2⟩ := I.lstM hB
  have hsz : its.toArray.size + its2.toArray.size ≤ sizeLine := by rw [List.size_toArray, List.size_toArray]; omega
  have hlong : ¬ (!its.toArray.isEmpty && Builtin.List.listTooLong (its.toArray.size + its2.toArray.size)) = true := by
    rw [notLongL hsz, Bool.and_false]
    exact Bool.false_ne_true
  refine call_meets F.slot_list_extend ⟨_, e, rfl⟩ F.entry_list_extend (F.args_list_extend_2 _ _)
    (AutoSeq1.list_extend_list_list_0 l its.toArray n b its2.toArray n2 hlong (by rw [List.size_toArray]; omega) (by omega)) ⟨e, e2, ?_⟩
  refine ⟨.non, _, I.lset (its' := its ++ its2) hH e (by simp) (r.append r2) ?_, rfl, q⟩
  rw [List.length_append]
  omega
def rClear : V → List V → Hp → VK → Prop := fun x vs H Q => ∃ l xs, x = .ref l ∧ vs = [] ∧ H l = some (.lst xs) ∧ Q .non (upd H l (.lst []))
theorem mt_clear : MtM X "list.clear" rClear := by
  intro pins s σ H x vs v us Q I rx rv h
  obtain ⟨l, xs, rfl, rfl, hH, q⟩ := h
  cases rx
  have hus := rv.zero
  subst hus
  obtain ⟨z, its, n, r, hl, e⟩ := I.lstM hH
  refine call_meets F.slot_list_clear ⟨_, e, rfl⟩ F.entry_list_clear (F.args_list_clear_1 _) (AutoSeq1.list_clear_list_0 l its.toArray n (by rw [List.size_toArray]; omega)) ⟨e, ?_⟩
  exact ⟨.non, _, I.lset (its' := []) (ys := []) hH e rfl .nil (Nat.zero_le _), rfl, q⟩
def rCat : R2 := fun x y H Q => ∃ l b xs zs, x = .ref l ∧ y = .ref b ∧ H l = some (.lst xs) ∧ H b = some (.lst zs) ∧ xs.length + zs.length ≤ sizeLine ∧ ∀ p, H p = none → Q (.ref p) (upd H p (.lst (xs ++ zs)))
theorem op_cat : OpR X (binaryOp .Add) rCat := by
  intro pins s σ H x y v u Q I rx ry h
  obtain ⟨l, b, xs, zs, rfl, rfl, hH, hB, hz, q⟩ := h
  cases rx
  cases ry
  obtain ⟨z, its, n, r, hl, e⟩ := I.lstM hH
  obtain ⟨z2, its2, n2, r2, hl2, e2⟩ := I.lstM hB
  refine PySem.P.add_list e e2 ?_ (by rw [List.size_toArray, List.size_toArray]; omega)
  have ea : its.toArray ++ its2.toArray = (its ++ its2).toArray := by simp
  rw [ea]
  exact ⟨.ref _, _, I.lnew (t' := s.toks) (r.append r2) (by rw [List.length_append]; omega), rfl, q _ I.fresh⟩
end
section
variable {prog : Program} {w : World} {A : Around} {E : Value → Shared → Prop} {s : Shared}
end
section
variable {X : Cx}
end
end L2
namespace Att
open PySem PySem.W PySem.Calls PyProof.Rows
theorem ints_of_wellAll {P : Params} {h : Heap} : ∀ (ns : List Int) (vs : List Value), WellAll P h vs (ns.map WData.int) → IntsAre vs ns := by
  intro ns
  induction ns with
  | nil =>
    intro vs w
    rw [List.map_nil] at w
    cases w
    exact .nil
  | cons n ns ih =>
    intro vs w
    rw [List.map_cons] at w
    cases w with
    | cons a b =>
      cases a
      exact .cons _ _ (ih _ b)
theorem script_of {l : OpenLaw} {n : Nat} (hn : l.most = some n) {P : Params} {h : Heap} {args : List WData} {vals : List Value}
    (hpre : l.row.toRowW.claim.pre args = true) (hwl : WellAll P h vals args) :
    ∃ a vs ns, vals = [Value.ref a] ∧ args = [WData.list (ns.map WData.int)] ∧ h.get? a = some { cls := .type "list", data := .seq vs.toArray } ∧ IntsAre vs ns ∧ ns.length ≤ n := by
  have hsh : WShape.hasAll [] args [.list .int] = true := (pre_splitW hpre).1
  have hc : l.pre.holds [] { args := args } = true := (pre_splitW hpre).2
  obtain ⟨d, r, rfl, h1, h2⟩ := hasAllW_cons hsh
  obtain rfl := hasAllW_nil h2
  obtain ⟨xs, rfl, h3⟩ := hasW_list h1
  obtain ⟨ns, rfl⟩ := items_int h3
  have hlen : ns.length ≤ n := by
    unfold OpenLaw.pre at hc
    have h4 : (WTm.not (.lt (.lit (.int (n : Int))) (.len (.arg 0)))).holds [] { args := [.list (ns.map .int)] } = true := by
      have h4 := (holds_andW hc).1
      rw [hn] at h4
      exact h4
    have h5 := condW_of h4 (w_not (w_lt w_lit (w_len_list (w_arg rfl))))
    rw [List.length_map] at h5
    refine Nat.le_of_not_lt fun q => ?_
    have q' : (n : Int) < ((ns.length : Nat) : Int) := by omega
    first
      | (rw [decide_eq_true q'] at h5; exact absurd h5 (by decide))
      | (simp at h5; omega)
  cases hwl with
  | cons w1 w2 =>
    cases w2
    cases w1 with
    | list ho hall => exact ⟨_, _, ns, rfl, rfl, ho, ints_of_wellAll ns _ hall, hlen⟩
theorem post_true (l : OpenLaw) (args : List WData) : l.row.toRowW.claim.post args (.bool true) args = true :=
  postW_of (r := l.row.toRowW) (X := (true == true))
    (show WShape.has [] (.bool true) .bool = true by first | rfl | decide | simp [WShape.has, WShape.arms, WShape.armsAll])
    (show (WTm.eq .res (.lit (.bool true))).value [] { args := args, res := some (.bool true), after := args } = some (.bool (true == true)) from w_eq_bool (w_res rfl) w_lit) rfl
theorem attach_call {l : OpenLaw} {n : Nat} {q : Program} {loose : List Str} {XP : (Str → Option Value) → Heap → Prop} {YP : World → Heap → Prop} {d : DefRec}
    (hn : l.most = some n) (hdf : d.params.defaults = [])
    (call : ∀ (w : World) (s₀ s₁ : Shared) (mg mb : Str → Option Value) (fa : Addr) (o : Obj) (pm cd doc : Value) (a : Addr) (vs : List Value) (ns : List Int),
      Ground q loose [] XP w s₀ mg mb s₁.heap → YP w s₁.heap →
      s₁.heap.get? fa = some o → o.data = .func (docDef d.name d.params d.body d.scope pm cd doc) → s₁.heap.CodeRec cd d.name → mg d.name = some (.ref fa) →
      s₁.heap.get? a = some { cls := .type "list", data := .seq vs.toArray } → IntsAre vs ns → ns.length ≤ n → s₁.gens = #[] →
      codeAny (model l.prog w) callerA (.call (.ref fa) ⟨[.ref a], []⟩) (fun r s' => r = .ok (.ret (.bool true)) ∧ OldK s₁.heap s'.heap ∧ s'.os = s₁.os ∧ AllBare s'.gens) s₁) :
    WalkO q loose XP YP l.row.toRowW d [] (fun f vs => PySem.call f vs) := by
  intro w s₀ s₁ mg mb G Y fa o pm cd doc dV kV ho hd hcd hD hmg hg args vals as hpre hlay hrd hwl hlo
  obtain rfl : dV = .none := Dflts.none hD hdf
  obtain rfl : kV = .none := Dflts.noKw hD
  obtain ⟨a, vs, ns, rfl, rfl, hobj, hints, hlen⟩ := script_of hn hpre hwl
  refine enter_call (codeAny_mono (call w s₀ s₁ mg mb fa o pm cd doc a vs ns G Y ho (fd_plain hd) hcd hmg hobj hints hlen hg) fun r s' hq => ?_)
  obtain ⟨rfl, h2, h3, h4⟩ := hq
  exact ⟨.inl ⟨.bool true, .bool true, [], rfl, fun _ => rfl, .bool true, post_true l _, fun _ => ⟨List.Pairwise.nil, fun _ hm => (nomatch hm)⟩⟩, h2, h3, h4⟩
section
variable {prog : Program} {w : World} {A : Around} {E : Value → Shared → Prop} {s : Shared} {K : Frag}
end
end Att
namespace L2
open PySem PySem.Spec PyProof.Rows
theorem vals_ints : ∀ {vs : List Value} {ns : List Int}, IntsAre vs ns → Vals (ns.map V.int) vs
  | _, _, .nil => .nil
  | _, _, .cons n t h => .cons ⟨t, rfl⟩ (vals_ints h)
def Only (H : Hp) : Prop := ∀ b, H b = none ∨ ∃ o xs, H b = some (.frz o (.lst xs))
theorem law_call {P : Program} {w : World} {K : PySem.W.Frag} {mg mb : Str → Option Value} {CX : CXT} {k : Nat} {fa a : Addr} {fd : FuncData} {x : Str} {sp : Sp} {s₁ : Shared} {vs : List Value} {ns : List Int}
    (KX : K.In s₁.heap) (hns : s₁.heap.Ns mainGlobals mg) (hb : s₁.heap.Ns builtinsNs mb) (hbb : ∀ x : Str, x ≠ "__name__" → mb x = bootBuiltins x) (hlim : s₁.heap.NoLimit) (hg : s₁.gens = #[])
    (ha : s₁.heap.get? a = some { cls := .type "list", data := .seq vs.toArray }) (hi : IntsAre vs ns) (hl : ns.length ≤ sizeLine) (hr : Room k callerA)
    (F : ∀ base : Heap, K.In base → base.Ns mainGlobals mg → FnOk P w K mg base CX k fa fd [x] sp) (hbind : ∀ (s : Shared) (u : Value), BindsTo s fd ⟨[u], []⟩ [(x, u)])
    (hsp : ∀ H : Hp, Only H → SqL K H a (ns.map V.int) → sp [.ref a] H (fun v _ => v = .bl true) fun _ _ _ => False)
    (hCX : ∀ H e s', CX [] H s₁ (fun _ _ _ => False) e s' → False) :
    codeAny (model P w) callerA (.call (.ref fa) ⟨[.ref a], []⟩) (fun r s' => r = .ok (.ret (.bool true)) ∧ OldK s₁.heap s'.heap ∧ s'.os = s₁.os ∧ AllBare s'.gens) s₁ := by
  have rv := vals_ints hi
  have lenV := hi.length
  have core : ∀ H : Hp, Only H → SqL K H a (ns.map V.int) → HOk P w H s₁.heap → (∀ b, H b ≠ none → b = a) → (H a ≠ none → K.lookup a = none) →
      codeAny (model P w) callerA (.call (.ref fa) ⟨[.ref a], []⟩) (fun r s' => r = .ok (.ret (.bool true)) ∧ OldK s₁.heap s'.heap ∧ s'.os = s₁.os ∧ AllBare s'.gens) s₁ := by
    intro H hO hS hok hA hK
    have base_of : ∀ {b : Addr} {o : Obj}, s₁.heap.get? b = some o → H b = none → (hidT s₁.heap H).get? b = some o := fun e n => hidT_get e n
    have noA : ∀ {b : Addr} {o : Obj} {es : Array DictEntry} {ep : Nat}, s₁.heap.get? b = some o → o.data = .dict es ep → H b = none := fun {b o es ep} e d => by
      cases q : H b with
      | none => rfl
      | some u =>
        have e' : b = a := hA b (by rw [q]; simp)
        subst e'
        rw [ha] at e; cases e
        have d' : Data.seq vs.toArray _ = Data.dict es ep := d
        cases d'
    have nsK : ∀ {b : Addr} {m : Str → Option Value}, s₁.heap.Ns b m → (hidT s₁.heap H).Ns b m := fun {b m} ⟨o, es, ep, e, d, r⟩ => ⟨o, es, ep, base_of e (noA e d), d, r⟩
    have hKb : K.In (hidT s₁.heap H) := fun b o e => base_of (KX b o e) (by
      cases q : H b with
      | none => rfl
      | some u =>
        have e' : b = a := hA b (by rw [q]; simp)
        subst e'
        rw [hK (by rw [q]; simp)] at e; cases e)
    have hM : Mod K mg (hidT s₁.heap H) := ⟨hKb, nsK hns, ⟨mb, nsK hb, hbb⟩, let ⟨mc, h1, h2⟩ := hlim; ⟨mc, nsK h1, h2⟩⟩
    have e0 : Env0 P w K mg (hidT s₁.heap H) callerA [] s₁ H := ⟨rfl, hM, fun b o e => of_hidT e, Nat.le_of_eq (hidT_size _ _), trivial, fun b hb => absurd (show b ∈ ([] : List Addr) from hb) (by simp), hok, .of_eq hg⟩
    refine codeAny_mono ((F _ hKb (nsK hns)).run callerA [] s₁ H ⟨[.ref a], []⟩ [.ref a] [.ref a] _ _ hr e0 (hbind s₁ (.ref a)) (.cons rfl .nil) (hsp H hO hS)) fun r s' h => ?_
    cases r with
    | error e => exact (hCX H e s' h).elim
    | ok fl =>
      cases fl with
      | next => exact False.elim h
      | brk => exact False.elim h
      | cont => exact False.elim h
      | ret u =>
        obtain ⟨v, H', os, bare, un, hok', r', q⟩ := h
        have q' : v = .bl true := q
        subst q'
        obtain rfl : u = Value.bool true := r'
        refine ⟨rfl, OldK.of_keep fun b o e => ?_, os, bare⟩
        cases q : H b with
        | none => exact un.keep b o e q (by intro z; exact absurd (show b ∈ ([] : List Addr) from z) (by simp)) (by simp)
        | some u =>
          rcases hO b with z | ⟨ob, xs, z⟩
          · rw [q] at z; cases z
          · have z2 := un.frzs b ob _ z
            obtain ⟨e1, _⟩ := hok b _ z
            obtain ⟨e2, _⟩ := hok' b _ z2
            rw [e] at e1; cases e1
            exact e2
  cases hk : K.lookup a with
  | some o =>
    have e := KX a o hk
    rw [ha] at e
    cases e
    refine core (fun _ => none) (fun _ => .inl rfl) (.inr ⟨_, vs.toArray, _, hk, rfl, rfl, rfl, by rw [List.size_toArray, lenV]; exact hl, by simpa using rv⟩) (fun b u z => by have z' : (none : Option HO) = some u := z; cases z') (fun b z => absurd rfl z) fun z => absurd rfl z
  | none =>
    refine core (fun b => if b = a then some (.frz { cls := .type "list", data := .seq vs.toArray } (.lst (ns.map V.int))) else none) (fun b => ?_) (.inl (.inr ⟨{ cls := .type "list", data := .seq vs.toArray }, if_pos rfl⟩)) (fun b u z => ?_) (fun b z => ?_) fun _ => hk
    · by_cases hb : b = a
      · exact .inr ⟨_, _, if_pos hb⟩
      · exact .inl (if_neg hb)
    · by_cases hb : b = a
      · have z' := (if_pos hb).symm.trans z
        cases z'
        subst hb
        exact ⟨ha, by rw [List.length_map]; exact hl, vs, _, rv, ha⟩
      · have z' := (if_neg hb).symm.trans z
        cases z'
    · by_cases hb : b = a
      · exact hb
      · exact absurd (if_neg hb) z
end L2
namespace L2
open PySem PySem.Spec PyProof.Rows
abbrev KOf {K : PySem.W.Frag} {h : Heap} (_ : K.In h) : PySem.W.Frag := K
theorem walk_of {l : PySem.W.OpenLaw} {n k : Nat} {q : Program} {loose : List Str} {XP : (Str → Option Value) → Heap → Prop} {YP : World → Heap → Prop} {d : DefRec} {K : Params → PySem.W.Frag} {CX : World → CXT} {sp : World → Sp} {x : Str}
    (hn : l.most = some n) (hn2 : n ≤ sizeLine) (hdf : d.params.defaults = []) (hr : Room k callerA)
    (hY : ∀ (w : World) (h : Heap), YP w h → (K w.params).In h)
    (F : ∀ (w : World) (mg : Str → Option Value) (fa : Addr) (h : Heap), (K w.params).In h → h.Ns mainGlobals mg → mg d.name = some (.ref fa) →
      ∃ fd : FuncData, (∀ (s : Shared) (u : Value), BindsTo s fd ⟨[u], []⟩ [(x, u)]) ∧
        ∀ base : Heap, (K w.params).In base → base.Ns mainGlobals mg → FnOk l.prog w (K w.params) mg base (CX w) k fa fd [x] (sp w))
    (hsp : ∀ (w : World) (H : Hp) (a : Addr) (ns : List Int), ns.length ≤ n → Only H → SqL (K w.params) H a (ns.map V.int) → sp w [.ref a] H (fun v _ => v = .bl true) fun _ _ _ => False)
    (hCX : ∀ (w : World) (H : Hp) (s : Shared) (e : Value) (s' : Shared), CX w [] H s (fun _ _ _ => False) e s' → False) :
    PySem.W.WalkO q loose XP YP l.row.toRowW d [] (fun f vs => PySem.call f vs) := by
  refine Att.attach_call hn hdf fun w s₀ s₁ mg mb fa o pm cd doc a vs ns G Y ho hd hcd hmg hobj hints hlen hg => ?_
  have KX := hY w _ Y
  obtain ⟨fd, hb, hF⟩ := F w mg fa _ KX G.T.g hmg
  exact law_call KX G.T.g G.T.b G.T.builtins G.T.nolimit hg hobj hints (Nat.le_trans hlen hn2) hr hF hb (fun H hO hS => hsp w H a ns hlen hO hS) fun H e s' => hCX w H s₁ e s'
end L2
/- THE LAST THEOREM (shape; LID, My.* are yours):
   My.Adr: a structure of the addresses that your layer names (classes, functions); My.Txt K t: a structure (Prop) of the equations over K;
   My.txt_mk : {K} {implicit addresses ..} (e1 : nsIn K mainGlobals "law" = some (some (.ref f))) (e2 : K.lookup f = some ⟨oc, od, .func (fnOf "law" "law" params body scope dV kV doc pm an cdv ct), sl⟩) (e3 : codeIn K cdv "law" = true) .. : ∃ t, My.Txt K t
set_option maxRecDepth 100000 in
set_option maxHeartbeats 0 in
theorem PySem.Challenge.cw_LID_holds : PySem.Challenge.rw_LID.Holds := by
  w_on; o_law; k_head; (case hw => w_witness2)
  k_fill
  refine L2.walk_of (l := PySem.Challenge.rw_LID) (n := 63) (k := 40) (x := "script") (CX := fun w => ..) (sp := fun _ => My.sp_law) rfl (by decide) rfl ⟨rfl, by decide, by decide⟩ (fun w h Y => PySem.W.kIn_of Y) ?F ?S ?C
  case F =>
    intro w mg fa h KX G hmg
    have T : ∃ t, My.Txt (L2.KOf KX) t := by
      dsimp only [L2.KOf]                          -- K must stand as «<heap const> w.params» for k_is
      refine' My.txt_mk ?e1 ?e2 ?e3 ..
      (case e1 => PySem.W.k_is)                    -- in the order: a name -> its address -> its object -> its parts
      (case e2 => PySem.W.k_is)
      ..
    obtain ⟨t, T⟩ := T
    have e0 := hmg.symm.trans (PySem.W.mg_of KX G T.law)
    cases e0                                       -- fa is the law's own address
    exact ⟨_, fun s u => .of_eq rfl, fun base kb nb => My.law_fn T kb nb⟩     -- if «.of_eq rfl» comes too early: refine' ⟨_, ?b, fun base kb nb => My.law_fn T kb nb⟩; exact fun s u => .of_eq rfl
  case S => exact fun w H a ns hl hO hS => ..
  case C => exact ..
(the tactic k_is has no namespace: write k_is) -/
namespace L2
open PySem PySem.Spec PyProof.Rows
def inClass (s : Stmt) (j : Nat) : Stmt := match s with
  | .ClassDef _ _ _ body _ _ _ _ _ _ _ => body.getD j (.Pass ⟨0, 0, 0, 0⟩)
  | _ => .Pass ⟨0, 0, 0, 0⟩
def defArgs (s : Stmt) : Arguments := match s with
  | .FunctionDef _ a _ _ _ _ _ _ _ _ => a
  | _ => { posonlyargs := [], args := [], vararg := none, kwonlyargs := [], kw_defaults := [], kwarg := none, defaults := [] }
def defBody (s : Stmt) : List Stmt := match s with
  | .FunctionDef _ _ b _ _ _ _ _ _ _ => b
  | _ => []
def defScope (s : Stmt) : Scope := match s with
  | .FunctionDef _ _ _ _ _ _ sc _ _ _ => sc
  | _ => { kind := .function, names := [], isGenerator := false, isCoroutine := false }
abbrev CX0 : CXT := fun _ _ _ _ _ _ => False
abbrev E0 : XK := fun _ _ _ => False
structure Fun (K : PySem.W.Frag) (x qual : Str) (st : Stmt) (f : Addr) (fd : FuncData) : Prop where
  ex : ∃ (oc : Value) (od : Option Addr) (kV doc pm : Value) (an : Option Addr) (cdv ct : Value) (osl : Array (Option Value)),
    fd = PySem.W.fnOf x qual (defArgs st) (defBody st) (defScope st) .none kV doc pm an cdv ct ∧ K.lookup f = some ⟨oc, od, .func fd, osl⟩ ∧ PySem.W.codeIn K cdv qual = true
  kp : PySem.W.keepIn K (.ref f) = true
section
variable {P : Program} {w : World} {K : PySem.W.Frag} {mg : Str → Option Value} {base : Heap}
theorem Fun.binds {x qual : Str} {st : Stmt} {f : Addr} {fd : FuncData} {ps : List Str} (F : Fun K x qual st f fd)
    (h : ∀ (kV doc pm : Value) (an : Option Addr) (cdv ct : Value) (us : List Value), us.length = ps.length → bindArgs (PySem.W.fnOf x qual (defArgs st) (defBody st) (defScope st) .none kV doc pm an cdv ct) ⟨us, []⟩ = pure (ps.zip us)) : Binds K fd ps [] := by
  obtain ⟨oc, od, kV, doc, pm, an, cdv, ct, osl, rfl, lk, hcd⟩ := F.ex
  exact .all (h kV doc pm an cdv ct)
theorem fun_mk {x qual : Str} {st : Stmt} {f : Addr} {oc : Value} {od an : Option Addr} {osl : Array (Option Value)} {kV doc pm cdv ct : Value} (l : K.lookup f = some ⟨oc, od, .func (PySem.W.fnOf x qual (defArgs st) (defBody st) (defScope st) .none kV doc pm an cdv ct), osl⟩)
    (c : PySem.W.codeIn K cdv qual = true) (k : PySem.W.keepIn K (.ref f) = true) : Fun K x qual st f (PySem.W.fnOf x qual (defArgs st) (defBody st) (defScope st) .none kV doc pm an cdv ct) := ⟨⟨oc, od, kV, doc, pm, an, cdv, ct, osl, rfl, l, c⟩, k⟩
end
theorem hu_of {A : Around} {k : Nat} (hr : Room k A) : A.units + 1 < cLine := Nat.lt_of_le_of_lt (Nat.add_le_add_left (by decide : 1 ≤ 64) _) hr.units
section
variable {X : Cx}
theorem pv (i : Nat) {x : Str} {pos : Pos} (hN : X.N[i]? = some x := by rfl) (hv : Vis X.env.scope x := by first | exact Or.inl rfl | exact Or.inr (Or.inl rfl) | exact Or.inr (Or.inr rfl)) (hd : (x == ("__debug__" : Str)) = false := by decide)
    (hcd : (x == ("__classdict__" : Str)) = false := by decide) : PE X (.Name x pos) (tVar i) := pe_var hN hv hd hcd
end
theorem iteF {A B : Prop} (h : B) : if false = true then A else B := by
  rw [if_neg Bool.false_ne_true]
  exact h
theorem iteT {A B : Prop} (h : A) : if true = true then A else B := by
  rw [if_pos rfl]
  exact h
theorem ite2 {c A B : Prop} [Decidable c] (h1 : c → A) (h2 : ¬ c → B) : if c then A else B := by
  by_cases h : c
  · rw [if_pos h]
    exact h1 h
  · rw [if_neg h]
    exact h2 h
def Same (H H' : Hp) : Prop := ∀ b o, H b = some o → H' b = some o
theorem Same.refl (H : Hp) : Same H H := fun _ _ h => h
theorem Same.trans {H H1 H2 : Hp} (a : Same H H1) (b : Same H1 H2) : Same H H2 := fun c o h => b c o (a c o h)
theorem Same.free {H H' : Hp} (e : Same H H') {l : Addr} (h : H' l = Option.none) : H l = Option.none := by
  cases q : H l with
  | none => rfl
  | some o =>
    rw [e l o q] at h
    cases h
theorem Same.seq {K : PySem.W.Frag} {H H' : Hp} {a : Addr} {xs : List V} (e : Same H H') (h : SqL K H a xs) : SqL K H' a xs := by
  rcases h with (h | ⟨o, h⟩) | h
  · exact .inl (.inl (e _ _ h))
  · exact .inl (.inr ⟨o, e _ _ h⟩)
  · exact .inr h
end L2
set_option Elab.async false
set_option linter.all false
set_option maxRecDepth 100000
namespace L2
open PySem PySem.Spec PyProof.Rows
section
variable {κ : Type} [DecidableEq κ]
def valV (kvs : List (κ × V)) (k : κ) : Option V := (kvs.find? fun kv => decide (kv.1 = k)).map (·.2)
def putK (kvs : List (κ × V)) (k : κ) (v : V) : List (κ × V) :=
  if (kvs.any fun kv => decide (kv.1 = k)) = true then kvs.map (fun kv => if kv.1 = k then (kv.1, v) else kv) else kvs ++ [(k, v)]
def dropK (kvs : List (κ × V)) (k : κ) : List (κ × V) := kvs.filter fun kv => decide (kv.1 ≠ k)
theorem valV_pos {p : κ × V} {r : List (κ × V)} {k : κ} (e : p.1 = k) : valV (p :: r) k = some p.2 := by simp [valV, List.find?_cons, e]
theorem valV_neg {p : κ × V} {r : List (κ × V)} {k : κ} (e : ¬ p.1 = k) : valV (p :: r) k = valV r k := by simp [valV, List.find?_cons, e]
theorem valV_any (k : κ) : ∀ kvs : List (κ × V), (kvs.any fun kv => decide (kv.1 = k)) = (valV kvs k).isSome
  | [] => rfl
  | p :: r => by
    rw [List.any_cons]
    by_cases e : p.1 = k
    · simp only [valV_pos e, decide_eq_true e, Bool.true_or, Option.isSome_some]
    · rw [valV_neg e, decide_eq_false e, Bool.false_or]; exact valV_any k r
theorem length_putK (kvs : List (κ × V)) (k : κ) (v : V) : (putK kvs k v).length ≤ kvs.length + 1 := by
  unfold putK
  split
  · rw [List.length_map]; omega
  · rw [List.length_append, List.length_cons, List.length_nil]; omega
theorem putK_new {kvs : List (κ × V)} {k : κ} (v : V) (h : valV kvs k = none) : putK kvs k v = kvs ++ [(k, v)] := by
  unfold putK
  rw [valV_any, h]
  exact if_neg (by decide)
theorem RelO.isSome_eq {o : Option V} {u : Option Value} (r : RelO o u) : o.isSome = u.isSome := by
  cases o with
  | none => cases u with
    | none => rfl
    | some _ => exact (show False from r).elim
  | some _ => cases u with
    | none => exact (show False from r).elim
    | some _ => rfl
theorem RelO.getD {o : Option V} {u : Option Value} {d : V} {d' : Value} (r : RelO o u) (rd : RelV d d') : RelV (o.getD d) (u.getD d') := by
  cases o with
  | none => cases u with
    | none => exact rd
    | some _ => exact (show False from r).elim
  | some _ => cases u with
    | none => exact (show False from r).elim
    | some _ => exact r
theorem KV.val {kvs : List (κ × V)} {vs : List (κ × Value)} (r : KV kvs vs) (k : κ) : RelO (valV kvs k) (valueAt vs k) := by
  unfold KV at r
  induction r with
  | nil => exact True.intro
  | @cons p q ps qs h t ih =>
    obtain ⟨h1, h2⟩ := h
    by_cases e : p.1 = k
    · have e' : q.1 = k := h1.symm.trans e
      have b : valueAt (q :: qs) k = some q.2 := by simp [valueAt, List.find?_cons, e']
      rw [valV_pos e, b]; exact h2
    · have e' : ¬ q.1 = k := fun z => e (h1.trans z)
      have b : valueAt (q :: qs) k = valueAt qs k := by simp [valueAt, List.find?_cons, e']
      rw [valV_neg e, b]; exact ih
theorem KV.any {kvs : List (κ × V)} {vs : List (κ × Value)} (r : KV kvs vs) (k : κ) : (kvs.any fun kv => decide (kv.1 = k)) = vs.any fun kv => decide (kv.1 = k) := by
  unfold KV at r
  induction r with
  | nil => rfl
  | cons h t ih => rw [List.any_cons, List.any_cons, ih, h.1]
theorem KV.repl {kvs : List (κ × V)} {vs : List (κ × Value)} (r : KV kvs vs) (k : κ) {y : V} {u : Value} (ry : RelV y u) :
    KV (kvs.map fun kv => if kv.1 = k then (kv.1, y) else kv) (vs.map fun kv => if kv.1 = k then (kv.1, u) else kv) := by
  unfold KV at r ⊢
  induction r with
  | nil => exact .nil
  | @cons p q ps qs h t ih =>
    rw [List.map_cons, List.map_cons]
    refine .cons ?_ ih
    obtain ⟨h1, h2⟩ := h
    by_cases e : p.1 = k
    · rw [if_pos e, if_pos (h1.symm.trans e)]; exact ⟨h1, ry⟩
    · rw [if_neg e, if_neg (fun z => e (h1.trans z))]; exact ⟨h1, h2⟩
theorem KV.put {kvs : List (κ × V)} {vs : List (κ × Value)} (r : KV kvs vs) (k : κ) {y : V} {u : Value} (ry : RelV y u) : KV (putK kvs k y) (stored vs k u) := by
  unfold putK stored
  rw [r.any k]
  by_cases e : (vs.any fun kv => decide (kv.1 = k)) = true
  · rw [if_pos e, if_pos e]; exact r.repl k ry
  · rw [if_neg e, if_neg e]; exact Paired.snoc r ⟨rfl, ry⟩
theorem KV.drop {kvs : List (κ × V)} {vs : List (κ × Value)} (r : KV kvs vs) (k : κ) : KV (dropK kvs k) (without vs k) := by
  unfold KV at r ⊢
  unfold dropK without
  induction r with
  | nil => exact .nil
  | @cons p q ps qs h t ih =>
    obtain ⟨h1, h2⟩ := h
    rw [List.filter_cons, List.filter_cons]
    by_cases e : p.1 = k
    · have a : ¬ decide (p.1 ≠ k) = true := by simp [e]
      have b : ¬ decide (q.1 ≠ k) = true := by simp [h1.symm.trans e]
      rw [if_neg a, if_neg b]; exact ih
    · have e' : ¬ q.1 = k := fun z => e (h1.trans z)
      have a : decide (p.1 ≠ k) = true := by simp [e]
      have b : decide (q.1 ≠ k) = true := by simp [e']
      rw [if_pos a, if_pos b]; exact .cons ⟨h1, h2⟩ ih
theorem KV.keys {kvs : List (κ × V)} {vs : List (κ × Value)} (r : KV kvs vs) : kvs.map (·.1) = vs.map (·.1) := by
  unfold KV at r
  induction r with
  | nil => rfl
  | cons h t ih => rw [List.map_cons, List.map_cons, ih, h.1]
theorem KV.length {kvs : List (κ × V)} {vs : List (κ × Value)} (r : KV kvs vs) : kvs.length = vs.length := Paired.length r
theorem dropK_le (kvs : List (κ × V)) (k : κ) : (dropK kvs k).length ≤ kvs.length := List.length_filter_le _ _
end
theorem kV_is {P : Program} {w : World} {k : Key} {u : Value} (r : RelV (kV k) u) : (mixKind P w).is k u = true := by
  cases k with
  | inl i => obtain ⟨t, e⟩ := (show ∃ t, u = Value.int i t from r); subst e; exact mixKind_int P w i t
  | inr x => obtain ⟨t, e⟩ := (show ∃ t, u = Value.str x t from r); subst e; exact mixKind_str P w x t
theorem items_are {P : Program} {w : World} : ∀ {ks : List Key} {us : List Value}, Vals (ks.map kV) us → ItemsAre (mixKind P w) ks us
  | [], _, r => by rw [List.map_nil] at r; cases r; exact .nil
  | k :: ks, _, r => by
    rw [List.map_cons] at r
    cases r with
    | cons h t => exact .cons (kV_is h) (items_are t)
abbrev KT (H : Hp) : List (List Key × V) → List (List Key × Addr × Value) → Prop := Paired fun p q => p.1 = q.1 ∧ H q.2.1 = some (.tup (p.1.map kV)) ∧ RelV p.2 q.2.2
theorem KT.val {H : Hp} {kvs : List (List Key × V)} {xs : List (List Key × Addr × Value)} (r : KT H kvs xs) (k : List Key) : RelO (valV kvs k) ((atKey xs k).map (·.2)) := by
  induction r with
  | nil => exact True.intro
  | @cons p q ps qs h t ih =>
    obtain ⟨h1, _, h2⟩ := h
    by_cases e : p.1 = k
    · have e' : q.1 = k := h1.symm.trans e
      have b : atKey (q :: qs) k = some q.2 := by simp [atKey, List.find?_cons, e']
      rw [valV_pos e, b]; exact h2
    · have e' : ¬ q.1 = k := fun z => e (h1.trans z)
      have b : atKey (q :: qs) k = atKey qs k := by simp [atKey, List.find?_cons, e']
      rw [valV_neg e, b]; exact ih
theorem KT.repl {H : Hp} {kvs : List (List Key × V)} {xs : List (List Key × Addr × Value)} (r : KT H kvs xs) (k : List Key) {y : V} {u : Value} (ry : RelV y u) :
    KT H (kvs.map fun kv => if kv.1 = k then (kv.1, y) else kv) (xs.map (putAt k u)) := by
  induction r with
  | nil => exact .nil
  | @cons p q ps qs h t ih =>
    rw [List.map_cons, List.map_cons]
    refine .cons ?_ ih
    obtain ⟨h1, h2, h3⟩ := h
    unfold putAt
    by_cases e : p.1 = k
    · rw [if_pos e, if_pos (h1.symm.trans e)]; exact ⟨h1, h2, ry⟩
    · rw [if_neg e, if_neg (fun z => e (h1.trans z))]; exact ⟨h1, h2, h3⟩
theorem KT.put {H : Hp} {kvs : List (List Key × V)} {xs : List (List Key × Addr × Value)} (r : KT H kvs xs) (k : List Key) {b : Addr} {y : V} {u : Value} (hb : H b = some (.tup (k.map kV))) (ry : RelV y u) :
    KT H (putK kvs k y) (storedH xs k b u) := by
  have e : (kvs.any fun kv => decide (kv.1 = k)) = (atKey xs k).isSome := by
    rw [valV_any, (r.val k).isSome_eq, Option.isSome_map]
  unfold putK storedH
  rw [e]
  by_cases q : (atKey xs k).isSome = true
  · rw [if_pos q, if_pos q]; exact r.repl k ry
  · rw [if_neg q, if_neg q]; exact Paired.snoc r ⟨rfl, hb, ry⟩
theorem KT.keeps {H H' : Hp} {kvs : List (List Key × V)} {xs : List (List Key × Addr × Value)} (r : KT H kvs xs) (ht : ∀ b ys, H b = some (.tup ys) → H' b = some (.tup ys)) : KT H' kvs xs :=
  Paired.mapP r fun _ _ z => ⟨z.1, ht _ _ z.2.1, z.2.2⟩
section
variable {P : Program} {w : World} {H : Hp} {h : Heap} {a : Addr}
theorem rd_of {u : HO} (ok : HOk P w H h) (e : Rd H a u) : ObjOk P w H h a u := e.ok ok
theorem dk_rd {kvs : List (Key × V)} (ok : HOk P w H h) (e : Rd H a (.dK kvs)) : kvs.length ≤ sizeLine ∧ (a == sysModules) = false ∧ ∃ vs, KV kvs vs ∧ h.DictOf (mixKind P w) a vs :=
  show ObjOk P w H h a (.dK kvs) from rd_of ok e
theorem dk_of {kvs : List (Key × V)} (ok : HOk P w H h) (e : H a = some (.dK kvs)) : kvs.length ≤ sizeLine ∧ (a == sysModules) = false ∧ ∃ vs, KV kvs vs ∧ h.DictOf (mixKind P w) a vs := dk_rd ok (.inl e)
theorem key_of {ks : List Key} (ok : HOk P w H h) (e : H a = some (.tup (ks.map kV))) : (tupleKind (mixKind P w)).is h ks a := by
  obtain ⟨_, its, r, o, h1, h2, n, h3⟩ := (show ObjOk P w H h a (.tup (ks.map kV)) from ok a _ e)
  exact ⟨o, its.toArray, n, h1, h2, h3, by simpa using items_are r⟩
theorem dt_rd {kvs : List (List Key × V)} (ok : HOk P w H h) (e : Rd H a (.dT kvs)) : kvs.length ≤ sizeLine ∧ (a == sysModules) = false ∧
    ∃ xs, KT H kvs xs ∧ h.DictOfH (tupleKind (mixKind P w)) a xs := by
  obtain ⟨z, y, xs, r, o, es, ep, h1, h2, h3, h4, h5⟩ := (show ObjOk P w H h a (.dT kvs) from rd_of ok e)
  refine ⟨z, y, xs, r, o, es, ep, h1, h2, h3, h4, fun x hx => ?_, h5⟩
  have all : ∀ {l : List (List Key × V)} {m : List (List Key × Addr × Value)}, KT H l m → ∀ x ∈ m, (tupleKind (mixKind P w)).is h x.1 x.2.1 := by
    intro l m q
    induction q with
    | nil => intro x hx; exact nomatch hx
    | @cons p q ps qs hq t ih =>
      intro x hx
      rcases List.mem_cons.mp hx with e | hx
      · subst e
        exact key_of ok (by rw [← hq.1]; exact hq.2.1)
      · exact ih x hx
  exact all r x hx
theorem dt_of {kvs : List (List Key × V)} (ok : HOk P w H h) (e : H a = some (.dT kvs)) : kvs.length ≤ sizeLine ∧ (a == sysModules) = false ∧
    ∃ xs, KT H kvs xs ∧ h.DictOfH (tupleKind (mixKind P w)) a xs := dt_rd ok (.inl e)
end
def DGet (H : Hp) (a : Addr) (y : V) (r : Option V) : Prop :=
  (∃ kvs k, Rd H a (.dK kvs) ∧ y = kV k ∧ r = valV kvs k) ∨ ∃ kvs k b, Rd H a (.dT kvs) ∧ y = .ref b ∧ H b = some (.tup (k.map kV)) ∧ r = valV kvs k
def DPut (H : Hp) (a : Addr) (y v : V) (H' : Hp) : Prop :=
  (∃ kvs k, H a = some (.dK kvs) ∧ y = kV k ∧ kvs.length < sizeLine ∧ H' = upd H a (.dK (putK kvs k v))) ∨
  ∃ kvs k b, H a = some (.dT kvs) ∧ y = .ref b ∧ H b = some (.tup (k.map kV)) ∧ kvs.length < sizeLine ∧ H' = upd H a (.dT (putK kvs k v))
theorem DGet.k {H : Hp} {a : Addr} {kvs : List (Key × V)} {k : Key} (e : H a = some (.dK kvs)) : DGet H a (kV k) (valV kvs k) := .inl ⟨kvs, k, .inl e, rfl, rfl⟩
theorem DPut.k {H : Hp} {a : Addr} {kvs : List (Key × V)} {k : Key} {v : V} (e : H a = some (.dK kvs)) (hl : kvs.length < sizeLine) : DPut H a (kV k) v (upd H a (.dK (putK kvs k v))) := .inl ⟨kvs, k, e, rfl, hl, rfl⟩
section
variable {X : Cx} {pins : List (Addr × Obj)} {σ : St} {H : Hp} {s : Shared} {a : Addr} {y v : V} {u r : Value} {o : Option V} {A : Around} {E : Value → Shared → Prop}
theorem Inv.big (I : Inv X pins σ H s) : sysModules < s.heap.objs.size := by
  have h : mainGlobals < s.heap.objs.size := (I.mod.glob.keeps I.bk).lt
  exact Nat.lt_trans (by decide) h
theorem d_getItem {Q : Value → Shared → Prop} (hu : A.units + 1 < cLine) (I : Inv X pins σ H s) (g : DGet H a y (some v)) (ry : RelV y u) (h : ∀ w' s', Inv X pins σ H s' → RelV v w' → Q w' s') :
    wpAny (model X.prog X.w) A (getItem (.ref a) u) Q E s := by
  rcases g with ⟨kvs, k, e, ey, l⟩ | ⟨kvs, k, b, e, ey, eb, l⟩
  · subst ey
    obtain ⟨z, hd, vs, rel, dd⟩ := dk_rd I.hok e
    obtain ⟨w', hw, rw'⟩ := RelO.some_of (v := v) (o := valueAt vs k) (by rw [l]; exact rel.val k)
    exact wpAny_getItem_of (kV_is ry) dd.mapOf hw (h w' _ (I.tok _) rw')
  · subst ey
    cases (show u = Value.ref b from ry)
    obtain ⟨z, hd, xs, rel, dd⟩ := dt_rd I.hok e
    obtain ⟨w', hw, rw'⟩ := RelO.some_of (v := v) (o := (atKey xs k).map (·.2)) (by rw [l]; exact rel.val k)
    obtain ⟨p, hp, hp2⟩ := Option.map_eq_some_iff.mp hw
    refine wpAny_getItem_heap (tupleKind_room_in1 hu) (key_of I.hok eb) dd hp ?_
    rw [hp2]
    exact h w' _ (I.tok _) rw'
theorem d_in {Q : Value → Shared → Prop} (hu : A.units + 1 < cLine) (I : Inv X pins σ H s) (g : DGet H a y o) (ry : RelV y u) (h : ∀ s', Inv X pins σ H s' → Q (.bool o.isSome) s') :
    wpAny (model X.prog X.w) A (compareOp .In u (.ref a)) Q E s := by
  rcases g with ⟨kvs, k, e, ey, l⟩ | ⟨kvs, k, b, e, ey, eb, l⟩
  · subst ey
    obtain ⟨z, hd, vs, rel, dd⟩ := dk_rd I.hok e
    refine wpAny_in_of (kV_is ry) hd dd.mapOf ?_
    rw [← (rel.val k).isSome_eq, ← l]
    exact h _ (I.tok _)
  · subst ey
    cases (show u = Value.ref b from ry)
    obtain ⟨z, hd, xs, rel, dd⟩ := dt_rd I.hok e
    refine wpAny_in_heap (tupleKind_room_in1 hu) (key_of I.hok eb) hd dd ?_
    have q := (rel.val k).isSome_eq
    rw [Option.isSome_map] at q
    rw [← q, ← l]
    exact h _ (I.tok _)
theorem d_notIn {Q : Value → Shared → Prop} (hu : A.units + 1 < cLine) (I : Inv X pins σ H s) (g : DGet H a y o) (ry : RelV y u) (h : ∀ s', Inv X pins σ H s' → Q (.bool (!o.isSome)) s') :
    wpAny (model X.prog X.w) A (compareOp .NotIn u (.ref a)) Q E s := by
  rcases g with ⟨kvs, k, e, ey, l⟩ | ⟨kvs, k, b, e, ey, eb, l⟩
  · subst ey
    obtain ⟨z, hd, vs, rel, dd⟩ := dk_rd I.hok e
    refine wpAny_notIn_of (kV_is ry) hd dd.mapOf ?_
    rw [← (rel.val k).isSome_eq, ← l]
    exact h _ (I.tok _)
  · subst ey
    cases (show u = Value.ref b from ry)
    obtain ⟨z, hd, xs, rel, dd⟩ := dt_rd I.hok e
    refine wpAny_notIn_heap (tupleKind_room_in1 hu) (key_of I.hok eb) hd dd ?_
    have q := (rel.val k).isSome_eq
    rw [Option.isSome_map] at q
    rw [← q, ← l]
    exact h _ (I.tok _)
theorem d_write {h' : Heap} {t' : Nat} {ob : HO} (I : Inv X pins σ H s) (mu : Mut (H a)) (hs : Heap.SameBut a s.heap h') (he : ∃ q, h'.get? a = some q) (new : ObjOk X.prog X.w (upd H a ob) h' a ob) :
    Inv X pins σ (upd H a ob) { s with heap := h', toks := t' } :=
  I.write (x := a) (e := a) mu (.inl rfl) (fun b q hb z => (hs.2 b hb).trans z) he new
theorem dk_new {P : Program} {w : World} {H' : Hp} {h' : Heap} {kvs : List (Key × V)} {vs : List (Key × Value)} (z : kvs.length ≤ sizeLine) (hd : (a == sysModules) = false) (rel : KV kvs vs) (dd : h'.DictOf (mixKind P w) a vs) :
    ObjOk P w H' h' a (.dK kvs) := ⟨z, hd, vs, rel, dd⟩
theorem d_setItem {H' : Hp} {Q : Unit → Shared → Prop} (hu : A.units + 1 < cLine) (I : Inv X pins σ H s) (g : DPut H a y v H') (ry : RelV y u) (rv : RelV v r) (h : ∀ s', Inv X pins σ H' s' → Q () s') :
    wpAny (model X.prog X.w) A (setItem (.ref a) u r) Q E s := by
  rcases g with ⟨kvs, k, e, ey, l, eH⟩ | ⟨kvs, k, b, e, ey, eb, l, eH⟩
  · subst ey eH
    obtain ⟨z, hd, vs, rel, dd⟩ := dk_of I.hok e
    have hz : vs.length ≤ sizeLine := by rw [← rel.length]; exact z
    have hl : (putK kvs k v).length ≤ sizeLine := by have := length_putK kvs k v; omega
    refine wpAny_setItem_pairs (hsz := hz) (kV_is ry) dd fun h' dd' hs => h _ ?_
    have he : ∃ q, h'.get? a = some q := let ⟨q, _, _, hq, _⟩ := dd'; ⟨q, hq⟩
    exact d_write I (by rw [e]; exact True.intro) hs he (dk_new hl hd (rel.put k rv) dd')
  · subst ey eH
    cases (show u = Value.ref b from ry)
    obtain ⟨z, hd, xs, rel, dd⟩ := dt_of I.hok e
    have hz : xs.length ≤ sizeLine := by rw [← Paired.length rel]; exact z
    have hl : (putK kvs k v).length ≤ sizeLine := by have := length_putK kvs k v; omega
    refine wpAny_setItem_heap (hsz := hz) (tupleKind_room_in1 hu) (key_of I.hok eb) dd fun h' dd' hs => h _ ?_
    obtain ⟨q, es, ep, hq, h2, h3, h4, _, h5⟩ := dd'
    refine d_write I (by rw [e]; exact True.intro) hs ⟨q, hq⟩ ⟨hl, hd, _, (rel.put k eb rv).keeps fun c ys ec => ?_, q, es, ep, hq, h2, h3, h4, h5⟩
    rw [upd_ne (ne_of ec e (fun z => nomatch z))]
    exact ec
end
section
variable {X : Cx} {pins : List (Addr × Obj)} {σ : St} {H : Hp} {s : Shared} {a : Addr} {kvs : List (Key × V)} {k : Key} {u : Value} {A : Around} {E : Value → Shared → Prop}
theorem d_pop {v : V} {more : List Value} {Q : Value → Shared → Prop} (I : Inv X pins σ H s) (e : H a = some (.dK kvs)) (ry : RelV (kV k) u) (l : valV kvs k = some v) (hm : more = [] ∨ ∃ x, more = [x])
    (h : ∀ w' s', Inv X pins σ (upd H a (.dK (dropK kvs k))) s' → RelV v w' → Q w' s') : wpAny (model X.prog X.w) A (call (.builtin "dict.pop") (.ref a :: u :: more)) Q E s := by
  obtain ⟨z, hd, vs, rel, dd⟩ := dk_of I.hok e
  obtain ⟨w', hw, rw'⟩ := RelO.some_of (v := v) (o := valueAt vs k) (by rw [← l]; exact rel.val k)
  have hp : (keyPart u).isSome = true := by
    cases k with
    | inl i => obtain ⟨t, q⟩ := (show ∃ t, u = Value.int i t from ry); subst q; rfl
    | inr x => obtain ⟨t, q⟩ := (show ∃ t, u = Value.str x t from ry); subst q; rfl
  have ha : argsOk "dict.pop" ⟨.ref a :: u :: more, []⟩ := by
    rcases hm with q | ⟨x, q⟩
    · subst q; exact PySem.F.args_dict_pop_2 _ _
    · subst q; exact PySem.F.args_dict_pop_3 _ _ _
  refine call_meetsIn PySem.F.slot_dict_pop dd.typeIs PySem.F.entry_dict_pop ha (meets_dict_pop_there (mixKind X.prog X.w) a (kV_is ry) more hm hp)
    ⟨vs, w', dd, by rw [← rel.length]; exact z, hw, fun h' dd' hs => h w' _ ?_ rw'⟩
  have he : ∃ q, h'.get? a = some q := let ⟨q, _, _, hq, _⟩ := dd'; ⟨q, hq⟩
  exact d_write I (by rw [e]; exact True.intro) hs he (dk_new (Nat.le_trans (dropK_le kvs k) z) hd (rel.drop k) dd')
theorem d_len {Q : Value → Shared → Prop} (I : Inv X pins σ H s) (e : Rd H a (.dK kvs)) (h : ∀ t s', Inv X pins σ H s' → Q (.int kvs.length t) s') : wpAny (model X.prog X.w) A (call (.builtin "len") [.ref a]) Q E s := by
  obtain ⟨z, hd, vs, rel, dd⟩ := dk_rd I.hok e
  refine call_len_dict hd dd (by rw [← rel.length]; rw [sizeLine_eq] at z; omega) ?_
  rw [← rel.length]
  exact h _ _ (I.tok _)
end
def NoSl (i : Expr) : Prop := ∀ ov iv, subscripted i false ov iv = operate [ov, iv] (getItem ov iv)
theorem subD_of {prog : Program} {w : World} {A : Around} {E : Value → Shared → Prop} {s : Shared} {env : Env} {value slice : Expr} {pos : Pos} {T id : String} {Q : Value → Shared → Prop}
    (hl : typeLookup (.type T) "__getitem__" = pure (some (.builtin id))) (hs : NoSl slice)
    (h : wpAny (model prog w) A (eval value env) (fun o s₁ => wpAny (model prog w) A (eval slice env) (fun i s₂ => s₂.TypeIs o T ∧ wpAny (model prog w) A (getItem o i) Q E s₂) E s₁) E s) :
    wpAny (model prog w) A (eval (.Subscript value slice pos) env) Q E s := by
  refine Subscript_ (wpAny_mono h (fun o s₁ h₁ => wpAny_mono h₁ (fun i s₂ h₂ => ?_) fun _ _ x => x) fun _ _ x => x)
  obtain ⟨hT, h₂⟩ := h₂
  unfold subscriptTail
  refine wpAny_bind ?_
  rw [getitemInPython_of_ne hT.not_modules]
  refine wpAny_bind (wpAny_specialOf hT hl ?_)
  have fin : wpAny (model prog w) A (subscripted slice false o i) (fun r s₃ => wpAny (model prog w) A (letTemporaryGo value o r >>= fun _ => pure r) Q E s₃) E s₂ := by
    rw [hs o i]
    exact wpAny_operating (wpAny_mono h₂ (fun r s₃ h₃ => wpAny_bind (wpAny_letTemporaryGo (wpAny_pure h₃))) fun _ _ x => x)
  first
    | exact wpAny_pure (wpAny_bind fin)
    | exact wpAny_bind (wpAny_pure (wpAny_bind fin))
    | exact wpAny_bind fin
theorem dict_typeIs {X : Cx} {pins : List (Addr × Obj)} {σ : St} {H : Hp} {s : Shared} {a : Addr} {y : V} {o : Option V} (I : Inv X pins σ H s) (g : DGet H a y o) : s.TypeIs (.ref a) "dict" := by
  rcases g with ⟨kvs, k, e, _, _⟩ | ⟨kvs, k, b, e, _, _, _⟩
  · obtain ⟨_, _, vs, _, dd⟩ := dk_rd I.hok e
    exact dd.typeIs
  · obtain ⟨_, _, xs, _, dd⟩ := dt_rd I.hok e
    exact dd.typeIs
def tDGet (td ty : TE) : TE := fun σ H Q => td σ H fun x H1 => ty σ H1 fun y H2 => ∃ a v, x = .ref a ∧ DGet H2 a y (some v) ∧ Q v H2
def tDIn (ty td : TE) : TE := fun σ H Q => ty σ H fun y H1 => td σ H1 fun x H2 => ∃ a o, x = .ref a ∧ DGet H2 a y o ∧ Q (.bl o.isSome) H2
def tDNotIn (ty td : TE) : TE := fun σ H Q => ty σ H fun y H1 => td σ H1 fun x H2 => ∃ a o, x = .ref a ∧ DGet H2 a y o ∧ Q (.bl (!o.isSome)) H2
def sDPut (td ty tv : TE) : TS := fun D σ H => tv σ H fun v H1 => td σ H1 fun x H2 => ty σ H2 fun y H3 => ∃ a H4, x = .ref a ∧ DPut H3 a y v H4 ∧ D.nx σ H4
section
variable {X : Cx} {o i e value : Expr} {pos pos' tpos : Pos} {td ty tv : TE}
theorem pe_dget (hu : X.A.units + 1 < cLine) (ho : PE X o td) (hi : PE X i ty) (hs : NoSl i) : PE X (.Subscript o i pos) (tDGet td ty) := by
  intro pins s σ H Q I h
  refine subD_of PySem.F.slot_dict_getitem.lookup hs (thn (ho pins s σ H _ I h) fun u s1 ⟨x, H1, I1, rx, q1⟩ => thn (hi pins s1 σ H1 _ I1 q1) fun iv s2 ⟨y, H2, I2, ry, a, v, ex, g, q2⟩ => ?_)
  subst ex
  obtain rfl : u = Value.ref a := rx
  exact ⟨dict_typeIs I2 g, d_getItem hu I2 g ry fun w' s3 I3 rw' => ⟨v, H2, I3, rw', q2⟩⟩
theorem pc_din (hu : X.A.units + 1 < cLine) (hi : PE X i ty) (ho : PE X o td) : PC X .In i o (tDIn ty td) := by
  intro pins s σ H Q I h
  refine thn (hi pins s σ H _ I h) fun iv s1 ⟨y, H1, I1, ry, q1⟩ => thn (ho pins s1 σ H1 _ I1 q1) fun u s2 ⟨x, H2, I2, rx, a, ov, ex, g, q2⟩ => ?_
  subst ex
  obtain rfl : u = Value.ref a := rx
  exact d_in hu I2 g ry fun s3 I3 => ⟨.bl ov.isSome, H2, I3, rfl, q2⟩
theorem pc_dnotin (hu : X.A.units + 1 < cLine) (hi : PE X i ty) (ho : PE X o td) : PC X .NotIn i o (tDNotIn ty td) := by
  intro pins s σ H Q I h
  refine thn (hi pins s σ H _ I h) fun iv s1 ⟨y, H1, I1, ry, q1⟩ => thn (ho pins s1 σ H1 _ I1 q1) fun u s2 ⟨x, H2, I2, rx, a, ov, ex, g, q2⟩ => ?_
  subst ex
  obtain rfl : u = Value.ref a := rx
  exact d_notIn hu I2 g ry fun s3 I3 => ⟨.bl (!ov.isSome), H2, I3, rfl, q2⟩
theorem ps_dput (hu : X.A.units + 1 < cLine) (ho : PE X o td) (hi : PE X i ty) (hv : PE X value tv) (hs : swapsWith value (some (.Subscript o i pos')) pos.line X.env = pure false) :
    PS X (.Assign [.Subscript o i pos'] value pos) (sDPut td ty tv) := by
  intro pins s σ H D I h
  refine wpAny_Assign_Subscript (thn (hv pins s σ H _ I h) fun r s1 ⟨v, H1, I1, rv, q1⟩ => thn (ho pins s1 σ H1 _ I1 q1) fun u s2 ⟨x, H2, I2, rx, q2⟩ => thn (hi pins s2 σ H2 _ I2 q2) fun iv s3 ⟨y, H3, I3, ry, a, H4, ex, g, q3⟩ => ?_) hs
  subst ex
  obtain rfl : u = Value.ref a := rx
  exact d_setItem hu I3 g ry rv fun s4 I4 => ⟨σ, H4, I4, q3⟩
end
theorem dk_empty {P : Program} {w : World} {H : Hp} (h : Heap) (hb : sysModules < h.objs.size) : ObjOk P w H (h.push { cls := .type "dict", data := .dict #[] }) h.objs.size (.dK []) :=
  ⟨Nat.zero_le _, beq_eq_false_iff_ne.mpr (Ne.symm (Nat.ne_of_lt hb)), [], .nil, Heap.DictOf.new h⟩
def tDNewK : TE := fun _ H Q => ∀ p, H p = none → Q (.ref p) (upd H p (.dK []))
section
variable {X : Cx} {pos : Pos}
theorem pe_dnewK : PE X (.Dict [] [] pos) tDNewK := fun pins s σ H Q I h =>
  wpAny_Dict_empty ⟨.ref s.heap.objs.size, _, I.laid (a := s.heap.objs.size) (o := .dK []) (t' := s.toks) (fun _ _ q => Heap.get?_push_of_some _ q) (Nat.le_refl _) (dk_empty s.heap I.big), rfl, h _ (I.hok.fresh (Nat.le_refl _))⟩
end
def mergeK (kvs more : List (Key × V)) : List (Key × V) := more.foldl (fun acc kv => putK acc kv.1 kv.2) kvs
theorem KV.merge : ∀ {more : List (Key × V)} {rs : List (Key × Value)} {kvs : List (Key × V)} {vs : List (Key × Value)}, KV more rs → KV kvs vs → KV (mergeK kvs more) (merged vs rs) := by
  intro more rs kvs vs r
  unfold KV at r
  induction r generalizing kvs vs with
  | nil => intro q; exact q
  | @cons p q ps qs h t ih =>
    intro r0
    have e : KV (putK kvs p.1 p.2) (stored vs q.1 q.2) := by
      have := r0.put p.1 h.2
      rw [← h.1]; exact this
    exact ih e
theorem length_mergeK : ∀ (more kvs : List (Key × V)), (mergeK kvs more).length ≤ kvs.length + more.length
  | [], kvs => by show kvs.length ≤ kvs.length + 0; omega
  | p :: r, kvs => by
    have h1 := length_mergeK r (putK kvs p.1 p.2)
    have h2 := length_putK kvs p.1 p.2
    show (mergeK (putK kvs p.1 p.2) r).length ≤ _
    rw [List.length_cons]; omega
structure M1 (X : Cx) (o : Expr) (m : Str) (apos : Pos) (e : Expr) (cpos : Pos) : Prop where
  base : attributeBase o m X.env (eval o X.env) = eval o X.env
  few : ((backTo cpos (starEach [e] X.env)).all (fun x => !x.1) && (backToKw cpos (keywordEach [] X.env)).all (fun x => x.1.isSome)
    && decide (([e] : List Expr).length + ([] : List Keyword).length + (if ([] : List Keyword).isEmpty then 0 else 1) < 30)) = true
  line : (apos.endLine == cpos.line) = true
  trees : backTo cpos (starEach [e] X.env) = [(false, eval e X.env)]
def IsD (H : Hp) (a : Addr) : Prop := (∃ kvs, Rd H a (.dK kvs)) ∨ ∃ kvs, Rd H a (.dT kvs)
theorem isD_at {X : Cx} {pins : List (Addr × Obj)} {σ : St} {H : Hp} {s : Shared} {a : Addr} (I : Inv X pins σ H s) (d : IsD H a) :
    s.TypeIs (.ref a) "dict" ∧ (∀ b, Value.ref a = .ref b → ∃ ob, s.heap.get? b = some ob ∧ ob.dict = none) ∧ (a == sysModules) = false := by
  rcases d with ⟨kvs, e⟩ | ⟨kvs, e⟩
  · obtain ⟨_, hd, vs, _, dd⟩ := dk_rd I.hok e
    refine ⟨dd.typeIs, fun b q => ?_, hd⟩
    cases q
    obtain ⟨ob, _, _, h1, h2, _⟩ := dd
    exact ⟨ob, h1, h2.2.1⟩
  · obtain ⟨_, hd, xs, _, dd⟩ := dt_rd I.hok e
    refine ⟨dd.typeIs, fun b q => ?_, hd⟩
    cases q
    obtain ⟨ob, _, _, h1, h2, _⟩ := dd
    exact ⟨ob, h1, h2.2.1⟩
section
variable {X : Cx} {pins : List (Addr × Obj)} {σ : St} {H : Hp} {s : Shared} {a : Addr} {y d : V} {u r : Value} {o : Option V} {A : Around} {E : Value → Shared → Prop}
end
def tDPop1 (td ty : TE) : TE := fun σ H Q => td σ H fun x H1 => ∃ a, x = .ref a ∧ IsD H1 a ∧ ty σ H1 fun y H2 => ∃ kvs k v, H2 a = some (.dK kvs) ∧ y = kV k ∧ valV kvs k = some v ∧ Q v (upd H2 a (.dK (dropK kvs k)))
section
variable {X : Cx} {o e f : Expr} {apos cpos : Pos} {td ty tx : TE}
theorem pe_dpop1 (ho : PE X o td) (he : PE X e ty) (m : M1 X o "pop" apos e cpos) : PE X (.Call (.Attribute o "pop" apos) [e] [] cpos) (tDPop1 td ty) := by
  intro pins s σ H Q I h
  refine wpAny_Call_method m.base m.few m.line PySem.F.plainAttrs_dict PySem.F.slot_dict_pop PySem.F.type_dict_pop (thn (ho pins s σ H _ I h) fun u s1 ⟨x, H1, I1, rx, a, ex, d, q1⟩ => ?_)
  subst ex
  obtain rfl : u = Value.ref a := rx
  obtain ⟨t1, t2, _⟩ := isD_at I1 d
  refine ⟨t1, t2, ?_⟩
  rw [m.trees]
  refine Calls.callWith_builtin rfl (Calls.evalArgs_plain (Calls.spliced_cons (thn (he pins s1 σ H1 _ I1 q1) fun iv s2 ⟨y, H2, I2, ry, kvs, k, v, ea, ey, l, q2⟩ => Calls.spliced_nil ?_)))
  subst ey
  exact d_pop I2 ea ry l (.inl rfl) fun w' s3 I3 rw' => ⟨v, _, I3, rw', q2⟩
end
section
variable {X : Cx} {pins : List (Addr × Obj)} {σ : St} {H : Hp} {s : Shared} {a : Addr} {kvs : List (Key × V)} {A : Around} {E : Value → Shared → Prop}
theorem d_copyOf {Q : Value → Shared → Prop} (I : Inv X pins σ H s) (e : Rd H a (.dK kvs)) (h : ∀ p s', H p = none → Inv X pins σ (upd H p (.dK kvs)) s' → Q (.ref p) s') : wpAny (model X.prog X.w) A (call (.type "dict") [.ref a]) Q E s := by
  obtain ⟨z, hd, vs, rel, dd⟩ := dk_rd I.hok e
  refine kt_call_dict hd dd (by rw [← rel.length]; exact z) fun h' dd' hs => ?_
  refine h _ _ (I.hok.fresh (Nat.le_refl _)) (I.laid (a := s.heap.objs.size) (o := .dK kvs) (t' := s.toks) (fun b q hq => ?_) (Nat.le_refl _) (dk_new z (beq_eq_false_iff_ne.mpr (Ne.symm (Nat.ne_of_lt I.big))) rel dd'))
  exact (hs.2 b (Nat.ne_of_lt (Heap.lt_size hq))).trans (Heap.get?_push_of_some _ hq)
end
section
variable {X : Cx} {pins : List (Addr × Obj)} {σ : St} {H : Hp} {s : Shared} {a : Addr} {y : V} {u : Value} {A : Around} {E : Value → Shared → Prop}
end
end L2
namespace L2
open PySem
section
variable {X : Cx}
theorem call_lenD : CallR X (.builtin "len") (fun xs H Q => ∃ a kvs, xs = [V.ref a] ∧ H a = some (.dK kvs) ∧ Q (.int kvs.length) H) := by
  intro pins s σ H xs us Q I r h
  obtain ⟨a, kvs, rfl, ha, q⟩ := h
  obtain ⟨u, rfl, ru⟩ := vals1 r
  cases ru
  exact d_len I (.inl ha) fun t s' I' => ⟨.int kvs.length, H, I', ⟨t, rfl⟩, q⟩
end
section
variable {κ : Type} [DecidableEq κ]
theorem nd_snoc : ∀ {l : List κ} {k : κ}, l.Nodup → ¬ k ∈ l → (l ++ [k]).Nodup
  | [], k, _, _ => by simp
  | a :: r, k, h, hk => by
    obtain ⟨h1, h2⟩ := List.nodup_cons.mp h
    show (a :: (r ++ [k])).Nodup
    refine List.nodup_cons.mpr ⟨fun m => ?_, nd_snoc h2 fun m => hk (List.mem_cons.mpr (Or.inr m))⟩
    rcases List.mem_append.mp m with q | q
    · exact h1 q
    · exact hk (List.mem_cons.mpr (Or.inl (List.mem_singleton.mp q).symm))
end
end L2
set_option Elab.async false
set_option linter.all false
set_option maxRecDepth 100000
namespace L2
open PySem PySem.Spec PyProof.Rows
def Its (z : Str) : It := ⟨fun i _ => i < z.cps.size, fun i H v H' => H' = H ∧ ∃ c, z.cps[i]? = some c ∧ v = .str ⟨#[c]⟩, fun i _ => i = z.cps.size⟩
theorem turn_walks {P : Program} {w : World} {K : PySem.W.Frag} {y : Str} {py : Pos} {n : Nat} {Pv : Nat → Value → Prop} {St : Nat → Heap → Prop} {it : Addr} {J : It}
    (W : ∀ A : Around, A.handled = none → Walks P w A it [it] [it] n Pv St) (hS : ∀ (A : Around) (i : Nat) (s : Shared) (Q : Value → Shared → Prop) (E : Value → Shared → Prop), St i s.heap → Q (.ref it) s → wpAny (model P w) A (pyIter (.ref it)) Q E s)
    (ho : ∀ i h, St i h → ∃ o, h.get? it = some o ∧ ∀ v, o.data ≠ .cell v) (hf : ∀ i h h', St i h → (∀ b ∈ [it], ∀ o, h.get? b = some o → h'.get? b = some o) → St i h')
    (hgo : ∀ i H, J.go i H → i < n) (hstop : ∀ i H, J.stop i H → i = n) (hy : ∀ i H v, J.go i H → Pv i v → ∃ z, RelV z v ∧ J.yld i H z H) : Turn P w K (.Name y py) J [it] it St where
  mem := by simp
  obj := fun i h st b hb => by
    obtain rfl : b = it := by simpa using hb
    exact ho i h st
  keep := hf
  item := by
    intro X hP hw hK hc i pins s σ H E I fp st hg
    subst hP hw hK
    obtain ⟨f0, f1, f2, f3, f4, f5⟩ := fp it (by simp)
    refine (W X.A (I.ok.hd hc)).item i s _ _ (hgo i H hg) st fun v h' tk hP st' k => ⟨v, rfl, ?_⟩
    obtain ⟨z, rz, yz⟩ := hy i H v hg hP
    have I1 : Inv X pins σ H { s with heap := h', toks := tk } := I.turned (fun b o hb e => k b o (by simpa using hb) e) f0 f1 f3 f4 f5
    exact wpAny_pure ⟨z, H, I1, rz, yz, st', fun b hb => (fp b hb).1⟩
  done := by
    intro X hP hw hK hc i pins s σ H E I fp st hg
    subst hP hw hK
    obtain ⟨f0, f1, f2, f3, f4, f5⟩ := fp it (by simp)
    have e := hstop i H hg
    subst e
    exact (W X.A (I.ok.hd hc)).done s _ _ st fun h' tk k => ⟨rfl, I.turned (fun b o hb e => k b o (by simpa using hb) e) f0 f1 f3 f4 f5⟩
  self := hS
section
variable {X : Cx} {y : Str} {py : Pos}
def iStr (te : TE) : TI := fun σ H R => te σ H fun v H1 => ∃ z, v = .str z ∧ R (Its z) H1
theorem its_yld {z : Str} (i : Nat) (H : Hp) (v : Value) (_ : (Its z).go i H) (h : SignAt z i v) : ∃ u, RelV u v ∧ (Its z).yld i H u H := by
  obtain ⟨c, t, e, rfl⟩ := h
  exact ⟨.str ⟨#[c]⟩, ⟨t, rfl⟩, rfl, c, e, rfl⟩
theorem pi_str {e : Expr} {te : TE} (h : PE X e te) : PI X (.Name y py) e (iStr te) := by
  intro pins s σ H R I hw
  refine thn (h pins s σ H _ I hw) fun v s1 ⟨z, H1, I1, r1, q1⟩ => ?_
  obtain ⟨z, rfl, q⟩ := q1
  obtain ⟨t, rfl⟩ := r1
  have fin : ∀ {ty : String} (o : Obj), o.data = .fields #[.str z t, .int 0 0] → o.cls = .type ty → o.isFreed = false →
      Turn X.prog X.w X.K (.Name y py) (Its z) [s1.heap.objs.size] s1.heap.objs.size (fun i h => h.IsStrIter s1.heap.objs.size ty z t i) →
      PIE X pins σ (.Name y py) R (.ref s1.heap.objs.size) { s1 with heap := s1.heap.push o } := fun {ty} o ho hc hfr T => by
    refine ⟨s1.heap.objs.size, [s1.heap.objs.size], _, Its z, H1, rfl, I1.kept (t' := s1.toks) fun b o e => Heap.get?_push_of_some _ e, T, ⟨o, Heap.get?_push_size _ hfr, hc, ho⟩, fun b hb => ?_, q⟩
    obtain rfl : b = s1.heap.objs.size := by simpa using hb
    exact I1.fpOk (Nat.le_refl _) (I1.hok.fresh (Nat.le_refl _))
  have nc : ∀ {ty : String} (i : Nat) (h : Heap), h.IsStrIter s1.heap.objs.size ty z t i → ∃ o, h.get? s1.heap.objs.size = some o ∧ ∀ v, o.data ≠ .cell v := fun i h ⟨o, e, c, d⟩ => ⟨o, e, fun v z => by rw [d] at z; cases z⟩
  have kp : ∀ {ty : String} (i : Nat) (h h' : Heap), h.IsStrIter s1.heap.objs.size ty z t i → (∀ b ∈ [s1.heap.objs.size], ∀ o, h.get? b = some o → h'.get? b = some o) → h'.IsStrIter s1.heap.objs.size ty z t i :=
    fun i h h' ⟨o, e, c, d⟩ k => ⟨o, k _ (by simp) o e, c, d⟩
  cases ha : z.cps.all (· < 128)
  · exact wpAny_pyIter_wide ha (fin _ rfl rfl rfl (turn_walks (fun A hA => Walks.strWide hA _ z t) (fun A i s Q E st h => wpAny_pyIter_striter_wide st h) nc kp (fun _ _ h => h) (fun _ _ h => h) its_yld))
  · exact wpAny_pyIter_ascii ha (fin _ rfl rfl rfl (turn_walks (fun A hA => Walks.strAscii hA _ z t) (fun A i s Q E st h => wpAny_pyIter_striter_ascii st h) nc kp (fun _ _ h => h) (fun _ _ h => h) its_yld))
end
end L2
set_option Elab.async false
set_option linter.all false
set_option maxRecDepth 100000
namespace L2
open PySem PySem.Spec PyProof.Rows
theorem comp_loop {prog : Program} {w : World} {A : Around} {R : Result → Shared → Prop} {s : Shared} {elt tg iter : Expr} {ifs : List Expr} {scope : Scope} {pos : Pos} {it acc : Value} {env : Env} (J : Nat → Shared → Prop)
    (turn : ∀ n s, J n s → wpAny (model prog w) A (pyNext it) (fun r s₁ => match r with
      | none => R (.ok .next) s₁
      | some v => wpAny (model prog w) A (letOwnedTupleGo tg it v) (fun _ s₁' => wpAny (model prog w) A (assign tg env v) (fun _ s₂ =>
          wpAny (model prog w) A (forIn ifs true fun c r => if r = true then do let ok ← isTrue c env (eval c env); pure (ForInStep.yield ok) else pure (ForInStep.yield r)) (fun ok s₃ =>
            if ok = true then wpAny (model prog w) A (eval elt env) (fun x s₄ => wpAny (model prog w) A (call (.builtin "list.append") [acc, x]) (fun _ s₅ => ∃ m, m < n ∧ J m s₅) (fun _ _ => False) s₄) (fun _ _ => False) s₃
            else ∃ m, m < n ∧ J m s₃) (fun _ _ => False) s₂) (fun _ _ => False) s₁') (fun _ _ => False) s₁) (fun _ _ => False) s)
    (n : Nat) (h : J n s) : codeAny (model prog w) A (.compLoop (.ListComp elt [⟨tg, iter, ifs, 0⟩] scope pos) 0 it acc env) R s := by
  refine codeAny_loop rfl J (fun n s hJ => ?_) n h
  show wpAny (model prog w) A (Sem.onRaise (compTurn (.ListComp elt [⟨tg, iter, ifs, 0⟩] scope pos) 0 it acc env) (fun e => do noteFrame e env; theTreesLotGoes e)) _ _ s
  refine wpAny_noted ?_
  rw [compTurn_list]
  have no : ∀ {E : Value → Shared → Prop} (a : Value) (b : Shared), False → E a b := fun _ _ z => z.elim
  refine wpAny_bind (wpAny_standAt (wpAny_bind (wpAny_mono (turn n s hJ) (fun r s₁ h₁ => ?_) no)))
  cases r with
  | none => exact wpAny_pure h₁
  | some v =>
    refine wpAny_bind (wpAny_mono h₁ (fun _ s₁' h₁ => ?_) no)
    refine wpAny_bind (wpAny_mono h₁ (fun _ s₂ h₂ => ?_) no)
    refine wpAny_bind (wpAny_mono h₂ (fun ok s₃ h₃ => ?_) no)
    cases ok with
    | false => exact wpAny_pure ⟨rfl, h₃⟩
    | true =>
      refine wpAny_bind (wpAny_bind (wpAny_mono h₃ (fun x s₄ h₄ => ?_) no))
      exact wpAny_bind (wpAny_mono h₄ (fun _ s₅ h₅ => wpAny_pure (wpAny_pure ⟨rfl, h₅⟩)) no)
abbrev Cx.blk (X : Cx) (scope : Scope) (cl : List (Str × Addr)) (C : Addr) (N : List Str) (s₀ : Shared) (H₀ : Hp) (ex : List Addr) : Cx :=
  { X with env := compEnvC scope cl C X.env, N := N, s₀ := s₀, H₀ := H₀, outer := X.stack, stack := X.stack, ex := ex, fn := fun _ => false, pn := [], xe := fun _ _ => False }
structure CSc (sc so : Scope) (x : Str) (N XN : List Str) (fr : List Nat) : Prop where
  kind : sc.kind = .function
  nocell : ∀ y ∈ sc.names, y.2 ≠ .cell
  names : ∀ y ∈ sc.names, y.2 = .local → sc.names.lookup y.1 = some .local
  hx : sc.names.lookup x = some .local
  nd : N.Nodup
  eqN : N = x :: fr.map (fun j => XN.getD j "")
  inN : ∀ j ∈ fr, j < XN.length
  fre : ∀ y ∈ sc.names, y.2 = .free → so.names.lookup y.1 = some .cell ∨ so.names.lookup y.1 = some .free
  isf : ∀ j ∈ fr, sc.names.lookup (XN.getD j "") = some .free
  cel : ∀ j ∈ fr, so.names.lookup (XN.getD j "") ≠ some .local
def closOf (env : Env) : List (Str × NameKind) → List (Str × Addr) → List (Str × Addr)
  | [], acc => acc
  | (n, k) :: r, acc => if k == .free then (match env.cells.lookup n with | some c => closOf env r ((n, c) :: acc) | none => closOf env r acc) else closOf env r acc
theorem clos_run (env : Env) : ∀ (l : List (Str × NameKind)) (acc : List (Str × Addr)), (∀ y ∈ l, y.2 = .free → ∃ c, env.cells.lookup y.1 = some c) →
    (forIn (m := Sem) l acc fun (y : Str × NameKind) (cs : List (Str × Addr)) => if y.2 == .free then do let a ← cellOf env y.1; pure (ForInStep.yield ((y.1, a) :: cs)) else pure (ForInStep.yield cs)) = pure (closOf env l acc)
  | [], acc, _ => rfl
  | (n, k) :: r, acc, h => by
    have ih := fun acc => clos_run env r acc fun y hy => h y (List.mem_cons_of_mem _ hy)
    rw [List.forIn_cons]
    by_cases hk : k = .free
    · subst hk
      obtain ⟨c, e⟩ := h (n, .free) List.mem_cons_self rfl
      simp only [cellOf, e, closOf, beq_self_eq_true, if_true]
      exact ih _
    · have hb : (k == NameKind.free) = false := by simpa using hk
      simp only [hb, closOf, Bool.false_eq_true, if_false]
      exact ih _
theorem clos_eq (env : Env) (sc : Scope) (h : ∀ y ∈ sc.names, y.2 = .free → ∃ c, env.cells.lookup y.1 = some c) : closureFor sc env = pure (closOf env sc.names []) := by
  unfold closureFor
  have e := clos_run env sc.names [] h
  exact (congrArg (fun t : Sem _ => t >>= fun cs => pure cs) e).trans rfl
theorem closOf_sub (env : Env) : ∀ (l : List (Str × NameKind)) (acc : List (Str × Addr)), (∀ y c, acc.lookup y = some c → env.cells.lookup y = some c) → ∀ y c, (closOf env l acc).lookup y = some c → env.cells.lookup y = some c
  | [], acc, h => h
  | (n, k) :: r, acc, h => by
    unfold closOf
    split
    · split
      · rename_i c e
        refine closOf_sub env r _ fun y c' q => ?_
        rw [List.lookup_cons] at q
        cases hy : y == n with
        | true =>
          rw [hy] at q
          cases q
          have : y = n := by simpa using hy
          subst this
          exact e
        | false =>
          rw [hy] at q
          exact h y c' q
      · exact closOf_sub env r acc h
    · exact closOf_sub env r acc h
theorem closOf_acc (env : Env) : ∀ (l : List (Str × NameKind)) (acc : List (Str × Addr)) (y : Str), (∃ c, acc.lookup y = some c) → ∃ c, (closOf env l acc).lookup y = some c
  | [], _, _, h => h
  | (n, k) :: r, acc, y, h => by
    unfold closOf
    split
    · split
      · refine closOf_acc env r _ y ?_
        rw [List.lookup_cons]
        cases y == n with
        | true => exact ⟨_, rfl⟩
        | false => exact h
      · exact closOf_acc env r acc y h
    · exact closOf_acc env r acc y h
theorem closOf_has (env : Env) : ∀ (l : List (Str × NameKind)) (acc : List (Str × Addr)) (y : Str), (y, NameKind.free) ∈ l → (∃ c, env.cells.lookup y = some c) → ∃ c, (closOf env l acc).lookup y = some c
  | [], _, _, h, _ => nomatch h
  | (n, k) :: r, acc, y, h, hc => by
    unfold closOf
    rcases List.mem_cons.mp h with e | hm
    · cases e
      obtain ⟨c, e⟩ := hc
      rw [if_pos (by rfl), e]
      exact closOf_acc env r _ _ ⟨c, by simp [List.lookup_cons]⟩
    · split
      · split
        · exact closOf_has env r _ y hm hc
        · exact closOf_has env r acc y hm hc
      · exact closOf_has env r acc y hm hc
def RelF (f : Str × NameKind → Str × NameKind) : Prop := ∀ p, f p = p ∨ (p.2 = .free ∧ f p = (p.1, .cell))
theorem lookup_hd {y n : Str} {k : NameKind} {r : List (Str × NameKind)} : List.lookup y ((n, k) :: r) = if y = n then some k else r.lookup y := by
  rw [List.lookup_cons]
  by_cases h : y = n
  · rw [if_pos h, show (y == n) = true by simpa using h]
  · rw [if_neg h, show (y == n) = false by simpa using h]
theorem relF_free {f : Str × NameKind → Str × NameKind} (hf : RelF f) : ∀ {names : List (Str × NameKind)} {y : Str} {k : NameKind}, (names.map f).lookup y = some k → (k = .cell ∨ k = .free) → (∀ z ∈ names, z.2 ≠ .cell) → (y, NameKind.free) ∈ names
  | [], _, _, h, _, _ => by simp at h
  | (n, j) :: r, y, k, h, hk, hc => by
    rw [List.map_cons] at h
    have go : r.lookup y = r.lookup y → (r.map f).lookup y = some k → (y, NameKind.free) ∈ (n, j) :: r := fun _ h' => List.mem_cons_of_mem _ (relF_free hf h' hk fun z hz => hc z (List.mem_cons_of_mem _ hz))
    rcases hf (n, j) with e | ⟨e1, e⟩
    · rw [e, lookup_hd] at h
      by_cases hy : y = n
      · rw [if_pos hy] at h
        cases h
        rcases hk with rfl | rfl
        · exact absurd rfl (hc (n, .cell) List.mem_cons_self)
        · rw [hy]; exact List.mem_cons_self
      · rw [if_neg hy] at h
        exact go rfl h
    · rw [e, lookup_hd] at h
      by_cases hy : y = n
      · rw [hy, show j = NameKind.free from e1]; exact List.mem_cons_self
      · rw [if_neg hy] at h
        exact go rfl h
theorem relF_isfree {f : Str × NameKind → Str × NameKind} (hf : RelF f) : ∀ {names : List (Str × NameKind)} {y : Str}, names.lookup y = some .free → (names.map f).lookup y = some .cell ∨ (names.map f).lookup y = some .free
  | [], _, h => by simp at h
  | (n, j) :: r, y, h => by
    rw [lookup_hd] at h
    rw [List.map_cons]
    rcases hf (n, j) with e | ⟨e1, e⟩
    · rw [e, lookup_hd]
      by_cases hy : y = n
      · rw [if_pos hy] at h ⊢
        cases h
        exact .inr rfl
      · rw [if_neg hy] at h ⊢
        exact relF_isfree hf h
    · rw [e, lookup_hd]
      by_cases hy : y = n
      · rw [if_pos hy]
        exact .inl rfl
      · rw [if_neg hy] at h ⊢
        exact relF_isfree hf h
theorem relF_env (env : Env) : RelF fun (n, k) => if (k == NameKind.free && env.scope.kind == .function && env.kindOf n == some .cell) then (n, NameKind.cell) else (n, k) := fun ⟨n, k⟩ => by
  by_cases h : (k == NameKind.free && env.scope.kind == .function && env.kindOf n == some .cell) = true
  · refine .inr ⟨?_, if_pos h⟩
    have h1 := (Bool.and_eq_true_iff.mp (Bool.and_eq_true_iff.mp h).1).1
    simpa using h1
  · exact .inl (if_neg h)
theorem relabel_free {env : Env} {sc : Scope} {y : Str} {k : NameKind} (h : (relabel sc env).names.lookup y = some k) (hk : k = .cell ∨ k = .free) (hc : ∀ z ∈ sc.names, z.2 ≠ .cell) : (y, NameKind.free) ∈ sc.names :=
  relF_free (relF_env env) h hk hc
theorem relabel_isfree {env : Env} {sc : Scope} {y : Str} (h : sc.names.lookup y = some .free) : (relabel sc env).names.lookup y = some .cell ∨ (relabel sc env).names.lookup y = some .free :=
  relF_isfree (relF_env env) h
end L2
set_option Elab.async false
set_option linter.all false
set_option maxRecDepth 100000
namespace L2
open PySem PySem.Spec PyProof.Rows
def PTs (X : Cx) (ifs : List Expr) (t : TT) : Prop :=
  ∀ (pins : List (Addr × Obj)) (s : Shared) (σ : St) (H : Hp) (Q : Bool → Hp → Prop), Inv X pins σ H s → t σ H Q →
    wpAny (model X.prog X.w) X.A (forIn ifs true fun c r => if r = true then do let ok ← isTrue c X.env (eval c X.env); pure (ForInStep.yield ok) else pure (ForInStep.yield r)) (TP X pins σ Q) X.xe s
def tYes : TT := fun _ H Q => Q true H
theorem pts_nil {X : Cx} : PTs X [] tYes := fun _ _ _ H _ I h => wpAny_tests_nil ⟨H, I, h⟩
theorem pts_one {X : Cx} {c : Expr} {t : TT} (h : PT X c t) : PTs X [c] t := fun pins s σ H Q I hw => wpAny_tests_one (h pins s σ H Q I hw)
def stB (fr : List Nat) (σ : St) : St := none :: fr.map fun j => (σ[j]?).join
def stB1 (x : V) (fr : List Nat) (σ : St) : St := some x :: fr.map fun j => (σ[j]?).join
def CompR (J : It) (H1 : Hp) (fr : List Nat) (σ : St) (tt : TT) (te : TE) (Q : VK) : Prop :=
  ∀ D, H1 D = none → ∃ W : Nat → Nat → List V → Hp → Prop, (∃ m, W 0 m [] (upd H1 D (.lst []))) ∧
    ∀ i m ys H2, W i m ys H2 → ((J.stop i H2 ∧ Q (.ref D) H2) ∨ (J.go i H2 ∧ ∀ x H3, J.yld i H2 x H3 → tt (stB1 x fr σ) H3 fun b H4 =>
      if b = true then te (stB1 x fr σ) H4 fun y H5 => H5 D = some (.lst ys) ∧ ys.length < sizeLine ∧ ∃ m', m' < m ∧ W (i + 1) m' (ys ++ [y]) (upd H5 D (.lst (ys ++ [y])))
      else ∃ m', m' < m ∧ W (i + 1) m' ys H4))
def tComp (wi : TI) (fr : List Nat) (tt : TT) (te : TE) : TE := fun σ H Q => wi σ H fun J H1 => CompR J H1 fr σ tt te Q
section
variable {X : Cx} {x : Str} {px : Pos} {elt iter : Expr} {ifs : List Expr} {scope : Scope} {pos : Pos} {N : List Str} {fr : List Nat} {tt : TT} {te : TE} {wi : TI}
theorem csc_has {pins : List (Addr × Obj)} {σ : St} {H : Hp} {s : Shared} (S : CSc scope X.env.scope x N X.N fr) (I : Inv X pins σ H s) : ∀ y ∈ scope.names, y.2 = .free → ∃ c, X.env.cells.lookup y.1 = some c :=
  fun y hy hf => I.ok.has y.1 (S.fre y hy hf)
theorem comp_block {pins : List (Addr × Obj)} {σ : St} {H : Hp} {s₂ : Shared} {J : It} {fp : List Addr} {it : Addr} {tn : Nat → Heap → Prop} {Q : VK} {RR : Value → Addr → Result → Shared → Prop} {E : Value → Shared → Prop}
    (hc : X.calm = true) (S : CSc scope X.env.scope x N X.N fr) (ht : ∀ cl C s₀ H₀ ex, PTs (X.blk scope cl C N s₀ H₀ ex) ifs tt) (he : ∀ cl C s₀ H₀ ex, PE (X.blk scope cl C N s₀ H₀ ex) elt te)
    (I : Inv X pins σ H s₂) (T : Turn X.prog X.w X.K (.Name x px) J fp it tn) (st : tn 0 s₂.heap) (f2 : ∀ b ∈ fp, FpOk X pins H b) (R : CompR J H fr σ tt te Q)
    (hRR : ∀ (D C : Addr) (s' : Shared) (m : Str → Option Value) (H' : Hp), Inv X pins σ H' s' → s'.heap.Ns C m → FpOk X pins H' C → Q (.ref D) H' → RR (.ref D) C (.ok .next) s') :
    wpAny (model X.prog X.w) X.A (newList []) (fun acc s₃ => wpAny (model X.prog X.w) X.A (newFunctionEnv scope X.env.globals (closOf X.env scope.names []) [] X.env.qual none .none (some X.env)) (fun cenv s₄ =>
      codeAny (model X.prog X.w) X.A (.compStart (.ListComp elt [⟨.Name x px, iter, ifs, 0⟩] scope pos) 0 (.ref it) acc { cenv with scope := relabel scope X.env }) (RR acc cenv.locals) s₄) E s₃) E s₂ := by
  refine wpAny_newObj_type (wpAny_newFunctionEnv S.nocell (by intro y hy; simp at hy) (fun h₁ hns₁ hsb₁ => ?_) S.kind)
  dsimp only at hns₁ hsb₁ ⊢
  have hD : H s₂.heap.objs.size = none := I.fresh
  have I0 : Inv X pins σ (upd H s₂.heap.objs.size (.lst [])) { s₂ with heap := s₂.heap.push { cls := .type "list", dict := none, data := .seq ([] : List Value).toArray } } := I.lnew (t' := s₂.toks) (its := []) .nil (Nat.zero_le _)
  have hGp : ∀ b o, s₂.heap.get? b = some o → (s₂.heap.push { cls := .type "list", dict := none, data := .seq ([] : List Value).toArray }).get? b = some o := fun b o e => Heap.get?_push_of_some _ e
  have hGs : (s₂.heap.push { cls := .type "list", dict := none, data := .seq ([] : List Value).toArray }).objs.size = s₂.heap.objs.size + 1 := Heap.size_push ..
  generalize hG : s₂.heap.push { cls := .type "list", dict := none, data := .seq ([] : List Value).toArray } = G at hns₁ hsb₁ I0 hGp hGs ⊢
  generalize hDD : s₂.heap.objs.size = D at hD I0 hGs ⊢
  obtain ⟨W, ⟨m0, w0⟩, turn⟩ := R D hD
  have old : ∀ b o, G.get? b = some o → h₁.get? b = some o := fun b o e => hsb₁.extBut b o (Nat.ne_of_lt (Heap.lt_size e)) (Heap.get?_push_of_some _ e)
  have sub := closOf_sub X.env scope.names [] (fun y c z => by simp at z)
  have IY : Inv (X.blk scope (closOf X.env scope.names []) G.objs.size N { s₂ with heap := G } (upd H D (.lst [])) fp) [] (stB fr σ) (upd H D (.lst [])) { s₂ with heap := h₁, toks := s₂.toks + ([] : List (Str × Value)).length } := by
    refine ⟨⟨I.ok.mod, S.kind, I.ok.glob, I.ok.blt, Nat.le_refl _, fun y z c e1 e2 => I.ok.inj y z c (sub y c e1) (sub z c e2), fun y hy => ?_, fun y c z => (nomatch z), I.ok.hd, I.ok.frames, .inl rfl, fun b hb => ⟨?_, fun y c e => (f2 b hb).2.2.2.2.1 y c (sub y c e)⟩,
      I0.bs, Nat.le_trans I.ok.bsz I0.sz, fun b o e hb => ?_, fun b hb z => ?_, I0.stack, I0.stkFree⟩, rfl, I.bare, Un.kept old, ⟨_, hns₁, fun i y v e1 e2 e3 => ?_⟩, fun y c e => ?_, I0.hok.fresh (Nat.le_refl _), fun y c e => I0.freeC y c (sub y c e), fun p hp => absurd (show p ∈ ([] : List (Addr × Obj)) from hp) (by simp), I0.hok.kept old, ?_⟩
    · have hm : (y, NameKind.free) ∈ scope.names := by
        rcases hy with hy | hy
        · exact relabel_free hy (.inl rfl) S.nocell
        · exact relabel_free hy (.inr rfl) S.nocell
      exact closOf_has X.env scope.names [] y hm (csc_has S I _ hm rfl)
    · obtain ⟨o, e, _⟩ := T.obj 0 _ st b hb
      have h1 : @LT.lt Nat _ b s₂.heap.objs.size := Heap.lt_size e
      show b ≠ G.objs.size
      intro z
      have z' : @Eq Nat b G.objs.size := z
      rw [hGs] at z'
      omega
    · rcases (f2 b hb).2.2.2.1 with z | z
      · exact I.ok.noex b o e z
      · have h1 : @LT.lt Nat _ b X.base.objs.size := Heap.lt_size e
        have h2 : @LE.le Nat _ X.base.objs.size X.s₀.heap.objs.size := I.ok.bsz
        have z' : @LE.le Nat _ X.s₀.heap.objs.size b := z
        omega
    · rcases List.mem_cons.mp (I.stkSub b z) with e | e
      · exact (f2 b hb).2.1 e
      · exact (f2 b hb).2.2.1 e
    · cases i with
      | zero => simp [stB] at e2
      | succ k =>
        have e1' : (fr.map fun j => X.N.getD j "")[k]? = some y := by
          have z : N[k + 1]? = some y := e1
          rw [S.eqN] at z
          simpa using z
        have e2' : (fr.map fun j => (σ[j]?).join)[k]? = some (some v) := by simpa [stB] using e2
        rw [List.getElem?_map] at e1' e2'
        cases hj : fr[k]? with
        | none => rw [hj] at e1'; cases e1'
        | some j =>
          rw [hj] at e1' e2'
          have ey : X.N.getD j "" = y := Option.some.inj e1'
          have ev : (σ[j]?).join = some v := Option.some.inj e2'
          have hjm : j ∈ fr := List.mem_of_getElem? hj
          have hjl := S.inN j hjm
          have eN : X.N[j]? = some y := by rw [← ey]; simp [List.getD, hjl]
          have eσ : σ[j]? = some (some v) := by
            cases q : σ[j]? with
            | none => rw [q] at ev; cases ev
            | some w => rw [q] at ev; rw [show w = some v from ev]
          have hfree : scope.names.lookup y = some .free := by rw [← ey]; exact S.isf j hjm
          have hm : (y, NameKind.free) ∈ scope.names := PySem.mem_of_lookup hfree
          obtain ⟨m, hn, hl⟩ := I.loc
          obtain ⟨u, r, l⟩ := hl j y v eN eσ (by rcases S.fre _ hm rfl with z | z; exact .inr (.inl z); exact .inr (.inr z))
          refine ⟨u, r, ?_⟩
          rcases l with ⟨k1, _⟩ | ⟨_, c, ec, o, ho, hd⟩
          · exact absurd k1 (by rw [← ey]; exact S.cel j hjm)
          · obtain ⟨c', e'⟩ := closOf_has X.env scope.names [] y hm ⟨c, ec⟩
            have e2 := sub y c' e'
            rw [ec] at e2
            cases e2
            exact .inr ⟨relabel_isfree hfree, c, e', o, old _ _ (hGp _ _ ho), hd⟩
    · obtain ⟨v, o, ho, hd⟩ := I.cell y c (sub y c e)
      exact ⟨v, o, old _ _ (hGp _ _ ho), hd⟩
    · show (stB fr σ).length = N.length
      rw [S.eqN]
      simp [stB]
  have fr0 : ∀ b ∈ fp, (upd H D (.lst [])) b = none := fun b hb => by
    obtain ⟨o, e, _⟩ := T.obj 0 _ st b hb
    rw [upd_ne (by intro z; rw [z, ← hDD] at e; exact absurd (Heap.lt_size e) (Nat.lt_irrefl _))]
    exact (f2 b hb).1
  have st₁ : tn 0 h₁ := T.keep _ _ _ st fun b _ o e => old _ _ (hGp _ _ e)
  have stat : ∀ {H' : Hp}, (∀ b ∈ fp, H' b = none) → ∀ b ∈ fp, FpOk (X.blk scope (closOf X.env scope.names []) G.objs.size N { s₂ with heap := G } (upd H D (.lst [])) fp) [] H' b := fun hn b hb =>
    ⟨hn b hb, (IY.ok.exf b hb).1, IY.ok.exfs b hb, .inl hb, (IY.ok.exf b hb).2, fun p hp => absurd (show p ∈ ([] : List (Addr × Obj)) from hp) (by simp)⟩
  have loop : codeAny (model X.prog X.w) X.A (.compLoop (.ListComp elt [⟨.Name x px, iter, ifs, 0⟩] scope pos) 0 (.ref it) (.ref D) (compEnvC scope (closOf X.env scope.names []) G.objs.size X.env)) (RR (.ref D) G.objs.size)
      { s₂ with heap := h₁, toks := s₂.toks + ([] : List (Str × Value)).length } := by
    refine comp_loop (fun n s' => ∃ i ys H', Inv (X.blk scope (closOf X.env scope.names []) G.objs.size N { s₂ with heap := G } (upd H D (.lst [])) fp) [] (stB fr σ) H' s' ∧ tn i s'.heap ∧ (∀ b ∈ fp, H' b = none) ∧ W i n ys H') ?_ m0 ⟨0, [], _, IY, st₁, fr0, w0⟩
    rintro n s3 ⟨i, ys, H3, I3, st3, fr3, w3⟩
    rcases turn i n ys H3 w3 with ⟨stop, q⟩ | ⟨go, step⟩
    · refine thn (T.done (X.blk scope (closOf X.env scope.names []) G.objs.size N { s₂ with heap := G } (upd H D (.lst [])) fp) rfl rfl rfl hc i [] s3 _ H3 _ I3 (stat fr3) st3 stop) fun r s4 ⟨hr, I4⟩ => ?_
      subst hr
      obtain ⟨m', hn', _⟩ := I4.loc
      have u : Un (frs X.stack) fp H H3 s₂.heap s4.heap := Un.trans (Un.laid hGp (Nat.le_of_eq hDD) hD) I4.base
      refine hRR D G.objs.size s4 m' H3 (I.call' I4.os u I4.hok I4.bare fun b hb => ⟨(f2 b hb).2.2.2.1, (f2 b hb).2.1, (f2 b hb).2.2.2.2.1, (f2 b hb).2.2.2.2.2⟩) hn' (I.fpOk (by omega) I4.free) q
    · refine thn (T.item (X.blk scope (closOf X.env scope.names []) G.objs.size N { s₂ with heap := G } (upd H D (.lst [])) fp) rfl rfl rfl hc i [] s3 _ H3 _ I3 (stat fr3) st3 go) fun r s4 ⟨u, hr, h4⟩ => ?_
      subst hr
      refine thn h4 fun _ s5 ⟨x', H5, I5, r5, y5, st5, fr5⟩ => ?_
      have I5' := I5.pinned (stat fr5) (T.obj _ _ st5)
      refine wpAny_assign_Name (store_ok (i := 0) I5' S.nd (by show N[0]? = some x; rw [S.eqN]; rfl) (.inl (lookup_relabel_local S.hx)) r5 (fun s6 I6 => ?_) (.inr (lookup_relabel_local S.hx)))
      have I6' : Inv (X.blk scope (closOf X.env scope.names []) G.objs.size N { s₂ with heap := G } (upd H D (.lst [])) fp) ([] ++ pinsAt fp s5.heap) (stB1 x' fr σ) H5 s6 := I6
      have again : ∀ {H8 : Hp} {s8 : Shared} {ys' : List V}, Inv (X.blk scope (closOf X.env scope.names []) G.objs.size N { s₂ with heap := G } (upd H D (.lst [])) fp) ([] ++ pinsAt fp s5.heap) (stB1 x' fr σ) H8 s8 → (∃ m', m' < n ∧ W (i + 1) m' ys' H8) →
          ∃ m, m < n ∧ ∃ i ys H', Inv (X.blk scope (closOf X.env scope.names []) G.objs.size N { s₂ with heap := G } (upd H D (.lst [])) fp) [] (stB fr σ) H' s8 ∧ tn i s8.heap ∧ (∀ b ∈ fp, H' b = none) ∧ W i m ys H' := fun {H8 s8 ys'} I8 ⟨m', hm, w8⟩ => by
        refine ⟨m', hm, i + 1, ys', H8, I8.unpinned.weak (by simp [stB, stB1]) (fun j v e => ?_), T.keep _ _ _ st5 fun b hb o e => (I8.pin (b, o) (List.mem_append_right _ (List.mem_append_right _ (mem_pinsAt hb e)))).1, fun b hb => ?_, w8⟩
        · cases j with
          | zero => simp [stB] at e
          | succ k => simpa [stB, stB1] using e
        · obtain ⟨o, e, d⟩ := T.obj _ _ st5 b hb
          exact (I8.pin (b, o) (List.mem_append_right _ (List.mem_append_right _ (mem_pinsAt hb e)))).2.1
      refine thn (ht _ _ _ _ _ _ s6 (stB1 x' fr σ) H5 _ I6' (step x' H5 y5)) fun b s7 ⟨H7, I7, q7⟩ => ?_
      cases b with
      | false => exact again I7 q7
      | true =>
        refine thn (he _ _ _ _ _ _ s7 _ H7 _ I7 q7) fun yv s8 ⟨y, H8, I8, r8, hD8, hz, q8⟩ => ?_
        refine thn (mt_append _ s8 _ H8 (.ref D) [y] (.ref D) [yv] (fun _ H9 => H9 = upd H8 D (.lst (ys ++ [y]))) I8 rfl (.cons r8 .nil) ⟨D, ys, y, rfl, rfl, hD8, hz, rfl⟩) fun _ s9 ⟨_, H9, I9, _, e9⟩ => ?_
        subst e9
        exact again I9 q8
  exact codeAny_compStart_list loop (T.self _ 0 _ _ _ st₁ loop)
theorem pe_comp (hc : X.calm = true) (S : CSc scope X.env.scope x N X.N fr) (hi : PI X (.Name x px) iter wi) (ht : ∀ cl C s₀ H₀ ex, PTs (X.blk scope cl C N s₀ H₀ ex) ifs tt) (he : ∀ cl C s₀ H₀ ex, PE (X.blk scope cl C N s₀ H₀ ex) elt te)
    (hs : ∀ v, foldedSetIterable iter X.env v = pure v := by intro _; rfl) : PE X (.ListComp elt [⟨.Name x px, iter, ifs, 0⟩] scope pos) (tComp wi fr tt te) := by
  intro pins s σ H Q I h
  rw [eval_ListComp]
  refine wpAny_comprehension_free (use := none) rfl hs (clos_eq X.env scope (csc_has S I)) S.kind S.names (thn (hi pins s σ H _ I h) fun v s1 h1 => thn h1 fun itv s2 h2 => ?_)
  obtain ⟨it, fp, tn, J, H2, e, I2, T, st2, f2, R⟩ := h2
  subst e
  refine comp_block (RR := fun acc C => compPost (model X.prog X.w) X.A X.xe none (EP X pins σ Q) acc C) hc S ht he I2 T st2 f2 R fun D C s' m H' I' hn hf q => ?_
  exact ⟨m, hn, fun h' hs' => ⟨.ref D, H', I'.turned (t' := s'.toks) (fun b o hb e => hs'.extBut b o hb e) hf.1 hf.2.1 hf.2.2.2.1 hf.2.2.2.2.1 hf.2.2.2.2.2, rfl, q⟩⟩
end
end L2
set_option Elab.async false
set_option linter.all false
set_option maxRecDepth 100000
namespace L2
open PySem PySem.Spec PyProof.Rows
abbrev tx (l : List Nat) : Str := ⟨l.toArray⟩
theorem tx_len (l : List Nat) : (tx l).length = l.length := by simp [Str.length]
theorem tx_list (l : List Nat) : (tx l).cps.toList = l := by simp [tx]
theorem tx_codes (x : Str) : tx x.cps.toList = x := by
  obtain ⟨a⟩ := x
  simp [tx]
theorem len_codes (x : Str) : x.length = x.cps.toList.length := by simp [Str.length]
theorem tx_app (a b : List Nat) : tx a ++ tx b = tx (a ++ b) := by
  show (⟨a.toArray ++ b.toArray⟩ : Str) = ⟨(a ++ b).toArray⟩
  simp
theorem tx_inj {a b : List Nat} : tx a = tx b ↔ a = b := by simp [tx]
theorem slice_to {x : Str} {j : Int} (h0 : 0 ≤ j) : Txt.slice x none (some j) = tx (x.cps.toList.take j.toNat) := by
  by_cases h : j ≤ x.cps.toList.length
  · have e := beq_iff_eq.mp (slice_closes_to (x := x) ⟨h0, h⟩)
    rw [e]
    simp [tx]
  · have hl : (x.length : Int) ≤ j := by rw [len_codes]; omega
    have e2 : Txt.slice x none (some j) = Txt.slice x none (some (x.length : Int)) := by
      unfold Txt.slice
      rw [sliceIdx_hi_beyond _ hl]
    have e := beq_iff_eq.mp (slice_closes_to (x := x) (j := (x.length : Int)) ⟨by omega, by rw [len_codes]; exact Int.le_refl _⟩)
    rw [e2, e]
    have h3 : x.cps.toList.take j.toNat = x.cps.toList := List.take_of_length_le (by omega)
    have h4 : x.cps.toList.take ((x.length : Int) - 0).toNat = x.cps.toList := List.take_of_length_le (by rw [← len_codes]; omega)
    rw [h3]
    show tx (x.cps.toList.take ((x.length : Int) - 0).toNat) = _
    rw [h4]
theorem slice_from {x : Str} {i : Int} (h0 : 0 ≤ i) : Txt.slice x (some i) none = tx (x.cps.toList.drop i.toNat) := by
  by_cases h : i ≤ x.length
  · rw [slice_from_eq (b := (x.length : Int)) h0 h rfl]
    have h3 : (x.cps.toList.drop i.toNat).take ((x.length : Int) - i).toNat = x.cps.toList.drop i.toNat := List.take_of_length_le (by rw [List.length_drop, ← len_codes]; omega)
    rw [h3]
  · rw [slice_beyond (by omega), List.drop_eq_nil_of_le (by rw [← len_codes]; omega)]
    simp [tx, Str.empty]
def rSlS : V → Option Int → Option Int → Hp → VK → Prop := fun x lo hi H Q => ∃ z, x = .str z ∧ z.length ≤ sizeLine ∧
  ((∃ j, lo = none ∧ hi = some j ∧ 0 ≤ j ∧ Q (.str (tx (z.cps.toList.take j.toNat))) H) ∨ (∃ i, lo = some i ∧ hi = none ∧ 0 ≤ i ∧ Q (.str (tx (z.cps.toList.drop i.toNat))) H))
section
variable {X : Cx}
theorem sl_str : SlR X rSlS := by
  intro pins s σ H x v vl vu lo hi sl Q I rx hs pl pu h
  obtain ⟨z, rfl, hz, h⟩ := h
  obtain ⟨t, rfl⟩ := rx
  refine ⟨"str", _, PySem.F.slot_str_getitem.lookup, typeIs_str _ _ _, ?_⟩
  rcases h with ⟨j, rfl, rfl, h0, q⟩ | ⟨j, rfl, rfl, h0, q⟩
  · cases pl
    cases pu with
    | int j u =>
      refine wpAny_getItem_str_slice (l := none) (u := some (j, u)) (st := none) hs rfl (post_val_or_str ⟨Nat.le_trans (Txt.slice_le z _ _) hz, fun t' k => ?_⟩)
      refine ⟨.str (tx (z.cps.toList.take j.toNat)), H, I.tok _, ⟨t', ?_⟩, q⟩
      rw [← slice_to h0]
      rfl
  · cases pu
    cases pl with
    | int j u =>
      refine wpAny_getItem_str_slice (l := some (j, u)) (u := none) (st := none) hs rfl (post_val_or_str ⟨Nat.le_trans (Txt.slice_le z _ _) hz, fun t' k => ?_⟩)
      refine ⟨.str (tx (z.cps.toList.drop j.toNat)), H, I.tok _, ⟨t', ?_⟩, q⟩
      rw [← slice_from h0]
      rfl
theorem op_in1 : OpR X (compareOp .In) (fun x y H Q => ∃ c z, x = .str ⟨#[c]⟩ ∧ y = .str z ∧ Q (.bl (decide (c ∈ z.cps.toList))) H) := by
  intro pins s σ H x y v u Q I rx ry h
  obtain ⟨c, z, rfl, rfl, q⟩ := h
  refine op_in_str pins s σ H _ _ v u Q I rx ry ⟨_, _, rfl, rfl, ?_⟩
  rw [StrLaws.found_one]
  exact q
def rStarts : V → List V → Hp → VK → Prop := fun x xs H Q => ∃ z y, x = .str z ∧ xs = [.str y] ∧ Q (.bl (Txt.startswith z y)) H
theorem mt_starts : MtR X "str.startswith" rStarts := by
  intro pins s σ H x xs v us Q I rx rs h
  obtain ⟨z, y, rfl, rfl, q⟩ := h
  obtain ⟨t, rfl⟩ := rx
  obtain ⟨u, rfl, t', rfl⟩ := rs.one
  exact SC.startswith ⟨.bl _, H, I, rfl, q⟩
theorem strsAre_of : ∀ {ys : List Str} {us : List Value}, Vals (ys.map V.str) us → StrsAre us ys
  | [], us, r => by
    cases r
    exact .nil
  | y :: ys, us, r => by
    rw [List.map_cons] at r
    cases r with
    | cons r1 r2 =>
      obtain ⟨t, rfl⟩ := r1
      exact .cons y t (strsAre_of r2)
theorem boolsAre_of : ∀ {bs : List Bool} {us : List Value}, Vals (bs.map V.bl) us → LSm.BoolsAre us bs
  | [], us, r => by
    cases r
    exact .nil
  | b :: bs, us, r => by
    rw [List.map_cons] at r
    cases r with
    | cons r1 r2 =>
      cases r1
      exact .cons b (boolsAre_of r2)
theorem call_all (hc : X.calm = true) : CallR X (.builtin "all") (fun xs H Q => ∃ (p : Addr) (bs : List Bool), xs = [.ref p] ∧ SqL X.K H p (bs.map V.bl) ∧ Q (.bl (bs.all id)) H) := by
  intro pins s σ H xs us Q I r h
  obtain ⟨p, bs, rfl, hq, q⟩ := h
  obtain ⟨u, rfl, ru⟩ := r.one
  cases ru
  obtain ⟨its, r, pl, _⟩ := I.list hq
  have hb := boolsAre_of r
  obtain ⟨o, n, e, hcl, _, hd⟩ := id pl
  have hlt : p < s.heap.objs.size := Heap.lt_size e
  refine call_all_walk (wpAny_pyIter_list pl.isList ?_)
  refine ⟨s.heap.objs.size, [s.heap.objs.size, p], [s.heap.objs.size], its.toArray.size, _, _, fun i => (bs[i]?).getD true, rfl, Walks.list (A := X.A.in1) (I.ok.hd hc) _ p (Nat.ne_of_lt hlt) its.toArray,
    ⟨⟨_, Heap.get?_push_size _ rfl, rfl, rfl⟩, pl.isList.push _⟩, fun i v s' Q' E' hP hQ => ?_, fun h' tk hk => ?_⟩
  · obtain ⟨b, e, rfl⟩ := hb.get i v (by simpa using hP)
    simp only [e, Option.getD_some] at hQ
    exact wpAny_truthy_bool hQ
  · have e : ((List.range its.toArray.size).all fun i => (bs[i]?).getD true) = bs.all id := by
      rw [List.size_toArray, hb.length]
      exact LSm.range_all bs
    rw [e]
    exact ⟨.bl _, H, I.kept (fun b o e => hk b o (fun z => by rw [List.mem_singleton.mp z] at e; exact Nat.lt_irrefl _ (Heap.lt_size e)) (Heap.get?_push_of_some _ e)), rfl, q⟩
theorem call_isinst : CallR X (.builtin "isinstance") (fun xs H Q => ∃ x t c b, xs = [x, .ty c] ∧ TyOf X.K H x t ∧ PySem.W.kitOne X.K t (.type c) = some b ∧ Q (.bl b) H) := by
  intro pins s σ H xs us Q I r h
  obtain ⟨x, t, c, b, rfl, ty, e, q⟩ := h
  obtain ⟨u, v, rfl, ru, rv⟩ := r.two
  cases rv
  exact isinst_ok I ru ty e fun tk => ⟨.bl b, H, I.tok _, rfl, q⟩
theorem call_isinstO : CallR X (.builtin "isinstance") (fun xs H Q => ∃ x t c b, xs = [x, .ref c] ∧ TyOf X.K H x t ∧ PySem.W.kitOne X.K t (.ref c) = some b ∧ Q (.bl b) H) := by
  intro pins s σ H xs us Q I r h
  obtain ⟨x, t, c, b, rfl, ty, e, q⟩ := h
  obtain ⟨u, v, rfl, ru, rv⟩ := r.two
  cases rv
  exact isinst_ok I ru ty e fun tk => ⟨.bl b, H, I.tok _, rfl, q⟩
theorem call_int_text : CallR X (.type "int") (fun xs H Q => ∃ z n, xs = [.str z] ∧ intText? z = some n ∧ z.length ≤ 640 ∧ Q (.int n) H) := by
  intro pins s σ H xs us Q I r h
  obtain ⟨z, n, rfl, e, hl, q⟩ := h
  obtain ⟨u, rfl, t, rfl⟩ := r.one
  exact PySem.W.KIN.call_text e hl ⟨.int n, H, I.tok _, ⟨_, rfl⟩, q⟩
end
theorem kit_ll (K : PySem.W.Frag) : PySem.W.kitOne K (.type "list") (.type "list") = some true := by rfl
end L2
set_option Elab.async false
set_option linter.all false
set_option maxRecDepth 100000
namespace L2
open PySem PySem.Spec PyProof.Rows
theorem Same.upd_new {H H' : Hp} {a : Addr} {o : HO} (s : Same H H') (h : H a = none) : Same H (upd H' a o) := fun b u e => by
  rw [upd_ne (ne_of_none e h)]
  exact s b u e
theorem Same.new {H : Hp} {a : Addr} {o : HO} (h : H a = none) : Same H (upd H a o) := (Same.refl H).upd_new h
structure Tells (J : It) (H1 : Hp) (xs : List V) : Prop where
  go : ∀ i H, i < xs.length → Same H1 H → J.go i H
  stop : ∀ H, Same H1 H → J.stop xs.length H
  yld : ∀ i H x H', Same H1 H → i < xs.length → J.yld i H x H' → H' = H ∧ xs[i]? = some x
theorem comp_by {α : Type} {J : It} {H1 : Hp} {fr : List Nat} {σ : St} {tt : TT} {te : TE} {Q : VK} {cs : List α} {g : α → V} (T : Tells J H1 (cs.map g)) (p : α → Bool) (f : α → V) (hz : cs.length ≤ sizeLine)
    (ht : ∀ c H2 Q2, c ∈ cs → Same H1 H2 → (∀ H3, Same H2 H3 → Q2 (p c) H3) → tt (stB1 (g c) fr σ) H2 Q2)
    (he : ∀ c H2 Q2, c ∈ cs → p c = true → Same H1 H2 → (∀ H3, Same H2 H3 → Q2 (f c) H3) → te (stB1 (g c) fr σ) H2 Q2)
    (hQ : ∀ D H2, H1 D = none → Same H1 H2 → H2 D = some (.lst ((cs.filter p).map f)) → Q (.ref D) H2) : CompR J H1 fr σ tt te Q := by
  intro D hD
  have hlen : (cs.map g).length = cs.length := List.length_map ..
  refine ⟨fun i m ys H2 => m = cs.length - i ∧ i ≤ cs.length ∧ ys = ((cs.take i).filter p).map f ∧ Same H1 H2 ∧ H2 D = some (.lst ys), ⟨_, rfl, Nat.zero_le _, rfl, Same.new hD, upd_same⟩, ?_⟩
  rintro i m ys H2 ⟨rfl, hi, rfl, s2, d2⟩
  by_cases hlt : i < cs.length
  · refine .inr ⟨T.go i H2 (by rw [hlen]; exact hlt) s2, fun x H3 y => ?_⟩
    obtain ⟨rfl, hx⟩ := T.yld i H2 x H3 s2 (by rw [hlen]; exact hlt) y
    rw [List.getElem?_map] at hx
    cases hc : cs[i]? with
    | none => rw [hc] at hx; cases hx
    | some c =>
      rw [hc] at hx
      obtain rfl : g c = x := Option.some.inj hx
      have hm : c ∈ cs := List.mem_of_getElem? hc
      have tk : (cs.take (i + 1)).filter p = (cs.take i).filter p ++ (if p c then [c] else []) := take_succ_filter p cs i c hc
      refine ht c H3 _ hm s2 fun H4 s4 => ?_
      cases hp : p c with
      | false =>
        rw [hp] at tk
        refine ⟨_, ?_, rfl, hlt, by rw [tk]; simp, s2.trans s4, s4 _ _ d2⟩
        omega
      | true =>
        rw [hp] at tk
        refine he c H4 _ hm hp (s2.trans s4) fun H5 s5 => ⟨s5 _ _ (s4 _ _ d2), ?_, _, ?_, rfl, hlt, by rw [tk]; simp, ((s2.trans s4).trans s5).upd_new hD, upd_same⟩
        · have h1 := List.length_filter_le p (cs.take i)
          rw [List.length_take] at h1
          rw [List.length_map]
          omega
        · omega
  · obtain rfl : i = cs.length := by omega
    exact .inl ⟨by have := T.stop H2 s2; rw [hlen] at this; exact this, hQ D H2 hD s2 (by rw [List.take_length] at d2; exact d2)⟩
theorem tells_str {H1 : Hp} {z : Str} : Tells (Its z) H1 (z.cps.toList.map fun c => V.str ⟨#[c]⟩) where
  go := fun i H hi _ => by
    rw [List.length_map] at hi
    exact (show i < z.cps.size by simpa using hi)
  stop := fun H _ => by
    rw [List.length_map]
    exact (show z.cps.toList.length = z.cps.size by simp)
  yld := fun i H x H' _ _ y => by
    obtain ⟨e, c, hc, rfl⟩ := y
    refine ⟨e, ?_⟩
    rw [List.getElem?_map, Array.getElem?_toList, hc]
    rfl
theorem tells_list {K : PySem.W.Frag} {H1 : Hp} {a : Addr} {xs : List V} (h : SqL K H1 a xs) : Tells (Itl K a) H1 xs where
  go := fun i H hi s => ⟨xs, xs[i], s.seq h, by simp [hi]⟩
  stop := fun H s => ⟨xs, s.seq h, Nat.le_refl _⟩
  yld := fun i H x H' s _ y => ⟨y.1, y.2 xs (s.seq h)⟩
theorem comp_map {α : Type} {J : It} {H1 : Hp} {fr : List Nat} {σ : St} {te : TE} {Q : VK} {cs : List α} {g : α → V} (T : Tells J H1 (cs.map g)) (f : α → V) (hz : cs.length ≤ sizeLine)
    (he : ∀ c H2 Q2, c ∈ cs → Same H1 H2 → (∀ H3, Same H2 H3 → Q2 (f c) H3) → te (stB1 (g c) fr σ) H2 Q2)
    (hQ : ∀ D H2, H1 D = none → Same H1 H2 → H2 D = some (.lst (cs.map f)) → Q (.ref D) H2) : CompR J H1 fr σ tYes te Q :=
  comp_by T (fun _ => true) f hz (fun c H2 Q2 _ _ h => h H2 (Same.refl _)) (fun c H2 Q2 hm _ s h => he c H2 Q2 hm s h) fun D H2 hD s d => hQ D H2 hD s (by rw [List.filter_eq_self.mpr (fun _ _ => rfl)] at d; exact d)
end L2
set_option Elab.async false
set_option linter.all false
set_option maxRecDepth 100000
namespace L2
open PySem PySem.Spec PyProof.Rows
structure DefOk (K : PySem.W.Frag) (mg : Str → Option Value) (x : Str) (st : Stmt) (ps : List Str) (f : Addr) (fd : FuncData) : Prop where
  fn : Fun K x x st f fd
  b : Binds K fd ps []
  g : mg x = some (.ref f)
section
variable {X : Cx}
theorem pe_const {x : Str} {v : V} {pos : Pos} (h : ∃ u, X.mg x = some u ∧ RelV v u) (hg : Gl X x := by rfl) (hd : (x == ("__debug__" : Str)) = false := by decide) : PE X (.Name x pos) (tC v) := by
  obtain ⟨u, e, r⟩ := h
  exact pe_glob hg e r hd
theorem pe_ty {x : Str} {T : String} {pos : Pos} (hm : X.mg x = none) (hv : bootBuiltins x = some (.type T)) (hg : Gl X x := by rfl) (hn : x ≠ "__name__" := by decide) (hd : (x == ("__debug__" : Str)) = false := by decide) : PE X (.Name x pos) (tC (.ty T)) :=
  pe_bltn hg hm hv rfl hn hd
end
def cscOk (sc so : Scope) (x : Str) (N XN : List Str) (fr : List Nat) : Bool :=
  decide (sc.kind = .function) && sc.names.all (fun y => decide (y.2 ≠ .cell)) && sc.names.all (fun y => decide (y.2 = .local → sc.names.lookup y.1 = some .local)) && decide (sc.names.lookup x = some .local) && decide N.Nodup &&
  decide (N = x :: fr.map (fun j => XN.getD j "")) && fr.all (fun j => decide (j < XN.length)) && sc.names.all (fun y => decide (y.2 = .free → so.names.lookup y.1 = some .cell ∨ so.names.lookup y.1 = some .free)) &&
  fr.all (fun j => decide (sc.names.lookup (XN.getD j "") = some .free)) && fr.all (fun j => decide (so.names.lookup (XN.getD j "") ≠ some .local))
theorem CSc.of {sc so : Scope} {x : Str} {N XN : List Str} {fr : List Nat} (h : cscOk sc so x N XN fr = true) : CSc sc so x N XN fr := by
  unfold cscOk at h
  simp only [Bool.and_eq_true, List.all_eq_true, decide_eq_true_eq] at h
  obtain ⟨⟨⟨⟨⟨⟨⟨⟨⟨h1, h2⟩, h3⟩, h4⟩, h5⟩, h6⟩, h7⟩, h8⟩, h9⟩, h10⟩ := h
  exact ⟨h1, h2, h3, h4, h5, h6, h7, h8, h9, h10⟩
theorem map_get {α β : Type} {f : α → β} {l : List α} {i : Nat} {y : β} (h : (l.map f)[i]? = some y) : ∃ z, l[i]? = some z ∧ y = f z := by
  rw [List.getElem?_map] at h
  cases e : l[i]? with
  | none => rw [e] at h; cases h
  | some z => rw [e] at h; exact ⟨z, rfl, (Option.some.inj h).symm⟩
def tBetw (ta tb : TE) (k : Int) : TE := fun σ H Q => ta σ H fun x H1 => tb σ H1 fun y H2 => ∃ i j, x = .int i ∧ y = .int j ∧ Q (.bl (decide (i ≤ j) && decide (j ≤ k))) H2
theorem pe_betw {X : Cx} {a b c : Expr} {ta tb : TE} {k : Int} {pos : Pos} (ha : PE X a ta) (hb : PE X b tb) (hc : PE X c (tC (.int k))) (hm : lastMarks [CmpOp.LtE, CmpOp.LtE] [b, c] = false := by with_unfolding_all rfl) :
    PE X (.Compare a [.LtE, .LtE] [b, c] pos) (tBetw ta tb k) := by
  intro pins s σ H Q I h
  refine Compare_chain (thn (ha pins s σ H _ I h) fun v s1 ⟨x, H1, I1, r1, q1⟩ => chain_link (thn (hb pins s1 σ H1 _ I1 q1) fun u s2 ⟨y, H2, I2, r2, q2⟩ => ?_)) hm
  obtain ⟨i, j, rfl, rfl, q⟩ := q2
  refine thn (op_le pins s2 σ H2 _ _ v u (fun z H3 => z = .bl (decide (i ≤ j)) ∧ H3 = H2) I2 r1 r2 ⟨i, j, rfl, rfl, rfl, rfl⟩) fun d s3 ⟨z, H3, I3, r3, e, e'⟩ => ?_
  subst e e'
  cases r3
  refine wpAny_truthy_bool ?_
  by_cases hij : i ≤ j
  · rw [decide_eq_true hij] at q ⊢
    refine ite_tt (chain_last (thn (hc pins s3 σ _ (fun z H4 => z = .int k ∧ H4 = H3) I3 ⟨rfl, rfl⟩) fun w' s4 ⟨z', H4, I4, r4, e, e'⟩ => ?_))
    subst e e'
    exact op_le pins s4 σ _ _ _ u w' Q I4 r2 r4 ⟨j, k, rfl, rfl, q⟩
  · rw [decide_eq_false hij] at q ⊢
    exact ite_ff ⟨.bl false, H3, I3, rfl, q⟩
def tBetwT (ta tb : TE) (k : Int) : TT := fun σ H Q => ta σ H fun x H1 => tb σ H1 fun y H2 => ∃ i j, x = .int i ∧ y = .int j ∧ Q (decide (i ≤ j) && decide (j ≤ k)) H2
theorem pt_betw {X : Cx} {a b c : Expr} {ta tb : TE} {k : Int} {pos : Pos} (ha : PE X a ta) (hb : PE X b tb) (hc : PE X c (tC (.int k))) (hm : lastMarks [CmpOp.LtE, CmpOp.LtE] [b, c] = false := by with_unfolding_all rfl) :
    PT X (.Compare a [.LtE, .LtE] [b, c] pos) (tBetwT ta tb k) := by
  intro pins s σ H Q I h
  refine isTrue_chain (thn (ha pins s σ H _ I h) fun v s1 ⟨x, H1, I1, r1, q1⟩ => test_link (thn (hb pins s1 σ H1 _ I1 q1) fun u s2 ⟨y, H2, I2, r2, q2⟩ => ?_)) hm
  obtain ⟨i, j, rfl, rfl, q⟩ := q2
  refine thn (op_le pins s2 σ H2 _ _ v u (fun z H3 => z = .bl (decide (i ≤ j)) ∧ H3 = H2) I2 r1 r2 ⟨i, j, rfl, rfl, rfl, rfl⟩) fun d s3 ⟨z, H3, I3, r3, e, e'⟩ => ?_
  subst e e'
  cases r3
  refine wpAny_truthy_bool ?_
  by_cases hij : i ≤ j
  · rw [decide_eq_true hij] at q ⊢
    refine ite_tt (test_last (thn (hc pins s3 σ _ (fun z H4 => z = .int k ∧ H4 = H3) I3 ⟨rfl, rfl⟩) fun w' s4 ⟨z', H4, I4, r4, e, e'⟩ => ?_))
    subst e e'
    refine thn (op_le pins s4 σ _ _ _ u w' (fun z H5 => z = .bl (decide (j ≤ k)) ∧ H5 = H4) I4 r2 r4 ⟨j, k, rfl, rfl, rfl, rfl⟩) fun d' s5 ⟨z2, H5, I5, r5, e, e'⟩ => ?_
    subst e e'
    cases r5
    rw [Bool.true_and] at q
    exact wpAny_truthy_bool ⟨H5, I5, q⟩
  · rw [decide_eq_false hij] at q ⊢
    exact ite_ff ⟨H3, I3, q⟩
def rFr : V → Option Int → Option Int → Hp → VK → Prop := fun x lo hi H Q => ∃ z j, x = .str z ∧ lo = some j ∧ hi = none ∧ z.length ≤ sizeLine ∧ 0 ≤ j ∧ Q (.str (tx (z.cps.toList.drop j.toNat))) H
theorem sl_fr {X : Cx} : SlR X rFr := by
  intro pins s σ H x v vl vu lo hi sl Q I rx hs pl pu h
  obtain ⟨z, j, rfl, rfl, rfl, hz, h0, q⟩ := h
  exact sl_str pins s σ H _ v vl vu _ _ sl Q I rx hs pl pu ⟨z, rfl, hz, .inr ⟨j, rfl, rfl, h0, q⟩⟩
theorem starts1 (l : List Nat) (c : Nat) : Txt.startswith (tx l) (tx [c]) = decide (l.head? = some c) := by
  unfold Txt.startswith
  cases l with
  | nil => rfl
  | cons a r =>
    rw [Bool.eq_iff_iff]
    simp [Builtin.Str.subAt, Str.length, tx]
end L2
set_option Elab.async false
set_option linter.all false
set_option maxRecDepth 100000
namespace L2
open PySem
def digs : List Nat := [48, 49, 50, 51, 52, 53, 54, 55, 56, 57]
theorem mem_digs {c : Nat} : c ∈ digs ↔ 48 ≤ c ∧ c ≤ 57 := by
  unfold digs
  simp only [List.mem_cons, List.not_mem_nil, or_false]
  omega
def numC (n : Int) : List Nat := (Str.ofString (toString n)).cps.toList
theorem numC_tx (n : Int) : Str.ofString (toString n) = tx (numC n) := (tx_codes _).symm
def figsC (l : List Nat) : Bool := decide (1 ≤ l.length ∧ l.length ≤ 60) && (!(decide (l.head? = some 48) && decide (l ≠ [48]))) && l.all fun c => decide (c ∈ digs)
def readC (l : List Nat) : Option Int :=
  if l = [45, 48] ∨ figsC (if l.head? = some 45 then l.drop 1 else l) = false then none
  else some (if l.head? = some 45 then -((NumText.digitsVal (l.drop 1) : Nat) : Int) else ((NumText.digitsVal l : Nat) : Int))
def digC (m : Nat) : List Nat := (Nat.toDigits 10 m).map Char.toNat
theorem numC_nat (m : Nat) : numC (m : Int) = digC m := PySem.W.KIN.signs_num m
theorem numC_neg {m : Nat} (h : 0 < m) : numC (-(m : Int)) = 45 :: digC m := by
  obtain ⟨k, rfl⟩ : ∃ k, m = k + 1 := ⟨m - 1, by omega⟩
  unfold numC digC
  rw [PyProof.Rows.signs_ofString]
  have e : (toString (-((k + 1 : Nat) : Int)) : String) = "-" ++ Nat.repr (k + 1) := rfl
  rw [e, String.toList_append, Nat.toList_repr, List.map_append]
  rfl
theorem digC_all (m : Nat) : NumText.AllDigits (digC m) := by
  intro c hc
  unfold digC at hc
  obtain ⟨ch, hch, e⟩ := List.mem_map.mp hc
  have r := PyProof.Rows.digit_range (Nat.isDigit_of_mem_toDigits (by decide) (by decide) hch)
  rw [← e]
  exact r
theorem digC_ne (m : Nat) : digC m ≠ [] := by
  unfold digC
  intro e
  have h := toDigits_len_ge 10 m
  rw [List.map_eq_nil_iff.mp e] at h
  exact absurd h (by decide)
theorem digC_val (m : Nat) : NumText.digitsVal (digC m) = m := PySem.W.KIN.val_back m
theorem digC_len {m k : Nat} (hk : 0 < k) (h : m < 10 ^ k) : (digC m).length ≤ k := by
  have e := PyProof.Rows.toString_length_le (v := (m : Int)) (by omega) hk (by exact_mod_cast h)
  rw [len_codes] at e
  rw [← numC_nat]
  exact e
theorem digC_head (m : Nat) : (digC m).head? = some 48 → m = 0 := by
  induction m using Nat.strongRecOn with
  | _ m ih =>
    intro h
    by_cases hm : m < 10
    · unfold digC at h
      rw [Nat.toDigits_of_lt_base hm] at h
      have : ∀ m, m < 10 → (List.map Char.toNat [Nat.digitChar m]).head? = some 48 → m = 0 := by decide
      exact this m hm h
    · have hq : m % 10 < 10 := Nat.mod_lt m (by decide)
      have t : Nat.toDigits 10 (m / 10) ++ Nat.toDigits 10 (m % 10) = Nat.toDigits 10 (10 * (m / 10) + m % 10) := Nat.toDigits_append_toDigits (by decide) (by omega) hq
      rw [Nat.div_add_mod] at t
      have e : digC m = digC (m / 10) ++ digC (m % 10) := by
        unfold digC
        rw [← t, List.map_append]
      have h' : (digC (m / 10)).head? = some 48 := by
        rw [e] at h
        cases q : digC (m / 10) with
        | nil => exact absurd q (digC_ne _)
        | cons a r =>
          rw [q] at h
          exact h
      have h := h'
      have := ih (m / 10) (by omega) h
      omega
theorem digC_zero : digC 0 = [48] := by decide
theorem digC_figs {m : Nat} (h : m < 10 ^ 60) : figsC (digC m) = true := by
  have h1 := digC_len (by decide) h
  have h2 : 1 ≤ (digC m).length := by
    have := List.length_pos_iff.mpr (digC_ne m)
    omega
  have h3 : ((digC m).all fun c => decide (c ∈ digs)) = true := List.all_eq_true.mpr fun c hc => decide_eq_true (mem_digs.mpr (digC_all m c hc))
  unfold figsC
  rw [h3, decide_eq_true ⟨h2, h1⟩]
  by_cases h0 : m = 0
  · subst h0
    rw [digC_zero]
    decide
  · rw [decide_eq_false (fun z => h0 (digC_head m z))]
    rfl
theorem readC_int {l : List Nat} {n : Int} (h : readC l = some n) : intText? (tx l) = some n ∧ l.length ≤ 61 := by
  unfold readC at h
  by_cases hc : l = [45, 48] ∨ figsC (if l.head? = some 45 then l.drop 1 else l) = false
  · rw [if_pos hc] at h
    cases h
  · rw [if_neg hc] at h
    have h1 : ¬ l = [45, 48] := fun z => hc (.inl z)
    have h2 : figsC (if l.head? = some 45 then l.drop 1 else l) = true := by
      cases q : figsC (if l.head? = some 45 then l.drop 1 else l) with
      | true => rfl
      | false => exact absurd (.inr q) hc
    have h3 := Option.some.inj h
    have fig : ∀ {f : List Nat}, figsC f = true → NumText.AllDigits f ∧ f ≠ [] ∧ f.length ≤ 60 := fun {f} hf => by
      unfold figsC at hf
      simp only [Bool.and_eq_true, decide_eq_true_eq, List.all_eq_true] at hf
      refine ⟨fun c hc => mem_digs.mp (hf.2 c hc), fun z => ?_, hf.1.1.2⟩
      have := hf.1.1.1
      rw [z] at this
      exact absurd this (by decide)
    by_cases hm : l.head? = some 45
    · rw [if_pos hm] at h2 h3
      obtain ⟨a, b, c⟩ := fig h2
      have hl : l = 45 :: l.drop 1 := by
        cases l with
        | nil => cases hm
        | cons x r => cases hm; rfl
      have hlen : l.length ≤ 61 := by
        rw [hl, List.length_cons]
        omega
      refine ⟨?_, hlen⟩
      rw [← h3]
      exact intText_neg (x := tx l) (cs := l.drop 1) (by rw [tx_list]; exact hl) a b (by rw [tx_len]; omega)
    · rw [if_neg hm] at h2 h3
      obtain ⟨a, b, c⟩ := fig h2
      refine ⟨?_, by omega⟩
      rw [← h3]
      have e := intText_digits (x := tx l) (by rw [tx_list]; exact a) (by rw [tx_list]; exact b) (by rw [tx_len]; omega)
      rw [tx_list] at e
      exact e
theorem readC_num {n : Int} (h : n.natAbs < 10 ^ 60) : readC (numC n) = some n := by
  by_cases h0 : 0 ≤ n
  · obtain ⟨m, rfl⟩ := Int.eq_ofNat_of_zero_le h0
    have hm : m < 10 ^ 60 := by simpa using h
    rw [numC_nat]
    have hh : (digC m).head? ≠ some 45 := fun z => by
      cases e : digC m with
      | nil => exact digC_ne m e
      | cons a r =>
        rw [e] at z
        cases z
        have := digC_all m 45 (by rw [e]; exact List.mem_cons_self)
        omega
    have hne : digC m ≠ [45, 48] := fun z => hh (by rw [z]; rfl)
    unfold readC
    rw [if_neg hh, if_neg hh, if_neg (fun z => by rcases z with z | z; exact hne z; rw [digC_figs hm] at z; cases z), digC_val]
  · obtain ⟨m, rfl⟩ : ∃ m : Nat, n = -(m : Int) := ⟨n.natAbs, by omega⟩
    have hm : m < 10 ^ 60 := by simpa using h
    have hp : 0 < m := by omega
    rw [numC_neg hp]
    have hne : ¬ (45 :: digC m) = [45, 48] := fun z => by
      have z' : digC m = [48] := by simpa using z
      have := digC_head m (by rw [z']; rfl)
      omega
    unfold readC
    show (if (45 :: digC m) = [45, 48] ∨ figsC (digC m) = false then none else some (-((NumText.digitsVal (digC m) : Nat) : Int))) = _
    rw [if_neg (fun z => by rcases z with z | z; exact hne z; rw [digC_figs hm] at z; cases z), digC_val]
theorem num_log {n : Int} (h : n.natAbs < 10 ^ 60) : n.natAbs.log2 < 1920 := by
  by_cases h0 : n.natAbs = 0
  · rw [h0]
    decide
  · have h1 : n.natAbs < 2 ^ 1920 := Nat.lt_of_lt_of_le h (by decide +kernel)
    exact (Nat.log2_lt h0).mpr h1
theorem numC_len {n : Int} (h : n.natAbs < 10 ^ 60) : (numC n).length ≤ 61 := (readC_int (readC_num h)).2
theorem rd_all {K : PySem.W.Frag} {H : Hp} {σ : St} {i : Nat} {cs : List Nat} {te : TE} {Q : VK} (l : List Nat) (hσ : σ[i]? = some (some (.str (tx l)))) (hz : l.length ≤ sizeLine)
    (hte : ∀ c H2 Q2, c ∈ l → Q2 (.bl (decide (c ∈ cs))) H2 → te (stB1 (.str ⟨#[c]⟩) [] σ) H2 Q2) (h : ∀ H2, Same H H2 → Q (.bl (l.all fun c => decide (c ∈ cs))) H2) :
    tComp (iStr (tVar i)) [] tYes te σ H fun x H1 => ∃ p, x = .ref p ∧ ∃ bs : List Bool, SqL K H1 p (bs.map V.bl) ∧ Q (.bl (bs.all id)) H1 := by
  refine ⟨_, hσ, _, rfl, comp_map tells_str (fun c => .bl (decide (c ∈ cs))) (by rw [tx_list]; exact hz) (fun c H2 Q2 hc _ h => hte c H2 Q2 (by rw [tx_list] at hc; exact hc) (h H2 (Same.refl _))) fun D H2 _ s2 d2 => ⟨D, rfl, l.map fun c => decide (c ∈ cs), ?_, ?_⟩⟩
  · rw [tx_list] at d2
    rw [List.map_map]
    exact SqL.of d2
  · have e : (l.map fun c => decide (c ∈ cs)).all id = l.all fun c => decide (c ∈ cs) := by
      rw [List.all_map]
      rfl
    rw [e]
    exact h H2 s2
theorem atI_zero {α : Type} {a : α} {r : List α} : atI (a :: r) 0 = some a := by
  have e := atI_nat (xs := a :: r) (j := 0) (v := a) rfl
  simpa using e
end L2
set_option Elab.async false
set_option linter.all false
set_option maxRecDepth 100000
namespace L2
open PySem PySem.Spec PyProof.Rows
abbrev veB : List Value := [.type "ValueError", .type "Exception", .type "BaseException", .type "object"]
structure XCls (K : PySem.W.Frag) (mg : Str → Option Value) (x : Str) (C : Addr) : Prop where
  g : mg x = some (.ref C)
  ex : PySem.W.excIn K C veB "ValueError.__new__" = true
theorem XCls.own {K : PySem.W.Frag} {mg : Str → Option Value} {x : Str} {C : Addr} {h : Heap} (T : XCls K mg x C) (X : K.In h) : OwnCls x C veB "ValueError.__new__" mg h := by
  refine ⟨T.g, ?_⟩
  have q := T.ex
  unfold PySem.W.excIn at q
  split at q
  · rename_i dd cd sl ho
    split at q
    · rename_i C' bm k0 k1 k2 k3 n k5 hm hs
      simp only [Bool.and_eq_true, beq_iff_eq, Bool.not_eq_true'] at q
      obtain ⟨⟨⟨⟨⟨e1, e2⟩, e3⟩, e4⟩, e5⟩, e6⟩ := q
      subst e1 e2
      obtain ⟨nm, bs, mro, ns, qn, hd, sn, sub, ab, col, del⟩ := cd
      dsimp only at hm e3 e5 e6
      subst hm e3
      obtain rfl : sl = #[k0, k1, k2, k3, some (.builtin "ValueError.__new__"), k5] := by
        obtain ⟨l⟩ := sl
        simp only at hs
        rw [hs]
      exact ⟨bm, ns, nm, qn, bs, hd, sn, sub, ab, col, dd, k0, k1, k2, k3, k5, _, X _ _ ho, .of_isNs (PySem.W.isNs_of_in X e5), PySem.W.nsMap_none_of_in X e5 e6, PySem.W.tail_of_in X e4⟩
    · cases q
  · cases q
def CtxN (a : Addr) (h : Heap) : Prop := ∃ o vs, h.get? a = some o ∧ o.data = .fields vs ∧ vs[2]? = some .none
structure KeepC (a : Addr) {α : Type} (t : Sem α) : Prop where
  out : ∀ (M : Model) (Γ : PySem.Ctx) (R : α → Pos → Shared → Prop) (X : Value → Pos → Shared → Prop) (p : Pos) (s : Shared), CtxN a s.heap → Sem.wp M Γ t R X p s → Sem.wp M Γ t (fun x p' s' => R x p' s' ∧ CtxN a s'.heap) X p s
namespace KeepC
variable {α β : Type} {a : Addr}
theorem pure' (x : α) : KeepC a (Pure.pure x : Sem α) := ⟨fun _ _ _ _ _ _ c h => by rw [Sem.wp_pure'] at h ⊢; exact ⟨h, c⟩⟩
theorem uns (w : String) : KeepC a (PySem.unsupported w : Sem α) := ⟨fun _ _ _ _ _ _ _ h => h.elim⟩
theorem bind' {m : Sem α} {f : α → Sem β} (hm : KeepC a m) (hf : ∀ x, KeepC a (f x)) : KeepC a (m >>= f) := ⟨fun M Γ R X p s c h => by
  rw [Sem.wp_bind'] at h ⊢
  exact Sem.wp_mono M Γ m (fun x p1 s1 q => (hf x).out M Γ R X p1 s1 q.2 q.1) (fun _ _ _ q => q) p s (hm.out M Γ _ X p s c h)⟩
theorem ite' {c : Prop} [Decidable c] {t u : Sem α} (ht : KeepC a t) (hu : KeepC a u) : KeepC a (if c then t else u) := by split <;> assumption
theorem load' (b : Addr) : KeepC a (PySem.load b) := ⟨fun _ _ _ _ _ _ c h => by
  obtain ⟨o, e, q⟩ := h
  exact ⟨o, e, q, c⟩⟩
theorem update' (b : Addr) (f : Obj → Obj) (hf : ∀ o, (f o).data = o.data) : KeepC a (PySem.update b f) := ⟨fun _ _ _ _ _ s c h => by
  refine ⟨h.1, h.2, ?_⟩
  obtain ⟨o, vs, e, d, q⟩ := c
  by_cases z : b = a
  · subst z
    exact ⟨_, vs, Heap.get?_update_self f e (Obj.isFreed_of_fields ((hf o).trans d)), (hf o).trans d, q⟩
  · exact ⟨o, vs, (Heap.get?_update_other _ f z).trans e, d, q⟩⟩
theorem stack' : KeepC a PySem.stack := ⟨fun _ _ _ _ _ _ c h => by
  unfold PySem.stack at h ⊢
  rw [Sem.wp_stack] at h ⊢
  exact ⟨h, c⟩⟩
theorem alloc' (o : Obj) : KeepC a (PySem.alloc o) := ⟨fun _ _ _ _ _ s c h => by
  refine ⟨h, ?_⟩
  obtain ⟨o1, vs, e, d, q⟩ := c
  exact ⟨o1, vs, Heap.get?_push_of_some _ e, d, q⟩⟩
theorem field' (v : Value) (i : Nat) : KeepC a (PySem.field v i) := ⟨fun _ Γ R X p s c h => by
  rw [wp_field_iff] at h ⊢
  obtain ⟨b, o, vs, x, e1, e2, e3, e4, q⟩ := h
  exact ⟨b, o, vs, x, e1, e2, e3, e4, q, c⟩⟩
theorem setField' (v : Value) (i : Nat) (x : Value) (hi : i ≠ 2) : KeepC a (PySem.setField v i x) := ⟨fun _ Γ R X p s c h => by
  rw [wp_setField_iff] at h ⊢
  obtain ⟨b, o, vs, e1, e2, e3, e4, q⟩ := h
  refine ⟨b, o, vs, e1, e2, e3, e4, q, ?_⟩
  obtain ⟨o1, ws, f1, f2, f3⟩ := c
  by_cases z : b = a
  · subst z
    rw [e2] at f1
    cases f1
    rw [e3] at f2
    cases f2
    exact ⟨_, _, Heap.get?_update_self _ e2 (Obj.isFreed_of_fields (Obj.data_mapFields e3 _)), Obj.data_mapFields e3 _, by rw [Array.getElem?_setIfInBounds_ne hi]; exact f3⟩
  · exact ⟨o1, ws, (Heap.get?_update_other _ _ z).trans f1, f2, f3⟩⟩
theorem any {t : Sem α} {M : Model} {A : Around} {Q : α → Shared → Prop} {E : Value → Shared → Prop} {s : Shared} (k : KeepC a t) (c : CtxN a s.heap) (h : wpAny M A t Q E s) : wpAny M A t (fun x s' => Q x s' ∧ CtxN a s'.heap) E s :=
  fun Γ p hΓ => k.out M Γ _ _ p s c (h Γ p hΓ)
theorem anyD {t : Sem α} {M : Model} {A : Around} {Q : α → Shared → Prop} {E : Value → Shared → Prop} {s : Shared} {d : Option Addr} (k : KeepC a t) (c : d = none → CtxN a s.heap) (h : wpAny M A t Q E s) : wpAny M A t (fun x s' => Q x s' ∧ (d = none → CtxN a s'.heap)) E s := by
  cases d with
  | none => exact wpAny_mono (k.any (c rfl) h) (fun x s' q => ⟨q.1, fun _ => q.2⟩) fun _ _ q => q
  | some d => exact wpAny_mono h (fun x s' q => ⟨q, fun z => (nomatch z)⟩) fun _ _ q => q
end KeepC
local macro_rules | `(tactic| walk_at "kc") => `(tactic| repeat' with_reducible first
    | assumption
    | exact KeepC.pure' _
    | exact KeepC.uns _
    | exact KeepC.field' _ _
    | exact KeepC.setField' _ _ _ (by decide)
    | exact KeepC.load' _
    | exact KeepC.update' _ _ fun _ => rfl
    | exact KeepC.stack'
    | exact KeepC.alloc' _
    | apply KeepC.ite'
    | apply KeepC.bind'
    | intro _
    | split)
section
variable (a : Addr)
theorem keepc_import (env : Env) (l : List Env) : KeepC a (behindIsImport env l) := by
  unfold behindIsImport
  walk_at "kc"
theorem keepc_caller : KeepC a underTheClaimsCaller := by
  unfold underTheClaimsCaller
  walk_at "kc"
theorem keepc_back (env : Env) (i : Bool) (l : List Env) : KeepC a (keptBack env i l) := by
  have k := keepc_caller a
  cases l <;> unfold keptBack <;> walk_at "kc"
theorem keepc_ready : ∀ l : List Env, KeepC a (readyFrames l)
  | [] => KeepC.pure' _
  | env :: l => by
    have k1 := keepc_ready l
    have k2 := keepc_import a env l
    have k3 := fun i => keepc_back a env i l
    unfold readyFrames
    walk_at "kc"
    all_goals exact k3 _
theorem keepc_frameObject (l : List Env) : KeepC a (frameObject l) := by
  cases l with
  | nil => exact KeepC.pure' _
  | cons env l =>
    have k := keepc_ready a (env :: l)
    unfold frameObject
    walk_at "kc"
theorem keepc_frameOf (env : Env) : KeepC a (PySem.frameOf env) := by
  have k1 : KeepC a frameEnvs := by
    unfold frameEnvs
    walk_at "kc"
  have k2 := keepc_frameObject a
  unfold PySem.frameOf
  walk_at "kc"
  all_goals exact k2 _
theorem keepc_new (cells : List Value) : KeepC a (newFields "traceback" cells) := by
  unfold newFields newObj newObjAsIs
  walk_at "kc"
theorem keepc_note (e : Value) (env : Env) : KeepC a (noteFrame e env) := by
  have k1 := keepc_frameOf a env
  have k2 : ∀ f b, KeepC a (entryPlaceOf f b) := fun f b => by
    unfold entryPlaceOf
    walk_at "kc"
  have k3 := keepc_new a
  unfold noteFrame EntryCells.newEntry
  walk_at "kc"
  all_goals first | exact k2 _ _ | exact k3 _
theorem keepc_flight (e : Value) (f : Option Addr) : KeepC a (setFlight e f) := by
  unfold setFlight
  walk_at "kc"
theorem keepc_leaving (env : Env) (e : Value) : KeepC a (leaving env e) := KeepC.bind' (keepc_note a e env) fun _ => keepc_flight a e none
end
structure Fly (P : Program) (w : World) (outer : List Env) (H : Hp) (s : Shared) (H' : Hp) (a C : Addr) (s' : Shared) : Prop where
  os : s'.os = s.os
  bare : AllBare s'.gens
  fly : ∃ a0 B, Heap.FlyingW B outer a (.ref C) a0 s'.heap ∧ HOk P w H' B ∧ (∀ b o, s.heap.get? b = some o → H b = none → b ∉ frs outer → B.get? b = some o) ∧ ∀ b o, s.heap.get? b = some o → b ∉ frs outer → ∃ o', B.get? b = some o'
  slot : ∀ b o, s.heap.get? b = some o → H b = none → b ∈ frs outer → ∃ sl, s'.heap.get? b = some { o with slots := sl }
  free : ∀ b o, s.heap.get? b = some o → H b = none → H' b = none
  tups : ∀ b xs, H b = some (.tup xs) → H' b = some (.tup xs)
  frzs : ∀ b o u, H b = some (.frz o u) → H' b = some (.frz o u)
  tbls : ∀ b ps, H b = some (.tbl ps) → ∃ more, H' b = some (.tbl (ps ++ more))
def CX1 (P : Program) (w : World) : CXT := fun outer H s E e s' => ∃ a C H' d, e = .ref a ∧ Fly P w outer H s H' a C s' ∧ (d = none → CtxN a s'.heap) ∧ E (.ref C) d H'
def Raises (X : Cx) (E : XK) : Prop := ∀ (pins : List (Addr × Obj)) (σ : St) (H : Hp) (s : Shared) (h' : Heap) (e C : Addr) (vs : List Value), Inv X pins σ H s → Heap.MadeExcOf s.heap h' e (.ref C) vs → E (.ref C) none H → X.xe (.ref e) { s with heap := h' }
theorem objok_stay {P : Program} {w : World} {H : Hp} {h h' : Heap} (ok : HOk P w H h) (k : ∀ b o u, H b = some u → h.get? b = some o → h'.get? b = some o) : HOk P w H h' := fun a o e =>
  (ok a o e).stay (fun b u hb q => by
    rcases hb with rfl | hb
    · exact k _ u o e q
    · exact k _ u _ hb q) (fun _ q => q) fun _ _ q => q
section
variable {P : Program} {w : World} {K : PySem.W.Frag} {mg : Str → Option Value} {base : Heap} {N : List Str} {qual : Str} {scope : Scope} {f : Addr} {cd : Value} {A : Around} {outer : List Env} {s : Shared} {H : Hp} {E : XK}
theorem raises1 : Raises (cxOf (CX1 P w) P w K mg base N qual scope f cd A outer s H E) E := by
  intro pins σ H1 s1 h' e C vs I mk q
  have hst := I.stack
  have hfr : ∀ b ∈ frs (envOfC qual scope s.heap.objs.size f cd :: outer), H1 b = none := I.stkFree
  have inF : ∀ env ∈ (envOfC qual scope s.heap.objs.size f cd :: outer), ∀ b, env.frame = some b → b ∈ frs (envOfC qual scope s.heap.objs.size f cd :: outer) := fun env he b hb => List.mem_filterMap.mpr ⟨env, he, hb⟩
  have subF : ∀ b ∈ frs outer, b ∈ frs (envOfC qual scope s.heap.objs.size f cd :: outer) := fun b hb => by
    obtain ⟨env, he, hf⟩ := List.mem_filterMap.mp hb
    exact List.mem_filterMap.mpr ⟨env, List.mem_cons_of_mem _ he, hf⟩
  have notF : ∀ b o, s.heap.get? b = some o → b ∉ frs outer → b ∉ frs (envOfC qual scope s.heap.objs.size f cd :: outer) := fun b o e1 n hb => by
    obtain ⟨env, he, hf⟩ := List.mem_filterMap.mp hb
    rcases List.mem_cons.mp he with rfl | he
    · have z : s.heap.objs.size = b := Option.some.inj hf
      exact absurd (Heap.lt_size e1) (by rw [← z]; exact Nat.lt_irrefl _)
    · exact n (List.mem_filterMap.mpr ⟨env, he, hf⟩)
  have cN : CtxN e h' := by
    obtain ⟨t, he, _, _⟩ := mk.there
    exact ⟨_, _, he, rfl, rfl⟩
  refine wpAny_mono ((keepc_leaving e _ _).any cN (wpAny_leaves_madeW (base := PySem.W.hideAll s1.heap (frs (envOfC qual scope s.heap.objs.size f cd :: outer))) I.ok.frames rfl (fun b o z => PySem.W.of_hideAll _ z) (PySem.W.funFrames_hide hst inF) mk (Q := fun _ s2 => ∃ h2 t, s2 = { s1 with heap := h2 } ∧ Heap.FlyingW (PySem.W.hideAll s1.heap (frs (envOfC qual scope s.heap.objs.size f cd :: outer))) outer e (.ref C) (.ref t) h2 ∧ h'.UpToSlots h2) fun h2 t fl _ _ up => ⟨h2, t, rfl, fl, up⟩)) (fun _ s2 hs2 => ?_) fun _ _ q => q
  obtain ⟨⟨h2, t, rfl, fl, up⟩, cN2⟩ := hs2
  refine ⟨e, C, H1, none, rfl, ⟨I.os, I.bare, ⟨_, _, fl, objok_stay I.hok fun b o u hu z => PySem.W.hideAll_get _ z fun hb => ?_, fun b o e1 n1 n2 => ?_, fun b o e1 n2 => ?_⟩, fun b o e1 n1 hb => ?_, fun b o e1 n1 => I.base.free b o e1 n1 (by intro z; exact absurd (show b ∈ ([] : List Addr) from z) (by simp)), I.base.tups, I.base.frzs, I.base.tbls⟩, fun _ => cN2, q⟩
  · rw [hfr b hb] at hu
    cases hu
  · exact PySem.W.hideAll_get _ (I.base.keep b o e1 n1 n2 (by intro z; exact absurd (show b ∈ ([] : List Addr) from z) (by simp))) (notF b o e1 n2)
  · obtain ⟨o', e2⟩ := I.base.there b o e1 (by intro z; exact absurd (show b ∈ ([] : List Addr) from z) (by simp))
    exact ⟨o', PySem.W.hideAll_get _ e2 (notF b o e1 n2)⟩
  · obtain ⟨sl, e2⟩ := I.base.slot b o e1 n1 hb (by intro z; exact absurd (show b ∈ ([] : List Addr) from z) (by simp))
    obtain ⟨_, o2, e3, nf⟩ := hst.mem (subF b hb)
    rw [e2] at e3
    cases e3
    obtain ⟨sl2, e4⟩ := up b _ (mk.keeps b _ e2) nf
    exact ⟨sl2, e4⟩
theorem pass1 : Passes (CX1 P w) (cxOf (CX1 P w) P w K mg base N qual scope f cd A outer s H E) E := by
  intro pins σ H1 s1 e s2 I hx
  obtain ⟨a, C, H2, d, rfl, F, hd, q⟩ := hx
  obtain ⟨a0, B, fl, hok, kp, th⟩ := F.fly
  have notF : ∀ b o, s.heap.get? b = some o → b ∉ frs outer → b ∉ frs (envOfC qual scope s.heap.objs.size f cd :: outer) := fun b o e1 n hb => by
    obtain ⟨env, he, hf⟩ := List.mem_filterMap.mp hb
    rcases List.mem_cons.mp he with rfl | he
    · have z : s.heap.objs.size = b := Option.some.inj hf
      exact absurd (Heap.lt_size e1) (by rw [← z]; exact Nat.lt_irrefl _)
    · exact n (List.mem_filterMap.mpr ⟨env, he, hf⟩)
  have subF : ∀ b ∈ frs outer, b ∈ frs (envOfC qual scope s.heap.objs.size f cd :: outer) := fun b hb => by
    obtain ⟨env, he, hf⟩ := List.mem_filterMap.mp hb
    exact List.mem_filterMap.mpr ⟨env, List.mem_cons_of_mem _ he, hf⟩
  have noex : ∀ b : Addr, b ∉ (cxOf (CX1 P w) P w K mg base N qual scope f cd A outer s H E).ex := fun b z => absurd (show b ∈ ([] : List Addr) from z) (by simp)
  refine wpAny_mono ((keepc_leaving a _ _).anyD hd (wpAny_leaves_onW I.ok.frames rfl fl (Q := fun _ s3 => ∃ h2, s3 = { s2 with heap := h2 } ∧ Heap.FlyingW B outer a (.ref C) a0 h2 ∧ s2.heap.UpToSlots h2) fun h2 fl2 up => ⟨h2, rfl, fl2, up⟩)) (fun _ s3 hs3 => ?_) fun _ _ q => q
  obtain ⟨⟨h2, rfl, fl2, up⟩, hd2⟩ := hs3
  refine ⟨a, C, H2, d, rfl, ⟨F.os.trans I.os, F.bare, ⟨_, B, fl2, hok, fun b o e1 n1 n2 => ?_, fun b o e1 n2 => ?_⟩, fun b o e1 n1 hb => ?_, fun b o e1 n1 => ?_, fun b xs e1 => F.tups b xs (I.base.tups b xs e1), fun b o u e1 => F.frzs b o u (I.base.frzs b o u e1), fun b ps e1 => ?_⟩, hd2, q⟩
  · exact kp b o (I.base.keep b o e1 n1 n2 (noex b)) (I.base.free b o e1 n1 (noex b)) (notF b o e1 n2)
  · obtain ⟨o1, e2⟩ := I.base.there b o e1 (noex b)
    exact th b o1 e2 (notF b o e1 n2)
  · obtain ⟨sl, e2⟩ := I.base.slot b o e1 n1 hb (noex b)
    obtain ⟨sl2, e3⟩ := F.slot b _ e2 (I.base.free b o e1 n1 (noex b)) (subF b hb)
    obtain ⟨_, o2, e4, nf⟩ := fl.2.2.1.mem (subF b hb)
    rw [e3] at e4
    cases e4
    obtain ⟨sl3, e5⟩ := up b _ e3 nf
    exact ⟨sl3, e5⟩
  · obtain ⟨o1, e2⟩ := I.base.there b o e1 (noex b)
    exact F.free b o1 e2 (I.base.free b o e1 n1 (noex b))
  · obtain ⟨m1, e2⟩ := I.base.tbls b ps e1
    obtain ⟨m2, e3⟩ := F.tbls b _ e2
    exact ⟨m1 ++ m2, by rw [e3, Array.append_assoc]⟩
end
theorem pass0' {P : Program} {w : World} {X : Cx} : Passes (CX1 P w) X E0 := fun _ _ _ _ _ _ _ ⟨_, _, _, _, _, _, _, z⟩ => z.elim
def tRaise (E : XK) (C : Addr) (te : TE) : TS := fun _ σ H => te σ H fun _ H1 => E (.ref C) none H1
theorem ps_raise {X : Cx} {E : XK} {x : Str} {C : Addr} {e₀ : Expr} {te : TE} {np cpos pos : Pos} (T : XCls X.K X.mg x C) (hR : Raises X E) (hc : X.calm = true) (he : PE X e₀ te) (hg : Gl X x := by rfl) (hd : (x == ("__debug__" : Str)) = false := by decide)
    (hs : starEach [e₀] X.env = [(false, eval e₀ X.env)] := by rfl) : PS X (.Raise (some (.Call (.Name x np) [e₀] [] cpos)) none pos) (tRaise E C te) := by
  intro pins s σ H D I h
  obtain ⟨tl, N, nm, q, bs, hdct, sn, sub, ab, col, dd, k0, k1, k2, k3, k5, mN, hC, hN, hni, TL⟩ := (T.own I.ok.mod.kin).obj
  have FB := PySem.F.excBase_ValueError
  refine wpAny_Raise_call_subT (C := C) (nm := nm) (q := q) (N := N) (bs := bs) (bm := tl) (hdct := hdct) (sn := sn) (sub := sub) (ab := ab) (col := col) (dd := dd) (k0 := k0) (k1 := k1) (k2 := k2) (k3 := k3) (k5 := k5)
    FB (mN := mN) (TL.hasType FB.hasBase) (I.ok.hd hc) (by rw [hs]; rfl) hni (ld_glob I hg T.g ⟨rfl, ?_⟩ hd)
  have hA : PA X [e₀] (tCons te tNil) := pa_cons he pa_nil hs
  rw [hs]
  have hw := hA cpos pins s σ H (fun vs H1 => vs.length = 1 ∧ E (.ref C) none H1) I (by
    have h' : te σ H fun _ H1 => E (.ref C) none H1 := h
    show te σ H fun x H1 => ([x].length = 1 ∧ E (.ref C) none H1)
    simpa using h')
  rw [hs] at hw
  refine Calls.evalArgs_plain (thn hw fun us s2 ⟨vs, H2, I2, r2, l2, q2⟩ => ⟨rfl, ?_, I2.bk _ _ hC, hN.keeps I2.bk, TL.keeps I2.bk, fun h' e mk => hR pins σ H2 s2 h' e C us I2 mk q2⟩)
  rw [← r2.length, l2]
  decide
end L2
set_option Elab.async false
set_option linter.all false
set_option maxRecDepth 100000
namespace L2
open PySem PySem.Spec PyProof.Rows PySem.W PySem.Builtin PySem.Builtin.ObjectAttr PySem.Builtin.Getset_descriptor
structure XLook (K : Frag) (C : Addr) : Prop where
  ga : findIn K (.ref C) "__getattribute__" = some (some (.builtin "BaseException.__getattribute__"))
  gn : findIn K (.ref C) "__getattr__" = some none
  cl : findIn K (.ref C) "__class__" = some (some (.builtin "object.__class__"))
  hc : (clsIn K C).isSome = true
  hn : specialIn K (.builtin "object.__class__") "__get__" = some (some (.builtin "getset_descriptor.__get__"))
  tk : takesIn K (.builtin "object.__class__") = some true
  mo : mroIn K C (.type "object") = some true
  mb : mroIn K C (.type "BaseException") = some true
def OfCls (h : Heap) (x C : Addr) : Prop := ∃ ox, h.get? x = some ox ∧ ox.cls = .ref C
theorem OfCls.type {M : Model} {h : Heap} {x C : Addr} (I : OfCls h x C) : Looks M h (typeOf (.ref x)) (.ref C) := by
  obtain ⟨ox, e, c⟩ := I
  exact c ▸ (Looks.ld e).andThen .now
section
variable {prog : Program} {w : World} {A : Around} {E : Value → Shared → Prop} {s : Shared} {K : Frag} {x C : Addr}
theorem exc_find {M : Model} {h : Heap} (T : XLook K C) (X : K.In h) : Looks M h (find (.ref x) (.ref C) "__class__") (.bind (.builtin "getset_descriptor.__get__") (.builtin "object.__class__")) := by
  have L1 := looks_findIn (M := M) X T.cl
  have L2 : Looks M h (getOf (some (.builtin "object.__class__"))) (some (.builtin "getset_descriptor.__get__")) := looks_specialIn X T.hn
  have L3 := looks_takesIn (M := M) X T.tk
  have L4 : Looks M h (dataDescriptor? (some (.builtin "object.__class__")) (some (.builtin "getset_descriptor.__get__"))) (some (.builtin "getset_descriptor.__get__", .builtin "object.__class__")) := L3.andThen .now
  exact L1.andThen (L2.andThen (L4.andThen (Looks.tag .now)))
theorem exc_get {tp : Value} {R : Result → Shared → Prop} (T : XLook K C) (X : K.In s.heap) (I : OfCls s.heap x C) (h : R (.ok (.ret (.ref C))) s) :
    codeAny (model prog w) A (.call (.builtin "getset_descriptor.__get__") ⟨[.builtin "object.__class__", .ref x, tp], []⟩) R s := by
  obtain ⟨hh, gg, dd, tt, os⟩ := s
  have Lt := I.type (M := model prog w)
  have Lm := looks_mroIn (M := model prog w) X T.mo
  refine codeAny_call_builtin KF.slot_gs.plain KF.entry_gs ?_
  refine KF.slot_gs.check _ _ _ _ _ _ _ _ KF.type_class (KF.args_gs _ _ _) ?_
  unfold Builtin.«getset_descriptor.__get__»
  unfold descrGet
  rw [dga_obj]
  refine wpAny_bind (wpAny_pure ?_)
  unfold descrGetter descrCheckInstance
  unfold descrNameAndClass isInstance
  simp only [KF.owner_class]
  (repeat lk)
  refine ⟨Code.quiet_builtin _ (by decide +kernel), ?_⟩
  refine codeAny_builtin KF.entry_class ?_
  unfold Builtin.«object.__class__»
  unfold shownTypeOf
  (repeat lk)
  exact h
theorem exc_ga {nm : Str} {tk : Tok} {Q : Fin → Shared → Prop} (T : XLook K C) (X : K.In s.heap) (I : OfCls s.heap x C) (h : Q (.done (.ret (.ref C))) s) :
    wpAny (model prog w) A (Builtin.«object.__getattribute__» ⟨[.ref x, .str "__class__" tk], []⟩) Q E s := by
  obtain ⟨hh, gg, d, t, os⟩ := s
  have L0 := I.type (M := model prog w)
  have L1 := exc_find (x := x) (M := model prog w) T X
  refine wpAny_bind (wpAny_pure (wpAny_bind (wpAny_pure (wpAny_bind (L0.at (wpAny_bind (L1.at ?_)))))))
  show wpAny _ _ (holding [.builtin "object.__class__"] (call (.builtin "getset_descriptor.__get__") [.builtin "object.__class__", .ref x, .ref C]) >>= ret) _ _ _
  refine wpAny_bind (wpAny_holding (wpAny_call (exc_get (s := ⟨hh, gg, d, t, os⟩) T X I ?_)))
  exact wpAny_pure h
theorem exc_call {tk : Tok} {R : Result → Shared → Prop} (T : XLook K C) (X : K.In s.heap) (I : OfCls s.heap x C) (h : R (.ok (.ret (.ref C))) s) :
    codeAny (model prog w) A (.call (.builtin "BaseException.__getattribute__") ⟨[.ref x, .str "__class__" tk], []⟩) R s := by
  refine codeAny_call_builtin F.excAttr_ValueError.ga.plain F.entry_bexc_ga ?_
  obtain ⟨hh, gg, d, t, os⟩ := s
  have L0 := I.type (M := model prog w)
  have LB := looks_mroIn (M := model prog w) X T.mb
  have hk : builtinKind "BaseException.__getattribute__" = some .slot := by decide +kernel
  have hs : splitId "BaseException.__getattribute__" = some ("BaseException", "__getattribute__") := by decide +kernel
  have ha := F.args_bexc_ga (.ref x) (.str "__class__" tk)
  simp only [checkBuiltinCall, hk, hs]
  refine wpAny_bind ?_
  unfold isInstance
  repeat (first | exact exc_ga (s := ⟨hh, gg, d, t, os⟩) (nm := "") T X I (by exact h) | lk)
theorem exc_class {Q : Option Value → Shared → Prop} (T : XLook K C) (X : K.In s.heap) (I : OfCls s.heap x C) (h : Q (some (.ref C)) { s with toks := s.toks + 1 }) :
    wpAny (model prog w) A (getAttr? (.ref x) "__class__") Q E s := by
  obtain ⟨hh, g, d, t, os⟩ := s
  have L0 := I.type (M := model prog w)
  have L1 := looks_findIn (M := model prog w) X T.ga
  have L2 := looks_findIn (M := model prog w) X T.gn
  have f3 := F.excAttr_ValueError.ga.bind (.ref x)
  unfold getAttr? getAttrBy? getAttrBy
  refine wpAny_bind (wpAny_mkText (wpAny_bind (wpAny_attempt (wpAny_holding (wpAny_bind (L0.at (wpAny_bind (L1.at ?_))))))))
  show wpAny _ _ (if (onTheHeap (.ref C) && (Value.builtin "BaseException.__getattribute__" == Value.builtin "object.__getattribute__")) = true then _ else getAttrByItsOwn (.ref x) (.str "__class__" t) (.ref C) (.builtin "BaseException.__getattribute__") false false) _ _ _
  have ne : (onTheHeap (Value.ref C) && (Value.builtin "BaseException.__getattribute__" == Value.builtin "object.__getattribute__")) = false := by
    rw [show (Value.builtin "BaseException.__getattribute__" == Value.builtin "object.__getattribute__") = false by decide +kernel, Bool.and_false]
  rw [ne, if_neg Bool.false_ne_true]
  unfold getAttrByItsOwn hookBefore
  refine wpAny_bind (L2.at (wpAny_bind (wpAny_attempt (wpAny_holding ?_))))
  unfold callGetattribute boundAndCalled
  rw [Bool.false_and, if_neg Bool.false_ne_true]
  refine wpAny_bind (wpAny_of_eq f3 ?_)
  refine wpAny_call (exc_call (s := ⟨hh, g, d, t + 1, os⟩) T X I ?_)
  exact wpAny_pure (wpAny_pure h)
theorem kitx_exc (T : XLook K C) : KitX K (.ref x) (.ref C) (fun h => OfCls h x C) where
  ty := fun _ _ _ I => I.type
  it := fun _ _ X _ => by
    obtain ⟨cd, hc⟩ := Option.isSome_iff_exists.mp T.hc
    unfold clsIn at hc
    split at hc
    · rename_i ho
      intro A' Q' E' s' k q
      unfold isType loadHead
      exact wpAny_bind (wpAny_loadPart (k _ _ (X _ _ ho)) (wpAny_pure q))
    · cases hc
  ne := fun h tp dd its n sl X htp => by
    obtain ⟨cd, hc⟩ := Option.isSome_iff_exists.mp T.hc
    refine Bool.eq_false_iff.mpr fun q => ?_
    obtain rfl : C = tp := Value.ref.inj (beq_iff_eq.mp q)
    unfold clsIn at hc
    split at hc
    · rename_i ho
      cases (X _ _ ho).symm.trans htp
    · cases hc
  ca := fun X I k => exc_class T X I k
end
abbrev hoExc (a C : Addr) : HO := .ext fun h => OfCls h a C
section
variable {X : Cx}
theorem call_isX : CallR X (.builtin "isinstance") (fun xs H Q => ∃ a C d b, xs = [.ref a, d] ∧ H a = some (hoExc a C) ∧ XLook X.K C ∧ ((∃ D, d = .ref D ∧ kitOne X.K (.ref C) (.ref D) = some b) ∨ ∃ D, d = .ty D ∧ kitOne X.K (.ref C) (.type D) = some b) ∧ Q (.bl b) H) := by
  intro pins s σ H xs us Q I r h
  obtain ⟨a, C, d, b, rfl, ha, T, hk, q⟩ := h
  obtain ⟨u, v, rfl, ru, rv⟩ := r.two
  cases ru
  have e : OfCls s.heap a C := (I.hok a _ ha).1
  rcases hk with ⟨D, rfl, hk⟩ | ⟨D, rfl, hk⟩
  · cases rv
    exact kia_one (kitx_exc T) I.kIn e hk (fun z => nomatch z) fun tk => ⟨.bl b, H, I.tok _, rfl, q⟩
  · cases rv
    exact kia_one (kitx_exc T) I.kIn e hk (fun z => nomatch z) fun tk => ⟨.bl b, H, I.tok _, rfl, q⟩
end
end L2
set_option Elab.async false
set_option linter.all false
set_option maxRecDepth 100000
namespace L2
open PySem PySem.Spec PyProof.Rows
theorem objok_there {P : Program} {w : World} {H : Hp} {h : Heap} {a : Addr} {o : HO} (x : ObjOk P w H h a o) : ∃ ob, h.get? a = some ob := by
  cases o with
  | lst xs => obtain ⟨_, _, _, _, e⟩ := x; exact ⟨_, e⟩
  | tup xs => obtain ⟨_, _, _, ob, e, _⟩ := x; exact ⟨ob, e⟩
  | dK kvs => obtain ⟨_, _, _, _, o, _, _, e, _⟩ := x; exact ⟨o, e⟩
  | dT kvs => obtain ⟨_, _, _, _, o, _, _, e, _⟩ := x; exact ⟨o, e⟩
  | set S n => obtain ⟨o, _, _, _, e, _⟩ := x; exact ⟨o, e⟩
  | ins C dx fs => obtain ⟨_, _, _, e, _⟩ := x; exact ⟨_, e⟩
  | own y => obtain ⟨o, e⟩ := x; exact ⟨o, e⟩
  | xd fs => obtain ⟨_, ⟨o, _, _, e, _⟩, _⟩ := x; exact ⟨o, e⟩
  | rng lo hi => obtain ⟨_, _, _, e⟩ := x; exact ⟨_, e⟩
  | frz ob u => obtain ⟨e, _⟩ := x; exact ⟨ob, e⟩
  | tbl ps => exact ⟨_, x⟩
  | met f y => exact ⟨_, x⟩
  | ext φ => obtain ⟨_, e, _⟩ := x; exact e
def PEat (X : Cx) (pins : List (Addr × Obj)) (σ : St) (e : Expr) (t : TE) : Prop := ∀ (s : Shared) (H : Hp) (Q : VK), Inv X pins σ H s → t σ H Q → wpAny (model X.prog X.w) X.A (eval e X.env) (EP X pins σ Q) X.xe s
def PassesAt (CX : CXT) (X : Cx) (pins : List (Addr × Obj)) (σ : St) (E : XK) : Prop := ∀ (H : Hp) (s : Shared) (e : Value) (s' : Shared), Inv X pins σ H s → CX X.stack H s E e s' → X.xe e s'
section
variable {X : Cx} {CX : CXT} {k : Nat} {f C : Addr} {fd : FuncData} {ps : List Str} {sp : Sp} {dvs : List V} {ds : List Value} {E : XK} {x m : Str} {p pos apos : Pos} {e o : Expr} {es : List Expr} {ta : TE} {t : TA} {pins : List (Addr × Obj)} {σ : St}
theorem PE.at' {e : Expr} {t : TE} (h : PE X e t) : PEat X pins σ e t := fun s H Q I hw => h pins s σ H Q I hw
theorem run_fnAt {H : Hp} {s : Shared} {Q : VK} {us : List Value} {vs : List V} (F : FnOk X.prog X.w X.K X.mg X.base CX k f fd ps sp) (hr : Room k X.A) (hb : Binds X.K fd ps ds) (hd : Vals dvs ds) (hx : PassesAt CX X pins σ E)
    (I : Inv X pins σ H s) (r : Vals vs us) (h : sp (vs ++ dvs) H Q E) : wpAny (model X.prog X.w) X.A (call (.ref f) us) (EP X pins σ Q) X.xe s := by
  have r2 : Vals (vs ++ dvs) (us ++ ds) := r.append hd
  have hl : (us ++ ds).length = ps.length := by rw [← r2.length]; exact F.len _ _ _ _ h
  refine wpAny_call (codeAny_mono (F.run X.A X.stack s H ⟨us, []⟩ (us ++ ds) (vs ++ dvs) Q E hr I.env0 (hb s us I.kIn hl) r2 h) fun r s' hq => ?_)
  cases r with
  | error e => exact hx H s e s' I hq
  | ok fl =>
    cases fl with
    | ret u => exact I.after hq
    | next => exact False.elim hq
    | brk => exact False.elim hq
    | cont => exact False.elim hq
theorem pe_callAt (F : FnOk X.prog X.w X.K X.mg X.base CX k f fd ps sp) (hr : Room k X.A) (hm : X.mg x = some (.ref f)) (hk : PySem.W.keepIn X.K (.ref f) = true) (hb : Binds X.K fd ps ds) (hd : Vals dvs ds) (hx : PassesAt CX X pins σ E)
    (ha : PA X (e :: es) t) (hg : Gl X x := by rfl) (hdb : (x == ("__debug__" : Str)) = false := by decide) (he : starEach (e :: es) X.env = (false, eval e X.env) :: starEach es X.env := by rfl) (hpl : (backTo pos (starEach es X.env)).any (·.1) = false := by rfl) :
    PEat X pins σ (.Call (.Name x p) (e :: es) [] pos) (tCall sp dvs E t) := by
  intro s H Q I h
  refine wpAny_Call_Name_kw (ld_glob I hg hm ?_ hdb)
  refine PySem.W.callWith_K (h₀ := X.base) I.ok.mod.kin hk (thn (ha pos pins s σ H _ I h) fun us s1 ⟨vs, H1, I1, r, q⟩ => ⟨I1.kIn, ?_⟩) he hpl
  exact run_fnAt F hr hb hd hx I1 r q
end
def XPX (X : Cx) (CX : CXT) (pins : List (Addr × Obj)) (EX : St → XK) : Value → Shared → Prop := fun e s' => ∃ σ H s, Inv X pins σ H s ∧ CX X.stack H s (EX σ) e s'
abbrev TSX := Ends → (St → XK) → St → Hp → Prop
def PSX1 (CX : CXT) (X : Cx) (st : Stmt) (t : TSX) : Prop := ∀ (pins : List (Addr × Obj)) (s : Shared) (σ : St) (H : Hp) (D : Ends) (EX : St → XK), Inv X pins σ H s → t D EX σ H → wpAny (model X.prog X.w) X.A (exec st X.env) (SP X pins D) (XPX X CX pins EX) s
def PSX (CX : CXT) (X : Cx) (sts : List Stmt) (t : TSX) : Prop := ∀ (pins : List (Addr × Obj)) (s : Shared) (σ : St) (H : Hp) (D : Ends) (EX : St → XK), Inv X pins σ H s → t D EX σ H → wpAny (model X.prog X.w) X.A (execs sts X.env) (SP X pins D) (XPX X CX pins EX) s
section
variable {X : Cx} {CX : CXT} {st : Stmt} {rest : List Stmt} {t u : TSX} {e : Expr} {pos : Pos} {te : XK → TE}
theorem psx_one (h : PSX1 CX X st t) : PSX CX X [st] t := by
  intro pins s σ H D EX I hw
  refine wpAny_execs_cons (thn (h pins s σ H D EX I hw) fun f s1 q => ?_)
  cases f with
  | next => exact wpAny_execs_nil q
  | brk => exact q
  | cont => exact q
  | ret v => exact q
def XE (CX : CXT) (X : Cx) (e : Expr) (te : XK → TE) : Prop := ∀ (xe : Value → Shared → Prop) (pins : List (Addr × Obj)) (σ : St) (E : XK), PassesAt CX (X.wish xe) pins σ E → PEat (X.wish xe) pins σ e (te E)
theorem xe_run (he : XE CX X e te) {pins : List (Addr × Obj)} {s : Shared} {σ : St} {H : Hp} {Q : VK} {EX : St → XK} (I : Inv X pins σ H s) (h : te (EX σ) σ H Q) : wpAny (model X.prog X.w) X.A (eval e X.env) (EP X pins σ Q) (XPX X CX pins EX) s :=
  thn (he (XPX X CX pins EX) pins σ (EX σ) (fun H1 s1 e1 s2 I1 hc => ⟨σ, H1, s1, I1.unwish, hc⟩) s H Q (I.wish _) h) fun u s1 ⟨v, H1, I1, r, q⟩ => ⟨v, H1, I1.unwish, r, q⟩
theorem psx_set {i : Nat} {x : Str} {pos' : Pos} (hN : X.N.Nodup) (hi : X.N[i]? = some x) (hx : Loc X.env.scope x) (he : XE CX X e te) (hs : swapsWith e (some (.Name x pos')) pos.line X.env = pure false := by rfl)
    (hf : X.fn x = true ∨ X.env.scope.names.lookup x = some .local := by first | exact .inl rfl | exact .inr rfl | assumption) : PSX1 CX X (.Assign [.Name x pos'] e pos) (fun D EX σ H => te (EX σ) σ H fun v H1 => D.nx (σ.set i (some v)) H1) := by
  intro pins s σ H D EX I h
  refine wpAny_Assign_Name (thn (xe_run he I h) fun v s1 ⟨y, H1, I1, r1, q1⟩ => ?_) hs
  exact store_ok I1 hN hi hx r1 (fun s2 I2 => ⟨_, H1, I2, q1⟩) hf
theorem psx_ret (he : XE CX X e te) : PSX1 CX X (.Return (some e) pos) (fun D EX σ H => te (EX σ) σ H D.rt) := by
  intro pins s σ H D EX I h
  exact wpAny_Return_some (thn (xe_run he I h) fun v s1 ⟨y, H1, I1, r1, q1⟩ => ⟨y, σ, H1, I1, r1, q1⟩)
end
end L2
set_option Elab.async false
set_option linter.all false
set_option maxRecDepth 100000
namespace L2
open PySem PySem.Spec PyProof.Rows
abbrev Cx.hdl (X : Cx) (a : Addr) : Cx := { X with A := X.A.mark (some (.ref a)), calm := false, xe := fun _ _ => False }
section
variable {X : Cx} {pins : List (Addr × Obj)} {σ : St} {H : Hp} {s : Shared} {a : Addr}
theorem Inv.hdl (I : Inv X pins σ H s) (a : Addr) : Inv (X.hdl a) pins σ H s :=
  ⟨⟨I.ok.mod, I.ok.kind, I.ok.glob, I.ok.blt, I.ok.above, I.ok.inj, I.ok.has, I.ok.cab, fun z => (nomatch z), I.ok.frames, I.ok.stk, I.ok.exf, I.ok.bs, I.ok.bsz, I.ok.noex, I.ok.exfs, I.ok.funs, I.ok.frf⟩, I.os, I.bare, I.base, I.loc, I.cell, I.free, I.freeC, I.pin, I.hok, I.len⟩
theorem Inv.unhdl (I : Inv (X.hdl a) pins σ H s) (ok : X.Ok) : Inv X pins σ H s := ⟨ok, I.os, I.bare, I.base, I.loc, I.cell, I.free, I.freeC, I.pin, I.hok, I.len⟩
theorem Inv.goes {i : Nat} {n : Str} {h' : Heap} {v : Option Value} {m : Str → Option Value} {t' : Nat} (I : Inv X pins σ H s) (hN : X.N.Nodup) (hi : X.N[i]? = some n)
    (hl : ∀ (j : Nat) (x : Str) (v : V), X.N[j]? = some x → σ[j]? = some (some v) → Vis X.env.scope x → ∃ u, RelV v u ∧ Look X.env s.heap m x u)
    (hn' : h'.Ns X.env.locals (fun x => if x = n then v else m x)) (sb : Heap.SameBut X.env.locals s.heap h') : Inv X pins (σ.set i none) H { s with heap := h', toks := t' } := by
  have ne : ∀ b o, X.s₀.heap.get? b = some o → b ≠ X.env.locals := fun b o e => Nat.ne_of_lt (Nat.lt_of_lt_of_le (Heap.lt_size e) I.ok.above)
  have hcell : ∀ x c, X.env.cells.lookup x = some c → ∀ u, s.heap.IsCell c u → h'.IsCell c u := fun x c e u ⟨o, ho, hd⟩ => ⟨o, (sb.2 c (I.cne x c e)).trans ho, hd⟩
  refine ⟨I.ok, I.os, I.bare, ⟨fun b o e n hb hx => (sb.2 b (ne b o e)).trans (I.base.keep b o e n hb hx), fun b o e n hb hx => ?_, I.base.free, fun b o e hx => ?_, I.base.tups, I.base.frzs, I.base.tbls⟩, ⟨_, hn', fun j x v' e1 e2 e3 => ?_⟩, fun x c e => ?_, I.free, I.freeC, fun p hp => ?_, fun b u e => ?_, by simpa using I.len⟩
  · obtain ⟨sl, q⟩ := I.base.slot b o e n hb hx
    exact ⟨sl, (sb.2 b (ne b o e)).trans q⟩
  · obtain ⟨o', q⟩ := I.base.there b o e hx
    exact ⟨o', (sb.2 b (ne b o e)).trans q⟩
  · by_cases hj : j = i
    · subst hj
      have hl2 : j < σ.length := by
        have := (List.getElem?_eq_some_iff.mp e2).1
        simpa using this
      rw [List.getElem?_set_self hl2] at e2
      cases e2
    · rw [List.getElem?_set_ne (Ne.symm hj)] at e2
      obtain ⟨u, r, q⟩ := hl j x v' e1 e2 e3
      refine ⟨u, r, ?_⟩
      rcases q with ⟨k, q⟩ | ⟨k, c, q, z⟩
      · have hxn : x ≠ n := fun z => hj (nodup_ix hN e1 (z ▸ hi))
        exact .inl ⟨k, (if_neg hxn).trans q⟩
      · exact .inr ⟨k, c, q, hcell x c q _ z⟩
  · obtain ⟨u, z⟩ := I.cell x c e
    exact ⟨u, hcell x c e u z⟩
  · obtain ⟨e, nn, ne', nf, d⟩ := I.pin p hp
    exact ⟨(sb.2 p.1 ne').trans e, nn, ne', nf, d⟩
  · refine (I.hok b u e).stay (fun c w hc q => (sb.2 c ?_).trans q) (fun _ q => q) fun _ _ q => q
    rintro rfl
    rcases hc with z | z
    · rw [← z, I.free] at e
      cases e
    · rw [I.free] at z
      cases z
theorem Fly.landsE {H1 H2 : Hp} {s0 s1 : Shared} {C : Addr} {a0 : Value} {B h6 : Heap} (I : Inv X pins σ H1 s0) (F : Fly X.prog X.w X.stack H1 s0 H2 a C s1) (fl : Heap.FlyingW B X.stack a (.ref C) a0 s1.heap) (hok : HOk X.prog X.w H2 B)
    (kp : ∀ b o, s0.heap.get? b = some o → H1 b = none → b ∉ frs X.stack → B.get? b = some o) (th : ∀ b o, s0.heap.get? b = some o → b ∉ frs X.stack → ∃ o', B.get? b = some o')
    (fl6 : Heap.FlyingW B X.stack a (.ref C) a0 h6) (up : s1.heap.UpToSlots h6) {φ : Heap → Prop} (p6 : φ h6) (pst : ∀ h1 h2, φ h1 → (∀ o, h1.get? a = some o → h2.get? a = some o) → φ h2) : H2 a = none ∧ Inv X pins σ (upd H2 a (.ext φ)) { s1 with heap := h6 } := by
  have noB : B.get? a = none := fl.2.1
  have hna : H2 a = none := by
    cases q : H2 a with
    | none => rfl
    | some o =>
      obtain ⟨ob, e⟩ := objok_there (hok a o q)
      rw [noB] at e
      cases e
  have frn : ∀ b ∈ frs X.stack, b ≠ a := fun b hb z => by
    obtain ⟨_, o, e, nf⟩ := fl6.2.2.1.mem hb
    obtain ⟨oe, vs, _, _, _, e2, _, d, _⟩ := fl6.2.2.2
    rw [z, e2] at e
    cases e
    exact nf vs d
  have old : ∀ b o, s0.heap.get? b = some o → b ≠ a := fun b o e z => by
    by_cases hb : b ∈ frs X.stack
    · exact frn b hb z
    · obtain ⟨o', q⟩ := th b o e hb
      rw [z, noB] at q
      cases q
  have trk : ∀ b u, H2 b = some u → b ≠ a := fun b u e z => by
    rw [z, hna] at e
    cases e
  refine ⟨hna, I.call' (ch := []) F.os ⟨fun b o e n hb _ => fl6.1 b o (kp b o e n hb), fun b o e n hb _ => ?_, fun b o e n _ => ?_, fun b o e _ => ?_, fun b xs e => ?_, fun b o u e => ?_, fun b ps e => ?_⟩ (fun b u e => ?_) F.bare fun b z => absurd z (by simp)⟩
  · obtain ⟨sl, q⟩ := F.slot b o e n hb
    obtain ⟨_, o2, q2, nf⟩ := fl.2.2.1.mem hb
    rw [q] at q2
    cases q2
    obtain ⟨sl2, q3⟩ := up b _ q nf
    exact ⟨sl2, q3⟩
  · rw [upd_ne (old b o e)]
    exact F.free b o e n
  · by_cases hb : b ∈ frs X.stack
    · obtain ⟨_, o2, q2, _⟩ := fl6.2.2.1.mem hb
      exact ⟨o2, q2⟩
    · obtain ⟨o', q⟩ := th b o e hb
      exact ⟨o', fl6.1 b o' q⟩
  · have q := F.tups b xs e
    rw [upd_ne (trk b _ q)]
    exact q
  · have q := F.frzs b o u e
    rw [upd_ne (trk b _ q)]
    exact q
  · obtain ⟨more, q⟩ := F.tbls b ps e
    exact ⟨more, by rw [upd_ne (trk b _ q)]; exact q⟩
  · by_cases hb : b = a
    · subst hb
      rw [upd_same] at e
      cases e
      obtain ⟨oe, vs, _, _, _, e2, c, _⟩ := fl6.2.2.2
      exact ⟨p6, ⟨oe, e2⟩, pst⟩
    · rw [upd_ne hb] at e
      refine (hok b u e).stay (fun c w _ q => fl6.1 c w q) (fun c q => ?_) fun c xs q => ?_
      · rw [upd_ne (trk c _ q)]
        exact q
      · rw [upd_ne (trk c _ q)]
        exact q
theorem Fly.lands {H1 H2 : Hp} {s0 s1 : Shared} {C : Addr} {a0 : Value} {B h6 : Heap} (I : Inv X pins σ H1 s0) (F : Fly X.prog X.w X.stack H1 s0 H2 a C s1) (fl : Heap.FlyingW B X.stack a (.ref C) a0 s1.heap) (hok : HOk X.prog X.w H2 B)
    (kp : ∀ b o, s0.heap.get? b = some o → H1 b = none → b ∉ frs X.stack → B.get? b = some o) (th : ∀ b o, s0.heap.get? b = some o → b ∉ frs X.stack → ∃ o', B.get? b = some o')
    (fl6 : Heap.FlyingW B X.stack a (.ref C) a0 h6) (up : s1.heap.UpToSlots h6) : H2 a = none ∧ Inv X pins σ (upd H2 a (hoExc a C)) { s1 with heap := h6 } := by
  refine Fly.landsE I F fl hok kp th fl6 up ?_ fun h1 h2 ⟨oe, e1, e2⟩ k => ⟨oe, k oe e1, e2⟩
  obtain ⟨oe, vs, _, _, _, e2, c, _⟩ := fl6.2.2.2
  exact ⟨oe, e2, c.1⟩
end
def tTry (Ok : Addr → Prop) (i : Nat) (tb : TSX) (th : TS) : TS := fun D σ H => tb D (fun σ' c _ H' => ∃ C, c = .ref C ∧ Ok C ∧
  ∀ a, H' a = none → th { nx := fun σ2 H2 => D.nx (σ2.set i none) H2, rt := D.rt } (σ'.set i (some (.ref a))) (upd H' a (hoExc a C))) σ H
theorem ps_try {X : Cx} {x n : Str} {D0 : Addr} {i : Nat} {body : List Stmt} {b₀ : Stmt} {suite : List Stmt} {np hpos pos : Pos} {tb : TSX} {th : TS} {Ok : Addr → Prop} (hOk : ∀ C, Ok C → PySem.W.exmOne X.K (.ref C) (.ref D0) = some true) (hg0 : X.mg x = some (.ref D0)) (hN : X.N.Nodup) (hi : X.N[i]? = some n)
    (hl : X.env.scope.names.lookup n = some .local) (hst : X.stack = X.env :: X.outer) (hf : X.env.frame = some X.env.locals) (hb : PSX (CX1 X.prog X.w) X body tb) (hh : ∀ a, PSs (X.hdl a) (b₀ :: suite) th)
    (hg : Gl X x := by rfl) (hd : (x == ("__debug__" : Str)) = false := by decide) : PS X (.Try body [.ExceptHandler (some (.Name x np)) (some n) (b₀ :: suite) hpos] [] [] pos) (tTry Ok i tb th) := by
  intro pins s σ H D I h
  refine wpAny_Try_except (wpAny_mono (hb pins s σ H D _ I h) (fun f s1 q => ?_) fun e s1 hx => ?_)
  · cases f with
    | next => exact wpAny_execs_nil q
    | brk => exact q
    | cont => exact q
    | ret v => exact q
  · obtain ⟨σ1, H1, s0, I1, a, C, H2, d, rfl, F, _, C', eC, hm, q⟩ := hx
    cases eC
    replace hm := hOk C hm
    obtain ⟨a0, B, fl, hok, kp, tH⟩ := F.fly
    have hfs : X.A.frames = some (X.env :: X.outer) := by rw [← hst]; exact I1.ok.frames
    have fl' := fl
    rw [hst] at fl'
    refine wpAny_looks_onW hfs hf fl' fun h4 held4 up4 => ?_
    refine wpAny_landsW held4 fun h5 fl5 up5 => ?_
    have fl5' : Heap.FlyingW B X.stack a (.ref C) a0 h5 := by rw [hst]; exact fl5
    obtain ⟨hna, I5⟩ := Fly.lands I1 F fl hok kp tH fl5' (up4.trans up5)
    refine wpAny_handleBy_cons (codeAny_handlers_test ?_) (by intro q; cases q)
    have I5h := I5.hdl a
    refine ld_glob (X := X.hdl a) I5h hg hg0 ?_ hd
    have LT : PySem.W.Looks (model X.prog X.w) h5 (typeOf (.ref a)) (.ref C) := by
      obtain ⟨oe, vs, _, _, _, e2, c, _⟩ := fl5.2.2.2
      exact OfCls.type ⟨oe, e2, c.1⟩
    refine PySem.W.Looks.here (s := { s1 with heap := h5 }) (PySem.W.exm_one I5.kIn LT hm) ?_
    refine codeAny_handlers_suite_as (lands_againW fl5 fun h6 fl6 up6 => ?_)
    have fl6' : Heap.FlyingW B X.stack a (.ref C) a0 h6 := by rw [hst]; exact fl6
    obtain ⟨_, I6⟩ := Fly.lands I1 F fl hok kp tH fl6' ((up4.trans up5).trans up6)
    refine store_ok (X := X.hdl a) (I6.hdl a) hN hi (.inl hl) (show RelV (.ref a) (.ref a) from rfl) (fun s7 I7 => ?_) (.inr hl)
    refine wpAny_mono (hh a pins s7 _ _ _ I7 (q a hna)) (fun f s8 q8 => ?_) fun _ _ z => z.elim
    have hp : (X.env.scope.kind == .class || (X.env.scope.kind == .module && X.env.locals != X.env.globals)) = false := by rw [I.ok.kind]; rfl
    have goes : ∀ {σ8 : St} {H8 : Hp} {Q : Unit → Shared → Prop}, Inv (X.hdl a) pins σ8 H8 s8 → (∀ s9, Inv X pins (σ8.set i none) H8 s9 → Q () s9) →
        wpAny (model X.prog X.w) X.A (do bindName X.env n .none; unbindBehindTheSuite X.env n hpos) Q X.xe s8 := fun {σ8 H8 Q} I8 k => by
      have I8' := I8.unhdl I.ok
      obtain ⟨m, hn, hlk⟩ := I8'.loc
      exact wpAny_nameGoes_keeps hl hn hp fun h' v hn' sb => k _ (I8'.goes hN hi hlk hn' sb)
    cases f with
    | next =>
      obtain ⟨σ8, H8, I8, q8⟩ := q8
      exact goes I8 fun s9 I9 => ⟨_, H8, I9, q8⟩
    | brk =>
      obtain ⟨σ8, H8, I8, q8⟩ := q8
      exact q8.elim
    | cont =>
      obtain ⟨σ8, H8, I8, q8⟩ := q8
      exact q8.elim
    | ret u =>
      obtain ⟨v, σ8, H8, I8, r8, q8⟩ := q8
      exact goes I8 fun s9 I9 => ⟨v, _, H8, I9, r8, q8⟩
end L2
set_option Elab.async false
set_option linter.all false
set_option maxRecDepth 100000
namespace L2
open PySem PySem.Spec PyProof.Rows
structure RoomH (k : Nat) (A : Around) : Prop where
  dp : A.depth + 3 * k + 5 < recursionLimit
  un : A.units + 16 * k + 200 < cLine
theorem Room.h {k : Nat} {A : Around} (r : Room k A) (e : Option Value) : RoomH k (A.mark e) := ⟨r.dp, r.un⟩
theorem RoomH.deeper {k : Nat} {A : Around} (r : RoomH (k + 1) A) (env : Env) : RoomH k (A.deeper env) :=
  ⟨by have := r.dp; show A.depth + 1 + 3 * k + 5 < _; omega, by have := r.un; show A.units + 3 + 16 * k + 200 < _; omega⟩
theorem RoomH.mono {j k : Nat} {A : Around} (r : RoomH k A) (h : j ≤ k) : RoomH j A := ⟨by have := r.dp; omega, by have := r.un; omega⟩
structure FnOkH (P : Program) (w : World) (K : PySem.W.Frag) (mg : Str → Option Value) (base : Heap) (k : Nat) (f : Addr) (fd : FuncData) (ps : List Str) (sp : Sp) : Prop where
  len : ∀ vs H Q E, sp vs H Q E → vs.length = ps.length
  run : ∀ (A : Around) (outer : List Env) (s : Shared) (H : Hp) (args : Args) (us : List Value) (vs : List V) (Q : VK), RoomH k A → Env0 P w K mg base A outer s H → BindsTo s fd args (ps.zip us) → Vals vs us → sp vs H Q E0 →
    codeAny (model P w) A (.call (.ref f) args) (CR CX0 outer P w H s Q E0) s
theorem FnOkH.mono {P : Program} {w : World} {K : PySem.W.Frag} {mg : Str → Option Value} {base : Heap} {j k : Nat} {f : Addr} {fd : FuncData} {ps : List Str} {sp : Sp} (F : FnOkH P w K mg base j f fd ps sp) (h : j ≤ k) : FnOkH P w K mg base k f fd ps sp :=
  ⟨F.len, fun A outer s H args us vs Q hr => F.run A outer s H args us vs Q (hr.mono h)⟩
def cxH (P : Program) (w : World) (K : PySem.W.Frag) (mg : Str → Option Value) (base : Heap) (N : List Str) (qual : Str) (scope : Scope) (f : Addr) (cd : Value) (A : Around) (outer : List Env) (s : Shared) (H : Hp) : Cx :=
  { cxOf CX0 P w K mg base N qual scope f cd A outer s H E0 with calm := false, xe := fun _ _ => False }
section
variable {P : Program} {w : World} {K : PySem.W.Frag} {mg : Str → Option Value} {base : Heap}
theorem fn_ofH {k : Nat} {f : Addr} {name qual : Str} {params : Arguments} {body : List Stmt} {scope : Scope} {dV kV doc pm cdv ct oc : Value} {an od : Option Addr}
    {osl : Array (Option Value)} {N ps : List Str} {sp : Sp} (lk : K.lookup f = some ⟨oc, od, .func (PySem.W.fnOf name qual params body scope dV kV doc pm an cdv ct), osl⟩) (hcd : PySem.W.codeIn K cdv qual = true) (S : FnScope N ps scope)
    (len : ∀ vs H Q E, sp vs H Q E → vs.length = ps.length)
    (hbody : ∀ (A : Around) (outer : List Env) (s : Shared) (H : Hp) (vs : List V) (Q : VK), RoomH k (A.deeper (envOfC qual scope s.heap.objs.size f cdv)) → sp vs H Q E0 →
      ∃ t, PSs (cxH P w K mg base N qual scope f cdv A outer s H) body t ∧ t { nx := fun _ H' => Q .non H', rt := Q } (start N vs) H) :
    FnOkH P w K mg base (k + 1) f (PySem.W.fnOf name qual params body scope dV kV doc pm an cdv ct) ps sp := by
  refine ⟨len, fun A outer s H args us vs Q hr e0 hb r hsp => ?_⟩
  have hl := len _ _ _ _ hsp
  have KX : K.In s.heap := e0.mod.kin.keeps fun b o e => (e0.bs b o e).1
  have lim : s.heap.NoLimit := e0.mod.nolimit.keeps fun b o e => (e0.bs b o e).1
  have hkind : ∀ y ∈ ps.zip us, scope.names.lookup y.1 = some .local ∨ (scope.names.lookup y.1 = some .cell ∧ ((cellsFrom (s.heap.objs.size + 1) scope.names []).lookup y.1).isSome = true) := fun ⟨n, v⟩ hy => by
    rcases S.par n (List.of_mem_zip hy).1 with q | q
    · exact .inl q
    · exact .inr ⟨q, PySem.W.cellsFrom_some _ _ _ (.inl q)⟩
  refine codeAny_call_function (by have := hr.dp; omega) (KX _ _ lk) rfl S.co S.gen rfl (PySem.W.codeRec_of KX hcd) (hb _ _ _ _ ?_)
  refine wpAny_newFunctionEnv_cells S.kind hkind fun env he s1 x => ?_
  subst he
  refine ⟨lim.keeps x.toInCall.keep, codeAny_func ?_⟩
  obtain ⟨t, ht, hq⟩ := hbody A outer s H vs Q (hr.deeper _) hsp
  have I0 : Inv (cxOf CX0 P w K mg base N qual scope f cdv { A with handled := none } outer s H E0) [] (start N vs) H s1 :=
    inv_start (A := { A with handled := none }) S rfl ⟨e0.frames, e0.mod, e0.bs, e0.bsz, e0.funs, e0.frf, e0.hok, e0.bare⟩ hl r x
  have I : Inv (cxH P w K mg base N qual scope f cdv A outer s H) [] (start N vs) H s1 :=
    ⟨⟨I0.ok.mod, I0.ok.kind, I0.ok.glob, I0.ok.blt, I0.ok.above, I0.ok.inj, I0.ok.has, I0.ok.cab, fun z => (nomatch z), Around.frames_deeper e0.frames, I0.ok.stk, I0.ok.exf, I0.ok.bs, I0.ok.bsz, I0.ok.noex, I0.ok.exfs, I0.ok.funs, I0.ok.frf⟩,
      I0.os, I0.bare, I0.base, I0.loc, I0.cell, I0.free, I0.freeC, I0.pin, I0.hok, I0.len⟩
  refine wpAny_mono (ht [] s1 (start N vs) H _ I hq) (fun fl s' hs => ?_) fun _ _ z => z.elim
  have fin : ∀ {σ' : St} {H' : Hp} {v : V} {u : Value}, Inv (cxH P w K mg base N qual scope f cdv A outer s H) [] σ' H' s' → RelV v u → Q v H' → CE outer P w H s Q u s' :=
    fun {σ' H' v u} J rv q => ⟨v, H', J.os, J.bare, J.base, J.hok, rv, q⟩
  cases fl with
  | ret u =>
    obtain ⟨v, σ', H', J, rv, q⟩ := hs
    exact fin J rv q
  | next =>
    obtain ⟨σ', H', J, q⟩ := hs
    exact fin (v := V.non) (u := Value.none) J rfl q
  | brk =>
    obtain ⟨_, _, _, q⟩ := hs
    exact False.elim q
  | cont =>
    obtain ⟨_, _, _, q⟩ := hs
    exact False.elim q
theorem Fun.okH {x qual : Str} {st : Stmt} {f : Addr} {fd : FuncData} {N ps : List Str} {k : Nat} {sp : Sp} (F : Fun K x qual st f fd) (S : FnScope N ps (defScope st)) (len : ∀ vs H Q E, sp vs H Q E → vs.length = ps.length)
    (hbody : ∀ (cdv : Value) (A : Around) (outer : List Env) (s : Shared) (H : Hp) (vs : List V) (Q : VK), RoomH k (A.deeper (envOfC qual (defScope st) s.heap.objs.size f cdv)) → sp vs H Q E0 →
      ∃ t, PSs (cxH P w K mg base N qual (defScope st) f cdv A outer s H) (defBody st) t ∧ t { nx := fun _ H' => Q .non H', rt := Q } (start N vs) H) : FnOkH P w K mg base (k + 1) f fd ps sp := by
  obtain ⟨oc, od, kV, doc, pm, an, cdv, ct, osl, rfl, lk, hcd⟩ := F.ex
  exact fn_ofH lk hcd S len fun A outer s H vs Q hr hsp => hbody cdv A outer s H vs Q hr hsp
theorem Fun.okX {x qual : Str} {st : Stmt} {f : Addr} {fd : FuncData} {N ps : List Str} {k : Nat} {sp : Sp} (F : Fun K x qual st f fd) (S : FnScope N ps (defScope st)) (len : ∀ vs H Q E, sp vs H Q E → vs.length = ps.length)
    (hbody : ∀ (cdv : Value) (A : Around) (outer : List Env) (s : Shared) (H : Hp) (vs : List V) (Q : VK) (E : XK), Room k (A.deeper (envOfC qual (defScope st) s.heap.objs.size f cdv)) → sp vs H Q E →
      ∃ t, PSs (cxOf (CX1 P w) P w K mg base N qual (defScope st) f cdv A outer s H E) (defBody st) t ∧ t { nx := fun _ H' => Q .non H', rt := Q } (start N vs) H) : FnOk P w K mg base (CX1 P w) (k + 1) f fd ps sp := by
  obtain ⟨oc, od, kV, doc, pm, an, cdv, ct, osl, rfl, lk, hcd⟩ := F.ex
  exact fn_of lk hcd S len fun A outer s H vs Q E hr hsp => hbody cdv A outer s H vs Q E hr hsp
theorem Fun.okN {x qual : Str} {st : Stmt} {f : Addr} {fd : FuncData} {N ps : List Str} {k : Nat} {sp : Sp} (F : Fun K x qual st f fd) (S : FnScope N ps (defScope st)) (len : ∀ vs H Q E, sp vs H Q E → vs.length = ps.length)
    (hbody : ∀ (cdv : Value) (A : Around) (outer : List Env) (s : Shared) (H : Hp) (vs : List V) (Q : VK) (E : XK), Room k (A.deeper (envOfC qual (defScope st) s.heap.objs.size f cdv)) → sp vs H Q E →
      ∃ t, PSs (cxOf (CX1 P w) P w K mg base N qual (defScope st) f cdv A outer s H E).nox (defBody st) t ∧ t { nx := fun _ H' => Q .non H', rt := Q } (start N vs) H) : FnOk P w K mg base (CX1 P w) (k + 1) f fd ps sp :=
  F.okX S len fun cdv A outer s H vs Q E hr hsp => by
    obtain ⟨t, h, q⟩ := hbody cdv A outer s H vs Q E hr hsp
    exact ⟨t, h.nox, q⟩
end
section
variable {X : Cx}
theorem pe_fnH {k : Nat} {f : Addr} {fd : FuncData} {ps : List Str} {sp : Sp} {x : Str} {st : Stmt} {p pos : Pos} {e : Expr} {es : List Expr} {t : TA} (D : DefOk X.K X.mg x st ps f fd) (F : FnOkH X.prog X.w X.K X.mg X.base k f fd ps sp) (hr : RoomH k X.A)
    (ha : PA X (e :: es) t) (hg : Gl X x := by rfl) (hdb : (x == ("__debug__" : Str)) = false := by decide) (he : starEach (e :: es) X.env = (false, eval e X.env) :: starEach es X.env := by rfl) (hpl : (backTo pos (starEach es X.env)).any (·.1) = false := by rfl) :
    PE X (.Call (.Name x p) (e :: es) [] pos) (tCall sp [] E0 t) := by
  intro pins s σ H Q I h
  refine wpAny_Call_Name_kw (ld_glob I hg D.g ?_ hdb)
  refine PySem.W.callWith_K (h₀ := X.base) I.ok.mod.kin D.fn.kp (thn (ha pos pins s σ H _ I h) fun us s1 ⟨vs, H1, I1, r, q⟩ => ⟨I1.kIn, ?_⟩) he hpl
  have q' : sp vs H1 Q E0 := by
    have z : sp (vs ++ []) H1 Q E0 := q
    rw [List.append_nil] at z
    exact z
  have hl : (us ++ []).length = ps.length := by rw [List.append_nil, ← r.length]; exact F.len _ _ _ _ q'
  have hb := D.b s1 us I1.kIn hl
  rw [List.append_nil] at hb
  refine wpAny_call (codeAny_mono (F.run X.A X.stack s1 H1 ⟨us, []⟩ us vs Q hr I1.env0 hb r q') fun r s' hq => ?_)
  cases r with
  | error e => exact hq.elim
  | ok fl =>
    cases fl with
    | ret u => exact I1.after hq
    | next => exact False.elim hq
    | brk => exact False.elim hq
    | cont => exact False.elim hq
theorem pe_fnx {P : Program} {w : World} {k : Nat} {f : Addr} {fd : FuncData} {ps : List Str} {sp : Sp} {E : XK} {x : Str} {st : Stmt} {p pos : Pos} {e : Expr} {es : List Expr} {t : TA} (D : DefOk X.K X.mg x st ps f fd) (F : FnOk X.prog X.w X.K X.mg X.base (CX1 P w) k f fd ps sp) (hr : Room k X.A)
    (hx : Passes (CX1 P w) X E) (ha : PA X (e :: es) t) (hg : Gl X x := by rfl) (hdb : (x == ("__debug__" : Str)) = false := by decide) (he : starEach (e :: es) X.env = (false, eval e X.env) :: starEach es X.env := by rfl) (hpl : (backTo pos (starEach es X.env)).any (·.1) = false := by rfl) :
    PE X (.Call (.Name x p) (e :: es) [] pos) (tCall sp [] E t) := pe_call F hr hg D.g D.fn.kp D.b .nil hx ha hdb he hpl
end
theorem xe_fn {X : Cx} {P : Program} {w : World} {k : Nat} {f : Addr} {fd : FuncData} {ps : List Str} {sp : Sp} {x : Str} {st : Stmt} {p pos : Pos} {e : Expr} {es : List Expr} {t : TA} (D : DefOk X.K X.mg x st ps f fd) (F : FnOk X.prog X.w X.K X.mg X.base (CX1 P w) k f fd ps sp) (hr : Room k X.A)
    (ha : ∀ xe, PA (X.wish xe) (e :: es) t) (hg : Gl X x := by rfl) (hdb : (x == ("__debug__" : Str)) = false := by decide) (he : starEach (e :: es) X.env = (false, eval e X.env) :: starEach es X.env := by rfl) (hpl : (backTo pos (starEach es X.env)).any (·.1) = false := by rfl) :
    XE (CX1 P w) X (.Call (.Name x p) (e :: es) [] pos) (fun E => tCall sp [] E t) :=
  fun xe pins σ E hx => pe_callAt (X := X.wish xe) F hr D.g D.fn.kp D.b .nil hx (ha xe) hg hdb he hpl
end L2
set_option Elab.async false
set_option linter.all false
set_option maxRecDepth 100000
namespace L2
open PySem PySem.Spec PyProof.Rows PySem.W
abbrev xRow (K : Frag) (S : Addr) (cs : List Addr) (C : Addr) :=
  ((excIn K C veB "ValueError.__new__", findIn K (.ref C) "__getattribute__", findIn K (.ref C) "__getattr__", findIn K (.ref C) "__class__"),
   ((clsIn K C).isSome, specialIn K (.builtin "object.__class__") "__get__", takesIn K (.builtin "object.__class__"), mroIn K C (.type "object")),
   (mroIn K C (.type "BaseException"), exmOne K (.ref C) (.ref S), kitOne K (.ref C) (.type "ValueError"), cs.map fun D => kitOne K (.ref C) (.ref D)))
abbrev xRow0 (cs : List Addr) (C : Addr) : (Bool × Option (Option Value) × Option (Option Value) × Option (Option Value)) × (Bool × Option (Option Value) × Option Bool × Option Bool) × (Option Bool × Option Bool × Option Bool × List (Option Bool)) :=
  ((true, some (some (.builtin "BaseException.__getattribute__")), some none, some (some (.builtin "object.__class__"))),
   (true, some (some (.builtin "getset_descriptor.__get__")), some true, some true),
   (some true, some true, some true, cs.map fun D => some (decide ((C : Nat) = D))))
structure XSet (K : Frag) (S : Addr) (cs : List Addr) : Prop where
  rows : cs.map (xRow K S cs) = cs.map (xRow0 cs)
  nd : decide (@List.Nodup Nat cs) = true
section
variable {K : Frag} {S : Addr} {cs : List Addr} {C D : Addr}
theorem XSet.row (T : XSet K S cs) (h : C ∈ cs) : xRow K S cs C = xRow0 cs C := (List.map_inj_left.mp T.rows) C h
theorem XSet.look (T : XSet K S cs) (h : C ∈ cs) : XLook K C := by
  have e := T.row h
  simp only [Prod.mk.injEq] at e
  exact ⟨e.1.2.1, e.1.2.2.1, e.1.2.2.2, e.2.1.1, e.2.1.2.1, e.2.1.2.2.1, e.2.1.2.2.2, e.2.2.1⟩
theorem XSet.exc (T : XSet K S cs) (h : C ∈ cs) : excIn K C veB "ValueError.__new__" = true := by
  have e := T.row h
  simp only [Prod.mk.injEq] at e
  exact e.1.1
theorem XSet.exm (T : XSet K S cs) (h : C ∈ cs) : exmOne K (.ref C) (.ref S) = some true := by
  have e := T.row h
  simp only [Prod.mk.injEq] at e
  exact e.2.2.2.1
theorem XSet.val (T : XSet K S cs) (h : C ∈ cs) : kitOne K (.ref C) (.type "ValueError") = some true := by
  have e := T.row h
  simp only [Prod.mk.injEq] at e
  exact e.2.2.2.2.1
theorem XSet.two (T : XSet K S cs) (h : C ∈ cs) (h' : D ∈ cs) : kitOne K (.ref C) (.ref D) = some (decide ((C : Nat) = D)) := by
  have e := T.row h
  simp only [Prod.mk.injEq] at e
  exact (List.map_inj_left.mp e.2.2.2.2.2) D h'
theorem XSet.ne (T : XSet K S cs) {i j : Nat} (h : cs[i]? = some C) (h' : cs[j]? = some D) (hij : i ≠ j) : ¬ (C : Nat) = D := fun e => by
  have nd := of_decide_eq_true T.nd
  obtain ⟨hi, e1⟩ := List.getElem?_eq_some_iff.mp h
  obtain ⟨hj, e2⟩ := List.getElem?_eq_some_iff.mp h'
  exact hij ((List.getElem_inj nd).mp (show @getElem (List Nat) Nat Nat _ _ cs i hi = cs[j] from e1.trans (e.trans e2.symm)))
theorem XSet.cls {mg : Str → Option Value} {x : Str} (T : XSet K S cs) (h : C ∈ cs) (g : mg x = some (.ref C)) : XCls K mg x C := ⟨g, T.exc h⟩
end
section
variable {X : Cx} {S : Addr} {cs : List Addr}
def rIsX (cs : List Addr) : List V → Hp → VK → Prop := fun xs H Q => ∃ (a : Addr) (d : V), xs = [.ref a, d] ∧ ∃ C : Addr, H a = some (hoExc a C) ∧ C ∈ cs ∧ ∃ D : Addr, d = .ref D ∧ D ∈ cs ∧ Q (.bl (decide ((C : Nat) = D))) H
def rIsV (cs : List Addr) : List V → Hp → VK → Prop := fun xs H Q => ∃ (a : Addr) (d : V), xs = [.ref a, d] ∧ d = .ty "ValueError" ∧ ∃ C : Addr, H a = some (hoExc a C) ∧ C ∈ cs ∧ Q (.bl true) H
theorem call_isXs (T : XSet X.K S cs) : CallR X (.builtin "isinstance") (rIsX cs) := by
  intro pins s σ H xs us Q I r h
  obtain ⟨a, d, rfl, C, ha, hC, D, rfl, hD, q⟩ := h
  exact call_isX pins s σ H _ us Q I r ⟨a, C, _, _, rfl, ha, T.look hC, .inl ⟨D, rfl, T.two hC hD⟩, q⟩
theorem call_isVs (T : XSet X.K S cs) : CallR X (.builtin "isinstance") (rIsV cs) := by
  intro pins s σ H xs us Q I r h
  obtain ⟨a, d, rfl, rfl, C, ha, hC, q⟩ := h
  exact call_isX pins s σ H _ us Q I r ⟨a, C, _, _, rfl, ha, T.look hC, .inr ⟨"ValueError", rfl, T.val hC⟩, q⟩
theorem pe_cls {x : Str} {C : Addr} {pos : Pos} (hm : X.mg x = some (.ref C)) (hg : Gl X x := by rfl) (hd : (x == ("__debug__" : Str)) = false := by decide) : PE X (.Name x pos) (tC (.ref C)) := pe_glob hg hm rfl hd
theorem ps_tryS {x n : Str} {i : Nat} {body : List Stmt} {b₀ : Stmt} {suite : List Stmt} {np hpos pos : Pos} {tb : TSX} {th : TS} (T : XSet X.K S cs) (hg0 : X.mg x = some (.ref S)) (hN : X.N.Nodup) (hi : X.N[i]? = some n)
    (hl : X.env.scope.names.lookup n = some .local) (hst : X.stack = X.env :: X.outer) (hf : X.env.frame = some X.env.locals) (hb : PSX (CX1 X.prog X.w) X body tb) (hh : ∀ a, PSs (X.hdl a) (b₀ :: suite) th)
    (hg : Gl X x := by rfl) (hd : (x == ("__debug__" : Str)) = false := by decide) : PS X (.Try body [.ExceptHandler (some (.Name x np)) (some n) (b₀ :: suite) hpos] [] [] pos) (tTry (· ∈ cs) i tb th) :=
  ps_try (fun _ h => T.exm h) hg0 hN hi hl hst hf hb hh hg hd
end
section
variable {X : Cx} {CX : CXT} {e : Expr} {es : List Expr} {t : TE}
theorem xe_of (h : ∀ xe, PE (X.wish xe) e t) : XE CX X e (fun _ => t) := fun xe pins σ E _ => (h xe).at'
def XA (CX : CXT) (X : Cx) (es : List Expr) (ta : XK → TA) : Prop := ∀ (xe : Value → Shared → Prop) (pins : List (Addr × Obj)) (σ : St) (E : XK), PassesAt CX (X.wish xe) pins σ E →
  ∀ (pos : Pos) (s : Shared) (H : Hp) (Q : List V → Hp → Prop), Inv (X.wish xe) pins σ H s → ta E σ H Q → wpAny (model X.prog X.w) X.A (spliced (backTo pos (starEach es X.env))) (AP (X.wish xe) pins σ Q) xe s
theorem xa_nil : XA CX X [] (fun _ => tNil) := fun xe pins σ E _ pos s H Q I h => pa_nil (X := X.wish xe) pos pins s σ H Q I h
theorem xa_cons {te : XK → TE} {ta : XK → TA} (he : XE CX X e te) (hr : XA CX X es ta) (hs : starEach (e :: es) X.env = (false, eval e X.env) :: starEach es X.env := by rfl) : XA CX X (e :: es) (fun E => tCons (te E) (ta E)) := by
  intro xe pins σ E hx pos s H Q I h
  rw [hs]
  show wpAny _ _ (spliced ((false, eval e X.env) :: backTo pos (starEach es X.env))) _ _ s
  refine Calls.spliced_cons (thn (he xe pins σ E hx s H _ I h) fun u s1 ⟨x, H1, I1, r1, q1⟩ => ?_)
  exact thn (hr xe pins σ E hx pos s1 H1 _ I1 q1) fun us s2 ⟨xs, H2, I2, r2, q2⟩ => ⟨x :: xs, H2, I2, .cons r1 r2, q2⟩
theorem xe_tup {ta : XK → TA} {x1} {pos : Pos} (h : XA CX X es ta) : XE CX X (.Tuple es x1 pos) (fun E => tTup (ta E)) := by
  intro xe pins σ E hx s H Q I hq
  refine wpAny_Tuple_spliced (thn (h xe pins σ E hx pos s H _ I hq) fun us s1 ⟨xs, H1, I1, r, z, q⟩ => ⟨by rw [← r.length]; exact z, ?_⟩)
  have hf : H1 s1.heap.objs.size = none := I1.hok.fresh (Nat.le_refl _)
  refine ⟨.ref s1.heap.objs.size, upd H1 s1.heap.objs.size (.tup xs), I1.laid (t' := s1.toks) (fun b u e => Heap.get?_push_of_some _ e) (Nat.le_refl _) ?_, rfl, q _ hf⟩
  exact ⟨z, us, r, ⟨_, Heap.get?_push_size _ rfl, rfl, _, rfl⟩⟩
end
structure MethOk (K : PySem.W.Frag) (C : Addr) (m qual : Str) (st : Stmt) (ps : List Str) (f : Addr) (fd : FuncData) : Prop where
  at_ : Meth K C m f
  fn : Fun K m qual st f fd
  b : Binds K fd ps []
section
variable {X : Cx} {P : Program} {w : World} {k : Nat} {f C : Addr} {fd : FuncData} {ps : List Str} {sp : Sp} {E : XK} {m qual : Str} {st : Stmt} {apos pos : Pos} {e o : Expr} {es : List Expr} {ta : TE} {t : TA}
theorem pe_mx {pl : Sem Bool} (he : PE X o ta) (c : Cls X.K C) (D : MethOk X.K C m qual st ps f fd) (F : FnOk X.prog X.w X.K X.mg X.base (CX1 P w) k f fd ps sp) (hr : Room k X.A) (hx : Passes (CX1 P w) X E) (ha : PA X (e :: es) t)
    (hst : starEach (e :: es) X.env = (false, eval e X.env) :: starEach es X.env := by rfl) (hpl : (backTo pos (starEach es X.env)).any (·.1) = false := by rfl)
    (ht : eval (.Call (.Attribute o m apos) (e :: es) [] pos) X.env = (do
      let ov ← eval o X.env
      standAt apos.atName
      let (f, first) ← holding [ov] (getMethod ov m pl)
      callWith pos f first (backTo pos (starEach (e :: es) X.env)) (backToKw pos (keywordEach [] X.env))) := by rfl) :
    PE X (.Call (.Attribute o m apos) (e :: es) [] pos) (tMeth C m sp [] E ta t) := pe_meth he c D.at_ F hr D.b .nil hx ha hst hpl ht
theorem pe_mx0 {pl : Sem Bool} (he : PE X o ta) (c : Cls X.K C) (D : MethOk X.K C m qual st ps f fd) (F : FnOk X.prog X.w X.K X.mg X.base (CX1 P w) k f fd ps sp) (hr : Room k X.A) (hx : Passes (CX1 P w) X E)
    (ht : eval (.Call (.Attribute o m apos) [] [] pos) X.env = (do
      let ov ← eval o X.env
      standAt apos.atName
      let (f, first) ← holding [ov] (getMethod ov m pl)
      callWith pos f first (backTo pos (starEach [] X.env)) (backToKw pos (keywordEach [] X.env))) := by rfl) :
    PE X (.Call (.Attribute o m apos) [] [] pos) (tMeth C m sp [] E ta tNil) := pe_meth0 he c D.at_ F hr D.b .nil hx ht
end
end L2
set_option Elab.async false
set_option linter.all false
set_option maxRecDepth 100000
namespace L2
open PySem PySem.Spec PyProof.Rows
theorem boot_VE : bootBuiltins "ValueError" = some (.type "ValueError") := by first | rfl | decide +kernel
end L2
set_option Elab.async false
set_option linter.all false
set_option maxRecDepth 100000
namespace L2
open PySem PySem.Spec PyProof.Rows
theorem atI_in {α : Type} {xs : List α} {i : Int} (h0 : 0 ≤ i) (h1 : i < xs.length) : ∃ v, atI xs i = some v ∧ xs[i.toNat]? = some v := by
  obtain ⟨j, rfl⟩ := Int.eq_ofNat_of_zero_le h0
  have hj : j < xs.length := by omega
  exact ⟨xs[j], atI_nat (by simp [hj]), by simp [hj]⟩
theorem rd_sign {H : Hp} {l : List Nat} {i : Int} {Q : VK} (hz : l.length ≤ sizeLine) (h0 : 0 ≤ i) (h1 : i < l.length) (k : ∀ c, l[i.toNat]? = some c → Q (.str (tx [c])) H) : rIxS (.str (tx l)) (.int i) H Q := by
  obtain ⟨v, e, e2⟩ := atI_in h0 h1
  exact ⟨_, i, v, rfl, rfl, by rw [tx_len]; exact hz, by rw [tx_list]; exact e, k v e2⟩
theorem sz_of {n : Nat} (h : n ≤ 100000) : n ≤ sizeLine := Nat.le_trans h (by rw [sizeLine_eq]; decide)
end L2
set_option Elab.async false
set_option linter.all false
set_option maxRecDepth 100000
namespace L2
open PySem PySem.Spec PyProof.Rows PySem.P
theorem mul_one (c : Nat) {n : Int} (h : 0 ≤ n) : Txt.mul (tx [c]) n = tx (List.replicate n.toNat c) := by
  obtain ⟨k, rfl⟩ := Int.eq_ofNat_of_zero_le h
  have fo : ∀ (k : Nat) (acc : List Nat), (List.replicate k (tx [c]).cps).foldl (· ++ ·) acc.toArray = (acc ++ List.replicate k c).toArray := by
    intro k
    induction k with
    | zero => intro acc; simp
    | succ k ih =>
      intro acc
      rw [List.replicate_succ, List.foldl_cons]
      have e : acc.toArray ++ (tx [c]).cps = (acc ++ [c]).toArray := by simp [tx]
      rw [e, ih, List.append_assoc]
      rfl
  unfold Txt.mul
  by_cases h1 : ((k : Nat) : Int) < 1
  · rw [if_pos h1]
    have : k = 0 := by omega
    subst this
    rfl
  · rw [if_neg h1]
    by_cases h2 : k = 1
    · subst h2
      rfl
    · have e : ((((k : Nat) : Int) == 1) || (tx [c]).length == 0) = false := by
        have a : (((k : Nat) : Int) == 1) = false := by
          rw [beq_eq_false_iff_ne]
          omega
        rw [a]
        rfl
      first
        | rw [e, if_neg (by simp)]
        | skip
      have f := fo k []
      simp only [List.nil_append] at f
      simp [f]
      try omega
theorem mul_ok {c : Nat} {n : Int} (h0 : 0 ≤ n) (h1 : n ≤ 1000) : MulOk (tx [c]) n := by
  refine ⟨by simp; omega, fun a b => ?_, fun a b => ?_⟩
  · rw [tx_len]
    simp only [List.length_cons, List.length_nil]
    have : (1 : Int) ≤ (2 ^ 63 - 1) / n := by
      rw [Int.le_ediv_iff_mul_le (by omega)]
      omega
    omega
  · rw [tx_len]
    have : [c].length * n.toNat ≤ 1000 := by simp only [List.length_cons, List.length_nil]; omega
    have s : (1000 : Nat) ≤ sizeLine := sz_of (by decide)
    show decide (_ > sizeLine) = false
    exact decide_eq_false (by omega)
section
variable {X : Cx}
def rMulS : R2 := fun x y H Q => ∃ (c : Nat) (n : Int), x = .str (tx [c]) ∧ y = .int n ∧ 0 ≤ n ∧ n ≤ 1000 ∧ Q (.str (tx (List.replicate n.toNat c))) H
theorem op_mul_str : OpR X (binaryOp .Mult) rMulS := by
  intro pins s σ H x y v u Q I rx ry h
  obtain ⟨c, n, rfl, rfl, h0, h1, q⟩ := h
  obtain ⟨t, rfl⟩ := rx
  obtain ⟨t', rfl⟩ := ry
  refine SB.mul (mul_ok h0 h1) fun t' k => ⟨.str (tx (List.replicate n.toNat c)), H, I.tok _, ⟨t', ?_⟩, q⟩
  rw [mul_one c h0]
theorem countP_eqU {x : V} : ∀ {xs : List V} {us : List Value}, Vals xs us → xs.all flatV = true → us.countP (eqU x) = xs.countP fun y => eqV y x
  | _, _, .nil, _ => rfl
  | y :: xs, u :: us, .cons r t, f => by
    rw [List.all_cons, Bool.and_eq_true] at f
    rw [List.countP_cons, List.countP_cons, countP_eqU t f.2, eqU_of r f.1]
def rCount : V → List V → Hp → VK → Prop := fun x vs H Q => ∃ l xs y, x = .ref l ∧ vs = [y] ∧ H l = some (.lst xs) ∧ flatV y = true ∧ xs.all flatV = true ∧ Q (.int ((xs.countP fun z => eqV z y : Nat) : Int)) H
theorem mt_count : MtM X "list.count" rCount := by
  intro pins s σ H x vs v us Q I rx rv h
  obtain ⟨l, xs, y, rfl, rfl, hH, fy, fx, q⟩ := h
  cases rx
  obtain ⟨u, rfl, ru⟩ := rv.one
  obtain ⟨z, its, n, r, hl, e⟩ := I.lstM hH
  refine call_meets F.slot_list_count ⟨_, e, rfl⟩ F.entry_list_count (F.args_list_count_2 _ _) (SeqAt.list_countAt l its.toArray n none #[] u (eqU y)) ⟨e, fun w hw => mem_eqAt ru fy r fx w (by simpa using hw), ?_⟩
  refine ⟨.int _, H, I.tok _, ⟨_, rfl⟩, ?_⟩
  rw [show its.toArray.toList = its by simp, countP_eqU r fx]
  exact q
theorem get_eqU {x : V} : ∀ {xs : List V} {us : List Value} {m : Nat} (hm : m < us.length), Vals xs us → xs.all flatV = true → ∃ y, xs[m]? = some y ∧ eqU x us[m] = eqV y x
  | [], [], _, hm, _, _ => absurd hm (Nat.not_lt_zero _)
  | y :: xs, u :: us, 0, hm, .cons r t, f => by
    rw [List.all_cons, Bool.and_eq_true] at f
    exact ⟨y, rfl, eqU_of r f.1⟩
  | y :: xs, u :: us, m + 1, hm, .cons r t, f => by
    rw [List.all_cons, Bool.and_eq_true] at f
    exact get_eqU (xs := xs) (us := us) (m := m) (Nat.lt_of_succ_lt_succ hm) t f.2
def rIndex : V → List V → Hp → VK → Prop := fun x vs H Q => ∃ (l : Addr) (xs : List V) (y : V) (j : Nat) (z : V), x = .ref l ∧ vs = [y] ∧ H l = some (.lst xs) ∧ flatV y = true ∧ xs.all flatV = true ∧ xs[j]? = some z ∧ eqV z y = true ∧ (∀ (m : Nat) (z' : V), m < j → xs[m]? = some z' → eqV z' y = false) ∧ Q (.int (j : Int)) H
theorem mt_index : MtM X "list.index" rIndex := by
  intro pins s σ H x vs v us Q I rx rv h
  obtain ⟨l, xs, y, j, z', rfl, rfl, hH, fy, fx, hj, hit, hno, q⟩ := h
  cases rx
  obtain ⟨u, rfl, ru⟩ := rv.one
  obtain ⟨z, its, n, r, hl, e⟩ := I.lstM hH
  have hjl : j < its.length := by rw [← hl]; exact (List.getElem?_eq_some_iff.mp hj).1
  have big : (sizeLine : Int) < 2 ^ 63 - 1 := by rw [sizeLine_eq]; decide
  refine call_meets F.slot_list_index ⟨_, e, rfl⟩ F.entry_list_index (F.args_list_index_2 _ _) (SeqAt.list_indexAt l its.toArray n none #[] u (eqU y) j (by simpa using hjl) (by omega) ?_ ?_) ⟨e, fun w hw => mem_eqAt ru fy r fx w (by simpa using hw), ?_⟩
  · obtain ⟨y', e1, e2⟩ := get_eqU (x := y) hjl r fx
    rw [hj] at e1
    cases e1
    simpa using e2.trans hit
  · intro m hm hmj
    have hm' : m < its.length := by simpa using hm
    obtain ⟨y', e1, e2⟩ := get_eqU (x := y) hm' r fx
    simpa using e2.trans (hno m y' hmj e1)
  · exact ⟨.int _, H, I.tok _, ⟨_, rfl⟩, q⟩
end
end L2
set_option Elab.async false
set_option linter.all false
set_option maxRecDepth 100000
namespace L2
open PySem PySem.Spec PyProof.Rows PySem.P
def NF (X : Cx) (a : Addr) : Prop := ∀ o u, X.H₀ a ≠ some (.frz o u)
section
variable {X : Cx} {pins : List (Addr × Obj)} {σ : St} {H : Hp} {s : Shared} {a : Addr} {o o' : HO}
theorem Inv.retag (I : Inv X pins σ H s) (e : H a = some o) (h1 : ∀ xs, o ≠ .tup xs) (h2 : ∀ y, o ≠ .own y) (h3 : ∀ ps, o ≠ .tbl ps) (h4 : NF X a) (new : ObjOk X.prog X.w (upd H a o') s.heap a o') : Inv X pins σ (upd H a o') s := by
  have nn : ∀ b, H b = none → b ≠ a := fun b z w => by rw [w, e] at z; cases z
  have un : ∀ b, H b = none → upd H a o' b = none := fun b z => by rw [upd_ne (nn b z)]; exact z
  refine ⟨I.ok, I.os, I.bare, ⟨I.base.keep, I.base.slot, fun b ob q n hx => un b (I.base.free b ob q n hx), I.base.there, fun b xs q => ?_, fun b ob u q => ?_, fun b ps q => ?_⟩, I.loc, I.cell, un _ I.free, fun x c q => un _ (I.freeC x c q), fun p hp => ?_, fun b u q => ?_, I.len⟩
  · have z := I.base.tups b xs q
    rw [upd_ne (fun w => by rw [w, e] at z; exact h1 xs (Option.some.inj z))]
    exact z
  · have hb : b ≠ a := fun w => h4 ob u (by rw [← w]; exact q)
    rw [upd_ne hb]
    exact I.base.frzs b ob u q
  · obtain ⟨more, z⟩ := I.base.tbls b ps q
    exact ⟨more, by rw [upd_ne (fun w => by rw [w, e] at z; exact h3 _ (Option.some.inj z))]; exact z⟩
  · obtain ⟨p1, p2, p3⟩ := I.pin p hp
    exact ⟨p1, un _ p2, p3⟩
  · by_cases hb : b = a
    · subst hb
      rw [upd_same] at q
      cases q
      exact new
    · rw [upd_ne hb] at q
      refine (I.hok b u q).stay (fun _ _ _ z => z) (fun c z => ?_) fun c xs z => ?_
      · rw [upd_ne (fun w => by rw [w, e] at z; exact h2 b (Option.some.inj z))]
        exact z
      · rw [upd_ne (fun w => by rw [w, e] at z; exact h1 xs (Option.some.inj z))]
        exact z
theorem objok_dK {P : Program} {w : World} {H H' : Hp} {h : Heap} {kvs : List (Key × V)} (x : ObjOk P w H h a (.dK kvs)) : ObjOk P w H' h a (.dK kvs) := x
theorem Inv.freeze {kvs : List (Key × V)} (I : Inv X pins σ H s) (e : H a = some (.dK kvs)) : ∃ ob, s.heap.get? a = some ob ∧ NF X a ∧ Inv X pins σ (upd H a (.frz ob (.dK kvs))) s := by
  obtain ⟨ob, ho⟩ := objok_there (I.hok a _ e)
  have nf : NF X a := fun o u z => by
    have := I.base.frzs a o u z
    rw [e] at this
    cases this
  exact ⟨ob, ho, nf, I.retag e (fun _ z => nomatch z) (fun _ z => nomatch z) (fun _ z => nomatch z) nf ⟨ho, objok_dK (I.hok a _ e)⟩⟩
theorem Inv.thaw {ob : Obj} {kvs : List (Key × V)} (I : Inv X pins σ H s) (e : H a = some (.frz ob (.dK kvs))) (nf : NF X a) : Inv X pins σ (upd H a (.dK kvs)) s :=
  I.retag e (fun _ z => nomatch z) (fun _ z => nomatch z) (fun _ z => nomatch z) nf (objok_dK (I.hok a _ e).2)
def Thaw (X : Cx) (P : Hp → Prop) (H : Hp) : Prop := ∃ a ob kvs, NF X a ∧ H a = some (.frz ob (.dK kvs)) ∧ P (upd H a (.dK kvs))
end
theorem key_rel {P : Program} {w : World} {k : Key} {v : Value} (h : (mixKind P w).is k v = true) : RelV (kV k) v := by
  rcases keyIs_shape (show keyIs k v = true from h) with ⟨i, t, rfl, rfl⟩ | ⟨x, t, rfl, rfl⟩
  · exact ⟨t, rfl⟩
  · exact ⟨t, rfl⟩
def Itd (d : Addr) (ob : Obj) (kvs : List (Key × V)) : It :=
  ⟨fun i H => i < kvs.length ∧ H d = some (.frz ob (.dK kvs)), fun i H x H' => H' = H ∧ (kvs.map fun kv => kV kv.1)[i]? = some x, fun i H => i = kvs.length ∧ H d = some (.frz ob (.dK kvs))⟩
theorem dictAt_frz {X : Cx} {pins : List (Addr × Obj)} {σ : St} {H : Hp} {s : Shared} {d : Addr} {ob : Obj} {kvs : List (Key × V)} {es : Array DictEntry} {ep : Nat} (I : Inv X pins σ H s) (e : H d = some (.frz ob (.dK kvs))) (he : ob.data = .dict es ep) :
    (d == sysModules) = false ∧ kvs.length ≤ sizeLine ∧ ∃ vs, KV kvs vs ∧ s.heap.DictAt (mixKind X.prog X.w) d vs ep := by
  obtain ⟨ho, z, y, vs, r, o2, es2, ep2, e2, c1, c2, c3⟩ := I.hok d _ e
  rw [ho] at e2
  cases e2
  rw [he] at c2
  cases c2
  exact ⟨y, z, vs, r, ob, es, ho, c1, he, c3⟩
theorem turn_dict {P : Program} {w : World} {K : PySem.W.Frag} {y : Str} {py : Pos} (d it : Addr) (ob : Obj) (kvs : List (Key × V)) {es : Array DictEntry} {ep : Nat} (he : ob.data = .dict es ep) :
    Turn P w K (.Name y py) (Itd d ob kvs) [it] it (fun i h => h.IsKeyIter it d i kvs.length ep) where
  mem := by simp
  obj := fun i h st b hb => by
    have e : b = it := by simpa using hb
    subst e
    obtain ⟨o, e, c, d⟩ := st
    exact ⟨o, e, fun v z => by rw [d] at z; cases z⟩
  keep := fun i h h' st k => st.at fun o e => k it (by simp) o e
  item := by
    intro X hP hw hK hc i pins s σ H E I hf st hg
    subst hP hw hK
    obtain ⟨hi, hd⟩ := hg
    obtain ⟨_, _, vs, r, da⟩ := dictAt_frz I hd he
    have hl : kvs.length = vs.length := r.length
    have hiv : i < vs.length := by omega
    obtain ⟨⟨k, x⟩, hx⟩ : ∃ p, vs[i]? = some p := ⟨vs[i], by simp [hiv]⟩
    have hkey : (kvs.map fun kv => kV kv.1)[i]? = some (kV k) := by
      have e1 : (kvs.map (·.1))[i]? = some k := by
        rw [r.keys, List.getElem?_map, hx]
        rfl
      rw [List.getElem?_map] at e1 ⊢
      cases q : kvs[i]? with
      | none => rw [q] at e1; cases e1
      | some p =>
        rw [q] at e1
        have : p.1 = k := Option.some.inj e1
        rw [← this]
        rfl
    rw [hl] at st
    obtain ⟨f0, f1, f2, f3, f4, f5⟩ := hf it (by simp)
    refine wpAny_pyNext_dict_item st da hx fun key h' hk st' sb => ?_
    have I1 : Inv X pins σ H { s with heap := h' } := I.turned (t' := s.toks) (fun b o hb e => (sb.2 b hb).trans e) f0 f1 f3 f4 f5
    rw [← hl] at st'
    exact ⟨key, rfl, wpAny_pure ⟨kV k, H, I1, key_rel hk, ⟨rfl, hkey⟩, st', fun b hb => (hf b hb).1⟩⟩
  done := by
    intro X hP hw hK hc i pins s σ H E I hf st hg
    subst hP hw hK
    obtain ⟨hi, hd⟩ := hg
    obtain ⟨_, _, vs, r, da⟩ := dictAt_frz I hd he
    have hl : kvs.length = vs.length := r.length
    rw [hl] at st
    obtain ⟨f0, f1, f2, f3, f4, f5⟩ := hf it (by simp)
    exact wpAny_pyNext_dict_end (I.ok.hd hc) st da (by rw [List.getElem?_eq_none_iff]; omega) fun h' eb => ⟨rfl, I.turned (t' := s.toks) (fun b o hb e => eb b o hb e) f0 f1 f3 f4 f5⟩
  self := fun _ _ _ _ _ st h => wpAny_pyIter_keyiter st h
section
variable {X : Cx} {y : Str} {py : Pos}
def iDict (X : Cx) (te : TE) : TI := fun σ H R => te σ H fun x H1 => ∃ a kvs, x = .ref a ∧ H1 a = some (.dK kvs) ∧ ∀ ob, NF X a → R (Itd a ob kvs) (upd H1 a (.frz ob (.dK kvs)))
theorem pi_dict {e : Expr} {te : TE} (h : PE X e te) : PI X (.Name y py) e (iDict X te) := by
  intro pins s σ H R I hw
  refine thn (h pins s σ H _ I hw) fun v s1 ⟨x, H1, I1, r1, a, kvs, ex, ha, q⟩ => ?_
  subst ex
  cases (show v = Value.ref a from r1)
  obtain ⟨ob, ho, nf, I2⟩ := I1.freeze ha
  obtain ⟨_, _, _, _, o2, es, ep, e2, _, c2, _⟩ := I1.hok a _ ha
  rw [ho] at e2
  cases e2
  obtain ⟨hsm, hz, vs, r, da⟩ := dictAt_frz I2 upd_same c2
  refine wpAny_pyIter_dict hsm da ?_
  refine ⟨s1.heap.objs.size, [s1.heap.objs.size], _, Itd a ob kvs, _, rfl, I2.kept (t' := s1.toks) fun b o e => Heap.get?_push_of_some _ e, turn_dict a s1.heap.objs.size ob kvs c2, ⟨_, Heap.get?_push_size _ rfl, rfl, by rw [show kvs.length = vs.length from r.length]; rfl⟩, fun b hb => ?_, q ob nf⟩
  obtain rfl : b = s1.heap.objs.size := by simpa using hb
  exact I2.fpOk (Nat.le_refl _) (I2.hok.fresh (Nat.le_refl _))
def tCompD (X : Cx) (te : TE) (fr : List Nat) (tt : TT) (tel : TE) : TE := fun σ H Q => tComp (iDict X te) fr tt tel σ H fun v H2 => Thaw X (Q v) H2
section
variable {elt iter : Expr} {ifs : List Expr} {scope : Scope} {pos : Pos} {N : List Str} {fr : List Nat} {tt : TT} {te tel : TE}
theorem pe_compD (hc : X.calm = true) (S : CSc scope X.env.scope y N X.N fr) (hi : PE X iter te) (ht : ∀ cl C s₀ H₀ ex, PTs (X.blk scope cl C N s₀ H₀ ex) ifs tt) (he : ∀ cl C s₀ H₀ ex, PE (X.blk scope cl C N s₀ H₀ ex) elt tel)
    (hs : ∀ v, foldedSetIterable iter X.env v = pure v := by intro _; rfl) : PE X (.ListComp elt [⟨.Name y py, iter, ifs, 0⟩] scope pos) (tCompD X te fr tt tel) := fun pins s σ H Q I h =>
  thn (pe_comp hc S (pi_dict hi) ht he hs pins s σ H _ I h) fun u s' ⟨v, H2, I2, r, a, ob, kvs, nf, e, q⟩ => ⟨v, _, I2.thaw e nf, r, q⟩
end
theorem call_list_dict (hc : X.calm = true) : CallR X (.type "list") (fun xs H Q => ∃ d kvs, xs = [.ref d] ∧ Rd H d (.dK kvs) ∧ ∀ l, H l = none → Q (.ref l) (upd H l (.lst (kvs.map fun kv => kV kv.1)))) := by
  intro pins s σ H xs us Q I r h
  obtain ⟨d, kvs, rfl, hd, q⟩ := h
  obtain ⟨u, rfl, ru⟩ := r.one
  cases ru
  obtain ⟨hz, hsm, vs, rel, dd⟩ := dk_rd I.hok hd
  obtain ⟨ep, da⟩ := dd.dictAt
  have hl : kvs.length = vs.length := rel.length
  refine PySem.W.kdl_call (PySem.W.kdl_dict hsm) (I.ok.hd hc) da (by omega) fun h' tk acc' c' kp e hacc => ?_
  have hvals : Vals (kvs.map fun kv => kV kv.1) acc'.toList := by
    have hlen : acc'.toList.length = kvs.length := by rw [Array.length_toList, hacc.1, hl]
    have key : ∀ (ks : List Key) (us : List Value), ks.length = us.length → (∀ (j : Nat) (k : Key) (v : Value), ks[j]? = some k → us[j]? = some v → (mixKind X.prog X.w).is k v = true) → Vals (ks.map kV) us := by
      intro ks
      induction ks with
      | nil =>
        intro us e _
        cases us with
        | nil => exact .nil
        | cons _ _ => cases e
      | cons k ks ih =>
        intro us e h
        cases us with
        | nil => cases e
        | cons u us => exact .cons (key_rel (h 0 k u rfl rfl)) (ih us (by simpa using e) fun j k' v e1 e2 => h (j + 1) k' v e1 e2)
    have := key (kvs.map (·.1)) acc'.toList (by rw [List.length_map, hlen]) fun j k v e1 e2 => by
      obtain ⟨k', x, e3, e4⟩ := hacc.2 j v (by rw [← Array.getElem?_toList]; exact e2)
      rw [rel.keys, List.getElem?_map, e3] at e1
      cases e1
      exact e4
    rw [List.map_map] at this
    exact this
  exact ⟨.ref s.heap.objs.size, _, I.laid (t' := tk) kp (Nat.le_refl _) (show ObjOk X.prog X.w _ h' _ (.lst _) from ⟨by rw [List.length_map]; exact hz, acc'.toList, c', hvals, by simpa using e⟩), rfl, q _ (I.hok.fresh (Nat.le_refl _))⟩
theorem call_dict_dict : CallR X (.type "dict") (fun xs H Q => ∃ d kvs, xs = [.ref d] ∧ Rd H d (.dK kvs) ∧ ∀ l, H l = none → Q (.ref l) (upd H l (.dK kvs))) := by
  intro pins s σ H xs us Q I r h
  obtain ⟨d, kvs, rfl, hd, q⟩ := h
  obtain ⟨u, rfl, ru⟩ := r.one
  cases ru
  exact d_copyOf I hd fun p s' hp I' => ⟨.ref p, _, I', rfl, q p hp⟩
end
theorem comp_dict {X : Cx} {H : Hp} {fr : List Nat} {σ : St} {te : TE} {tt : TT} {tel : TE} {Q : VK} {d : Addr} {kvs : List (Key × V)} (hte : ∀ R : VK, R (.ref d) H → te σ H R) (hd : H d = some (.dK kvs)) (hz : kvs.length ≤ sizeLine) (p : Key → Bool) (f : Key → V)
    (ht : ∀ k H2 Q2, k ∈ kvs.map (·.1) → (∀ b u, b ≠ d → H b = some u → H2 b = some u) → Rd H2 d (.dK kvs) → (∀ H3, Same H2 H3 → Q2 (p k) H3) → tt (stB1 (kV k) fr σ) H2 Q2)
    (he : ∀ k H2 Q2, k ∈ kvs.map (·.1) → p k = true → (∀ b u, b ≠ d → H b = some u → H2 b = some u) → Rd H2 d (.dK kvs) → (∀ H3, Same H2 H3 → Q2 (f k) H3) → tel (stB1 (kV k) fr σ) H2 Q2)
    (hQ : ∀ D H2, H D = none → Same H H2 → H2 D = some (.lst (((kvs.map (·.1)).filter p).map f)) → Q (.ref D) H2) : tCompD X te fr tt tel σ H Q := by
  refine hte _ ⟨d, kvs, rfl, hd, fun ob nf => ?_⟩
  have T : Tells (Itd d ob kvs) (upd H d (.frz ob (.dK kvs))) ((kvs.map (·.1)).map kV) := by
    have hl : ((kvs.map (·.1)).map kV).length = kvs.length := by simp
    refine ⟨fun i H2 hi s2 => ⟨by rw [← hl]; exact hi, s2 _ _ upd_same⟩, fun H2 s2 => ⟨hl, s2 _ _ upd_same⟩, fun i H2 x H3 s2 hi y => ⟨y.1, ?_⟩⟩
    have e := y.2
    rw [List.map_map]
    exact e
  have off : ∀ H2, Same (upd H d (.frz ob (.dK kvs))) H2 → (∀ b u, b ≠ d → H b = some u → H2 b = some u) ∧ Rd H2 d (.dK kvs) := fun H2 s2 =>
    ⟨fun b u hb e => s2 b u (by rw [upd_ne hb]; exact e), .inr ⟨ob, s2 _ _ upd_same⟩⟩
  refine comp_by T p f (by rw [List.length_map]; exact hz) (fun k H2 Q2 hk s2 h => ht k H2 Q2 hk (off H2 s2).1 (off H2 s2).2 h) (fun k H2 Q2 hk hp s2 h => he k H2 Q2 hk hp (off H2 s2).1 (off H2 s2).2 h) fun D H2 hD s2 d2 => ?_
  have hDd : D ≠ d := fun z => by
    rw [z, upd_same] at hD
    cases hD
  rw [upd_ne hDd] at hD
  refine ⟨d, ob, kvs, nf, s2 _ _ upd_same, hQ D _ hD (fun b u e => ?_) (by rw [upd_ne hDd]; exact d2)⟩
  by_cases hb : b = d
  · subst hb
    rw [hd] at e
    cases e
    exact upd_same
  · rw [upd_ne hb]
    exact (off H2 s2).1 b u hb e
end L2
set_option Elab.async false
set_option linter.all false
set_option maxRecDepth 100000
namespace L2
open PySem PySem.Spec PyProof.Rows PySem.P
mutual
inductive DatV (K : PySem.W.Frag) (H : Hp) : V → PyData → Prop
  | non : DatV K H .non .none
  | bl (b : Bool) : DatV K H (.bl b) (.bool b)
  | int (i : Int) : DatV K H (.int i) (.int i)
  | str (x : Str) : DatV K H (.str x) (.str x)
  | lst {a : Addr} {xs : List V} {ds : List PyData} : SqL K H a xs → DatVs K H xs ds → DatV K H (.ref a) (.list ds)
  | tup {a : Addr} {xs : List V} {ds : List PyData} : SqT K H a xs → DatVs K H xs ds → DatV K H (.ref a) (.tuple ds)
inductive DatVs (K : PySem.W.Frag) (H : Hp) : List V → List PyData → Prop
  | nil : DatVs K H [] []
  | cons {x : V} {xs : List V} {d : PyData} {ds : List PyData} : DatV K H x d → DatVs K H xs ds → DatVs K H (x :: xs) (d :: ds)
end
section
variable {X : Cx} {pins : List (Addr × Obj)} {σ : St} {H : Hp} {s : Shared}
mutual
theorem DatV.reads (I : Inv X pins σ H s) : ∀ {v : V} {d : PyData} {u : Value}, DatV X.K H v d → RelV v u → ∃ as, Reads s.heap u d as
  | _, _, _, .non, r => by cases r; exact ⟨_, .none⟩
  | _, _, _, .bl b, r => by cases r; exact ⟨_, .bool b⟩
  | _, _, _, .int i, r => by obtain ⟨t, rfl⟩ := r; exact ⟨_, .int i t⟩
  | _, _, _, .str x, r => by obtain ⟨t, rfl⟩ := r; exact ⟨_, .str x t⟩
  | _, _, _, .lst hq hs, r => by
    cases r
    obtain ⟨its, rv, pl, _⟩ := I.list hq
    obtain ⟨as, ra⟩ := DatVs.reads I hs rv
    obtain ⟨o, ho, hc, n, hd⟩ := pl.isList
    exact ⟨_, .list ho hc hd (by simpa using ra)⟩
  | _, _, _, .tup hq hs, r => by
    cases r
    obtain ⟨its, rv, pl, _⟩ := I.tuple hq
    obtain ⟨as, ra⟩ := DatVs.reads I hs rv
    obtain ⟨o, ho, hc, n, hd⟩ := pl
    exact ⟨_, .tuple ho hc hd (by simpa using ra)⟩
theorem DatVs.reads (I : Inv X pins σ H s) : ∀ {vs : List V} {ds : List PyData} {us : List Value}, DatVs X.K H vs ds → Vals vs us → ∃ as, ReadsAll s.heap us ds as
  | _, _, _, .nil, r => by cases r; exact ⟨_, .nil⟩
  | _, _, _, .cons h hs, r => by
    cases r with
    | cons r1 r2 =>
      obtain ⟨as, a1⟩ := DatV.reads I h r1
      obtain ⟨bs, b1⟩ := DatVs.reads I hs r2
      exact ⟨_, .cons a1 b1⟩
end
end
mutual
theorem eqv_refl : ∀ d : PyData, d.canLay0 = true → PyData.eqv d d = true
  | .none, _ => by simp [PyData.eqv]
  | .bool b, _ => by simp [PyData.eqv]
  | .int i, _ => by simp [PyData.eqv]
  | .str x, _ => by simp [PyData.eqv]
  | .list xs, h => by
    rw [PyData.eqv]
    exact eqvAll_refl xs (by simpa [PyData.canLay0] using h)
  | .tuple xs, h => by
    rw [PyData.eqv]
    exact eqvAll_refl xs (by simpa [PyData.canLay0] using h)
  | .dict _, h => by simp [PyData.canLay0] at h
theorem eqvAll_refl : ∀ ds : List PyData, PyData.canLayAll0 ds = true → PyData.eqvAll ds ds = true
  | [], _ => by simp [PyData.eqvAll]
  | d :: ds, h => by
    rw [PyData.canLayAll0, Bool.and_eq_true] at h
    rw [PyData.eqvAll, eqv_refl d h.1, eqvAll_refl ds h.2]
    rfl
end
def rEqD (K : PySem.W.Frag) : R2 := fun x y H Q => ∃ d, DatV K H x d ∧ DatV K H y d ∧ SeqAt.shaped d = true ∧ Q (.bl true) H
def rNeD (K : PySem.W.Frag) : R2 := fun x y H Q => ∃ d, DatV K H x d ∧ DatV K H y d ∧ SeqAt.shaped d = true ∧ Q (.bl false) H
section
variable {X : Cx}
theorem op_eqD (hu : X.A.units + 64 < cLine) : OpR X (compareOp .Eq) (rEqD X.K) := by
  intro pins s σ H x y v u Q I rx ry h
  obtain ⟨d, h1, h2, h3, q⟩ := h
  obtain ⟨as, a1⟩ := h1.reads I rx
  obtain ⟨bs, b1⟩ := h2.reads I ry
  refine eq_dataH a1 b1 h3 h3 hu ?_
  rw [eqv_refl d (SeqAt.canLay_of_shaped h3)]
  exact ⟨.bl true, H, I, rfl, q⟩
theorem op_neD (hu : X.A.units + 64 < cLine) : OpR X (compareOp .NotEq) (rNeD X.K) := by
  intro pins s σ H x y v u Q I rx ry h
  obtain ⟨d, h1, h2, h3, q⟩ := h
  obtain ⟨as, a1⟩ := h1.reads I rx
  obtain ⟨bs, b1⟩ := h2.reads I ry
  refine ne_dataH a1 b1 h3 h3 hu ?_
  rw [eqv_refl d (SeqAt.canLay_of_shaped h3)]
  exact ⟨.bl false, H, I, rfl, q⟩
end
theorem hu64 {k : Nat} {A : Around} (r : Room k A) : A.units + 64 < cLine := r.units
theorem hu64H {k : Nat} {A : Around} (r : RoomH k A) : A.units + 64 < cLine := by have := r.un; omega
theorem datVs_strs {K : PySem.W.Frag} {H : Hp} : ∀ ns : List (List Nat), DatVs K H (ns.map fun z => V.str (tx z)) (ns.map fun z => PyData.str (tx z))
  | [] => .nil
  | _ :: r => .cons (.str _) (datVs_strs r)
theorem datVs_ints {K : PySem.W.Frag} {H : Hp} : ∀ ns : List Int, DatVs K H (ns.map V.int) (ns.map PyData.int)
  | [] => .nil
  | _ :: r => .cons (.int _) (datVs_ints r)
def okT (l : List Nat) : Prop := ∀ c ∈ l, c < 1114112
theorem strOk_tx {l : List Nat} (h : okT l) : PyData.strOk (tx l) = true := by
  unfold PyData.strOk
  simp only [tx, Array.all_eq_true, decide_eq_true_eq]
  intro i hi
  exact h _ (by simp)
theorem depth_strs : ∀ ns : List (List Nat), PyData.depthAll (ns.map fun z => PyData.str (tx z)) ≤ 1
  | [] => by simp [PyData.depthAll]
  | a :: r => by
    have := depth_strs r
    simp only [List.map_cons, PyData.depthAll, PyData.depth]
    omega
theorem shaped_strs {ns : List (List Nat)} (h : ∀ l ∈ ns, okT l) : SeqAt.shaped (.list (ns.map fun z => PyData.str (tx z))) = true := by
  unfold SeqAt.shaped
  have e : PyData.canLayAll0 (ns.map fun z => PyData.str (tx z)) = true := by
    induction ns with
    | nil => simp [PyData.canLayAll0]
    | cons a r ih =>
      rw [List.map_cons, PyData.canLayAll0, PyData.canLay0, strOk_tx (h a List.mem_cons_self), ih fun l hl => h l (List.mem_cons_of_mem _ hl)]
      rfl
  have d := depth_strs ns
  rw [Bool.and_eq_true, decide_eq_true_eq]
  refine ⟨by simpa [PyData.canLay0] using e, ?_⟩
  simp only [PyData.depth]
  omega
structure Step (H : Hp) (F : List Addr) (H' : Hp) (F' : List Addr) : Prop where
  off : ∀ b o, b ∉ F → H b = some o → H' b = some o
  own : ∀ b ∈ F', b ∈ F ∨ H b = none
  tup : ∀ b xs, H b = some (.tup xs) → H' b = some (.tup xs)
theorem Step.same {H H' : Hp} {F : List Addr} (s : Same H H') : Step H F H' F := ⟨fun b o _ e => s b o e, fun _ h => .inl h, fun b xs e => s _ _ e⟩
theorem Step.trans {H H1 H2 : Hp} {F F1 F2 : List Addr} (a : Step H F H1 F1) (b : Step H1 F1 H2 F2) : Step H F H2 F2 := by
  refine ⟨fun c o hc e => b.off c o (fun h1 => ?_) (a.off c o hc e), fun c hc => ?_, fun c xs e => b.tup c xs (a.tup c xs e)⟩
  · rcases a.own c h1 with z | z
    · exact hc z
    · rw [e] at z
      cases z
  · rcases b.own c hc with h1 | h1
    · exact a.own c h1
    · by_cases hF : c ∈ F
      · exact .inl hF
      · refine .inr ?_
        cases q : H c with
        | none => rfl
        | some o =>
          rw [a.off c o hF q] at h1
          cases h1
end L2
set_option Elab.async false
set_option linter.all false
set_option maxRecDepth 100000
namespace L2
open PySem
abbrev Nm := List Nat
def abc : List Nat := [97, 98, 99, 100, 101, 102, 103, 104, 105, 106, 107, 108, 109, 110, 111, 112, 113, 114, 115, 116, 117, 118, 119, 120, 121, 122]
theorem mem_abc {c : Nat} : c ∈ abc ↔ 97 ≤ c ∧ c ≤ 122 := by
  unfold abc
  simp only [List.mem_cons, List.not_mem_nil, or_false]
  omega
def goodC (l : Nm) : Bool := decide (1 ≤ l.length ∧ l.length ≤ 12) && l.all fun c => decide (c ∈ abc)
theorem good_ok {l : Nm} (h : goodC l = true) : okT l ∧ l.length ≤ 12 := by
  unfold goodC at h
  simp only [Bool.and_eq_true, decide_eq_true_eq, List.all_eq_true] at h
  refine ⟨fun c hc => ?_, h.1.2⟩
  have := mem_abc.mp (h.2 c hc)
  omega
inductive Rf where
  | noName | noNumber | noThing | noKey | noTie | twice | stillTied | full
  deriving DecidableEq
def Rf.ix : Rf → Nat
  | .noName => 0 | .noNumber => 1 | .noThing => 2 | .noKey => 3 | .noTie => 4 | .twice => 5 | .stillTied => 6 | .full => 7
structure Tie where
  start : Nm
  name : Nm
  stop : Nm
  weight : Int
  deriving DecidableEq
structure WA where
  things : List (Nm × List (Nm × Int))
  ties : List (Int × Tie)
  next : Int
def WA.names (A : WA) : List Nm := A.things.map (·.1)
def WA.addThing (A : WA) (l : Nm) : Except Rf WA :=
  if goodC l = false then .error .noName else if l ∈ A.names then .error .twice else if 100 ≤ A.things.length then .error .full else .ok { A with things := A.things ++ [(l, [])] }
def WA.at_ (A : WA) (f : Tie → Nm) (l : Nm) : List Int := (A.ties.filter fun x => decide (f x.2 = l)).map (·.1)
def WA.dropThing (A : WA) (l : Nm) : Except Rf WA :=
  if l ∉ A.names then .error .noThing else if A.at_ Tie.start l ≠ [] ∨ A.at_ Tie.stop l ≠ [] then .error .stillTied else .ok { A with things := A.things.filter fun x => decide (x.1 ≠ l) }
structure WS where
  dx : Addr
  dv : Addr
  dt : Addr
  vals : List (Nm × Addr × List (Nm × Int))
  ties : List (Int × Addr × Tie)
  next : Int
def WS.abs (W : WS) : WA := ⟨W.vals.map fun x => (x.1, x.2.2), W.ties.map fun x => (x.1, x.2.2), W.next⟩
def WS.own (W : WS) (p : Addr) : List Addr := p :: W.dv :: W.dt :: W.vals.map (·.2.1)
def kvVals (vals : List (Nm × Addr × List (Nm × Int))) : List (Key × V) := vals.map fun x => (.inr (tx x.1), .ref x.2.1)
def kvTies (ties : List (Int × Addr × Tie)) : List (Key × V) := ties.map fun x => (.inl x.1, .ref x.2.1)
def kvNums (m : List (Nm × Int)) : List (Key × V) := m.map fun y => (.inr (tx y.1), .int y.2)
def tieV (t : Tie) : List V := [.str (tx t.start), .str (tx t.name), .str (tx t.stop), .int t.weight]
structure WebAt (C : Addr) (H : Hp) (p : Addr) (W : WS) : Prop where
  obj : H p = some (.ins C W.dx [("kept_values", .ref W.dv), ("kept_ties", .ref W.dt), ("coming_number", .int W.next)])
  val : H W.dv = some (.dK (kvVals W.vals))
  tie : H W.dt = some (.dK (kvTies W.ties))
  each : ∀ x ∈ W.vals, H x.2.1 = some (.dK (kvNums x.2.2))
  tups : ∀ x ∈ W.ties, H x.2.1 = some (.tup (tieV x.2.2))
  nd : (W.dv :: W.dt :: W.vals.map (·.2.1)).Nodup
  names : (W.vals.map (·.1)).Nodup
  nums : (W.ties.map (·.1)).Nodup
  few : W.vals.length ≤ 100
  fewT : W.ties.length ≤ 400
theorem names_abs (W : WS) : W.abs.names = W.vals.map (·.1) := by
  unfold WA.names WS.abs
  rw [List.map_map]
  rfl
theorem valV_vals (l : Nm) : ∀ vals : List (Nm × Addr × List (Nm × Int)), valV (kvVals vals) (.inr (tx l)) = (vals.find? fun x => decide (x.1 = l)).map fun x => V.ref x.2.1
  | [] => rfl
  | x :: r => by
    have ih := valV_vals l r
    unfold kvVals at ih ⊢
    rw [List.map_cons, List.find?_cons]
    by_cases e : x.1 = l
    · rw [valV_pos (by rw [e]), decide_eq_true e]
      rfl
    · rw [valV_neg (fun z => e (tx_inj.mp (Sum.inr.inj z))), decide_eq_false e, ih]
theorem valV_nums (l : Nm) : ∀ m : List (Nm × Int), valV (kvNums m) (.inr (tx l)) = (m.find? fun x => decide (x.1 = l)).map fun x => V.int x.2
  | [] => rfl
  | x :: r => by
    have ih := valV_nums l r
    unfold kvNums at ih ⊢
    rw [List.map_cons, List.find?_cons]
    by_cases e : x.1 = l
    · rw [valV_pos (by rw [e]), decide_eq_true e]
      rfl
    · rw [valV_neg (fun z => e (tx_inj.mp (Sum.inr.inj z))), decide_eq_false e, ih]
theorem valV_ties (n : Int) : ∀ ties : List (Int × Addr × Tie), valV (kvTies ties) (.inl n) = (ties.find? fun x => decide (x.1 = n)).map fun x => V.ref x.2.1
  | [] => rfl
  | x :: r => by
    have ih := valV_ties n r
    unfold kvTies at ih ⊢
    rw [List.map_cons, List.find?_cons]
    by_cases e : x.1 = n
    · rw [valV_pos (by rw [e]), decide_eq_true e]
      rfl
    · rw [valV_neg (fun z => e (Sum.inl.inj z)), decide_eq_false e, ih]
theorem find_none {α β : Type} [DecidableEq β] {f : α → β} {b : β} {l : List α} : l.find? (fun x => decide (f x = b)) = none ↔ b ∉ l.map f := by
  rw [List.find?_eq_none]
  constructor
  · intro h m
    obtain ⟨x, hx, e⟩ := List.mem_map.mp m
    exact h x hx (decide_eq_true e)
  · intro h x hx e
    exact h (List.mem_map.mpr ⟨x, hx, of_decide_eq_true e⟩)
theorem find_some {α β : Type} [DecidableEq β] {f : α → β} {b : β} {l : List α} (h : b ∈ l.map f) : ∃ x, l.find? (fun x => decide (f x = b)) = some x ∧ x ∈ l ∧ f x = b := by
  cases q : l.find? (fun x => decide (f x = b)) with
  | none => exact absurd h (find_none.mp q)
  | some x => exact ⟨x, rfl, List.mem_of_find?_eq_some q, by have z := List.find?_some q; simpa using z⟩
theorem vals_isSome {l : Nm} {vals : List (Nm × Addr × List (Nm × Int))} : (valV (kvVals vals) (.inr (tx l))).isSome = decide (l ∈ vals.map (·.1)) := by
  rw [valV_vals]
  by_cases h : l ∈ vals.map (·.1)
  · obtain ⟨x, e, _, _⟩ := find_some h
    rw [e, decide_eq_true h]
    rfl
  · rw [find_none.mpr h, decide_eq_false h]
    rfl
theorem ties_isSome {n : Int} {ties : List (Int × Addr × Tie)} : (valV (kvTies ties) (.inl n)).isSome = decide (n ∈ ties.map (·.1)) := by
  rw [valV_ties]
  by_cases h : n ∈ ties.map (·.1)
  · obtain ⟨x, e, _, _⟩ := find_some h
    rw [e, decide_eq_true h]
    rfl
  · rw [find_none.mpr h, decide_eq_false h]
    rfl
theorem nums_isSome {l : Nm} {m : List (Nm × Int)} : (valV (kvNums m) (.inr (tx l))).isSome = decide (l ∈ m.map (·.1)) := by
  rw [valV_nums]
  by_cases h : l ∈ m.map (·.1)
  · obtain ⟨x, e, _, _⟩ := find_some h
    rw [e, decide_eq_true h]
    rfl
  · rw [find_none.mpr h, decide_eq_false h]
    rfl
theorem dropK_vals (l : Nm) (vals : List (Nm × Addr × List (Nm × Int))) : dropK (kvVals vals) (.inr (tx l)) = kvVals (vals.filter fun x => decide (x.1 ≠ l)) := by
  unfold dropK kvVals
  rw [List.filter_map]
  congr 1
  apply List.filter_congr
  intro x _
  simp only [Function.comp]
  rw [decide_eq_decide]
  exact not_congr ⟨fun z => tx_inj.mp (Sum.inr.inj z), fun z => by rw [z]⟩
theorem dropK_nums (l : Nm) (m : List (Nm × Int)) : dropK (kvNums m) (.inr (tx l)) = kvNums (m.filter fun x => decide (x.1 ≠ l)) := by
  unfold dropK kvNums
  rw [List.filter_map]
  congr 1
  apply List.filter_congr
  intro x _
  simp only [Function.comp]
  rw [decide_eq_decide]
  exact not_congr ⟨fun z => tx_inj.mp (Sum.inr.inj z), fun z => by rw [z]⟩
theorem dropK_ties (n : Int) (ties : List (Int × Addr × Tie)) : dropK (kvTies ties) (.inl n) = kvTies (ties.filter fun x => decide (x.1 ≠ n)) := by
  unfold dropK kvTies
  rw [List.filter_map]
  congr 1
  apply List.filter_congr
  intro x _
  simp only [Function.comp]
  rw [decide_eq_decide]
  exact not_congr ⟨fun z => Sum.inl.inj z, fun z => by rw [z]⟩
theorem WebAt.dvdt {C : Addr} {H : Hp} {p : Addr} {W : WS} (w : WebAt C H p W) : W.dv ≠ W.dt := fun z => by
  have := (List.nodup_cons.mp w.nd).1
  exact this (by rw [z]; exact List.mem_cons_self)
theorem WebAt.pdv {C : Addr} {H : Hp} {p : Addr} {W : WS} (w : WebAt C H p W) : W.dv ≠ p := ne_of w.val w.obj (by intro z; cases z)
theorem WebAt.pdt {C : Addr} {H : Hp} {p : Addr} {W : WS} (w : WebAt C H p W) : W.dt ≠ p := ne_of w.tie w.obj (by intro z; cases z)
theorem WebAt.dvx {C : Addr} {H : Hp} {p : Addr} {W : WS} (w : WebAt C H p W) {x : Nm × Addr × List (Nm × Int)} (h : x ∈ W.vals) : x.2.1 ≠ W.dv := fun z => by
  have := (List.nodup_cons.mp w.nd).1
  exact this (List.mem_cons_of_mem _ (by rw [← z]; exact List.mem_map.mpr ⟨x, h, rfl⟩))
theorem WebAt.dtx {C : Addr} {H : Hp} {p : Addr} {W : WS} (w : WebAt C H p W) {x : Nm × Addr × List (Nm × Int)} (h : x ∈ W.vals) : x.2.1 ≠ W.dt := fun z => by
  have := (List.nodup_cons.mp (List.nodup_cons.mp w.nd).2).1
  exact this (by rw [← z]; exact List.mem_map.mpr ⟨x, h, rfl⟩)
theorem WebAt.keep {C : Addr} {H H' : Hp} {p : Addr} {W : WS} (w : WebAt C H p W) (h : ∀ b o, b ∈ W.own p → H b = some o → H' b = some o) (ht : ∀ b xs, H b = some (.tup xs) → H' b = some (.tup xs)) : WebAt C H' p W := by
  refine ⟨h _ _ (by simp [WS.own]) w.obj, h _ _ (by simp [WS.own]) w.val, h _ _ (by simp [WS.own]) w.tie, fun x hx => h _ _ ?_ (w.each x hx), fun x hx => ht _ _ (w.tups x hx), w.nd, w.names, w.nums, w.few, w.fewT⟩
  simp only [WS.own, List.mem_cons, List.mem_map]
  exact .inr (.inr (.inr ⟨x, hx, rfl⟩))
theorem WebAt.same {C : Addr} {H H' : Hp} {p : Addr} {W : WS} (w : WebAt C H p W) (s : Same H H') : WebAt C H' p W := w.keep (fun b o _ e => s b o e) fun b xs e => s b _ e
theorem WebAt.own_some {C : Addr} {H : Hp} {p : Addr} {W : WS} (w : WebAt C H p W) {b : Addr} (h : b ∈ W.own p) : ∃ o, H b = some o ∧ ∀ xs, o ≠ .tup xs := by
  simp only [WS.own, List.mem_cons, List.mem_map] at h
  rcases h with rfl | rfl | rfl | ⟨x, hx, rfl⟩
  · exact ⟨_, w.obj, fun _ z => nomatch z⟩
  · exact ⟨_, w.val, fun _ z => nomatch z⟩
  · exact ⟨_, w.tie, fun _ z => nomatch z⟩
  · exact ⟨_, w.each x hx, fun _ z => nomatch z⟩
theorem WebAt.added {C : Addr} {H : Hp} {p d : Addr} {W : WS} {l : Nm} (w : WebAt C H p W) (hd : H d = none) (hl : l ∉ W.vals.map (·.1)) (hf : W.vals.length < 100) :
    WebAt C (upd (upd H d (.dK [])) W.dv (.dK (putK (kvVals W.vals) (.inr (tx l)) (.ref d)))) p { W with vals := W.vals ++ [(l, d, [])] } ∧
    Step H (W.own p) (upd (upd H d (.dK [])) W.dv (.dK (putK (kvVals W.vals) (.inr (tx l)) (.ref d)))) (WS.own { W with vals := W.vals ++ [(l, d, [])] } p) := by
  have hp : p ≠ d := ne_of_none w.obj hd
  have hdv : W.dv ≠ d := ne_of_none w.val hd
  have hdt : W.dt ≠ d := ne_of_none w.tie hd
  have eput : putK (kvVals W.vals) (.inr (tx l)) (.ref d) = kvVals (W.vals ++ [(l, d, [])]) := by
    rw [putK_new]
    · unfold kvVals
      rw [List.map_append]
      rfl
    · rw [valV_vals, find_none.mpr hl]
      rfl
  rw [eput]
  have oth : ∀ b o, b ≠ W.dv → H b = some o → upd (upd H d (.dK [])) W.dv (.dK (kvVals (W.vals ++ [(l, d, [])]))) b = some o := fun b o hb e => by
    rw [upd_ne hb, upd_ne (ne_of_none e hd)]
    exact e
  refine ⟨⟨oth _ _ w.pdv.symm w.obj, upd_same, oth _ _ w.dvdt.symm w.tie, fun x hx => ?_, fun x hx => oth _ _ (ne_of (w.tups x hx) w.val (by intro z; cases z)) (w.tups x hx), ?_, ?_, w.nums, by simp only [List.length_append, List.length_cons, List.length_nil]; omega, w.fewT⟩, ⟨fun b o hb e => oth b o (fun z => hb (by simp [WS.own, z])) e, fun b hb => ?_, fun b xs e => oth b _ (ne_of e w.val (by intro z; cases z)) e⟩⟩
  · rcases List.mem_append.mp hx with h | h
    · exact oth _ _ (w.dvx h) (w.each x h)
    · rw [List.mem_singleton.mp h]
      show upd (upd H d (.dK [])) W.dv _ d = _
      rw [upd_ne hdv.symm, upd_same]
      rfl
  · have hnew : d ∉ W.dv :: W.dt :: W.vals.map (·.2.1) := by
      intro h
      simp only [List.mem_cons, List.mem_map] at h
      rcases h with h | h | ⟨x, hx, h⟩
      · exact hdv h.symm
      · exact hdt h.symm
      · exact ne_of_none (w.each x hx) hd h
    show (W.dv :: W.dt :: (W.vals ++ [(l, d, [])]).map (fun x : Nm × Addr × List (Nm × Int) => x.2.1)).Nodup
    rw [List.map_append]
    have := nd_snoc w.nd hnew
    exact this
  · show ((W.vals ++ [(l, d, [])]).map (fun x : Nm × Addr × List (Nm × Int) => x.1)).Nodup
    rw [List.map_append]
    exact nd_snoc w.names hl
  · simp only [WS.own, List.map_append, List.mem_cons, List.mem_append, List.map_cons, List.map_nil, List.not_mem_nil, or_false] at hb ⊢
    rcases hb with h | h | h | h | h
    · exact .inl (.inl h)
    · exact .inl (.inr (.inl h))
    · exact .inl (.inr (.inr (.inl h)))
    · exact .inl (.inr (.inr (.inr h)))
    · exact .inr (by rw [h]; exact hd)
theorem WebAt.dropped {C : Addr} {H : Hp} {p : Addr} {W : WS} {l : Nm} (w : WebAt C H p W) :
    WebAt C (upd H W.dv (.dK (dropK (kvVals W.vals) (.inr (tx l))))) p { W with vals := W.vals.filter fun x => decide (x.1 ≠ l) } ∧
    Step H (W.own p) (upd H W.dv (.dK (dropK (kvVals W.vals) (.inr (tx l))))) (WS.own { W with vals := W.vals.filter fun x => decide (x.1 ≠ l) } p) := by
  rw [dropK_vals]
  have oth : ∀ b o, b ≠ W.dv → H b = some o → upd H W.dv (.dK (kvVals (W.vals.filter fun x => decide (x.1 ≠ l)))) b = some o := fun b o hb e => by
    rw [upd_ne hb]
    exact e
  have sub : ∀ x ∈ W.vals.filter (fun x => decide (x.1 ≠ l)), x ∈ W.vals := fun x hx => (List.mem_filter.mp hx).1
  refine ⟨⟨oth _ _ w.pdv.symm w.obj, upd_same, oth _ _ w.dvdt.symm w.tie, fun x hx => oth _ _ (w.dvx (sub x hx)) (w.each x (sub x hx)), fun x hx => oth _ _ (ne_of (w.tups x hx) w.val (by intro z; cases z)) (w.tups x hx), ?_, ?_, w.nums, Nat.le_trans (List.length_filter_le _ _) w.few, w.fewT⟩,
    ⟨fun b o hb e => oth b o (fun z => hb (by simp [WS.own, z])) e, fun b hb => .inl ?_, fun b xs e => oth b _ (ne_of e w.val (by intro z; cases z)) e⟩⟩
  · exact List.Sublist.nodup (List.Sublist.cons_cons _ (List.Sublist.cons_cons _ (List.Sublist.map _ List.filter_sublist))) w.nd
  · exact List.Sublist.nodup (List.Sublist.map _ List.filter_sublist) w.names
  · simp only [WS.own, List.mem_cons, List.mem_map] at hb ⊢
    rcases hb with h | h | h | ⟨x, hx, h⟩
    · exact .inl h
    · exact .inr (.inl h)
    · exact .inr (.inr (.inl h))
    · exact .inr (.inr (.inr ⟨x, sub x hx, h⟩))
end L2
set_option Elab.async false
set_option linter.all false
set_option maxRecDepth 100000
namespace L2
open PySem PySem.Spec PyProof.Rows
section
variable {X : Cx} {a b e o i : Expr} {ta tb td ty : TE} {pos : Pos} {f : Str} {r : R2}
theorem pe_fldA (he : PE X e ta) (hb : attributeBase e f X.env (eval e X.env) = eval e X.env := by rfl) : PE X (.Attribute e f pos) (tFld X.K ta f) := pe_fld he hb
theorem pe_ixA (hr : IxR X r) (ha : PE X a ta) (hb : PE X b tb) (hs : PlainIx b := by exact fun _ _ => rfl) : PE X (.Subscript a b pos) (tOp r ta tb) := pe_ix hr ha hb hs
theorem pe_dgetA (hu : X.A.units + 1 < cLine) (ho : PE X o td) (hi : PE X i ty) (hs : NoSl i := by exact fun _ _ => rfl) : PE X (.Subscript o i pos) (tDGet td ty) := pe_dget hu ho hi hs
end
end L2
namespace L2
open PySem PySem.Spec PyProof.Rows
section
variable {X : Cx} {e : Expr} {ta : TE} {pos : Pos} {f : Str}
theorem pe_fldK (K : PySem.W.Frag) (he : PE X e ta) (h : X.K = K := by rfl) (hb : attributeBase e f X.env (eval e X.env) = eval e X.env := by rfl) : PE X (.Attribute e f pos) (tFld K ta f) := h ▸ pe_fld he hb
theorem ix_tupK (K : PySem.W.Frag) (h : X.K = K := by rfl) : IxR X (rIxT K) := h ▸ ix_tup
end
end L2
namespace L2
open PySem PySem.Spec PyProof.Rows
theorem find_nd {α β : Type} [DecidableEq β] {f : α → β} {x : α} : ∀ {l : List α}, (l.map f).Nodup → x ∈ l → l.find? (fun y => decide (f y = f x)) = some x
  | [], _, h => nomatch h
  | a :: r, nd, h => by
    rw [List.find?_cons]
    rcases List.mem_cons.mp h with e | h'
    · subst e
      rw [decide_eq_true rfl]
    · have nd' := List.nodup_cons.mp nd
      rw [decide_eq_false (fun z => nd'.1 (by rw [z]; exact List.mem_map.mpr ⟨x, h', rfl⟩))]
      exact find_nd nd'.2 h'
def tieP (ties : List (Int × Addr × Tie)) (f : Tie → Nm) (l : Nm) : Key → Bool
  | .inl n => ((ties.find? fun x => decide (x.1 = n)).map fun x => decide (f x.2.2 = l)).getD false
  | .inr _ => false
theorem tieP_at {ties : List (Int × Addr × Tie)} {f : Tie → Nm} {l : Nm} {x : Int × Addr × Tie} (nd : (ties.map (·.1)).Nodup) (h : x ∈ ties) : tieP ties f l (.inl x.1) = decide (f x.2.2 = l) := by
  show ((ties.find? fun y => decide (y.1 = x.1)).map fun x => decide (f x.2.2 = l)).getD false = _
  rw [find_nd nd h]
  rfl
theorem ties_filter {ties : List (Int × Addr × Tie)} {f : Tie → Nm} {l : Nm} (nd : (ties.map (·.1)).Nodup) : (((kvTies ties).map (·.1)).filter (tieP ties f l)).map kV = ((ties.filter fun x => decide (f x.2.2 = l)).map (·.1)).map V.int := by
  have go : ∀ r : List (Int × Addr × Tie), (∀ x ∈ r, x ∈ ties) → (((kvTies r).map (·.1)).filter (tieP ties f l)).map kV = ((r.filter fun x => decide (f x.2.2 = l)).map (·.1)).map V.int := by
    intro r
    induction r with
    | nil => intro _; rfl
    | cons x r ih =>
      intro hs
      have h1 := ih fun y hy => hs y (List.mem_cons_of_mem _ hy)
      have h2 := tieP_at (f := f) (l := l) nd (hs x List.mem_cons_self)
      unfold kvTies at h1 ⊢
      rw [List.map_cons, List.map_cons, List.filter_cons, List.filter_cons]
      show List.map kV (if tieP ties f l (.inl x.1) = true then _ else _) = _
      rw [h2]
      by_cases e : f x.2.2 = l
      · rw [decide_eq_true e, if_pos rfl, if_pos rfl, List.map_cons, List.map_cons, List.map_cons, h1]
        rfl
      · rw [decide_eq_false e, if_neg Bool.false_ne_true, if_neg Bool.false_ne_true, h1]
  exact go ties fun _ h => h
theorem keys_ties {ties : List (Int × Addr × Tie)} {k : Key} (h : k ∈ (kvTies ties).map (·.1)) : ∃ x ∈ ties, k = .inl x.1 := by
  unfold kvTies at h
  rw [List.map_map] at h
  obtain ⟨x, hx, e⟩ := List.mem_map.mp h
  exact ⟨x, hx, e.symm⟩
theorem get_tie {H : Hp} {d : Addr} {ties : List (Int × Addr × Tie)} {x : Int × Addr × Tie} (hd : Rd H d (.dK (kvTies ties))) (nd : (ties.map (·.1)).Nodup) (h : x ∈ ties) : DGet H d (.int x.1) (some (.ref x.2.1)) := by
  refine .inl ⟨_, .inl x.1, hd, rfl, ?_⟩
  rw [valV_ties, find_nd nd h]
  rfl
theorem WebAt.szT {C : Addr} {H : Hp} {p : Addr} {W : WS} (w : WebAt C H p W) : (kvTies W.ties).length ≤ sizeLine := by
  unfold kvTies
  rw [List.length_map]
  exact sz_of (Nat.le_trans w.fewT (by decide))
theorem WebAt.at_list {X : Cx} {K : PySem.W.Frag} {C : Addr} {H : Hp} {p : Addr} {W : WS} (w : WebAt C H p W) (c : Cls K C) (na : NoAttr K C "kept_ties") {f : Tie → Nm} {l : Nm} {i : Nat} (hi : ∀ t : Tie, atI (tieV t) i = some (.str (tx (f t)))) {Q : VK} {fr : List Nat} {σ : St} {r : Nat}
    (h0 : σ[0]? = some (some (.ref p))) (hl : ∀ v : V, (stB1 v fr σ)[1]? = some (some (.str (tx l)))) (hr : ∀ v : V, (stB1 v fr σ)[r]? = some (some (.ref p)))
    (q : ∀ a H', H a = none → Same H H' → H' a = some (.lst ((W.abs.at_ f l).map V.int)) → Q (.ref a) H') :
    tCompD X (tFld K (tVar 0) "kept_ties") fr (tTest (tOp rEq (tOp (rIxT K) (tDGet (tFld K (tVar r) "kept_ties") (tVar 0)) (tC (V.int i))) (tVar 1))) (tVar 0) σ H Q := by
  refine comp_dict (d := W.dt) (kvs := kvTies W.ties) (fun R hR => ⟨_, h0, _, _, _, _, _, rfl, w.obj, c, na, rfl, hR⟩) w.tie w.szT (tieP W.ties f l) kV (fun k H2 Q2 hk hb hd h => ?_) (fun k H2 Q2 hk _ hb hd h => ⟨kV k, rfl, h H2 (Same.refl _)⟩) fun D H2 hD s2 d2 => ?_
  · obtain ⟨x, hx, rfl⟩ := keys_ties hk
    have ho := hb p _ w.pdt.symm w.obj
    have ht := hb x.2.1 _ (ne_of (w.tups x hx) w.tie (by intro z; cases z)) (w.tups x hx)
    refine ⟨_, hr _, _, _, _, _, _, rfl, ho, c, na, rfl, _, rfl, _, _, rfl, get_tie hd w.nums hx, _, _, _, _, rfl, rfl, SqT.of ht, hi x.2.2, _, hl _, rfl, _, rfl, ?_⟩
    have e : decide (V.str (tx (f x.2.2)) = V.str (tx l)) = tieP W.ties f l (.inl x.1) := by
      rw [tieP_at w.nums hx, decide_eq_decide]
      exact ⟨fun z => tx_inj.mp (V.str.inj z), fun z => by rw [z]⟩
    rw [e]
    exact h H2 (Same.refl _)
  · refine q D H2 hD s2 ?_
    rw [d2, ties_filter w.nums]
    have e : (W.ties.filter fun x => decide (f x.2.2 = l)).map (·.1) = W.abs.at_ f l := by
      unfold WA.at_ WS.abs
      rw [List.filter_map, List.map_map]
      rfl
    rw [e]
end L2
set_option Elab.async false
set_option linter.all false
set_option maxRecDepth 100000
namespace L2
open PySem
def letC (n : Int) : Nat := 97 + (n % 26).toNat
theorem letC_abc (n : Int) : letC n ∈ abc := mem_abc.mpr (by unfold letC; omega)
theorem let_at (n : Int) : abc[(n % 26).toNat]? = some (letC n) := by
  unfold letC
  have h1 : (n % 26).toNat < 26 := by omega
  generalize (n % 26).toNat = k at h1
  have all : ∀ k < 26, abc[k]? = some (97 + k) := by decide
  exact all k h1
theorem letC_inj {n m : Int} (h : letC n = letC m) : n % 26 = m % 26 := by
  unfold letC at h
  omega
def sizeC (w : Int) : Int := 2 + w / 52 % 11
def atC (w : Int) : Int := w / 572 % (sizeC w - 1)
theorem sizeC_le (w : Int) : 2 ≤ sizeC w ∧ sizeC w ≤ 12 := by unfold sizeC; omega
theorem atC_le (w : Int) : 0 ≤ atC w ∧ atC w ≤ sizeC w - 2 := by
  have h := sizeC_le w
  unfold atC
  have a := Int.emod_nonneg (w / 572) (show sizeC w - 1 ≠ 0 by omega)
  have b := Int.emod_lt_of_pos (w / 572) (show 0 < sizeC w - 1 by omega)
  omega
def nameC (n w : Int) : Nm :=
  if w % 2 = 0 then letC (n / 12 + w / 52) :: List.replicate (n % 12).toNat (letC (w / 2))
  else List.replicate (atC w).toNat (letC (w / 2)) ++ [letC n] ++ [letC (n / 26)] ++ List.replicate (sizeC w - 2 - atC w).toNat (letC (w / 2))
theorem nameC_len (n w : Int) : 1 ≤ (nameC n w).length ∧ (nameC n w).length ≤ 12 := by
  have h := sizeC_le w
  have h2 := atC_le w
  unfold nameC
  split
  · simp only [List.length_cons, List.length_replicate]
    omega
  · simp only [List.length_append, List.length_replicate, List.length_cons, List.length_nil]
    omega
theorem nameC_abc (n w : Int) : ∀ c ∈ nameC n w, c ∈ abc := by
  intro c hc
  unfold nameC at hc
  split at hc
  · rcases List.mem_cons.mp hc with rfl | h
    · exact letC_abc _
    · rw [(List.mem_replicate.mp h).2]
      exact letC_abc _
  · simp only [List.mem_append, List.mem_replicate, List.mem_singleton] at hc
    rcases hc with ((h | h) | h) | h
    · rw [h.2]; exact letC_abc _
    · rw [h]; exact letC_abc _
    · rw [h]; exact letC_abc _
    · rw [h.2]; exact letC_abc _
theorem nameC_good (n w : Int) : goodC (nameC n w) = true := by
  unfold goodC
  rw [decide_eq_true (nameC_len n w), Bool.true_and, List.all_eq_true]
  exact fun c hc => decide_eq_true (nameC_abc n w c hc)
theorem nameC_inj {n m w : Int} (h0 : 0 ≤ n) (h1 : n < 312) (h2 : 0 ≤ m) (h3 : m < 312) (h : nameC n w = nameC m w) : n = m := by
  unfold nameC at h
  split at h
  · have a := (List.cons.inj h).1
    have b := congrArg List.length (List.cons.inj h).2
    rw [List.length_replicate, List.length_replicate] at b
    have c := letC_inj a
    omega
  · simp only [List.append_assoc] at h
    have a := List.append_cancel_left h
    have b := letC_inj (List.cons.inj a).1
    have c := letC_inj (List.cons.inj (List.cons.inj a).2).1
    omega
def Rf.word : Rf → Nm
  | .noName => [78, 111, 78, 97, 109, 101]
  | .noNumber => [78, 111, 78, 117, 109, 98, 101, 114]
  | .noThing => [78, 111, 84, 104, 105, 110, 103]
  | .noKey => [78, 111, 75, 101, 121]
  | .noTie => [78, 111, 84, 105, 101]
  | .twice => [84, 119, 105, 99, 101]
  | .stillTied => [83, 116, 105, 108, 108, 84, 105, 101, 100]
  | .full => [70, 117, 108, 108]
structure Mine (H0 H : Hp) (F : List Addr) : Prop where
  same : Same H0 H
  new : ∀ b ∈ F, H0 b = none
theorem Mine.step {H0 H H' : Hp} {F F1 F2 : List Addr} (m : Mine H0 H F) (s : Step H F1 H' F2) (h : ∀ b ∈ F1, b ∈ F) : Mine H0 H' (F2 ++ F) := by
  have back : ∀ b, H b = none → H0 b = none := fun b z => by
    cases q : H0 b with
    | none => rfl
    | some o =>
      rw [m.same b o q] at z
      cases z
  refine ⟨fun b o e => s.off b o (fun z => ?_) (m.same b o e), fun b hb => ?_⟩
  · have := m.new b (h b z)
    rw [e] at this
    cases this
  · rcases List.mem_append.mp hb with z | z
    · rcases s.own b z with y | y
      · exact m.new b (h b y)
      · exact back b y
    · exact m.new b z
theorem Mine.mono {H0 H : Hp} {F F' : List Addr} (m : Mine H0 H F) (h : ∀ b ∈ F', b ∈ F) : Mine H0 H F' := ⟨m.same, fun b hb => m.new b (h b hb)⟩
theorem Mine.more {H0 H H' : Hp} {F : List Addr} (m : Mine H0 H F) (s : Same H H') : Mine H0 H' F := ⟨m.same.trans s, m.new⟩
theorem Mine.fresh {H0 H : Hp} {F : List Addr} {b : Addr} (m : Mine H0 H F) (h : H b = none) : H0 b = none := m.same.free h
end L2
set_option Elab.async false
set_option linter.all false
set_option maxRecDepth 100000
namespace L2
open PySem PySem.Spec PyProof.Rows
def strConsts : List Expr → Option (List Str)
  | [] => some []
  | .Constant (.str x) _ _ :: r => (strConsts r).map (x :: ·)
  | _ => none
def tLstC (vs : List V) : TE := fun _ H Q => vs.length ≤ sizeLine ∧ ∀ p, H p = none → Q (.ref p) (upd H p (.lst vs))
theorem pa_strs {X : Cx} : ∀ {es : List Expr} {xs : List Str}, strConsts es = some xs → PA X es (fun _ H Q => Q (xs.map V.str) H)
  | [], xs, h => by
    cases h
    exact pa_nil
  | e :: r, xs, h => by
    cases e with
    | Constant c j pos =>
      cases c with
      | str x =>
        unfold strConsts at h
        cases q : strConsts r with
        | none => rw [q] at h; cases h
        | some ys =>
          rw [q] at h
          cases h
          exact pa_cons (X := X) pe_str (pa_strs q) rfl
      | _ => cases h
    | _ => cases h
theorem pe_lstS {X : Cx} {es : List Expr} {xs : List Str} {pos : Pos} (h : strConsts es = some xs := by rfl) : PE X (.List es pos) (tLstC (xs.map V.str)) := fun pins s σ H Q I hq => pe_lst (pa_strs h) pins s σ H Q I hq
theorem seq_rule {t u : TS} {D : Ends} {σ : St} {H : Hp} (h : ∀ N : St → Hp → Prop, (∀ σ' H', u D σ' H' → N σ' H') → t { D with nx := N } σ H) : tSeq t u D σ H := h _ fun _ _ z => z
end L2
set_option Elab.async false
set_option linter.all false
set_option maxRecDepth 100000
namespace L2
open PySem PySem.Spec PyProof.Rows
structure Bx (p : Prop) : Prop where
  un : p
theorem bpss_nil {X : Cx} : Bx (PSs X [] tNext) := ⟨pss_nil ⟩
theorem bpss_one {X : Cx} {st : Stmt} {t : TS} (h1 : Bx (PS X st t)) : Bx (PSs X [st] t) := ⟨pss_one h1.un⟩
theorem bpss_cons {X : Cx} {st : Stmt} {rest : List Stmt} {t u : TS} (h1 : Bx (PS X st t)) (h2 : Bx (PSs X rest u)) : Bx (PSs X (st :: rest) (tSeq t u)) := ⟨pss_cons h1.un h2.un⟩
theorem bps_set {X : Cx} {pos : Pos} {i : Nat} {x : Str} {e : Expr} {te : TE} {pos' : Pos} (hN : List.Nodup (Cx.N X)) (hi : (Cx.N X)[i]? = some x) (hx : L2.Loc (Env.scope (Cx.env X)) x) (he : Bx (PE X e te)) (hs : swapsWith e (some (Expr.Name x pos')) (Pos.line pos) (Cx.env X) = pure false := by rfl) (hf : Cx.fn X x = true ∨ List.lookup x (Scope.names (Env.scope (Cx.env X))) = some NameKind.local := by first | exact .inl rfl | exact .inr rfl | assumption) : Bx (PS X (Stmt.Assign [Expr.Name x pos'] e pos) (tAsg te (gName i))) := ⟨ps_set hN hi hx he.un hs hf⟩
theorem bps_dput {X : Cx} {o i value : Expr} {pos pos' : Pos} {td ty tv : TE} (hu : Around.units (Cx.A X) + (1 : Nat) < cLine) (ho : Bx (PE X o td)) (hi : Bx (PE X i ty)) (hv : Bx (PE X value tv)) (hs : swapsWith value (some (Expr.Subscript o i pos')) (Pos.line pos) (Cx.env X) = pure false := by rfl) : Bx (PS X (Stmt.Assign [Expr.Subscript o i pos'] value pos) (sDPut td ty tv)) := ⟨ps_dput hu ho.un hi.un hv.un hs⟩
theorem bps_fld {X : Cx} {o value : Expr} {f : Str} {pos pos' : Pos} {ta tv : TE} (ha : Bx (PE X o ta)) (hv : Bx (PE X value tv)) (hs : swapsWith value (some (Expr.Attribute o f pos')) (Pos.line pos) (Cx.env X) = pure false := by rfl) : Bx (PS X (Stmt.Assign [Expr.Attribute o f pos'] value pos) (sFld (Cx.K X) ta tv f)) := ⟨ps_fld ha.un hv.un hs⟩
theorem bps_if {X : Cx} {t u : TS} {pos : Pos} {c : Expr} {a b : List Stmt} {tc : TT} (hc : Bx (PT X c tc)) (ha : Bx (PSs X a t)) (hb : Bx (PSs X b u)) : Bx (PS X (Stmt.If c a b pos) (tIfS tc t u)) := ⟨ps_if hc.un ha.un hb.un⟩
theorem bps_ret {X : Cx} {e : Expr} {te : TE} {pos : Pos} (he : Bx (PE X e te)) : Bx (PS X (Stmt.Return (some e) pos) (tRet te)) := ⟨ps_ret he.un⟩
theorem bps_raise {X : Cx} {E : XK} {x : Str} {C : Addr} {e₀ : Expr} {te : TE} {np cpos pos : Pos} (T : XCls (Cx.K X) (Cx.mg X) x C) (hR : Raises X E) (hc : Cx.calm X = true) (he : Bx (PE X e₀ te)) (hg : Gl X x := by rfl) (hd : (x == Str.ofString "__debug__") = false := by decide) (hs : starEach [e₀] (Cx.env X) = [(false, eval e₀ (Cx.env X))] := by rfl) : Bx (PS X (Stmt.Raise (some (Expr.Call (Expr.Name x np) [e₀] [] cpos)) none pos) (tRaise E C te)) := ⟨ps_raise T hR hc he.un hg hd hs⟩
theorem bps_for {X : Cx} {tg iter : Expr} {body : List Stmt} {wi : TI} {g : TG} {tb : TS} {pos : Pos} (hp : PassesOwn (model (Cx.prog X) (Cx.w X)) (Cx.A X) (Cx.env X) (Cx.xe X)) (hc : Cx.calm X = true) (hi : Bx (PI X tg iter wi)) (hg : Bx (PG X tg g)) (hb : Bx (PSs X body tb)) (hs : ∀ (x : Value), foldedSetIterable iter (Cx.env X) x = pure x := by intro _; rfl) : Bx (PS X (Stmt.For tg iter body [] pos) (tFor wi g tb)) := ⟨ps_for hp hc hi.un hg.un hb.un hs⟩
theorem bps_expr {X : Cx} {e : Expr} {te : TE} {pos : Pos} (he : Bx (PE X e te)) (hs : swapsWith e none (Pos.line pos) (Cx.env X) = pure false := by rfl) : Bx (PS X (Stmt.Expr e pos) (tDrop te)) := ⟨ps_expr he.un hs⟩
theorem bps_tryS {X : Cx} {S : Addr} {cs : List Addr} {x n : Str} {i : Nat} {body : List Stmt} {b₀ : Stmt} {suite : List Stmt} {np hpos pos : Pos} {tb : TSX} {th : TS} (T : XSet (Cx.K X) S cs) (hg0 : Cx.mg X x = some (Value.ref S)) (hN : List.Nodup (Cx.N X)) (hi : (Cx.N X)[i]? = some n) (hl : List.lookup n (Scope.names (Env.scope (Cx.env X))) = some NameKind.local) (hst : Cx.stack X = Cx.env X :: Cx.outer X) (hf : Env.frame (Cx.env X) = some (Env.locals (Cx.env X))) (hb : Bx (PSX (CX1 (Cx.prog X) (Cx.w X)) X body tb)) (hh : ∀ (a : Addr), Bx (PSs (Cx.hdl X a) (b₀ :: suite) th)) (hg : Gl X x := by rfl) (hd : (x == Str.ofString "__debug__") = false := by decide) : Bx (PS X (Stmt.Try body [ExceptHandler.ExceptHandler (some (Expr.Name x np)) (some n) (b₀ :: suite) hpos] [] [] pos) (tTry (fun (x : Addr) => x ∈ cs) i tb th)) := ⟨ps_tryS T hg0 hN hi hl hst hf hb.un (fun y0 => (hh y0).un) hg hd⟩
theorem bpsx_one {X : Cx} {CX : CXT} {st : Stmt} {t : TSX} (h : Bx (PSX1 CX X st t)) : Bx (PSX CX X [st] t) := ⟨psx_one h.un⟩
theorem bpsx_set {X : Cx} {CX : CXT} {e : Expr} {pos : Pos} {te : XK → TE} {i : Nat} {x : Str} {pos' : Pos} (hN : List.Nodup (Cx.N X)) (hi : (Cx.N X)[i]? = some x) (hx : L2.Loc (Env.scope (Cx.env X)) x) (he : Bx (XE CX X e te)) (hs : swapsWith e (some (Expr.Name x pos')) (Pos.line pos) (Cx.env X) = pure false := by rfl) (hf : Cx.fn X x = true ∨ List.lookup x (Scope.names (Env.scope (Cx.env X))) = some NameKind.local := by first | exact .inl rfl | exact .inr rfl | assumption) : Bx (PSX1 CX X (Stmt.Assign [Expr.Name x pos'] e pos) fun (D : Ends) (EX : L2.St → XK) (σ : L2.St) (H : Hp) => te (EX σ) σ H fun (v : V) (H1 : Hp) => Ends.nx D (List.set σ i (some v)) H1) := ⟨psx_set hN hi hx he.un hs hf⟩
theorem bpsx_ret {X : Cx} {CX : CXT} {e : Expr} {pos : Pos} {te : XK → TE} (he : Bx (XE CX X e te)) : Bx (PSX1 CX X (Stmt.Return (some e) pos) fun (D : Ends) (EX : L2.St → XK) (σ : L2.St) (H : Hp) => te (EX σ) σ H (Ends.rt D)) := ⟨psx_ret he.un⟩
theorem bxe_of {X : Cx} {CX : CXT} {e : Expr} {t : TE} (h : ∀ (xe : Value → Shared → Prop), Bx (PE (Cx.wish X xe) e t)) : Bx (XE CX X e fun (x : XK) => t) := ⟨xe_of (fun y0 => (h y0).un)⟩
theorem bxe_tup {X : Cx} {CX : CXT} {es : List Expr} {ta : XK → TA} {x1 : Nat} {pos : Pos} (h : Bx (XA CX X es ta)) : Bx (XE CX X (Expr.Tuple es x1 pos) fun (E : XK) => tTup (ta E)) := ⟨xe_tup h.un⟩
theorem bxa_nil {X : Cx} {CX : CXT} : Bx (XA CX X [] fun (x : XK) => tNil) := ⟨xa_nil ⟩
theorem bxa_cons {X : Cx} {CX : CXT} {e : Expr} {es : List Expr} {te : XK → TE} {ta : XK → TA} (he : Bx (XE CX X e te)) (hr : Bx (XA CX X es ta)) (hs : starEach (e :: es) (Cx.env X) = (false, eval e (Cx.env X)) :: starEach es (Cx.env X) := by rfl) : Bx (XA CX X (e :: es) fun (E : XK) => tCons (te E) (ta E)) := ⟨xa_cons he.un hr.un hs⟩
theorem bxe_fn {X : Cx} {P : Program} {w : World} {k : Nat} {f : Addr} {fd : FuncData} {ps : List Str} {sp : Sp} {x : Str} {st : Stmt} {p pos : Pos} {e : Expr} {es : List Expr} {t : TA} (D : DefOk (Cx.K X) (Cx.mg X) x st ps f fd) (F : FnOk (Cx.prog X) (Cx.w X) (Cx.K X) (Cx.mg X) (Cx.base X) (CX1 P w) k f fd ps sp) (hr : Room k (Cx.A X)) (ha : ∀ (xe : Value → Shared → Prop), Bx (PA (Cx.wish X xe) (e :: es) t)) (hg : Gl X x := by rfl) (hdb : (x == Str.ofString "__debug__") = false := by decide) (he : starEach (e :: es) (Cx.env X) = (false, eval e (Cx.env X)) :: starEach es (Cx.env X) := by rfl) (hpl : (List.any (backTo pos (starEach es (Cx.env X))) fun (x : Bool × Sem Value) => Prod.fst x) = false := by rfl) : Bx (XE (CX1 P w) X (Expr.Call (Expr.Name x p) (e :: es) [] pos) fun (E : XK) => tCall sp [] E t) := ⟨xe_fn D F hr (fun y0 => (ha y0).un) hg hdb he hpl⟩
theorem bpi_range1 {X : Cx} {tg a : Expr} {ta : TA} {p pos : Pos} (hg : Gl X (Str.ofString "range")) (hm : Cx.mg X (Str.ofString "range") = none) (ha : Bx (PA X [a] ta)) (hs : starEach [a] (Cx.env X) = [(false, eval a (Cx.env X))] := by rfl) : Bx (PI X tg (Expr.Call (Expr.Name (Str.ofString "range") p) [a] [] pos) (iRng1 ta)) := ⟨pi_range1 hg hm ha.un hs⟩
theorem bpi_str {X : Cx} {y : Str} {py : Pos} {e : Expr} {te : TE} (h : Bx (PE X e te)) : Bx (PI X (Expr.Name y py) e (iStr te)) := ⟨pi_str h.un⟩
theorem bpi_list {X : Cx} {tg l : Expr} {tl : TE} (hl : Bx (PE X l tl)) : Bx (PI X tg l (iList (Cx.K X) tl)) := ⟨pi_list hl.un⟩
theorem bpg_name {X : Cx} {pos : Pos} {i : Nat} {x : Str} (hN : List.Nodup (Cx.N X)) (hi : (Cx.N X)[i]? = some x) (hx : L2.Loc (Env.scope (Cx.env X)) x) (hf : Cx.fn X x = true ∨ List.lookup x (Scope.names (Env.scope (Cx.env X))) = some NameKind.local := by first | exact .inl rfl | exact .inr rfl | assumption) : Bx (PG X (Expr.Name x pos) (gName i)) := ⟨pg_name hN hi hx hf⟩
theorem bpe_comp {X : Cx} {x : Str} {px : Pos} {elt iter : Expr} {ifs : List Expr} {scope : Scope} {pos : Pos} {N : List Str} {fr : List Nat} {tt : TT} {te : TE} {wi : TI} (hc : Cx.calm X = true) (S : CSc scope (Env.scope (Cx.env X)) x N (Cx.N X) fr) (hi : Bx (PI X (Expr.Name x px) iter wi)) (ht : ∀ (cl : List (Str × Addr)) (C : Addr) (s₀ : Shared) (H₀ : Hp) (ex : List Addr), Bx (PTs (Cx.blk X scope cl C N s₀ H₀ ex) ifs tt)) (he : ∀ (cl : List (Str × Addr)) (C : Addr) (s₀ : Shared) (H₀ : Hp) (ex : List Addr), Bx (PE (Cx.blk X scope cl C N s₀ H₀ ex) elt te)) (hs : ∀ (v : Value), foldedSetIterable iter (Cx.env X) v = pure v := by intro _; rfl) : Bx (PE X (Expr.ListComp elt [{ target := Expr.Name x px, iter := iter, ifs := ifs, is_async := (0 : Int) }] scope pos) (tComp wi fr tt te)) := ⟨pe_comp hc S hi.un (fun y0 y1 y2 y3 y4 => (ht y0 y1 y2 y3 y4).un) (fun y0 y1 y2 y3 y4 => (he y0 y1 y2 y3 y4).un) hs⟩
theorem bpe_compD {X : Cx} {y : Str} {py : Pos} {elt iter : Expr} {ifs : List Expr} {scope : Scope} {pos : Pos} {N : List Str} {fr : List Nat} {tt : TT} {te tel : TE} (hc : Cx.calm X = true) (S : CSc scope (Env.scope (Cx.env X)) y N (Cx.N X) fr) (hi : Bx (PE X iter te)) (ht : ∀ (cl : List (Str × Addr)) (C : Addr) (s₀ : Shared) (H₀ : Hp) (ex : List Addr), Bx (PTs (Cx.blk X scope cl C N s₀ H₀ ex) ifs tt)) (he : ∀ (cl : List (Str × Addr)) (C : Addr) (s₀ : Shared) (H₀ : Hp) (ex : List Addr), Bx (PE (Cx.blk X scope cl C N s₀ H₀ ex) elt tel)) (hs : ∀ (v : Value), foldedSetIterable iter (Cx.env X) v = pure v := by intro _; rfl) : Bx (PE X (Expr.ListComp elt [{ target := Expr.Name y py, iter := iter, ifs := ifs, is_async := (0 : Int) }] scope pos) (tCompD X te fr tt tel)) := ⟨pe_compD hc S hi.un (fun y0 y1 y2 y3 y4 => (ht y0 y1 y2 y3 y4).un) (fun y0 y1 y2 y3 y4 => (he y0 y1 y2 y3 y4).un) hs⟩
theorem bpts_nil {X : Cx} : Bx (PTs X [] tYes) := ⟨pts_nil ⟩
theorem bpts_one {X : Cx} {c : Expr} {t : TT} (h : Bx (PT X c t)) : Bx (PTs X [c] t) := ⟨pts_one h.un⟩
theorem bpa_nil {X : Cx} : Bx (PA X [] tNil) := ⟨pa_nil ⟩
theorem bpa_cons {X : Cx} {e : Expr} {es : List Expr} {te : TE} {t : TA} (ha : Bx (PE X e te)) (hr : Bx (PA X es t)) (hs : starEach (e :: es) (Cx.env X) = (false, eval e (Cx.env X)) :: starEach es (Cx.env X) := by rfl) : Bx (PA X (e :: es) (tCons te t)) := ⟨pa_cons ha.un hr.un hs⟩
theorem bpt_cmpR {X : Cx} {a b : Expr} {ta tb : TE} {pos : Pos} {op : CmpOp} {r : R2} (ho : OpR X (compareOp op) r) (ha : Bx (PE X a ta)) (hb : Bx (PE X b tb)) (hm : behindInMarks op b = false) : Bx (PT X (Expr.Compare a [op] [b] pos) (tTest (tOp r ta tb))) := ⟨pt_cmpR ho ha.un hb.un hm⟩
theorem bpt_betw {X : Cx} {a b c : Expr} {ta tb : TE} {k : Int} {pos : Pos} (ha : Bx (PE X a ta)) (hb : Bx (PE X b tb)) (hc : Bx (PE X c (tC (V.int k)))) (hm : lastMarks [CmpOp.LtE, CmpOp.LtE] [b, c] = false := by with_unfolding_all rfl) : Bx (PT X (Expr.Compare a [CmpOp.LtE, CmpOp.LtE] [b, c] pos) (tBetwT ta tb k)) := ⟨pt_betw ha.un hb.un hc.un hm⟩
theorem bpw_and1 {X : Cx} {a : Expr} {pos : Pos} {tA : TT} (ha : Bx (PT X a tA)) : Bx (PW X (Expr.BoolOp BoolOp.And [a] pos) tA) := ⟨pw_and1 ha.un⟩
theorem bpw_and {X : Cx} {a b : Expr} {pos : Pos} {tA tB' : TT} {rest : List Expr} (ha : Bx (PT X a tA)) (hb : Bx (PW X (Expr.BoolOp BoolOp.And (b :: rest) pos) tB')) : Bx (PW X (Expr.BoolOp BoolOp.And (a :: b :: rest) pos) (tAnd tA tB')) := ⟨pw_and ha.un hb.un⟩
theorem bpw_or1 {X : Cx} {a : Expr} {pos : Pos} {tA : TT} (ha : Bx (PT X a tA)) : Bx (PW X (Expr.BoolOp BoolOp.Or [a] pos) tA) := ⟨pw_or1 ha.un⟩
theorem bpw_or {X : Cx} {a b : Expr} {pos : Pos} {tA tB' : TT} {rest : List Expr} (ha : Bx (PT X a tA)) (hb : Bx (PW X (Expr.BoolOp BoolOp.Or (b :: rest) pos) tB')) : Bx (PW X (Expr.BoolOp BoolOp.Or (a :: b :: rest) pos) (tOr tA tB')) := ⟨pw_or ha.un hb.un⟩
theorem bpt_not {X : Cx} {a : Expr} {pos : Pos} {tA : TT} (ha : Bx (PT X a tA)) : Bx (PT X (Expr.UnaryOp UnaryOp.Not a pos) (tNot tA)) := ⟨pt_not ha.un⟩
theorem bpt_val {X : Cx} {e : Expr} {t : TE} (h : Bx (PE X e t)) (he : ∀ whole, isTrue e X.env whole = (do let v ← whole; standAt e.pos; holding [v] (truthy v)) := by intro _; rfl) : Bx (PT X e (tB t)) := ⟨pt_val h.un he⟩
theorem bpt_truth {X : Cx} {a : Expr} {ta : TE} (ha : Bx (PE X a ta)) (he : ∀ whole, isTrue a X.env whole = (do let v ← whole; standAt a.pos; holding [v] (truthy v)) := by intro _; rfl) : Bx (PT X a (fun σ H Q => ta σ H fun x H' => ∃ k, TruV X.K x H' k ∧ Q k H')) := ⟨pt_truth ha.un he⟩
theorem bpt_cmp {X : Cx} {a b : Expr} {pos : Pos} {op : CmpOp} {t : TE} (h : Bx (PC X op a b t)) (h1 : behindInMarks op b = false := by first | exact nobehind _ (by decide) (by decide) | rfl) : Bx (PT X (Expr.Compare a [op] [b] pos) (tB t)) := ⟨pt_cmp h.un h1⟩
theorem bpc_din {X : Cx} {o i : Expr} {td ty : TE} (hu : Around.units (Cx.A X) + (1 : Nat) < cLine) (hi : Bx (PE X i ty)) (ho : Bx (PE X o td)) : Bx (PC X CmpOp.In i o (tDIn ty td)) := ⟨pc_din hu hi.un ho.un⟩
theorem bpc_dnotin {X : Cx} {o i : Expr} {td ty : TE} (hu : Around.units (Cx.A X) + (1 : Nat) < cLine) (hi : Bx (PE X i ty)) (ho : Bx (PE X o td)) : Bx (PC X CmpOp.NotIn i o (tDNotIn ty td)) := ⟨pc_dnotin hu hi.un ho.un⟩
theorem bpe_cmpR {X : Cx} {a b : Expr} {ta tb : TE} {pos : Pos} {op : CmpOp} {r : R2} (ho : OpR X (compareOp op) r) (ha : Bx (PE X a ta)) (hb : Bx (PE X b tb)) (hm : behindInMarks op b = false) : Bx (PE X (Expr.Compare a [op] [b] pos) (tOp r ta tb)) := ⟨pe_cmpR ho ha.un hb.un hm⟩
theorem bpv {X : Cx} (i : Nat) {x : Str} {pos : Pos} (hN : (Cx.N X)[i]? = some x := by rfl) (hv : Vis (Env.scope (Cx.env X)) x := by first | exact Or.inl rfl | exact Or.inr (Or.inl rfl) | exact Or.inr (Or.inr rfl)) (hd : (x == Str.ofString "__debug__") = false := by decide) (hcd : (x == Str.ofString "__classdict__") = false := by decide) : Bx (PE X (Expr.Name x pos) (tVar i)) := ⟨pv i hN hv hd hcd⟩
theorem bpe_const {X : Cx} {x : Str} {v : V} {pos : Pos} (h : ∃ (u : Value), Cx.mg X x = some u ∧ L2.RelV v u) (hg : Gl X x := by rfl) (hd : (x == Str.ofString "__debug__") = false := by decide) : Bx (PE X (Expr.Name x pos) (tC v)) := ⟨pe_const h hg hd⟩
theorem bpe_cls {X : Cx} {x : Str} {C : Addr} {pos : Pos} (hm : Cx.mg X x = some (Value.ref C)) (hg : Gl X x := by rfl) (hd : (x == Str.ofString "__debug__") = false := by decide) : Bx (PE X (Expr.Name x pos) (tC (V.ref C))) := ⟨pe_cls hm hg hd⟩
theorem bpe_ty {X : Cx} {x : Str} {T : String} {pos : Pos} (hm : Cx.mg X x = none) (hv : bootBuiltins x = some (Value.type T)) (hg : Gl X x := by rfl) (hn : x ≠ Str.ofString "__name__" := by decide) (hd : (x == Str.ofString "__debug__") = false := by decide) : Bx (PE X (Expr.Name x pos) (tC (V.ty T))) := ⟨pe_ty hm hv hg hn hd⟩
theorem bpe_non {X : Cx} {j : Nat} {pos : Pos} : Bx (PE X (Expr.Constant Const.none j pos) (tC V.non)) := ⟨pe_non ⟩
theorem bpe_bl {X : Cx} {b : Bool} {j : Nat} {pos : Pos} : Bx (PE X (Expr.Constant (Const.bool b) j pos) (tC (V.bl b))) := ⟨pe_bl ⟩
theorem bpe_int {X : Cx} {i : Int} {j : Nat} {pos : Pos} : Bx (PE X (Expr.Constant (Const.int i) j pos) (tC (V.int i))) := ⟨pe_int ⟩
theorem bpe_str {X : Cx} {x : Str} {j : Nat} {pos : Pos} : Bx (PE X (Expr.Constant (Const.str x) j pos) (tC (V.str x))) := ⟨pe_str ⟩
theorem bpe_op {X : Cx} {a b : Expr} {ta tb : TE} {pos : Pos} {op : Operator} {r : R2} (ho : OpR X (binaryOp op) r) (ha : Bx (PE X a ta)) (hb : Bx (PE X b tb)) : Bx (PE X (Expr.BinOp a op b pos) (tOp r ta tb)) := ⟨pe_op ho ha.un hb.un⟩
theorem bpe_un {X : Cx} {a : Expr} {ta : TE} {pos : Pos} {op : UnaryOp} {r : V → Hp → VK → Prop} (ho : UnR X (unaryOp op) r) (ha : Bx (PE X a ta)) : Bx (PE X (Expr.UnaryOp op a pos) (tUn r ta)) := ⟨pe_un ho ha.un⟩
theorem bpe_betw {X : Cx} {a b c : Expr} {ta tb : TE} {k : Int} {pos : Pos} (ha : Bx (PE X a ta)) (hb : Bx (PE X b tb)) (hc : Bx (PE X c (tC (V.int k)))) (hm : lastMarks [CmpOp.LtE, CmpOp.LtE] [b, c] = false := by with_unfolding_all rfl) : Bx (PE X (Expr.Compare a [CmpOp.LtE, CmpOp.LtE] [b, c] pos) (tBetw ta tb k)) := ⟨pe_betw ha.un hb.un hc.un hm⟩
theorem bpe_one {X : Cx} {a : Expr} {pos : Pos} {op : BoolOp} {t : TE} (h : Bx (PE X a t)) : Bx (PE X (Expr.BoolOp op [a] pos) t) := ⟨pe_one h.un⟩
theorem bpe_and {X : Cx} {a b : Expr} {ta tb : TE} {pos : Pos} {rest : List Expr} (ha : Bx (PE X a ta)) (hb : Bx (PE X (Expr.BoolOp BoolOp.And (b :: rest) pos) tb)) : Bx (PE X (Expr.BoolOp BoolOp.And (a :: b :: rest) pos) (tAndV ta tb)) := ⟨pe_and ha.un hb.un⟩
theorem bpe_ifExp {X : Cx} {a b : Expr} {ta tb : TE} {pos : Pos} {tA : TT} {c : Expr} (hc : Bx (PT X c tA)) (ha : Bx (PE X a ta)) (hb : Bx (PE X b tb)) : Bx (PE X (Expr.IfExp c a b pos) (tIf tA ta tb)) := ⟨pe_ifExp hc.un ha.un hb.un⟩
theorem bpe_slice {X : Cx} {e : Expr} {te : TE} {lo hi : Option Expr} {tl th : TO} {pos p2 : Pos} {r : V → Option Int → Option Int → Hp → VK → Prop} (hr : SlR X r) (he : Bx (PE X e te)) (hl : Bx (PO X lo tl)) (hu : Bx (PO X hi th)) : Bx (PE X (Expr.Subscript e (Expr.Slice lo hi none p2) pos) (tSl r te tl th)) := ⟨pe_slice hr he.un hl.un hu.un⟩
theorem bpo_none {X : Cx} : Bx (PO X none tNoPart) := ⟨po_none ⟩
theorem bpo_some {X : Cx} {e : Expr} {te : TE} (h : Bx (PE X e te)) : Bx (PO X (some e) (tPart te)) := ⟨po_some h.un⟩
theorem bpe_ixA {X : Cx} {a b : Expr} {ta tb : TE} {pos : Pos} {r : R2} (hr : IxR X r) (ha : Bx (PE X a ta)) (hb : Bx (PE X b tb)) (hs : PlainIx b := by exact fun _ _ => rfl) : Bx (PE X (Expr.Subscript a b pos) (tOp r ta tb)) := ⟨pe_ixA hr ha.un hb.un hs⟩
theorem bpe_dgetA {X : Cx} {o i : Expr} {td ty : TE} {pos : Pos} (hu : Around.units (Cx.A X) + (1 : Nat) < cLine) (ho : Bx (PE X o td)) (hi : Bx (PE X i ty)) (hs : NoSl i := by exact fun _ _ => rfl) : Bx (PE X (Expr.Subscript o i pos) (tDGet td ty)) := ⟨pe_dgetA hu ho.un hi.un hs⟩
theorem bpe_lst {X : Cx} {es : List Expr} {t : TA} {pos : Pos} (h : Bx (PA X es t)) : Bx (PE X (Expr.List es pos) (tLst t)) := ⟨pe_lst h.un⟩
theorem bpe_lstS {X : Cx} {es : List Expr} {xs : List Str} {pos : Pos} (h : strConsts es = some xs := by rfl) : Bx (PE X (Expr.List es pos) (tLstC (List.map V.str xs))) := ⟨pe_lstS h⟩
theorem bpe_tup {X : Cx} {es : List Expr} {t : TA} {pos : Pos} {x1 : Nat} (h : Bx (PA X es t)) : Bx (PE X (Expr.Tuple es x1 pos) (tTup t)) := ⟨pe_tup h.un⟩
theorem bpe_dnewK {X : Cx} {pos : Pos} : Bx (PE X (Expr.Dict [] [] pos) tDNewK) := ⟨pe_dnewK ⟩
theorem bpe_fldA {X : Cx} {e : Expr} {ta : TE} {pos : Pos} {f : Str} (he : Bx (PE X e ta)) (hb : attributeBase e f (Cx.env X) (eval e (Cx.env X)) = eval e (Cx.env X) := by rfl) : Bx (PE X (Expr.Attribute e f pos) (tFld (Cx.K X) ta f)) := ⟨pe_fldA he.un hb⟩
theorem bpe_fldK {X : Cx} {e : Expr} {ta : TE} {pos : Pos} {f : Str} (K : W.Frag) (he : Bx (PE X e ta)) (h : Cx.K X = K := by rfl) (hb : attributeBase e f (Cx.env X) (eval e (Cx.env X)) = eval e (Cx.env X) := by rfl) : Bx (PE X (Expr.Attribute e f pos) (tFld K ta f)) := ⟨pe_fldK K he.un h hb⟩
theorem bpe_fnH {X : Cx} {k : Nat} {f : Addr} {fd : FuncData} {ps : List Str} {sp : Sp} {x : Str} {st : Stmt} {p pos : Pos} {e : Expr} {es : List Expr} {t : TA} (D : DefOk (Cx.K X) (Cx.mg X) x st ps f fd) (F : FnOkH (Cx.prog X) (Cx.w X) (Cx.K X) (Cx.mg X) (Cx.base X) k f fd ps sp) (hr : RoomH k (Cx.A X)) (ha : Bx (PA X (e :: es) t)) (hg : Gl X x := by rfl) (hdb : (x == Str.ofString "__debug__") = false := by decide) (he : starEach (e :: es) (Cx.env X) = (false, eval e (Cx.env X)) :: starEach es (Cx.env X) := by rfl) (hpl : (List.any (backTo pos (starEach es (Cx.env X))) fun (x : Bool × Sem Value) => Prod.fst x) = false := by rfl) : Bx (PE X (Expr.Call (Expr.Name x p) (e :: es) [] pos) (tCall sp [] E0 t)) := ⟨pe_fnH D F hr ha.un hg hdb he hpl⟩
theorem bpe_fnx {X : Cx} {P : Program} {w : World} {k : Nat} {f : Addr} {fd : FuncData} {ps : List Str} {sp : Sp} {E : XK} {x : Str} {st : Stmt} {p pos : Pos} {e : Expr} {es : List Expr} {t : TA} (D : DefOk (Cx.K X) (Cx.mg X) x st ps f fd) (F : FnOk (Cx.prog X) (Cx.w X) (Cx.K X) (Cx.mg X) (Cx.base X) (CX1 P w) k f fd ps sp) (hr : Room k (Cx.A X)) (hx : Passes (CX1 P w) X E) (ha : Bx (PA X (e :: es) t)) (hg : Gl X x := by rfl) (hdb : (x == Str.ofString "__debug__") = false := by decide) (he : starEach (e :: es) (Cx.env X) = (false, eval e (Cx.env X)) :: starEach es (Cx.env X) := by rfl) (hpl : (List.any (backTo pos (starEach es (Cx.env X))) fun (x : Bool × Sem Value) => Prod.fst x) = false := by rfl) : Bx (PE X (Expr.Call (Expr.Name x p) (e :: es) [] pos) (tCall sp [] E t)) := ⟨pe_fnx D F hr hx ha.un hg hdb he hpl⟩
theorem bpe_make0 {X : Cx} {CX : CXT} {k : Nat} {f C : Addr} {fd : FuncData} {ps : List Str} {sp : Sp} {dvs : List V} {ds : List Value} {E : XK} {x : Str} {p pos : Pos} (M : Mk (Cx.K X) C f) (F : FnOk (Cx.prog X) (Cx.w X) (Cx.K X) (Cx.mg X) (Cx.base X) CX k f fd ps sp) (hr : Room (k + (1 : Nat)) (Cx.A X)) (hg : Gl X x) (hm : Cx.mg X x = some (Value.ref C)) (hb : L2.Binds (Cx.K X) fd ps ds) (hd : Vals dvs ds) (hx : Passes CX X E) (hdb : (x == Str.ofString "__debug__") = false := by decide) : Bx (PE X (Expr.Call (Expr.Name x p) [] [] pos) (tMake C sp dvs E tNil)) := ⟨pe_make0 M F hr hg hm hb hd hx hdb⟩
theorem bpe_callB {X : Cx} {x : Str} {p pos : Pos} {e : Expr} {es : List Expr} {t : TA} {id : String} {r : List V → Hp → VK → Prop} (hc : CallR X (Value.builtin id) r) (hg : Gl X x) (hm : Cx.mg X x = none) (hv : bootBuiltins x = some (Value.builtin id)) (ha : Bx (PA X (e :: es) t)) (hn : x ≠ Str.ofString "__name__" := by decide) (hdb : (x == Str.ofString "__debug__") = false := by decide) (he : starEach (e :: es) (Cx.env X) = (false, eval e (Cx.env X)) :: starEach es (Cx.env X) := by rfl) (hpl : (List.any (backTo pos (starEach es (Cx.env X))) fun (x : Bool × Sem Value) => Prod.fst x) = false := by rfl) : Bx (PE X (Expr.Call (Expr.Name x p) (e :: es) [] pos) (tCB r t)) := ⟨pe_callB hc hg hm hv ha.un hn hdb he hpl⟩
theorem bpe_callTy {X : Cx} {x : Str} {p pos : Pos} {e : Expr} {es : List Expr} {t : TA} {T : String} {r : List V → Hp → VK → Prop} (hc : CallR X (Value.type T) r) (hg : Gl X x) (hm : Cx.mg X x = none) (hv : bootBuiltins x = some (Value.type T)) (ha : Bx (PA X (e :: es) t)) (hn : x ≠ Str.ofString "__name__" := by decide) (hdb : (x == Str.ofString "__debug__") = false := by decide) (he : starEach (e :: es) (Cx.env X) = (false, eval e (Cx.env X)) :: starEach es (Cx.env X) := by rfl) (hpl : (List.any (backTo pos (starEach es (Cx.env X))) fun (x : Bool × Sem Value) => Prod.fst x) = false := by rfl) : Bx (PE X (Expr.Call (Expr.Name x p) (e :: es) [] pos) (tCB r t)) := ⟨pe_callTy hc hg hm hv ha.un hn hdb he hpl⟩
theorem bpe_bm0 {X : Cx} {o : Expr} {to : TE} {name : Str} {apos cpos : Pos} {T id : String} {r : V → List V → Hp → VK → Prop} (pa : PlainAttrs T) (slot : Slot T name id) (hty : typeOf (Value.builtin id) = pure (Value.type "method_descriptor")) (hm : MtR X id r) (ho : Bx (PE X o to)) (hbase : attributeBase o name (Cx.env X) (eval o (Cx.env X)) = eval o (Cx.env X) := by rfl) (hline : (Pos.endLine apos == Pos.line cpos) = true := by rfl) : Bx (PE X (Expr.Call (Expr.Attribute o name apos) [] [] cpos) (tBM0 (Cx.K X) T r to)) := ⟨pe_bm0 pa slot hty hm ho.un hbase hline⟩
theorem bpe_bm {X : Cx} {o e : Expr} {es : List Expr} {to : TE} {t : TA} {name : Str} {apos cpos : Pos} {T id : String} {r : V → List V → Hp → VK → Prop} (pa : PlainAttrs T) (slot : Slot T name id) (hty : typeOf (.builtin id) = pure (.type "method_descriptor")) (hm : MtR X id r) (ho : Bx (PE X o to)) (ha : Bx (PA X (e :: es) t))
    (hbase : attributeBase o name X.env (eval o X.env) = eval o X.env := by rfl)
    (hfew : ((backTo cpos (starEach (e :: es) X.env)).all (fun x => !x.1) && (backToKw cpos (keywordEach [] X.env)).all (fun x => x.1.isSome) && decide ((e :: es).length + ([] : List Keyword).length + (if ([] : List Keyword).isEmpty then 0 else 1) < 30)) = true := by rfl)
    (hline : (apos.endLine == cpos.line) = true := by rfl) (hs : starEach (e :: es) X.env = (false, eval e X.env) :: starEach es X.env := by rfl) (hplain : (backTo cpos (starEach es X.env)).any (·.1) = false := by rfl) :
    Bx (PE X (.Call (.Attribute o name apos) (e :: es) [] cpos) (tBM X.K T r to t)) := ⟨pe_bm pa slot hty hm ho.un ha.un hbase hfew hline hs hplain⟩
theorem bpe_dpop1 {X : Cx} {o e : Expr} {apos cpos : Pos} {td ty : TE} (ho : Bx (PE X o td)) (he : Bx (PE X e ty)) (m : M1 X o (Str.ofString "pop") apos e cpos := by exact ⟨rfl, rfl, rfl, rfl⟩) : Bx (PE X (Expr.Call (Expr.Attribute o (Str.ofString "pop") apos) [e] [] cpos) (tDPop1 td ty)) := ⟨pe_dpop1 ho.un he.un m⟩
theorem bpe_mx {X : Cx} {P : Program} {w : World} {k : Nat} {f C : Addr} {fd : FuncData} {ps : List Str} {sp : Sp} {E : XK} {m qual : Str} {st : Stmt} {apos pos : Pos} {e o : Expr} {es : List Expr} {ta : TE} {t : TA} {pl : Sem Bool} (he : Bx (PE X o ta)) (c : Cls X.K C) (D : MethOk X.K C m qual st ps f fd) (F : FnOk X.prog X.w X.K X.mg X.base (CX1 P w) k f fd ps sp) (hr : Room k X.A) (hx : Passes (CX1 P w) X E) (ha : Bx (PA X (e :: es) t))
    (hst : starEach (e :: es) X.env = (false, eval e X.env) :: starEach es X.env := by rfl) (hpl : (backTo pos (starEach es X.env)).any (·.1) = false := by rfl)
    (ht : eval (.Call (.Attribute o m apos) (e :: es) [] pos) X.env = (do
      let ov ← eval o X.env
      standAt apos.atName
      let (f, first) ← holding [ov] (getMethod ov m pl)
      callWith pos f first (backTo pos (starEach (e :: es) X.env)) (backToKw pos (keywordEach [] X.env))) := by rfl) :
    Bx (PE X (.Call (.Attribute o m apos) (e :: es) [] pos) (tMeth C m sp [] E ta t)) := ⟨pe_mx he.un c D F hr hx ha.un hst hpl ht⟩
theorem bpe_mx0 {X : Cx} {P : Program} {w : World} {k : Nat} {f C : Addr} {fd : FuncData} {ps : List Str} {sp : Sp} {E : XK} {m qual : Str} {st : Stmt} {apos pos : Pos} {o : Expr} {ta : TE} {pl : Sem Bool} (he : Bx (PE X o ta)) (c : Cls X.K C) (D : MethOk X.K C m qual st ps f fd) (F : FnOk X.prog X.w X.K X.mg X.base (CX1 P w) k f fd ps sp) (hr : Room k X.A) (hx : Passes (CX1 P w) X E)
    (ht : eval (.Call (.Attribute o m apos) [] [] pos) X.env = (do
      let ov ← eval o X.env
      standAt apos.atName
      let (f, first) ← holding [ov] (getMethod ov m pl)
      callWith pos f first (backTo pos (starEach [] X.env)) (backToKw pos (keywordEach [] X.env))) := by rfl) :
    Bx (PE X (.Call (.Attribute o m apos) [] [] pos) (tMeth C m sp [] E ta tNil)) := ⟨pe_mx0 he.un c D F hr hx ht⟩
theorem Bx.bpt {X : Cx} {e : Expr} {t : TT} (h : Bx (PW X e t)) : Bx (PT X e t) := ⟨PW.pt h.un⟩
end L2
set_option Elab.async false
set_option linter.all false
set_option maxRecDepth 100000
namespace L2
open PySem PySem.Spec PyProof.Rows
theorem tyV_str {K : PySem.W.Frag} {z : Str} {H : Hp} : tyV K "str" (.str z) H = True := eq_true rfl
theorem tyV_lst {K : PySem.W.Frag} {p : Addr} {H : Hp} {xs : List V} (h : SqL K H p xs) : tyV K "list" (.ref p) H := .inl ⟨rfl, xs, h⟩
theorem ite_T {A B : Prop} {c : Prop} [Decidable c] (hc : c) (h : A) : if c then A else B := by rw [if_pos hc]; exact h
theorem ite_F {A B : Prop} {c : Prop} [Decidable c] (hc : ¬ c) (h : B) : if c then A else B := by rw [if_neg hc]; exact h
end L2
namespace L2
open PySem PySem.Spec PyProof.Rows
theorem web_new {C : Addr} {H H1 : Hp} {p dx : Addr} {W : WS} (hp : H p = none) (hdx : H dx = none) (off : ∀ b o, b ≠ p → upd (upd H dx (.own p)) p (.ins C dx []) b = some o → H1 b = some o)
    (own : ∀ b ∈ W.own p, b = p ∨ upd (upd H dx (.own p)) p (.ins C dx []) b = none) : Mine H H1 (W.own p) := by
  refine ⟨fun b o e => off b o (ne_of_none e hp) ?_, fun b hb => ?_⟩
  · rw [upd_ne (ne_of_none e hp), upd_ne (ne_of_none e hdx)]
    exact e
  · rcases own b hb with rfl | z
    · exact hp
    · by_cases h1 : b = p
      · rw [h1]; exact hp
      · rw [upd_ne h1] at z
        by_cases h2 : b = dx
        · rw [h2]; exact hdx
        · rw [upd_ne h2] at z
          exact z
theorem WebAt.beside {C : Addr} {H : Hp} {p a : Addr} {W : WS} {o : HO} (w : WebAt C H p W) (ha : a ∉ W.own p) (ht : ∀ xs, H a ≠ some (.tup xs)) : WebAt C (upd H a o) p W :=
  w.keep (fun b u hb e => by rw [upd_ne (fun z => ha (by rw [← z]; exact hb))]; exact e) fun b xs e => by
    rw [upd_ne (fun z => ht xs (by rw [← z]; exact e))]
    exact e
end L2
set_option Elab.async false
set_option linter.all false
set_option maxRecDepth 100000
namespace L2
open PySem PySem.Spec PyProof.Rows
section
variable {prog : Program} {w : World} {A : Around} {E : Value → Shared → Prop} {s : Shared} {a₀ : Array Keyed} {κ : PyProof.Rows.KeyKind}
end
end L2
namespace L2
open PySem PySem.Spec PyProof.Rows
section
variable {prog : Program} {w : World} {A : Around} {E : Value → Shared → Prop} {s : Shared}
theorem sort_shell {a : Addr} {vs : List Value} {n : Nat} {R : Array Value → Prop} {P : PySem.Fin → Shared → Prop} (ho : s.heap.get? a = some (seqObj "list" vs.toArray n)) (hz : vs.length ≤ sizeLine) (hR : ∀ out, R out → out.size = vs.length)
    (short : vs.length < 2 → R vs.toArray)
    (long : 2 ≤ vs.length → ∀ z : Shared, (∀ b o, b ≠ a → s.heap.get? b = some o → z.heap.get? b = some o) → ∃ kd, wpAny (model prog w) A (keyKind' vs.toArray) (fun k z' => k = kd ∧ z' = z) E z ∧
      wpS (model prog w) A E z sortRuns' (fun _ y => failedOf y = none ∧ R ((arrOf y).map (·.2))) (SortSt.mk' kd (pairsOf vs) #[] 7 none))
    (h : ∀ out h' c, R out → (∀ b o, b ≠ a → s.heap.get? b = some o → h'.get? b = some o) → h'.get? a = some (seqObj "list" out c) → P (.done (.ret .none)) { s with heap := h' }) :
    wpAny (model prog w) A (Builtin.«list.sort» ⟨[.ref a], []⟩) P E s := by
  have la : a < s.heap.objs.size := Heap.lt_size ho
  have vsz : vs.toArray.size = vs.length := by simp
  rw [list_sort_plain]
  refine wpAny_bind (listItems_at ho rfl (wpAny_bind (listUpdate_at ho rfl ?_ (by rw [vsz]; exact hz) (Nat.zero_le _))))
  obtain ⟨ep, he⟩ : ∃ ep, (s.heap.update a (Obj.mapSeq fun _ => (#[] : Array Value))).get? a = some (seqObj "list" #[] ep) := ⟨_, get?_update_seq ho fun _ => #[]⟩
  have oth : ∀ b o, b ≠ a → s.heap.get? b = some o → (s.heap.update a (Obj.mapSeq fun _ => (#[] : Array Value))).get? b = some o := fun b o hb e => by
    rw [Heap.get?_update_ne _ _ _ _ hb]
    exact e
  refine wpAny_bind (seqEpoch_at he rfl (wpAny_bind (wpAny_newTuple (wpAny_bind (wpAny_newList (wpAny_holding ?_) (Nat.zero_le _))) (by simpa using hz))))
  generalize hg : s.heap.update a (Obj.mapSeq fun _ => (#[] : Array Value)) = g at he oth
  have he3 : ((g.push (seqObj "tuple" vs.toArray 0)).push (seqObj "list" #[] 0)).get? a = some (seqObj "list" #[] ep) := Heap.get?_push_of_some _ (Heap.get?_push_of_some _ he)
  have oth3 : ∀ b o, b ≠ a → s.heap.get? b = some o → ((g.push (seqObj "tuple" vs.toArray 0)).push (seqObj "list" #[] 0)).get? b = some o := fun b o hb e => Heap.get?_push_of_some _ (Heap.get?_push_of_some _ (oth b o hb e))
  show wpAny (model prog w) A _ P E { s with heap := (g.push (seqObj "tuple" vs.toArray 0)).push (seqObj "list" #[] 0) }
  generalize (g.push (seqObj "tuple" vs.toArray 0)).push (seqObj "list" #[] 0) = G at he3 oth3
  dsimp only
  have last : ∀ out : Array Value, R out → wpAny (model prog w) A (do
      let touched := (← seqEpoch a) != ep
      Builtin.List.listUpdate (.ref a) fun _ => out
      if touched then rule "list.sort.modified"; raiseError "ValueError" "list modified during sort"
      ret .none) P E { s with heap := G } := fun out ro => by
    refine wpAny_bind (seqEpoch_at he3 rfl (wpAny_bind (listUpdate_at he3 rfl ?_ (Nat.zero_le _) (by show out.size ≤ _; rw [hR out ro]; exact Nat.le_succ_of_le hz))))
    rw [bne_self_eq_false, if_neg Bool.false_ne_true]
    refine wpAny_pure (h out _ _ ro (fun b o hb e => ?_) (get?_update_seq he3 fun _ => out))
    rw [Heap.get?_update_ne _ _ _ _ hb]
    exact oth3 b o hb e
  by_cases few : vs.length < 2
  · rw [if_pos (by rw [vsz]; exact few), if_pos (by rw [vsz]; exact few)]
    refine wpAny_bind (wpAny_pure ?_)
    rw [StateT.run_pure]
    refine wpAny_bind (wpAny_pure ?_)
    have eo : (arrOf (SortSt.mk' general' (vs.toArray.zip vs.toArray) #[] 7 none)).map (·.2) = vs.toArray := by
      show (vs.toArray.zip vs.toArray).map (·.2) = vs.toArray
      apply Array.toList_inj.mp
      simp [List.map_snd_zip]
    have := last vs.toArray (short few)
    dsimp only
    rw [eo]
    exact this
  · rw [if_neg (by rw [vsz]; exact few), if_neg (by rw [vsz]; exact few)]
    obtain ⟨kd, hk, hr⟩ := long (by omega) { s with heap := G } oth3
    refine wpAny_bind (wpAny_mono hk ?_ fun _ _ e => e)
    rintro k z' ⟨rfl, rfl⟩
    refine wpAny_bind (wpAny_mono hr ?_ fun _ _ e => e)
    rintro ⟨⟨⟩, y⟩ z' ⟨rfl, hf, ro⟩
    have := last _ ro
    dsimp only at hf ro ⊢
    rw [hf]
    exact this
end
end L2
set_option Elab.async false
set_option linter.all false
set_option maxRecDepth 100000
namespace L2
open PySem PySem.Spec PyProof.Rows PySem.Builtin PySem.Builtin.Str
def cutC (c : Nat) : List Nat → List (List Nat)
  | [] => [[]]
  | a :: r => if a = c then [] :: cutC c r else match cutC c r with
    | [] => [[a]]
    | p :: q => (a :: p) :: q
def joinC (c : Nat) : List (List Nat) → List Nat
  | [] => []
  | [p] => p
  | p :: q :: r => p ++ c :: joinC c (q :: r)
theorem cutC_ne (c : Nat) (l : List Nat) : cutC c l ≠ [] := by
  cases l with
  | nil => simp [cutC]
  | cons a r =>
    unfold cutC
    split
    · simp
    · split <;> simp
theorem cutC_free {c : Nat} : ∀ {p : List Nat} (r : List Nat), c ∉ p → cutC c (p ++ r) = (match cutC c r with | [] => [p] | a :: q => (p ++ a) :: q)
  | [], r, _ => by
    show cutC c r = _
    have := cutC_ne c r
    split
    · contradiction
    · rename_i e; rw [e]; rfl
  | a :: p, r, h => by
    have h1 : ¬ a = c := fun z => h (by rw [z]; exact List.mem_cons_self)
    have ih := cutC_free (p := p) r fun z => h (List.mem_cons_of_mem _ z)
    show (if a = c then _ else match cutC c (p ++ r) with | [] => [[a]] | p :: q => (a :: p) :: q) = _
    rw [if_neg h1, ih]
    have := cutC_ne c r
    cases q : cutC c r with
    | nil => contradiction
    | cons b t => rfl
theorem cutC_join {c : Nat} : ∀ {ps : List (List Nat)}, ps ≠ [] → (∀ p ∈ ps, c ∉ p) → cutC c (joinC c ps) = ps
  | [], h, _ => absurd rfl h
  | [p], _, h => by
    have := cutC_free (c := c) (p := p) [] (h p List.mem_cons_self)
    rw [List.append_nil] at this
    show cutC c p = _
    rw [this]
    show [p ++ []] = [p]
    rw [List.append_nil]
  | p :: q :: r, _, h => by
    have ih := cutC_join (c := c) (ps := q :: r) (by simp) fun z hz => h z (List.mem_cons_of_mem _ hz)
    show cutC c (p ++ c :: joinC c (q :: r)) = _
    rw [cutC_free _ (h p List.mem_cons_self)]
    have e : cutC c (c :: joinC c (q :: r)) = [] :: q :: r := by
      show (if c = c then [] :: cutC c (joinC c (q :: r)) else _) = _
      rw [if_pos rfl, ih]
    rw [e]
    show (p ++ []) :: _ = _
    rw [List.append_nil]
theorem join_one (c : Nat) (ys : List (List Nat)) : Str.join ⟨#[c]⟩ (ys.map tx) = tx (joinC c ys) := by
  induction ys with
  | nil => rfl
  | cons a r ih =>
    cases r with
    | nil => simp [Str.join, tx, joinC]
    | cons b r =>
      show tx a ++ tx [c] ++ Str.join ⟨#[c]⟩ ((b :: r).map tx) = _
      rw [ih, tx_app, tx_app]
      show tx (a ++ [c] ++ joinC c (b :: r)) = tx (a ++ c :: joinC c (b :: r))
      rw [List.append_assoc]
      rfl
theorem split_ne (x y : Str) : Txt.split x y ≠ [] := by
  unfold Txt.split
  split
  · simp
  · split
    · simp
    · intro z
      have := length_partsBetween x (occurrences x y 0 x.length (x.length + 1)) y.length
      rw [z] at this
      simp at this
theorem split_cut (c : Nat) (l : List Nat) : Txt.split (tx l) ⟨#[c]⟩ = (cutC c l).map tx := by
  have h1 := StrLaws.join_split (tx l) ⟨#[c]⟩
  have h2 := StrLaws.split_free (tx l) c
  have h3 := split_ne (tx l) ⟨#[c]⟩
  generalize Txt.split (tx l) ⟨#[c]⟩ = ps at h1 h2 h3
  obtain ⟨qs, rfl⟩ : ∃ qs : List (List Nat), ps = qs.map tx := ⟨ps.map fun p => p.cps.toList, by
    rw [List.map_map]
    exact (List.map_id ps).symm.trans (List.map_congr_left fun a _ => (tx_codes a).symm)⟩
  rw [join_one, tx_inj] at h1
  rw [← h1, cutC_join (fun z => h3 (by rw [z]; rfl)) fun p hp => by
    have := h2 (tx p) (List.mem_map.mpr ⟨p, hp, rfl⟩)
    rwa [tx_list] at this]
theorem vals_strs : ∀ l : List (Str × Tok), Vals ((l.map (·.1)).map V.str) (strValues l)
  | [] => .nil
  | p :: r => .cons ⟨p.2, rfl⟩ (vals_strs r)
section
variable {X : Cx}
def rSplit : V → List V → Hp → VK → Prop := fun x xs H Q => ∃ (c : Nat) (l : List Nat), x = .str (tx l) ∧ xs = [.str ⟨#[c]⟩] ∧ l.length + 2 ≤ sizeLine ∧ ∀ p, H p = none → Q (.ref p) (upd H p (.lst ((cutC c l).map fun z => .str (tx z))))
theorem mt_split : MtR X "str.split" rSplit := by
  intro pins s σ H x xs v us Q I rx rs h
  obtain ⟨c, l, rfl, rfl, hz, q⟩ := h
  obtain ⟨t, rfl⟩ := rx
  obtain ⟨u, rfl, t', rfl⟩ := rs.one
  have hl : (tx l).length + 2 ≤ sizeLine := by rw [tx_len]; exact hz
  have hn : (partsBetween (tx l) (occurrences (tx l) ⟨#[c]⟩ 0 (tx l).length ((tx l).length + 1)) (⟨#[c]⟩ : Str).length).length ≤ sizeLine := by
    have e1 := StrLaws.occ_length_le (tx l) ⟨#[c]⟩ 0 (tx l).length ((tx l).length + 1)
    rw [length_partsBetween]; omega
  have fin : ∀ (ps : List (Str × Tok)) (k : Nat), ps.map (·.1) = Txt.split (tx l) ⟨#[c]⟩ → EP X pins σ Q (.ref s.heap.objs.size) { s with heap := s.heap.push { cls := .type "list", data := .seq (strValues ps).toArray }, toks := k } := fun ps k e => by
    have hv := vals_strs ps
    rw [e, split_cut, List.map_map] at hv
    have hc : (cutC c l).length ≤ sizeLine := by
      have e2 : (ps.map (·.1)).length = (cutC c l).length := by rw [e, split_cut, List.length_map]
      have e3 : (Txt.split (tx l) ⟨#[c]⟩).length ≤ sizeLine := by
        unfold Txt.split
        split
        · exact Nat.le_trans (show 1 ≤ 2 by decide) (Nat.le_trans (Nat.le_add_left 2 _) hl)
        · split
          · exact Nat.le_trans (show 1 ≤ 2 by decide) (Nat.le_trans (Nat.le_add_left 2 _) hl)
          · exact hn
      rw [← e2, e]
      exact e3
    refine ⟨.ref s.heap.objs.size, _, I.laid (fun b o e => Heap.get?_push_of_some _ e) (Nat.le_refl _) ?_, rfl, q _ (I.hok.fresh (Nat.le_refl _))⟩
    exact ⟨by rw [List.length_map]; exact hc, _, 0, hv, Heap.get?_push_size _ rfl⟩
  cases h1 : (decide ((tx l).length < (⟨#[c]⟩ : Str).length) || decide (strKind (tx l) < strKind ⟨#[c]⟩))
  · cases hf : (occurrences (tx l) ⟨#[c]⟩ 0 (tx l).length ((tx l).length + 1)).isEmpty
    · refine call_meets F.slot_str_split (typeIs_str _ _ _) F.entry_str_split (F.args_str_split_2 _ _) (meets_str_split_sep (tx l) ⟨#[c]⟩ t t' h1 rfl hf (by omega) hn) ?_
      show wants _ _ _ { s with toks := _, heap := s.heap.push { cls := .type "list", data := .seq (strsFrom s.toks (partsBetween (tx l) (occurrences (tx l) ⟨#[c]⟩ 0 (tx l).length ((tx l).length + 1)) (⟨#[c]⟩ : Str).length)).toArray } }
      rw [strsFrom_eq]
      exact fin (numbered s.toks _) _ ((numbered_texts _ _).trans ((if_neg (ne_true_of_eq_false h1)).trans (if_neg (ne_true_of_eq_false hf))).symm)
    · exact call_meets F.slot_str_split (typeIs_str _ _ _) F.entry_str_split (F.args_str_split_2 _ _) (meets_str_split_not_found (tx l) ⟨#[c]⟩ t t' h1 rfl hf)
        (fin [(tx l, t)] s.toks ((if_neg (ne_true_of_eq_false h1)).trans (if_pos hf)).symm)
  · exact call_meets F.slot_str_split (typeIs_str _ _ _) F.entry_str_split (F.args_str_split_2 _ _) (meets_str_split_cannot_occur (tx l) ⟨#[c]⟩ t t' h1)
      (fin [(tx l, t)] s.toks (if_pos h1).symm)
def rJoinS (K : PySem.W.Frag) : V → List V → Hp → VK → Prop := fun x xs H Q => ∃ (p : Addr) (ys : List (List Nat)) (c : Nat), x = .str (tx [c]) ∧ xs = [.ref p] ∧ SqL K H p (ys.map fun l => V.str (tx l)) ∧ (ys.map List.length).sum + ys.length ≤ 16777216 ∧ Q (.str (tx (joinC c ys))) H
theorem mt_joinS : MtR X "str.join" (rJoinS X.K) := by
  intro pins s σ H x xs v us Q I rx rs h
  obtain ⟨p, ys, c, rfl, rfl, hq, hz, q⟩ := h
  obtain ⟨t, rfl⟩ := rx
  obtain ⟨u, rfl, hu⟩ := rs.one
  cases hu
  obtain ⟨its, r, pl, _⟩ := I.list hq
  have r' : Vals ((ys.map tx).map V.str) its := by rw [List.map_map]; exact r
  refine join_list pl.isList (strsAre_of r') ?_ fun t' k => ⟨.str (tx (joinC c ys)), H, I.tok _, ⟨t', ?_⟩, q⟩
  · have e : (ys.map tx).map (·.length) = ys.map List.length := by
      rw [List.map_map]
      exact List.map_congr_left fun a _ => tx_len a
    rw [e, List.length_map]
    show _ + _ * 1 ≤ _
    omega
  · unfold Txt.join
    rw [StrLaws.glued_eq_join]
    show Value.str (Str.join ⟨#[c]⟩ (ys.map tx)) t' = _
    rw [join_one]
end
section
variable {X : Cx} {st : Stmt} {rest : List Stmt} {t u : TS} {e : Expr} {es : List Expr} {te : TE} {ta : TA}
end
end L2
namespace L2
open PySem PySem.Spec PyProof.Rows
section
variable {X : Cx} {st : Stmt} {rest : List Stmt} {t u : TS} {e : Expr} {es : List Expr} {te : TE} {ta : TA}
end
theorem rd_split {c : Nat} {l : List Nat} {H : Hp} {Q : VK} (hz : l.length + 2 ≤ sizeLine) (q : ∀ p, H p = none → Q (.ref p) (upd H p (.lst ((cutC c l).map fun z => .str (tx z))))) : rSplit (.str (tx l)) [.str (tx [c])] H Q := ⟨c, l, rfl, rfl, hz, q⟩
theorem rd_joinS {K : PySem.W.Frag} {c : Nat} {p : Addr} {ys : List (List Nat)} {H : Hp} {Q : VK} (hq : SqL K H p (ys.map fun l => V.str (tx l))) (hz : (ys.map List.length).sum + ys.length ≤ 16777216) (q : Q (.str (tx (joinC c ys))) H) : rJoinS K (.str (tx [c])) [.ref p] H Q := ⟨p, ys, c, rfl, rfl, hq, hz, q⟩
theorem joinC_len (c : Nat) : ∀ ys : List (List Nat), (joinC c ys).length ≤ (ys.map List.length).sum + ys.length
  | [] => Nat.zero_le _
  | [p] => by simp [joinC]
  | p :: q :: r => by
    have ih := joinC_len c (q :: r)
    show (p ++ c :: joinC c (q :: r)).length ≤ _
    simp only [List.length_append, List.length_cons, List.map_cons, List.sum_cons] at ih ⊢
    omega
theorem cut_weight (c : Nat) (l : List Nat) : ((cutC c l).map List.length).sum + (cutC c l).length = l.length + 1 := by
  induction l with
  | nil => rfl
  | cons a r ih =>
    have ne := cutC_ne c r
    unfold cutC
    cases q : cutC c r with
    | nil => contradiction
    | cons b t =>
      rw [q] at ih
      split
      · simp only [List.length_cons, List.map_cons, List.sum_cons, List.length_nil] at ih ⊢
        omega
      · simp only [List.length_cons, List.map_cons, List.sum_cons] at ih ⊢
        omega
end L2
namespace L2
end L2
set_option Elab.async false
set_option linter.all false
set_option maxRecDepth 100000
namespace L2
open PySem PySem.Spec PyProof.Rows
section
variable {X : Cx}
end
structure Mrk where
  nm : List Nat
  back : Bool
  sg : List Nat
  num : Int
end L2
namespace L2
open PySem PySem.Spec PyProof.Rows
theorem Same.seqTu {K : PySem.W.Frag} {H H' : Hp} {a : Addr} {xs : List V} (s : Same H H') (h : SqT K H a xs) : SqT K H' a xs := by
  rcases h with (h | ⟨o, h⟩) | h
  · exact .inl (.inl (s _ _ h))
  · exact .inl (.inr ⟨o, s _ _ h⟩)
  · exact .inr h
inductive All2 {α β : Type} (R : α → β → Prop) : List α → List β → Prop
  | nil : All2 R [] []
  | cons {a : α} {b : β} {as : List α} {bs : List β} : R a b → All2 R as bs → All2 R (a :: as) (b :: bs)
theorem All2.imp {α β : Type} {R S : α → β → Prop} (h : ∀ a b, R a b → S a b) : ∀ {as : List α} {bs : List β}, All2 R as bs → All2 S as bs
  | _, _, .nil => .nil
  | _, _, .cons r t => .cons (h _ _ r) (t.imp h)
theorem All2.snoc {α β : Type} {R : α → β → Prop} {a : α} {b : β} (r : R a b) : ∀ {as : List α} {bs : List β}, All2 R as bs → All2 R (as ++ [a]) (bs ++ [b])
  | _, _, .nil => .cons r .nil
  | _, _, .cons r' t => .cons r' (t.snoc r)
theorem All2.len {α β : Type} {R : α → β → Prop} : ∀ {as : List α} {bs : List β}, All2 R as bs → as.length = bs.length
  | _, _, .nil => rfl
  | _, _, .cons _ t => by simp [t.len]
theorem All2.get {α β : Type} {R : α → β → Prop} : ∀ {as : List α} {bs : List β} {i : Nat} {a : α} {b : β}, All2 R as bs → as[i]? = some a → bs[i]? = some b → R a b
  | _, _, 0, _, _, .cons r _, h1, h2 => by
    simp at h1 h2
    rw [← h1, ← h2]
    exact r
  | _, _, i + 1, _, _, .cons _ t, h1, h2 => t.get (i := i) (by simpa using h1) (by simpa using h2)
theorem rd_ixT {K : PySem.W.Frag} {H : Hp} {a : Addr} {xs : List V} {i : Int} {v : V} {Q : VK} (h : H a = some (.tup xs)) (e : atI xs i = some v) (q : Q v H) : rIxT K (.ref a) (.int i) H Q := ⟨a, xs, i, v, rfl, rfl, SqT.of h, e, q⟩
theorem rd_ixL {K : PySem.W.Frag} {H : Hp} {a : Addr} {xs : List V} {i : Int} {v : V} {Q : VK} (h : H a = some (.lst xs)) (e : atI xs i = some v) (q : Q v H) : rIxL K (.ref a) (.int i) H Q := ⟨a, xs, i, v, rfl, rfl, SqL.of h, e, q⟩
theorem at_last {α : Type} {xs : List α} {v : α} : atI (xs ++ [v]) (-1) = Option.some v := by
  unfold atI ixN
  have hl : (xs ++ [v]).length = xs.length + 1 := by simp
  rw [if_neg (by decide), if_pos (by rw [hl]; omega), show ((-1 : Int) + ((xs ++ [v]).length : Nat)).toNat = xs.length by rw [hl]; omega]
  simp
end L2
set_option Elab.async false
set_option linter.all false
set_option maxRecDepth 100000
namespace L2
open PySem PySem.Spec PyProof.Rows PySem.Builtin PySem.Builtin.Str
section
variable {X : Cx}
end
end L2
namespace L2
open PySem PySem.Spec PyProof.Rows
theorem rd_inT {K : PySem.W.Frag} {H : Hp} {a : Addr} {ns : List Nm} {l : Nm} {neg : Bool} {Q : VK} (ha : SqT K H a (ns.map fun z => V.str (tx z))) (q : Q (.bl (if neg then !decide (l ∈ ns) else decide (l ∈ ns))) H) : rIn K neg (.str (tx l)) (.ref a) H Q := by
  refine ⟨a, _, rfl, .inr ha, rfl, ?_, ?_⟩
  · rw [List.all_eq_true]
    intro v hv
    obtain ⟨b, _, rfl⟩ := List.mem_map.mp hv
    rfl
  · have e : inV (.str (tx l)) (ns.map fun z => V.str (tx z)) = decide (l ∈ ns) := by
      unfold inV
      rw [Bool.eq_iff_iff, List.any_eq_true, decide_eq_true_eq]
      constructor
      · rintro ⟨v, hv, e⟩
        obtain ⟨b, hb, rfl⟩ := List.mem_map.mp hv
        have : tx b = tx l := by simpa [eqV] using e
        rw [← tx_inj.mp this]
        exact hb
      · intro h
        exact ⟨_, List.mem_map.mpr ⟨l, h, rfl⟩, by simp [eqV]⟩
    rw [e]
    exact q
end L2
set_option Elab.async false
set_option linter.all false
set_option maxRecDepth 100000
namespace L2
open PySem PySem.Spec PyProof.Rows
@[reducible] def intK : PyProof.Rows.KeyKind where
  α := Int
  blt a b := decide (a < b)
  irrefl a := by simp
  trans a b c h1 h2 := by simp only [decide_eq_true_eq] at *; omega
  negTrans a b c h := by
    simp only [decide_eq_true_eq] at *
    omega
  total a b h1 h2 := by simp only [decide_eq_false_iff_not] at *; omega
  keyOf v := match v with | .int x _ => some x | _ => none
  dflt := 0
section
variable {X : Cx}
end
end L2
set_option Elab.async false
set_option linter.all false
set_option maxRecDepth 100000
namespace L2
open PySem PySem.Spec PyProof.Rows
structure FunD (K : PySem.W.Frag) (x qual : Str) (st : Stmt) (f : Addr) (fd : FuncData) : Prop where
  ex : ∃ (oc : Value) (od : Option Addr) (dV kV doc pm : Value) (an : Option Addr) (cdv ct : Value) (osl : Array (Option Value)),
    fd = PySem.W.fnOf x qual (defArgs st) (defBody st) (defScope st) dV kV doc pm an cdv ct ∧ K.lookup f = some ⟨oc, od, .func fd, osl⟩ ∧ PySem.W.codeIn K cdv qual = true
  kp : PySem.W.keepIn K (.ref f) = true
section
variable {P : Program} {w : World} {K : PySem.W.Frag} {mg : Str → Option Value} {base : Heap}
theorem FunD.okX {x qual : Str} {st : Stmt} {f : Addr} {fd : FuncData} {N ps : List Str} {k : Nat} {sp : Sp} (F : FunD K x qual st f fd) (S : FnScope N ps (defScope st)) (len : ∀ vs H Q E, sp vs H Q E → vs.length = ps.length)
    (hbody : ∀ (cdv : Value) (A : Around) (outer : List Env) (s : Shared) (H : Hp) (vs : List V) (Q : VK) (E : XK), Room k (A.deeper (envOfC qual (defScope st) s.heap.objs.size f cdv)) → sp vs H Q E →
      ∃ t, PSs (cxOf (CX1 P w) P w K mg base N qual (defScope st) f cdv A outer s H E) (defBody st) t ∧ t { nx := fun _ H' => Q .non H', rt := Q } (start N vs) H) : FnOk P w K mg base (CX1 P w) (k + 1) f fd ps sp := by
  obtain ⟨oc, od, dV, kV, doc, pm, an, cdv, ct, osl, rfl, lk, hcd⟩ := F.ex
  exact fn_of lk hcd S len fun A outer s H vs Q E hr hsp => hbody cdv A outer s H vs Q E hr hsp
end
structure MethOkD (K : PySem.W.Frag) (C : Addr) (m qual : Str) (st : Stmt) (ps : List Str) (dvs : List V) (f : Addr) (fd : FuncData) : Prop where
  at_ : Meth K C m f
  fn : FunD K m qual st f fd
  b : Binds K fd ps []
  bd : ∃ ds, Vals dvs ds ∧ Binds K fd ps ds
section
variable {X : Cx} {P : Program} {w : World} {k : Nat} {f C : Addr} {fd : FuncData} {ps : List Str} {sp : Sp} {E : XK} {m qual : Str} {st : Stmt} {apos pos : Pos} {e o : Expr} {es : List Expr} {ta : TE} {t : TA} {dvs : List V}
theorem pe_mxF {pl : Sem Bool} (he : PE X o ta) (c : Cls X.K C) (D : MethOkD X.K C m qual st ps dvs f fd) (F : FnOk X.prog X.w X.K X.mg X.base (CX1 P w) k f fd ps sp) (hr : Room k X.A) (hx : Passes (CX1 P w) X E) (ha : PA X (e :: es) t)
    (hst : starEach (e :: es) X.env = (false, eval e X.env) :: starEach es X.env := by rfl) (hpl : (backTo pos (starEach es X.env)).any (·.1) = false := by rfl)
    (ht : eval (.Call (.Attribute o m apos) (e :: es) [] pos) X.env = (do
      let ov ← eval o X.env
      standAt apos.atName
      let (f, first) ← holding [ov] (getMethod ov m pl)
      callWith pos f first (backTo pos (starEach (e :: es) X.env)) (backToKw pos (keywordEach [] X.env))) := by rfl) :
    PE X (.Call (.Attribute o m apos) (e :: es) [] pos) (tMeth C m sp [] E ta t) := pe_meth he c D.at_ F hr D.b .nil hx ha hst hpl ht
theorem bpe_mxF {pl : Sem Bool} (he : Bx (PE X o ta)) (c : Cls X.K C) (D : MethOkD X.K C m qual st ps dvs f fd) (F : FnOk X.prog X.w X.K X.mg X.base (CX1 P w) k f fd ps sp) (hr : Room k X.A) (hx : Passes (CX1 P w) X E) (ha : Bx (PA X (e :: es) t))
    (hst : starEach (e :: es) X.env = (false, eval e X.env) :: starEach es X.env := by rfl) (hpl : (backTo pos (starEach es X.env)).any (·.1) = false := by rfl)
    (ht : eval (.Call (.Attribute o m apos) (e :: es) [] pos) X.env = (do
      let ov ← eval o X.env
      standAt apos.atName
      let (f, first) ← holding [ov] (getMethod ov m pl)
      callWith pos f first (backTo pos (starEach (e :: es) X.env)) (backToKw pos (keywordEach [] X.env))) := by rfl) :
    Bx (PE X (.Call (.Attribute o m apos) (e :: es) [] pos) (tMeth C m sp [] E ta t)) := ⟨pe_mxF he.un c D F hr hx ha.un hst hpl ht⟩
end
def WA.addTie (A : WA) (s n e : Nm) (w : Int) : Except Rf WA :=
  if s ∉ A.names ∨ e ∉ A.names then .error .noThing else if goodC n = false then .error .noName else if 10 ^ 60 ≤ w.natAbs then .error .noNumber else if 400 ≤ A.ties.length then .error .full
  else .ok { A with ties := A.ties ++ [(A.next, ⟨s, n, e, w⟩)], next := A.next + 1 }
def WA.cutTie (A : WA) (k : Int) : Except Rf WA :=
  if k ∉ A.ties.map (·.1) then .error .noTie else .ok { A with ties := A.ties.filter fun x => decide (x.1 ≠ k) }
theorem putF_next (v1 v2 v3 v4 : V) : putF "coming_number" v4 ([("kept_values", v1), ("kept_ties", v2), ("coming_number", v3)] : List (Str × V)) = ([("kept_values", v1), ("kept_ties", v2), ("coming_number", v4)] : List (Str × V)) := by
  unfold putF
  rw [if_neg (by decide)]
  unfold putF
  rw [if_neg (by decide)]
  unfold putF
  rw [if_pos rfl]
theorem WebAt.tied {C : Addr} {H : Hp} {p a : Addr} {W : WS} {t : Tie} (w : WebAt C H p W) (ha : H a = none) (hl : W.next ∉ W.ties.map (·.1)) (hf : W.ties.length < 400) :
    WebAt C (upd (upd (upd H a (.tup (tieV t))) W.dt (.dK (putK (kvTies W.ties) (.inl W.next) (.ref a)))) p (.ins C W.dx [("kept_values", .ref W.dv), ("kept_ties", .ref W.dt), ("coming_number", .int (W.next + 1))])) p { W with ties := W.ties ++ [(W.next, a, t)], next := W.next + 1 } ∧
    Step H (W.own p) (upd (upd (upd H a (.tup (tieV t))) W.dt (.dK (putK (kvTies W.ties) (.inl W.next) (.ref a)))) p (.ins C W.dx [("kept_values", .ref W.dv), ("kept_ties", .ref W.dt), ("coming_number", .int (W.next + 1))])) (WS.own { W with ties := W.ties ++ [(W.next, a, t)], next := W.next + 1 } p) := by
  have eput : putK (kvTies W.ties) (.inl W.next) (.ref a) = kvTies (W.ties ++ [(W.next, a, t)]) := by
    rw [putK_new]
    · unfold kvTies
      rw [List.map_append]
      rfl
    · rw [valV_ties, find_none.mpr hl]
      rfl
  rw [eput]
  have oth : ∀ b o, b ≠ p → b ≠ W.dt → H b = some o → upd (upd (upd H a (.tup (tieV t))) W.dt (.dK (kvTies (W.ties ++ [(W.next, a, t)])))) p (.ins C W.dx [("kept_values", .ref W.dv), ("kept_ties", .ref W.dt), ("coming_number", .int (W.next + 1))]) b = some o := fun b o h1 h2 e => by
    rw [upd_ne h1, upd_ne h2, upd_ne (ne_of_none e ha)]
    exact e
  have hap : a ≠ p := (ne_of_none w.obj ha).symm
  have hat : a ≠ W.dt := (ne_of_none w.tie ha).symm
  have tupne : ∀ b xs, H b = some (.tup xs) → b ≠ p ∧ b ≠ W.dt := fun b xs e => ⟨ne_of e w.obj (by intro z; cases z), ne_of e w.tie (by intro z; cases z)⟩
  refine ⟨⟨upd_same, oth _ _ w.pdv w.dvdt w.val, by rw [upd_ne w.pdt, upd_same], fun x hx => oth _ _ (ne_of (w.each x hx) w.obj (by intro z; cases z)) (w.dtx hx) (w.each x hx), fun x hx => ?_, w.nd, w.names, ?_, w.few, by simp only [List.length_append, List.length_cons, List.length_nil]; omega⟩,
    ⟨fun b o hb e => oth b o (fun z => hb (by simp [WS.own, z])) (fun z => hb (by simp [WS.own, z])) e, fun b hb => .inl hb, fun b xs e => oth b _ (tupne b xs e).1 (tupne b xs e).2 e⟩⟩
  · rcases List.mem_append.mp hx with h | h
    · exact oth _ _ (tupne _ _ (w.tups x h)).1 (tupne _ _ (w.tups x h)).2 (w.tups x h)
    · rw [List.mem_singleton.mp h]
      show upd (upd (upd H a _) W.dt _) p _ a = _
      rw [upd_ne hap, upd_ne hat, upd_same]
  · show ((W.ties ++ [(W.next, a, t)]).map (fun x : Int × Addr × Tie => x.1)).Nodup
    rw [List.map_append]
    exact nd_snoc w.nums hl
theorem WebAt.cut {C : Addr} {H : Hp} {p : Addr} {W : WS} {n : Int} (w : WebAt C H p W) :
    WebAt C (upd H W.dt (.dK (dropK (kvTies W.ties) (.inl n)))) p { W with ties := W.ties.filter fun x => decide (x.1 ≠ n) } ∧
    Step H (W.own p) (upd H W.dt (.dK (dropK (kvTies W.ties) (.inl n)))) (WS.own { W with ties := W.ties.filter fun x => decide (x.1 ≠ n) } p) := by
  rw [dropK_ties]
  have oth : ∀ b o, b ≠ W.dt → H b = some o → upd H W.dt (.dK (kvTies (W.ties.filter fun x => decide (x.1 ≠ n)))) b = some o := fun b o hb e => by
    rw [upd_ne hb]
    exact e
  have sub : ∀ x ∈ W.ties.filter (fun x => decide (x.1 ≠ n)), x ∈ W.ties := fun x hx => (List.mem_filter.mp hx).1
  refine ⟨⟨oth _ _ w.pdt.symm w.obj, oth _ _ w.dvdt w.val, upd_same, fun x hx => oth _ _ (w.dtx hx) (w.each x hx), fun x hx => oth _ _ (ne_of (w.tups x (sub x hx)) w.tie (by intro z; cases z)) (w.tups x (sub x hx)), w.nd, w.names, ?_, w.few, Nat.le_trans (List.length_filter_le _ _) w.fewT⟩,
    ⟨fun b o hb e => oth b o (fun z => hb (by simp [WS.own, z])) e, fun b hb => .inl hb, fun b xs e => oth b _ (ne_of e w.tie (by intro z; cases z)) e⟩⟩
  exact List.Sublist.nodup (List.Sublist.map _ List.filter_sublist) w.nums
theorem shaped_ints (ns : List Int) : SeqAt.shaped (.list (ns.map PyData.int)) = true := by
  unfold SeqAt.shaped
  have e : PyData.canLayAll0 (ns.map PyData.int) = true := by
    induction ns with
    | nil => simp [PyData.canLayAll0]
    | cons a r ih => rw [List.map_cons, PyData.canLayAll0, PyData.canLay0, ih]; rfl
  have d : PyData.depthAll (ns.map PyData.int) ≤ 1 := by
    induction ns with
    | nil => simp [PyData.depthAll]
    | cons a r ih =>
      have := ih (by rw [List.map_cons, PyData.canLayAll0, Bool.and_eq_true] at e; exact e.2)
      simp only [List.map_cons, PyData.depthAll, PyData.depth]
      omega
  rw [Bool.and_eq_true, decide_eq_true_eq]
  refine ⟨by simpa [PyData.canLay0] using e, ?_⟩
  simp only [PyData.depth]
  omega
end L2
set_option Elab.async false
set_option linter.all false
set_option maxRecDepth 100000
namespace L2
open PySem PySem.Spec PyProof.Rows
section
variable {X : Cx} {y : Str} {py : Pos} {elt iter : Expr} {ifs : List Expr} {scope : Scope} {pos : Pos} {N : List Str} {fr : List Nat} {tt : TT} {te tel : TE}
end
end L2
set_option Elab.async false
set_option linter.all false
set_option maxRecDepth 100000
namespace L2
open PySem PySem.Spec PyProof.Rows PySem.W
def evK {α : Type} (lt : Nat → Nat → Bool) : KasT α → α
  | .ret a => a
  | .ask i j k => evK lt (k (lt i j))
def InK {α : Type} (n : Nat) (P : α → Prop) : KasT α → Prop
  | .ret a => P a
  | .ask i j k => i < n ∧ j < n ∧ ∀ b, InK n P (k b)
theorem InK.bind {α β : Type} {n : Nat} {P : α → Prop} {R : β → Prop} {f : α → KasT β} : ∀ {t : KasT α}, InK n P t → (∀ a, P a → InK n R (f a)) → InK n R (t.bind f)
  | .ret a, h, hf => hf a h
  | .ask _ _ _, h, hf => ⟨h.1, h.2.1, fun b => InK.bind (h.2.2 b) hf⟩
theorem InK.ev {α : Type} {n : Nat} {P : α → Prop} {lt : Nat → Nat → Bool} : ∀ {t : KasT α}, InK n P t → P (evK lt t)
  | .ret _, h => h
  | .ask i j k, h => InK.ev (t := k (lt i j)) (h.2.2 (lt i j))
theorem wp_ev {α : Type} {n : Nat} {P : α → Prop} {lt : Nat → Nat → Bool} {cmp : Nat → Nat → (Bool → Shared → Prop) → Shared → Prop} {Q : α → Shared → Prop} {s : Shared} (hc : ∀ (i j : Nat) (C : Bool → Shared → Prop), i < n → j < n → C (lt i j) s → cmp i j C s) :
    ∀ {t : KasT α}, InK n P t → Q (evK lt t) s → t.kasWp cmp Q s
  | .ret _, _, h => h
  | .ask i j k, hi, h => hc i j _ hi.1 hi.2.1 (wp_ev hc (t := k (lt i j)) (hi.2.2 (lt i j)) h)
def PermOk (n : Nat) (p : Array Nat) : Prop := p.toList.Perm (List.range n)
theorem PermOk.lt {n : Nat} {p : Array Nat} (h : PermOk n p) (hn : 0 < n) (i : Nat) : p.getD i 0 < n := by
  by_cases hi : i < p.size
  · have : p.getD i 0 ∈ p.toList := by
      simp [Array.getD, hi]
    exact List.mem_range.mp (h.mem_iff.mp this)
  · simp [Array.getD, hi, hn]
theorem PermOk.rev {n : Nat} {p : Array Nat} (h : PermOk n p) (i j : Nat) : PermOk n (kas_rev p i j) := (Array.perm_iff_toList_perm.mp (mirror_perm _ _ _ _)).trans h
theorem PermOk.bub {n : Nat} {p : Array Nat} (h : PermOk n p) (i j : Nat) : PermOk n (bubble p i j) := (Array.perm_iff_toList_perm.mp (bubble_perm _ _ _)).trans h
theorem in_asc {n : Nat} {p : Array Nat} (h : PermOk n p) (hn : 0 < n) : ∀ (f m : Nat), InK n (fun _ => True) (kas_asc p f m)
  | 0, _ => trivial
  | f + 1, m => ⟨h.lt hn _, h.lt hn _, fun b => by
    cases b with
    | true => exact trivial
    | false => exact in_asc h hn f (m + 1)⟩
theorem in_desc {n : Nat} (hn : 0 < n) : ∀ (f : Nat) (p : Array Nat) (m q : Nat), PermOk n p → InK n (fun r => PermOk n r.1) (kas_desc f p m q)
  | 0, _, _, _, h => h
  | f + 1, p, m, q, h => ⟨h.lt hn _, h.lt hn _, fun b => by
    cases b with
    | true =>
      show InK n _ (if q > 0 then _ else _)
      split
      · exact in_desc hn f _ _ _ (h.rev _ _)
      · exact in_desc hn f _ _ _ h
    | false =>
      refine ⟨h.lt hn _, h.lt hn _, fun d => ?_⟩
      cases d with
      | true => exact h
      | false => exact in_desc hn f _ _ _ h⟩
theorem in_tail3 {n : Nat} (hn : 0 < n) (m r : Nat) {p : Array Nat} (h : PermOk n p) : InK n (fun r => PermOk n r.2) (kas_tail3 m r p) := (in_asc (h.rev 0 m) hn _ _).bind fun _ _ => h.rev 0 m
theorem in_descPart {n : Nat} (hn : 0 < n) (m r : Nat) {p : Array Nat} (h : PermOk n p) : InK n (fun r => PermOk n r.2) (kas_descPart m r p) := (in_desc hn _ _ _ _ h).bind fun x hx => by
  split
  · exact in_tail3 hn _ _ (PermOk.rev hx _ _)
  · exact in_tail3 hn _ _ hx
theorem in_count {n : Nat} (hn : 0 < n) (r : Nat) {p : Array Nat} (h : PermOk n p) : InK n (fun r => PermOk n r.2) (kas_count r p) := (in_asc h hn _ _).bind fun m _ => by
  split
  · exact h
  · split
    · refine ⟨h.lt hn _, h.lt hn _, fun b => ?_⟩
      cases b with
      | true => exact h
      | false => exact in_descPart hn _ _ (h.rev _ _)
    · exact in_descPart hn _ _ h
theorem in_place {n : Nat} (hn : 0 < n) {p : Array Nat} (h : PermOk n p) (k : Nat) : ∀ (f l r : Nat), InK n (fun _ => True) (kas_place p k f l r)
  | 0, _, _ => trivial
  | f + 1, l, r => by
    unfold kas_place
    split
    · exact trivial
    · refine ⟨h.lt hn _, h.lt hn _, fun b => ?_⟩
      cases b with
      | true => exact in_place hn h k f _ _
      | false => exact in_place hn h k f _ _
theorem in_bin {n : Nat} (hn : 0 < n) : ∀ (f : Nat) (p : Array Nat) (k : Nat), PermOk n p → InK n (PermOk n) (kas_bin f p k)
  | 0, _, _, h => h
  | f + 1, p, k, h => (in_place hn h k _ _ _).bind fun l _ => in_bin hn f _ _ (h.bub _ _)
theorem in_sort {n : Nat} (hn : 0 < n) : InK n (PermOk n) (kas_sort n) := by
  have h0 : PermOk n (List.toArray (List.range n)) := List.Perm.refl _
  refine (in_count hn n h0).bind fun r hr => ?_
  split
  · exact in_bin hn _ _ _ hr
  · exact hr
def sortP (lt : Nat → Nat → Bool) (n : Nat) : List Nat := if n < 2 then List.range n else (evK lt (kas_sort n)).toList
theorem sortP_perm (lt : Nat → Nat → Bool) (n : Nat) : (sortP lt n).Perm (List.range n) := by
  unfold sortP
  split
  · exact List.Perm.refl _
  · exact (in_sort (n := n) (by omega)).ev
theorem sortP_len (lt : Nat → Nat → Bool) (n : Nat) : (sortP lt n).length = n := by rw [(sortP_perm lt n).length_eq, List.length_range]
theorem sortP_lt {lt : Nat → Nat → Bool} {n i : Nat} (h : i ∈ sortP lt n) : i < n := List.mem_range.mp ((sortP_perm lt n).mem_iff.mp h)
theorem runs_ev {prog : Program} {w : World} {A : Around} {E : Value → Shared → Prop} {z : Shared} {vs : List Value} {κ : SortKind} {lt : Nat → Nat → Bool} (h2 : 2 ≤ vs.length) (h64 : vs.length < 64)
    (hc : ∀ (i j : Nat) (C : Bool → Shared → Prop), i < vs.length → j < vs.length → C (lt i j) z → kas_ask prog w A κ vs i j C z) :
    wpS (model prog w) A E z sortRuns' (fun _ y => failedOf y = none ∧ (arrOf y).map (·.2) = List.toArray ((sortP lt vs.length).map fun i => vs.getD i Value.none)) (SortSt.mk' κ (pairsOf vs) #[] 7 none) := by
  have h : (kas_sort vs.length).kasWp (kas_ask prog w A κ vs) (fun p s' => s' = z ∧ p.toList = sortP lt vs.length) z := by
    refine wp_ev hc (in_sort (by omega)) ⟨rfl, ?_⟩
    unfold sortP
    rw [if_neg (by omega)]
  rw [kas_ask_eq] at h
  have run := kas_runs (E := E) (it := pairsOf vs) (Q := fun _ st' s' => s' = z ∧ failedOf st' = none ∧ (arrOf st').map (·.2) = List.toArray ((sortP lt vs.length).map fun i => vs.getD i Value.none)) h2 h64 (fun p' st' s' hs ha hf ⟨e, ep⟩ => ⟨e, hf, by
    rw [ha, ← ep]
    apply Array.toList_inj.mp
    rw [Array.map_map, Array.toList_map]
    exact List.map_congr_left fun i _ => by show (kas_item (pairsOf vs) i).2 = _; rw [kas_item_eq]⟩) h
  have est : SortSt.mk' κ (pairsOf vs) #[] 7 none = kas_st κ (pairsOf vs) (List.toArray (List.range vs.length)) := by
    have e := kas_range (pairsOf vs)
    rw [pairsOf_size] at e
    show _ = SortSt.mk' κ ((List.toArray (List.range vs.length)).map (kas_item (pairsOf vs))) #[] 7 none
    rw [e]
  rw [est]
  exact run
end L2
set_option Elab.async false
set_option linter.all false
set_option maxRecDepth 100000
namespace L2
open PySem PySem.Spec PyProof.Rows
section
variable {X : Cx} {pins : List (Addr × Obj)} {σ : List (Option V)} {H H' : Hp} {s : Shared} {h' : Heap}
theorem Inv.lays {t' : Nat} (I : Inv X pins σ H s) (k : ∀ b u, s.heap.get? b = some u → h'.get? b = some u) (ext : ∀ b, b < s.heap.objs.size → H' b = H b)
    (new : ∀ a o, H' a = some o → s.heap.objs.size ≤ a → ObjOk X.prog X.w H' h' a o) : Inv X pins σ H' { s with heap := h', toks := t' } := by
  have low : ∀ b o, H b = some o → H' b = some o := fun b o e => by rw [ext b (I.hok b o e).lt]; exact e
  refine I.un ⟨fun b u q _ _ _ => k b u q, fun b u q _ _ _ => ⟨u.slots, k b u q⟩, fun b u q n _ => by rw [ext b (Heap.lt_size q)]; exact n, fun b u q _ => ⟨u, k b u q⟩, fun b xs q => low b _ q, fun b u xs q => low b _ q, fun b ps q => ⟨#[], by rw [low b _ q]; simp⟩⟩ fun a o e => ?_
  by_cases ha : a < s.heap.objs.size
  · rw [ext a ha] at e
    exact (I.hok a o e).stay (fun c v _ q => k c v q) (fun c q => low c _ q) fun c xs q => low c _ q
  · exact new a o e (Nat.le_of_not_lt ha)
end
def keyAt (m : List (Nm × Int)) (i : Nat) : Nm := (m.getD i ([], 0)).1
def ltN (m : List (Nm × Int)) (i j : Nat) : Bool := decide ((tx (keyAt m i)).cps.toList < (tx (keyAt m j)).cps.toList)
def layT (H : Hp) : List Addr → List (Nm × Int) → Hp
  | a :: as, y :: m => upd (layT H as m) a (.tup [.str (tx y.1), .int y.2])
  | _, _ => H
theorem layT_off {H : Hp} {b : Addr} : ∀ (as : List Addr) (m : List (Nm × Int)), b ∉ as → layT H as m b = H b
  | [], _, _ => by unfold layT; rfl
  | _ :: _, [], _ => by unfold layT; rfl
  | a :: as, y :: m, h => by
    unfold layT
    rw [upd_ne (fun z => h (by rw [z]; exact List.mem_cons_self))]
    exact layT_off as m fun z => h (List.mem_cons_of_mem _ z)
theorem layT_at {H : Hp} : ∀ (as : List Addr) (m : List (Nm × Int)) (i : Nat) (a : Addr) (y : Nm × Int), as.Nodup → as[i]? = some a → m[i]? = some y → layT H as m a = some (.tup [.str (tx y.1), .int y.2])
  | [], _, _, _, _, _, h, _ => by cases h
  | _ :: _, [], _, _, _, _, _, h => by cases h
  | b :: as, z :: m, 0, a, y, _, h1, h2 => by
    cases h1
    cases h2
    unfold layT
    exact upd_same
  | b :: as, z :: m, i + 1, a, y, nd, h1, h2 => by
    obtain ⟨n1, n2⟩ := List.nodup_cons.mp nd
    unfold layT
    rw [upd_ne (fun e => n1 (by rw [← e]; exact List.mem_of_getElem? (show as[i]? = some a from h1)))]
    exact layT_at as m i a y n2 h1 h2
theorem layT_some {H : Hp} {b : Addr} {o : HO} : ∀ (as : List Addr) (m : List (Nm × Int)), as.length = m.length → as.Nodup → b ∈ as → layT H as m b = some o → ∃ (i : Nat) (y : Nm × Int), as[i]? = some b ∧ m[i]? = some y ∧ o = .tup [.str (tx y.1), .int y.2] := by
  intro as m hl nd hb e
  obtain ⟨i, hi⟩ := List.mem_iff_getElem?.mp hb
  have lt : i < m.length := by
    rw [← hl]
    exact (List.getElem?_eq_some_iff.mp hi).1
  refine ⟨i, m[i], hi, by simp, ?_⟩
  have := layT_at (H := H) as m i b m[i] nd hi (by simp)
  rw [this] at e
  cases e
  rfl
section
variable {prog : Program} {w : World} {A : Around} {E : Value → Shared → Prop} {z : Shared}
def pairObj (y : Nm × Int) (t u : Tok) : Obj := { cls := .type "tuple", data := .seq #[.str (tx y.1) t, .int y.2 u] }
theorem katTups {h : Heap} : ∀ (as : List Addr) (m : List (Nm × Int)), as.length = m.length → (∀ (i : Nat) (a : Addr) (y : Nm × Int), as[i]? = some a → m[i]? = some y → ∃ t u, h.get? a = some (pairObj y t u)) →
    ∃ fs, PySem.W.KatTups h (as.map Value.ref) fs ∧ fs.length = as.length ∧ ∀ v ∈ fs, ∃ x t, v = Value.str x t
  | [], _, _, _ => ⟨[], .nil, rfl, fun _ h => nomatch h⟩
  | _ :: _, [], e, _ => by cases e
  | a :: as, y :: m, e, h => by
    obtain ⟨t, u, ho⟩ := h 0 a y rfl rfl
    obtain ⟨fs, k1, k2, k3⟩ := katTups as m (by simpa using e) fun i b x e1 e2 => h (i + 1) b x e1 e2
    refine ⟨.str (tx y.1) t :: fs, .cons ho rfl rfl rfl k1, by rw [List.length_cons, List.length_cons, k2], fun v hv => ?_⟩
    rcases List.mem_cons.mp hv with rfl | hv
    · exact ⟨_, _, rfl⟩
    · exact k3 v hv
theorem keyAt_of {m : List (Nm × Int)} {i : Nat} {y : Nm × Int} (h : m[i]? = some y) : keyAt m i = y.1 := by
  unfold keyAt
  rw [List.getD_eq_getElem?_getD, h]
  rfl
theorem ask_pair {as : List Addr} {m : List (Nm × Int)} (hl : as.length = m.length) (nd : (m.map (·.1)).Nodup) (h : ∀ (i : Nat) (a : Addr) (y : Nm × Int), as[i]? = some a → m[i]? = some y → ∃ t u, z.heap.get? a = some (pairObj y t u))
    (i j : Nat) (C : Bool → Shared → Prop) (hi : i < m.length) (hj : j < m.length) (q : C (ltN m i j) z) : PySem.W.kas_ask prog w A (tuples' (Value.type "str" != Value.type "tuple")) (as.map Value.ref) i j C z := by
  have e1 : m[i]? = some m[i] := by simp
  have e2 : m[j]? = some m[j] := by simp
  have a1 : as[i]? = some (as[i]'(by omega)) := by simp
  have a2 : as[j]? = some (as[j]'(by omega)) := by simp
  obtain ⟨t1, u1, o1⟩ := h i _ _ a1 e1
  obtain ⟨t2, u2, o2⟩ := h j _ _ a2 e2
  unfold PySem.W.kas_ask
  have g1 : (as.map Value.ref).getD i Value.none = .ref (as[i]'(by omega)) := by
    rw [List.getD_eq_getElem?_getD, List.getElem?_map, a1]
    rfl
  have g2 : (as.map Value.ref).getD j Value.none = .ref (as[j]'(by omega)) := by
    rw [List.getD_eq_getElem?_getD, List.getElem?_map, a2]
    rfl
  rw [g1, g2]
  have eb : (Value.type "str" != Value.type "tuple") = true := by decide
  rw [eb]
  refine PySem.W.kat_lt o1 rfl o2 rfl (PySem.W.kat_cons (wpAny_eqBool_str ?_))
  refine PySem.W.kat_go (fun e => ?_) (fun e => ?_)
  · have ek : m[i].1 = m[j].1 := tx_inj.mp (of_decide_eq_true e)
    have ij : i = j := by
      refine (List.getElem_inj (h₀ := by rw [List.length_map]; exact hi) (h₁ := by rw [List.length_map]; exact hj) nd).mp ?_
      rw [List.getElem_map, List.getElem_map]
      exact ek
    subst ij
    have lf : ltN m i i = false := by
      unfold ltN
      exact decide_eq_false (List.lt_irrefl _)
    rw [lf] at q
    refine PySem.W.kat_yes (PySem.W.kat_cons (wpAny_eqBool_int ?_))
    refine PySem.W.kat_go (fun e' => ?_) (fun e' => ?_)
    · refine PySem.W.kat_yes (PySem.W.kat_nil ?_)
      exact q
    · simp at e'
  · refine PySem.W.kat_no (oneLt_str ?_)
    have : ltN m i j = decide ((tx m[i].1).cps.toList < (tx m[j].1).cps.toList) := by
      unfold ltN
      rw [keyAt_of e1, keyAt_of e2]
    rw [← this]
    exact q
end
theorem map_getD {α : Type} (d : α) (l : List α) : (List.range l.length).map (fun i => l.getD i d) = l := by
  apply List.ext_getElem (by simp)
  intro i h1 h2
  simp only [List.getElem_map, List.getElem_range, List.getD_eq_getElem?_getD]
  rw [List.getElem?_eq_getElem h2]
  rfl
theorem kv_at {kvs : List (Key × V)} {vs : List (Key × Value)} (r : KV kvs vs) : ∀ {i : Nat} {p : Key × V} {q : Key × Value}, kvs[i]? = some p → vs[i]? = some q → p.1 = q.1 ∧ RelV p.2 q.2 := by
  unfold KV at r
  induction r with
  | nil => intro i p q h; cases h
  | @cons p0 q0 ps qs h t ih =>
    intro i p q h1 h2
    cases i with
    | zero =>
      cases h1
      cases h2
      exact h
    | succ i => exact ih h1 h2
def tSortI (to : TE) : TE := fun σ H Q => to σ H fun x H1 => ∃ (d : Addr) (m : List (Nm × Int)), x = .ref d ∧ Rd H1 d (.dK (kvNums m)) ∧ m.length < 64 ∧ (m.map (·.1)).Nodup ∧
  ∀ (l : Addr) (as : List Addr) (H2 : Hp), H1 l = none → as.length = m.length → Same H1 H2 → H2 l = some (.lst ((sortP (ltN m) m.length).map fun i => .ref (as.getD i 0))) → (∀ a ∈ as, H1 a = none ∧ a ≠ l) →
    (∀ (i : Nat) (a : Addr) (y : Nm × Int), as[i]? = some a → m[i]? = some y → H2 a = some (.tup [.str (tx y.1), .int y.2])) → Q (.ref l) H2
section
variable {X : Cx}
theorem pe_sortI {o : Expr} {to : TE} {p apos cpos pos : Pos} (hc : X.calm = true) (hg : Gl X "sorted") (hm : X.mg "sorted" = none) (ho : PE X o to)
    (hbase : attributeBase o "items" X.env (eval o X.env) = eval o X.env := by rfl) (hline : (apos.endLine == cpos.line) = true := by rfl)
    (he : starEach [.Call (.Attribute o "items" apos) [] [] cpos] X.env = (false, eval (.Call (.Attribute o "items" apos) [] [] cpos) X.env) :: starEach [] X.env := by rfl) :
    PE X (.Call (.Name "sorted" p) [.Call (.Attribute o "items" apos) [] [] cpos] [] pos) (tSortI to) := by
  intro pins s σ H Q I h
  refine wpAny_Call_Name_kw (ld_blt I hg hm boot_sorted ?_ (by decide) (by decide))
  refine PyProof.Rows.callWith_builtin1 ?_ he rfl
  rw [he]
  refine Calls.spliced_cons (wpAny_Call_method0_late hbase hline (thn (ho pins s σ H _ I h) fun v s1 ⟨x, H1, I1, r1, d, m, ex, hd, h64, nd, q⟩ => ?_))
  subst ex
  obtain rfl : v = Value.ref d := r1
  obtain ⟨hz, hsm, vs, rel, dd⟩ := dk_rd I1.hok hd
  refine ⟨"dict", "dict.items", PySem.F.plainAttrs_dict, PySem.F.slot_dict_items, PySem.F.type_dict_items, (isD_at I1 (.inl ⟨_, hd⟩)).1, (isD_at I1 (.inl ⟨_, hd⟩)).2.1, Calls.callWith_builtin rfl (PySem.evalArgs_none ?_)⟩
  refine call_meetsIn PySem.F.slot_dict_items dd.typeIs PySem.F.entry_dict_items (PySem.F.args_dict_items_1 _) (meets_dict_items (mixKind X.prog X.w) d hsm) ⟨⟨vs, dd⟩, Calls.spliced_nil ?_⟩
  have kp1 : ∀ b u, s1.heap.get? b = some u → (s1.heap.push { cls := .type "dict_items", data := .fields #[.ref d] }).get? b = some u := fun b u e => Heap.get?_push_of_some _ e
  have hv : (s1.heap.push { cls := .type "dict_items", data := .fields #[.ref d] }).IsItemsView s1.heap.objs.size d := ⟨_, Heap.get?_push_size _ rfl, rfl, rfl⟩
  have I2 := I1.kept (t' := s1.toks) kp1
  obtain ⟨_, _, vs2, rel2, dd2⟩ := dk_rd I2.hok hd
  obtain ⟨ep, da⟩ := dd2.dictAt
  have hl : (kvNums m).length = vs2.length := rel2.length
  have hlm : (kvNums m).length = m.length := by
    unfold kvNums
    rw [List.length_map]
  refine Calls.call_function_entry kind_sorted plain_sorted entry_sorted (args_sorted1 _) ?_
  unfold Builtin.«sorted»
  refine wpAny_bind (m := checkCount "sorted" 1 1 _) (wpAny_pure ?_)
  refine wpAny_bind (PySem.W.kdx_collect (knd := mixKind X.prog X.w) (I.ok.hd hc) hv da (by omega) fun h' tk as kp hlas hG => ?_)
  have las : as.length = m.length := by omega
  have asnd : as.Nodup := hG.rise.imp fun h => Nat.ne_of_lt h
  have hp : ∀ (i : Nat) (a : Addr) (y : Nm × Int), as[i]? = some a → m[i]? = some y → ∃ t u, h'.get? a = some (pairObj y t u) := by
    intro i a y ha hy
    obtain ⟨key, kk, x, e1, e2, e3⟩ := hG.pairs i a ha
    obtain ⟨e4, rv⟩ := kv_at rel2 (i := i) (p := (.inr (tx y.1), .int y.2)) (by unfold kvNums; rw [List.getElem?_map, hy]; rfl) e1
    dsimp only at e4 rv
    rw [← e4] at e2
    obtain ⟨t, rfl⟩ := key_rel e2
    obtain ⟨u, rfl⟩ := rv
    exact ⟨t, u, e3⟩
  have I3 := I2.kept (t' := tk) kp
  have frl : H1 h'.objs.size = none := I3.hok.fresh (Nat.le_refl _)
  have fra : ∀ a ∈ as, H1 a = none ∧ a ≠ h'.objs.size := fun a ha => ⟨I2.hok.fresh (Nat.le_of_lt (hG.above a ha)), Nat.ne_of_lt (hG.there ha)⟩
  refine wpAny_bind (wpAny_newList ?_ (by rw [List.length_map, hlas]; omega))
  have hoL : (h'.push (seqObj "list" (as.map Value.ref).toArray 0)).get? h'.objs.size = some (seqObj "list" (as.map Value.ref).toArray 0) := Heap.get?_push_size _ rfl
  have lR : (as.map Value.ref).length = m.length := by rw [List.length_map, las]
  refine wpAny_bind (wpAny_holding (wpAny_call_entry slot_list_sort ⟨_, hoL, rfl⟩ entry_list_sort (sort_shell (R := fun out => out = List.toArray ((sortP (ltN m) m.length).map fun i => (as.map Value.ref).getD i Value.none)) hoL (by rw [lR, ← hlm]; exact hz) (fun out e => by rw [e, List.size_toArray, List.length_map, sortP_len, lR]) (fun few => ?_) (fun h2 z oth => ?_) fun out h2 c e kp2 g2 => ⟨_, rfl, ?_⟩) (args_list_sort _)))
  · unfold sortP
    rw [lR] at few
    rw [if_pos few, ← lR]
    rw [map_getD]
  · have hpz : ∀ (i : Nat) (a : Addr) (y : Nm × Int), as[i]? = some a → m[i]? = some y → ∃ t u, z.heap.get? a = some (pairObj y t u) := by
      intro i a y ha hy
      obtain ⟨t, u, e⟩ := hp i a y ha hy
      exact ⟨t, u, oth a _ (fra a (List.mem_of_getElem? ha)).2 (Heap.get?_push_of_some _ e)⟩
    obtain ⟨fs, kt, lf, hf⟩ := katTups as m las hpz
    refine ⟨tuples' (Value.type "str" != Value.type "tuple"), PySem.W.kat_kind kt (by omega) (fun v hv => ?_) rfl ⟨rfl, rfl⟩, ?_⟩
    · obtain ⟨x, t, rfl⟩ := hf v hv
      exact .now
    · have := runs_ev (prog := X.prog) (w := X.w) (A := X.A.in1.in1) (E := X.xe) (z := z) (lt := ltN m) h2 (by rw [lR]; exact h64) fun i j C hi hj q => ask_pair las nd hpz i j C (by rw [← lR]; exact hi) (by rw [← lR]; exact hj) q
      rw [lR] at this
      exact this
  · subst e
    have kk : ∀ b u, (s1.heap.push { cls := .type "dict_items", data := .fields #[.ref d] }).get? b = some u → h2.get? b = some u := fun b u e => kp2 b u (Nat.ne_of_lt (Heap.lt_size (kp b u e))) (Heap.get?_push_of_some _ (kp b u e))
    have szl : (s1.heap.push { cls := .type "dict_items", data := .fields #[.ref d] }).objs.size ≤ h'.objs.size := by
      rw [size_push']
      exact Heap.lt_size (kp s1.heap.objs.size _ (Heap.get?_push_size _ rfl))
    have gd : ∀ i < m.length, (as.map Value.ref).getD i Value.none = .ref (as.getD i 0) := fun i hi => by
      have e : as[i]? = some (as[i]'(by omega)) := by simp
      rw [List.getD_eq_getElem?_getD, List.getD_eq_getElem?_getD, List.getElem?_map, e]
      rfl
    have vals : ∀ l : List Nat, (∀ i ∈ l, i < m.length) → Vals (l.map fun i => V.ref (as.getD i 0)) (l.map fun i => (as.map Value.ref).getD i Value.none) := by
      intro l
      induction l with
      | nil => intro _; exact .nil
      | cons i l ih =>
        intro h
        refine .cons ?_ (ih fun j hj => h j (List.mem_cons_of_mem _ hj))
        show RelV (V.ref (as.getD i 0)) ((as.map Value.ref).getD i Value.none)
        rw [gd i (h i List.mem_cons_self)]
        rfl
    have ext : ∀ b, b < (s1.heap.push { cls := .type "dict_items", data := .fields #[.ref d] }).objs.size → upd (layT H1 as m) h'.objs.size (.lst ((sortP (ltN m) m.length).map fun i => V.ref (as.getD i 0))) b = H1 b := fun b hb => by
      rw [upd_ne (Nat.ne_of_lt (Nat.lt_of_lt_of_le hb szl)), layT_off as m fun z => Nat.lt_asymm hb (hG.above b z)]
    have I4 := I2.lays (t' := tk) (H' := upd (layT H1 as m) h'.objs.size (.lst ((sortP (ltN m) m.length).map fun i => V.ref (as.getD i 0)))) kk ext fun a o e hsz => ?_
    · refine wpAny_pure ⟨_, rfl, .ref h'.objs.size, _, I4, rfl, q _ as _ frl las (fun b o e => ?_) upd_same fra fun i a y ha hy => ?_⟩
      · rw [upd_ne (ne_of_none e frl), layT_off as m fun z => by rw [(fra b z).1] at e; cases e]
        exact e
      · rw [upd_ne (fra a (List.mem_of_getElem? ha)).2]
        exact layT_at as m i a y asnd ha hy
    · by_cases ha : a = h'.objs.size
      · subst ha
        rw [upd_same] at e
        cases e
        exact ⟨by rw [List.length_map, sortP_len, ← hlm]; exact hz, _, c, vals _ (fun i hi => sortP_lt hi), g2⟩
      · rw [upd_ne ha] at e
        by_cases hm : a ∈ as
        · obtain ⟨i, y, hi, hy, rfl⟩ := layT_some as m las asnd hm e
          obtain ⟨t, u, ho⟩ := hp i a y hi hy
          exact ⟨by show 2 ≤ sizeLine; decide, [.str (tx y.1) t, .int y.2 u], .cons ⟨t, rfl⟩ (.cons ⟨u, rfl⟩ .nil), pairObj y t u, kp2 a _ ha (Heap.get?_push_of_some _ ho), rfl, 0, rfl⟩
        · rw [layT_off as m hm, I2.hok.fresh hsz] at e
          cases e
end
section
variable {X : Cx}
end
theorem bpe_sortI {X : Cx} {o : Expr} {to : TE} {p apos cpos pos : Pos} (hc : X.calm = true) (hg : Gl X "sorted") (hm : X.mg "sorted" = none) (ho : Bx (PE X o to))
    (hbase : attributeBase o "items" X.env (eval o X.env) = eval o X.env := by rfl) (hline : (apos.endLine == cpos.line) = true := by rfl)
    (he : starEach [.Call (.Attribute o "items" apos) [] [] cpos] X.env = (false, eval (.Call (.Attribute o "items" apos) [] [] cpos) X.env) :: starEach [] X.env := by rfl) :
    Bx (PE X (.Call (.Name "sorted" p) [.Call (.Attribute o "items" apos) [] [] cpos] [] pos) (tSortI to)) := ⟨pe_sortI hc hg hm ho.un hbase hline he⟩
end L2
set_option Elab.async false
set_option linter.all false
set_option maxRecDepth 100000
namespace L2
open PySem PySem.Spec PyProof.Rows
def putN (m : List (Nm × Int)) (k : Nm) (v : Int) : List (Nm × Int) := if k ∈ m.map (·.1) then m.map (fun y => if y.1 = k then (y.1, v) else y) else m ++ [(k, v)]
def dropN (m : List (Nm × Int)) (k : Nm) : List (Nm × Int) := m.filter fun y => decide (y.1 ≠ k)
theorem putK_nums (m : List (Nm × Int)) (k : Nm) (v : Int) : putK (kvNums m) (.inr (tx k)) (.int v) = kvNums (putN m k v) := by
  unfold putK putN
  rw [valV_any, nums_isSome]
  by_cases h : k ∈ m.map (·.1)
  · rw [if_pos (decide_eq_true h), if_pos h]
    unfold kvNums
    rw [List.map_map, List.map_map]
    refine List.map_congr_left fun y _ => ?_
    dsimp only [Function.comp]
    by_cases e : y.1 = k
    · rw [if_pos (by rw [e]), if_pos e]
    · rw [if_neg (fun z => e (tx_inj.mp (Sum.inr.inj z))), if_neg e]
  · rw [if_neg (by rw [decide_eq_false h]; decide), if_neg h]
    unfold kvNums
    rw [List.map_append]
    rfl
theorem putN_keys {m : List (Nm × Int)} {k : Nm} {v : Int} (nd : (m.map (·.1)).Nodup) : ((putN m k v).map (·.1)).Nodup ∧ ∀ x ∈ (putN m k v).map (·.1), x ∈ m.map (·.1) ∨ x = k := by
  unfold putN
  by_cases h : k ∈ m.map (·.1)
  · rw [if_pos h]
    have e : (m.map fun y => if y.1 = k then (y.1, v) else y).map (·.1) = m.map (·.1) := by
      rw [List.map_map]
      refine List.map_congr_left fun y _ => ?_
      dsimp only [Function.comp]
      split <;> rfl
    rw [e]
    exact ⟨nd, fun x hx => .inl hx⟩
  · rw [if_neg h, List.map_append]
    refine ⟨List.nodup_append.mpr ⟨nd, by simp, fun a ha b hb => ?_⟩, fun x hx => ?_⟩
    · have : b = k := by simpa using hb
      rw [this]
      exact fun z => h (by rw [← z]; exact ha)
    · rcases List.mem_append.mp hx with z | z
      · exact .inl z
      · exact .inr (by simpa using z)
theorem dropN_keys {m : List (Nm × Int)} {k : Nm} (nd : (m.map (·.1)).Nodup) : ((dropN m k).map (·.1)).Nodup ∧ ∀ x ∈ (dropN m k).map (·.1), x ∈ m.map (·.1) := by
  unfold dropN
  refine ⟨List.Sublist.nodup (List.Sublist.map _ List.filter_sublist) nd, fun x hx => ?_⟩
  obtain ⟨y, hy, e⟩ := List.mem_map.mp hx
  exact List.mem_map.mpr ⟨y, (List.mem_filter.mp hy).1, e⟩
def WA.look (A : WA) (n : Nm) : Option (List (Nm × Int)) := (A.things.find? fun x => decide (x.1 = n)).map (·.2)
def WA.setv (A : WA) (n : Nm) (m : List (Nm × Int)) : WA := { A with things := A.things.map fun x => if x.1 = n then (x.1, m) else x }
def WA.setValue (A : WA) (n k : Nm) (v : Int) : Except Rf WA :=
  match A.look n with
  | none => .error .noThing
  | some m => if goodC k = false then .error .noName else if 10 ^ 60 ≤ v.natAbs then .error .noNumber else .ok (A.setv n (putN m k v))
def WA.takeValue (A : WA) (n k : Nm) : Except Rf WA :=
  match A.look n with
  | none => .error .noThing
  | some m => if k ∉ m.map (·.1) then .error .noKey else .ok (A.setv n (dropN m k))
def WS.setv (W : WS) (n : Nm) (m : List (Nm × Int)) : WS := { W with vals := W.vals.map fun x => if x.1 = n then (x.1, x.2.1, m) else x }
theorem WS.setv_abs (W : WS) (n : Nm) (m : List (Nm × Int)) : (W.setv n m).abs = W.abs.setv n m := by
  unfold WS.setv WS.abs WA.setv
  simp only [List.map_map]
  congr 1
  refine List.map_congr_left fun x _ => ?_
  dsimp only [Function.comp]
  split <;> rfl
theorem WS.setv_own (W : WS) (n : Nm) (m : List (Nm × Int)) (p : Addr) : (W.setv n m).own p = W.own p := by
  unfold WS.setv WS.own
  simp only [List.map_map]
  congr 3
  refine List.map_congr_left fun x _ => ?_
  dsimp only [Function.comp]
  split <;> rfl
theorem WS.setv_names (W : WS) (n : Nm) (m : List (Nm × Int)) : (W.setv n m).vals.map (·.1) = W.vals.map (·.1) := by
  unfold WS.setv
  simp only [List.map_map]
  refine List.map_congr_left fun x _ => ?_
  dsimp only [Function.comp]
  split <;> rfl
theorem look_find {W : WS} {n : Nm} {m : List (Nm × Int)} (h : W.abs.look n = some m) : ∃ x, x ∈ W.vals ∧ x.1 = n ∧ x.2.2 = m ∧ W.vals.find? (fun x => decide (x.1 = n)) = some x := by
  unfold WA.look WS.abs at h
  dsimp only at h
  rw [List.find?_map] at h
  cases q : W.vals.find? (fun x => decide (x.1 = n)) with
  | none =>
    rw [show ((fun x : Nm × List (Nm × Int) => decide (x.1 = n)) ∘ fun x : Nm × Addr × List (Nm × Int) => (x.1, x.2.2)) = fun x => decide (x.1 = n) from rfl, q] at h
    cases h
  | some x =>
    rw [show ((fun x : Nm × List (Nm × Int) => decide (x.1 = n)) ∘ fun x : Nm × Addr × List (Nm × Int) => (x.1, x.2.2)) = fun x => decide (x.1 = n) from rfl, q] at h
    exact ⟨x, List.mem_of_find?_eq_some q, by have z := List.find?_some q; simpa using z, Option.some.inj h, rfl⟩
theorem look_none {A : WA} {n : Nm} : A.look n = none ↔ n ∉ A.names := by
  unfold WA.look WA.names
  rw [Option.map_eq_none_iff, find_none]
theorem WebAt.setv {C : Addr} {H : Hp} {p : Addr} {W : WS} {x : Nm × Addr × List (Nm × Int)} {m : List (Nm × Int)} (w : WebAt C H p W) (hx : x ∈ W.vals) :
    WebAt C (upd H x.2.1 (.dK (kvNums m))) p (W.setv x.1 m) ∧ Step H (W.own p) (upd H x.2.1 (.dK (kvNums m))) ((W.setv x.1 m).own p) := by
  have hin : x.2.1 ∈ W.own p := by
    unfold WS.own
    exact List.mem_cons_of_mem _ (List.mem_cons_of_mem _ (List.mem_cons_of_mem _ (List.mem_map.mpr ⟨x, hx, rfl⟩)))
  have oth : ∀ b o, b ≠ x.2.1 → H b = some o → upd H x.2.1 (.dK (kvNums m)) b = some o := fun b o hb e => by
    rw [upd_ne hb]
    exact e
  have exx := w.each x hx
  have kv : kvVals (W.setv x.1 m).vals = kvVals W.vals := by
    unfold kvVals WS.setv
    simp only [List.map_map]
    refine List.map_congr_left fun y _ => ?_
    dsimp only [Function.comp]
    split <;> rfl
  have ad : (W.setv x.1 m).vals.map (·.2.1) = W.vals.map (·.2.1) := by
    unfold WS.setv
    simp only [List.map_map]
    refine List.map_congr_left fun y _ => ?_
    dsimp only [Function.comp]
    split <;> rfl
  refine ⟨⟨oth _ _ (ne_of w.obj exx (by intro z; cases z)) w.obj, ?_, oth _ _ (w.dtx hx).symm w.tie, fun y hy => ?_, fun y hy => oth _ _ (ne_of (w.tups y hy) exx (by intro z; cases z)) (w.tups y hy), ?_, ?_, w.nums, ?_, w.fewT⟩, ?_⟩
  · rw [kv]
    exact oth _ _ (w.dvx hx).symm w.val
  · unfold WS.setv at hy
    obtain ⟨z, hz, rfl⟩ := List.mem_map.mp hy
    by_cases e : z.1 = x.1
    · rw [if_pos e]
      have zx : z = x := by
        have := w.names
        obtain ⟨i, hi⟩ := List.mem_iff_getElem?.mp hz
        obtain ⟨j, hj⟩ := List.mem_iff_getElem?.mp hx
        have li := (List.getElem?_eq_some_iff.mp hi)
        have lj := (List.getElem?_eq_some_iff.mp hj)
        obtain ⟨li, ei⟩ := li
        obtain ⟨lj, ej⟩ := lj
        have ij : i = j := by
          refine (List.getElem_inj (h₀ := by rw [List.length_map]; exact li) (h₁ := by rw [List.length_map]; exact lj) this).mp ?_
          rw [List.getElem_map, List.getElem_map, ei, ej]
          exact e
        subst ij
        rw [← ei, ← ej]
      rw [zx]
      exact upd_same
    · rw [if_neg e]
      refine oth _ _ (fun q => e ?_) (w.each z hz)
      have nda := (List.nodup_cons.mp (List.nodup_cons.mp w.nd).2).2
      obtain ⟨i, hi⟩ := List.mem_iff_getElem?.mp hz
      obtain ⟨j, hj⟩ := List.mem_iff_getElem?.mp hx
      obtain ⟨li, ei⟩ := List.getElem?_eq_some_iff.mp hi
      obtain ⟨lj, ej⟩ := List.getElem?_eq_some_iff.mp hj
      have ij : i = j := by
        refine (List.getElem_inj (h₀ := by rw [List.length_map]; exact li) (h₁ := by rw [List.length_map]; exact lj) nda).mp ?_
        rw [List.getElem_map, List.getElem_map, ei, ej]
        exact q
      subst ij
      rw [← ei, ← ej]
  · rw [ad]
    exact w.nd
  · rw [WS.setv_names]
    exact w.names
  · unfold WS.setv
    dsimp only
    rw [List.length_map]
    exact w.few
  · rw [WS.setv_own]
    exact ⟨fun b o hb e => oth b o (fun z => hb (by rw [z]; exact hin)) e, fun b hb => .inl hb, fun b xs e => oth b _ (ne_of e exx (by intro z; cases z)) e⟩
end L2
set_option Elab.async false
set_option linter.all false
set_option maxRecDepth 100000
namespace L2
open PySem PySem.Spec PyProof.Rows
abbrev Nums := List (Nm × Int)
def lookV (vs : List (Nm × Addr × Nums)) (n : Nm) : Option Nums := (vs.find? fun x => decide (x.1 = n)).map (·.2.2)
theorem look_abs (W : WS) (n : Nm) : W.abs.look n = lookV W.vals n := by
  unfold WA.look WS.abs lookV
  dsimp only
  rw [List.find?_map]
  cases q : W.vals.find? (fun x => decide (x.1 = n)) with
  | none =>
    rw [show ((fun x : Nm × List (Nm × Int) => decide (x.1 = n)) ∘ fun x : Nm × Addr × List (Nm × Int) => (x.1, x.2.2)) = fun x => decide (x.1 = n) from rfl, q]
    rfl
  | some x =>
    rw [show ((fun x : Nm × List (Nm × Int) => decide (x.1 = n)) ∘ fun x : Nm × Addr × List (Nm × Int) => (x.1, x.2.2)) = fun x => decide (x.1 = n) from rfl, q]
    rfl
theorem lookV_find {vs : List (Nm × Addr × Nums)} {n : Nm} {m : Nums} (h : lookV vs n = some m) : ∃ x, x ∈ vs ∧ x.1 = n ∧ x.2.2 = m ∧ vs.find? (fun x => decide (x.1 = n)) = some x := by
  unfold lookV at h
  cases q : vs.find? (fun x => decide (x.1 = n)) with
  | none =>
    rw [q] at h
    cases h
  | some x =>
    rw [q] at h
    exact ⟨x, List.mem_of_find?_eq_some q, by have z := List.find?_some q; simpa using z, Option.some.inj h, rfl⟩
theorem lookV_none {vs : List (Nm × Addr × Nums)} {n : Nm} : lookV vs n = none ↔ n ∉ vs.map (·.1) := by
  unfold lookV
  rw [Option.map_eq_none_iff, find_none]
theorem same_at {vs : List (Nm × Addr × Nums)} {α : Type} [DecidableEq α] {f : Nm × Addr × Nums → α} (nd : (vs.map f).Nodup) {x y : Nm × Addr × Nums} (hx : x ∈ vs) (hy : y ∈ vs) (e : f x = f y) : x = y := by
  obtain ⟨i, hi⟩ := List.mem_iff_getElem?.mp hx
  obtain ⟨j, hj⟩ := List.mem_iff_getElem?.mp hy
  obtain ⟨li, ei⟩ := List.getElem?_eq_some_iff.mp hi
  obtain ⟨lj, ej⟩ := List.getElem?_eq_some_iff.mp hj
  have ij : i = j := by
    refine (List.getElem_inj (h₀ := by rw [List.length_map]; exact li) (h₁ := by rw [List.length_map]; exact lj) nd).mp ?_
    rw [List.getElem_map, List.getElem_map, ei, ej]
    exact e
  subst ij
  rw [← ei, ← ej]
theorem lookV_mem {vs : List (Nm × Addr × Nums)} {x : Nm × Addr × Nums} (nd : (vs.map (·.1)).Nodup) (hx : x ∈ vs) : lookV vs x.1 = some x.2.2 := by
  cases q : lookV vs x.1 with
  | none => exact absurd (List.mem_map.mpr ⟨x, hx, rfl⟩) (lookV_none.mp q)
  | some m =>
    obtain ⟨y, hy, e1, e2, _⟩ := lookV_find q
    rw [← e2, same_at nd hy hx e1]
def plain (rs : List (Int × Addr × Tie)) : List (Int × Tie) := rs.map fun x => (x.1, x.2.2)
theorem datTie {K : PySem.W.Frag} {H : Hp} {a : Addr} {x : Tie} (h : H a = some (.tup (tieV x))) : DatV K H (.ref a) (.tuple [.str (tx x.start), .str (tx x.name), .str (tx x.stop), .int x.weight]) :=
  .tup (SqT.of h) (.cons (.str _) (.cons (.str _) (.cons (.str _) (.cons (.int _) .nil))))
structure TieOk (x : Tie) : Prop where
  s : okT x.start
  n : okT x.name
  e : okT x.stop
end L2
set_option Elab.async false
set_option linter.all false
set_option maxRecDepth 100000
namespace L2
open PySem PySem.Spec PyProof.Rows
end L2
set_option Elab.async false
set_option linter.all false
set_option maxRecDepth 100000
namespace L2
open PySem
theorem ite_both {A B : Prop} {c : Prop} [Decidable c] (h1 : c → A) (h2 : ¬ c → B) : if c then A else B := by
  by_cases h : c
  · rw [if_pos h]
    exact h1 h
  · rw [if_neg h]
    exact h2 h
end L2
namespace L2
open PySem PySem.Spec PyProof.Rows
section
set_option maxHeartbeats 4000000
variable {X : Cx}
end
end L2
set_option Elab.async false
set_option linter.all false
set_option maxRecDepth 100000
set_option maxHeartbeats 4000000
namespace L2
open PySem PySem.Spec PyProof.Rows
theorem list_no_keys : typeLookup (.type "list") "keys" = pure none := am_miss_of_fast (by kernel_rfl)
theorem list_no_hook : typeLookup (.type "list") "__getattr__" = pure none := am_miss_of_fast (by kernel_rfl)
section
variable {prog : Program} {w : World} {A : Around} {E : Value → Shared → Prop}
theorem list_keys_miss {a : Addr} {its : Array Value} {n : Nat} {sl : Array (Option Value)} {u : Tok} {Q : Fin → Shared → Prop} {s : Shared} (hx : s.heap.get? a = some ⟨.type "list", none, .seq its n, sl⟩) (hA : A.handled = none)
    (hs : ∀ h' tk e, Heap.NewAttrErr s.heap h' e (.ref a) "keys" → E (.ref e) { s with heap := h', toks := tk }) :
    wpAny (model prog w) A (Builtin.«object.__getattribute__» ⟨[.ref a, .str "keys" u], []⟩) Q E s := by
  have miss := list_no_keys
  obtain ⟨hp, g, d, tk, os⟩ := s
  have hT : (Shared.mk hp g d tk os).TypeIs (.ref a) "list" := ⟨_, hx, rfl⟩
  unfold Builtin.«object.__getattribute__»
  repeat (any_goals (first | assumption | wp_step))
  exact wpAny_raiseAttrError hA hs (attrMsg_fits (by decide +kernel) (by decide))
theorem list_keys_none {a : Addr} {its : Array Value} {n : Nat} {sl : Array (Option Value)} {Q : Option Value → Shared → Prop} {s : Shared} (hx : s.heap.get? a = some ⟨.type "list", none, .seq its n, sl⟩) (hA : A.handled = none)
    (h : ∀ h' tk, (∀ b ob, s.heap.get? b = some ob → h'.get? b = some ob) → Q none { s with heap := h', toks := tk }) :
    wpAny (model prog w) A (getAttr? (.ref a) "keys") Q E s := by
  obtain ⟨hp, g, d, tk, os⟩ := s
  have hT : ∀ t', (Shared.mk hp g d t' os).TypeIs (.ref a) "list" := fun _ => ⟨_, hx, rfl⟩
  have f1 := sub_AttributeError
  have f3 := F.slot_list_getattribute.lookup
  have f4 := F.slot_list_getattribute.bind (.ref a)
  have f5 := list_no_hook
  unfold getAttr? getAttrBy? getAttrBy
  repeat (any_goals (first | assumption | ((with_reducible show wpAny _ _ (call (Value.builtin "list.__getattribute__") _ _) _ _ _); refine wpAny_call_entry F.slot_list_getattribute (hT _) F.entry_list_ga (list_keys_miss (s := ⟨hp, g, d, _, os⟩) hx hA fun h' tk' e he => ?_) (F.args_list_getattribute_2 _ _)) | wp_step))
  obtain ⟨t', u', hee⟩ := he.there
  repeat (any_goals (first | assumption | wp_step))
  exact h h' _ he.keeps
theorem entry_loop : entryFor table "dict.update.loop" = some Builtin.«dict.update.loop» := entryFor_of_tree (by kernel_rfl)
theorem plain_loop : plainId "dict.update.loop" = true := by decide +kernel
theorem length_stored_le {K : Type} [DecidableEq K] {kvs : List (K × Value)} {k : K} {v : Value} : (stored kvs k v).length ≤ kvs.length + 1 := by
  unfold stored
  split <;> simp
theorem pairs_loop {K : Type} [DecidableEq K] {knd : KeyKind prog w K} {d it l : Addr} {us : List Value} {r : Value} {A : Around} (hA : A.handled = none) {E : Value → Shared → Prop} {Q : Value → Shared → Prop} (hd : d ≠ it) (hl : l ≠ it) (hdl : d ≠ l) :
    ∀ (ps : List (K × Value × Value)) (i : Nat) (j : Int) (kvs : List (K × Value)) (s : Shared), us.length = i + ps.length → s.heap.IsListIter it l i → s.heap.IsList l us.toArray → s.heap.DictOf knd d kvs → kvs.length + ps.length ≤ 1000 →
    (∀ (m : Nat) (p : K × Value × Value), ps[m]? = some p → knd.is p.1 p.2.1 = true ∧ ∃ c : Addr, us[i + m]? = some (.ref c) ∧ c ≠ d ∧ c ≠ it ∧ s.heap.IsTuple c #[p.2.1, p.2.2]) →
    (∀ h' tk, h'.DictOf knd d (merged kvs (ps.map fun p => (p.1, p.2.2))) → (∀ b ob, b ≠ d → b ≠ it → s.heap.get? b = some ob → h'.get? b = some ob) → Q r { s with heap := h', toks := tk }) →
    codeAny (model prog w) A (.builtin "dict.update.loop" ⟨[.ref d, .ref it, .int j 0, r], []⟩) (wants Q E) s
  | [], i, j, kvs, s, hn, hi, hL, hD, hz, hp, k => by
    refine codeAny_builtin entry_loop ?_
    rw [Around.under_plainId plain_loop _]
    unfold Builtin.«dict.update.loop»
    dsimp only
    refine wpAny_bind (wpAny_pyNext_list_end hA hi hL (by rw [List.getElem?_toArray]; exact List.getElem?_eq_none (by simp only [List.length_nil] at hn; omega)) fun h' ex => ?_)
    refine wpAny_bind (wpAny_pure (wpAny_pure (k h' s.toks ?_ fun b ob _ hb e => ex b ob hb e)))
    exact hD.extBut ex hd
  | p :: ps, i, j, kvs, s, hn, hi, hL, hD, hz, hp, k => by
    obtain ⟨hk, c, hc, c1, c2, hT⟩ := hp 0 p rfl
    refine codeAny_builtin entry_loop ?_
    rw [Around.under_plainId plain_loop _]
    unfold Builtin.«dict.update.loop»
    dsimp only
    refine wpAny_bind (wpAny_pyNext_list_item hi hL (x := .ref c) (by rw [List.getElem?_toArray]; simpa using hc) fun h' hi' sb => ?_)
    dsimp only
    obtain ⟨oc, hoc, hcc, nc, hdc⟩ := hT
    have hoc' : h'.get? c = some oc := (sb.2 c c2).trans hoc
    obtain ⟨sh, sg, sd, st, so⟩ := s
    have hTc : (Shared.mk h' sg sd st so).TypeIs (.ref c) "tuple" := ⟨oc, hoc', hcc⟩
    refine wpAny_bind (wpAny_holding (wpAny_bind ?_))
    refine wpAny_tryCatch ?_
    unfold Builtin.Dict.pairItems
    refine wpAny_bind (wpAny_typeOf hTc ?_)
    rw [if_pos (by decide)]
    refine wpAny_bind (wpAny_seqItems hoc' hdc ?_)
    refine wpAny_pure ?_
    refine wpAny_holding ?_
    have hD' : (Shared.mk h' sg sd st so).heap.DictOf knd d kvs := hD.sameBut sb hd
    refine wpAny_dictSet_pairs hk hD' (fun h2 hD2 sb2 => ?_) (by have := sizeLine_eq; simp only [List.length_cons] at hz; omega)
    refine wpAny_pure ⟨Code.quiet_builtin _ (by decide +kernel), ?_⟩
    have all : ∀ b ob, b ≠ d → b ≠ it → sh.get? b = some ob → h2.get? b = some ob := fun b ob hb hb2 e => (sb2.2 b hb).trans ((sb.2 b hb2).trans e)
    have sz : (stored kvs p.1 p.2.2).length ≤ kvs.length + 1 := length_stored_le
    refine pairs_loop (us := us) hA hd hl hdl ps (i + 1) (j + 1) (stored kvs p.1 p.2.2) ⟨h2, sg, sd, st + 1, so⟩ (by simp only [List.length_cons] at hn; omega) (hi'.at fun o e => (sb2.2 it hd.symm).trans e) ?_ hD2 (by simp only [List.length_cons] at hz; omega) ?_ ?_
    · obtain ⟨ol, e1, e2⟩ := hL
      exact ⟨ol, all l ol hdl.symm hl e1, e2⟩
    · intro m q hq
      obtain ⟨k1, c', k2, k3, k4, oc', k5, k6⟩ := hp (m + 1) q hq
      exact ⟨k1, c', by rw [← k2, Nat.add_assoc, Nat.add_comm 1 m], k3, k4, oc', all c' oc' k3 k4 k5, k6⟩
    · intro h3 tk hD3 al3
      exact k h3 tk hD3 fun b ob hb hb2 e => al3 b ob hb hb2 (all b ob hb hb2 e)
theorem dict_of_pairs {K : Type} [DecidableEq K] {knd : KeyKind prog w K} {l : Addr} {us : List Value} {n : Nat} {sl : Array (Option Value)} {s : Shared} {Q : Value → Shared → Prop} (hA : A.handled = none) (hx : s.heap.get? l = some ⟨.type "list", none, .seq us.toArray n, sl⟩)
    (ps : List (K × Value × Value)) (hn : us.length = ps.length) (hz : ps.length ≤ 1000)
    (hp : ∀ (m : Nat) (p : K × Value × Value), ps[m]? = some p → knd.is p.1 p.2.1 = true ∧ ∃ c : Addr, us[m]? = some (.ref c) ∧ s.heap.IsTuple c #[p.2.1, p.2.2])
    (k : ∀ h' tk, h'.DictOf knd s.heap.objs.size (merged [] (ps.map fun p => (p.1, p.2.2))) → (∀ b ob, s.heap.get? b = some ob → h'.get? b = some ob) → Q (.ref s.heap.objs.size) { s with heap := h', toks := tk }) :
    wpAny (model prog w) A (call (.type "dict") [.ref l]) Q E s := by
  have new : (s.heap.push { cls := .type "dict", data := .dict #[] }).DictOf knd s.heap.objs.size [] := Heap.DictOf.new s.heap
  refine callType_codes (T := "dict") (args := [.ref l]) (Q₁ := fun o s₁ => o = .ref s.heap.objs.size ∧ s₁ = { s with heap := s.heap.push { cls := .type "dict", data := .dict #[] } })
    F.kt_called_dict (F.kt_typeCall_dict_1 _) F.entry_dict_init (kt_code_dict_new (.ref l) ⟨rfl, rfl⟩) ?_
  rintro o s1 ⟨rfl, rfl⟩
  refine ⟨new.typeIs, F.args_dict_init_2 _ _, ?_⟩
  have lt : l < s.heap.objs.size := Heap.lt_size hx
  have hx1 := Heap.get?_push_of_some (h := s.heap) { cls := .type "dict", data := .dict #[] } hx
  generalize hg : s.heap.push { cls := .type "dict", data := .dict #[] } = G at new hx1
  have kG : ∀ b ob, s.heap.get? b = some ob → G.get? b = some ob := fun b ob e => by rw [← hg]; exact Heap.get?_push_of_some _ e
  unfold Builtin.«dict.__init__»
  refine wpAny_bind ?_
  unfold Builtin.Dict.selfAndRest
  refine wpAny_bind (wpAny_notOrdered_dict (s := { s with heap := G }) new.typeIs (wpAny_pure ?_))
  show wpAny _ _ (Builtin.Dict.updateFrom "dict.__init__" s.heap.objs.size (.ref l) [] .none) _ _ _
  unfold Builtin.Dict.updateFrom
  refine wpAny_bind (wpAny_typeOf (T := "list") ⟨_, hx1, rfl⟩ ?_)
  rw [if_pos (by decide)]
  refine wpAny_bind (list_keys_none (s := { s with heap := G }) hx1 ?_ fun h2 tk2 k2 => ?_)
  · exact hA
  dsimp only
  rw [if_pos (show (none : Option Value).isNone = true from rfl)]
  have hx2 := k2 _ _ hx1
  refine wpAny_bind (wpAny_rule (wpAny_bind (wpAny_pyIter_list (items := us.toArray) ⟨_, hx2, rfl, _, rfl⟩ (wpAny_pure ⟨Code.quiet_builtin _ (by decide +kernel), ?_⟩))))
  obtain ⟨dO, d1, d2, d3, d4⟩ := new
  have dlt : s.heap.objs.size < h2.objs.size := Heap.lt_size (k2 _ _ d3)
  have k3 : ∀ b ob, s.heap.get? b = some ob → (h2.push { cls := .type "list_iterator", data := .fields #[.ref l, .int 0 0] }).get? b = some ob := fun b ob e => Heap.get?_push_of_some _ (k2 _ _ (kG b ob e))
  refine pairs_loop (us := us) (A := A.in1) hA (Nat.ne_of_lt dlt) (Nat.ne_of_lt (Heap.lt_size hx2)) (Nat.ne_of_gt lt) ps 0 0 [] _ (by omega) ⟨_, Heap.get?_push_size _ rfl, rfl, rfl⟩ ⟨_, k3 _ _ hx, rfl, _, rfl⟩ ⟨dO, d1, d2, Heap.get?_push_of_some _ (k2 _ _ d3), d4⟩ (by simpa using hz) ?_ ?_
  · intro m p hm
    obtain ⟨q1, c, q2, oc, q3, q4⟩ := hp m p hm
    exact ⟨q1, c, by rw [Nat.zero_add]; exact q2, Nat.ne_of_lt (Heap.lt_size q3), Nat.ne_of_lt (Heap.lt_size (k2 _ _ (kG _ _ q3))), oc, k3 _ _ q3, q4⟩
  · intro h' tk hD al
    exact ⟨rfl, k h' tk hD fun b ob e => al b ob (Nat.ne_of_lt (Heap.lt_size e)) (Nat.ne_of_lt (Heap.lt_size (k2 _ _ (kG _ _ e)))) (k3 b ob e)⟩
end
section
variable {X : Cx}
def rDictP (K : PySem.W.Frag) : List V → Hp → VK → Prop := fun xs H Q => ∃ (l : Addr) (ps : List (Addr × Key × V)), xs = [.ref l] ∧ H l = some (.lst (ps.map fun x => .ref x.1)) ∧ (∀ x ∈ ps, H x.1 = some (.tup [kV x.2.1, x.2.2])) ∧ ps.length ≤ 1000 ∧ ∀ d, H d = none → Q (.ref d) (upd H d (.dK (mergeK [] (ps.map (·.2)))))
theorem call_dict_pairs (hc : X.calm = true) : CallR X (.type "dict") (rDictP X.K) := by
  rintro pins s σ H xs us Q I r ⟨l, ps, rfl, hl, hp, hz, q⟩
  obtain ⟨u, rfl, ru⟩ := r.one
  cases ru
  obtain ⟨hz0, its, n, rv, hn, e⟩ := I.lstM hl
  have tup : ∀ x ∈ ps, ∃ a b : Value, RelV (kV x.2.1) a ∧ RelV x.2.2 b ∧ s.heap.IsTuple x.1 #[a, b] := fun x hx => by
    obtain ⟨ts, r2, p2, _⟩ := I.tuple (SqT.of (hp x hx))
    obtain ⟨a, b, rfl, ra, rb⟩ := r2.two
    exact ⟨a, b, ra, rb, p2⟩
  have pick : ∃ qs : List (Key × Value × Value), All2 (fun (x : Addr × Key × V) (y : Key × Value × Value) => y.1 = x.2.1 ∧ RelV (kV x.2.1) y.2.1 ∧ RelV x.2.2 y.2.2 ∧ s.heap.IsTuple x.1 #[y.2.1, y.2.2]) ps qs := by
    clear rv hn e hl hz q hp hz0
    induction ps with
    | nil => exact ⟨[], .nil⟩
    | cons x r ih =>
      obtain ⟨a, b, h1, h2, h3⟩ := tup x (by simp)
      obtain ⟨qs, hq⟩ := ih fun y hy => tup y (List.mem_cons_of_mem _ hy)
      exact ⟨(x.2.1, a, b) :: qs, .cons ⟨rfl, h1, h2, h3⟩ hq⟩
  obtain ⟨qs, hq⟩ := pick
  have ql := hq.len
  have hn' : its.length = ps.length := by
    rw [List.length_map] at hn
    exact hn.symm
  refine dict_of_pairs (knd := mixKind X.prog X.w) (I.ok.hd hc) e qs (by omega) (by omega) (fun m p hm => ?_) fun h' tk hD kp => ?_
  · have lt : m < ps.length := by
      rw [ql]
      exact (List.getElem?_eq_some_iff.mp hm).1
    obtain ⟨e1, e2, e3, e4⟩ := hq.get (show ps[m]? = some ps[m] by simp) hm
    refine ⟨by rw [e1]; exact kV_is e2, ps[m].1, ?_, e4⟩
    obtain ⟨u, hu, ru⟩ := rv.get (show (ps.map fun x => V.ref x.1)[m]? = some (.ref ps[m].1) by simp [lt])
    rw [hu, show u = Value.ref ps[m].1 from ru]
  · have kv : KV (ps.map (·.2)) (qs.map fun p => (p.1, p.2.2)) := by
      clear hD rv hn e hl hz q hp tup hn' ql hz0
      induction hq with
      | nil => exact .nil
      | cons h t ih => exact .cons ⟨h.1.symm, h.2.2.1⟩ ih
    refine ⟨.ref s.heap.objs.size, _, I.laid (a := s.heap.objs.size) (o := .dK (mergeK [] (ps.map (·.2)))) (t' := tk) kp (Nat.le_refl _) (dk_new ?_ (beq_eq_false_iff_ne.mpr (Ne.symm (Nat.ne_of_lt I.big))) (kv.merge .nil) hD), rfl, q _ (I.hok.fresh (Nat.le_refl _))⟩
    have h1 := length_mergeK (ps.map (·.2)) []
    rw [List.length_nil, List.length_map] at h1
    exact sz_of (by omega)
end
end L2
set_option Elab.async false
set_option linter.all false
set_option maxRecDepth 100000
namespace L2
open PySem PySem.Spec PyProof.Rows
def Stay (H H' : Hp) : Prop := ∀ b o, (∀ zs, o ≠ HO.lst zs) → (∀ ob u, o ≠ HO.frz ob u) → H b = some o → H' b = some o
theorem Stay.list {H : Hp} {D : Addr} {zs ys : List V} (h : H D = some (.lst ys)) : Stay H (upd H D (.lst zs)) := fun b o h1 _ e => by
  rw [upd_ne (fun z => h1 ys (by rw [z, h] at e; exact (Option.some.inj e).symm))]
  exact e
theorem comp_inv {α : Type} {J : It} {H1 : Hp} {fr : List Nat} {σ : St} {te : TE} {Q : VK} {cs : List α} {g : α → V} (T : Tells J H1 (cs.map g)) (Pv : Nat → List V → Hp → Prop) (stay : ∀ i ys H H', Stay H H' → Pv i ys H → Pv i ys H') (hz : cs.length ≤ sizeLine) (h0 : ∀ H, Pv 0 [] H)
    (len : ∀ i ys H, Pv i ys H → ys.length = i)
    (he : ∀ i c ys H2 Q2, cs[i]? = some c → Same H1 H2 → Pv i ys H2 → (∀ v H3, Same H2 H3 → Pv (i + 1) (ys ++ [v]) H3 → Q2 v H3) → te (stB1 (g c) fr σ) H2 Q2)
    (hQ : ∀ D H2 ys, H1 D = none → Same H1 H2 → H2 D = some (.lst ys) → Pv cs.length ys H2 → Q (.ref D) H2) : CompR J H1 fr σ tYes te Q := by
  intro D hD
  have hlen : (cs.map g).length = cs.length := List.length_map ..
  refine ⟨fun i m ys H2 => m = cs.length - i ∧ i ≤ cs.length ∧ Pv i ys H2 ∧ Same H1 H2 ∧ H2 D = some (.lst ys), ⟨_, rfl, Nat.zero_le _, h0 _, Same.new hD, upd_same⟩, ?_⟩
  rintro i m ys H2 ⟨rfl, hi, a2, s2, d2⟩
  by_cases hlt : i < cs.length
  · refine .inr ⟨T.go i H2 (by rw [hlen]; exact hlt) s2, fun x H3 y => ?_⟩
    obtain ⟨rfl, hx⟩ := T.yld i H2 x H3 s2 (by rw [hlen]; exact hlt) y
    rw [List.getElem?_map] at hx
    cases hc : cs[i]? with
    | none => rw [hc] at hx; cases hx
    | some c =>
      rw [hc] at hx
      obtain rfl : g c = x := Option.some.inj hx
      unfold tYes
      dsimp only
      rw [if_pos rfl]
      refine he i c ys H3 _ hc s2 a2 fun v H5 s5 r5 => ⟨s5 _ _ d2, ?_, _, ?_, rfl, hlt, stay _ _ _ _ (Stay.list (s5 _ _ d2)) r5, (s2.trans s5).upd_new hD, upd_same⟩
      · have := len _ _ _ a2
        omega
      · omega
  · obtain rfl : i = cs.length := by omega
    exact .inl ⟨by have := T.stop H2 s2; rw [hlen] at this; exact this, hQ D H2 ys hD s2 d2 a2⟩
theorem comp_dict_inv {X : Cx} {H : Hp} {fr : List Nat} {σ : St} {te : TE} {tel : TE} {Q : VK} {d : Addr} {kvs : List (Key × V)} (hte : ∀ R : VK, R (.ref d) H → te σ H R) (hd : H d = some (.dK kvs)) (hz : kvs.length ≤ sizeLine)
    (Pv : Nat → List V → Hp → Prop) (stay : ∀ i ys H H', Stay H H' → Pv i ys H → Pv i ys H') (h0 : ∀ H, Pv 0 [] H) (len : ∀ i ys H, Pv i ys H → ys.length = i)
    (he : ∀ i k ys H2 Q2, (kvs.map (·.1))[i]? = some k → (∀ b u, b ≠ d → H b = some u → H2 b = some u) → Rd H2 d (.dK kvs) → (∀ u, H2 d = some u → ∃ ob w, u = .frz ob w) → Pv i ys H2 → (∀ v H3, Same H2 H3 → Pv (i + 1) (ys ++ [v]) H3 → Q2 v H3) → tel (stB1 (kV k) fr σ) H2 Q2)
    (hQ : ∀ D H2 ys, H D = none → Same H H2 → H2 D = some (.lst ys) → Pv kvs.length ys H2 → Q (.ref D) H2) : tCompD X te fr tYes tel σ H Q := by
  refine hte _ ⟨d, kvs, rfl, hd, fun ob nf => ?_⟩
  have T : Tells (Itd d ob kvs) (upd H d (.frz ob (.dK kvs))) ((kvs.map (·.1)).map kV) := by
    have hl : ((kvs.map (·.1)).map kV).length = kvs.length := by simp
    refine ⟨fun i H2 hi s2 => ⟨by rw [← hl]; exact hi, s2 _ _ upd_same⟩, fun H2 s2 => ⟨hl, s2 _ _ upd_same⟩, fun i H2 x H3 s2 hi y => ⟨y.1, ?_⟩⟩
    have e := y.2
    rw [List.map_map]
    exact e
  have off : ∀ H2, Same (upd H d (.frz ob (.dK kvs))) H2 → (∀ b u, b ≠ d → H b = some u → H2 b = some u) ∧ Rd H2 d (.dK kvs) := fun H2 s2 =>
    ⟨fun b u hb e => s2 b u (by rw [upd_ne hb]; exact e), .inr ⟨ob, s2 _ _ upd_same⟩⟩
  refine comp_inv T Pv stay (by rw [List.length_map]; exact hz) h0 len (fun i k ys H2 Q2 hk s2 a2 h => he i k ys H2 Q2 hk (off H2 s2).1 (off H2 s2).2 (fun u e => ?_) a2 h) fun D H2 ys hD s2 d2 a2 => ?_
  · rw [s2 _ _ upd_same] at e
    exact ⟨_, _, (Option.some.inj e).symm⟩
  have hDd : D ≠ d := fun z => by
    rw [z, upd_same] at hD
    cases hD
  rw [upd_ne hDd] at hD
  refine ⟨d, ob, kvs, nf, s2 _ _ upd_same, hQ D _ ys hD (fun b u e => ?_) (by rw [upd_ne hDd]; exact d2) (stay _ _ _ _ (fun b o h1 h2 e => ?_) (by rw [List.length_map] at a2; exact a2))⟩
  · by_cases hb : b = d
    · subst hb
      rw [hd] at e
      cases e
      exact upd_same
    · rw [upd_ne hb]
      exact (off H2 s2).1 b u hb e
  · have hb : b ≠ d := fun z => by
      rw [z, s2 _ _ upd_same] at e
      exact h2 _ _ (Option.some.inj e).symm
    rw [upd_ne hb]
    exact e
theorem merge_fresh : ∀ (more kvs : List (Key × V)), ((kvs ++ more).map (·.1)).Nodup → mergeK kvs more = kvs ++ more
  | [], kvs, _ => by simp [mergeK]
  | p :: r, kvs, h => by
    have hp : putK kvs p.1 p.2 = kvs ++ [p] := by
      unfold putK
      rw [if_neg]
      intro z
      obtain ⟨x, hx, e⟩ := List.any_eq_true.mp z
      rw [List.map_append, List.nodup_append] at h
      exact h.2.2 x.1 (List.mem_map.mpr ⟨x, hx, rfl⟩) p.1 (by simp) (of_decide_eq_true e)
    show mergeK (putK kvs p.1 p.2) r = _
    rw [hp, merge_fresh r (kvs ++ [p]) (by rw [List.append_assoc]; exact h), List.append_assoc]
    rfl
theorem merge_nodup {kvs : List (Key × V)} (h : (kvs.map (·.1)).Nodup) : mergeK [] kvs = kvs := merge_fresh kvs [] h
def CopyP (H1 : Hp) (vals : List (Nm × Addr × Nums)) (i : Nat) (ys : List V) (H2 : Hp) : Prop := ∃ es : List (Addr × Addr), es.length = i ∧ ys = es.map (fun e => V.ref e.1) ∧
  (∀ (j : Nat) (e : Addr × Addr) (x : Nm × Addr × Nums), es[j]? = some e → vals[j]? = some x → H2 e.1 = some (.tup [.str (tx x.1), .ref e.2]) ∧ H2 e.2 = some (.dK (kvNums x.2.2))) ∧ (es.map (·.2)).Nodup ∧ ∀ e ∈ es, H1 e.2 = none
theorem CopyP.stay {H1 Ha Hb : Hp} {vals : List (Nm × Addr × Nums)} {i : Nat} {ys : List V} (st : Stay Ha Hb) (h : CopyP H1 vals i ys Ha) : CopyP H1 vals i ys Hb := by
  obtain ⟨es, l1, l2, l3, l4, l5⟩ := h
  exact ⟨es, l1, l2, fun j e x he hx => ⟨st _ _ (fun _ z => nomatch z) (fun _ _ z => nomatch z) (l3 j e x he hx).1, st _ _ (fun _ z => nomatch z) (fun _ _ z => nomatch z) (l3 j e x he hx).2⟩, l4, l5⟩
theorem CopyP.nil {H1 H2 : Hp} {vals : List (Nm × Addr × Nums)} : CopyP H1 vals 0 [] H2 := ⟨[], rfl, rfl, fun j e x he => (by cases he), List.nodup_nil, fun e he => (by cases he)⟩
theorem CopyP.len {H1 H2 : Hp} {vals : List (Nm × Addr × Nums)} {i : Nat} {ys : List V} (h : CopyP H1 vals i ys H2) : ys.length = i := by
  obtain ⟨es, l1, l2, _⟩ := h
  rw [l2, List.length_map, l1]
theorem CopyP.more {H1 H2 : Hp} {vals : List (Nm × Addr × Nums)} {i : Nat} {ys : List V} {x : Nm × Addr × Nums} {l p : Addr} (h : CopyP H1 vals i ys H2) (hx : vals[i]? = some x) (hl : H2 l = none) (hl1 : H1 l = none) (hp : upd H2 l (.dK (kvNums x.2.2)) p = none) :
    CopyP H1 vals (i + 1) (ys ++ [.ref p]) (upd (upd H2 l (.dK (kvNums x.2.2))) p (.tup [.str (tx x.1), .ref l])) ∧ Same H2 (upd (upd H2 l (.dK (kvNums x.2.2))) p (.tup [.str (tx x.1), .ref l])) := by
  have s1 := Same.new (o := .dK (kvNums x.2.2)) hl
  have s2 := Same.new (o := .tup [.str (tx x.1), .ref l]) hp
  have lp : l ≠ p := fun z => by
    rw [← z, upd_same] at hp
    cases hp
  obtain ⟨es, l1, l2, l3, l4, l5⟩ := h
  refine ⟨⟨es ++ [(p, l)], by rw [List.length_append, l1]; rfl, by rw [l2, List.map_append]; rfl, fun j e y he hy => ?_, ?_, fun e he => ?_⟩, s1.trans s2⟩
  · by_cases hj : j < es.length
    · rw [List.getElem?_append_left hj] at he
      exact ⟨s2 _ _ (s1 _ _ (l3 j e y he hy).1), s2 _ _ (s1 _ _ (l3 j e y he hy).2)⟩
    · rw [List.getElem?_append_right (by omega)] at he
      have : j = i := by
        obtain ⟨z, _⟩ := List.getElem?_eq_some_iff.mp he
        simp only [List.length_cons, List.length_nil] at z
        omega
      subst this
      rw [hx] at hy
      cases hy
      rw [← l1, Nat.sub_self] at he
      cases he
      exact ⟨upd_same, (upd_ne lp).trans upd_same⟩
  · rw [List.map_append, List.nodup_append]
    refine ⟨l4, by simp, fun a ha b hb z => ?_⟩
    have : b = l := by simpa using hb
    obtain ⟨e, he, rfl⟩ := List.mem_map.mp ha
    obtain ⟨j, hj⟩ := List.mem_iff_getElem?.mp he
    have jl : j < es.length := (List.getElem?_eq_some_iff.mp hj).1
    have iv := (List.getElem?_eq_some_iff.mp hx).1
    have := (l3 j e vals[j] hj (by simp)).2
    rw [z, ‹b = l›, hl] at this
    cases this
  · rcases List.mem_append.mp he with h | h
    · exact l5 e h
    · rw [List.mem_singleton.mp h]
      exact hl1
def copyV (es : List (Addr × Addr)) (vals : List (Nm × Addr × Nums)) : List (Nm × Addr × Nums) := (es.zip vals).map fun z => (z.2.1, z.1.2, z.2.2.2)
theorem copyV_abs : ∀ {es : List (Addr × Addr)} {vals : List (Nm × Addr × Nums)}, es.length = vals.length → (copyV es vals).map (fun x => (x.1, x.2.2)) = vals.map fun x => (x.1, x.2.2)
  | [], [], _ => rfl
  | [], _ :: _, h => by cases h
  | _ :: _, [], h => by cases h
  | e :: es, x :: r, h => by
    have := copyV_abs (es := es) (vals := r) (by simpa using h)
    unfold copyV at this ⊢
    simp only [List.zip_cons_cons, List.map_cons, this]
theorem copyV_names {es : List (Addr × Addr)} {vals : List (Nm × Addr × Nums)} (h : es.length = vals.length) : (copyV es vals).map (·.1) = vals.map (·.1) := by
  have := congrArg (List.map Prod.fst) (copyV_abs h)
  rw [List.map_map, List.map_map] at this
  exact this
theorem copyV_places : ∀ {es : List (Addr × Addr)} {vals : List (Nm × Addr × Nums)}, es.length = vals.length → (copyV es vals).map (·.2.1) = es.map (·.2)
  | [], [], _ => rfl
  | [], _ :: _, h => by cases h
  | _ :: _, [], h => by cases h
  | e :: es, x :: r, h => by
    have := copyV_places (es := es) (vals := r) (by simpa using h)
    unfold copyV at this ⊢
    simp only [List.zip_cons_cons, List.map_cons, this]
theorem copyV_at {es : List (Addr × Addr)} {vals : List (Nm × Addr × Nums)} {x : Nm × Addr × Nums} (h : x ∈ copyV es vals) : ∃ (j : Nat) (e : Addr × Addr) (y : Nm × Addr × Nums), es[j]? = some e ∧ vals[j]? = some y ∧ x = (y.1, e.2, y.2.2) := by
  unfold copyV at h
  obtain ⟨z, hz, rfl⟩ := List.mem_map.mp h
  obtain ⟨j, hj⟩ := List.mem_iff_getElem?.mp hz
  rw [List.getElem?_zip_eq_some] at hj
  exact ⟨j, z.1, z.2, hj.1, hj.2, rfl⟩
theorem put1 (a b c d : V) : putF "kept_values" a ([("kept_values", b), ("kept_ties", c), ("coming_number", d)] : List (Str × V)) = ([("kept_values", a), ("kept_ties", c), ("coming_number", d)] : List (Str × V)) := if_pos rfl
theorem put2 (a b c d : V) : putF "kept_ties" a ([("kept_values", b), ("kept_ties", c), ("coming_number", d)] : List (Str × V)) = ([("kept_values", b), ("kept_ties", a), ("coming_number", d)] : List (Str × V)) := (if_neg (by decide)).trans (congrArg _ (if_pos rfl))
theorem put3 (a b c d : V) : putF "coming_number" a ([("kept_values", b), ("kept_ties", c), ("coming_number", d)] : List (Str × V)) = ([("kept_values", b), ("kept_ties", c), ("coming_number", a)] : List (Str × V)) := (if_neg (by decide)).trans (congrArg _ ((if_neg (by decide)).trans (congrArg _ (if_pos rfl))))
theorem keys_nodup {vals : List (Nm × Addr × Nums)} (h : (vals.map (·.1)).Nodup) : ((kvVals vals).map (·.1)).Nodup := by
  unfold kvVals
  rw [List.map_map]
  have := List.pairwise_map.mp h
  exact List.pairwise_map.mpr (this.imp fun hab z => hab (tx_inj.mp (Sum.inr.inj z)))
end L2
set_option Elab.async false
set_option linter.all false
set_option maxRecDepth 100000
namespace L2
open PySem PySem.Spec PyProof.Rows
section
variable {X : Cx}
end
section
variable {X : Cx} {tg : Expr}
end
section
variable {X : Cx}
end
section
variable {X : Cx}
variable {pos : Pos}
theorem bpgs_nil : Bx (PGs X [] gNil) := ⟨pgs_nil⟩
theorem bpgs_cons {e : Expr} {es : List Expr} {t : TG} {u : TGs} (h1 : Bx (PG X e t)) (h2 : Bx (PGs X es u)) (hs : (assignEach (e :: es) X.env).map (·.2) = assign e X.env :: (assignEach es X.env).map (·.2) := by rfl) : Bx (PGs X (e :: es) (gCons t u)) := ⟨pgs_cons h1.un h2.un hs⟩
theorem bpg_tup {es : List Expr} {k : Nat} {t : TGs} {n : Nat} (hc : X.calm = true) (h : Bx (PGs X es t)) (hn : (assignEach es X.env).length = n := by rfl) (hst : (assignEach es X.env).findIdx? (·.1) = none := by rfl) : Bx (PG X (.Tuple es k pos) (gTup X.K n t)) := ⟨pg_tup hc h.un hn hst⟩
end
end L2
set_option Elab.async false
set_option linter.all false
set_option maxRecDepth 100000
namespace L2
open PySem PySem.Spec PyProof.Rows
structure Mch where
  mks : List Mrk
  fol : List (List Int)
  ends : List Bool
theorem at_get {α : Type} {xs : List α} {i : Int} {v : α} (h0 : 0 ≤ i) (h : xs[i.toNat]? = some v) : atI xs i = some v := by
  obtain ⟨n, rfl⟩ := Int.eq_ofNat_of_zero_le h0
  exact atI_nat (by simpa using h)
end L2
set_option Elab.async false
set_option linter.all false
set_option maxRecDepth 100000
namespace L2
open PySem PySem.Spec PyProof.Rows
def Fit (n : Nat) (d : PyData) : Prop := d.canLay0 = true ∧ d.depth ≤ n
def FitAll (n : Nat) (ds : List PyData) : Prop := PyData.canLayAll0 ds = true ∧ PyData.depthAll ds ≤ n
theorem fit_all {n : Nat} : ∀ {ds : List PyData}, (∀ d ∈ ds, Fit n d) → FitAll n ds
  | [], _ => ⟨rfl, Nat.zero_le _⟩
  | d :: ds, h => by
    have h1 := h d (by simp)
    have h2 := fit_all (n := n) (ds := ds) fun x hx => h x (List.mem_cons_of_mem _ hx)
    refine ⟨by rw [PyData.canLayAll0, h1.1, h2.1]; rfl, ?_⟩
    rw [PyData.depthAll]
    exact Nat.max_le.mpr ⟨h1.2, h2.2⟩
theorem fit_list {n : Nat} {ds : List PyData} (h : FitAll n ds) : Fit (n + 1) (.list ds) := ⟨by rw [PyData.canLay0]; exact h.1, by rw [PyData.depth]; have := h.2; omega⟩
theorem fit_tup {n : Nat} {ds : List PyData} (h : FitAll n ds) : Fit (n + 1) (.tuple ds) := ⟨by rw [PyData.canLay0]; exact h.1, by rw [PyData.depth]; have := h.2; omega⟩
theorem Fit.more {n k : Nat} {d : PyData} (h : Fit n d) (l : n ≤ k) : Fit k d := ⟨h.1, Nat.le_trans h.2 l⟩
theorem fit_int (i : Int) : Fit 0 (.int i) := ⟨rfl, Nat.le_refl _⟩
theorem fit_str {l : List Nat} (h : okT l) : Fit 0 (.str (tx l)) := ⟨by rw [PyData.canLay0]; exact strOk_tx h, Nat.le_refl _⟩
theorem Fit.shaped {n : Nat} {d : PyData} (h : Fit n d) (l : n ≤ 64) : SeqAt.shaped d = true := by
  unfold SeqAt.shaped
  rw [Bool.and_eq_true, decide_eq_true_eq]
  exact ⟨h.1, Nat.le_trans h.2 l⟩
theorem datVs_of {α : Type} {K : PySem.W.Frag} {H : Hp} {f : α → PyData} {R : Addr → α → Prop} (hR : ∀ a x, R a x → DatV K H (.ref a) (f x)) : ∀ {as : List Addr} {xs : List α}, All2 R as xs → DatVs K H (as.map V.ref) (xs.map f)
  | _, _, .nil => .nil
  | _, _, .cons r t => .cons (hR _ _ r) (datVs_of hR t)
end L2
set_option Elab.async false
set_option linter.all false
set_option maxRecDepth 100000
namespace L2
open PySem PySem.Spec PyProof.Rows
theorem by_else {P G : Prop} (k : P → G) (h : P) : G := k h
end L2
set_option Elab.async false
set_option linter.all false
set_option maxRecDepth 100000
namespace L2
open PySem PySem.Spec PyProof.Rows
section
variable {X : Cx} {o e f : Expr} {apos cpos : Pos} {td ty tx : TE}
end
section
variable {X : Cx} {pins : List (Addr × Obj)} {σ : St} {H : Hp} {s : Shared} {h' : Heap}
end
section
variable {X : Cx} {elts : List Expr} {x1 : Nat} {tpos : Pos}
end
section
variable {X : Cx}
end
section
variable {X : Cx}
end
end L2
set_option Elab.async false
set_option linter.all false
set_option maxRecDepth 100000
namespace L2
open PySem PySem.Spec PyProof.Rows
section
variable {H0 H H' : Hp} {d : Addr} {n m n' m' : Nat} {good : Nm → Int → Nm → Prop} {kvs : List (Key × V)}
end
end L2
set_option Elab.async false
set_option linter.all false
set_option maxRecDepth 100000
namespace L2
open PySem PySem.Spec PyProof.Rows
structure En where
  th : Nm
  rm : Int
  far : Int
  num : Int
  bef : Int
  deriving DecidableEq
section
variable {B H H' : Hp} {qe qs : Addr} {mks : List Mrk} {good : Bool → Nm → Int → Nm → Prop} {st : Nm} {ts : List Nm} {es : List En}
end
end L2
set_option Elab.async false
set_option linter.all false
set_option maxRecDepth 100000
namespace L2
open PySem PySem.Spec PyProof.Rows
section
variable {mks : List Mrk} {good : Bool → Nm → Int → Nm → Prop} {st : Nm} {es : List En}
end
end L2
set_option Elab.async false
set_option linter.all false
set_option maxRecDepth 100000
namespace L2
open PySem PySem.Spec PyProof.Rows
section
variable {prog : Program} {w : World} {A : Around} {E : Value → Shared → Prop} {s : Shared} {I l S : Addr} {items : Array Value}
end
section
variable {X : Cx}
end
end L2
set_option Elab.async false
set_option linter.all false
set_option maxRecDepth 100000
namespace L2
open PySem PySem.Spec PyProof.Rows
section
variable {mks : List Mrk} {good : Bool → Nm → Int → Nm → Prop} {st : Nm} {es : List En}
end
end L2
set_option Elab.async false
set_option linter.all false
set_option maxRecDepth 100000
namespace L2
open PySem PySem.Spec PyProof.Rows
section
variable {W : WS} {m : Mrk} {n : Nat} {H0 H H' : Hp} {d : Addr} {kvs : List (Key × V)}
end
section
variable {M : Mch} {W : WS} {st : Nm} {es : List En} {pl : Nat} {e e0 : En} {mq : Mrk}
end
end L2
set_option Elab.async false
set_option linter.all false
set_option maxRecDepth 100000
namespace L2
open PySem PySem.Spec PyProof.Rows
section
variable {X : Cx}
open Classical in
end
end L2
set_option Elab.async false
set_option linter.all false
set_option maxRecDepth 100000
namespace L2
open PySem PySem.Spec PyProof.Rows PySem.W
section
variable {prog : Program} {w : World} {A : Around} {E : Value → Shared → Prop} {s : Shared} {env : Env}
variable {nm q : Str} {C N a : Addr} {bs bm bmB : List Value} {hdct : Bool} {sn : List Str} {sub : List Value} {ab : Bool} {col : Option Bool} {dd : Option Addr} {k0 k1 k2 k3 k5 : Option Value} {B newId initId : String}
theorem entry_unchain : entryFor table "proto.unchain" = some Builtin.«proto.unchain» := entryFor_of_tree (by kernel_rfl)
theorem raiseNew_ctx {α : Type} {e : Addr} {vs : Array Value} {Q : α → Shared → Prop} (hh : A.handled = some (.ref a)) (ne : a ≠ e) (c : CtxN a s.heap) (he : s.heap.get? e = some { cls := .ref C, dict := none, data := .fields vs, slots := #[] }) (hz : 2 < vs.size)
    (h : ∀ h', h'.get? e = some { cls := .ref C, dict := none, data := .fields (vs.setIfInBounds 2 (.ref a)), slots := #[] } → Heap.SameBut e s.heap h' → E (.ref e) { s with heap := h' }) : wpAny (model prog w) A (raiseNew (.ref e) : Sem α) Q E s := by
  obtain ⟨o, ws, e1, e2, e3⟩ := c
  unfold raiseNew
  refine wpAny_bind (wpAny_handled ?_)
  rw [hh]
  have hn : ((Value.ref a : Value) != Value.ref e) = true := bne_iff_ne.mpr fun z => ne (Value.ref.inj z)
  dsimp only
  rw [if_pos hn]
  refine wpAny_bind ?_
  refine wpAny_holding (wpAny_runValue (codeAny_builtin entry_unchain ?_))
  unfold Builtin.«proto.unchain»
  dsimp only
  refine wpAny_bind (wpAny_field e1 e2 e3 ?_)
  rw [if_pos (show ((Value.none : Value) == Value.none) = true from rfl)]
  refine wpAny_bind (wpAny_pure ?_)
  refine wpAny_pure ?_
  refine wpAny_bind ?_
  show wpAny _ _ (setField (.ref e) 2 (.ref a)) _ _ _
  exact wpAny_setField_rec he hz fun h' g1 g2 => wpAny_throw (h h' g1 g2)
theorem raiseStmt_from {x y : Sem Value} {Q : Flow → Shared → Prop} (hbase : bm.contains (.type "BaseException") = true) (hh : A.handled = some (.ref a)) (hy : ∀ (s : Shared) (R : Value → Shared → Prop), R .none s → wpAny (model prog w) A y R E s)
    (h : wpAny (model prog w) A x (fun v s1 => ∃ e t, v = .ref e ∧ s1.heap.get? C = some (excClassObj nm q C N bs bm hdct sn sub ab col dd k0 k1 k2 k3 k5 newId) ∧ CtxN a s1.heap ∧ a ≠ e ∧ s1.heap.get? e = some { cls := .ref C, data := .fields #[.ref t, .none, .none, .none, .bool false, .none] } ∧
      ∀ h', h'.get? e = some { cls := .ref C, data := .fields #[.ref t, .none, .ref a, .none, .bool true, .none] } → Heap.SameBut e s1.heap h' → E (.ref e) { s1 with heap := h' }) E s) :
    wpAny (model prog w) A (raiseStmt env (some x) (some y)) Q E s := by
  have hcB : (Value.ref C :: bm).contains (.type "BaseException") = true := by rw [List.contains_cons, hbase, Bool.or_true]
  unfold raiseStmt
  refine wpAny_bind (wpAny_mono h (fun v s1 g => ?_) fun _ _ z => z)
  obtain ⟨e, t, rfl, hC, cN, ne, he, k⟩ := g
  dsimp only
  refine wpAny_bind ?_
  refine wpAny_holding (hy s1 _ ?_)
  refine wpAny_bind (wpAny_pure ?_)
  obtain ⟨hp, g, d, tk, os⟩ := s1
  repeat (first | with_reducible refine wpAny_loadPart_at he ?_ | with_reducible refine wpAny_loadPart_at hC ?_ | (with_reducible refine wpAny_isSubtype_exc hC ?_; rw [hcB]) | wp_step)
  have hCe : e ≠ C := by
    rintro rfl
    rw [he] at hC
    cases hC
  have hC2 := (Heap.get?_update_other (hp.update e (Obj.mapFields fun x => x.setIfInBounds 3 Value.none)) (Obj.mapFields fun x => x.setIfInBounds 4 (Value.bool true)) hCe).trans ((Heap.get?_update_other hp (Obj.mapFields fun x => x.setIfInBounds 3 Value.none) hCe).trans hC)
  have he2 := Heap.get?_update_self (Obj.mapFields fun x => x.setIfInBounds 4 (Value.bool true)) (Heap.get?_update_self (Obj.mapFields fun x => x.setIfInBounds 3 Value.none) he rfl) rfl
  generalize hp2 : (hp.update e (Obj.mapFields fun x => x.setIfInBounds 3 Value.none)).update e (Obj.mapFields fun x => x.setIfInBounds 4 (Value.bool true)) = h2 at hC2 he2 ⊢
  have sb : Heap.SameBut e hp h2 := by
    subst hp2
    exact (Heap.SameBut.update ..).trans (Heap.SameBut.update ..)
  refine wpAny_loadPart_at hC2 ?_
  refine wpAny_pure ?_
  refine wpAny_pure ?_
  refine wpAny_bind ?_
  unfold setFlight
  refine wpAny_bind (wpAny_field he2 rfl (x := .none) rfl ?_)
  refine wpAny_pure ?_
  refine raiseNew_ctx hh ne ?_ he2 (show 2 < 6 by decide) fun h' g1 g2 => k h' g1 (sb.trans g2)
  obtain ⟨o, ws, e1, e2, e3⟩ := cN
  exact ⟨o, ws, (sb.2 a ne).trans e1, e2, e3⟩
theorem exec_raise_from (F : ExcBaseFacts B newId initId bmB) {mN : Str → Option Value} {x : Str} {np cpos npos pos : Pos} {kk : Nat} {args : List Expr} {Q : Flow → Shared → Prop}
    (hbase : bm.contains (.type "BaseException") = true) (hh : A.handled = some (.ref a)) (hplain : (backTo cpos (starEach args env)).any (·.1) = false) (hni : mN "__init__" = none)
    (h : wpAny (model prog w) A (eval (.Name x np) env) (fun f s1 => f = .ref C ∧ wpAny (model prog w) A (evalArgs (.ref C) true (backTo cpos (starEach args env)) [])
      (fun r s2 => r.kw = [] ∧ r.pos.length ≤ sizeLine ∧ s2.heap.get? C = some (excClassObj nm q C N bs bm hdct sn sub ab col dd k0 k1 k2 k3 k5 newId) ∧ s2.heap.Ns N mN ∧ OwnTail s2.heap bmB bm ∧ CtxN a s2.heap ∧
        ∀ h' h2 e t, Heap.MadeExcOf s2.heap h' e (.ref C) r.pos → h2.get? e = some { cls := .ref C, data := .fields #[.ref t, .none, .ref a, .none, .bool true, .none] } → Heap.SameBut e h' h2 → E (.ref e) { s2 with heap := h2 }) E s1) E s) :
    wpAny (model prog w) A (exec (.Raise (some (.Call (.Name x np) args [] cpos)) (some (.Constant .none kk npos)) pos) env) Q E s := by
  rw [arm_exec_Raise]
  simp only [evalOpt, Option.map]
  refine wpAny_bind (wpAny_standAt ?_)
  refine raiseStmt_from (C := C) (nm := nm) (q := q) (N := N) (bs := bs) (bm := bm) (hdct := hdct) (sn := sn) (sub := sub) (ab := ab) (col := col) (dd := dd) (k0 := k0) (k1 := k1) (k2 := k2) (k3 := k3) (k5 := k5) (newId := newId) hbase hh (fun s R r => wpAny_bind (wpAny_Constant_none (wpAny_bind (wpAny_standAt (wpAny_pure r))))) ?_
  refine wpAny_bind (wpAny_mono (wpAny_Call_ofName (wpAny_mono h (fun f s1 g => ?_) fun _ _ z => z)) (fun v s3 g3 => wpAny_bind (wpAny_standAt (wpAny_pure g3))) fun _ _ z => z)
  obtain ⟨rfl, g⟩ := g
  unfold callWith
  refine wpAny_bind (wpAny_holding (wpAny_mono g (fun r s2 g2 => wpAny_bind (wpAny_standAt ?_)) fun _ _ z => z))
  obtain ⟨us, kw⟩ := r
  obtain ⟨hkw, hlen, hC, hn, T, cN, k⟩ := g2
  obtain rfl : kw = [] := hkw
  obtain ⟨hp, gg, d, tk, os⟩ := s2
  simp only [hplain]
  refine wpAny_bind (wpAny_keeperOf_exc hC ?_)
  refine wpAny_bind (wpAny_call_exc_subT (hrest := hlen) F T hC hn hni fun h' e hm => wpAny_bind (wpAny_holding (wpAny_point (wpAny_pure ?_))))
  obtain ⟨t, ht, _, _⟩ := hm.there
  obtain ⟨o, ws, e1, e2, e3⟩ := cN
  refine ⟨e, t, rfl, hm.keeps _ _ hC, ⟨o, ws, hm.keeps _ _ e1, e2, e3⟩, ?_, ht, fun h2 y1 y2 => k h' h2 e t hm y1 y2⟩
  rintro rfl
  have z := hm.new
  rw [e1] at z
  cases z
end
def RaisesIn (X : Cx) (E : XK) : Prop := ∀ (pins : List (Addr × Obj)) (σ : St) (H : Hp) (s : Shared) (h' : Heap) (e C a t : Addr), Inv X pins σ H s → s.heap.get? e = none → h'.get? e = some { cls := .ref C, data := .fields #[.ref t, .none, .ref a, .none, .bool true, .none] } →
  (∀ b o, s.heap.get? b = some o → h'.get? b = some o) → E (.ref C) (some a) H → X.xe (.ref e) { s with heap := h' }
section
variable {P : Program} {w : World} {K : PySem.W.Frag} {mg : Str → Option Value} {base : Heap} {N : List Str} {qual : Str} {scope : Scope} {f : Addr} {cd : Value} {A : Around} {outer : List Env} {s : Shared} {H : Hp} {E : XK}
theorem raisesIn1 : RaisesIn (cxOf (CX1 P w) P w K mg base N qual scope f cd A outer s H E) E := by
  intro pins σ H1 s1 h' e C a t I en he kp q
  have hst := I.stack
  have hfr : ∀ b ∈ frs (envOfC qual scope s.heap.objs.size f cd :: outer), H1 b = none := I.stkFree
  have inF : ∀ env ∈ (envOfC qual scope s.heap.objs.size f cd :: outer), ∀ b, env.frame = some b → b ∈ frs (envOfC qual scope s.heap.objs.size f cd :: outer) := fun env he b hb => List.mem_filterMap.mpr ⟨env, he, hb⟩
  have subF : ∀ b ∈ frs outer, b ∈ frs (envOfC qual scope s.heap.objs.size f cd :: outer) := fun b hb => by
    obtain ⟨env, he, hf⟩ := List.mem_filterMap.mp hb
    exact List.mem_filterMap.mpr ⟨env, List.mem_cons_of_mem _ he, hf⟩
  have notF : ∀ b o, s.heap.get? b = some o → b ∉ frs outer → b ∉ frs (envOfC qual scope s.heap.objs.size f cd :: outer) := fun b o e1 n hb => by
    obtain ⟨env, he, hf⟩ := List.mem_filterMap.mp hb
    rcases List.mem_cons.mp he with rfl | he
    · have z : s.heap.objs.size = b := Option.some.inj hf
      exact absurd (Heap.lt_size e1) (by rw [← z]; exact Nat.lt_irrefl _)
    · exact n (List.mem_filterMap.mpr ⟨env, he, hf⟩)
  have noB : (PySem.W.hideAll s1.heap (frs (envOfC qual scope s.heap.objs.size f cd :: outer))).get? e = none := by
    cases z : (PySem.W.hideAll s1.heap (frs (envOfC qual scope s.heap.objs.size f cd :: outer))).get? e with
    | none => rfl
    | some o =>
      have y := PySem.W.of_hideAll _ z
      rw [en] at y
      cases y
  refine wpAny_leaving_firstW (base := PySem.W.hideAll s1.heap (frs (envOfC qual scope s.heap.objs.size f cd :: outer))) (a0 := .ref t) I.ok.frames ((PySem.W.funFrames_hide hst inF).of_keeps fun b o hb _ => ⟨o, kp b o hb, rfl⟩) rfl he (fun b o z => kp b o (PySem.W.of_hideAll _ z)) noB rfl rfl rfl fun h2 L => ?_
  obtain ⟨l1, ⟨_, _, l2⟩, l3, up⟩ := L
  have fl : Heap.FlyingW (PySem.W.hideAll s1.heap (frs (envOfC qual scope s.heap.objs.size f cd :: outer))) outer e (.ref C) (.ref t) h2 := ⟨l1, noB, l2, l3⟩
  refine ⟨e, C, H1, some a, rfl, ⟨I.os, I.bare, ⟨_, _, fl, objok_stay I.hok fun b o u hu z => PySem.W.hideAll_get _ z fun hb => ?_, fun b o e1 n1 n2 => ?_, fun b o e1 n2 => ?_⟩, fun b o e1 n1 hb => ?_, fun b o e1 n1 => I.base.free b o e1 n1 (by intro z; exact absurd (show b ∈ ([] : List Addr) from z) (by simp)), I.base.tups, I.base.frzs, I.base.tbls⟩, fun z => (nomatch z), q⟩
  · rw [hfr b hb] at hu
    cases hu
  · exact PySem.W.hideAll_get _ (I.base.keep b o e1 n1 n2 (by intro z; exact absurd (show b ∈ ([] : List Addr) from z) (by simp))) (notF b o e1 n2)
  · obtain ⟨o', e2⟩ := I.base.there b o e1 (by intro z; exact absurd (show b ∈ ([] : List Addr) from z) (by simp))
    exact ⟨o', PySem.W.hideAll_get _ e2 (notF b o e1 n2)⟩
  · obtain ⟨sl, e2⟩ := I.base.slot b o e1 n1 hb (by intro z; exact absurd (show b ∈ ([] : List Addr) from z) (by simp))
    obtain ⟨_, o2, e3, nf⟩ := hst.mem (subF b hb)
    rw [e2] at e3
    cases e3
    obtain ⟨sl2, e4⟩ := up b _ (kp b _ e2) nf
    exact ⟨sl2, e4⟩
end
section
variable {X : Cx} {pins : List (Addr × Obj)} {σ : St} {H : Hp} {s : Shared} {a C : Addr} {d : Option Addr}
theorem Inv.untrack {φ : Heap → Prop} (I : Inv X pins σ (upd H a (.ext φ)) s) (ha : H a = none) : Inv X pins σ H s := by
  have un : ∀ b, upd H a (.ext φ) b = none → H b = none := fun b h => by
    by_cases z : b = a
    · rw [z]; exact ha
    · rw [upd_ne z] at h; exact h
  have of : ∀ b o, (∀ ψ, o ≠ HO.ext ψ) → upd H a (.ext φ) b = some o → H b = some o := fun b o n h => by
    by_cases z : b = a
    · rw [z, upd_same] at h
      exact absurd (Option.some.inj h).symm (n φ)
    · rw [upd_ne z] at h; exact h
  refine ⟨I.ok, I.os, I.bare, ⟨I.base.keep, I.base.slot, fun b o e n x => un b (I.base.free b o e n x), I.base.there, fun b xs e => of b _ (fun _ z => nomatch z) (I.base.tups b xs e), fun b o u e => of b _ (fun _ z => nomatch z) (I.base.frzs b o u e), fun b ps e => ?_⟩, I.loc, I.cell, un _ I.free, fun x c e => un _ (I.freeC x c e), fun p hp => ?_, fun b u e => ?_, I.len⟩
  · obtain ⟨m, q⟩ := I.base.tbls b ps e
    exact ⟨m, of b _ (fun _ z => nomatch z) q⟩
  · obtain ⟨q1, q2, q3⟩ := I.pin p hp
    exact ⟨q1, un _ q2, q3⟩
  · have nb : b ≠ a := fun z => by
      rw [z, ha] at e
      cases e
    refine (I.hok b u (by rw [upd_ne nb]; exact e)).stay (fun _ _ _ q => q) (fun c q => of c _ (fun _ z => nomatch z) q) fun c xs q => of c _ (fun _ z => nomatch z) q
structure Landed (X : Cx) (pins : List (Addr × Obj)) (σ : St) (H : Hp) (a C : Addr) (d : Option Addr) (s : Shared) : Prop where
  inv : Inv X pins σ H s
  new : H a = none
  cls : OfCls s.heap a C
  ctx : d = none → Inv X pins σ (upd H a (.ext (CtxN a))) s
  fly : ∃ B a0, Heap.FlyingW B X.stack a (.ref C) a0 s.heap
theorem land_same {M : Model} {A : Around} {E : Value → Shared → Prop} {B : Heap} {l : List Env} {a0 c : Value} {Q : Unit → Shared → Prop} (fl : Heap.FlyingW B l a c a0 s.heap) (h : Q () s) : wpAny M A (setFlight (.ref a) none) Q E s := by
  obtain ⟨oe, vs, T, oT, ts, e1, _, e2, e3, _, _, e4, e5, e6⟩ := fl.2.2.2
  refine wpAny_setFlight_none e1 e2 e3 e4 e5 (Array.getElem?_eq_some_iff.mp e6).1 ?_
  rw [Heap.update_setField_same s.heap T oT ts 3 .none e4 e5 e6]
  exact h
def HB (X : Cx) (C : Addr) (d : Option Addr) (hs : List ExceptHandler) (th : TS) : Prop := ∀ (pins : List (Addr × Obj)) (σ : St) (H : Hp) (a : Addr) (s : Shared) (D : Ends), Landed X pins σ H a C d s → th D σ H →
  wpAny (model X.prog X.w) X.A (handleBy (.ref a) X.env hs) (SP X pins D) X.xe s
variable {x : Str} {D0 : Addr} {b₀ : Stmt} {body suite : List Stmt} {np hpos : Pos} {rest : List ExceptHandler} {th : TS}
def tFrom (E : XK) (C2 : Addr) : TS := fun _ _ H => ∀ a, E (.ref C2) (some a) H
theorem hb_from {E : XK} {y : Str} {C2 : Addr} {tx0 : Str} {j kk : Nat} {p1 p2 cpos npos pos : Pos} (hz : d = none) (hm : exmOne X.K (.ref C) (.ref D0) = some true) (hg0 : X.mg x = some (.ref D0)) (T : XCls X.K X.mg y C2) (hR : RaisesIn X E) (hp : ∀ a : Addr, PassesOwnAt (model X.prog X.w) (X.A.mark (some (.ref a))) X.A X.env X.xe)
    (hg : Gl X x := by rfl) (hd : (x == ("__debug__" : Str)) = false := by decide) (hg2 : Gl X y := by rfl) (hd2 : (y == ("__debug__" : Str)) = false := by decide)
    (hs : starEach [.Constant (.str tx0) j p2] X.env = [(false, eval (.Constant (.str tx0) j p2) X.env)] := by rfl) :
    HB X C d (.ExceptHandler (some (.Name x np)) none [.Raise (some (.Call (.Name y p1) [.Constant (.str tx0) j p2] [] cpos)) (some (.Constant .none kk npos)) pos] hpos :: rest) (tFrom E C2) := by
  subst hz
  intro pins σ H a s D L q
  refine wpAny_handleBy_cons (codeAny_handlers_test ?_) (by intro q; cases q)
  refine ld_glob (X := X.hdl a) (L.inv.hdl a) hg hg0 ?_ hd
  refine PySem.W.Looks.here (PySem.W.exm_one L.inv.kIn (OfCls.type L.cls) hm) ?_
  obtain ⟨B, a0, fl⟩ := L.fly
  refine codeAny_handlers_suite (land_same fl ?_)
  refine wpAny_execs_cons ?_
  have I := (L.ctx rfl).hdl a
  obtain ⟨tl, N, nm, q1, bs, hdct, sn, sub, ab, col, dd, k0, k1, k2, k3, k5, mN, hC, hN, hni, TL⟩ := (T.own I.ok.mod.kin).obj
  have FB := PySem.F.excBase_ValueError
  refine exec_raise_from (C := C2) (nm := nm) (q := q1) (N := N) (bs := bs) (bm := tl) (hdct := hdct) (sn := sn) (sub := sub) (ab := ab) (col := col) (dd := dd) (k0 := k0) (k1 := k1) (k2 := k2) (k3 := k3) (k5 := k5)
    FB (mN := mN) (TL.hasType FB.hasBase) (a := a) rfl (by rw [hs]; rfl) hni (ld_glob (X := X.hdl a) I hg2 T.g ⟨rfl, ?_⟩ hd2)
  have hA : PA (X.hdl a) [.Constant (.str tx0) j p2] (tCons (tC (.str tx0)) tNil) := pa_cons pe_str pa_nil hs
  rw [hs]
  have hw := hA cpos pins s σ _ (fun vs H1 => vs.length = 1 ∧ H1 = upd H a (.ext (CtxN a))) I ⟨rfl, rfl⟩
  rw [hs] at hw
  refine Calls.evalArgs_plain (wpAny_mono hw (fun us s2 ⟨vs, H2, I2, r2, l2, e2⟩ => ?_) fun _ _ z => z.elim)
  subst e2
  refine ⟨rfl, ?_, I2.bk _ _ hC, hN.keeps I2.bk, TL.keeps I2.bk, (I2.hok a _ (upd_same ..)).1, fun h' h2 e t mk g1 g2 => ?_⟩
  · rw [← r2.length, l2]
    decide
  · refine hp a (.ref e) _ (hR pins σ H s2 h2 e C2 a t ((I2.unhdl L.inv.ok).untrack L.new) mk.new g1 (fun b o z => ?_) (q a))
    have nb : b ≠ e := fun y => by
      have z2 := mk.new
      rw [← y, z] at z2
      cases z2
    exact (g2.2 b nb).trans (mk.keeps b o z)
end
def caught : List (Addr × Bool × TS) → Ends → St → Value → Option Addr → Hp → Prop
  | [], _, _, _, _, _ => False
  | (C, b, th) :: r, D, σ, c, d, H => (c = .ref C ∧ (b = true → d = none) ∧ th D σ H) ∨ caught r D σ c d H
def tTryC (cs : List (Addr × Bool × TS)) (tb : TSX) : TS := fun D σ H => tb D (fun σ' c d H' => caught cs D σ' c d H') σ H
inductive HBs (X : Cx) (hs : List ExceptHandler) : List (Addr × Bool × TS) → Prop
  | nil : HBs X hs []
  | cons {C : Addr} {b : Bool} {th : TS} {r : List (Addr × Bool × TS)} (h : ∀ d, (b = true → d = none) → HB X C d hs th) (t : HBs X hs r) : HBs X hs ((C, b, th) :: r)
theorem HBs.run {X : Cx} {hs : List ExceptHandler} {cs : List (Addr × Bool × TS)} (h : HBs X hs cs) {pins : List (Addr × Obj)} {σ : St} {H : Hp} {a C : Addr} {d : Option Addr} {s : Shared} {D : Ends} (L : Landed X pins σ H a C d s) (q : caught cs D σ (.ref C) d H) :
    wpAny (model X.prog X.w) X.A (handleBy (.ref a) X.env hs) (SP X pins D) X.xe s := by
  induction h with
  | nil => exact q.elim
  | cons h t ih =>
    rcases q with ⟨e, b, q⟩ | q
    · cases e
      exact h d b pins σ H a s D L q
    · exact ih q
theorem ps_tryC {X : Cx} {h₀ : ExceptHandler} {hs : List ExceptHandler} {body : List Stmt} {pos : Pos} {tb : TSX} {cs : List (Addr × Bool × TS)} (hst : X.stack = X.env :: X.outer) (hf : X.env.frame = some X.env.locals) (hb : PSX (CX1 X.prog X.w) X body tb) (hh : HBs X (h₀ :: hs) cs) :
    PS X (.Try body (h₀ :: hs) [] [] pos) (tTryC cs tb) := by
  intro pins s σ H D I h
  refine wpAny_Try_except (wpAny_mono (hb pins s σ H D _ I h) (fun f s1 q => ?_) fun e s1 hx => ?_)
  · cases f with
    | next => exact wpAny_execs_nil q
    | brk => exact q
    | cont => exact q
    | ret v => exact q
  · obtain ⟨σ1, H1, s0, I1, a, C, H2, d, rfl, F, hd, q⟩ := hx
    obtain ⟨a0, B, fl, hok, kp, tH⟩ := F.fly
    have hfs : X.A.frames = some (X.env :: X.outer) := by rw [← hst]; exact I1.ok.frames
    have fl' := fl
    rw [hst] at fl'
    refine wpAny_mono ((keepc_note a _ _).anyD hd (wpAny_looks_onW hfs hf fl' (Q := fun _ s4 => ∃ h4, s4 = { s1 with heap := h4 } ∧ Heap.HeldW B (X.env :: X.outer) a (.ref C) a0 X.env.locals h4 ∧ s1.heap.UpToSlots h4) fun h4 held4 up4 => ⟨h4, rfl, held4, up4⟩)) (fun _ s4 hs4 => ?_) fun _ _ z => z
    obtain ⟨⟨h4, rfl, held4, up4⟩, hd4⟩ := hs4
    refine wpAny_mono ((keepc_flight a _ _).anyD (s := { s1 with heap := h4 }) hd4 (wpAny_landsW (s := { s1 with heap := h4 }) held4 (Q := fun _ s5 => ∃ h5, s5 = { s1 with heap := h5 } ∧ Heap.FlyingW B (X.env :: X.outer) a (.ref C) a0 h5 ∧ h4.UpToSlots h5) fun h5 fl5 up5 => ⟨h5, rfl, fl5, up5⟩)) (fun _ s5 hs5 => ?_) fun _ _ z => z
    obtain ⟨⟨h5, rfl, fl5, up5⟩, hd5⟩ := hs5
    have fl5' : Heap.FlyingW B X.stack a (.ref C) a0 h5 := by rw [hst]; exact fl5
    obtain ⟨hna, I5⟩ := Fly.lands I1 F fl hok kp tH fl5' (up4.trans up5)
    refine hh.run ⟨I5.untrack hna, hna, (I5.hok a _ (upd_same ..)).1, fun z => (Fly.landsE I1 F fl hok kp tH fl5' (up4.trans up5) (hd5 z) fun g1 g2 ⟨o, vs, e1, e2⟩ k => ⟨o, vs, k o e1, e2⟩).2, B, a0, fl5'⟩ q
structure XMat (K : Frag) (cs : List Addr) : Prop where
  all : cs.map (fun C => cs.map fun D => exmOne K (.ref C) (.ref D)) = cs.map fun C => cs.map fun D => some (decide ((C : Nat) = D))
  nd : decide (@List.Nodup Nat cs) = true
section
variable {K : Frag} {cs : List Addr} {C D : Addr}
theorem XMat.two (T : XMat K cs) (h : C ∈ cs) (h' : D ∈ cs) : exmOne K (.ref C) (.ref D) = some (decide ((C : Nat) = D)) := (List.map_inj_left.mp ((List.map_inj_left.mp T.all) C h)) D h'
theorem XMat.hit (T : XMat K cs) (h : C ∈ cs) : exmOne K (.ref C) (.ref C) = some true := by rw [T.two h h, decide_eq_true rfl]
end
theorem bps_tryC {X : Cx} {h₀ : ExceptHandler} {hs : List ExceptHandler} {body : List Stmt} {pos : Pos} {tb : TSX} {cs : List (Addr × Bool × TS)} (hst : X.stack = X.env :: X.outer) (hf : X.env.frame = some X.env.locals) (hb : Bx (PSX (CX1 X.prog X.w) X body tb)) (hh : HBs X (h₀ :: hs) cs) :
    Bx (PS X (.Try body (h₀ :: hs) [] [] pos) (tTryC cs tb)) := ⟨ps_tryC hst hf hb.un hh⟩
end L2
set_option Elab.async false
set_option linter.all false
set_option maxRecDepth 100000
namespace L2
open PySem PySem.Spec PyProof.Rows
theorem drop_at {α : Type} {ws : List α} {i : Nat} {w : α} (h : ws[i]? = some w) : ws.drop i = w :: ws.drop (i + 1) := by
  obtain ⟨hi, e⟩ := List.getElem?_eq_some_iff.mp h
  rw [List.drop_eq_getElem_cons hi, e]
theorem bpe_mxD {X : Cx} {P : Program} {w : World} {k : Nat} {f C : Addr} {fd : FuncData} {ps : List Str} {sp : Sp} {E : XK} {m qual : Str} {st : Stmt} {apos pos : Pos} {e o : Expr} {es : List Expr} {ta : TE} {t : TA} {dvs : List V} {pl : Sem Bool} (he : Bx (PE X o ta)) (c : Cls X.K C) (D : MethOkD X.K C m qual st ps dvs f fd) (F : FnOk X.prog X.w X.K X.mg X.base (CX1 P w) k f fd ps sp) (hr : Room k X.A) (hx : Passes (CX1 P w) X E) (ha : Bx (PA X (e :: es) t))
    (hst : starEach (e :: es) X.env = (false, eval e X.env) :: starEach es X.env := by rfl) (hpl : (backTo pos (starEach es X.env)).any (·.1) = false := by rfl)
    (ht : eval (.Call (.Attribute o m apos) (e :: es) [] pos) X.env = (do
      let ov ← eval o X.env
      standAt apos.atName
      let (f, first) ← holding [ov] (getMethod ov m pl)
      callWith pos f first (backTo pos (starEach (e :: es) X.env)) (backToKw pos (keywordEach [] X.env))) := by rfl) :
    Bx (PE X (.Call (.Attribute o m apos) (e :: es) [] pos) (tMeth C m sp dvs E ta t)) := by
  obtain ⟨ds, hv, hb⟩ := D.bd
  exact ⟨pe_meth he.un c D.at_ F hr hb hv hx ha.un hst hpl ht⟩
theorem WebAt.own_nolst {C : Addr} {H : Hp} {p : Addr} {W : WS} (w : WebAt C H p W) {b : Addr} (h : b ∈ W.own p) : ∃ o, H b = some o ∧ ∀ xs, o ≠ .lst xs := by
  simp only [WS.own, List.mem_cons, List.mem_map] at h
  rcases h with rfl | rfl | rfl | ⟨x, hx, rfl⟩
  · exact ⟨_, w.obj, fun _ z => nomatch z⟩
  · exact ⟨_, w.val, fun _ z => nomatch z⟩
  · exact ⟨_, w.tie, fun _ z => nomatch z⟩
  · exact ⟨_, w.each x hx, fun _ z => nomatch z⟩
theorem WebAt.lst_off {C : Addr} {H : Hp} {p : Addr} {W : WS} (w : WebAt C H p W) {b : Addr} {xs : List V} (h : H b = some (.lst xs)) : b ∉ W.own p := fun z => by
  obtain ⟨o, e, n⟩ := w.own_nolst z
  rw [h] at e
  exact n xs (Option.some.inj e).symm
end L2
set_option Elab.async false
set_option linter.all false
set_option maxRecDepth 100000
namespace L2
open PySem PySem.Spec PyProof.Rows PySem.W
section
variable {P : Program} {w : World} {K : PySem.W.Frag} {mg : Str → Option Value} {base : Heap} {N : List Str} {qual : Str} {scope : Scope} {f : Addr} {cd : Value} {A : Around} {outer : List Env} {s : Shared} {H : Hp} {E : XK}
end
end L2
set_option Elab.async false
set_option linter.all false
set_option maxRecDepth 100000
namespace L2
open PySem PySem.Spec PyProof.Rows
def st2 (v0 v1 : V) (fr : List Nat) (σ : St) : St := some v0 :: some v1 :: fr.map fun j => (σ[j]?).join
section
variable {X : Cx} {x y : Str} {px py tp : Pos} {kt : Nat} {elt iter : Expr} {ifs : List Expr} {scope : Scope} {pos : Pos} {N : List Str} {fr : List Nat} {tt : TT} {te : TE} {wi : TI}
end
end L2
set_option Elab.async false
set_option linter.all false
set_option maxRecDepth 100000
namespace L2
open PySem PySem.Spec PyProof.Rows
section
variable {X : Cx} {tg : Expr}
end
section
variable {X : Cx} {x y : Str} {px py tp : Pos} {kt : Nat} {elt iter : Expr} {ifs : List Expr} {scope : Scope} {pos : Pos} {N : List Str} {fr : List Nat} {tt : TT} {te : TE} {wi : TI}
end
end L2
set_option Elab.async false
set_option linter.all false
set_option maxRecDepth 100000
namespace L2
open PySem PySem.Spec PyProof.Rows
structure KD (K : PySem.W.Frag) (w : World) (a : Addr) (kvs : List (Key × V)) : Prop where
  ex : ∀ (P : Program) (h : Heap), K.In h → (a == sysModules) = false ∧ ∃ vs, KV kvs vs ∧ h.DictOf (mixKind P w) a vs
structure KEnt where
  key : Str
  tok : Tok
  v : V
  u : Value
  rel : RelV v u
theorem KD.of {K : PySem.W.Frag} {w : World} {a : Addr} {n : Nat} (es : List KEnt) (lk : K.lookup a = some ⟨.type "dict", none, .dict (es.map fun e => (⟨PyData.keyHash w.params e.key, .str e.key e.tok, e.u⟩ : DictEntry)).toArray n, #[]⟩)
    (hs : (a == sysModules) = false) (nd : (es.map (·.key)).Nodup) : KD K w a (es.map fun e => (.inr e.key, e.v)) := by
  refine ⟨fun P h X => ⟨hs, es.map fun e => (.inr e.key, e.u), ?_, _, _, _, X _ _ lk, ⟨rfl, rfl, rfl⟩, rfl, fun e he => ?_, ?_, ?_⟩⟩
  · clear lk nd
    induction es with
    | nil => exact .nil
    | cons e es ih => exact .cons ⟨rfl, e.rel⟩ ih
  · obtain ⟨x, hx, rfl⟩ := List.mem_map.mp (by simpa using he)
    exact ⟨.inr x.key, keyIs_str x.key x.tok, rfl⟩
  · rw [List.toList_toArray]
    clear lk nd
    induction es with
    | nil => exact .nil
    | cons e es ih => exact .cons (keyIs_str e.key e.tok) rfl ih
  · rw [List.map_map]
    have e : ((fun x : Key × Value => x.1) ∘ fun e : KEnt => ((Sum.inr e.key : Key), e.u)) = Sum.inr ∘ KEnt.key := rfl
    rw [e, ← List.map_map]
    exact (List.pairwise_map.mpr (nd.imp fun h z => h (Sum.inr.inj z)))
def tMGet1 (a : Addr) (kvs : List (Key × V)) (td ty : TE) : TE := fun σ H Q => td σ H fun x H1 => x = .ref a ∧ ty σ H1 fun y H2 => ∃ k, y = kV k ∧ Q ((valV kvs k).getD .non) H2
section
variable {X : Cx} {a : Addr} {kvs : List (Key × V)} {o i e : Expr} {pos apos cpos : Pos} {td ty : TE}
theorem pe_mget1 (D : KD X.K X.w a kvs) (ho : PE X o td) (he : PE X e ty) (m : M1 X o "get" apos e cpos) : PE X (.Call (.Attribute o "get" apos) [e] [] cpos) (tMGet1 a kvs td ty) := by
  intro pins s σ H Q I h
  refine wpAny_Call_method m.base m.few m.line PySem.F.plainAttrs_dict PySem.F.slot_dict_get PySem.F.type_dict_get (thn (ho pins s σ H _ I h) fun u s1 ⟨x, H1, I1, rx, ex, q1⟩ => ?_)
  subst ex
  obtain rfl : u = Value.ref a := rx
  obtain ⟨hd1, vs1, rel1, dd1⟩ := D.ex X.prog s1.heap I1.kIn
  refine ⟨dd1.typeIs, fun b q => ?_, ?_⟩
  · cases q
    obtain ⟨ob, _, _, h1, h2, _⟩ := dd1
    exact ⟨ob, h1, h2.2.1⟩
  rw [m.trees]
  refine Calls.callWith_builtin rfl (Calls.evalArgs_plain (Calls.spliced_cons (thn (he pins s1 σ H1 _ I1 q1) fun iv s2 ⟨y, H2, I2, ry, k, ey, q2⟩ => Calls.spliced_nil ?_)))
  subst ey
  obtain ⟨hd, vs, rel, dd⟩ := D.ex X.prog s2.heap I2.kIn
  exact call_meetsIn PySem.F.slot_dict_get dd.typeIs PySem.F.entry_dict_get (PySem.F.args_dict_get_2 _ _) (meets_dict_get (mixKind X.prog X.w) a (kV_is ry) hd) ⟨_, dd.mapOf, (valV kvs k).getD .non, H2, I2.tok _, (rel.val k).getD rfl, q2⟩
theorem bpe_mget1 (D : KD X.K X.w a kvs) (ho : Bx (PE X o td)) (he : Bx (PE X e ty)) (m : M1 X o "get" apos e cpos := by exact ⟨rfl, rfl, rfl, rfl⟩) : Bx (PE X (.Call (.Attribute o "get" apos) [e] [] cpos) (tMGet1 a kvs td ty)) := ⟨pe_mget1 D ho.un he.un m⟩
end
end L2
set_option Elab.async false
set_option linter.all false
set_option maxRecDepth 100000
namespace L2
open PySem PySem.Spec PyProof.Rows
def wTie : Nm := [116, 105, 101]
def wThing : Nm := [116, 104, 105, 110, 103]
def wDrop : Nm := [100, 114, 111, 112]
def wSet : Nm := [115, 101, 116]
def wTake : Nm := [116, 97, 107, 101]
def wCut : Nm := [99, 117, 116]
def lenC (d : Nm) : Option Nat := if d = wThing then some 2 else if d = wDrop then some 2 else if d = wSet then some 4 else if d = wTake then some 3 else if d = wTie then some 5 else if d = wCut then some 2 else none
def deedC (A : WA) (ws : List Nm) (n : Int) : Except Rf WA × V :=
  let d := ws.getD 0 []
  if d = wTie then (A.addTie (ws.getD 1 []) (ws.getD 2 []) (ws.getD 3 []) n, .int A.next)
  else if d = wThing then (A.addThing (ws.getD 1 []), .non)
  else if d = wDrop then (A.dropThing (ws.getD 1 []), .non)
  else if d = wSet then (A.setValue (ws.getD 1 []) (ws.getD 2 []) n, .non)
  else if d = wTake then (A.takeValue (ws.getD 1 []) (ws.getD 2 []), .non)
  else (A.cutTie n, .non)
structure WPre (W : WS) : Prop where
  low : ∀ x ∈ W.ties.map (·.1), x < W.next
  few : ∀ x ∈ W.vals, x.2.2.length < 100000
theorem mem_len_sum : ∀ {ws : List Nm} {w : Nm}, w ∈ ws → w.length ≤ (ws.map List.length).sum
  | x :: ws, w, h => by
    rw [List.map_cons, List.sum_cons]
    rcases List.mem_cons.mp h with e | h
    · rw [e]
      omega
    · have := mem_len_sum h
      omega
theorem cut_len {c : Nat} {l w : Nm} (h : w ∈ cutC c l) : w.length ≤ l.length := by
  have h1 := cut_weight c l
  have h2 := mem_len_sum h
  have h3 : 0 < (cutC c l).length := List.length_pos_iff.mpr (cutC_ne c l)
  omega
def numW (ws : List Nm) : Option Int := if ws.getD 0 [] ∈ [wSet, wTie, wCut] then readC (ws.getLastD []) else some 0
def rowD (l : Nm) : Option (List Nm × Int) := if lenC ((cutC 32 l).getD 0 []) = some (cutC 32 l).length then (numW (cutC 32 l)).map fun n => (cutC 32 l, n) else none
def stepR (A : WA) (l : Nm) : Except (Option Rf) (WA × V) :=
  match rowD l with
  | none => .error none
  | some (ws, n) => match (deedC A ws n).1 with
    | .error e => .error (some e)
    | .ok A' => .ok (A', (deedC A ws n).2)
def runC : WA → List Nm → Except (Option Rf) WA
  | A, [] => .ok A
  | A, l :: r => match stepR A l with
    | .error e => .error e
    | .ok (A', _) => runC A' r
structure GoodA (A : WA) (n : Nat) : Prop where
  low : ∀ x ∈ A.ties.map (·.1), x < A.next
  few : ∀ x ∈ A.things, x.2.length ≤ n
  nd : ∀ x ∈ A.things, (x.2.map (·.1)).Nodup
  okn : ∀ x ∈ A.things, okT x.1
  okk : ∀ x ∈ A.things, ∀ y ∈ x.2.map (·.1), okT y
  okt : ∀ x ∈ A.ties, TieOk x.2
theorem GoodA.more {A : WA} {n m : Nat} (g : GoodA A n) (h : n ≤ m) : GoodA A m := ⟨g.low, fun x hx => Nat.le_trans (g.few x hx) h, g.nd, g.okn, g.okk, g.okt⟩
theorem GoodA.pre {W : WS} {n : Nat} (g : GoodA W.abs n) (h : n < 100000) : WPre W := by
  refine ⟨fun x hx => g.low x ?_, fun x hx => ?_⟩
  · unfold WS.abs
    rw [List.map_map]
    exact hx
  · have := g.few (x.1, x.2.2) (List.mem_map.mpr ⟨x, hx, rfl⟩)
    exact Nat.lt_of_le_of_lt this h
theorem GoodA.setv {A : WA} {n k : Nat} {a : Nm} {m : List (Nm × Int)} (g : GoodA A n) (hk : n ≤ k) (l : m.length ≤ k) (nd : (m.map (·.1)).Nodup) (ok : ∀ y ∈ m.map (·.1), okT y) : GoodA (A.setv a m) k := by
  have mem : ∀ x ∈ (A.setv a m).things, (∃ y ∈ A.things, x = (y.1, m)) ∨ x ∈ A.things := fun x hx => by
    obtain ⟨y, hy, e⟩ := List.mem_map.mp hx
    by_cases z : y.1 = a
    · rw [if_pos z] at e
      exact .inl ⟨y, hy, e.symm⟩
    · rw [if_neg z] at e
      exact .inr (e ▸ hy)
  refine ⟨g.low, fun x hx => ?_, fun x hx => ?_, fun x hx => ?_, fun x hx => ?_, g.okt⟩
  · rcases mem x hx with ⟨y, hy, rfl⟩ | h
    · exact l
    · exact Nat.le_trans (g.few x h) hk
  · rcases mem x hx with ⟨y, hy, rfl⟩ | h
    · exact nd
    · exact g.nd x h
  · rcases mem x hx with ⟨y, hy, rfl⟩ | h
    · exact g.okn y hy
    · exact g.okn x h
  · rcases mem x hx with ⟨y, hy, rfl⟩ | h
    · exact ok
    · exact g.okk x h
theorem look_in {A : WA} {n : Nm} {m : List (Nm × Int)} (h : A.look n = some m) : ∃ x ∈ A.things, x.2 = m := by
  unfold WA.look at h
  obtain ⟨x, hx, e⟩ := Option.map_eq_some_iff.mp h
  exact ⟨x, List.mem_of_find?_eq_some hx, e⟩
theorem putN_len (m : List (Nm × Int)) (k : Nm) (v : Int) : (putN m k v).length ≤ m.length + 1 := by
  unfold putN
  split
  · rw [List.length_map]
    omega
  · rw [List.length_append]
    exact Nat.le_refl _
theorem GoodA.thing {A A' : WA} {n : Nat} {l : Nm} (g : GoodA A n) (h : A.addThing l = .ok A') : GoodA A' n := by
  unfold WA.addThing at h
  split at h
  · cases h
  rename_i hg
  split at h
  · cases h
  split at h
  · cases h
  injection h with h
  subst h
  have hg : goodC l = true := by simpa using hg
  have mem : ∀ x ∈ A.things ++ [(l, ([] : List (Nm × Int)))], x ∈ A.things ∨ x = (l, []) := fun x hx => by simpa using hx
  refine ⟨g.low, fun x hx => ?_, fun x hx => ?_, fun x hx => ?_, fun x hx => ?_, g.okt⟩
  · rcases mem x hx with h | rfl
    · exact g.few x h
    · exact Nat.zero_le _
  · rcases mem x hx with h | rfl
    · exact g.nd x h
    · exact List.nodup_nil
  · rcases mem x hx with h | rfl
    · exact g.okn x h
    · exact (good_ok hg).1
  · rcases mem x hx with h | rfl
    · exact g.okk x h
    · exact fun y hy => nomatch hy
theorem GoodA.drop {A A' : WA} {n : Nat} {l : Nm} (g : GoodA A n) (h : A.dropThing l = .ok A') : GoodA A' n := by
  unfold WA.dropThing at h
  split at h
  · cases h
  split at h
  · cases h
  injection h with h
  subst h
  exact ⟨g.low, fun x hx => g.few x (List.mem_filter.mp hx).1, fun x hx => g.nd x (List.mem_filter.mp hx).1, fun x hx => g.okn x (List.mem_filter.mp hx).1, fun x hx => g.okk x (List.mem_filter.mp hx).1, g.okt⟩
theorem GoodA.set {A A' : WA} {n : Nat} {a k : Nm} {v : Int} (g : GoodA A n) (h : A.setValue a k v = .ok A') : GoodA A' (n + 1) := by
  unfold WA.setValue at h
  split at h
  · cases h
  rename_i m hm
  split at h
  · cases h
  rename_i hg
  split at h
  · cases h
  injection h with h
  subst h
  obtain ⟨x, hx, rfl⟩ := look_in hm
  have hg : goodC k = true := by simpa using hg
  obtain ⟨p1, p2⟩ := putN_keys (k := k) (v := v) (g.nd x hx)
  refine g.setv (Nat.le_succ _) (Nat.le_trans (putN_len _ _ _) (Nat.succ_le_succ (g.few x hx))) p1 fun y hy => ?_
  rcases p2 y hy with z | rfl
  · exact g.okk x hx y z
  · exact (good_ok hg).1
theorem GoodA.take {A A' : WA} {n : Nat} {a k : Nm} (g : GoodA A n) (h : A.takeValue a k = .ok A') : GoodA A' n := by
  unfold WA.takeValue at h
  split at h
  · cases h
  rename_i m hm
  split at h
  · cases h
  injection h with h
  subst h
  obtain ⟨x, hx, rfl⟩ := look_in hm
  obtain ⟨p1, p2⟩ := dropN_keys (k := k) (g.nd x hx)
  exact g.setv (Nat.le_refl _) (Nat.le_trans (List.length_filter_le _ _) (g.few x hx)) p1 fun y hy => g.okk x hx y (p2 y hy)
theorem GoodA.tie {A A' : WA} {n : Nat} {s m e : Nm} {v : Int} (g : GoodA A n) (h : A.addTie s m e v = .ok A') : GoodA A' n := by
  unfold WA.addTie at h
  split at h
  · cases h
  rename_i hse
  split at h
  · cases h
  rename_i hg
  split at h
  · cases h
  split at h
  · cases h
  injection h with h
  subst h
  have hg : goodC m = true := by simpa using hg
  have hs : s ∈ A.names ∧ e ∈ A.names := by
    by_cases h1 : s ∈ A.names
    · by_cases h2 : e ∈ A.names
      · exact ⟨h1, h2⟩
      · exact absurd (.inr h2) hse
    · exact absurd (.inl h1) hse
  have okm : ∀ l ∈ A.names, okT l := fun l hl => by
    obtain ⟨x, hx, rfl⟩ := List.mem_map.mp hl
    exact g.okn x hx
  refine ⟨fun x hx => ?_, g.few, g.nd, g.okn, g.okk, fun x hx => ?_⟩
  · dsimp only at hx ⊢
    rw [List.map_append] at hx
    rcases List.mem_append.mp hx with z | z
    · have := g.low x z
      omega
    · rw [show x = A.next by simpa using z]
      omega
  · dsimp only at hx
    rcases List.mem_append.mp hx with z | z
    · exact g.okt x z
    · rw [List.mem_singleton.mp z]
      exact ⟨okm s hs.1, (good_ok hg).1, okm e hs.2⟩
theorem GoodA.cut {A A' : WA} {n : Nat} {k : Int} (g : GoodA A n) (h : A.cutTie k = .ok A') : GoodA A' n := by
  unfold WA.cutTie at h
  split at h
  · cases h
  injection h with h
  subst h
  refine ⟨fun x hx => g.low x ?_, g.few, g.nd, g.okn, g.okk, fun x hx => g.okt x (List.mem_filter.mp hx).1⟩
  obtain ⟨y, hy, e⟩ := List.mem_map.mp hx
  exact List.mem_map.mpr ⟨y, (List.mem_filter.mp hy).1, e⟩
theorem GoodA.deed {A A' : WA} {n : Nat} {ws : List Nm} {k : Int} (g : GoodA A n) (h : (deedC A ws k).1 = .ok A') : GoodA A' (n + 1) := by
  unfold deedC at h
  dsimp only at h
  split at h
  · exact (g.tie h).more (Nat.le_succ _)
  split at h
  · exact (g.thing h).more (Nat.le_succ _)
  split at h
  · exact (g.drop h).more (Nat.le_succ _)
  split at h
  · exact g.set h
  split at h
  · exact (g.take h).more (Nat.le_succ _)
  · exact (g.cut h).more (Nat.le_succ _)
theorem GoodA.step {A A' : WA} {n : Nat} {l : Nm} {v : V} (g : GoodA A n) (h : stepR A l = .ok (A', v)) : GoodA A' (n + 1) := by
  unfold stepR at h
  split at h
  · cases h
  rename_i ws k _
  cases e : (deedC A ws k).1 with
  | error e' => rw [e] at h; cases h
  | ok B =>
    rw [e] at h
    injection h with h
    injection h with h1 h2
    subst h1
    exact g.deed e
end L2
set_option Elab.async false
set_option linter.all false
set_option maxRecDepth 100000
namespace L2
open PySem PySem.Spec PyProof.Rows
mutual
theorem DatV.same {K : PySem.W.Frag} {H H' : Hp} (s : Same H H') : ∀ {v : V} {d : PyData}, DatV K H v d → DatV K H' v d
  | _, _, .non => .non
  | _, _, .bl b => .bl b
  | _, _, .int i => .int i
  | _, _, .str x => .str x
  | _, _, .lst h t => .lst (s.seq h) (DatVs.same s t)
  | _, _, .tup h t => .tup (s.seqTu h) (DatVs.same s t)
theorem DatVs.same {K : PySem.W.Frag} {H H' : Hp} (s : Same H H') : ∀ {vs : List V} {ds : List PyData}, DatVs K H vs ds → DatVs K H' vs ds
  | _, _, .nil => .nil
  | _, _, .cons h t => .cons (DatV.same s h) (DatVs.same s t)
end
theorem DatVs.append {K : PySem.W.Frag} {H : Hp} : ∀ {xs ys : List V} {ds es : List PyData}, DatVs K H xs ds → DatVs K H ys es → DatVs K H (xs ++ ys) (ds ++ es)
  | _, _, _, _, .nil, h => h
  | _, _, _, _, .cons a t, h => .cons a (t.append h)
def numAt' (m : List (Nm × Int)) (i : Nat) : Int := (m.getD i ([], 0)).2
def pairE (m : List (Nm × Int)) (i : Nat) : PyData := .tuple [.str (tx (keyAt m i)), .int (numAt' m i)]
def thingD (x : Nm × List (Nm × Int)) : PyData := .tuple [.str (tx x.1), .list ((sortP (ltN x.2) x.2.length).map (pairE x.2))]
def tieE (x : Tie) : PyData := .tuple [.str (tx x.start), .str (tx x.name), .str (tx x.stop), .int x.weight]
def picD (A : WA) : PyData := .list (A.things.map thingD ++ A.ties.map fun x => tieE x.2)
structure PicAt (H : Hp) (q b : Addr) (x : Nm × List (Nm × Int)) : Prop where
  ex : ∃ (l : Addr) (as : List Addr), H b = some (.tup [.str (tx x.1), .ref l]) ∧ H l = some (.lst ((sortP (ltN x.2) x.2.length).map fun i => .ref (as.getD i 0))) ∧ l ≠ q ∧ as.length = x.2.length ∧ ∀ (i : Nat) (a : Addr) (y : Nm × Int), as[i]? = some a → x.2[i]? = some y → H a = some (.tup [.str (tx y.1), .int y.2])
theorem PicAt.same {H H' : Hp} {q b : Addr} {x : Nm × List (Nm × Int)} (h : PicAt H q b x) (s : Same H H') : PicAt H' q b x := by
  obtain ⟨l, as, h1, h2, h3, h4, h5⟩ := h.ex
  exact ⟨l, as, s _ _ h1, s _ _ h2, h3, h4, fun i a y e1 e2 => s _ _ (h5 i a y e1 e2)⟩
theorem PicAt.off {H : Hp} {q b : Addr} {x : Nm × List (Nm × Int)} {zs ys : List V} (h : PicAt H q b x) (hq : H q = some (.lst zs)) : PicAt (upd H q (.lst ys)) q b x := by
  obtain ⟨l, as, h1, h2, h3, h4, h5⟩ := h.ex
  have nt : ∀ (c : Addr) (xs : List V), H c = some (.tup xs) → c ≠ q := fun c xs e z => by
    rw [z, hq] at e
    cases e
  exact ⟨l, as, (upd_ne (nt _ _ h1)).trans h1, (upd_ne h3).trans h2, h3, h4, fun i a y e1 e2 => (upd_ne (nt _ _ (h5 i a y e1 e2))).trans (h5 i a y e1 e2)⟩
theorem PicAt.dat {K : PySem.W.Frag} {H : Hp} {q b : Addr} {x : Nm × List (Nm × Int)} (h : PicAt H q b x) : DatV K H (.ref b) (thingD x) := by
  obtain ⟨l, as, h1, h2, h3, h4, h5⟩ := h.ex
  refine .tup (SqT.of h1) (.cons (.str _) (.cons (.lst (SqL.of h2) ?_) .nil))
  have all : ∀ i ∈ sortP (ltN x.2) x.2.length, H (as.getD i 0) = some (.tup [.str (tx (keyAt x.2 i)), .int (numAt' x.2 i)]) := fun i hi => by
    have hi := sortP_lt hi
    have e1 : as[i]? = some (as.getD i 0) := by rw [List.getD_eq_getElem?_getD, List.getElem?_eq_getElem (by omega)]; rfl
    have e2 : x.2[i]? = some (x.2.getD i ([], 0)) := by rw [List.getD_eq_getElem?_getD, List.getElem?_eq_getElem hi]; rfl
    exact h5 i _ _ e1 e2
  generalize sortP (ltN x.2) x.2.length = P at all
  induction P with
  | nil => exact .nil
  | cons i P ih => exact .cons (.tup (SqT.of (all i List.mem_cons_self)) (.cons (.str _) (.cons (.int _) .nil))) (ih fun j hj => all j (List.mem_cons_of_mem _ hj))
theorem pairE_fit {m : List (Nm × Int)} {i : Nat} (ok : ∀ y ∈ m.map (·.1), okT y) (hi : i < m.length) : Fit 1 (pairE m i) := by
  refine fit_tup (fit_all fun d hd => ?_)
  simp only [List.mem_cons, List.not_mem_nil, or_false] at hd
  rcases hd with rfl | rfl
  · refine fit_str (ok _ ?_)
    unfold keyAt
    rw [List.getD_eq_getElem?_getD, List.getElem?_eq_getElem hi]
    exact List.mem_map.mpr ⟨_, List.getElem_mem hi, rfl⟩
  · exact fit_int _
theorem pic_fit {A : WA} {n : Nat} (g : GoodA A n) (hn : n < 64) : Fit 4 (picD A) := by
  refine fit_list (fit_all fun d hd => ?_)
  rcases List.mem_append.mp hd with h | h
  · obtain ⟨x, hx, rfl⟩ := List.mem_map.mp h
    refine fit_tup (fit_all fun d hd => ?_)
    simp only [List.mem_cons, List.not_mem_nil, or_false] at hd
    rcases hd with rfl | rfl
    · exact (fit_str (g.okn x hx)).more (by decide)
    · refine fit_list (fit_all fun d hd => ?_)
      obtain ⟨i, hi, rfl⟩ := List.mem_map.mp hd
      have := g.few x hx
      exact pairE_fit (g.okk x hx) (sortP_lt hi)
  · obtain ⟨x, hx, rfl⟩ := List.mem_map.mp h
    have o := g.okt x hx
    refine Fit.more (n := 1) (fit_tup (fit_all fun d hd => ?_)) (by decide)
    simp only [List.mem_cons, List.not_mem_nil, or_false] at hd
    rcases hd with rfl | rfl | rfl | rfl
    · exact fit_str o.s
    · exact fit_str o.n
    · exact fit_str o.e
    · exact fit_int _
theorem tie_one {α : Type} : ∀ {ts : List (Int × α)} {x y : Int × α}, (ts.map (·.1)).Nodup → x ∈ ts → y ∈ ts → x.1 = y.1 → x = y
  | t :: ts, x, y, nd, hx, hy, e => by
    rw [List.map_cons, List.nodup_cons] at nd
    rcases List.mem_cons.mp hx with rfl | hx
    · rcases List.mem_cons.mp hy with rfl | hy
      · rfl
      · exact absurd (List.mem_map.mpr ⟨y, hy, e.symm⟩) nd.1
    · rcases List.mem_cons.mp hy with rfl | hy
      · exact (nd.1 (List.mem_map.mpr ⟨x, by assumption, e⟩)).elim
      · exact tie_one nd.2 hx hy e
theorem dat_ties {K : PySem.W.Frag} {H : Hp} : ∀ {cs : List (Int × Addr × Tie)}, (∀ c ∈ cs, H c.2.1 = some (.tup (tieV c.2.2))) → DatVs K H (cs.map fun c => .ref c.2.1) (cs.map fun c => tieE c.2.2)
  | [], _ => .nil
  | c :: cs, h => .cons (datTie (h c List.mem_cons_self)) (dat_ties fun d hd => h d (List.mem_cons_of_mem _ hd))
theorem runC_err {A : WA} {l : Nm} {r : List Nm} {e : Option Rf} (h : stepR A l = .error e) : runC A (l :: r) = .error e := by
  unfold runC
  rw [h]
theorem runC_ok {A A' : WA} {l : Nm} {r : List Nm} {v : V} (h : stepR A l = .ok (A', v)) : runC A (l :: r) = runC A' r := by
  rw [runC, h]
end L2
set_option Elab.async false
set_option linter.all false
set_option maxRecDepth 100000
namespace L2
open PySem PySem.Spec PyProof.Rows PySem.W
structure Strict (n : Nat) (lt : Nat → Nat → Bool) : Prop where
  asym : ∀ i j, i < n → j < n → lt i j = true → lt j i = false
  tr : ∀ i j k, i < n → j < n → k < n → lt i j = true → lt j k = true → lt i k = true
  tot : ∀ i j, i < n → j < n → i ≠ j → lt i j = true ∨ lt j i = true
def gd (p : Array Nat) (i : Nat) : Nat := p.getD i 0
def Up (lt : Nat → Nat → Bool) (p : Array Nat) (k : Nat) : Prop := ∀ i j, i < j → j < k → lt (gd p i) (gd p j) = true
def Dn (lt : Nat → Nat → Bool) (p : Array Nat) (k : Nat) : Prop := ∀ i j, i < j → j < k → lt (gd p j) (gd p i) = true
theorem gd_bubble {p : Array Nat} {k d : Nat} (hs : k < p.size) (hd : d ≤ k) (i : Nat) : gd (bubble p k d) i = if i = k - d then gd p k else if k - d < i ∧ i ≤ k then gd p (i - 1) else gd p i := by
  unfold gd
  simp only [Array.getD_eq_getD_getElem?, getElem?_bubble hs d hd]
  split
  · rfl
  · split <;> rfl
theorem gd_rev {p : Array Nat} {j : Nat} (hj : j ≤ p.size) (k : Nat) : gd (kas_rev p 0 j) k = if k < j then gd p (j - 1 - k) else gd p k := by
  unfold gd kas_rev
  simp only [Array.getD_eq_getD_getElem?, getElem?_mirror_all hj]
  by_cases h : k < j
  · rw [if_pos ⟨Nat.zero_le _, h⟩, if_pos h, Nat.zero_add]
  · rw [if_neg (fun z => h z.2), if_neg h]
theorem PermOk.size {n : Nat} {p : Array Nat} (h : PermOk n p) : p.size = n := by
  have := h.length_eq
  rwa [Array.length_toList, List.length_range] at this
theorem PermOk.ne {n : Nat} {p : Array Nat} (h : PermOk n p) {i j : Nat} (hi : i < n) (hj : j < n) (hij : i ≠ j) : gd p i ≠ gd p j := by
  have nd : p.toList.Nodup := h.nodup_iff.mpr List.nodup_range
  have sz := h.size
  unfold gd
  rw [Array.getD_eq_getD_getElem?, Array.getD_eq_getD_getElem?, Array.getElem?_eq_getElem (by omega), Array.getElem?_eq_getElem (by omega)]
  intro e
  have e : p[i] = p[j] := e
  rw [← Array.getElem_toList, ← Array.getElem_toList] at e
  have pw := List.pairwise_iff_getElem.mp nd
  rcases Nat.lt_or_gt_of_ne hij with z | z
  · exact pw i j (by rw [Array.length_toList]; omega) (by rw [Array.length_toList]; omega) z e
  · exact pw j i (by rw [Array.length_toList]; omega) (by rw [Array.length_toList]; omega) z e.symm
theorem PermOk.step {n : Nat} {lt : Nat → Nat → Bool} {p : Array Nat} (S : Strict n lt) (h : PermOk n p) {i j : Nat} (hi : i < n) (hj : j < n) (hij : i ≠ j) (e : lt (gd p i) (gd p j) = false) : lt (gd p j) (gd p i) = true := by
  rcases S.tot _ _ (h.lt (by omega) i) (h.lt (by omega) j) (h.ne hi hj hij) with z | z
  · have z : lt (gd p i) (gd p j) = true := z
    rw [e] at z
    cases z
  · exact z
theorem Up.more {n : Nat} {lt : Nat → Nat → Bool} {p : Array Nat} (S : Strict n lt) (h : PermOk n p) {m : Nat} (m1 : 1 ≤ m) (mn : m < n) (u : Up lt p m) (e : lt (gd p (m - 1)) (gd p m) = true) : Up lt p (m + 1) := by
  intro i j hij hj
  by_cases z : j < m
  · exact u i j hij z
  · obtain rfl : j = m := by omega
    by_cases z2 : i = j - 1
    · rw [z2]
      exact e
    · exact S.tr _ _ _ (h.lt (by omega) _) (h.lt (by omega) _) (h.lt (by omega) _) (u i (j - 1) (by omega) (by omega)) e
theorem Dn.more {n : Nat} {lt : Nat → Nat → Bool} {p : Array Nat} (S : Strict n lt) (h : PermOk n p) {m : Nat} (m1 : 1 ≤ m) (mn : m < n) (u : Dn lt p m) (e : lt (gd p m) (gd p (m - 1)) = true) : Dn lt p (m + 1) := by
  intro i j hij hj
  by_cases z : j < m
  · exact u i j hij z
  · obtain rfl : j = m := by omega
    by_cases z2 : i = j - 1
    · rw [z2]
      exact e
    · exact S.tr _ _ _ (h.lt (by omega) _) (h.lt (by omega) _) (h.lt (by omega) _) e (u i (j - 1) (by omega) (by omega))
theorem up_asc {n : Nat} {lt : Nat → Nat → Bool} {p : Array Nat} (S : Strict n lt) (h : PermOk n p) : ∀ (f m : Nat), 1 ≤ m → m + f ≤ n → Up lt p m →
    Up lt p (evK lt (kas_asc p f m)) ∧ m ≤ evK lt (kas_asc p f m) ∧ evK lt (kas_asc p f m) ≤ m + f ∧ (evK lt (kas_asc p f m) < m + f → lt (gd p (evK lt (kas_asc p f m))) (gd p (evK lt (kas_asc p f m) - 1)) = true)
  | 0, m, _, _, u => ⟨u, Nat.le_refl _, Nat.le_refl _, fun z => absurd z (Nat.lt_irrefl _)⟩
  | f + 1, m, m1, mf, u => by
    have e : evK lt (kas_asc p (f + 1) m) = if lt (gd p m) (gd p (m - 1)) = true then m else evK lt (kas_asc p f (m + 1)) := by
      show evK lt (if lt (gd p m) (gd p (m - 1)) = true then _ else _) = _
      split <;> rfl
    rw [e]
    by_cases c : lt (gd p m) (gd p (m - 1)) = true
    · rw [if_pos c]
      exact ⟨u, Nat.le_refl _, by omega, fun _ => c⟩
    · rw [if_neg c]
      obtain ⟨x1, x2, x3, x4⟩ := up_asc S h f (m + 1) (by omega) (by omega) (u.more S h m1 (by omega) (h.step S (by omega) (by omega) (by omega) (by simpa using c)))
      exact ⟨x1, by omega, by omega, fun z => x4 (by omega)⟩
theorem dn_desc {n : Nat} {lt : Nat → Nat → Bool} {p : Array Nat} (S : Strict n lt) (h : PermOk n p) : ∀ (f m : Nat), 1 ≤ m → m + f ≤ n → Dn lt p m →
    ∃ m', evK lt (kas_desc f p m 0) = (p, m', 0) ∧ Dn lt p m' ∧ m ≤ m' ∧ m' ≤ m + f
  | 0, m, _, _, u => ⟨m, rfl, u, Nat.le_refl _, Nat.le_refl _⟩
  | f + 1, m, m1, mf, u => by
    have e : evK lt (kas_desc (f + 1) p m 0) = if lt (gd p m) (gd p (m - 1)) = true then evK lt (kas_desc f p (m + 1) 0) else if lt (gd p (m - 1)) (gd p m) = true then (p, m, 0) else evK lt (kas_desc f p (m + 1) 1) := by
      show evK lt (if lt (gd p m) (gd p (m - 1)) = true then _ else _) = _
      split
      · rfl
      · show evK lt (if lt (gd p (m - 1)) (gd p m) = true then _ else _) = _
        split <;> rfl
    rw [e]
    by_cases c : lt (gd p m) (gd p (m - 1)) = true
    · rw [if_pos c]
      obtain ⟨m', x1, x2, x3, x4⟩ := dn_desc S h f (m + 1) (by omega) (by omega) (u.more S h m1 (by omega) c)
      exact ⟨m', x1, x2, by omega, by omega⟩
    · rw [if_neg c, if_pos (h.step S (by omega) (by omega) (by omega) (by simpa using c))]
      exact ⟨m, rfl, u, Nat.le_refl _, by omega⟩
theorem evK_bind {α β : Type} (lt : Nat → Nat → Bool) (f : α → KasT β) : ∀ t : KasT α, evK lt (t.bind f) = evK lt (f (evK lt t))
  | .ret _ => rfl
  | .ask i j k => evK_bind lt f (k (lt i j))
theorem rev_up {n : Nat} {lt : Nat → Nat → Bool} {p : Array Nat} (h : PermOk n p) {m : Nat} (mn : m ≤ n) (u : Dn lt p m) : Up lt (kas_rev p 0 m) m := by
  intro i j hij hj
  rw [gd_rev (by rw [h.size]; exact mn), gd_rev (by rw [h.size]; exact mn), if_pos (by omega), if_pos hj]
  exact u _ _ (by omega) (by omega)
theorem up_count {n : Nat} {lt : Nat → Nat → Bool} {p : Array Nat} (S : Strict n lt) (h : PermOk n p) (n2 : 2 ≤ n) : Up lt (evK lt (kas_count n p)).2 (evK lt (kas_count n p)).1 ∧ 1 ≤ (evK lt (kas_count n p)).1 ∧ (evK lt (kas_count n p)).1 ≤ n ∧ PermOk n (evK lt (kas_count n p)).2 := by
  unfold kas_count
  rw [evK_bind]
  obtain ⟨x1, x2, x3, x4⟩ := up_asc S h (n - 1) 1 (Nat.le_refl _) (by omega) (fun i j a b => by omega)
  generalize evK lt (kas_asc p (n - 1) 1) = m at x1 x2 x3 x4
  by_cases e : m = n
  · rw [if_pos (beq_iff_eq.mpr e)]
    exact ⟨x1, x2, Nat.le_of_eq e, h⟩
  rw [if_neg (fun z => e (beq_iff_eq.mp z))]
  by_cases g : m > 1
  · rw [if_pos g]
    have c : lt (gd p 0) (gd p (m - 1)) = true := x1 0 (m - 1) (by omega) (by omega)
    have e2 : evK lt (KasT.ask (p.getD 0 0) (p.getD (m - 1) 0) fun c => if c = true then .ret (m, p) else kas_descPart m n (kas_rev p 0 m)) = (m, p) := by
      show evK lt (if lt (gd p 0) (gd p (m - 1)) = true then _ else _) = _
      rw [if_pos c]
      rfl
    rw [e2]
    exact ⟨x1, x2, by omega, h⟩
  · rw [if_neg g]
    obtain rfl : m = 1 := by omega
    unfold kas_descPart
    rw [evK_bind]
    have d2 : Dn lt p 2 := fun i j a b => by
      obtain rfl : i = 0 := by omega
      obtain rfl : j = 1 := by omega
      exact x4 (by omega)
    obtain ⟨m', y1, y2, y3, y4⟩ := dn_desc S h (n - 2) 2 (by omega) (by omega) d2
    rw [show n - (1 + 1) = n - 2 by omega, y1]
    dsimp only
    rw [if_neg (Nat.lt_irrefl 0)]
    unfold kas_tail3
    rw [evK_bind]
    have h' : PermOk n (kas_rev p 0 m') := h.rev 0 m'
    obtain ⟨z1, z2, z3, z4⟩ := up_asc S h' (n - m') m' (by omega) (by omega) (rev_up h (by omega) y2)
    exact ⟨z1, Nat.le_trans (by omega) z2, Nat.le_trans z3 (by omega), h'⟩
theorem place_ok {n : Nat} {lt : Nat → Nat → Bool} {p : Array Nat} (S : Strict n lt) (h : PermOk n p) {k : Nat} (kn : k < n) (u : Up lt p k) : ∀ (f l r : Nat), l ≤ r → r ≤ k → r - l ≤ f → (∀ i, i < l → lt (gd p i) (gd p k) = true) → (∀ i, r ≤ i → i < k → lt (gd p k) (gd p i) = true) →
    evK lt (kas_place p k f l r) ≤ k ∧ (∀ i, i < evK lt (kas_place p k f l r) → lt (gd p i) (gd p k) = true) ∧ ∀ i, evK lt (kas_place p k f l r) ≤ i → i < k → lt (gd p k) (gd p i) = true
  | 0, l, r, a, b, c, x, y => ⟨by show l ≤ k; omega, x, fun i z w => y i (by have : l ≤ i := z; omega) w⟩
  | f + 1, l, r, a, b, c, x, y => by
    have e : evK lt (kas_place p k (f + 1) l r) = if l ≥ r then l else if lt (gd p k) (gd p ((l + r) / 2)) = true then evK lt (kas_place p k f l ((l + r) / 2)) else evK lt (kas_place p k f ((l + r) / 2 + 1) r) := by
      show evK lt (if l ≥ r then _ else _) = _
      split
      · rfl
      · show evK lt (if lt (gd p k) (gd p ((l + r) / 2)) = true then _ else _) = _
        split <;> rfl
    rw [e]
    by_cases g : l ≥ r
    · rw [if_pos g]
      exact ⟨by omega, x, fun i z w => y i (by omega) w⟩
    rw [if_neg g]
    have hm : (l + r) / 2 < r := by omega
    have hl : l ≤ (l + r) / 2 := by omega
    generalize (l + r) / 2 = m at hm hl
    by_cases c2 : lt (gd p k) (gd p m) = true
    · rw [if_pos c2]
      refine place_ok S h kn u f l m hl (by omega) (by omega) x fun i z w => ?_
      by_cases q : i = m
      · rw [q]; exact c2
      · exact S.tr _ _ _ (h.lt (by omega) _) (h.lt (by omega) _) (h.lt (by omega) _) c2 (u m i (by omega) w)
    · rw [if_neg c2]
      have c3 := h.step S kn (show m < n by omega) (by omega) (by simpa using c2)
      refine place_ok S h kn u f (m + 1) r (by omega) b (by omega) (fun i z => ?_) y
      by_cases q : i = m
      · rw [q]; exact c3
      · exact S.tr _ _ _ (h.lt (by omega) _) (h.lt (by omega) _) (h.lt (by omega) _) (u i m (by omega) (by omega)) c3
theorem up_bin {n : Nat} {lt : Nat → Nat → Bool} (S : Strict n lt) : ∀ (f : Nat) (p : Array Nat) (k : Nat), PermOk n p → k + f = n → Up lt p k → Up lt (evK lt (kas_bin f p k)) n
  | 0, p, k, h, e, u => by
    obtain rfl : k = n := by omega
    exact u
  | f + 1, p, k, h, e, u => by
    show Up lt (evK lt ((kas_place p k k 0 k).bind _)) n
    rw [evK_bind]
    obtain ⟨x1, x2, x3⟩ := place_ok S h (show k < n by omega) u k 0 k (Nat.zero_le _) (Nat.le_refl _) (by omega) (fun i z => by omega) (fun i z w => by omega)
    generalize evK lt (kas_place p k k 0 k) = l at x1 x2 x3
    refine up_bin S f _ (k + 1) (h.bub k (k - l)) (by omega) ?_
    have sz : k < p.size := by rw [h.size]; omega
    have kl : k - (k - l) = l := by omega
    intro i j hij hj
    rw [gd_bubble sz (by omega), gd_bubble sz (by omega), kl]
    by_cases i1 : i = l
    · rw [if_pos i1, if_neg (by omega), if_pos (by omega)]
      exact x3 _ (by omega) (by omega)
    rw [if_neg i1]
    by_cases j1 : j = l
    · rw [if_pos j1, if_neg (by omega)]
      exact x2 i (by omega)
    rw [if_neg j1]
    by_cases i2 : l < i
    · rw [if_pos (by omega), if_pos (by omega)]
      exact u _ _ (by omega) (by omega)
    · rw [if_neg (by omega)]
      by_cases j2 : l < j
      · rw [if_pos (by omega)]
        exact u _ _ (by omega) (by omega)
      · rw [if_neg (by omega)]
        exact u _ _ hij (by omega)
theorem up_sort {n : Nat} {lt : Nat → Nat → Bool} (S : Strict n lt) (n2 : 2 ≤ n) : Up lt (evK lt (kas_sort n)) n := by
  have h0 : PermOk n (List.toArray (List.range n)) := List.Perm.refl _
  unfold kas_sort
  rw [evK_bind]
  obtain ⟨x1, x2, x3, x4⟩ := up_count S h0 n2
  generalize evK lt (kas_count n (List.toArray (List.range n))) = r at x1 x2 x3 x4
  obtain ⟨m, p⟩ := r
  dsimp only at x1 x2 x3 x4 ⊢
  split
  · rw [show max m 1 = m by omega]
    exact up_bin S (n - m) p m x4 (by omega) x1
  · obtain rfl : m = n := by omega
    exact x1
theorem sortP_up {n : Nat} {lt : Nat → Nat → Bool} (S : Strict n lt) : (sortP lt n).Pairwise fun i j => lt i j = true := by
  unfold sortP
  split
  · rename_i z
    match n, z with
    | 0, _ => exact .nil
    | 1, _ => exact List.pairwise_singleton _ _
  · have u := up_sort S (show 2 ≤ n by omega)
    have h : PermOk n (evK lt (kas_sort n)) := (in_sort (n := n) (by omega)).ev
    have sz := h.size
    refine List.pairwise_iff_getElem.mpr fun i j hi hj hij => ?_
    rw [Array.length_toList] at hi hj
    have := u i j hij (by omega)
    unfold gd at this
    rw [Array.getD_eq_getD_getElem?, Array.getD_eq_getD_getElem?, Array.getElem?_eq_getElem hi, Array.getElem?_eq_getElem hj] at this
    rw [Array.getElem_toList, Array.getElem_toList]
    exact this
end L2
set_option Elab.async false
set_option linter.all false
set_option maxRecDepth 100000
namespace L2
open PySem PySem.Spec PyProof.Rows
theorem numC_all {n : Int} : ∀ c ∈ numC n, c = 45 ∨ (48 ≤ c ∧ c ≤ 57) := by
  intro c hc
  by_cases h0 : n < 0
  · obtain ⟨m, rfl⟩ : ∃ m : Nat, n = -(m : Int) := ⟨n.natAbs, by omega⟩
    rw [numC_neg (by omega)] at hc
    rcases List.mem_cons.mp hc with rfl | hc
    · exact .inl rfl
    · exact .inr (digC_all m c hc)
  · obtain ⟨m, rfl⟩ : ∃ m : Nat, n = (m : Int) := ⟨n.natAbs, by omega⟩
    rw [numC_nat] at hc
    exact .inr (digC_all m c hc)
theorem good_abc {l : Nm} (h : goodC l = true) {c : Nat} (hc : c ∈ l) : 97 ≤ c ∧ c ≤ 122 := by
  unfold goodC at h
  have h := (Bool.and_eq_true_iff.mp h).2
  have h := of_decide_eq_true (List.all_eq_true.mp h c hc)
  have all : ∀ c ∈ abc, 97 ≤ c ∧ c ≤ 122 := by decide
  exact all c h
theorem good_no {l : Nm} (h : goodC l = true) {c : Nat} (hc : c < 97) : c ∉ l := fun z => by
  have := good_abc h z
  omega
theorem num_no {n : Int} {c : Nat} (hc : c < 45) : c ∉ numC n := fun z => by
  rcases numC_all _ z with e | e <;> omega
structure GoodS (A : WA) : Prop where
  ndn : A.names.Nodup
  gn : ∀ x ∈ A.things, goodC x.1 = true
  len : A.things.length ≤ 100
  gk : ∀ x ∈ A.things, ∀ y ∈ x.2, goodC y.1 = true ∧ y.2.natAbs < 10 ^ 60
  ties : ∀ x ∈ A.ties, x.2.start ∈ A.names ∧ x.2.stop ∈ A.names ∧ goodC x.2.name = true ∧ x.2.weight.natAbs < 10 ^ 60
  lenT : A.ties.length ≤ 400
theorem GoodS.none : GoodS ⟨[], [], 0⟩ := ⟨List.nodup_nil, fun x h => (nomatch h), Nat.zero_le _, fun x h => (nomatch h), fun x h => (nomatch h), Nat.zero_le _⟩
theorem GoodS.thing {A A' : WA} {l : Nm} (g : GoodS A) (h : A.addThing l = .ok A') : GoodS A' := by
  unfold WA.addThing at h
  split at h
  · cases h
  rename_i hg
  split at h
  · cases h
  rename_i hn
  split at h
  · cases h
  injection h with h
  subst h
  have hg : goodC l = true := by simpa using hg
  have nm : WA.names { A with things := A.things ++ [(l, ([] : List (Nm × Int)))] } = A.names ++ [l] := by unfold WA.names; rw [List.map_append]; rfl
  have mem : ∀ x ∈ A.things ++ [(l, ([] : List (Nm × Int)))], x ∈ A.things ∨ x = (l, []) := fun x hx => by simpa using hx
  refine ⟨?_, fun x hx => ?_, ?_, fun x hx => ?_, fun x hx => ?_, g.lenT⟩
  · rw [nm]
    exact List.nodup_append.mpr ⟨g.ndn, by simp, fun a ha b hb z => hn (by rw [← List.mem_singleton.mp hb, ← z]; exact ha)⟩
  · rcases mem x hx with h | rfl
    · exact g.gn x h
    · exact hg
  · show (A.things ++ [(l, ([] : List (Nm × Int)))]).length ≤ 100
    rw [List.length_append, List.length_singleton]
    omega
  · rcases mem x hx with h | rfl
    · exact g.gk x h
    · exact fun y hy => nomatch hy
  · have := g.ties x hx
    rw [nm]
    exact ⟨List.mem_append_left _ this.1, List.mem_append_left _ this.2.1, this.2.2⟩
theorem at_nil {A : WA} {f : Tie → Nm} {l : Nm} (h : A.at_ f l = []) {x : Int × Tie} (hx : x ∈ A.ties) : f x.2 ≠ l := fun e => by
  unfold WA.at_ at h
  have : x.1 ∈ (A.ties.filter fun x => decide (f x.2 = l)).map (·.1) := List.mem_map.mpr ⟨x, List.mem_filter.mpr ⟨hx, decide_eq_true e⟩, rfl⟩
  rw [h] at this
  cases this
theorem GoodS.drop {A A' : WA} {l : Nm} (g : GoodS A) (h : A.dropThing l = .ok A') : GoodS A' := by
  unfold WA.dropThing at h
  split at h
  · cases h
  split at h
  · cases h
  rename_i hs
  injection h with h
  subst h
  have keep : ∀ n ∈ A.names, n ≠ l → n ∈ (A.things.filter fun x => decide (x.1 ≠ l)).map (·.1) := fun n hn ne => by
    obtain ⟨x, hx, rfl⟩ := List.mem_map.mp hn
    exact List.mem_map.mpr ⟨x, List.mem_filter.mpr ⟨hx, decide_eq_true ne⟩, rfl⟩
  have h1 : A.at_ Tie.start l = [] := Decidable.byContradiction fun z => hs (.inl z)
  have h2 : A.at_ Tie.stop l = [] := Decidable.byContradiction fun z => hs (.inr z)
  refine ⟨List.Sublist.nodup (List.Sublist.map _ List.filter_sublist) g.ndn, fun x hx => g.gn x (List.mem_filter.mp hx).1, Nat.le_trans (List.length_filter_le _ _) g.len, fun x hx => g.gk x (List.mem_filter.mp hx).1, fun x hx => ?_, g.lenT⟩
  obtain ⟨t1, t2, t3⟩ := g.ties x hx
  exact ⟨keep _ t1 (at_nil h1 hx), keep _ t2 (at_nil h2 hx), t3⟩
theorem GoodS.setv {A : WA} {a : Nm} {m : List (Nm × Int)} (g : GoodS A) (ok : ∀ y ∈ m, goodC y.1 = true ∧ y.2.natAbs < 10 ^ 60) : GoodS (A.setv a m) := by
  have nm : (A.setv a m).names = A.names := by
    unfold WA.setv WA.names
    rw [List.map_map]
    refine List.map_congr_left fun x _ => ?_
    dsimp only [Function.comp]
    split <;> rfl
  have mem : ∀ x ∈ (A.setv a m).things, (∃ y ∈ A.things, x = (y.1, m)) ∨ x ∈ A.things := fun x hx => by
    obtain ⟨y, hy, e⟩ := List.mem_map.mp hx
    by_cases z : y.1 = a
    · rw [if_pos z] at e
      exact .inl ⟨y, hy, e.symm⟩
    · rw [if_neg z] at e
      exact .inr (e ▸ hy)
  refine ⟨by rw [nm]; exact g.ndn, fun x hx => ?_, by show (A.things.map _).length ≤ 100; rw [List.length_map]; exact g.len, fun x hx => ?_, by rw [nm]; exact g.ties, g.lenT⟩
  · rcases mem x hx with ⟨y, hy, rfl⟩ | h
    · exact g.gn y hy
    · exact g.gn x h
  · rcases mem x hx with ⟨y, hy, rfl⟩ | h
    · exact ok
    · exact g.gk x h
theorem putN_mem {m : List (Nm × Int)} {k : Nm} {v : Int} {y : Nm × Int} (h : y ∈ putN m k v) : y ∈ m ∨ y = (k, v) := by
  unfold putN at h
  split at h
  · obtain ⟨z, hz, e⟩ := List.mem_map.mp h
    split at e
    · rename_i q
      rw [q] at e
      exact .inr e.symm
    · exact .inl (e ▸ hz)
  · simpa using h
theorem GoodS.set {A A' : WA} {a k : Nm} {v : Int} (g : GoodS A) (h : A.setValue a k v = .ok A') : GoodS A' := by
  unfold WA.setValue at h
  split at h
  · cases h
  rename_i m hm
  split at h
  · cases h
  rename_i hg
  split at h
  · cases h
  rename_i hv
  injection h with h
  subst h
  obtain ⟨x, hx, rfl⟩ := look_in hm
  refine g.setv fun y hy => ?_
  rcases putN_mem hy with z | rfl
  · exact g.gk x hx y z
  · exact ⟨by simpa using hg, by omega⟩
theorem GoodS.take {A A' : WA} {a k : Nm} (g : GoodS A) (h : A.takeValue a k = .ok A') : GoodS A' := by
  unfold WA.takeValue at h
  split at h
  · cases h
  rename_i m hm
  split at h
  · cases h
  injection h with h
  subst h
  obtain ⟨x, hx, rfl⟩ := look_in hm
  exact g.setv fun y hy => g.gk x hx y (List.mem_filter.mp hy).1
theorem GoodS.tie {A A' : WA} {s m e : Nm} {v : Int} (g : GoodS A) (h : A.addTie s m e v = .ok A') : GoodS A' := by
  unfold WA.addTie at h
  split at h
  · cases h
  rename_i hse
  split at h
  · cases h
  rename_i hg
  split at h
  · cases h
  rename_i hv
  split at h
  · cases h
  injection h with h
  subst h
  have hg : goodC m = true := by simpa using hg
  have hs : s ∈ A.names ∧ e ∈ A.names := by
    by_cases h1 : s ∈ A.names
    · by_cases h2 : e ∈ A.names
      · exact ⟨h1, h2⟩
      · exact absurd (.inr h2) hse
    · exact absurd (.inl h1) hse
  refine ⟨g.ndn, g.gn, g.len, g.gk, fun x hx => ?_, ?_⟩
  · dsimp only at hx
    rcases List.mem_append.mp hx with z | z
    · exact g.ties x z
    · rw [List.mem_singleton.mp z]
      exact ⟨hs.1, hs.2, hg, by dsimp only; omega⟩
  · show (A.ties ++ [(A.next, (⟨s, m, e, v⟩ : Tie))]).length ≤ 400
    rw [List.length_append, List.length_singleton]
    omega
theorem GoodS.cut {A A' : WA} {k : Int} (g : GoodS A) (h : A.cutTie k = .ok A') : GoodS A' := by
  unfold WA.cutTie at h
  split at h
  · cases h
  injection h with h
  subst h
  exact ⟨g.ndn, g.gn, g.len, g.gk, fun x hx => g.ties x (List.mem_filter.mp hx).1, Nat.le_trans (List.length_filter_le _ _) g.lenT⟩
theorem GoodS.step {A A' : WA} {l : Nm} {v : V} (g : GoodS A) (h : stepR A l = .ok (A', v)) : GoodS A' := by
  unfold stepR at h
  split at h
  · cases h
  rename_i ws k _
  cases e : (deedC A ws k).1 with
  | error e' => rw [e] at h; cases h
  | ok B =>
    rw [e] at h
    injection h with h
    injection h with h1 h2
    subst h1
    unfold deedC at e
    dsimp only at e
    split at e
    · exact g.tie e
    split at e
    · exact g.thing e
    split at e
    · exact g.drop e
    split at e
    · exact g.set e
    split at e
    · exact g.take e
    · exact g.cut e
def srt (m : List (Nm × Int)) : List (Nm × Int) := (sortP (ltN m) m.length).map fun i => m.getD i ([], 0)
def rowT (n : Nm) : Nm := joinC 32 [wThing, n]
def rowS (n : Nm) (y : Nm × Int) : Nm := joinC 32 [wSet, n, y.1, numC y.2]
def rowB (x : Tie) : Nm := joinC 32 [wTie, x.start, x.name, x.stop, numC x.weight]
def rowsT (x : Nm × List (Nm × Int)) : List Nm := rowT x.1 :: (srt x.2).map (rowS x.1)
def showC (A : WA) : List Nm := A.things.flatMap rowsT ++ A.ties.map fun x => rowB x.2
theorem rowD_T {n : Nm} (g : goodC n = true) : rowD (rowT n) = some ([wThing, n], 0) := by
  unfold rowD rowT
  rw [cutC_join (by simp) (fun p hp => by
    simp only [List.mem_cons, List.not_mem_nil, or_false] at hp
    rcases hp with rfl | rfl
    · decide
    · exact good_no g (by decide))]
  rfl
theorem rowD_S {n : Nm} {y : Nm × Int} (g : goodC n = true) (gk : goodC y.1 = true) (h : y.2.natAbs < 10 ^ 60) : rowD (rowS n y) = some ([wSet, n, y.1, numC y.2], y.2) := by
  unfold rowD rowS
  rw [cutC_join (by simp) (fun p hp => by
    simp only [List.mem_cons, List.not_mem_nil, or_false] at hp
    rcases hp with rfl | rfl | rfl | rfl
    · decide
    · exact good_no g (by decide)
    · exact good_no gk (by decide)
    · exact num_no (by decide))]
  show (numW [wSet, n, y.1, numC y.2]).map _ = _
  have : numW [wSet, n, y.1, numC y.2] = readC (numC y.2) := rfl
  rw [this, readC_num h]
  rfl
theorem rowD_B {x : Tie} (gs : goodC x.start = true) (gn : goodC x.name = true) (ge : goodC x.stop = true) (h : x.weight.natAbs < 10 ^ 60) : rowD (rowB x) = some ([wTie, x.start, x.name, x.stop, numC x.weight], x.weight) := by
  unfold rowD rowB
  rw [cutC_join (by simp) (fun p hp => by
    simp only [List.mem_cons, List.not_mem_nil, or_false] at hp
    rcases hp with rfl | rfl | rfl | rfl | rfl
    · decide
    · exact good_no gs (by decide)
    · exact good_no gn (by decide)
    · exact good_no ge (by decide)
    · exact num_no (by decide))]
  show (numW [wTie, x.start, x.name, x.stop, numC x.weight]).map _ = _
  have : numW [wTie, x.start, x.name, x.stop, numC x.weight] = readC (numC x.weight) := rfl
  rw [this, readC_num h]
  rfl
theorem step_T {A : WA} {n : Nm} (g : goodC n = true) (hn : n ∉ A.names) (hl : A.things.length < 100) : stepR A (rowT n) = .ok ({ A with things := A.things ++ [(n, [])] }, .non) := by
  unfold stepR
  rw [rowD_T g]
  show (match A.addThing n with | .error e => _ | .ok A' => _) = _
  have : A.addThing n = .ok { A with things := A.things ++ [(n, [])] } := by
    unfold WA.addThing
    rw [if_neg (by rw [g]; decide), if_neg hn, if_neg (by omega)]
  rw [this]
  rfl
theorem look_last {T : List (Nm × List (Nm × Int))} {n : Nm} {m : List (Nm × Int)} {ts : List (Int × Tie)} {k : Int} (hn : n ∉ T.map (·.1)) : WA.look ⟨T ++ [(n, m)], ts, k⟩ n = some m := by
  unfold WA.look
  dsimp only
  rw [List.find?_append, show T.find? (fun x => decide (x.1 = n)) = none from List.find?_eq_none.mpr fun x hx z => hn (List.mem_map.mpr ⟨x, hx, of_decide_eq_true z⟩)]
  rw [Option.none_or, List.find?_cons, decide_eq_true rfl]
  rfl
theorem setv_last {T : List (Nm × List (Nm × Int))} {n : Nm} {m m' : List (Nm × Int)} {ts : List (Int × Tie)} {k : Int} (hn : n ∉ T.map (·.1)) : WA.setv ⟨T ++ [(n, m)], ts, k⟩ n m' = ⟨T ++ [(n, m')], ts, k⟩ := by
  unfold WA.setv
  dsimp only
  rw [List.map_append, show T.map (fun x => if x.1 = n then (x.1, m') else x) = T from ?_]
  · show WA.mk (T ++ [if n = n then (n, m') else (n, m)]) ts k = _
    rw [if_pos rfl]
  · conv => rhs; rw [← List.map_id T]
    refine List.map_congr_left fun x hx => ?_
    rw [if_neg (fun z => hn (List.mem_map.mpr ⟨x, hx, z⟩))]
    rfl
theorem step_S {T : List (Nm × List (Nm × Int))} {n : Nm} {m : List (Nm × Int)} {ts : List (Int × Tie)} {k : Int} {y : Nm × Int} (hn : n ∉ T.map (·.1)) (g : goodC n = true) (gk : goodC y.1 = true) (h : y.2.natAbs < 10 ^ 60) (hk : y.1 ∉ m.map (·.1)) :
    stepR ⟨T ++ [(n, m)], ts, k⟩ (rowS n y) = .ok (⟨T ++ [(n, m ++ [y])], ts, k⟩, .non) := by
  unfold stepR
  rw [rowD_S g gk h]
  show (match WA.setValue ⟨T ++ [(n, m)], ts, k⟩ n y.1 y.2 with | .error e => _ | .ok A' => _) = _
  have : WA.setValue ⟨T ++ [(n, m)], ts, k⟩ n y.1 y.2 = .ok ⟨T ++ [(n, m ++ [y])], ts, k⟩ := by
    unfold WA.setValue
    rw [look_last hn]
    dsimp only
    rw [if_neg (by rw [gk]; decide), if_neg (by omega), setv_last hn]
    unfold putN
    rw [if_neg hk]
  rw [this]
  rfl
theorem run_S {T : List (Nm × List (Nm × Int))} {n : Nm} {ts : List (Int × Tie)} {k : Int} (hn : n ∉ T.map (·.1)) (g : goodC n = true) (r : List Nm) : ∀ (ys m : List (Nm × Int)), (∀ y ∈ ys, goodC y.1 = true ∧ y.2.natAbs < 10 ^ 60) → ((m ++ ys).map (·.1)).Nodup →
    runC ⟨T ++ [(n, m)], ts, k⟩ (ys.map (rowS n) ++ r) = runC ⟨T ++ [(n, m ++ ys)], ts, k⟩ r
  | [], m, _, _ => by rw [List.append_nil]; rfl
  | y :: ys, m, ok, nd => by
    have hy := ok y List.mem_cons_self
    have hk : y.1 ∉ m.map (·.1) := fun z => by
      rw [List.map_append] at nd
      exact (List.nodup_append.mp nd).2.2 _ z _ (List.mem_map.mpr ⟨y, List.mem_cons_self, rfl⟩) rfl
    show runC _ (rowS n y :: (ys.map (rowS n) ++ r)) = _
    rw [runC_ok (step_S hn g hy.1 hy.2 hk), run_S hn g r ys (m ++ [y]) (fun z hz => ok z (List.mem_cons_of_mem _ hz)) (by rw [List.append_assoc]; exact nd), List.append_assoc]
    rfl
theorem srt_perm (m : List (Nm × Int)) : (srt m).Perm m := by
  have := (sortP_perm (ltN m) m.length).map fun i => m.getD i ([], 0)
  rw [map_getD] at this
  exact this
theorem run_T {T : List (Nm × List (Nm × Int))} {ts : List (Int × Tie)} {k : Int} {x : Nm × List (Nm × Int)} (hn : x.1 ∉ T.map (·.1)) (g : goodC x.1 = true) (hl : T.length < 100) (ok : ∀ y ∈ x.2, goodC y.1 = true ∧ y.2.natAbs < 10 ^ 60) (nd : (x.2.map (·.1)).Nodup) (r : List Nm) :
    runC ⟨T, ts, k⟩ (rowsT x ++ r) = runC ⟨T ++ [(x.1, srt x.2)], ts, k⟩ r := by
  show runC _ (rowT x.1 :: ((srt x.2).map (rowS x.1) ++ r)) = _
  rw [runC_ok (step_T (A := ⟨T, ts, k⟩) g hn hl)]
  have p := srt_perm x.2
  rw [run_S hn g r (srt x.2) [] (fun y hy => ok y (p.mem_iff.mp hy)) (by rw [List.nil_append]; exact (p.map _).nodup_iff.mpr nd)]
  rfl
theorem run_Ts {ts : List (Int × Tie)} {k : Int} (r : List Nm) : ∀ (xs T : List (Nm × List (Nm × Int))), ((T ++ xs).map (·.1)).Nodup → (T ++ xs).length ≤ 100 → (∀ x ∈ xs, goodC x.1 = true) → (∀ x ∈ xs, ∀ y ∈ x.2, goodC y.1 = true ∧ y.2.natAbs < 10 ^ 60) → (∀ x ∈ xs, (x.2.map (·.1)).Nodup) →
    runC ⟨T, ts, k⟩ (xs.flatMap rowsT ++ r) = runC ⟨T ++ xs.map (fun x => (x.1, srt x.2)), ts, k⟩ r
  | [], T, _, _, _, _, _ => by rw [List.map_nil, List.append_nil]; rfl
  | x :: xs, T, nd, hl, g, ok, nk => by
    rw [List.flatMap_cons, List.append_assoc, run_T (fun z => by
      rw [List.map_append] at nd
      exact (List.nodup_append.mp nd).2.2 _ z _ (List.mem_map.mpr ⟨x, List.mem_cons_self, rfl⟩) rfl) (g x List.mem_cons_self) (by rw [List.length_append, List.length_cons] at hl; omega) (ok x List.mem_cons_self) (nk x List.mem_cons_self),
      run_Ts r xs (T ++ [(x.1, srt x.2)]) (by
        rw [List.map_append, List.map_append] at *
        rw [List.append_assoc]
        exact nd) (by simp only [List.length_append, List.length_cons, List.length_nil] at hl ⊢; omega) (fun z hz => g z (List.mem_cons_of_mem _ hz)) (fun z hz => ok z (List.mem_cons_of_mem _ hz)) (fun z hz => nk z (List.mem_cons_of_mem _ hz)), List.append_assoc]
    rfl
def renum : Int → List Tie → List (Int × Tie)
  | _, [] => []
  | k, t :: r => (k, t) :: renum (k + 1) r
theorem renum_len : ∀ (k : Int) (ts : List Tie), (renum k ts).length = ts.length
  | _, [] => rfl
  | k, t :: r => congrArg (· + 1) (renum_len (k + 1) r)
theorem renum_map : ∀ (k : Int) (ts : List Tie), (renum k ts).map (·.2) = ts
  | _, [] => rfl
  | k, t :: r => congrArg (t :: ·) (renum_map (k + 1) r)
theorem renum_num : ∀ (k : Int) (ts : List Tie), (renum k ts).map (·.1) = (List.range ts.length).map fun i : Nat => k + (i : Int)
  | _, [] => rfl
  | k, t :: r => by
    rw [List.length_cons, List.range_succ_eq_map, List.map_cons, List.map_map]
    show k :: (renum (k + 1) r).map (·.1) = _
    rw [renum_num (k + 1) r]
    congr 1
    · show k = k + 0
      omega
    · refine List.map_congr_left fun i _ => ?_
      show k + 1 + (i : Int) = k + ((i + 1 : Nat) : Int)
      omega
theorem step_B {A : WA} {x : Tie} (gs : goodC x.start = true) (gn : goodC x.name = true) (ge : goodC x.stop = true) (h : x.weight.natAbs < 10 ^ 60) (hs : x.start ∈ A.names) (he : x.stop ∈ A.names) (hl : A.ties.length < 400) :
    stepR A (rowB x) = .ok ({ A with ties := A.ties ++ [(A.next, x)], next := A.next + 1 }, .int A.next) := by
  unfold stepR
  rw [rowD_B gs gn ge h]
  show (match A.addTie x.start x.name x.stop x.weight with | .error e => _ | .ok A' => _) = _
  have : A.addTie x.start x.name x.stop x.weight = .ok { A with ties := A.ties ++ [(A.next, x)], next := A.next + 1 } := by
    unfold WA.addTie
    rw [if_neg (by rintro (z | z); exact z hs; exact z he), if_neg (by rw [gn]; decide), if_neg (by omega), if_neg (by omega)]
  rw [this]
  rfl
theorem run_B {T : List (Nm × List (Nm × Int))} (gT : ∀ x ∈ T, goodC x.1 = true) : ∀ (xs : List Tie) (ts : List (Int × Tie)) (k : Int), (ts.length + xs.length ≤ 400) → (∀ x ∈ xs, x.start ∈ T.map (·.1) ∧ x.stop ∈ T.map (·.1) ∧ goodC x.name = true ∧ x.weight.natAbs < 10 ^ 60) →
    runC ⟨T, ts, k⟩ (xs.map rowB) = .ok ⟨T, ts ++ renum k xs, k + (xs.length : Int)⟩
  | [], ts, k, _, _ => by
    show Except.ok _ = _
    rw [show renum k [] = [] from rfl, List.append_nil, List.length_nil, show k + ((0 : Nat) : Int) = k by omega]
  | x :: xs, ts, k, hl, ok => by
    obtain ⟨h1, h2, h3, h4⟩ := ok x List.mem_cons_self
    have gg : ∀ n ∈ T.map (·.1), goodC n = true := fun n hn => by
      obtain ⟨y, hy, rfl⟩ := List.mem_map.mp hn
      exact gT y hy
    rw [List.length_cons] at hl
    rw [List.map_cons, runC_ok (step_B (A := ⟨T, ts, k⟩) (gg _ h1) h3 (gg _ h2) h4 h1 h2 (by dsimp only; omega))]
    dsimp only
    rw [run_B gT xs (ts ++ [(k, x)]) (k + 1) (by rw [List.length_append, List.length_singleton]; omega) (fun z hz => ok z (List.mem_cons_of_mem _ hz)), List.append_assoc, List.length_cons, show k + 1 + (xs.length : Int) = k + ((xs.length + 1 : Nat) : Int) by omega]
    rfl
def backC (A : WA) : WA := ⟨A.things.map fun x => (x.1, srt x.2), renum 0 (A.ties.map (·.2)), (A.ties.length : Int)⟩
theorem run_show {A : WA} (g : GoodS A) (nk : ∀ x ∈ A.things, (x.2.map (·.1)).Nodup) : runC ⟨[], [], 0⟩ (showC A) = .ok (backC A) := by
  unfold showC
  rw [run_Ts _ A.things [] (by rw [List.nil_append]; exact g.ndn) (by rw [List.nil_append]; exact g.len) g.gn g.gk nk, List.nil_append,
    show (A.ties.map fun x => rowB x.2) = (A.ties.map (·.2)).map rowB by rw [List.map_map]; rfl,
    run_B (fun x hx => by
      obtain ⟨y, hy, rfl⟩ := List.mem_map.mp hx
      exact g.gn y hy) _ [] 0 (by rw [List.length_map, List.length_nil]; have := g.lenT; omega) (fun x hx => by
      obtain ⟨y, hy, rfl⟩ := List.mem_map.mp hx
      have := g.ties y hy
      rw [List.map_map]
      exact this)]
  unfold backC
  rw [List.nil_append, List.length_map, show (0 : Int) + (A.ties.length : Int) = (A.ties.length : Int) by omega]
theorem strict_of {m : List (Nm × Int)} (nd : (m.map (·.1)).Nodup) : Strict m.length (ltN m) := by
  have cp : ∀ l : Nm, (tx l).cps.toList = l := fun l => rfl
  have at_ : ∀ i, (h : i < m.length) → keyAt m i = (m.map (·.1))[i]'(by rw [List.length_map]; exact h) := fun i h => by
    unfold keyAt
    rw [List.getD_eq_getElem?_getD, List.getElem?_eq_getElem h, List.getElem_map]
    rfl
  have uq : ∀ i j, i < m.length → j < m.length → keyAt m i = keyAt m j → i = j := fun i j hi hj e => by
    rw [at_ i hi, at_ j hj] at e
    exact (List.getElem_inj nd).mp e
  unfold ltN
  refine ⟨fun i j hi hj h => ?_, fun i j k hi hj hk h1 h2 => ?_, fun i j hi hj ne => ?_⟩
  · have h := of_decide_eq_true h
    exact decide_eq_false fun z => List.lt_irrefl _ (List.lt_trans h z)
  · exact decide_eq_true (List.lt_trans (of_decide_eq_true h1) (of_decide_eq_true h2))
  · rw [decide_eq_true_iff, decide_eq_true_iff]
    by_cases h1 : (tx (keyAt m i)).cps.toList < (tx (keyAt m j)).cps.toList
    · exact .inl h1
    by_cases h2 : (tx (keyAt m j)).cps.toList < (tx (keyAt m i)).cps.toList
    · exact .inr h2
    exact absurd (uq i j hi hj (List.le_antisymm (List.not_lt.mp h2) (List.not_lt.mp h1))) ne
theorem srt_len (m : List (Nm × Int)) : (srt m).length = m.length := by unfold srt; rw [List.length_map, sortP_len]
theorem sort_srt {m : List (Nm × Int)} (nd : (m.map (·.1)).Nodup) : sortP (ltN (srt m)) (srt m).length = List.range m.length := by
  have pm := srt_perm m
  have nd2 : ((srt m).map (·.1)).Nodup := (pm.map _).nodup_iff.mpr nd
  have S2 := strict_of nd2
  have u := sortP_up S2
  have p := sortP_perm (ltN (srt m)) (srt m).length
  have p : (sortP (ltN (srt m)) (srt m).length).Perm (List.range m.length) := by
    have e := srt_len m
    have p := p
    generalize (srt m).length = z at e p ⊢
    rw [← e]
    exact p
  refine List.Perm.eq_of_pairwise (le := fun i j => ltN (srt m) i j = true) (fun a b ha hb h1 h2 => ?_) u ?_ p
  · have ha := sortP_lt ha
    have hb : b < (srt m).length := by rw [srt_len]; exact List.mem_range.mp hb
    rw [S2.asym a b ha hb h1] at h2
    cases h2
  · have u1 := sortP_up (strict_of nd)
    refine List.pairwise_iff_getElem.mpr fun i j hi hj hij => ?_
    rw [List.length_range] at hi hj
    rw [List.getElem_range, List.getElem_range]
    have key : ∀ k, k < m.length → keyAt (srt m) k = keyAt m ((sortP (ltN m) m.length).getD k 0) := fun k hk => by
      unfold keyAt srt
      rw [List.getD_eq_getElem?_getD, List.getD_eq_getElem?_getD (l := sortP _ _), List.getElem?_map, List.getElem?_eq_getElem (by rw [sortP_len]; exact hk)]
      rfl
    have q := List.pairwise_iff_getElem.mp u1 i j (by rw [sortP_len]; exact hi) (by rw [sortP_len]; exact hj) hij
    have gt : ∀ k, (hk : k < m.length) → (sortP (ltN m) m.length).getD k 0 = (sortP (ltN m) m.length)[k]'(by rw [sortP_len]; exact hk) := fun k hk => by
      rw [List.getD_eq_getElem?_getD, List.getElem?_eq_getElem (by rw [sortP_len]; exact hk)]
      rfl
    unfold ltN
    rw [key i hi, key j hj, gt i hi, gt j hj]
    exact q
theorem srt_srt {m : List (Nm × Int)} (nd : (m.map (·.1)).Nodup) : srt (srt m) = srt m := by
  unfold srt
  rw [show sortP (ltN (List.map (fun i => m.getD i ([], 0)) (sortP (ltN m) m.length))) (List.map (fun i => m.getD i ([], 0)) (sortP (ltN m) m.length)).length = List.range m.length from sort_srt nd]
  have := map_getD (([], 0) : Nm × Int) (srt m)
  rw [srt_len] at this
  exact this
def pairF (y : Nm × Int) : PyData := .tuple [.str (tx y.1), .int y.2]
theorem pair_srt (m : List (Nm × Int)) : (sortP (ltN m) m.length).map (pairE m) = (srt m).map pairF := by
  unfold srt
  rw [List.map_map]
  rfl
theorem thing_back {x : Nm × List (Nm × Int)} (nd : (x.2.map (·.1)).Nodup) : thingD (x.1, srt x.2) = thingD x := by
  unfold thingD
  dsimp only
  rw [pair_srt, pair_srt, srt_srt nd]
theorem rows_back {x : Nm × List (Nm × Int)} (nd : (x.2.map (·.1)).Nodup) : rowsT (x.1, srt x.2) = rowsT x := by
  unfold rowsT
  dsimp only
  rw [srt_srt nd]
theorem pic_back {A : WA} (nk : ∀ x ∈ A.things, (x.2.map (·.1)).Nodup) : picD (backC A) = picD A := by
  unfold picD backC
  dsimp only
  rw [List.map_map]
  congr 2
  · exact List.map_congr_left fun x hx => thing_back (nk x hx)
  · have := congrArg (List.map tieE) (renum_map 0 (A.ties.map (·.2)))
    rw [List.map_map, List.map_map] at this
    exact this
theorem show_back {A : WA} (nk : ∀ x ∈ A.things, (x.2.map (·.1)).Nodup) : showC (backC A) = showC A := by
  unfold showC backC
  dsimp only
  congr 1
  · rw [List.flatMap_map]
    have : ∀ l : List (Nm × List (Nm × Int)), (∀ x ∈ l, (x.2.map (·.1)).Nodup) → l.flatMap (fun x => rowsT (x.1, srt x.2)) = l.flatMap rowsT := fun l => by
      induction l with
      | nil => exact fun _ => rfl
      | cons a l ih =>
        intro h
        rw [List.flatMap_cons, List.flatMap_cons, rows_back (h a List.mem_cons_self), ih fun x hx => h x (List.mem_cons_of_mem _ hx)]
    exact this A.things nk
  · have := congrArg (List.map rowB) (renum_map 0 (A.ties.map (·.2)))
    rw [List.map_map, List.map_map] at this
    exact this
end L2
set_option Elab.async false
set_option linter.all false
set_option maxRecDepth 100000
namespace L2
open PySem PySem.Spec PyProof.Rows
def tListN (ta : TA) : TE := fun σ H Q => ta σ H fun vs H1 => ∃ n : Nat, vs = [V.int (n : Int)] ∧ n ≤ 1000000 ∧ ∀ l, H1 l = none → Q (.ref l) (upd H1 l (.lst ((List.range n).map fun i : Nat => V.int (i : Int))))
theorem vals_range : ∀ {n : Nat} {xs : List Value}, xs.length = n → (∀ (i : Nat) (v : Value), xs[i]? = some v → ∃ t, v = Value.int (0 + (i : Int) * 1) t) → Vals ((List.range n).map fun i : Nat => V.int (i : Int)) xs := by
  intro n xs hl h
  have gen : ∀ (xs : List Value) (k : Nat), (∀ (i : Nat) (v : Value), xs[i]? = some v → ∃ t, v = Value.int ((k + i : Nat) : Int) t) → Vals ((List.range' k xs.length).map fun i : Nat => V.int (i : Int)) xs := by
    intro xs
    induction xs with
    | nil => exact fun k _ => .nil
    | cons x xs ih =>
      intro k h
      obtain ⟨t, e⟩ := h 0 x rfl
      refine .cons ⟨t, e⟩ (ih (k + 1) fun i v hi => ?_)
      obtain ⟨t, e⟩ := h (i + 1) v hi
      exact ⟨t, by rw [e, show k + (i + 1) = k + 1 + i by omega]⟩
  rw [List.range_eq_range', ← hl]
  exact gen xs 0 fun i v hi => by
    obtain ⟨t, e⟩ := h i v hi
    exact ⟨t, by rw [e, show (0 : Int) + (i : Int) * 1 = ((0 + i : Nat) : Int) by omega]⟩
structure IsOwn (K : PySem.W.Frag) (C : Addr) : Prop where
  ha : PySem.W.findIn K (.ref C) "__class__" = some (some (.builtin "object.__class__"))
  hn : PySem.W.specialIn K (.builtin "object.__class__") "__get__" = some (some (.builtin "getset_descriptor.__get__"))
  htk : PySem.W.takesIn K (.builtin "object.__class__") = some true
  hm : PySem.W.mroIn K C (.type "object") = some true
  kit : PySem.W.kitOne K (.ref C) (.ref C) = some true
abbrev ownRow (K : PySem.W.Frag) (C : Addr) : Option (Option Value) × Option (Option Value) × Option Bool × Option Bool × Option Bool :=
  (PySem.W.findIn K (.ref C) "__class__", PySem.W.specialIn K (.builtin "object.__class__") "__get__", PySem.W.takesIn K (.builtin "object.__class__"), PySem.W.mroIn K C (.type "object"), PySem.W.kitOne K (.ref C) (.ref C))
abbrev ownRow0 : Option (Option Value) × Option (Option Value) × Option Bool × Option Bool × Option Bool :=
  (some (some (.builtin "object.__class__")), some (some (.builtin "getset_descriptor.__get__")), some true, some true, some true)
theorem IsOwn.of {K : PySem.W.Frag} {C : Addr} (h : ownRow K C = ownRow0) : IsOwn K C := by
  unfold ownRow ownRow0 at h
  injection h with h1 h
  injection h with h2 h
  injection h with h3 h
  injection h with h4 h5
  exact ⟨h1, h2, h3, h4, h5⟩
theorem IsOwn.ty {K : PySem.W.Frag} {C a dx : Addr} {H : Hp} {fs : List (Str × V)} (o : IsOwn K C) (c : Cls K C) (e : H a = some (.ins C dx fs)) : TyOf K H (.ref a) (.ref C) := .ins e c o.ha o.hn o.htk o.hm
section
variable {X : Cx}
theorem op_eqDK (K : PySem.W.Frag) (hu : X.A.units + 64 < cLine) (hK : X.K = K := by rfl) : OpR X (compareOp .Eq) (rEqD K) := by
  subst hK
  exact op_eqD hu
theorem pe_listN {a : Expr} {ta : TA} {p p2 pos pos2 : Pos} (hc : X.calm = true) (hg : Gl X "list") (hm : X.mg "list" = none) (hg2 : Gl X "range") (hm2 : X.mg "range" = none) (ha : PA X [a] ta) (hs : starEach [a] X.env = [(false, eval a X.env)] := by rfl)
    (he : starEach [.Call (.Name "range" p2) [a] [] pos2] X.env = [(false, eval (.Call (.Name "range" p2) [a] [] pos2) X.env)] := by rfl) :
    PE X (.Call (.Name "list" p) [.Call (.Name "range" p2) [a] [] pos2] [] pos) (tListN ta) := by
  intro pins s σ H Q I h
  refine Call_ (ld_blt I hg hm boot_list (PyProof.Rows.callWith_type1 ?_ he rfl))
  rw [he]
  refine Calls.spliced_cons (Call_ (ld_blt I hg2 hm2 boot_range (PyProof.Rows.callWith_type1 (thn (ha pos2 pins s σ H _ I h) fun us s1 ⟨vs, H1, I1, r1, q1⟩ => ?_) hs rfl)))
  obtain ⟨n, rfl, hn, q⟩ := q1
  obtain ⟨u, rfl, ru⟩ := r1.one
  obtain ⟨t, rfl⟩ := ru
  refine call_range_1 (Calls.spliced_nil ?_)
  have kp : ∀ c o, s1.heap.get? c = some o → (s1.heap.push { cls := .type "range", data := .fields #[.int 0 s1.toks, .int (n : Int) t, .int 1 (s1.toks + 1)] }).get? c = some o := fun c o e => Heap.get?_push_of_some _ e
  refine call_list_range (n := n) (I.ok.hd hc) (IsRange.new ..) (small_one (by decide) (by decide) (by omega) (by omega)) (by rw [rangeSize_one]; split <;> omega) (by omega) fun h' tk acc c hk hS hacc => ?_
  have sz : (s1.heap.push { cls := .type "range", data := .fields #[.int 0 s1.toks, .int (n : Int) t, .int 1 (s1.toks + 1)] }).objs.size = s1.heap.objs.size + 1 := Heap.size_push ..
  dsimp only at hS ⊢
  rw [sz] at hS ⊢
  have fr : H1 (s1.heap.objs.size + 1) = none := I1.hok.fresh (Nat.le_succ _)
  refine ⟨.ref (s1.heap.objs.size + 1), _, I1.laid (t' := tk) (o := .lst ((List.range n).map fun i : Nat => V.int (i : Int))) (fun c o e => hk c o (kp c o e)) (Nat.le_succ _) ⟨?_, acc.toList, c, vals_range (by rw [Array.length_toList]; exact hacc.1) (fun i v e => hacc.2 i v (by rw [← Array.getElem?_toList]; exact e)), hS⟩, rfl, q _ fr⟩
  rw [List.length_map, List.length_range, sizeLine_eq]
  omega
theorem bpe_listN {a : Expr} {ta : TA} {p p2 pos pos2 : Pos} (hc : X.calm = true) (hg : Gl X "list") (hm : X.mg "list" = none) (hg2 : Gl X "range") (hm2 : X.mg "range" = none) (ha : Bx (PA X [a] ta)) (hs : starEach [a] X.env = [(false, eval a X.env)] := by rfl)
    (he : starEach [.Call (.Name (Str.ofString "range") p2) [a] [] pos2] X.env = [(false, eval (.Call (.Name (Str.ofString "range") p2) [a] [] pos2) X.env)] := by rfl) :
    Bx (PE X (.Call (.Name (Str.ofString "list") p) [.Call (.Name (Str.ofString "range") p2) [a] [] pos2] [] pos) (tListN ta)) := ⟨pe_listN hc hg hm hg2 hm2 ha.un hs he⟩
end
end L2
set_option Elab.async false
set_option linter.all false
set_option maxRecDepth 100000
set_option maxHeartbeats 4000000
namespace K14
open PySem L2
def top (i : Nat) : Stmt := PySem.Challenge.pw_tieseek_k14_whole_web_read_back.main.body.getD i (.Pass ⟨0, 0, 0, 0⟩)
abbrev s_good_name : Stmt := top 17
abbrev s_few_figures : Stmt := top 18
abbrev s_number_shown : Stmt := top 19
abbrev s_good_figures : Stmt := top 20
abbrev s_number_read : Stmt := top 21
abbrev s_rows_of : Stmt := top 25
abbrev s_text_of : Stmt := top 26
abbrev s_number_in_row : Stmt := top 27
abbrev s_do_deed : Stmt := top 28
abbrev s_done_row : Stmt := top 29
abbrev s_done_rows : Stmt := top 30
abbrev s_check_name : Stmt := top 34
abbrev s_check_number : Stmt := top 35
abbrev s_thing_rows : Stmt := top 38
abbrev s_tie_row : Stmt := top 39
abbrev s_shown_web : Stmt := top 40
abbrev s_read_web : Stmt := top 41
abbrev s_l_letter : Stmt := top 43
abbrev s_l_name : Stmt := top 44
abbrev s_l_key : Stmt := top 45
abbrev s_l_which : Stmt := top 46
abbrev s_l_number : Stmt := top 47
abbrev s_l_row : Stmt := top 48
abbrev s_l_picture : Stmt := top 49
abbrev s_l_said : Stmt := top 50
abbrev s_l_due_rows : Stmt := top 51
abbrev s_l_back : Stmt := top 52
abbrev s_l_read_alike : Stmt := top 53
abbrev s_law : Stmt := top 54
abbrev s_Web_init : Stmt := inClass (top 36) 0
abbrev s_Web_check_thing : Stmt := inClass (top 36) 1
abbrev s_Web_check_tie : Stmt := inClass (top 36) 2
abbrev s_Web_add_thing : Stmt := inClass (top 36) 3
abbrev s_Web_drop_thing : Stmt := inClass (top 36) 4
abbrev s_Web_set_value : Stmt := inClass (top 36) 5
abbrev s_Web_take_value : Stmt := inClass (top 36) 6
abbrev s_Web_add_tie : Stmt := inClass (top 36) 7
abbrev s_Web_cut_tie : Stmt := inClass (top 36) 8
abbrev s_Web_things : Stmt := inClass (top 36) 10
abbrev s_Web_value : Stmt := inClass (top 36) 11
abbrev s_Web_values_of : Stmt := inClass (top 36) 12
abbrev s_Web_ties : Stmt := inClass (top 36) 13
abbrev s_Web_tie : Stmt := inClass (top 36) 14
abbrev s_Web_out_of : Stmt := inClass (top 36) 15
abbrev s_Web_into : Stmt := inClass (top 36) 16
abbrev s_Web_twin : Stmt := inClass (top 36) 18
def kv_LENGTHS : List (Key × V) := [(.inr (tx [116, 104, 105, 110, 103]), .int 2), (.inr (tx [100, 114, 111, 112]), .int 2), (.inr (tx [115, 101, 116]), .int 4), (.inr (tx [116, 97, 107, 101]), .int 3), (.inr (tx [116, 105, 101]), .int 5), (.inr (tx [99, 117, 116]), .int 2)]
theorem kvt_LENGTHS : ([(.inr (Str.ofString "thing"), .int 2), (.inr (Str.ofString "drop"), .int 2), (.inr (Str.ofString "set"), .int 4), (.inr (Str.ofString "take"), .int 3), (.inr (Str.ofString "tie"), .int 5), (.inr (Str.ofString "cut"), .int 2)] : List (Key × V)) = kv_LENGTHS := by
  unfold kv_LENGTHS
  rw [show Str.ofString "thing" = tx [116, 104, 105, 110, 103] by decide +kernel]
  rw [show Str.ofString "drop" = tx [100, 114, 111, 112] by decide +kernel]
  rw [show Str.ofString "set" = tx [115, 101, 116] by decide +kernel]
  rw [show Str.ofString "take" = tx [116, 97, 107, 101] by decide +kernel]
  rw [show Str.ofString "tie" = tx [116, 105, 101] by decide +kernel]
  rw [show Str.ofString "cut" = tx [99, 117, 116] by decide +kernel]
  try rfl
def v_LETTERS : Str := "abcdefghijklmnopqrstuvwxyz"
def v_FIGURES : Str := "0123456789"
theorem cs0 : Str.ofString "0" = tx [48] := by decide +kernel
theorem cs1 : Str.ofString "-" = tx [45] := by decide +kernel
theorem cs2 : Str.ofString "-0" = tx [45, 48] := by decide +kernel
theorem cs3 : Str.ofString "" = tx [] := by decide +kernel
theorem cs4 : Str.ofString "\n" = tx [10] := by decide +kernel
theorem cs5 : Str.ofString "tie" = tx [116, 105, 101] := by decide +kernel
theorem cs6 : Str.ofString "thing" = tx [116, 104, 105, 110, 103] := by decide +kernel
theorem cs7 : Str.ofString "drop" = tx [100, 114, 111, 112] := by decide +kernel
theorem cs8 : Str.ofString "set" = tx [115, 101, 116] := by decide +kernel
theorem cs9 : Str.ofString "take" = tx [116, 97, 107, 101] := by decide +kernel
theorem cs10 : Str.ofString " " = tx [32] := by decide +kernel
theorem cs11 : Str.ofString "abcdefghijklmnopqrstuvwxyz" = tx [97, 98, 99, 100, 101, 102, 103, 104, 105, 106, 107, 108, 109, 110, 111, 112, 113, 114, 115, 116, 117, 118, 119, 120, 121, 122] := by decide +kernel
theorem cs12 : Str.ofString "odd" = tx [111, 100, 100] := by decide +kernel
theorem cs13 : Str.ofString "NoName" = tx [78, 111, 78, 97, 109, 101] := by decide +kernel
theorem cs14 : Str.ofString "NoNumber" = tx [78, 111, 78, 117, 109, 98, 101, 114] := by decide +kernel
theorem cs15 : Str.ofString "NoThing" = tx [78, 111, 84, 104, 105, 110, 103] := by decide +kernel
theorem cs16 : Str.ofString "NoKey" = tx [78, 111, 75, 101, 121] := by decide +kernel
theorem cs17 : Str.ofString "NoTie" = tx [78, 111, 84, 105, 101] := by decide +kernel
theorem cs18 : Str.ofString "Twice" = tx [84, 119, 105, 99, 101] := by decide +kernel
theorem cs19 : Str.ofString "StillTied" = tx [83, 116, 105, 108, 108, 84, 105, 101, 100] := by decide +kernel
theorem cs20 : Str.ofString "Full" = tx [70, 117, 108, 108] := by decide +kernel
theorem cs21 : Str.ofString "NoRow" = tx [78, 111, 82, 111, 119] := by decide +kernel
theorem cs22 : Str.ofString "thing " = tx [116, 104, 105, 110, 103, 32] := by decide +kernel
theorem cs23 : Str.ofString "drop " = tx [100, 114, 111, 112, 32] := by decide +kernel
theorem cs24 : Str.ofString "cut " = tx [99, 117, 116, 32] := by decide +kernel
theorem cs25 : Str.ofString "take " = tx [116, 97, 107, 101, 32] := by decide +kernel
theorem cs26 : Str.ofString "tie " = tx [116, 105, 101, 32] := by decide +kernel
theorem cs27 : Str.ofString "set " = tx [115, 101, 116, 32] := by decide +kernel
theorem cs28 : Str.ofString "told" = tx [116, 111, 108, 100] := by decide +kernel
theorem cs29 : Str.ofString "refused" = tx [114, 101, 102, 117, 115, 101, 100] := by decide +kernel
theorem cs30 : Str.ofString "a" = tx [97] := by decide +kernel
theorem cv_LETTERS : v_LETTERS = tx [97, 98, 99, 100, 101, 102, 103, 104, 105, 106, 107, 108, 109, 110, 111, 112, 113, 114, 115, 116, 117, 118, 119, 120, 121, 122] := by decide +kernel
theorem cv_FIGURES : v_FIGURES = tx [48, 49, 50, 51, 52, 53, 54, 55, 56, 57] := by decide +kernel
local macro_rules | `(tactic| walk_at "rd") => `(tactic| simp only [L2.start, tVar, tC, tOp, tUn, tCB, tCons, tNil, tRet, tDrop, tSeq, tNext, tIfS, tTest, tB, tAnd, tOr, tNot, tAndV, tIf, tCall, tMeth, tMake, tTup, tLst, tAsg, gName, tSl, tPart, tNoPart, tBM, tBM0, rI, rI0, rU, List.map_cons, List.map_nil, List.length_cons, List.length_nil, List.replicate, List.cons_append, List.nil_append, List.append_nil, List.getElem?_cons_zero, List.getElem?_cons_succ, List.set_cons_zero, List.set_cons_succ, Option.some.injEq, V.int.injEq, V.str.injEq, V.bl.injEq, V.ref.injEq, V.ty.injEq, List.cons.injEq, and_true, true_and, exists_and_left, exists_eq_left', exists_eq_left, decide_eq_true_eq, Nat.sub_self, Nat.reduceSub, Nat.reduceAdd, tx_len, reduceCtorEq, false_and, exists_false, if_false, if_true, Bool.false_eq_true, and_assoc, stB1, Option.join, Option.bind_some, id_eq, rEq, rNe, scal, tBetw, tBetwT, rStarts, Bool.not_eq_true', decide_eq_false_iff_not, Bool.not_true, Bool.not_false, not_true_eq_false, not_false_eq_true, decide_true, decide_false, rFr, tx_list, tx_app, starts1, tx_inj, CDiv, CPow, tyV_str, Int.reduceLT, Int.reduceLE, Int.reducePow, Nat.reduceLT, Nat.reduceLeDiff, Int.reduceToNat, Int.reduceNeg, Nat.reducePow, tRaise, rIsX, rIsV, tFld, sFld, tDGet, tDIn, tDNotIn, sDPut, tDNewK, tDPop1, rAppend, tTry, rMulS, rCount, rIndex, rEqD, rNeD, tLstC, rCat, rDictP, gTup, gCons, gNil, tTryC, caught, tFrom, st2, tMGet1, cs0, cs1, cs2, cs3, cs4, cs5, cs6, cs7, cs8, cs9, cs10, cs11, cs12, cs13, cs14, cs15, cs16, cs17, cs18, cs19, cs20, cs21, cs22, cs23, cs24, cs25, cs26, cs27, cs28, cs29, cs30, cv_LETTERS, cv_FIGURES, tListN])
local macro_rules | `(tactic| walk_at "rs") => `(tactic| simp only [L2.start, List.map_cons, List.map_nil, List.length_cons, List.length_nil, List.replicate, List.cons_append, List.nil_append, List.append_nil, Nat.sub_self, Nat.reduceSub, Nat.reduceAdd])
local macro_rules | `(tactic| walk_at "rg") => `(tactic| simp only [gName, List.set_cons_zero, List.set_cons_succ])
structure Ad where
  a_good_name : Addr
  d_good_name : FuncData
  a_few_figures : Addr
  d_few_figures : FuncData
  a_number_shown : Addr
  d_number_shown : FuncData
  a_good_figures : Addr
  d_good_figures : FuncData
  a_number_read : Addr
  d_number_read : FuncData
  a_rows_of : Addr
  d_rows_of : FuncData
  a_text_of : Addr
  d_text_of : FuncData
  a_number_in_row : Addr
  d_number_in_row : FuncData
  a_do_deed : Addr
  d_do_deed : FuncData
  a_done_row : Addr
  d_done_row : FuncData
  a_done_rows : Addr
  d_done_rows : FuncData
  a_check_name : Addr
  d_check_name : FuncData
  a_check_number : Addr
  d_check_number : FuncData
  a_thing_rows : Addr
  d_thing_rows : FuncData
  a_tie_row : Addr
  d_tie_row : FuncData
  a_shown_web : Addr
  d_shown_web : FuncData
  a_read_web : Addr
  d_read_web : FuncData
  a_l_letter : Addr
  d_l_letter : FuncData
  a_l_name : Addr
  d_l_name : FuncData
  a_l_key : Addr
  d_l_key : FuncData
  a_l_which : Addr
  d_l_which : FuncData
  a_l_number : Addr
  d_l_number : FuncData
  a_l_row : Addr
  d_l_row : FuncData
  a_l_picture : Addr
  d_l_picture : FuncData
  a_l_said : Addr
  d_l_said : FuncData
  a_l_due_rows : Addr
  d_l_due_rows : FuncData
  a_l_back : Addr
  d_l_back : FuncData
  a_l_read_alike : Addr
  d_l_read_alike : FuncData
  a_Web_init : Addr
  d_Web_init : FuncData
  a_Web_check_thing : Addr
  d_Web_check_thing : FuncData
  a_Web_check_tie : Addr
  d_Web_check_tie : FuncData
  a_Web_add_thing : Addr
  d_Web_add_thing : FuncData
  a_Web_drop_thing : Addr
  d_Web_drop_thing : FuncData
  a_Web_set_value : Addr
  d_Web_set_value : FuncData
  a_Web_take_value : Addr
  d_Web_take_value : FuncData
  a_Web_add_tie : Addr
  d_Web_add_tie : FuncData
  a_Web_cut_tie : Addr
  d_Web_cut_tie : FuncData
  a_Web_things : Addr
  d_Web_things : FuncData
  a_Web_value : Addr
  d_Web_value : FuncData
  a_Web_values_of : Addr
  d_Web_values_of : FuncData
  a_Web_ties : Addr
  d_Web_ties : FuncData
  a_Web_tie : Addr
  d_Web_tie : FuncData
  a_Web_out_of : Addr
  d_Web_out_of : FuncData
  a_Web_into : Addr
  d_Web_into : FuncData
  a_Web_twin : Addr
  d_Web_twin : FuncData
  c_SeekError : Addr
  c_NoName : Addr
  c_NoNumber : Addr
  c_NoThing : Addr
  c_NoKey : Addr
  c_NoTie : Addr
  c_Twice : Addr
  c_StillTied : Addr
  c_Full : Addr
  c_NoRow : Addr
  c_Web : Addr
  k_NUMBERED : Addr
  k_LENGTHS : Addr
abbrev Ad.cs (t : Ad) : List Addr := [t.c_NoName, t.c_NoNumber, t.c_NoThing, t.c_NoKey, t.c_NoTie, t.c_Twice, t.c_StillTied, t.c_Full, t.c_NoRow]
structure Txt (w : World) (K : PySem.W.Frag) (mg : Str → Option Value) (t : Ad) : Prop where
  good_name : DefOk K mg "good_name" s_good_name ["text"] t.a_good_name t.d_good_name
  few_figures : DefOk K mg "few_figures" s_few_figures ["number"] t.a_few_figures t.d_few_figures
  number_shown : DefOk K mg "number_shown" s_number_shown ["number"] t.a_number_shown t.d_number_shown
  good_figures : DefOk K mg "good_figures" s_good_figures ["text"] t.a_good_figures t.d_good_figures
  number_read : DefOk K mg "number_read" s_number_read ["text"] t.a_number_read t.d_number_read
  rows_of : DefOk K mg "rows_of" s_rows_of ["text"] t.a_rows_of t.d_rows_of
  text_of : DefOk K mg "text_of" s_text_of ["rows"] t.a_text_of t.d_text_of
  number_in_row : DefOk K mg "number_in_row" s_number_in_row ["word"] t.a_number_in_row t.d_number_in_row
  do_deed : DefOk K mg "do_deed" s_do_deed ["web", "words", "number"] t.a_do_deed t.d_do_deed
  done_row : DefOk K mg "done_row" s_done_row ["web", "row"] t.a_done_row t.d_done_row
  done_rows : DefOk K mg "done_rows" s_done_rows ["web", "rows"] t.a_done_rows t.d_done_rows
  check_name : DefOk K mg "check_name" s_check_name ["name"] t.a_check_name t.d_check_name
  check_number : DefOk K mg "check_number" s_check_number ["number"] t.a_check_number t.d_check_number
  thing_rows : DefOk K mg "thing_rows" s_thing_rows ["web", "name"] t.a_thing_rows t.d_thing_rows
  tie_row : DefOk K mg "tie_row" s_tie_row ["tie"] t.a_tie_row t.d_tie_row
  shown_web : DefOk K mg "shown_web" s_shown_web ["web"] t.a_shown_web t.d_shown_web
  read_web : DefOk K mg "read_web" s_read_web ["rows"] t.a_read_web t.d_read_web
  l_letter : DefOk K mg "_law_letter" s_l_letter ["number"] t.a_l_letter t.d_l_letter
  l_name : DefOk K mg "_law_name" s_l_name ["number", "way"] t.a_l_name t.d_l_name
  l_key : DefOk K mg "_law_key" s_l_key ["number", "way"] t.a_l_key t.d_l_key
  l_which : DefOk K mg "_law_which" s_l_which ["e"] t.a_l_which t.d_l_which
  l_number : DefOk K mg "_law_number" s_l_number ["cell"] t.a_l_number t.d_l_number
  l_row : DefOk K mg "_law_row" s_l_row ["cell", "way", "many"] t.a_l_row t.d_l_row
  l_picture : DefOk K mg "_law_picture" s_l_picture ["web"] t.a_l_picture t.d_l_picture
  l_said : DefOk K mg "_law_said" s_l_said ["web", "row"] t.a_l_said t.d_l_said
  l_due_rows : DefOk K mg "_law_due_rows" s_l_due_rows ["web"] t.a_l_due_rows t.d_l_due_rows
  l_back : DefOk K mg "_law_back" s_l_back ["web"] t.a_l_back t.d_l_back
  l_read_alike : DefOk K mg "_law_read_alike" s_l_read_alike ["rows"] t.a_l_read_alike t.d_l_read_alike
  Web_init : MethOk K t.c_Web "__init__" "Web.__init__" s_Web_init ["self"] t.a_Web_init t.d_Web_init
  Web_check_thing : MethOk K t.c_Web "check_thing" "Web.check_thing" s_Web_check_thing ["self", "name"] t.a_Web_check_thing t.d_Web_check_thing
  Web_check_tie : MethOk K t.c_Web "check_tie" "Web.check_tie" s_Web_check_tie ["self", "number"] t.a_Web_check_tie t.d_Web_check_tie
  Web_add_thing : MethOk K t.c_Web "add_thing" "Web.add_thing" s_Web_add_thing ["self", "name"] t.a_Web_add_thing t.d_Web_add_thing
  Web_drop_thing : MethOk K t.c_Web "drop_thing" "Web.drop_thing" s_Web_drop_thing ["self", "name"] t.a_Web_drop_thing t.d_Web_drop_thing
  Web_set_value : MethOk K t.c_Web "set_value" "Web.set_value" s_Web_set_value ["self", "name", "key", "number"] t.a_Web_set_value t.d_Web_set_value
  Web_take_value : MethOk K t.c_Web "take_value" "Web.take_value" s_Web_take_value ["self", "name", "key"] t.a_Web_take_value t.d_Web_take_value
  Web_add_tie : MethOkD K t.c_Web "add_tie" "Web.add_tie" s_Web_add_tie ["self", "start", "name", "end", "weight"] [.int 0] t.a_Web_add_tie t.d_Web_add_tie
  Web_cut_tie : MethOk K t.c_Web "cut_tie" "Web.cut_tie" s_Web_cut_tie ["self", "number"] t.a_Web_cut_tie t.d_Web_cut_tie
  Web_things : MethOk K t.c_Web "things" "Web.things" s_Web_things ["self"] t.a_Web_things t.d_Web_things
  Web_value : MethOk K t.c_Web "value" "Web.value" s_Web_value ["self", "name", "key"] t.a_Web_value t.d_Web_value
  Web_values_of : MethOk K t.c_Web "values_of" "Web.values_of" s_Web_values_of ["self", "name"] t.a_Web_values_of t.d_Web_values_of
  Web_ties : MethOk K t.c_Web "ties" "Web.ties" s_Web_ties ["self"] t.a_Web_ties t.d_Web_ties
  Web_tie : MethOk K t.c_Web "tie" "Web.tie" s_Web_tie ["self", "number"] t.a_Web_tie t.d_Web_tie
  Web_out_of : MethOk K t.c_Web "out_of" "Web.out_of" s_Web_out_of ["self", "name"] t.a_Web_out_of t.d_Web_out_of
  Web_into : MethOk K t.c_Web "into" "Web.into" s_Web_into ["self", "name"] t.a_Web_into t.d_Web_into
  Web_twin : MethOk K t.c_Web "twin" "Web.twin" s_Web_twin ["self"] t.a_Web_twin t.d_Web_twin
  c_LETTERS : ∃ u, mg "LETTERS" = some u ∧ RelV (.str v_LETTERS) u
  c_FIGURES : ∃ u, mg "FIGURES" = some u ∧ RelV (.str v_FIGURES) u
  c_MOST_LETTERS : ∃ u, mg "MOST_LETTERS" = some u ∧ RelV (.int 12) u
  c_MOST_FIGURES : ∃ u, mg "MOST_FIGURES" = some u ∧ RelV (.int 60) u
  c_MOST_THINGS : ∃ u, mg "MOST_THINGS" = some u ∧ RelV (.int 100) u
  c_MOST_TIES : ∃ u, mg "MOST_TIES" = some u ∧ RelV (.int 400) u
  c_NUMBERED : mg "NUMBERED" = some (.ref t.k_NUMBERED)
  s_NUMBERED : ∀ H, SqT K H t.k_NUMBERED [.str (tx [115, 101, 116]), .str (tx [116, 105, 101]), .str (tx [99, 117, 116])]
  c_LENGTHS : mg "LENGTHS" = some (.ref t.k_LENGTHS)
  d_LENGTHS : KD K w t.k_LENGTHS kv_LENGTHS
  b_len : mg "len" = none
  b_isinstance : mg "isinstance" = none
  b_bool : mg "bool" = none
  b_int : mg "int" = none
  b_range : mg "range" = none
  b_list : mg "list" = none
  b_str : mg "str" = none
  b_ValueError : mg "ValueError" = none
  b_tuple : mg "tuple" = none
  b_abs : mg "abs" = none
  b_all : mg "all" = none
  b_sorted : mg "sorted" = none
  b_dict : mg "dict" = none
  g_SeekError : mg "SeekError" = some (.ref t.c_SeekError)
  g_NoName : mg "NoName" = some (.ref t.c_NoName)
  g_NoNumber : mg "NoNumber" = some (.ref t.c_NoNumber)
  g_NoThing : mg "NoThing" = some (.ref t.c_NoThing)
  g_NoKey : mg "NoKey" = some (.ref t.c_NoKey)
  g_NoTie : mg "NoTie" = some (.ref t.c_NoTie)
  g_Twice : mg "Twice" = some (.ref t.c_Twice)
  g_StillTied : mg "StillTied" = some (.ref t.c_StillTied)
  g_Full : mg "Full" = some (.ref t.c_Full)
  g_NoRow : mg "NoRow" = some (.ref t.c_NoRow)
  g_Web : mg "Web" = some (.ref t.c_Web)
  xs : XSet K t.c_SeekError t.cs
  xm : XMat K t.cs
  o_Web : Cls K t.c_Web
  is_Web : IsOwn K t.c_Web
  mk_Web : Mk K t.c_Web t.a_Web_init
  na_kept_values : NoAttr K t.c_Web "kept_values"
  na_kept_ties : NoAttr K t.c_Web "kept_ties"
  na_coming_number : NoAttr K t.c_Web "coming_number"
theorem Txt.in_NoName {w : World} {K : PySem.W.Frag} {mg : Str → Option Value} {t : Ad} (_ : Txt w K mg t) : t.c_NoName ∈ t.cs := by simp [Ad.cs]
theorem Txt.xc_NoName {w : World} {K : PySem.W.Frag} {mg : Str → Option Value} {t : Ad} (T : Txt w K mg t) : XCls K mg "NoName" t.c_NoName := T.xs.cls T.in_NoName T.g_NoName
theorem Txt.in_NoNumber {w : World} {K : PySem.W.Frag} {mg : Str → Option Value} {t : Ad} (_ : Txt w K mg t) : t.c_NoNumber ∈ t.cs := by simp [Ad.cs]
theorem Txt.xc_NoNumber {w : World} {K : PySem.W.Frag} {mg : Str → Option Value} {t : Ad} (T : Txt w K mg t) : XCls K mg "NoNumber" t.c_NoNumber := T.xs.cls T.in_NoNumber T.g_NoNumber
theorem Txt.in_NoThing {w : World} {K : PySem.W.Frag} {mg : Str → Option Value} {t : Ad} (_ : Txt w K mg t) : t.c_NoThing ∈ t.cs := by simp [Ad.cs]
theorem Txt.xc_NoThing {w : World} {K : PySem.W.Frag} {mg : Str → Option Value} {t : Ad} (T : Txt w K mg t) : XCls K mg "NoThing" t.c_NoThing := T.xs.cls T.in_NoThing T.g_NoThing
theorem Txt.in_NoKey {w : World} {K : PySem.W.Frag} {mg : Str → Option Value} {t : Ad} (_ : Txt w K mg t) : t.c_NoKey ∈ t.cs := by simp [Ad.cs]
theorem Txt.xc_NoKey {w : World} {K : PySem.W.Frag} {mg : Str → Option Value} {t : Ad} (T : Txt w K mg t) : XCls K mg "NoKey" t.c_NoKey := T.xs.cls T.in_NoKey T.g_NoKey
theorem Txt.in_NoTie {w : World} {K : PySem.W.Frag} {mg : Str → Option Value} {t : Ad} (_ : Txt w K mg t) : t.c_NoTie ∈ t.cs := by simp [Ad.cs]
theorem Txt.xc_NoTie {w : World} {K : PySem.W.Frag} {mg : Str → Option Value} {t : Ad} (T : Txt w K mg t) : XCls K mg "NoTie" t.c_NoTie := T.xs.cls T.in_NoTie T.g_NoTie
theorem Txt.in_Twice {w : World} {K : PySem.W.Frag} {mg : Str → Option Value} {t : Ad} (_ : Txt w K mg t) : t.c_Twice ∈ t.cs := by simp [Ad.cs]
theorem Txt.xc_Twice {w : World} {K : PySem.W.Frag} {mg : Str → Option Value} {t : Ad} (T : Txt w K mg t) : XCls K mg "Twice" t.c_Twice := T.xs.cls T.in_Twice T.g_Twice
theorem Txt.in_StillTied {w : World} {K : PySem.W.Frag} {mg : Str → Option Value} {t : Ad} (_ : Txt w K mg t) : t.c_StillTied ∈ t.cs := by simp [Ad.cs]
theorem Txt.xc_StillTied {w : World} {K : PySem.W.Frag} {mg : Str → Option Value} {t : Ad} (T : Txt w K mg t) : XCls K mg "StillTied" t.c_StillTied := T.xs.cls T.in_StillTied T.g_StillTied
theorem Txt.in_Full {w : World} {K : PySem.W.Frag} {mg : Str → Option Value} {t : Ad} (_ : Txt w K mg t) : t.c_Full ∈ t.cs := by simp [Ad.cs]
theorem Txt.xc_Full {w : World} {K : PySem.W.Frag} {mg : Str → Option Value} {t : Ad} (T : Txt w K mg t) : XCls K mg "Full" t.c_Full := T.xs.cls T.in_Full T.g_Full
theorem Txt.in_NoRow {w : World} {K : PySem.W.Frag} {mg : Str → Option Value} {t : Ad} (_ : Txt w K mg t) : t.c_NoRow ∈ t.cs := by simp [Ad.cs]
theorem Txt.xc_NoRow {w : World} {K : PySem.W.Frag} {mg : Str → Option Value} {t : Ad} (T : Txt w K mg t) : XCls K mg "NoRow" t.c_NoRow := T.xs.cls T.in_NoRow T.g_NoRow
def Ad.cl (t : Ad) : Rf → Addr
  | .noName => t.c_NoName | .noNumber => t.c_NoNumber | .noThing => t.c_NoThing | .noKey => t.c_NoKey | .noTie => t.c_NoTie | .twice => t.c_Twice | .stillTied => t.c_StillTied | .full => t.c_Full
theorem Ad.cl_ix (t : Ad) (r : Rf) : t.cs[r.ix]? = some (t.cl r) := by cases r <;> rfl
def sp_good_name : Sp := fun vs H Q _ => ∃ l, vs = [.str (tx l)] ∧ l.length ≤ sizeLine ∧ ∀ H', Same H H' → Q (.bl (goodC l)) H'
def sp_check_name (t : Ad) : Sp := fun vs H Q E => ∃ l, vs = [.str (tx l)] ∧ l.length ≤ sizeLine ∧ ∀ H', Same H H' → if goodC l = false then E (.ref t.c_NoName) none H' else Q .non H'
def sp_Web_init (t : Ad) : Sp := fun vs H Q _ => ∃ p dx, vs = [.ref p] ∧ H p = some (.ins t.c_Web dx []) ∧
  ∀ H' W, WebAt t.c_Web H' p W → W.vals = [] → W.ties = [] → W.next = 0 → (∀ b o, b ≠ p → H b = some o → H' b = some o) → (∀ b ∈ W.own p, b = p ∨ H b = none) → Q .non H'
def sp_Web_check_thing (t : Ad) : Sp := fun vs H Q E => ∃ p W l, vs = [.ref p, .str (tx l)] ∧ WebAt t.c_Web H p W ∧ if l ∈ W.vals.map (·.1) then Q .non H else E (.ref t.c_NoThing) none H
def told (t : Ad) (p : Addr) (W : WS) (H : Hp) (Q : VK) (E : XK) (v : V) : Except Rf WA → Prop
  | .error r => ∀ H', Same H H' → E (.ref (t.cl r)) none H'
  | .ok A => ∀ H' W', WebAt t.c_Web H' p W' → W'.abs = A → Step H (W.own p) H' (W'.own p) → Q v H'
def sp_Web_add_thing (t : Ad) : Sp := fun vs H Q E => ∃ p W l, vs = [.ref p, .str (tx l)] ∧ WebAt t.c_Web H p W ∧ l.length ≤ sizeLine ∧ told t p W H Q E .non (W.abs.addThing l)
def sp_Web_drop_thing (t : Ad) : Sp := fun vs H Q E => ∃ p W l, vs = [.ref p, .str (tx l)] ∧ WebAt t.c_Web H p W ∧ told t p W H Q E .non (W.abs.dropThing l)
def sp_Web_things (t : Ad) : Sp := fun vs H Q _ => ∃ p W, vs = [.ref p] ∧ WebAt t.c_Web H p W ∧ ∀ a, H a = none → Q (.ref a) (upd H a (.lst ((W.vals.map (·.1)).map fun z => .str (tx z))))
def sp_Web_at (t : Ad) (f : Tie → Nm) : Sp := fun vs H Q E => ∃ p W l, vs = [.ref p, .str (tx l)] ∧ WebAt t.c_Web H p W ∧
  if l ∈ W.vals.map (·.1) then ∀ a H', H a = none → Same H H' → H' a = some (.lst ((W.abs.at_ f l).map V.int)) → Q (.ref a) H' else E (.ref t.c_NoThing) none H
def sp_few_figures : Sp := fun vs H Q _ => ∃ n : Int, vs = [.int n] ∧ Q (.bl (decide (n.natAbs < 10 ^ 60))) H
def sp_check_number (t : Ad) : Sp := fun vs H Q E => ∃ n : Int, vs = [.int n] ∧ if n.natAbs < 10 ^ 60 then Q .non H else E (.ref t.c_NoNumber) none H
def sp_Web_check_tie (t : Ad) : Sp := fun vs H Q E => ∃ p W n, vs = [.ref p, .int n] ∧ WebAt t.c_Web H p W ∧ if n ∈ W.ties.map (·.1) then Q .non H else E (.ref t.c_NoTie) none H
def sp_Web_cut_tie (t : Ad) : Sp := fun vs H Q E => ∃ p W n, vs = [.ref p, .int n] ∧ WebAt t.c_Web H p W ∧ told t p W H Q E .non (W.abs.cutTie n)
def sp_Web_add_tie (t : Ad) : Sp := fun vs H Q E => ∃ p W s n e w, vs = [.ref p, .str (tx s), .str (tx n), .str (tx e), .int w] ∧ WebAt t.c_Web H p W ∧ (∀ x ∈ W.ties.map (·.1), x < W.next) ∧ n.length ≤ sizeLine ∧ told t p W H Q E (.int W.next) (W.abs.addTie s n e w)
def sp_Web_ties (t : Ad) : Sp := fun vs H Q _ => ∃ p W, vs = [.ref p] ∧ WebAt t.c_Web H p W ∧ ∀ a, H a = none → Q (.ref a) (upd H a (.lst ((W.ties.map (·.1)).map V.int)))
def sp_Web_tie (t : Ad) : Sp := fun vs H Q E => ∃ p W n, vs = [.ref p, .int n] ∧ WebAt t.c_Web H p W ∧ if n ∈ W.ties.map (·.1) then ∀ a tie, (n, a, tie) ∈ W.ties → Q (.ref a) H else E (.ref t.c_NoTie) none H
def sp_Web_set_value (t : Ad) : Sp := fun vs H Q E => ∃ (p : Addr) (W : WS) (n k : Nm) (v : Int), vs = [.ref p, .str (tx n), .str (tx k), .int v] ∧ WebAt t.c_Web H p W ∧ k.length ≤ sizeLine ∧ (∀ x ∈ W.vals, x.2.2.length < 100000) ∧ told t p W H Q E .non (W.abs.setValue n k v)
def sp_Web_take_value (t : Ad) : Sp := fun vs H Q E => ∃ (p : Addr) (W : WS) (n k : Nm), vs = [.ref p, .str (tx n), .str (tx k)] ∧ WebAt t.c_Web H p W ∧ told t p W H Q E .non (W.abs.takeValue n k)
def sp_Web_values_of (t : Ad) : Sp := fun vs H Q E => ∃ (p : Addr) (W : WS) (n : Nm), vs = [.ref p, .str (tx n)] ∧ WebAt t.c_Web H p W ∧
  match W.abs.look n with
  | none => E (.ref t.c_NoThing) none H
  | some m => m.length < 64 ∧ (m.map (·.1)).Nodup ∧ ∀ (l : Addr) (as : List Addr) (H2 : Hp), H l = none → as.length = m.length → Same H H2 → H2 l = some (.lst ((sortP (ltN m) m.length).map fun i => .ref (as.getD i 0))) → (∀ a ∈ as, H a = none ∧ a ≠ l) →
    (∀ (i : Nat) (a : Addr) (y : Nm × Int), as[i]? = some a → m[i]? = some y → H2 a = some (.tup [.str (tx y.1), .int y.2])) → Q (.ref l) H2
def sp_Web_twin (t : Ad) : Sp := fun vs H Q _ => ∃ p W, vs = [.ref p] ∧ WebAt t.c_Web H p W ∧ ∀ q H' W', H q = none → Same H H' → WebAt t.c_Web H' q W' → W'.abs = W.abs → (∀ b ∈ W'.own q, H b = none) → Q (.ref q) H'
def sp_good_figures : Sp := fun vs H Q _ => ∃ l, vs = [.str (tx l)] ∧ l.length ≤ sizeLine ∧ ∀ H', Same H H' → Q (.bl (figsC l)) H'
def sp_number_read (t : Ad) : Sp := fun vs H Q E => ∃ l, vs = [.str (tx l)] ∧ l.length ≤ sizeLine ∧ ∀ H', Same H H' → match readC l with | some n => Q (.int n) H' | none => E (.ref t.c_NoNumber) none H'
def sp_number_in_row (t : Ad) : Sp := fun vs H Q E => ∃ l, vs = [.str (tx l)] ∧ l.length ≤ sizeLine ∧ ∀ H', Same H H' → match readC l with | some n => Q (.int n) H' | none => ∀ d, E (.ref t.c_NoRow) (some d) H'
theorem val_len (d : Nm) : (valV kv_LENGTHS (.inr (tx d))).getD .non = match lenC d with | some k => .int (k : Int) | none => .non := by
  unfold kv_LENGTHS lenC valV
  have e : ∀ a : Nm, decide ((Sum.inr (tx a) : Key) = Sum.inr (tx d)) = decide (d = a) := fun a => by
    by_cases h : d = a
    · rw [h, decide_eq_true rfl, decide_eq_true rfl]
    · rw [decide_eq_false h, decide_eq_false (fun z => h (tx_inj.mp (Sum.inr.inj z)).symm)]
  simp only [List.find?_cons, e, List.find?_nil]
  by_cases h1 : d = wThing
  · rw [if_pos h1]
    rw [decide_eq_true (show d = [116, 104, 105, 110, 103] from h1)]
    rfl
  rw [if_neg h1, decide_eq_false (show ¬ d = [116, 104, 105, 110, 103] from h1)]
  by_cases h2 : d = wDrop
  · rw [if_pos h2, decide_eq_true (show d = [100, 114, 111, 112] from h2)]
    rfl
  rw [if_neg h2, decide_eq_false (show ¬ d = [100, 114, 111, 112] from h2)]
  by_cases h3 : d = wSet
  · rw [if_pos h3, decide_eq_true (show d = [115, 101, 116] from h3)]
    rfl
  rw [if_neg h3, decide_eq_false (show ¬ d = [115, 101, 116] from h3)]
  by_cases h4 : d = wTake
  · rw [if_pos h4, decide_eq_true (show d = [116, 97, 107, 101] from h4)]
    rfl
  rw [if_neg h4, decide_eq_false (show ¬ d = [116, 97, 107, 101] from h4)]
  by_cases h5 : d = wTie
  · rw [if_pos h5, decide_eq_true (show d = [116, 105, 101] from h5)]
    rfl
  rw [if_neg h5, decide_eq_false (show ¬ d = [116, 105, 101] from h5)]
  by_cases h6 : d = wCut
  · rw [if_pos h6, decide_eq_true (show d = [99, 117, 116] from h6)]
    rfl
  rw [if_neg h6, decide_eq_false (show ¬ d = [99, 117, 116] from h6)]
  rfl
def sp_do_deed (t : Ad) : Sp := fun vs H Q E => ∃ (p l : Addr) (W : WS) (ws : List Nm) (n : Int), vs = [.ref p, .ref l, .int n] ∧ WebAt t.c_Web H p W ∧ WPre W ∧ H l = some (.lst (ws.map fun z => .str (tx z))) ∧ lenC (ws.getD 0 []) = some ws.length ∧ (∀ w ∈ ws, w.length ≤ sizeLine) ∧ told t p W H Q E (deedC W.abs ws n).2 (deedC W.abs ws n).1
theorem told_to {t : Ad} {p : Addr} {W : WS} {H : Hp} {Q Q2 : VK} {E : XK} {v v2 : V} {r : Except Rf WA} (h : told t p W H Q E v r) (k : ∀ H', Q v H' → Q2 v2 H') : told t p W H Q2 E v2 r := by
  cases r with
  | error e => exact h
  | ok A => exact fun H' W' h1 h2 h3 => k _ (h H' W' h1 h2 h3)
theorem told_same {t : Ad} {p : Addr} {W : WS} {H H1 : Hp} {Q : VK} {E : XK} {v : V} {r : Except Rf WA} (s : Same H H1) (h : told t p W H Q E v r) : told t p W H1 Q E v r := by
  cases r with
  | error e => exact fun H' s' => h H' (s.trans s')
  | ok A => exact fun H' W' h1 h2 h3 => h H' W' h1 h2 ((L2.Step.same s).trans h3)
def sp_done_row (t : Ad) : Sp := fun vs H Q E => ∃ (p : Addr) (W : WS) (l : Nm), vs = [.ref p, .str (tx l)] ∧ WebAt t.c_Web H p W ∧ WPre W ∧ l.length ≤ 1000 ∧
  match rowD l with
  | none => ∀ d H', Same H H' → E (.ref t.c_NoRow) d H'
  | some (ws, n) => told t p W H Q E (deedC W.abs ws n).2 (deedC W.abs ws n).1
def sp_l_letter : Sp := fun vs H Q _ => ∃ n : Int, vs = [.int n] ∧ Q (.str (tx [letC n])) H
def sp_l_name : Sp := fun vs H Q _ => ∃ n w : Int, vs = [.int n, .int w] ∧ Q (.str (tx (nameC n w))) H
def xix : Option Rf → Nat
  | none => 8
  | some r => r.ix
def xword : Option Rf → Nm
  | none => [78, 111, 82, 111, 119]
  | some r => r.word
def Ad.cx (t : Ad) : Option Rf → Addr
  | none => t.c_NoRow
  | some r => t.cl r
theorem Ad.cx_ix (t : Ad) (x : Option Rf) : t.cs[xix x]? = some (t.cx x) := by
  cases x with
  | none => rfl
  | some r => exact t.cl_ix r
theorem Ad.cx_in (t : Ad) (x : Option Rf) : t.cx x ∈ t.cs := List.mem_of_getElem? (t.cx_ix x)
def sp_l_which (t : Ad) : Sp := fun vs H Q _ => ∃ (a : Addr) (x : Option Rf), vs = [.ref a] ∧ H a = some (hoExc a (t.cx x)) ∧ ∀ H', Same H H' → Q (.str (tx (xword x))) H'
theorem row_to {t : Ad} {p : Addr} {W : WS} {H : Hp} {Q : VK} {E : XK} {l : Nm} (h : match stepR W.abs l with
    | .error e => ∀ d H', Same H H' → E (.ref (t.cx e)) d H'
    | .ok (A, v) => ∀ H' W', WebAt t.c_Web H' p W' → W'.abs = A → L2.Step H (W.own p) H' (W'.own p) → Q v H') :
    match rowD l with
    | none => ∀ d H', Same H H' → E (.ref t.c_NoRow) d H'
    | some (ws, n) => told t p W H Q E (deedC W.abs ws n).2 (deedC W.abs ws n).1 := by
  unfold stepR at h
  cases e : rowD l with
  | none =>
    rw [e] at h
    exact h
  | some y =>
    obtain ⟨ws, n⟩ := y
    rw [e] at h
    dsimp only at h ⊢
    cases e2 : (deedC W.abs ws n).1 with
    | error r =>
      rw [e2] at h
      exact fun H' s => h none H' s
    | ok A =>
      rw [e2] at h
      exact h
def toldC : Nm := [116, 111, 108, 100]
def refC : Nm := [114, 101, 102, 117, 115, 101, 100]
def sp_l_said (t : Ad) : Sp := fun vs H Q _ => ∃ (p : Addr) (W : WS) (l : Nm), vs = [.ref p, .str (tx l)] ∧ WebAt t.c_Web H p W ∧ WPre W ∧ l.length ≤ 1000 ∧
  match stepR W.abs l with
  | .error e => ∀ q H', Same H H' → H' q = some (.tup [.str (tx refC), .str (tx (xword e))]) → Q (.ref q) H'
  | .ok (A, v) => ∀ q H' W', WebAt t.c_Web H' p W' → W'.abs = A → L2.Step H (W.own p) H' (W'.own p) → H' q = some (.tup [.str (tx toldC), v]) → Q (.ref q) H'
def sp_l_picture (t : Ad) (K : PySem.W.Frag) : Sp := fun vs H Q _ => ∃ (p : Addr) (W : WS) (n : Nat), vs = [.ref p] ∧ WebAt t.c_Web H p W ∧ GoodA W.abs n ∧ n < 64 ∧ ∀ q H', H q = none → Same H H' → DatV K H' (.ref q) (picD W.abs) → Q (.ref q) H'
def sp_l_key : Sp := fun vs H Q _ => ∃ n w : Int, vs = [.int n, .int w] ∧ 0 ≤ n ∧ n < 6 ∧ ∀ m : Int, Q (.str (tx (nameC m w))) H
theorem okN (n : Int) : okT (numC n) := fun c hc => by
  by_cases h0 : n < 0
  · obtain ⟨m, rfl⟩ : ∃ m : Nat, n = -(m : Int) := ⟨n.natAbs, by omega⟩
    rw [numC_neg (by omega)] at hc
    rcases List.mem_cons.mp hc with rfl | hc
    · decide
    · have := digC_all m c hc
      omega
  · obtain ⟨m, rfl⟩ : ∃ m : Nat, n = (m : Int) := ⟨n.natAbs, by omega⟩
    rw [numC_nat] at hc
    have := digC_all m c hc
    omega
theorem okc {c : Nat} {l : Nm} (h : c < 1114112) (h' : okT l) : okT (c :: l) := fun x hx => by
  rcases List.mem_cons.mp hx with rfl | z
  · exact h
  · exact h' x z
theorem okA {l l' : Nm} (h : okT l) (h' : okT l') : okT (l ++ l') := fun x hx => (List.mem_append.mp hx).elim (h x) (h' x)
def sp_l_number : Sp := fun vs H Q _ => ∃ c : Int, vs = [.int c] ∧ ∀ (n : Int) H', n.natAbs < 10 ^ 60 → Same H H' → Q (.str (tx (numC n))) H'
def sp_l_row : Sp := fun vs H Q _ => ∃ c w m : Int, vs = [.int c, .int w, .int m] ∧ 0 ≤ m ∧ m < 1000 ∧ ∀ (l : Nm) H', 0 < l.length ∧ l.length ≤ 200 → okT l → Same H H' → Q (.str (tx l)) H'
def sp_done_rows (t : Ad) : Sp := fun vs H Q E => ∃ (p l : Addr) (W : WS) (ls : List Nm) (n : Nat), vs = [.ref p, .ref l] ∧ WebAt t.c_Web H p W ∧ GoodA W.abs n ∧ n + ls.length < 100000 ∧ H l = some (.lst (ls.map fun z => .str (tx z))) ∧ (∀ x ∈ ls, x.length ≤ 1000) ∧
  match runC W.abs ls with
  | .error e => ∀ d H', Same H H' → E (.ref (t.cx e)) d H'
  | .ok A => ∀ q H' W', H q = none → Same H H' → WebAt t.c_Web H' q W' → W'.abs = A → (∀ b ∈ W'.own q, H b = none) → Q (.ref q) H'
def sts (ys : List Nm) : HO := .lst (ys.map fun z => .str (tx z))
def rowsC (l : Nm) : List Nm := if l = [] then [] else cutC 10 l
def sp_number_shown : Sp := fun vs H Q _ => ∃ n : Int, vs = [.int n] ∧ n.natAbs < 10 ^ 60 ∧ Q (.str (tx (numC n))) H
def sp_rows_of : Sp := fun vs H Q _ => ∃ l, vs = [.str (tx l)] ∧ l.length ≤ 10000000 ∧ ∀ p, H p = none → Q (.ref p) (upd H p (sts (rowsC l)))
def sp_text_of : Sp := fun vs H Q _ => ∃ p ys, vs = [.ref p] ∧ H p = some (sts ys) ∧ (ys.map List.length).sum + ys.length ≤ 10000000 ∧ Q (.str (tx (joinC 10 ys))) H
def sp_thing_rows (t : Ad) : Sp := fun vs H Q _ => ∃ (p : Addr) (W : WS) (n : Nat) (x : Nm × List (Nm × Int)), vs = [.ref p, .str (tx x.1)] ∧ WebAt t.c_Web H p W ∧ GoodA W.abs n ∧ GoodS W.abs ∧ n < 64 ∧ x ∈ W.abs.things ∧ ∀ q H', H q = none → Same H H' → H' q = some (sts (rowsT x)) → Q (.ref q) H'
def sp_tie_row : Sp := fun vs H Q _ => ∃ (a : Addr) (x : Tie), vs = [.ref a] ∧ H a = some (.tup (tieV x)) ∧ x.start.length ≤ 12 ∧ x.name.length ≤ 12 ∧ x.stop.length ≤ 12 ∧ x.weight.natAbs < 10 ^ 60 ∧ ∀ H', Same H H' → Q (.str (tx (rowB x))) H'
def sp_shown_web (t : Ad) : Sp := fun vs H Q _ => ∃ (p : Addr) (W : WS) (n : Nat), vs = [.ref p] ∧ WebAt t.c_Web H p W ∧ GoodA W.abs n ∧ GoodS W.abs ∧ n < 64 ∧ ∀ q H', H q = none → Same H H' → H' q = some (sts (showC W.abs)) → Q (.ref q) H'
def sp_l_due_rows (t : Ad) : Sp := sp_shown_web t
def sp_read_web (t : Ad) : Sp := fun vs H Q E => ∃ (l : Addr) (ls : List Nm), vs = [.ref l] ∧ ls.length < 100000 ∧ H l = some (sts ls) ∧ (∀ x ∈ ls, x.length ≤ 1000) ∧
  match runC ⟨[], [], 0⟩ ls with
  | .error e => ∀ d H', Same H H' → E (.ref (t.cx e)) d H'
  | .ok A => ∀ q H' W', H q = none → Same H H' → WebAt t.c_Web H' q W' → W'.abs = A → (∀ b ∈ W'.own q, H b = none) → Q (.ref q) H'
def sp_l_back (t : Ad) : Sp := fun vs H Q _ => ∃ (p : Addr) (W : WS) (n : Nat), vs = [.ref p] ∧ WebAt t.c_Web H p W ∧ GoodA W.abs n ∧ GoodS W.abs ∧ n < 64 ∧ ∀ H', Same H H' → Q (.bl true) H'
def sp_l_read_alike (t : Ad) : Sp := fun vs H Q _ => ∃ (l : Addr) (ls : List Nm), vs = [.ref l] ∧ ls.length < 64 ∧ H l = some (sts ls) ∧ (∀ x ∈ ls, x.length ≤ 1000 ∧ okT x) ∧ ∀ H', Same H H' → Q (.bl true) H'
theorem rows_few {l : List (Nm × List (Nm × Int))} (h : ∀ x ∈ l, x.2.length ≤ 63) (hl : l.length ≤ 100) : (l.flatMap rowsT).length ≤ 6400 := by
  have h1 : ∀ l : List (Nm × List (Nm × Int)), (∀ x ∈ l, x.2.length ≤ 63) → (l.flatMap rowsT).length ≤ 64 * l.length := fun l => by
    induction l with
    | nil => exact fun _ => Nat.zero_le _
    | cons a l ih =>
      intro h
      have := ih fun x hx => h x (List.mem_cons_of_mem _ hx)
      have := h a List.mem_cons_self
      have e : (rowsT a).length = a.2.length + 1 := by unfold rowsT; rw [List.length_cons, List.length_map, srt_len]
      rw [List.flatMap_cons, List.length_append, List.length_cons, e]
      omega
  have := h1 l h
  omega
theorem show_mem {A : WA} {x : Nm} (h : x ∈ showC A) : (∃ y ∈ A.things, x = rowT y.1) ∨ (∃ y ∈ A.things, ∃ z ∈ y.2, x = rowS y.1 z) ∨ ∃ y ∈ A.ties, x = rowB y.2 := by
  unfold showC at h
  rcases List.mem_append.mp h with h | h
  · obtain ⟨y, hy, h⟩ := List.mem_flatMap.mp h
    unfold rowsT at h
    rcases List.mem_cons.mp h with h | h
    · exact .inl ⟨y, hy, h⟩
    · obtain ⟨z, hz, rfl⟩ := List.mem_map.mp h
      exact .inr (.inl ⟨y, hy, z, (srt_perm y.2).mem_iff.mp hz, rfl⟩)
  · obtain ⟨y, hy, rfl⟩ := List.mem_map.mp h
    exact .inr (.inr ⟨y, hy, rfl⟩)
theorem names_good {A : WA} (gs : GoodS A) {x : Nm} (h : x ∈ A.names) : goodC x = true := by
  obtain ⟨y, hy, rfl⟩ := List.mem_map.mp h
  exact gs.gn y hy
theorem show_all {A : WA} {P : Nat → Prop} (gs : GoodS A) (hp : ∀ c, 97 ≤ c → c ≤ 122 → P c) (hn : ∀ c, c = 45 ∨ (48 ≤ c ∧ c ≤ 57) → P c) (h32 : P 32) {x : Nm} (h : x ∈ showC A) : ∀ c ∈ x, P c := by
  have gd : ∀ {n : Nm}, goodC n = true → ∀ c ∈ n, P c := fun g c hc => hp c (good_abc g hc).1 (good_abc g hc).2
  have nu : ∀ n : Int, ∀ c ∈ numC n, P c := fun n c hc => hn c (numC_all c hc)
  have jn : ∀ l : List Nm, (∀ n ∈ l, ∀ c ∈ n, P c) → ∀ c ∈ joinC 32 l, P c := fun l => by
    induction l with
    | nil => exact fun _ c hc => nomatch hc
    | cons a l ih =>
      intro h c hc
      cases l with
      | nil => exact h a List.mem_cons_self c hc
      | cons b l =>
        rcases List.mem_append.mp (show c ∈ a ++ 32 :: joinC 32 (b :: l) from hc) with z | z
        · exact h a List.mem_cons_self c z
        · rcases List.mem_cons.mp z with rfl | z
          · exact h32
          · exact ih (fun n hn => h n (List.mem_cons_of_mem _ hn)) c z
  have wd : ∀ w ∈ [wThing, wSet, wTie], ∀ c ∈ w, 97 ≤ c ∧ c ≤ 122 := by decide
  have wp : ∀ w ∈ [wThing, wSet, wTie], ∀ c ∈ w, P c := fun w hw c hc => hp c (wd w hw c hc).1 (wd w hw c hc).2
  rcases show_mem h with ⟨y, hy, rfl⟩ | ⟨y, hy, z, hz, rfl⟩ | ⟨y, hy, rfl⟩
  · refine jn _ fun n hn => ?_
    simp only [List.mem_cons, List.not_mem_nil, or_false] at hn
    rcases hn with rfl | rfl
    · exact wp _ (by simp)
    · exact gd (gs.gn y hy)
  · refine jn _ fun n hn => ?_
    simp only [List.mem_cons, List.not_mem_nil, or_false] at hn
    rcases hn with rfl | rfl | rfl | rfl
    · exact wp _ (by simp)
    · exact gd (gs.gn y hy)
    · exact gd (gs.gk y hy z hz).1
    · exact nu _
  · obtain ⟨t1, t2, t3, t4⟩ := gs.ties y hy
    refine jn _ fun n hn => ?_
    simp only [List.mem_cons, List.not_mem_nil, or_false] at hn
    rcases hn with rfl | rfl | rfl | rfl | rfl
    · exact wp _ (by simp)
    · exact gd (names_good gs t1)
    · exact gd t3
    · exact gd (names_good gs t2)
    · exact nu _
theorem show_ok {A : WA} (gs : GoodS A) : ∀ x ∈ showC A, okT x := fun x hx => show_all gs (P := fun c => c < 1114112) (fun c _ _ => by omega) (fun c _ => by omega) (by decide) hx
theorem show_no {A : WA} (gs : GoodS A) : ∀ x ∈ showC A, (10 : Nat) ∉ x := fun x hx z => show_all gs (P := fun c => c ≠ 10) (fun c _ _ => by omega) (fun c _ => by omega) (by decide) hx 10 z rfl
theorem show_len {A : WA} (gs : GoodS A) : ∀ x ∈ showC A, x.length ≤ 150 := fun x h => by
  have gd : ∀ {n : Nm}, goodC n = true → n.length ≤ 12 := fun g => (good_ok g).2
  have w1 : wThing.length = 5 := rfl
  have w2 : wSet.length = 3 := rfl
  have w3 : wTie.length = 3 := rfl
  rcases show_mem h with ⟨y, hy, rfl⟩ | ⟨y, hy, z, hz, rfl⟩ | ⟨y, hy, rfl⟩
  · have := joinC_len 32 [wThing, y.1]
    have := gd (gs.gn y hy)
    simp only [List.map_cons, List.map_nil, List.sum_cons, List.sum_nil, List.length_cons, List.length_nil] at *
    unfold rowT
    omega
  · have := joinC_len 32 [wSet, y.1, z.1, numC z.2]
    have := gd (gs.gn y hy)
    have := gd (gs.gk y hy z hz).1
    have := numC_len (gs.gk y hy z hz).2
    simp only [List.map_cons, List.map_nil, List.sum_cons, List.sum_nil, List.length_cons, List.length_nil] at *
    unfold rowS
    omega
  · obtain ⟨t1, t2, t3, t4⟩ := gs.ties y hy
    have := joinC_len 32 [wTie, y.2.start, y.2.name, y.2.stop, numC y.2.weight]
    have := gd (names_good gs t1)
    have := gd t3
    have := gd (names_good gs t2)
    have := numC_len t4
    simp only [List.map_cons, List.map_nil, List.sum_cons, List.sum_nil, List.length_cons, List.length_nil] at *
    unfold rowB
    omega
theorem sum_le {l : List Nm} {n : Nat} (h : ∀ x ∈ l, x.length ≤ n) : (l.map List.length).sum ≤ n * l.length := by
  induction l with
  | nil => exact Nat.zero_le _
  | cons a l ih =>
    have h1 := h a List.mem_cons_self
    have h2 := ih fun x hx => h x (List.mem_cons_of_mem _ hx)
    rw [List.map_cons, List.sum_cons, List.length_cons, Nat.mul_succ]
    omega
theorem show_few {A : WA} {n : Nat} (g : GoodA A n) (gs : GoodS A) (hn : n < 64) : (showC A).length ≤ 6800 := by
  have := rows_few (l := A.things) (fun x hx => by have := g.few x hx; omega) gs.len
  have := gs.lenT
  unfold showC
  rw [List.length_append, List.length_map]
  omega
theorem show_wt {A : WA} (gs : GoodS A) (few : (showC A).length ≤ 6800) : ((showC A).map List.length).sum + (showC A).length ≤ 10000000 := by
  have := sum_le (show_len gs)
  omega
theorem show_ne {A : WA} (gs : GoodS A) : ∀ x ∈ showC A, x ≠ [] := fun x h => by
  rcases show_mem h with ⟨y, hy, rfl⟩ | ⟨y, hy, z, hz, rfl⟩ | ⟨y, hy, rfl⟩
  · exact fun z => nomatch z
  · exact fun z => nomatch z
  · exact fun z => nomatch z
theorem rows_join {ps : List Nm} (h : ∀ p ∈ ps, (10 : Nat) ∉ p) (ne : ∀ p ∈ ps, p ≠ []) : rowsC (joinC 10 ps) = ps := by
  unfold rowsC
  cases ps with
  | nil => rfl
  | cons p r =>
    have e : joinC 10 (p :: r) ≠ [] := by
      cases r with
      | nil => exact ne p List.mem_cons_self
      | cons q r => exact fun z => ne p List.mem_cons_self (List.append_eq_nil_iff.mp (show p ++ 10 :: joinC 10 (q :: r) = [] from z)).1
    rw [if_neg e, cutC_join (by simp) h]
theorem back_names (A : WA) : (backC A).names = A.names := by
  unfold backC WA.names
  rw [List.map_map]
  rfl
theorem back_good {A : WA} {n : Nat} (g : GoodA A n) (gs : GoodS A) : GoodA (backC A) n := by
  refine ⟨fun x hx => ?_, fun x hx => ?_, fun x hx => ?_, fun x hx => ?_, fun x hx => ?_, fun x hx => ?_⟩
  · have e : (backC A).ties.map (·.1) = (List.range (A.ties.map (·.2)).length).map fun i : Nat => (0 : Int) + (i : Int) := renum_num 0 (A.ties.map fun x : Int × Tie => x.2)
    rw [e, List.length_map] at hx
    obtain ⟨i, hi, rfl⟩ := List.mem_map.mp hx
    have := List.mem_range.mp hi
    show (0 : Int) + (i : Int) < (A.ties.length : Int)
    omega
  · obtain ⟨y, hy, rfl⟩ := List.mem_map.mp hx
    rw [srt_len]
    exact g.few y hy
  · obtain ⟨y, hy, rfl⟩ := List.mem_map.mp hx
    exact ((srt_perm y.2).map _).nodup_iff.mpr (g.nd y hy)
  · obtain ⟨y, hy, rfl⟩ := List.mem_map.mp hx
    exact g.okn y hy
  · obtain ⟨y, hy, rfl⟩ := List.mem_map.mp hx
    exact fun z hz => g.okk y hy z (((srt_perm y.2).map _).mem_iff.mp hz)
  · have : x.2 ∈ (renum 0 (A.ties.map (·.2))).map (·.2) := List.mem_map.mpr ⟨x, hx, rfl⟩
    rw [renum_map] at this
    obtain ⟨y, hy, e⟩ := List.mem_map.mp this
    rw [← e]
    exact g.okt y hy
theorem back_goods {A : WA} (gs : GoodS A) : GoodS (backC A) := by
  refine ⟨by rw [back_names]; exact gs.ndn, fun x hx => ?_, by show (A.things.map _).length ≤ 100; rw [List.length_map]; exact gs.len, fun x hx => ?_, fun x hx => ?_, ?_⟩
  · obtain ⟨y, hy, rfl⟩ := List.mem_map.mp hx
    exact gs.gn y hy
  · obtain ⟨y, hy, rfl⟩ := List.mem_map.mp hx
    exact fun z hz => gs.gk y hy z ((srt_perm y.2).mem_iff.mp hz)
  · rw [back_names]
    have : x.2 ∈ (renum 0 (A.ties.map (·.2))).map (·.2) := List.mem_map.mpr ⟨x, hx, rfl⟩
    rw [renum_map] at this
    obtain ⟨y, hy, e⟩ := List.mem_map.mp this
    rw [← e]
    exact gs.ties y hy
  · show (renum 0 (A.ties.map (·.2))).length ≤ 400
    rw [renum_len, List.length_map]
    exact gs.lenT
theorem back_nums (A : WA) : (backC A).ties.map (·.1) = (List.range A.ties.length).map fun i : Nat => (i : Int) := by
  have e : (backC A).ties.map (·.1) = (List.range (A.ties.map (·.2)).length).map fun i : Nat => (0 : Int) + (i : Int) := renum_num 0 (A.ties.map fun x : Int × Tie => x.2)
  rw [e, List.length_map]
  exact List.map_congr_left fun i _ => by omega
theorem cut_str1 (ns : List Nm) : cutV (ns.map fun z => V.str (tx z)) none (some 1) = (ns.take 1).map fun z => V.str (tx z) := by
  unfold cutV
  rw [HT.sIx_none, show (some (1 : Int)) = some (((1 : Nat) : Int)) from rfl, HT.sIx_nat, List.drop_zero, Nat.sub_zero, List.map_take]
  exact (List.take_eq_take_min ..).symm
theorem pair_shaped {a b : Nm} (ha : okT a) (hb : okT b) : SeqAt.shaped (.tuple [.str (tx a), .str (tx b)]) = true := by
  unfold SeqAt.shaped
  simp only [PyData.canLay0, PyData.canLayAll0, PyData.depth, PyData.depthAll, strOk_tx ha, strOk_tx hb]
  rfl
theorem sz_lt {n : Nat} (h : n < 100000) : n < sizeLine := Nat.lt_of_lt_of_le h (by rw [sizeLine_eq]; decide)
section
variable {P : Program} {w : World} {K : PySem.W.Frag} {mg : Str → Option Value} {base : Heap} {t : Ad}
theorem sc_good_name : FnScope ["text"] ["text"] (defScope s_good_name) := ⟨rfl, rfl, rfl, by decide +kernel, rfl, by decide +kernel, by decide +kernel⟩
theorem ok_good_name (T : Txt w K mg t) : FnOk P w K mg base (CX1 P w) 1 t.a_good_name t.d_good_name ["text"] (sp_good_name) := by
  refine T.good_name.fn.okN sc_good_name (fun vs H Q E h => ?_) (fun cdv A outer s H vs Q E hr h => ?_)
  · obtain ⟨l, rfl, hz, k⟩ := h
    rfl
  · obtain ⟨l, rfl, hz, k⟩ := h
    refine ⟨_, Bx.un (bpss_one (bps_ret (bpe_and (bpe_betw bpe_int (bpe_callB call_len_str (by rfl) T.b_len PySem.boot_len (bpa_cons (bpv 0) bpa_nil)) (bpe_const T.c_MOST_LETTERS)) (bpe_one (bpe_callB (call_all rfl) (by rfl) T.b_all PyProof.Rows.boot_all (bpa_cons (bpe_comp rfl (N := ["sign"]) (fr := []) (CSc.of (by kernel_rfl)) (bpi_str (bpv 0)) (fun _ _ _ _ _ => bpts_nil)
        (fun _ _ _ _ _ => (bpe_cmpR op_in1 (bpv 0) (bpe_const T.c_LETTERS) (by with_unfolding_all rfl)))) bpa_nil)))))), ?_⟩
    walk_at "rd"
    refine ⟨hz, ?_⟩
    split
    · rename_i h1
      have h1' : 1 ≤ l.length ∧ l.length ≤ 12 := by
        simp only [Bool.and_eq_true, decide_eq_true_eq] at h1
        omega
      refine rd_all (cs := abc) l rfl hz (fun c H2 Q2 _ h => ⟨_, rfl, c, rfl, _, rfl, by rw [tx_list]; exact h⟩) fun H2 s2 => ?_
      have e : goodC l = l.all fun c => decide (c ∈ abc) := by
        unfold goodC
        rw [decide_eq_true h1', Bool.true_and]
      rw [← e]
      exact k H2 s2
    · rename_i h1
      have e : goodC l = false := by
        unfold goodC
        rw [decide_eq_false (fun z => h1 (by simp only [Bool.and_eq_true, decide_eq_true_eq]; omega)), Bool.false_and]
      rw [← e]
      exact k H (Same.refl _)
theorem sc_check_name : FnScope ["name"] ["name"] (defScope s_check_name) := ⟨rfl, rfl, rfl, by decide +kernel, rfl, by decide +kernel, by decide +kernel⟩
theorem ok_check_name (T : Txt w K mg t) : FnOk P w K mg base (CX1 P w) 2 t.a_check_name t.d_check_name ["name"] (sp_check_name t) := by
  have G_good_name := (ok_good_name (P := P) (w := w) (base := base) T).mono (show 1 ≤ 1 by decide)
  refine T.check_name.fn.okX sc_check_name (fun vs H Q E h => ?_) (fun cdv A outer s H vs Q E hr h => ?_)
  · obtain ⟨l, rfl, hz, k⟩ := h
    rfl
  · obtain ⟨l, rfl, hz, k⟩ := h
    refine ⟨_, Bx.un (bpss_one (bps_if (bpt_not (bpt_val (bpe_fnx T.good_name G_good_name hr pass1 (bpa_cons (bpv 0) bpa_nil))))
      (bpss_one (bps_raise (T.xc_NoName) raises1 rfl bpe_str))
      bpss_nil)), ?_⟩
    walk_at "rd"
    exact ⟨l, rfl, hz, fun H2 s2 => ⟨_, rfl, k H2 s2⟩⟩
theorem sc_Web_init : FnScope ["self"] ["self"] (defScope s_Web_init) := ⟨rfl, rfl, rfl, by decide +kernel, rfl, by decide +kernel, by decide +kernel⟩
theorem ok_Web_init (T : Txt w K mg t) : FnOk P w K mg base (CX1 P w) 1 t.a_Web_init t.d_Web_init ["self"] (sp_Web_init t) := by
  refine T.Web_init.fn.okN sc_Web_init (fun vs H Q E h => ?_) (fun cdv A outer s H vs Q E hr h => ?_)
  · obtain ⟨p, dx, rfl, hp, k⟩ := h
    rfl
  · obtain ⟨p, dx, rfl, hp, k⟩ := h
    refine ⟨_, Bx.un (bpss_cons (bps_fld (bpv 0) bpe_dnewK)
      (bpss_cons (bps_fld (bpv 0) bpe_dnewK)
      (bpss_one (bps_fld (bpv 0) bpe_int)))), ?_⟩
    walk_at "rd"
    intro d1 h1
    have n1 : p ≠ d1 := ne_of_none hp h1
    refine ⟨_, _, _, by rw [upd_ne n1]; exact hp, T.o_Web, T.na_kept_values, by simp, fun d2 h2 => ?_⟩
    have n2 : d2 ≠ p := fun z => by
      rw [z, upd_same] at h2
      cases h2
    rw [upd_ne n2] at h2
    have n3 : d2 ≠ d1 := fun z => by
      rw [z, upd_same] at h2
      cases h2
    rw [upd_ne n3] at h2
    refine ⟨_, _, _, by rw [upd_ne n2.symm]; exact upd_same, T.o_Web, T.na_kept_ties, Nat.lt_of_le_of_lt (length_putF _ _ _) (by decide), _, _, _, upd_same, T.o_Web, T.na_coming_number, Nat.lt_of_le_of_lt (Nat.le_trans (length_putF _ _ _) (Nat.succ_le_succ (length_putF _ _ _))) (by decide), ?_⟩
    refine k _ ⟨dx, d1, d2, [], [], 0⟩ ⟨upd_same, ?_, ?_, fun x hx => absurd hx (by simp), fun x hx => absurd hx (by simp), ?_, by simp, by simp, by simp, by simp⟩ rfl rfl rfl (fun b o hb e => ?_) fun b hb => ?_
    · show upd _ p _ d1 = _
      rw [upd_ne n1.symm, upd_ne n1.symm, upd_ne n3.symm, upd_ne n1.symm, upd_same]
      rfl
    · show upd _ p _ d2 = _
      rw [upd_ne n2, upd_ne n2, upd_same]
      rfl
    · simpa using n3.symm
    · rw [upd_ne hb, upd_ne hb, upd_ne (ne_of_none e h2), upd_ne hb, upd_ne (ne_of_none e h1)]
      exact e
    · simp only [WS.own, List.mem_cons, List.map_nil, List.not_mem_nil, or_false] at hb
      rcases hb with rfl | rfl | rfl
      · exact .inl rfl
      · exact .inr h1
      · exact .inr h2
theorem sc_Web_check_thing : FnScope ["self", "name"] ["self", "name"] (defScope s_Web_check_thing) := ⟨rfl, rfl, rfl, by decide +kernel, rfl, by decide +kernel, by decide +kernel⟩
theorem ok_Web_check_thing (T : Txt w K mg t) : FnOk P w K mg base (CX1 P w) 1 t.a_Web_check_thing t.d_Web_check_thing ["self", "name"] (sp_Web_check_thing t) := by
  refine T.Web_check_thing.fn.okX sc_Web_check_thing (fun vs H Q E h => ?_) (fun cdv A outer s H vs Q E hr h => ?_)
  · obtain ⟨p, W, l, rfl, hw, k⟩ := h
    rfl
  · obtain ⟨p, W, l, rfl, hw, k⟩ := h
    refine ⟨_, Bx.un (bpss_one (bps_if (bpt_cmp (bpc_dnotin (hu_of hr) (bpv 1) (bpe_fldA (bpv 0))))
      (bpss_one (bps_raise (T.xc_NoThing) raises1 rfl bpe_str))
      bpss_nil)), ?_⟩
    walk_at "rd"
    refine ⟨_, _, _, hw.obj, T.o_Web, T.na_kept_values, _, rfl, _, rfl, _, DGet.k (k := .inr (tx l)) hw.val, ?_⟩
    rw [vals_isSome]
    by_cases h : l ∈ W.vals.map (·.1)
    · rw [if_pos h] at k
      rw [decide_eq_true h]
      exact k
    · rw [if_neg h] at k
      rw [decide_eq_false h]
      exact k
theorem sc_Web_out_of : FnScope ["self", "name"] ["self", "name"] (defScope s_Web_out_of) := ⟨rfl, rfl, rfl, by decide +kernel, rfl, by decide +kernel, by decide +kernel⟩
theorem ok_Web_out_of (T : Txt w K mg t) : FnOk P w K mg base (CX1 P w) 2 t.a_Web_out_of t.d_Web_out_of ["self", "name"] (sp_Web_at t Tie.start) := by
  have G_Web_check_thing := (ok_Web_check_thing (P := P) (w := w) (base := base) T).mono (show 1 ≤ 1 by decide)
  refine T.Web_out_of.fn.okX sc_Web_out_of (fun vs H Q E h => ?_) (fun cdv A outer s H vs Q E hr h => ?_)
  · obtain ⟨p, W, l, rfl, hw, k⟩ := h
    rfl
  · obtain ⟨p, W, l, rfl, hw, k⟩ := h
    refine ⟨_, Bx.un (bpss_cons (bps_expr (bpe_mx (bpv 0) T.o_Web T.Web_check_thing G_Web_check_thing hr pass1 (bpa_cons (bpv 1) bpa_nil)))
      (bpss_one (bps_ret (bpe_compD rfl (N := ["number", "name", "self"]) (fr := [1, 0]) (CSc.of (by kernel_rfl)) (bpe_fldA (bpv 0)) (fun _ _ _ _ _ => (bpts_one (bpt_cmpR op_eq (bpe_ixA (ix_tupK K) (bpe_dgetA (hu_of hr) (bpe_fldK K (bpv 2)) (bpv 0)) bpe_int) (bpv 1) (nomark _))))
        (fun _ _ _ _ _ => (bpv 0)))))), ?_⟩
    walk_at "rd"
    refine ⟨_, _, hw.obj, rfl, p, W, l, rfl, hw, ?_⟩
    by_cases h : l ∈ W.vals.map (·.1)
    · rw [if_pos h] at k ⊢
      exact hw.at_list T.o_Web T.na_kept_ties (f := Tie.start) (i := 0) (fun t => atI_nat (j := 0) rfl) rfl (fun _ => rfl) (fun _ => rfl) k
    · rw [if_neg h] at k ⊢
      exact k
theorem sc_Web_into : FnScope ["self", "name"] ["self", "name"] (defScope s_Web_into) := ⟨rfl, rfl, rfl, by decide +kernel, rfl, by decide +kernel, by decide +kernel⟩
theorem ok_Web_into (T : Txt w K mg t) : FnOk P w K mg base (CX1 P w) 2 t.a_Web_into t.d_Web_into ["self", "name"] (sp_Web_at t Tie.stop) := by
  have G_Web_check_thing := (ok_Web_check_thing (P := P) (w := w) (base := base) T).mono (show 1 ≤ 1 by decide)
  refine T.Web_into.fn.okX sc_Web_into (fun vs H Q E h => ?_) (fun cdv A outer s H vs Q E hr h => ?_)
  · obtain ⟨p, W, l, rfl, hw, k⟩ := h
    rfl
  · obtain ⟨p, W, l, rfl, hw, k⟩ := h
    refine ⟨_, Bx.un (bpss_cons (bps_expr (bpe_mx (bpv 0) T.o_Web T.Web_check_thing G_Web_check_thing hr pass1 (bpa_cons (bpv 1) bpa_nil)))
      (bpss_one (bps_ret (bpe_compD rfl (N := ["number", "name", "self"]) (fr := [1, 0]) (CSc.of (by kernel_rfl)) (bpe_fldA (bpv 0)) (fun _ _ _ _ _ => (bpts_one (bpt_cmpR op_eq (bpe_ixA (ix_tupK K) (bpe_dgetA (hu_of hr) (bpe_fldK K (bpv 2)) (bpv 0)) bpe_int) (bpv 1) (nomark _))))
        (fun _ _ _ _ _ => (bpv 0)))))), ?_⟩
    walk_at "rd"
    refine ⟨_, _, hw.obj, rfl, p, W, l, rfl, hw, ?_⟩
    by_cases h : l ∈ W.vals.map (·.1)
    · rw [if_pos h] at k ⊢
      exact hw.at_list T.o_Web T.na_kept_ties (f := Tie.stop) (i := 2) (fun t => atI_nat (j := 2) rfl) rfl (fun _ => rfl) (fun _ => rfl) k
    · rw [if_neg h] at k ⊢
      exact k
theorem sc_Web_add_thing : FnScope ["self", "name"] ["self", "name"] (defScope s_Web_add_thing) := ⟨rfl, rfl, rfl, by decide +kernel, rfl, by decide +kernel, by decide +kernel⟩
theorem ok_Web_add_thing (T : Txt w K mg t) : FnOk P w K mg base (CX1 P w) 3 t.a_Web_add_thing t.d_Web_add_thing ["self", "name"] (sp_Web_add_thing t) := by
  have G_check_name := (ok_check_name (P := P) (w := w) (base := base) T).mono (show 2 ≤ 2 by decide)
  refine T.Web_add_thing.fn.okX sc_Web_add_thing (fun vs H Q E h => ?_) (fun cdv A outer s H vs Q E hr h => ?_)
  · obtain ⟨p, W, l, rfl, hw, hz, k⟩ := h
    rfl
  · obtain ⟨p, W, l, rfl, hw, hz, k⟩ := h
    refine ⟨_, Bx.un (bpss_cons (bps_expr (bpe_fnx T.check_name G_check_name hr pass1 (bpa_cons (bpv 1) bpa_nil)))
      (bpss_cons (bps_if (bpt_cmp (bpc_din (hu_of hr) (bpv 1) (bpe_fldA (bpv 0))))
      (bpss_one (bps_raise (T.xc_Twice) raises1 rfl bpe_str))
      bpss_nil)
      (bpss_cons (bps_if (bpt_cmpR op_ge (bpe_callB call_lenD (by rfl) T.b_len PySem.boot_len (bpa_cons (bpe_fldA (bpv 0)) bpa_nil)) (bpe_const T.c_MOST_THINGS) (nomark _))
      (bpss_one (bps_raise (T.xc_Full) raises1 rfl bpe_str))
      bpss_nil)
      (bpss_one (bps_dput (hu_of hr) (bpe_fldA (bpv 0)) (bpv 1) bpe_dnewK))))), ?_⟩
    walk_at "rd"
    refine ⟨l, rfl, hz, fun H1 s1 => ?_⟩
    unfold WA.addThing at k
    rw [names_abs] at k
    cases hg : goodC l with
    | false =>
      rw [if_pos hg] at k
      exact k H1 s1
    | true =>
      rw [if_neg (by rw [hg]; simp)] at k
      have w1 := hw.same s1
      refine ⟨_, _, _, w1.obj, T.o_Web, T.na_kept_values, _, rfl, _, rfl, _, DGet.k (k := .inr (tx l)) w1.val, ?_⟩
      rw [vals_isSome]
      by_cases h : l ∈ W.vals.map (·.1)
      · rw [if_pos h] at k
        rw [decide_eq_true h, if_pos rfl]
        exact k H1 s1
      · rw [if_neg h] at k
        rw [decide_eq_false h, if_neg Bool.false_ne_true]
        refine ⟨_, _, _, w1.obj, T.o_Web, T.na_kept_values, _, rfl, _, rfl, _, w1.val, ?_⟩
        have el : W.abs.things.length = W.vals.length := by
          unfold WS.abs
          rw [List.length_map]
        have el2 : (kvVals W.vals).length = W.vals.length := by
          unfold kvVals
          rw [List.length_map]
        rw [el] at k
        rw [el2]
        by_cases h100 : 100 ≤ W.vals.length
        · rw [if_pos h100] at k
          rw [if_pos (by omega)]
          exact k H1 s1
        · rw [if_neg h100] at k
          rw [if_neg (by omega)]
          intro d hd
          have nd : p ≠ d := ne_of_none w1.obj hd
          have ndv : W.dv ≠ d := ne_of_none w1.val hd
          refine ⟨_, _, _, by rw [upd_ne nd]; exact w1.obj, T.o_Web, T.na_kept_values, _, rfl, _, rfl, _, DPut.k (k := .inr (tx l)) (by rw [upd_ne ndv]; exact w1.val) (by rw [el2]; exact Nat.lt_of_lt_of_le (show W.vals.length < 100 by omega) (sz_of (by decide))), ?_⟩
          obtain ⟨w2, st⟩ := w1.added hd h (by omega)
          refine k _ _ w2 ?_ ((Step.same s1).trans st)
          unfold WS.abs
          simp only [List.map_append, List.map_cons, List.map_nil]
theorem sc_Web_drop_thing : FnScope ["self", "name"] ["self", "name"] (defScope s_Web_drop_thing) := ⟨rfl, rfl, rfl, by decide +kernel, rfl, by decide +kernel, by decide +kernel⟩
theorem ok_Web_drop_thing (T : Txt w K mg t) : FnOk P w K mg base (CX1 P w) 3 t.a_Web_drop_thing t.d_Web_drop_thing ["self", "name"] (sp_Web_drop_thing t) := by
  have G_Web_check_thing := (ok_Web_check_thing (P := P) (w := w) (base := base) T).mono (show 1 ≤ 2 by decide)
  have G_Web_out_of := (ok_Web_out_of (P := P) (w := w) (base := base) T).mono (show 2 ≤ 2 by decide)
  have G_Web_into := (ok_Web_into (P := P) (w := w) (base := base) T).mono (show 2 ≤ 2 by decide)
  refine T.Web_drop_thing.fn.okX sc_Web_drop_thing (fun vs H Q E h => ?_) (fun cdv A outer s H vs Q E hr h => ?_)
  · obtain ⟨p, W, l, rfl, hw, k⟩ := h
    rfl
  · obtain ⟨p, W, l, rfl, hw, k⟩ := h
    refine ⟨_, Bx.un (bpss_cons (bps_expr (bpe_mx (bpv 0) T.o_Web T.Web_check_thing G_Web_check_thing hr pass1 (bpa_cons (bpv 1) bpa_nil)))
      (bpss_cons (bps_if (bpw_or (bpt_truth (bpe_mx (bpv 0) T.o_Web T.Web_out_of G_Web_out_of hr pass1 (bpa_cons (bpv 1) bpa_nil))) (bpw_or1 (bpt_truth (bpe_mx (bpv 0) T.o_Web T.Web_into G_Web_into hr pass1 (bpa_cons (bpv 1) bpa_nil))))).bpt
      (bpss_one (bps_raise (T.xc_StillTied) raises1 rfl bpe_str))
      bpss_nil)
      (bpss_one (bps_expr (bpe_dpop1 (bpe_fldA (bpv 0)) (bpv 1)))))), ?_⟩
    walk_at "rd"
    refine ⟨_, _, hw.obj, rfl, p, W, l, rfl, hw, ?_⟩
    unfold WA.dropThing at k
    rw [names_abs] at k
    by_cases h : l ∈ W.vals.map (·.1)
    · rw [if_neg (fun z => z h)] at k
      rw [if_pos h]
      refine ⟨_, _, hw.obj, rfl, p, W, l, rfl, hw, ?_⟩
      rw [if_pos h]
      intro a1 H1 ha1 s1 hl1
      refine ⟨_, .inl ⟨_, SqL.of hl1, rfl⟩, ?_⟩
      by_cases e1 : W.abs.at_ Tie.start l = []
      · rw [e1]
        have w1 := hw.same s1
        refine iteF ⟨_, _, w1.obj, rfl, p, W, l, rfl, w1, ?_⟩
        rw [if_pos h]
        intro a2 H2 ha2 s2 hl2
        refine ⟨_, .inl ⟨_, SqL.of hl2, rfl⟩, ?_⟩
        by_cases e2 : W.abs.at_ Tie.stop l = []
        · rw [e2]
          rw [if_neg (by rw [e1, e2]; simp)] at k
          have w2 := w1.same s2
          have ks : (valV (kvVals W.vals) (.inr (tx l))).isSome = true := by
            rw [vals_isSome, decide_eq_true h]
          obtain ⟨v, hv⟩ := Option.isSome_iff_exists.mp ks
          refine iteF ⟨_, _, _, w2.obj, T.o_Web, T.na_kept_values, _, rfl, _, rfl, .inl ⟨_, .inl w2.val⟩, _, w2.val, .inr (tx l), rfl, _, hv, ?_⟩
          obtain ⟨w3, st⟩ := w2.dropped (l := l)
          refine k _ _ w3 ?_ ((Step.same (s1.trans s2)).trans st)
          unfold WS.abs
          simp only [List.filter_map]
          rfl
        · rw [if_pos (.inr e2)] at k
          have : (!(List.map V.int (W.abs.at_ Tie.stop l)).isEmpty) = true := by
            cases q : W.abs.at_ Tie.stop l with
            | nil => exact absurd q e2
            | cons _ _ => rfl
          rw [this]
          exact iteT (k _ (s1.trans s2))
      · rw [if_pos (.inl e1)] at k
        have : (!(List.map V.int (W.abs.at_ Tie.start l)).isEmpty) = true := by
          cases q : W.abs.at_ Tie.start l with
          | nil => exact absurd q e1
          | cons _ _ => rfl
        rw [this]
        exact iteT (k _ s1)
    · rw [if_pos h] at k
      rw [if_neg h]
      exact k H (Same.refl _)
theorem sc_Web_things : FnScope ["self"] ["self"] (defScope s_Web_things) := ⟨rfl, rfl, rfl, by decide +kernel, rfl, by decide +kernel, by decide +kernel⟩
theorem ok_Web_things (T : Txt w K mg t) : FnOk P w K mg base (CX1 P w) 1 t.a_Web_things t.d_Web_things ["self"] (sp_Web_things t) := by
  refine T.Web_things.fn.okN sc_Web_things (fun vs H Q E h => ?_) (fun cdv A outer s H vs Q E hr h => ?_)
  · obtain ⟨p, W, rfl, hw, k⟩ := h
    rfl
  · obtain ⟨p, W, rfl, hw, k⟩ := h
    refine ⟨_, Bx.un (bpss_one (bps_ret (bpe_callTy (call_list_dict rfl) (by rfl) T.b_list PyProof.Rows.boot_list (bpa_cons (bpe_fldA (bpv 0)) bpa_nil)))), ?_⟩
    walk_at "rd"
    refine ⟨_, _, _, hw.obj, T.o_Web, T.na_kept_values, _, rfl, _, rfl, _, .inl hw.val, fun a ha => ?_⟩
    have e : (kvVals W.vals).map (fun kv => kV kv.1) = (W.vals.map (·.1)).map fun z => V.str (tx z) := by
      unfold kvVals
      rw [List.map_map, List.map_map]
      rfl
    rw [e]
    exact k a ha
theorem sc_few_figures : FnScope ["number"] ["number"] (defScope s_few_figures) := ⟨rfl, rfl, rfl, by decide +kernel, rfl, by decide +kernel, by decide +kernel⟩
theorem ok_few_figures (T : Txt w K mg t) : FnOk P w K mg base (CX1 P w) 1 t.a_few_figures t.d_few_figures ["number"] (sp_few_figures) := by
  refine T.few_figures.fn.okN sc_few_figures (fun vs H Q E h => ?_) (fun cdv A outer s H vs Q E hr h => ?_)
  · obtain ⟨n, rfl, k⟩ := h
    rfl
  · obtain ⟨n, rfl, k⟩ := h
    refine ⟨_, Bx.un (bpss_one (bps_ret (bpe_cmpR op_lt (bpe_callB call_abs (by rfl) T.b_abs PyProof.Rows.boot_abs (bpa_cons (bpv 0) bpa_nil)) (bpe_op op_pow bpe_int bpe_int) (nomark _)))), ?_⟩
    walk_at "rd"
    have big : (10 : Nat) ^ 60 = 1000000000000000000000000000000000000000000000000000000000000 := by decide
    have e : decide ((if n < 0 then -n else n) < (1000000000000000000000000000000000000000000000000000000000000 : Int)) = decide (n.natAbs < 10 ^ 60) := by
      rw [decide_eq_decide, big]
      split <;> omega
    rw [e]
    exact ⟨by decide, k⟩
theorem sc_check_number : FnScope ["number"] ["number"] (defScope s_check_number) := ⟨rfl, rfl, rfl, by decide +kernel, rfl, by decide +kernel, by decide +kernel⟩
theorem ok_check_number (T : Txt w K mg t) : FnOk P w K mg base (CX1 P w) 2 t.a_check_number t.d_check_number ["number"] (sp_check_number t) := by
  have G_few_figures := (ok_few_figures (P := P) (w := w) (base := base) T).mono (show 1 ≤ 1 by decide)
  refine T.check_number.fn.okX sc_check_number (fun vs H Q E h => ?_) (fun cdv A outer s H vs Q E hr h => ?_)
  · obtain ⟨n, rfl, k⟩ := h
    rfl
  · obtain ⟨n, rfl, k⟩ := h
    refine ⟨_, Bx.un (bpss_one (bps_if (bpt_not (bpt_val (bpe_fnx T.few_figures G_few_figures hr pass1 (bpa_cons (bpv 0) bpa_nil))))
      (bpss_one (bps_raise (T.xc_NoNumber) raises1 rfl bpe_str))
      bpss_nil)), ?_⟩
    walk_at "rd"
    refine ⟨n, rfl, _, rfl, ?_⟩
    by_cases h : n.natAbs < 10 ^ 60
    · rw [if_pos h] at k
      exact ite_F (by rw [decide_eq_true h]; decide) k
    · rw [if_neg h] at k
      exact ite_T (decide_eq_false h) k
theorem sc_Web_check_tie : FnScope ["self", "number"] ["self", "number"] (defScope s_Web_check_tie) := ⟨rfl, rfl, rfl, by decide +kernel, rfl, by decide +kernel, by decide +kernel⟩
theorem ok_Web_check_tie (T : Txt w K mg t) : FnOk P w K mg base (CX1 P w) 1 t.a_Web_check_tie t.d_Web_check_tie ["self", "number"] (sp_Web_check_tie t) := by
  refine T.Web_check_tie.fn.okX sc_Web_check_tie (fun vs H Q E h => ?_) (fun cdv A outer s H vs Q E hr h => ?_)
  · obtain ⟨p, W, n, rfl, hw, k⟩ := h
    rfl
  · obtain ⟨p, W, n, rfl, hw, k⟩ := h
    refine ⟨_, Bx.un (bpss_one (bps_if (bpt_cmp (bpc_dnotin (hu_of hr) (bpv 1) (bpe_fldA (bpv 0))))
      (bpss_one (bps_raise (T.xc_NoTie) raises1 rfl bpe_str))
      bpss_nil)), ?_⟩
    walk_at "rd"
    refine ⟨_, _, _, hw.obj, T.o_Web, T.na_kept_ties, _, rfl, _, rfl, _, DGet.k (k := .inl n) hw.tie, ?_⟩
    rw [ties_isSome]
    by_cases h : n ∈ W.ties.map (·.1)
    · rw [if_pos h] at k
      rw [decide_eq_true h]
      exact k
    · rw [if_neg h] at k
      rw [decide_eq_false h]
      exact k
theorem sc_Web_cut_tie : FnScope ["self", "number"] ["self", "number"] (defScope s_Web_cut_tie) := ⟨rfl, rfl, rfl, by decide +kernel, rfl, by decide +kernel, by decide +kernel⟩
theorem ok_Web_cut_tie (T : Txt w K mg t) : FnOk P w K mg base (CX1 P w) 2 t.a_Web_cut_tie t.d_Web_cut_tie ["self", "number"] (sp_Web_cut_tie t) := by
  have G_Web_check_tie := (ok_Web_check_tie (P := P) (w := w) (base := base) T).mono (show 1 ≤ 1 by decide)
  refine T.Web_cut_tie.fn.okX sc_Web_cut_tie (fun vs H Q E h => ?_) (fun cdv A outer s H vs Q E hr h => ?_)
  · obtain ⟨p, W, n, rfl, hw, k⟩ := h
    rfl
  · obtain ⟨p, W, n, rfl, hw, k⟩ := h
    refine ⟨_, Bx.un (bpss_cons (bps_expr (bpe_mx (bpv 0) T.o_Web T.Web_check_tie G_Web_check_tie hr pass1 (bpa_cons (bpv 1) bpa_nil)))
      (bpss_one (bps_expr (bpe_dpop1 (bpe_fldA (bpv 0)) (bpv 1))))), ?_⟩
    walk_at "rd"
    refine ⟨_, _, hw.obj, rfl, p, W, n, rfl, hw, ?_⟩
    have ea : W.abs.ties.map (·.1) = W.ties.map (·.1) := by
      unfold WS.abs
      rw [List.map_map]
      rfl
    unfold WA.cutTie at k
    rw [ea] at k
    by_cases h : n ∈ W.ties.map (·.1)
    · rw [if_neg (fun z => z h)] at k
      rw [if_pos h]
      have ks : (valV (kvTies W.ties) (.inl n)).isSome = true := by
        rw [ties_isSome, decide_eq_true h]
      obtain ⟨v, hv⟩ := Option.isSome_iff_exists.mp ks
      refine ⟨_, _, _, hw.obj, T.o_Web, T.na_kept_ties, _, rfl, _, rfl, .inl ⟨_, .inl hw.tie⟩, _, hw.tie, .inl n, rfl, _, hv, ?_⟩
      obtain ⟨w3, st⟩ := hw.cut (n := n)
      refine k _ _ w3 ?_ st
      unfold WS.abs
      simp only [List.filter_map]
      rfl
    · rw [if_pos h] at k
      rw [if_neg h]
      exact k H (Same.refl _)
theorem sc_Web_add_tie : FnScope ["self", "start", "name", "end", "weight", "number"] ["self", "start", "name", "end", "weight"] (defScope s_Web_add_tie) := ⟨rfl, rfl, rfl, by decide +kernel, rfl, by decide +kernel, by decide +kernel⟩
theorem ok_Web_add_tie (T : Txt w K mg t) : FnOk P w K mg base (CX1 P w) 3 t.a_Web_add_tie t.d_Web_add_tie ["self", "start", "name", "end", "weight"] (sp_Web_add_tie t) := by
  have G_Web_check_thing := (ok_Web_check_thing (P := P) (w := w) (base := base) T).mono (show 1 ≤ 2 by decide)
  have G_check_name := (ok_check_name (P := P) (w := w) (base := base) T).mono (show 2 ≤ 2 by decide)
  have G_check_number := (ok_check_number (P := P) (w := w) (base := base) T).mono (show 2 ≤ 2 by decide)
  refine T.Web_add_tie.fn.okX sc_Web_add_tie (fun vs H Q E h => ?_) (fun cdv A outer s H vs Q E hr h => ?_)
  · obtain ⟨p, W, s, n, e, wt, rfl, hw, low, hz, k⟩ := h
    rfl
  · obtain ⟨p, W, s, n, e, wt, rfl, hw, low, hz, k⟩ := h
    refine ⟨_, Bx.un (bpss_cons (bps_expr (bpe_mx (bpv 0) T.o_Web T.Web_check_thing G_Web_check_thing hr pass1 (bpa_cons (bpv 1) bpa_nil)))
      (bpss_cons (bps_expr (bpe_mx (bpv 0) T.o_Web T.Web_check_thing G_Web_check_thing hr pass1 (bpa_cons (bpv 3) bpa_nil)))
      (bpss_cons (bps_expr (bpe_fnx T.check_name G_check_name hr pass1 (bpa_cons (bpv 2) bpa_nil)))
      (bpss_cons (bps_expr (bpe_fnx T.check_number G_check_number hr pass1 (bpa_cons (bpv 4) bpa_nil)))
      (bpss_cons (bps_if (bpt_cmpR op_ge (bpe_callB call_lenD (by rfl) T.b_len PySem.boot_len (bpa_cons (bpe_fldA (bpv 0)) bpa_nil)) (bpe_const T.c_MOST_TIES) (nomark _))
      (bpss_one (bps_raise (T.xc_Full) raises1 rfl bpe_str))
      bpss_nil)
      (bpss_cons (bps_set (i := 5) sc_Web_add_tie.nd rfl (by first | exact Or.inl rfl | exact Or.inr rfl) (bpe_fldA (bpv 0)))
      (bpss_cons (bps_dput (hu_of hr) (bpe_fldA (bpv 0)) (bpv 5) (bpe_tup (bpa_cons (bpv 1) (bpa_cons (bpv 2) (bpa_cons (bpv 3) (bpa_cons (bpv 4) bpa_nil))))))
      (bpss_cons (bps_fld (bpv 0) (bpe_op op_add (bpv 5) bpe_int))
      (bpss_one (bps_ret (bpv 5))))))))))), ?_⟩
    walk_at "rd"
    unfold WA.addTie at k
    rw [names_abs] at k
    refine ⟨_, _, hw.obj, rfl, p, W, s, rfl, hw, ?_⟩
    by_cases hs : s ∈ W.vals.map (·.1)
    · rw [if_pos hs]
      refine ⟨_, _, hw.obj, rfl, p, W, e, rfl, hw, ?_⟩
      by_cases he : e ∈ W.vals.map (·.1)
      · rw [if_pos he]
        rw [if_neg (fun z => z.elim (fun y => y hs) (fun y => y he))] at k
        refine ⟨n, rfl, hz, fun H1 s1 => ?_⟩
        cases hg : goodC n with
        | false =>
          rw [if_pos hg] at k
          exact k H1 s1
        | true =>
          rw [if_neg (by rw [hg]; simp)] at k
          rw [if_neg (by simp)]
          refine ⟨wt, rfl, ?_⟩
          by_cases hn : wt.natAbs < 10 ^ 60
          · rw [if_neg (by omega)] at k
            rw [if_pos hn]
            have w1 := hw.same s1
            have el : W.abs.ties.length = W.ties.length := by
              unfold WS.abs
              rw [List.length_map]
            have el2 : (kvTies W.ties).length = W.ties.length := by
              unfold kvTies
              rw [List.length_map]
            rw [el] at k
            refine ⟨_, _, _, w1.obj, T.o_Web, T.na_kept_ties, _, rfl, _, rfl, _, w1.tie, ?_⟩
            rw [el2]
            by_cases h400 : 400 ≤ W.ties.length
            · rw [if_pos h400] at k
              exact ite_T (by omega) (k H1 s1)
            · rw [if_neg h400] at k
              refine ite_F (by omega) ⟨_, _, _, w1.obj, T.o_Web, T.na_coming_number, _, rfl, ?_⟩
              refine ⟨by decide, fun a ha => ?_⟩
              have np : p ≠ a := ne_of_none w1.obj ha
              have nt : W.dt ≠ a := ne_of_none w1.tie ha
              have hl : W.next ∉ W.ties.map (·.1) := fun z => by
                have := low _ z
                omega
              obtain ⟨w2, st⟩ := w1.tied (t := ⟨s, n, e, wt⟩) ha hl (by omega)
              refine ⟨_, _, _, by rw [upd_ne np]; exact w1.obj, T.o_Web, T.na_kept_ties, _, rfl, _, rfl, _, DPut.k (k := .inl W.next) (by rw [upd_ne nt]; exact w1.tie) (by rw [el2]; exact Nat.lt_of_lt_of_le (show W.ties.length < 400 by omega) (sz_of (by decide))), _, rfl, _, _, _, by rw [upd_ne w1.pdt.symm, upd_ne np]; exact w1.obj, T.o_Web, T.na_coming_number, by show 3 < 1000; decide, ?_⟩
              rw [putF_next]
              refine k _ _ w2 ?_ ((Step.same s1).trans st)
              unfold WS.abs
              simp only [List.map_append, List.map_cons, List.map_nil]
          · rw [if_pos (by omega)] at k
            rw [if_neg hn]
            exact k H1 s1
      · rw [if_neg he]
        rw [if_pos (.inr he)] at k
        exact k H (Same.refl _)
    · rw [if_neg hs]
      rw [if_pos (.inl hs)] at k
      exact k H (Same.refl _)
theorem sc_Web_ties : FnScope ["self"] ["self"] (defScope s_Web_ties) := ⟨rfl, rfl, rfl, by decide +kernel, rfl, by decide +kernel, by decide +kernel⟩
theorem ok_Web_ties (T : Txt w K mg t) : FnOk P w K mg base (CX1 P w) 1 t.a_Web_ties t.d_Web_ties ["self"] (sp_Web_ties t) := by
  refine T.Web_ties.fn.okN sc_Web_ties (fun vs H Q E h => ?_) (fun cdv A outer s H vs Q E hr h => ?_)
  · obtain ⟨p, W, rfl, hw, k⟩ := h
    rfl
  · obtain ⟨p, W, rfl, hw, k⟩ := h
    refine ⟨_, Bx.un (bpss_one (bps_ret (bpe_callTy (call_list_dict rfl) (by rfl) T.b_list PyProof.Rows.boot_list (bpa_cons (bpe_fldA (bpv 0)) bpa_nil)))), ?_⟩
    walk_at "rd"
    refine ⟨_, _, _, hw.obj, T.o_Web, T.na_kept_ties, _, rfl, _, rfl, _, .inl hw.tie, fun a ha => ?_⟩
    have e : (kvTies W.ties).map (fun kv => kV kv.1) = (W.ties.map (·.1)).map V.int := by
      unfold kvTies
      rw [List.map_map, List.map_map]
      rfl
    rw [e]
    exact k a ha
theorem sc_Web_tie : FnScope ["self", "number"] ["self", "number"] (defScope s_Web_tie) := ⟨rfl, rfl, rfl, by decide +kernel, rfl, by decide +kernel, by decide +kernel⟩
theorem ok_Web_tie (T : Txt w K mg t) : FnOk P w K mg base (CX1 P w) 2 t.a_Web_tie t.d_Web_tie ["self", "number"] (sp_Web_tie t) := by
  have G_Web_check_tie := (ok_Web_check_tie (P := P) (w := w) (base := base) T).mono (show 1 ≤ 1 by decide)
  refine T.Web_tie.fn.okX sc_Web_tie (fun vs H Q E h => ?_) (fun cdv A outer s H vs Q E hr h => ?_)
  · obtain ⟨p, W, n, rfl, hw, k⟩ := h
    rfl
  · obtain ⟨p, W, n, rfl, hw, k⟩ := h
    refine ⟨_, Bx.un (bpss_cons (bps_expr (bpe_mx (bpv 0) T.o_Web T.Web_check_tie G_Web_check_tie hr pass1 (bpa_cons (bpv 1) bpa_nil)))
      (bpss_one (bps_ret (bpe_dgetA (hu_of hr) (bpe_fldA (bpv 0)) (bpv 1))))), ?_⟩
    walk_at "rd"
    refine ⟨_, _, hw.obj, rfl, p, W, n, rfl, hw, ?_⟩
    by_cases h : n ∈ W.ties.map (·.1)
    · rw [if_pos h] at k ⊢
      obtain ⟨⟨n', a, tie⟩, hx, e⟩ := List.mem_map.mp h
      have e' : n' = n := e
      subst e'
      exact ⟨_, _, _, hw.obj, T.o_Web, T.na_kept_ties, _, rfl, _, rfl, _, get_tie (.inl hw.tie) hw.nums hx, k a tie hx⟩
    · rw [if_neg h] at k ⊢
      exact k
theorem sc_Web_set_value : FnScope ["self", "name", "key", "number"] ["self", "name", "key", "number"] (defScope s_Web_set_value) := ⟨rfl, rfl, rfl, by decide +kernel, rfl, by decide +kernel, by decide +kernel⟩
theorem ok_Web_set_value (T : Txt w K mg t) : FnOk P w K mg base (CX1 P w) 3 t.a_Web_set_value t.d_Web_set_value ["self", "name", "key", "number"] (sp_Web_set_value t) := by
  have G_Web_check_thing := (ok_Web_check_thing (P := P) (w := w) (base := base) T).mono (show 1 ≤ 2 by decide)
  have G_check_name := (ok_check_name (P := P) (w := w) (base := base) T).mono (show 2 ≤ 2 by decide)
  have G_check_number := (ok_check_number (P := P) (w := w) (base := base) T).mono (show 2 ≤ 2 by decide)
  refine T.Web_set_value.fn.okX sc_Web_set_value (fun vs H Q E h => ?_) (fun cdv A outer s H vs Q E hr h => ?_)
  · obtain ⟨p, W, n, k, v, rfl, hw, hz, few, kk⟩ := h
    rfl
  · obtain ⟨p, W, n, k, v, rfl, hw, hz, few, kk⟩ := h
    refine ⟨_, Bx.un (bpss_cons (bps_expr (bpe_mx (bpv 0) T.o_Web T.Web_check_thing G_Web_check_thing hr pass1 (bpa_cons (bpv 1) bpa_nil)))
      (bpss_cons (bps_expr (bpe_fnx T.check_name G_check_name hr pass1 (bpa_cons (bpv 2) bpa_nil)))
      (bpss_cons (bps_expr (bpe_fnx T.check_number G_check_number hr pass1 (bpa_cons (bpv 3) bpa_nil)))
      (bpss_one (bps_dput (hu_of hr) (bpe_dgetA (hu_of hr) (bpe_fldA (bpv 0)) (bpv 1)) (bpv 2) (bpv 3)))))), ?_⟩
    walk_at "rs"
    refine seq_rule fun N hN => ?_
    walk_at "rd"
    refine ⟨_, _, hw.obj, rfl, p, W, n, rfl, hw, ?_⟩
    unfold WA.setValue at kk
    cases q : W.abs.look n with
    | none =>
      rw [q] at kk
      rw [if_neg (by rw [← names_abs]; exact look_none.mp q)]
      exact kk H (Same.refl _)
    | some m =>
      rw [q] at kk
      dsimp only at kk
      obtain ⟨x, hx, rfl, rfl, fx⟩ := look_find q
      rw [if_pos (List.mem_map.mpr ⟨x, hx, rfl⟩)]
      refine hN _ _ ?_
      clear hN N
      refine seq_rule fun N hN => ?_
      walk_at "rd"
      refine ⟨k, rfl, hz, fun H1 s1 => ?_⟩
      cases hg : goodC k with
      | false =>
        rw [if_pos hg] at kk
        rw [if_pos rfl]
        exact kk H1 s1
      | true =>
        rw [if_neg (by rw [hg]; simp)] at kk
        rw [if_neg (by simp)]
        refine hN _ _ ?_
        clear hN N
        have w1 := hw.same s1
        refine seq_rule fun N hN => ?_
        walk_at "rd"
        refine ⟨v, rfl, ?_⟩
        by_cases hb : v.natAbs < 10 ^ 60
        · rw [if_neg (by omega)] at kk
          rw [if_pos hb]
          refine hN _ _ ?_
          clear hN N
          walk_at "rd"
          have gx : DGet H1 W.dv (.str (tx x.1)) (some (.ref x.2.1)) := by
            have := DGet.k (k := .inr (tx x.1)) w1.val
            rw [valV_vals, fx] at this
            exact this
          obtain ⟨w2, st⟩ := w1.setv (m := putN x.2.2 k v) hx
          refine ⟨_, _, _, w1.obj, T.o_Web, T.na_kept_values, _, rfl, _, rfl, _, gx, _, rfl, _, DPut.k (k := .inr (tx k)) (w1.each x hx) ?_, ?_⟩
          · unfold kvNums
            rw [List.length_map]
            exact Nat.lt_of_lt_of_le (few x hx) (sz_of (by decide))
          · rw [putK_nums]
            exact kk _ _ w2 (WS.setv_abs _ _ _) ((Step.same s1).trans st)
        · rw [if_pos (by omega)] at kk
          rw [if_neg hb]
          exact kk H1 s1
theorem sc_Web_take_value : FnScope ["self", "name", "key"] ["self", "name", "key"] (defScope s_Web_take_value) := ⟨rfl, rfl, rfl, by decide +kernel, rfl, by decide +kernel, by decide +kernel⟩
theorem ok_Web_take_value (T : Txt w K mg t) : FnOk P w K mg base (CX1 P w) 2 t.a_Web_take_value t.d_Web_take_value ["self", "name", "key"] (sp_Web_take_value t) := by
  have G_Web_check_thing := (ok_Web_check_thing (P := P) (w := w) (base := base) T).mono (show 1 ≤ 1 by decide)
  refine T.Web_take_value.fn.okX sc_Web_take_value (fun vs H Q E h => ?_) (fun cdv A outer s H vs Q E hr h => ?_)
  · obtain ⟨p, W, n, k, rfl, hw, kk⟩ := h
    rfl
  · obtain ⟨p, W, n, k, rfl, hw, kk⟩ := h
    refine ⟨_, Bx.un (bpss_cons (bps_expr (bpe_mx (bpv 0) T.o_Web T.Web_check_thing G_Web_check_thing hr pass1 (bpa_cons (bpv 1) bpa_nil)))
      (bpss_cons (bps_if (bpt_cmp (bpc_dnotin (hu_of hr) (bpv 2) (bpe_dgetA (hu_of hr) (bpe_fldA (bpv 0)) (bpv 1))))
      (bpss_one (bps_raise (T.xc_NoKey) raises1 rfl bpe_str))
      bpss_nil)
      (bpss_one (bps_expr (bpe_dpop1 (bpe_dgetA (hu_of hr) (bpe_fldA (bpv 0)) (bpv 1)) (bpv 2)))))), ?_⟩
    walk_at "rs"
    refine seq_rule fun N hN => ?_
    walk_at "rd"
    refine ⟨_, _, hw.obj, rfl, p, W, n, rfl, hw, ?_⟩
    unfold WA.takeValue at kk
    cases q : W.abs.look n with
    | none =>
      rw [q] at kk
      rw [if_neg (by rw [← names_abs]; exact look_none.mp q)]
      exact kk H (Same.refl _)
    | some m =>
      rw [q] at kk
      dsimp only at kk
      obtain ⟨x, hx, rfl, rfl, fx⟩ := look_find q
      rw [if_pos (List.mem_map.mpr ⟨x, hx, rfl⟩)]
      refine hN _ _ ?_
      clear hN N
      have gx : DGet H W.dv (.str (tx x.1)) (some (.ref x.2.1)) := by
        have := DGet.k (k := .inr (tx x.1)) hw.val
        rw [valV_vals, fx] at this
        exact this
      refine seq_rule fun N hN => ?_
      walk_at "rd"
      refine ⟨_, _, _, hw.obj, T.o_Web, T.na_kept_values, _, rfl, _, rfl, _, gx, _, rfl, _, DGet.k (k := .inr (tx k)) (hw.each x hx), ?_⟩
      rw [nums_isSome]
      by_cases h : k ∈ x.2.2.map (·.1)
      · rw [if_neg (fun z => z h)] at kk
        rw [decide_eq_true h]
        refine ite_F (by decide) (hN _ _ ?_)
        clear hN N
        have ks : (valV (kvNums x.2.2) (.inr (tx k))).isSome = true := by rw [nums_isSome, decide_eq_true h]
        obtain ⟨v, hv⟩ := Option.isSome_iff_exists.mp ks
        walk_at "rd"
        obtain ⟨w2, st⟩ := hw.setv (m := dropN x.2.2 k) hx
        refine ⟨_, _, _, hw.obj, T.o_Web, T.na_kept_values, _, rfl, _, rfl, _, gx, _, rfl, .inl ⟨_, .inl (hw.each x hx)⟩, _, hw.each x hx, .inr (tx k), rfl, v, hv, ?_⟩
        rw [dropK_nums]
        exact kk _ _ w2 (WS.setv_abs _ _ _) st
      · rw [if_pos h] at kk
        rw [decide_eq_false h]
        exact ite_T rfl (kk H (Same.refl _))
theorem sc_Web_values_of : FnScope ["self", "name"] ["self", "name"] (defScope s_Web_values_of) := ⟨rfl, rfl, rfl, by decide +kernel, rfl, by decide +kernel, by decide +kernel⟩
theorem ok_Web_values_of (T : Txt w K mg t) : FnOk P w K mg base (CX1 P w) 2 t.a_Web_values_of t.d_Web_values_of ["self", "name"] (sp_Web_values_of t) := by
  have G_Web_check_thing := (ok_Web_check_thing (P := P) (w := w) (base := base) T).mono (show 1 ≤ 1 by decide)
  refine T.Web_values_of.fn.okX sc_Web_values_of (fun vs H Q E h => ?_) (fun cdv A outer s H vs Q E hr h => ?_)
  · obtain ⟨p, W, n, rfl, hw, kk⟩ := h
    rfl
  · obtain ⟨p, W, n, rfl, hw, kk⟩ := h
    refine ⟨_, Bx.un (bpss_cons (bps_expr (bpe_mx (bpv 0) T.o_Web T.Web_check_thing G_Web_check_thing hr pass1 (bpa_cons (bpv 1) bpa_nil)))
      (bpss_one (bps_ret (bpe_sortI rfl (by rfl) T.b_sorted (bpe_dgetA (hu_of hr) (bpe_fldA (bpv 0)) (bpv 1)))))), ?_⟩
    walk_at "rs"
    refine seq_rule fun N hN => ?_
    walk_at "rd"
    refine ⟨_, _, hw.obj, rfl, p, W, n, rfl, hw, ?_⟩
    cases q : W.abs.look n with
    | none =>
      rw [q] at kk
      rw [if_neg (by rw [← names_abs]; exact look_none.mp q)]
      exact kk
    | some m =>
      rw [q] at kk
      dsimp only at kk
      obtain ⟨x, hx, rfl, rfl, fx⟩ := look_find q
      rw [if_pos (List.mem_map.mpr ⟨x, hx, rfl⟩)]
      refine hN _ _ ?_
      clear hN N
      have gx : DGet H W.dv (.str (tx x.1)) (some (.ref x.2.1)) := by
        have := DGet.k (k := .inr (tx x.1)) hw.val
        rw [valV_vals, fx] at this
        exact this
      obtain ⟨h64, nd, kk⟩ := kk
      walk_at "rd"
      exact ⟨_, rfl, _, _, _, _, _, rfl, hw.obj, T.o_Web, T.na_kept_values, rfl, _, rfl, _, _, rfl, gx, x.2.1, x.2.2, rfl, .inl (hw.each x hx), h64, nd, kk⟩
theorem sc_Web_twin : FnScope ["self", "other"] ["self"] (defScope s_Web_twin) := ⟨rfl, rfl, rfl, by decide +kernel, rfl, by decide +kernel, by decide +kernel⟩
theorem ok_Web_twin (T : Txt w K mg t) : FnOk P w K mg base (CX1 P w) 3 t.a_Web_twin t.d_Web_twin ["self"] (sp_Web_twin t) := by
  have G_Web_init := (ok_Web_init (P := P) (w := w) (base := base) T).mono (show 1 ≤ 1 by decide)
  refine T.Web_twin.fn.okN sc_Web_twin (fun vs H Q E h => ?_) (fun cdv A outer s H vs Q E hr h => ?_)
  · obtain ⟨p, W, rfl, hw, k⟩ := h
    rfl
  · obtain ⟨p, W, rfl, hw, k⟩ := h
    refine ⟨_, Bx.un (bpss_cons (bps_set (i := 1) sc_Web_twin.nd rfl (by first | exact Or.inl rfl | exact Or.inr rfl) (bpe_make0 T.mk_Web G_Web_init hr (by rfl) T.g_Web T.Web_init.b .nil pass0'))
      (bpss_cons (bps_fld (bpv 1) (bpe_callTy (call_dict_pairs rfl) (by rfl) T.b_dict PyProof.Rows.boot_dict (bpa_cons (bpe_compD rfl (N := ["name", "self"]) (fr := [0]) (CSc.of (by kernel_rfl)) (bpe_fldA (bpv 0)) (fun _ _ _ _ _ => bpts_nil)
        (fun _ _ _ _ _ => (bpe_tup (bpa_cons (bpv 0) (bpa_cons (bpe_callTy call_dict_dict (by rfl) T.b_dict PyProof.Rows.boot_dict (bpa_cons (bpe_dgetA (hu_of hr) (bpe_fldK K (bpv 1)) (bpv 0)) bpa_nil)) bpa_nil))))) bpa_nil)))
      (bpss_cons (bps_fld (bpv 1) (bpe_callTy call_dict_dict (by rfl) T.b_dict PyProof.Rows.boot_dict (bpa_cons (bpe_fldA (bpv 0)) bpa_nil)))
      (bpss_cons (bps_fld (bpv 1) (bpe_fldA (bpv 0)))
      (bpss_one (bps_ret (bpv 1))))))), ?_⟩
    walk_at "rs"
    refine seq_rule fun N hN => ?_
    walk_at "rd"
    intro q dx hq hdx hne
    refine ⟨q, dx, rfl, upd_same, fun H1 W0 w0 e1 e2 e3 off own => ⟨rfl, hN _ _ ?_⟩⟩
    clear hN N
    have mi1 : Mine H H1 (W0.own q) := web_new hq hdx off own
    have hw1 := hw.same mi1.same
    have nqp : ∀ b ∈ W.own p, b ≠ q := fun b hb z => by
      obtain ⟨o, e, _⟩ := hw.own_some hb
      rw [z, hq] at e
      cases e
    clear off own hne hdx dx
    have szV : (kvVals W.vals).length ≤ 100 := by unfold kvVals; rw [List.length_map]; exact hw.few
    refine seq_rule fun N hN => ?_
    walk_at "rd"
    refine comp_dict_inv (d := W.dv) (kvs := kvVals W.vals) (fun R hR => ⟨_, rfl, _, _, _, _, _, rfl, hw1.obj, T.o_Web, T.na_kept_values, rfl, hR⟩) hw1.val (sz_of (by omega))
      (CopyP H1 W.vals) (fun _ _ _ _ => CopyP.stay) (fun _ => CopyP.nil) (fun _ _ _ => CopyP.len) ?_ ?_
    · intro i k' ys H2 Q2 hk off rd frz cp h
      unfold kvVals at hk
      rw [List.map_map] at hk
      obtain ⟨x, hx, rfl⟩ := map_get hk
      have xm := List.mem_of_getElem? hx
      have pd : p ≠ W.dv := fun z => by
        have := hw1.obj
        rw [z, hw1.val] at this
        cases this
      have xd : x.2.1 ≠ W.dv := fun z => by
        have := (List.nodup_cons.mp hw1.nd).1
        exact this (List.mem_cons_of_mem _ (by rw [← z]; exact List.mem_map.mpr ⟨x, xm, rfl⟩))
      walk_at "rd"
      refine ⟨_, _, _, off _ _ pd hw1.obj, T.o_Web, T.na_kept_values, _, rfl, _, rfl, .ref x.2.1, ?_, _, rfl, _, .inl (off _ _ xd (hw1.each x xm)), fun l hl => ⟨by decide, fun p3 hp3 => ?_⟩⟩
      · refine .inl ⟨_, _, rd, rfl, ?_⟩
        show some (V.ref x.2.1) = valV (kvVals W.vals) (.inr (tx x.1))
        rw [valV_vals]
        obtain ⟨y, e, hy, ey⟩ := find_some (f := fun y : Nm × Addr × List (Nm × Int) => y.1) (b := x.1) (l := W.vals) (List.mem_map.mpr ⟨x, xm, rfl⟩)
        rw [e, same_at hw1.names hy xm ey]
        rfl
      · have hl1 : H1 l = none := by
          cases q : H1 l with
          | none => rfl
          | some o =>
            by_cases z : l = W.dv
            · rcases rd with z2 | ⟨ob, z2⟩
              · rw [z, z2] at hl
                cases hl
              · rw [z, z2] at hl
                cases hl
            · rw [off _ _ z q] at hl
              cases hl
        obtain ⟨c2, s2⟩ := cp.more hx hl hl1 hp3
        exact h _ _ s2 c2
    · intro D H2 ys hD s2 d2 ⟨es, l1, l2, l3, l4, l5⟩
      have el : es.length = W.vals.length := by rw [l1]; unfold kvVals; rw [List.length_map]
      have pl : ((es.zip W.vals).map fun z => (z.1.1, (Sum.inr (tx z.2.1) : Key), V.ref z.1.2)).map (fun x => V.ref x.1) = es.map fun e => V.ref e.1 := by
        rw [List.map_map]
        clear l1 l2 l3 l4 l5
        revert el
        generalize W.vals = vs
        intro el
        induction es generalizing vs with
        | nil => rfl
        | cons e r ih =>
          cases vs with
          | nil => cases el
          | cons x r2 =>
            have := ih r2 (by simpa using el)
            simp only [List.zip_cons_cons, List.map_cons, Function.comp] at this ⊢
            rw [this]
      refine ⟨D, rfl, (es.zip W.vals).map fun z => (z.1.1, (Sum.inr (tx z.2.1) : Key), V.ref z.1.2), by rw [d2, l2, pl], fun x hx => ?_, by rw [List.length_map, List.length_zip]; have := hw.few; omega, fun d hd => ?_⟩
      · obtain ⟨z, hz, rfl⟩ := List.mem_map.mp hx
        obtain ⟨j, hj⟩ := List.mem_iff_getElem?.mp hz
        rw [List.getElem?_zip_eq_some] at hj
        exact (l3 j z.1 z.2 hj.1 hj.2).1
      have kvs : ((es.zip W.vals).map fun z => (z.1.1, (Sum.inr (tx z.2.1) : Key), V.ref z.1.2)).map (fun x => x.2) = kvVals (copyV es W.vals) := by
        unfold kvVals copyV
        rw [List.map_map, List.map_map]
        rfl
      have knd : ((kvVals (copyV es W.vals)).map (·.1)).Nodup := keys_nodup (by rw [copyV_names el]; exact hw.names)
      rw [kvs, merge_nodup knd]
      have qd : q ≠ d := fun z => by
        rw [← z, s2 _ _ w0.obj] at hd
        cases hd
      refine ⟨_, _, _, (upd_ne qd).trans (s2 _ _ w0.obj), T.o_Web, T.na_kept_values, by show 3 < 1000; decide, hN _ _ ?_⟩
      clear hN N
      rw [put1]
      have s02 : Same H H2 := mi1.same.trans s2
      have s3 : Same H (upd (upd H2 d (.dK (kvVals (copyV es W.vals)))) q (.ins t.c_Web W0.dx [("kept_values", V.ref d), ("kept_ties", V.ref W0.dt), ("coming_number", V.int W0.next)])) := (s02.upd_new (s02.free hd)).upd_new hq
      have o3 : upd (upd H2 d (.dK (kvVals (copyV es W.vals)))) q (.ins t.c_Web W0.dx [("kept_values", V.ref d), ("kept_ties", V.ref W0.dt), ("coming_number", V.int W0.next)]) q = some (.ins t.c_Web W0.dx [("kept_values", V.ref d), ("kept_ties", V.ref W0.dt), ("coming_number", V.int W0.next)]) := upd_same
      have d3 : upd (upd H2 d (.dK (kvVals (copyV es W.vals)))) q (.ins t.c_Web W0.dx [("kept_values", V.ref d), ("kept_ties", V.ref W0.dt), ("coming_number", V.int W0.next)]) d = some (.dK (kvVals (copyV es W.vals))) := (upd_ne qd.symm).trans upd_same
      have c3 : ∀ x ∈ copyV es W.vals, upd (upd H2 d (.dK (kvVals (copyV es W.vals)))) q (.ins t.c_Web W0.dx [("kept_values", V.ref d), ("kept_ties", V.ref W0.dt), ("coming_number", V.int W0.next)]) x.2.1 = some (.dK (kvNums x.2.2)) ∧ x.2.1 ≠ d ∧ x.2.1 ≠ q ∧ H x.2.1 = none := fun x hx => by
        obtain ⟨j, e, y, h1, h2, rfl⟩ := copyV_at hx
        have z := (l3 j e y h1 h2).2
        have zd : e.2 ≠ d := fun z2 => by
          rw [z2, hd] at z
          cases z
        have zq : e.2 ≠ q := fun z2 => by
          rw [z2, s2 _ _ w0.obj] at z
          cases z
        exact ⟨(upd_ne zq).trans ((upd_ne zd).trans z), zd, zq, mi1.fresh (l5 e (List.mem_of_getElem? h1))⟩
      have hd0 := s02.free hd
      clear l3 l2 l1 d2 hd hD kvs knd pl
      generalize upd (upd H2 d (.dK (kvVals (copyV es W.vals)))) q (.ins t.c_Web W0.dx [("kept_values", V.ref d), ("kept_ties", V.ref W0.dt), ("coming_number", V.int W0.next)]) = H3 at s3 o3 d3 c3
      have w3 := hw.same s3
      refine seq_rule fun N hN => ?_
      walk_at "rd"
      refine ⟨_, _, _, w3.obj, T.o_Web, T.na_kept_ties, _, rfl, _, rfl, _, .inl w3.tie, fun l hl => ?_⟩
      have ql : q ≠ l := fun z => by
        rw [← z, o3] at hl
        cases hl
      refine ⟨_, _, _, (upd_ne ql).trans o3, T.o_Web, T.na_kept_ties, by show 3 < 1000; decide, hN _ _ ?_⟩
      clear hN N
      rw [put2]
      have hl0 := s3.free hl
      have s4 : Same H (upd (upd H3 l (.dK (kvTies W.ties))) q (.ins t.c_Web W0.dx [("kept_values", V.ref d), ("kept_ties", V.ref l), ("coming_number", V.int W0.next)])) := (s3.upd_new hl0).upd_new hq
      have o4 : upd (upd H3 l (.dK (kvTies W.ties))) q (.ins t.c_Web W0.dx [("kept_values", V.ref d), ("kept_ties", V.ref l), ("coming_number", V.int W0.next)]) q = some (.ins t.c_Web W0.dx [("kept_values", V.ref d), ("kept_ties", V.ref l), ("coming_number", V.int W0.next)]) := upd_same
      have keep : ∀ b o, b ≠ q → H3 b = some o → upd (upd H3 l (.dK (kvTies W.ties))) q (.ins t.c_Web W0.dx [("kept_values", V.ref d), ("kept_ties", V.ref l), ("coming_number", V.int W0.next)]) b = some o := fun b o hb e => by
        rw [upd_ne hb, upd_ne (ne_of_none e hl)]
        exact e
      have l4 : upd (upd H3 l (.dK (kvTies W.ties))) q (.ins t.c_Web W0.dx [("kept_values", V.ref d), ("kept_ties", V.ref l), ("coming_number", V.int W0.next)]) l = some (.dK (kvTies W.ties)) := (upd_ne ql.symm).trans upd_same
      have dl : d ≠ l := ne_of_none d3 hl
      have cl : ∀ x ∈ copyV es W.vals, x.2.1 ≠ l := fun x hx => ne_of_none (c3 x hx).1 hl
      have d4 := keep _ _ qd.symm d3
      have c4 : ∀ x ∈ copyV es W.vals, _ := fun x hx => keep _ _ (c3 x hx).2.2.1 (c3 x hx).1
      clear keep
      generalize upd (upd H3 l (.dK (kvTies W.ties))) q (.ins t.c_Web W0.dx [("kept_values", V.ref d), ("kept_ties", V.ref l), ("coming_number", V.int W0.next)]) = H4 at s4 o4 l4 d4 c4
      have w4 := hw.same s4
      refine seq_rule fun N hN => ?_
      walk_at "rd"
      refine ⟨_, _, _, w4.obj, T.o_Web, T.na_coming_number, _, rfl, _, _, _, o4, T.o_Web, T.na_coming_number, by show 3 < 1000; decide, hN _ _ ?_⟩
      clear hN N
      rw [put3]
      walk_at "rd"
      refine k q _ ⟨W0.dx, d, l, copyV es W.vals, W.ties, W.next⟩ hq (s4.upd_new hq) ⟨upd_same, (upd_ne qd.symm).trans d4, (upd_ne ql.symm).trans l4, fun x hx => (upd_ne (c3 x hx).2.2.1).trans (c4 x hx), fun x hx => ?_, ?_, by show ((copyV es W.vals).map (·.1)).Nodup; rw [copyV_names el]; exact hw.names, hw.nums, ?_, hw.fewT⟩ ?_ fun b hb => ?_
      · have z := w4.tups x hx
        have zq : x.2.1 ≠ q := fun z2 => by
          rw [z2, o4] at z
          cases z
        exact (upd_ne zq).trans z
      · refine List.nodup_cons.mpr ⟨fun z => ?_, List.nodup_cons.mpr ⟨fun z => ?_, ?_⟩⟩
        · rcases List.mem_cons.mp z with z | z
          · exact dl z
          · obtain ⟨x, hx, e⟩ := List.mem_map.mp z
            exact (c3 x hx).2.1 e
        · obtain ⟨x, hx, e⟩ := List.mem_map.mp z
          exact cl x hx e
        · show ((copyV es W.vals).map (·.2.1)).Nodup
          rw [copyV_places el]
          assumption
      · show (copyV es W.vals).length ≤ 100
        unfold copyV
        rw [List.length_map, List.length_zip]
        have := hw.few
        omega
      · unfold WS.abs
        show WA.mk ((copyV es W.vals).map fun x => (x.1, x.2.2)) _ _ = _
        rw [copyV_abs el]
      · simp only [WS.own, List.mem_cons] at hb
        rcases hb with rfl | rfl | rfl | hb
        · exact hq
        · exact hd0
        · exact hl0
        · obtain ⟨x, hx, rfl⟩ := List.mem_map.mp hb
          exact (c3 x hx).2.2.2
theorem sc_good_figures : FnScope ["text"] ["text"] (defScope s_good_figures) := ⟨rfl, rfl, rfl, by decide +kernel, rfl, by decide +kernel, by decide +kernel⟩
theorem ok_good_figures (T : Txt w K mg t) : FnOk P w K mg base (CX1 P w) 1 t.a_good_figures t.d_good_figures ["text"] (sp_good_figures) := by
  refine T.good_figures.fn.okN sc_good_figures (fun vs H Q E h => ?_) (fun cdv A outer s H vs Q E hr h => ?_)
  · obtain ⟨l, rfl, hz, k⟩ := h
    rfl
  · obtain ⟨l, rfl, hz, k⟩ := h
    refine ⟨_, Bx.un (bpss_cons (bps_if (bpt_not (bpt_betw bpe_int (bpe_callB call_len_str (by rfl) T.b_len PySem.boot_len (bpa_cons (bpv 0) bpa_nil)) (bpe_const T.c_MOST_FIGURES)))
      (bpss_one (bps_ret bpe_bl))
      bpss_nil)
      (bpss_cons (bps_if (bpw_and (bpt_val (bpe_bm PySem.F.plainAttrs_str PySem.F.slot_str_startswith PySem.F.type_str_startswith mt_starts (bpv 0) (bpa_cons bpe_str bpa_nil))) (bpw_and1 (bpt_cmpR op_ne (bpv 0) bpe_str (nomark _)))).bpt
      (bpss_one (bps_ret bpe_bl))
      bpss_nil)
      (bpss_one (bps_ret (bpe_callB (call_all rfl) (by rfl) T.b_all PyProof.Rows.boot_all (bpa_cons (bpe_comp rfl (N := ["sign"]) (fr := []) (CSc.of (by kernel_rfl)) (bpi_str (bpv 0)) (fun _ _ _ _ _ => bpts_nil)
        (fun _ _ _ _ _ => (bpe_cmpR op_in1 (bpv 0) (bpe_const T.c_FIGURES) (by with_unfolding_all rfl)))) bpa_nil)))))), ?_⟩
    walk_at "rd"
    have el : (decide ((1 : Int) ≤ (l.length : Int)) && decide ((l.length : Int) ≤ 60)) = decide (1 ≤ l.length ∧ l.length ≤ 60) := by
      rw [Bool.eq_iff_iff]
      simp only [Bool.and_eq_true, decide_eq_true_eq]
      omega
    refine ⟨hz, ?_⟩
    rw [el]
    split
    · rename_i h1
      have e : figsC l = false := by
        unfold figsC
        rw [h1]
        rfl
      rw [← e]
      exact k H (Same.refl _)
    · rename_i h1
      have h1' : decide (1 ≤ l.length ∧ l.length ≤ 60) = true := by simpa using h1
      split
      · rename_i h2
        split
        · rename_i h3
          have e : figsC l = false := by
            unfold figsC
            rw [h1', decide_eq_true h2, decide_eq_true h3]
            rfl
          rw [← e]
          exact k H (Same.refl _)
        · rename_i h3
          refine rd_all (cs := digs) l rfl hz (fun c H2 Q2 _ h => ⟨_, rfl, c, rfl, _, rfl, by rw [tx_list]; exact h⟩) fun H2 s2 => ?_
          have e : figsC l = l.all fun c => decide (c ∈ digs) := by
            unfold figsC
            rw [h1', decide_eq_true h2, decide_eq_false h3]
            rfl
          rw [← e]
          exact k H2 s2
      · rename_i h2
        refine rd_all (cs := digs) l rfl hz (fun c H2 Q2 _ h => ⟨_, rfl, c, rfl, _, rfl, by rw [tx_list]; exact h⟩) fun H2 s2 => ?_
        have e : figsC l = l.all fun c => decide (c ∈ digs) := by
          unfold figsC
          rw [h1', decide_eq_false h2]
          rfl
        rw [← e]
        exact k H2 s2
theorem sc_number_read : FnScope ["text", "figures"] ["text"] (defScope s_number_read) := ⟨rfl, rfl, rfl, by decide +kernel, rfl, by decide +kernel, by decide +kernel⟩
theorem ok_number_read (T : Txt w K mg t) : FnOk P w K mg base (CX1 P w) 2 t.a_number_read t.d_number_read ["text"] (sp_number_read t) := by
  have G_good_figures := (ok_good_figures (P := P) (w := w) (base := base) T).mono (show 1 ≤ 1 by decide)
  refine T.number_read.fn.okX sc_number_read (fun vs H Q E h => ?_) (fun cdv A outer s H vs Q E hr h => ?_)
  · obtain ⟨l, rfl, hz, k⟩ := h
    rfl
  · obtain ⟨l, rfl, hz, k⟩ := h
    refine ⟨_, Bx.un (bpss_cons (bps_set (i := 1) sc_number_read.nd rfl (by first | exact Or.inl rfl | exact Or.inr rfl) (bpe_ifExp (bpt_val (bpe_bm PySem.F.plainAttrs_str PySem.F.slot_str_startswith PySem.F.type_str_startswith mt_starts (bpv 0) (bpa_cons bpe_str bpa_nil))) (bpe_slice sl_fr (bpv 0) (bpo_some bpe_int) bpo_none) (bpv 0)))
      (bpss_cons (bps_if (bpw_or (bpt_cmpR op_eq (bpv 0) bpe_str (nomark _)) (bpw_or1 (bpt_not (bpt_val (bpe_fnx T.good_figures G_good_figures hr pass1 (bpa_cons (bpv 1) bpa_nil)))))).bpt
      (bpss_one (bps_raise (T.xc_NoNumber) raises1 rfl bpe_str))
      bpss_nil)
      (bpss_one (bps_ret (bpe_callTy call_int_text (by rfl) T.b_int PyProof.Rows.boot_int (bpa_cons (bpv 0) bpa_nil)))))), ?_⟩
    walk_at "rd"
    have hd : (l.drop 1).length ≤ sizeLine := Nat.le_trans (by rw [List.length_drop]; omega) hz
    have fin : ∀ f, (if l.head? = some 45 then l.drop 1 else l) = f → f.length ≤ sizeLine → if l = [45, 48] then E (Value.ref t.c_NoNumber) none H else sp_good_figures [V.str (tx f)] H (fun x H1 => ∃ c, x = V.bl c ∧ if c = false then E (Value.ref t.c_NoNumber) none H1 else ∃ x, intText? (tx l) = some x ∧ l.length ≤ 640 ∧ Q (V.int x) H1) E := by
      intro f ef hf
      by_cases h2 : l = [45, 48]
      · rw [if_pos h2]
        have kk := k H (Same.refl _)
        rw [show readC l = none by unfold readC; rw [if_pos (.inl h2)]] at kk
        exact kk
      · rw [if_neg h2]
        refine ⟨f, rfl, hf, fun H2 s2 => ⟨_, rfl, ?_⟩⟩
        have kk := k H2 s2
        cases hc : figsC f with
        | false =>
          rw [if_pos rfl]
          rw [show readC l = none by unfold readC; rw [ef, if_pos (.inr hc)]] at kk
          exact kk
        | true =>
          rw [if_neg (by simp)]
          have hn : ¬ (l = [45, 48] ∨ figsC f = false) := by
            rintro (z | z)
            · exact h2 z
            · rw [hc] at z
              cases z
          obtain ⟨n, hn⟩ : ∃ n, readC l = some n := by
            unfold readC
            rw [ef, if_neg hn]
            exact ⟨_, rfl⟩
          obtain ⟨e1, e2⟩ := readC_int hn
          rw [hn] at kk
          exact ⟨n, e1, by omega, kk⟩
    split
    · rename_i h1
      exact ⟨hz, fin _ (if_pos h1) hd⟩
    · rename_i h1
      exact fin _ (if_neg h1) hz
theorem sc_number_in_row : FnScope ["word"] ["word"] (defScope s_number_in_row) := ⟨rfl, rfl, rfl, by decide +kernel, rfl, by decide +kernel, by decide +kernel⟩
theorem ok_number_in_row (T : Txt w K mg t) : FnOk P w K mg base (CX1 P w) 3 t.a_number_in_row t.d_number_in_row ["word"] (sp_number_in_row t) := by
  have G_number_read := (ok_number_read (P := P) (w := w) (base := base) T).mono (show 2 ≤ 2 by decide)
  refine T.number_in_row.fn.okX sc_number_in_row (fun vs H Q E h => ?_) (fun cdv A outer s H vs Q E hr h => ?_)
  · obtain ⟨l, rfl, hz, k⟩ := h
    rfl
  · obtain ⟨l, rfl, hz, k⟩ := h
    refine ⟨_, Bx.un (bpss_one (bps_tryC rfl rfl
      (bpsx_one (bpsx_ret (bxe_fn T.number_read G_number_read hr (fun _ => (bpa_cons (bpv 0) bpa_nil)))))
      (HBs.cons (b := true) (fun _ hd => (hb_from (hd rfl) (T.xm.hit T.in_NoNumber) T.g_NoNumber (T.xc_NoRow) raisesIn1 (fun _ => PassesOwnAt.leaving))) HBs.nil))), ?_⟩
    walk_at "rd"
    refine ⟨l, rfl, hz, fun H' s => ?_⟩
    have kk := k H' s
    cases e : readC l with
    | some n =>
      rw [e] at kk
      exact kk
    | none =>
      rw [e] at kk
      exact .inl ⟨rfl, fun _ => rfl, kk⟩
theorem sc_do_deed : FnScope ["web", "words", "number", "deed"] ["web", "words", "number"] (defScope s_do_deed) := ⟨rfl, rfl, rfl, by decide +kernel, rfl, by decide +kernel, by decide +kernel⟩
theorem ok_do_deed (T : Txt w K mg t) : FnOk P w K mg base (CX1 P w) 4 t.a_do_deed t.d_do_deed ["web", "words", "number"] (sp_do_deed t) := by
  have G_Web_add_tie := (ok_Web_add_tie (P := P) (w := w) (base := base) T).mono (show 3 ≤ 3 by decide)
  have G_Web_add_thing := (ok_Web_add_thing (P := P) (w := w) (base := base) T).mono (show 3 ≤ 3 by decide)
  have G_Web_drop_thing := (ok_Web_drop_thing (P := P) (w := w) (base := base) T).mono (show 3 ≤ 3 by decide)
  have G_Web_set_value := (ok_Web_set_value (P := P) (w := w) (base := base) T).mono (show 3 ≤ 3 by decide)
  have G_Web_take_value := (ok_Web_take_value (P := P) (w := w) (base := base) T).mono (show 2 ≤ 3 by decide)
  have G_Web_cut_tie := (ok_Web_cut_tie (P := P) (w := w) (base := base) T).mono (show 2 ≤ 3 by decide)
  refine T.do_deed.fn.okX sc_do_deed (fun vs H Q E h => ?_) (fun cdv A outer s H vs Q E hr h => ?_)
  · obtain ⟨p, l, W, ws, n, rfl, hw, pre, hl, hlen, hz, k⟩ := h
    rfl
  · obtain ⟨p, l, W, ws, n, rfl, hw, pre, hl, hlen, hz, k⟩ := h
    refine ⟨_, Bx.un (bpss_cons (bps_set (i := 3) sc_do_deed.nd rfl (by first | exact Or.inl rfl | exact Or.inr rfl) (bpe_ixA ix_list (bpv 1) bpe_int))
      (bpss_cons (bps_if (bpt_cmpR op_eq (bpv 3) bpe_str (nomark _))
      (bpss_one (bps_ret (bpe_mxF (bpv 0) T.o_Web T.Web_add_tie G_Web_add_tie hr pass1 (bpa_cons (bpe_ixA ix_list (bpv 1) bpe_int) (bpa_cons (bpe_ixA ix_list (bpv 1) bpe_int) (bpa_cons (bpe_ixA ix_list (bpv 1) bpe_int) (bpa_cons (bpv 2) bpa_nil)))))))
      bpss_nil)
      (bpss_cons (bps_if (bpt_cmpR op_eq (bpv 3) bpe_str (nomark _))
      (bpss_one (bps_expr (bpe_mx (bpv 0) T.o_Web T.Web_add_thing G_Web_add_thing hr pass1 (bpa_cons (bpe_ixA ix_list (bpv 1) bpe_int) bpa_nil))))
      (bpss_one (bps_if (bpt_cmpR op_eq (bpv 3) bpe_str (nomark _))
      (bpss_one (bps_expr (bpe_mx (bpv 0) T.o_Web T.Web_drop_thing G_Web_drop_thing hr pass1 (bpa_cons (bpe_ixA ix_list (bpv 1) bpe_int) bpa_nil))))
      (bpss_one (bps_if (bpt_cmpR op_eq (bpv 3) bpe_str (nomark _))
      (bpss_one (bps_expr (bpe_mx (bpv 0) T.o_Web T.Web_set_value G_Web_set_value hr pass1 (bpa_cons (bpe_ixA ix_list (bpv 1) bpe_int) (bpa_cons (bpe_ixA ix_list (bpv 1) bpe_int) (bpa_cons (bpv 2) bpa_nil))))))
      (bpss_one (bps_if (bpt_cmpR op_eq (bpv 3) bpe_str (nomark _))
      (bpss_one (bps_expr (bpe_mx (bpv 0) T.o_Web T.Web_take_value G_Web_take_value hr pass1 (bpa_cons (bpe_ixA ix_list (bpv 1) bpe_int) (bpa_cons (bpe_ixA ix_list (bpv 1) bpe_int) bpa_nil)))))
      (bpss_one (bps_expr (bpe_mx (bpv 0) T.o_Web T.Web_cut_tie G_Web_cut_tie hr pass1 (bpa_cons (bpv 2) bpa_nil)))))))))))
      (bpss_one (bps_ret bpe_non))))), ?_⟩
    walk_at "rs"
    have l2 : 2 ≤ ws.length := by
      unfold lenC at hlen
      split at hlen
      · injection hlen with h; omega
      split at hlen
      · injection hlen with h; omega
      split at hlen
      · injection hlen with h; omega
      split at hlen
      · injection hlen with h; omega
      split at hlen
      · injection hlen with h; omega
      split at hlen
      · injection hlen with h; omega
      · cases hlen
    have at_ : ∀ i : Nat, i < ws.length → atI (ws.map fun z => V.str (tx z)) (i : Int) = some (.str (tx (ws.getD i []))) := fun i hi => atI_nat (by rw [List.getElem?_map, List.getElem?_eq_getElem hi, List.getD_eq_getElem?_getD, List.getElem?_eq_getElem hi]; rfl)
    have zz : ∀ i : Nat, i < ws.length → (ws.getD i []).length ≤ sizeLine := fun i hi => hz _ (by rw [List.getD_eq_getElem?_getD, List.getElem?_eq_getElem hi]; exact List.getElem_mem hi)
    refine seq_rule fun N hN => ?_
    walk_at "rd"
    refine rd_ixL hl (at_ 0 (by omega)) (hN _ _ ?_)
    clear hN N
    unfold deedC at k
    generalize hd : ws.getD 0 [] = d at k hlen
    refine seq_rule fun N hN => ?_
    walk_at "rd"
    refine ite_both (fun h => ?_) fun h => hN _ _ ?_
    · have h : d = wTie := h
      rw [if_pos h] at k
      have l5 : ws.length = 5 := by
        rw [h] at hlen
        exact (Option.some.inj hlen).symm
      refine ⟨_, _, hw.obj, rfl, rd_ixL hl (at_ 1 (by omega)) (rd_ixL hl (at_ 2 (by omega)) (rd_ixL hl (at_ 3 (by omega)) ⟨p, W, _, _, _, n, rfl, hw, pre.low, zz 2 (by omega), k⟩))⟩
    have h : ¬ d = wTie := h
    rw [if_neg h] at k
    clear hN N
    refine seq_rule fun N hN => ?_
    have fin : ∀ H', Q .non H' → N [some (V.ref p), some (V.ref l), some (V.int n), some (V.str (tx d))] H' := by
      intro H' q
      refine hN _ _ ?_
      walk_at "rd"
      exact q
    clear hN
    walk_at "rd"
    refine ite_both (fun h1 => ?_) fun h1 => ite_both (fun h2 => ?_) fun h2 => ite_both (fun h3 => ?_) fun h3 => ite_both (fun h4 => ?_) fun h4 => ?_
    · have h1 : d = wThing := h1
      rw [if_pos h1] at k
      exact ⟨_, _, hw.obj, rfl, rd_ixL hl (at_ 1 (by omega)) ⟨p, W, _, rfl, hw, zz 1 (by omega), told_to k fin⟩⟩
    · have h1 : ¬ d = wThing := h1
      have h2 : d = wDrop := h2
      rw [if_neg h1, if_pos h2] at k
      exact ⟨_, _, hw.obj, rfl, rd_ixL hl (at_ 1 (by omega)) ⟨p, W, _, rfl, hw, told_to k fin⟩⟩
    · have h1 : ¬ d = wThing := h1
      have h2 : ¬ d = wDrop := h2
      have h3 : d = wSet := h3
      rw [if_neg h1, if_neg h2, if_pos h3] at k
      have l4 : ws.length = 4 := by
        rw [h3] at hlen
        exact (Option.some.inj hlen).symm
      exact ⟨_, _, hw.obj, rfl, rd_ixL hl (at_ 1 (by omega)) (rd_ixL hl (at_ 2 (by omega)) ⟨p, W, _, _, n, rfl, hw, zz 2 (by omega), pre.few, told_to k fin⟩)⟩
    · have h1 : ¬ d = wThing := h1
      have h2 : ¬ d = wDrop := h2
      have h3 : ¬ d = wSet := h3
      have h4 : d = wTake := h4
      rw [if_neg h1, if_neg h2, if_neg h3, if_pos h4] at k
      have l3 : ws.length = 3 := by
        rw [h4] at hlen
        exact (Option.some.inj hlen).symm
      exact ⟨_, _, hw.obj, rfl, rd_ixL hl (at_ 1 (by omega)) (rd_ixL hl (at_ 2 (by omega)) ⟨p, W, _, _, rfl, hw, told_to k fin⟩)⟩
    · have h1 : ¬ d = wThing := h1
      have h2 : ¬ d = wDrop := h2
      have h3 : ¬ d = wSet := h3
      have h4 : ¬ d = wTake := h4
      rw [if_neg h1, if_neg h2, if_neg h3, if_neg h4] at k
      exact ⟨_, _, hw.obj, rfl, p, W, n, rfl, hw, told_to k fin⟩
theorem sc_done_row : FnScope ["web", "row", "words", "number"] ["web", "row"] (defScope s_done_row) := ⟨rfl, rfl, rfl, by decide +kernel, rfl, by decide +kernel, by decide +kernel⟩
theorem ok_done_row (T : Txt w K mg t) : FnOk P w K mg base (CX1 P w) 5 t.a_done_row t.d_done_row ["web", "row"] (sp_done_row t) := by
  have G_do_deed := (ok_do_deed (P := P) (w := w) (base := base) T).mono (show 4 ≤ 4 by decide)
  have G_number_in_row := (ok_number_in_row (P := P) (w := w) (base := base) T).mono (show 3 ≤ 4 by decide)
  refine T.done_row.fn.okX sc_done_row (fun vs H Q E h => ?_) (fun cdv A outer s H vs Q E hr h => ?_)
  · obtain ⟨p, W, l, rfl, hw, pre, hz, k⟩ := h
    rfl
  · obtain ⟨p, W, l, rfl, hw, pre, hz, k⟩ := h
    refine ⟨_, Bx.un (bpss_cons (bps_set (i := 2) sc_done_row.nd rfl (by first | exact Or.inl rfl | exact Or.inr rfl) (bpe_bm PySem.F.plainAttrs_str PySem.F.slot_str_split PySem.F.type_str_split mt_split (bpv 1) (bpa_cons bpe_str bpa_nil)))
      (bpss_cons (bps_if (bpt_cmpR op_ne (bpe_mget1 T.d_LENGTHS (bpe_cls T.c_LENGTHS) (bpe_ixA ix_list (bpv 2) bpe_int)) (bpe_callB call_len_seq (by rfl) T.b_len PySem.boot_len (bpa_cons (bpv 2) bpa_nil)) (nomark _))
      (bpss_one (bps_raise (T.xc_NoRow) raises1 rfl bpe_str))
      bpss_nil)
      (bpss_cons (bps_set (i := 3) sc_done_row.nd rfl (by first | exact Or.inl rfl | exact Or.inr rfl) (bpe_ifExp (bpt_cmpR op_in_seq (bpe_ixA ix_list (bpv 2) bpe_int) (bpe_const (v := .ref t.k_NUMBERED) ⟨_, T.c_NUMBERED, rfl⟩) (by with_unfolding_all rfl)) (bpe_fnx T.number_in_row G_number_in_row hr pass1 (bpa_cons (bpe_ixA ix_list (bpv 2) (bpe_un un_neg bpe_int)) bpa_nil)) bpe_int))
      (bpss_one (bps_ret (bpe_fnx T.do_deed G_do_deed hr pass1 (bpa_cons (bpv 0) (bpa_cons (bpv 2) (bpa_cons (bpv 3) bpa_nil))))))))), ?_⟩
    walk_at "rs"
    refine seq_rule fun N hN => ?_
    walk_at "rd"
    refine rd_split (sz_of (by omega)) fun q hq => hN _ _ ?_
    clear hN N
    have n1 := Same.new (o := .lst ((cutC 32 l).map fun z => .str (tx z))) hq
    have q1 : upd H q (.lst ((cutC 32 l).map fun z => .str (tx z))) q = some (.lst ((cutC 32 l).map fun z => .str (tx z))) := upd_same
    generalize upd H q (.lst ((cutC 32 l).map fun z => .str (tx z))) = H1 at n1 q1
    have hw1 := hw.same n1
    have wne : cutC 32 l ≠ [] := cutC_ne 32 l
    have wz : ∀ w ∈ cutC 32 l, w.length ≤ 1000 := fun w h => Nat.le_trans (cut_len h) hz
    unfold rowD at k
    generalize cutC 32 l = ws at q1 wne wz k
    have wp : 0 < ws.length := List.length_pos_iff.mpr wne
    have at0 : atI (ws.map fun z => V.str (tx z)) 0 = some (.str (tx (ws.getD 0 []))) := at_get (by decide) (by show (List.map _ _)[0]? = _; rw [List.getElem?_map, List.getElem?_eq_getElem wp, List.getD_eq_getElem?_getD, List.getElem?_eq_getElem wp]; rfl)
    have atL : atI (ws.map fun z => V.str (tx z)) (-1) = some (.str (tx (ws.getLastD []))) := by
      obtain ⟨r, w, rfl⟩ : ∃ r w, ws = r ++ [w] := ⟨ws.dropLast, ws.getLast wne, (List.dropLast_concat_getLast wne).symm⟩
      rw [List.map_append, List.getLastD_concat]
      exact at_last
    refine seq_rule fun N hN => ?_
    walk_at "rd"
    refine rd_ixL q1 at0 ⟨.inr (tx (ws.getD 0 [])), rfl, _, .inl (SqL.of q1), ?_⟩
    rw [val_len, List.length_map]
    by_cases hlen : lenC (ws.getD 0 []) = some ws.length
    rotate_left
    · rw [if_neg hlen] at k
      refine ⟨by cases lenC (ws.getD 0 []) <;> rfl, ?_⟩
      have ne : ¬ (match lenC (ws.getD 0 []) with | some k => V.int (k : Int) | none => V.non) = V.int (ws.length : Int) := by
        cases e : lenC (ws.getD 0 []) with
        | none => exact fun z => by cases z
        | some j =>
          intro z
          injection z with z
          exact hlen (by rw [e, Int.ofNat.inj z])
      rw [if_pos ne]
      exact k _ _ n1
    rw [hlen]
    refine ⟨rfl, ite_F (fun z => z rfl) (hN _ _ ?_)⟩
    clear hN N
    rw [if_pos hlen] at k
    have fin : ∀ (n : Int) (H2 : Hp), Same H1 H2 → told t p W H Q E (deedC W.abs ws n).2 (deedC W.abs ws n).1 → sp_do_deed t [.ref p, .ref q, .int n] H2 Q E := fun n H2 s2 kk =>
      ⟨p, q, W, ws, n, rfl, hw1.same s2, pre, s2 _ _ q1, hlen, fun w h => sz_of (by have := wz w h; omega), told_same (n1.trans s2) kk⟩
    refine seq_rule fun N hN => ?_
    have go : ∀ (n : Int) (H2 : Hp), Same H1 H2 → told t p W H Q E (deedC W.abs ws n).2 (deedC W.abs ws n).1 → N [some (V.ref p), some (V.str (tx l)), some (V.ref q), some (V.int n)] H2 := by
      intro n H2 s2 kk
      refine hN _ _ ?_
      walk_at "rd"
      exact fin n H2 s2 kk
    clear hN
    walk_at "rd"
    refine rd_ixL q1 at0 (rd_inT (ns := [wSet, wTie, wCut]) (T.s_NUMBERED H1) ⟨_, rfl, ?_⟩)
    unfold numW at k
    by_cases hin : ws.getD 0 [] ∈ [wSet, wTie, wCut]
    · rw [if_pos hin] at k
      rw [decide_eq_true hin]
      refine ite_T rfl (rd_ixL q1 atL ⟨_, rfl, ?_, fun H2 s2 => ?_⟩)
      · obtain ⟨r, w, rfl⟩ : ∃ r w, ws = r ++ [w] := ⟨ws.dropLast, ws.getLast wne, (List.dropLast_concat_getLast wne).symm⟩
        rw [List.getLastD_concat]
        exact sz_of (by have := wz w (by simp); omega)
      cases e : readC (ws.getLastD []) with
      | none =>
        rw [e] at k
        exact fun d => k _ _ (n1.trans s2)
      | some m =>
        rw [e] at k
        exact go m H2 s2 k
    · rw [if_neg hin] at k
      rw [decide_eq_false hin]
      exact ite_F (by decide) (go 0 H1 (Same.refl _) k)
theorem sc_l_letter : FnScope ["number"] ["number"] (defScope s_l_letter) := ⟨rfl, rfl, rfl, by decide +kernel, rfl, by decide +kernel, by decide +kernel⟩
theorem ok_l_letter (T : Txt w K mg t) : FnOk P w K mg base (CX1 P w) 1 t.a_l_letter t.d_l_letter ["number"] (sp_l_letter) := by
  refine T.l_letter.fn.okN sc_l_letter (fun vs H Q E h => ?_) (fun cdv A outer s H vs Q E hr h => ?_)
  · obtain ⟨n, rfl, k⟩ := h
    rfl
  · obtain ⟨n, rfl, k⟩ := h
    refine ⟨_, Bx.un (bpss_one (bps_ret (bpe_ixA ix_str bpe_str (bpe_op op_mod (bpv 0) bpe_int)))), ?_⟩
    walk_at "rd"
    refine rd_sign (by decide) (by omega) (by show n % 26 < 26; omega) fun c hc => ?_
    have e := let_at n
    unfold abc at e
    rw [e] at hc
    cases hc
    exact k
theorem sc_l_name : FnScope ["number", "way", "fill", "size", "at", "head"] ["number", "way"] (defScope s_l_name) := ⟨rfl, rfl, rfl, by decide +kernel, rfl, by decide +kernel, by decide +kernel⟩
theorem ok_l_name (T : Txt w K mg t) : FnOk P w K mg base (CX1 P w) 2 t.a_l_name t.d_l_name ["number", "way"] (sp_l_name) := by
  have G_l_letter := (ok_l_letter (P := P) (w := w) (base := base) T).mono (show 1 ≤ 1 by decide)
  refine T.l_name.fn.okN sc_l_name (fun vs H Q E h => ?_) (fun cdv A outer s H vs Q E hr h => ?_)
  · obtain ⟨n, w, rfl, k⟩ := h
    rfl
  · obtain ⟨n, w, rfl, k⟩ := h
    refine ⟨_, Bx.un (bpss_cons (bps_set (i := 2) sc_l_name.nd rfl (by first | exact Or.inl rfl | exact Or.inr rfl) (bpe_fnx T.l_letter G_l_letter hr pass0' (bpa_cons (bpe_op op_fdiv (bpv 1) bpe_int) bpa_nil)))
      (bpss_cons (bps_if (bpt_cmpR op_eq (bpe_op op_mod (bpv 1) bpe_int) bpe_int (nomark _))
      (bpss_one (bps_ret (bpe_op op_add_str (bpe_fnx T.l_letter G_l_letter hr pass0' (bpa_cons (bpe_op op_add (bpe_op op_fdiv (bpv 0) bpe_int) (bpe_op op_fdiv (bpv 1) bpe_int)) bpa_nil)) (bpe_op op_mul_str (bpv 2) (bpe_op op_mod (bpv 0) bpe_int)))))
      bpss_nil)
      (bpss_cons (bps_set (i := 3) sc_l_name.nd rfl (by first | exact Or.inl rfl | exact Or.inr rfl) (bpe_op op_add bpe_int (bpe_op op_mod (bpe_op op_fdiv (bpv 1) bpe_int) bpe_int)))
      (bpss_cons (bps_set (i := 4) sc_l_name.nd rfl (by first | exact Or.inl rfl | exact Or.inr rfl) (bpe_op op_mod (bpe_op op_fdiv (bpv 1) bpe_int) (bpe_op op_sub (bpv 3) bpe_int)))
      (bpss_cons (bps_set (i := 5) sc_l_name.nd rfl (by first | exact Or.inl rfl | exact Or.inr rfl) (bpe_op op_add_str (bpe_op op_mul_str (bpv 2) (bpv 4)) (bpe_fnx T.l_letter G_l_letter hr pass0' (bpa_cons (bpv 0) bpa_nil))))
      (bpss_one (bps_ret (bpe_op op_add_str (bpe_op op_add_str (bpv 5) (bpe_fnx T.l_letter G_l_letter hr pass0' (bpa_cons (bpe_op op_fdiv (bpv 0) bpe_int) bpa_nil))) (bpe_op op_mul_str (bpv 2) (bpe_op op_sub (bpe_op op_sub (bpv 3) bpe_int) (bpv 4))))))))))), ?_⟩
    walk_at "rd"
    refine ⟨_, rfl, ?_⟩
    split
    · rename_i h
      unfold nameC at k
      rw [if_pos h] at k
      refine ⟨_, rfl, letC (w / 2), rfl, by omega, by omega, ?_⟩
      walk_at "rd"
      exact ⟨sz_of (by simp only [List.length_replicate]; omega), k⟩
    · rename_i h
      unfold nameC at k
      rw [if_neg h] at k
      have s := sizeC_le w
      have a := atC_le w
      have es : 2 + w / 52 % 11 = sizeC w := rfl
      have ea : w / 572 % (sizeC w - 1) = atC w := rfl
      rw [es, ea]
      generalize atC w = x at *
      generalize sizeC w = y at *
      refine ⟨by omega, letC (w / 2), rfl, a.1, by omega, _, rfl, ?_⟩
      walk_at "rd"
      refine ⟨sz_of (by simp only [List.length_replicate]; omega), _, rfl, ?_⟩
      walk_at "rd"
      refine ⟨sz_of (by simp only [List.length_append, List.length_replicate, List.length_cons, List.length_nil]; omega), by omega, by omega, ?_⟩
      exact ⟨sz_of (by simp only [List.length_append, List.length_replicate, List.length_cons, List.length_nil]; omega), k⟩
theorem Txt.fx {K : PySem.W.Frag} {mg : Str → Option Value} {t : Ad} (T : Txt w K mg t) (x : Option Rf) (j : Nat) {C : Addr} (h : t.cs[j]? = some C) : decide ((t.cx x : Nat) = C) = decide (xix x = j) := by
  by_cases e : xix x = j
  · have h2 := t.cx_ix x
    rw [e, h] at h2
    have h3 : t.cx x = C := (Option.some.inj h2).symm
    rw [decide_eq_true e, decide_eq_true h3]
  · rw [decide_eq_false e, decide_eq_false (T.xs.ne (t.cx_ix x) h e)]
theorem sc_l_which : FnScope ["e", "flags", "words"] ["e"] (defScope s_l_which) := ⟨rfl, rfl, rfl, by decide +kernel, rfl, by decide +kernel, by decide +kernel⟩
theorem okH_l_which (T : Txt w K mg t) : FnOkH P w K mg base 1 t.a_l_which t.d_l_which ["e"] (sp_l_which t) := by
  refine T.l_which.fn.okH sc_l_which (fun vs H Q E h => ?_) (fun cdv A outer s H vs Q hr h => ?_)
  · obtain ⟨a, x, rfl, ha, k⟩ := h
    rfl
  · obtain ⟨a, x, rfl, ha, k⟩ := h
    refine ⟨_, Bx.un (bpss_cons (bps_set (i := 1) sc_l_which.nd rfl (by first | exact Or.inl rfl | exact Or.inr rfl) (bpe_lst (bpa_cons (bpe_callB (call_isXs T.xs) (by rfl) T.b_isinstance PyProof.Rows.boot_isinstance (bpa_cons (bpv 0) (bpa_cons (bpe_cls T.g_NoName) bpa_nil))) (bpa_cons (bpe_callB (call_isXs T.xs) (by rfl) T.b_isinstance PyProof.Rows.boot_isinstance (bpa_cons (bpv 0) (bpa_cons (bpe_cls T.g_NoNumber) bpa_nil))) (bpa_cons (bpe_callB (call_isXs T.xs) (by rfl) T.b_isinstance PyProof.Rows.boot_isinstance (bpa_cons (bpv 0) (bpa_cons (bpe_cls T.g_NoThing) bpa_nil))) (bpa_cons (bpe_callB (call_isXs T.xs) (by rfl) T.b_isinstance PyProof.Rows.boot_isinstance (bpa_cons (bpv 0) (bpa_cons (bpe_cls T.g_NoKey) bpa_nil))) bpa_nil))))))
      (bpss_cons (bps_set (i := 1) sc_l_which.nd rfl (by first | exact Or.inl rfl | exact Or.inr rfl) (bpe_op op_cat (bpv 1) (bpe_lst (bpa_cons (bpe_callB (call_isXs T.xs) (by rfl) T.b_isinstance PyProof.Rows.boot_isinstance (bpa_cons (bpv 0) (bpa_cons (bpe_cls T.g_NoTie) bpa_nil))) (bpa_cons (bpe_callB (call_isXs T.xs) (by rfl) T.b_isinstance PyProof.Rows.boot_isinstance (bpa_cons (bpv 0) (bpa_cons (bpe_cls T.g_Twice) bpa_nil))) (bpa_cons (bpe_callB (call_isXs T.xs) (by rfl) T.b_isinstance PyProof.Rows.boot_isinstance (bpa_cons (bpv 0) (bpa_cons (bpe_cls T.g_StillTied) bpa_nil))) (bpa_cons (bpe_callB (call_isXs T.xs) (by rfl) T.b_isinstance PyProof.Rows.boot_isinstance (bpa_cons (bpv 0) (bpa_cons (bpe_cls T.g_Full) bpa_nil))) bpa_nil)))))))
      (bpss_cons (bps_expr (bpe_bm PySem.F.plainAttrs_list PySem.F.slot_list_append PySem.F.type_list_append mt_append (bpv 1) (bpa_cons (bpe_callB (call_isXs T.xs) (by rfl) T.b_isinstance PyProof.Rows.boot_isinstance (bpa_cons (bpv 0) (bpa_cons (bpe_cls T.g_NoRow) bpa_nil))) bpa_nil)))
      (bpss_cons (bps_if (bpw_or (bpt_not (bpt_val (bpe_callB (call_isVs T.xs) (by rfl) T.b_isinstance PyProof.Rows.boot_isinstance (bpa_cons (bpv 0) (bpa_cons (bpe_ty T.b_ValueError boot_VE) bpa_nil))))) (bpw_or1 (bpt_cmpR op_ne (bpe_bm PySem.F.plainAttrs_list PySem.F.slot_list_count PySem.F.type_list_count mt_count (bpv 1) (bpa_cons bpe_bl bpa_nil)) bpe_int (nomark _)))).bpt
      (bpss_one (bps_ret bpe_str))
      bpss_nil)
      (bpss_cons (bps_set (i := 2) sc_l_which.nd rfl (by first | exact Or.inl rfl | exact Or.inr rfl) bpe_lstS)
      (bpss_one (bps_ret (bpe_ixA ix_list (bpv 2) (bpe_bm PySem.F.plainAttrs_list PySem.F.slot_list_index PySem.F.type_list_index mt_index (bpv 1) (bpa_cons bpe_bl bpa_nil)))))))))), ?_⟩
    walk_at "rs"
    refine seq_rule fun N hN => ?_
    walk_at "rd"
    refine ⟨_, ha, t.cx_in x, T.in_NoName, _, ha, t.cx_in x, T.in_NoNumber, _, ha, t.cx_in x, T.in_NoThing, _, ha, t.cx_in x, T.in_NoKey, by decide, fun p hp => hN _ _ ?_⟩
    clear hN N
    rw [T.fx x 0 rfl, T.fx x 1 rfl, T.fx x 2 rfl, T.fx x 3 rfl]
    have s1 : Same H (upd H p (.lst [V.bl (decide (xix x = 0)), V.bl (decide (xix x = 1)), V.bl (decide (xix x = 2)), V.bl (decide (xix x = 3))])) := Same.new hp
    have ha1 := s1 a _ ha
    have hp1 : upd H p (.lst [V.bl (decide (xix x = 0)), V.bl (decide (xix x = 1)), V.bl (decide (xix x = 2)), V.bl (decide (xix x = 3))]) p = some (.lst [V.bl (decide (xix x = 0)), V.bl (decide (xix x = 1)), V.bl (decide (xix x = 2)), V.bl (decide (xix x = 3))]) := upd_same
    generalize upd H p (.lst [V.bl (decide (xix x = 0)), V.bl (decide (xix x = 1)), V.bl (decide (xix x = 2)), V.bl (decide (xix x = 3))]) = H1 at s1 ha1 hp1
    refine seq_rule fun N hN => ?_
    walk_at "rd"
    refine ⟨_, ha1, t.cx_in x, T.in_NoTie, _, ha1, t.cx_in x, T.in_Twice, _, ha1, t.cx_in x, T.in_StillTied, _, ha1, t.cx_in x, T.in_Full, by decide, fun p2 hp2 => ?_⟩
    rw [T.fx x 4 rfl, T.fx x 5 rfl, T.fx x 6 rfl, T.fx x 7 rfl]
    have n12 : p ≠ p2 := ne_of_none hp1 hp2
    refine ⟨_, by rw [upd_ne n12]; exact hp1, _, upd_same, by show 8 ≤ sizeLine; decide, fun p3 hp3 => hN _ _ ?_⟩
    clear hN N
    have n23 : p2 ≠ p3 := fun z => by
      rw [← z, upd_same] at hp3
      cases hp3
    rw [upd_ne n23.symm] at hp3
    have hp30 := s1.free hp3
    have s3 : Same H (upd (upd H1 p2 (.lst [V.bl (decide (xix x = 4)), V.bl (decide (xix x = 5)), V.bl (decide (xix x = 6)), V.bl (decide (xix x = 7))])) p3 (.lst [V.bl (decide (xix x = 0)), V.bl (decide (xix x = 1)), V.bl (decide (xix x = 2)), V.bl (decide (xix x = 3)), V.bl (decide (xix x = 4)), V.bl (decide (xix x = 5)), V.bl (decide (xix x = 6)), V.bl (decide (xix x = 7))])) := (s1.upd_new (s1.free hp2)).upd_new hp30
    have ha3 := s3 a _ ha
    have hp4 : upd (upd H1 p2 (.lst [V.bl (decide (xix x = 4)), V.bl (decide (xix x = 5)), V.bl (decide (xix x = 6)), V.bl (decide (xix x = 7))])) p3 (.lst [V.bl (decide (xix x = 0)), V.bl (decide (xix x = 1)), V.bl (decide (xix x = 2)), V.bl (decide (xix x = 3)), V.bl (decide (xix x = 4)), V.bl (decide (xix x = 5)), V.bl (decide (xix x = 6)), V.bl (decide (xix x = 7))]) p3 = some (.lst [V.bl (decide (xix x = 0)), V.bl (decide (xix x = 1)), V.bl (decide (xix x = 2)), V.bl (decide (xix x = 3)), V.bl (decide (xix x = 4)), V.bl (decide (xix x = 5)), V.bl (decide (xix x = 6)), V.bl (decide (xix x = 7))]) := upd_same
    simp only [List.cons_append, List.nil_append]
    generalize upd (upd H1 p2 (.lst [V.bl (decide (xix x = 4)), V.bl (decide (xix x = 5)), V.bl (decide (xix x = 6)), V.bl (decide (xix x = 7))])) p3 (.lst [V.bl (decide (xix x = 0)), V.bl (decide (xix x = 1)), V.bl (decide (xix x = 2)), V.bl (decide (xix x = 3)), V.bl (decide (xix x = 4)), V.bl (decide (xix x = 5)), V.bl (decide (xix x = 6)), V.bl (decide (xix x = 7))]) = H2 at s3 ha3 hp4
    refine seq_rule fun N hN => ?_
    walk_at "rd"
    refine ⟨tyV_lst (SqL.of hp4), _, ha3, t.cx_in x, T.in_NoRow, ?_⟩
    rw [T.fx x 8 rfl]
    refine ⟨_, hp4, by show 8 < sizeLine; decide, hN _ _ ?_⟩
    clear hN N
    simp only [List.cons_append, List.nil_append]
    have s4 : Same H (upd H2 p3 (.lst [V.bl (decide (xix x = 0)), V.bl (decide (xix x = 1)), V.bl (decide (xix x = 2)), V.bl (decide (xix x = 3)), V.bl (decide (xix x = 4)), V.bl (decide (xix x = 5)), V.bl (decide (xix x = 6)), V.bl (decide (xix x = 7)), V.bl (decide (xix x = 8))])) := s3.upd_new hp30
    have ha4 := s4 a _ ha
    have hp5 : upd H2 p3 (.lst [V.bl (decide (xix x = 0)), V.bl (decide (xix x = 1)), V.bl (decide (xix x = 2)), V.bl (decide (xix x = 3)), V.bl (decide (xix x = 4)), V.bl (decide (xix x = 5)), V.bl (decide (xix x = 6)), V.bl (decide (xix x = 7)), V.bl (decide (xix x = 8))]) p3 = some (.lst [V.bl (decide (xix x = 0)), V.bl (decide (xix x = 1)), V.bl (decide (xix x = 2)), V.bl (decide (xix x = 3)), V.bl (decide (xix x = 4)), V.bl (decide (xix x = 5)), V.bl (decide (xix x = 6)), V.bl (decide (xix x = 7)), V.bl (decide (xix x = 8))]) := upd_same
    generalize upd H2 p3 (.lst [V.bl (decide (xix x = 0)), V.bl (decide (xix x = 1)), V.bl (decide (xix x = 2)), V.bl (decide (xix x = 3)), V.bl (decide (xix x = 4)), V.bl (decide (xix x = 5)), V.bl (decide (xix x = 6)), V.bl (decide (xix x = 7)), V.bl (decide (xix x = 8))]) = H3 at s4 ha4 hp5
    walk_at "rd"
    have hc : (([V.bl (decide (xix x = 0)), V.bl (decide (xix x = 1)), V.bl (decide (xix x = 2)), V.bl (decide (xix x = 3)), V.bl (decide (xix x = 4)), V.bl (decide (xix x = 5)), V.bl (decide (xix x = 6)), V.bl (decide (xix x = 7)), V.bl (decide (xix x = 8))].countP fun z => eqV z (V.bl true) : Nat) : Int) = 1 := by
      cases x with
      | none => rfl
      | some r => cases r <;> rfl
    refine ⟨_, ha4, t.cx_in x, tyV_lst (SqL.of hp5), _, hp5, rfl, rfl, ite_F (fun z => z hc) ⟨by decide, fun p6 hp6 => ?_⟩⟩
    have h6 := (Same.new (o := .lst [V.str (tx [78, 111, 78, 97, 109, 101]), V.str (tx [78, 111, 78, 117, 109, 98, 101, 114]), V.str (tx [78, 111, 84, 104, 105, 110, 103]), V.str (tx [78, 111, 75, 101, 121]), V.str (tx [78, 111, 84, 105, 101]), V.str (tx [84, 119, 105, 99, 101]), V.str (tx [83, 116, 105, 108, 108, 84, 105, 101, 100]), V.str (tx [70, 117, 108, 108]), V.str (tx [78, 111, 82, 111, 119])]) hp6) p3 _ hp5
    refine ⟨tyV_lst (SqL.of h6), _, h6, rfl, rfl, xix x, V.bl true, by cases x with | none => rfl | some r => cases r <;> rfl, rfl, fun m z' hm hz => ?_, ?_⟩
    · have all : ∀ (x : Option Rf) (m : Nat), m < xix x → [V.bl (decide (xix x = 0)), V.bl (decide (xix x = 1)), V.bl (decide (xix x = 2)), V.bl (decide (xix x = 3)), V.bl (decide (xix x = 4)), V.bl (decide (xix x = 5)), V.bl (decide (xix x = 6)), V.bl (decide (xix x = 7)), V.bl (decide (xix x = 8))][m]? = some (V.bl false) := by
        intro x
        cases x with
        | none => decide
        | some r => cases r <;> decide
      rw [all x m hm] at hz
      cases hz
      rfl
    · exact ⟨p6, _, _, _, rfl, rfl, SqL.of upd_same, atI_nat (j := xix x) (v := .str (tx (xword x))) (by cases x with | none => rfl | some r => cases r <;> rfl), k _ (s4.upd_new (s4.free hp6))⟩
theorem sc_l_key : FnScope ["number", "way"] ["number", "way"] (defScope s_l_key) := ⟨rfl, rfl, rfl, by decide +kernel, rfl, by decide +kernel, by decide +kernel⟩
theorem ok_l_key (T : Txt w K mg t) : FnOk P w K mg base (CX1 P w) 3 t.a_l_key t.d_l_key ["number", "way"] (sp_l_key) := by
  have G_l_name := (ok_l_name (P := P) (w := w) (base := base) T).mono (show 2 ≤ 2 by decide)
  refine T.l_key.fn.okN sc_l_key (fun vs H Q E h => ?_) (fun cdv A outer s H vs Q E hr h => ?_)
  · obtain ⟨n, w, rfl, n0, n5, k⟩ := h
    rfl
  · obtain ⟨n, w, rfl, n0, n5, k⟩ := h
    refine ⟨_, Bx.un (bpss_one (bps_ret (bpe_fnx T.l_name G_l_name hr pass0' (bpa_cons (bpe_op op_mul (bpv 0) (bpe_op op_add bpe_int (bpe_op op_mul (bpe_op op_mod (bpe_op op_fdiv (bpv 1) bpe_int) bpe_int) bpe_int))) (bpa_cons (bpv 1) bpa_nil))))), ?_⟩
    walk_at "rs"
    walk_at "rd"
    exact ⟨.inl ⟨by omega, by omega⟩, .inl ⟨by omega, by omega⟩, _, _, rfl, k _⟩
theorem sc_l_number : FnScope ["cell", "number"] ["cell"] (defScope s_l_number) := ⟨rfl, rfl, rfl, by decide +kernel, rfl, by decide +kernel, by decide +kernel⟩
theorem ok_l_number (T : Txt w K mg t) : FnOk P w K mg base (CX1 P w) 1 t.a_l_number t.d_l_number ["cell"] (sp_l_number) := by
  refine T.l_number.fn.okN sc_l_number (fun vs H Q E h => ?_) (fun cdv A outer s H vs Q E hr h => ?_)
  · obtain ⟨c, rfl, k⟩ := h
    rfl
  · obtain ⟨c, rfl, k⟩ := h
    refine ⟨_, Bx.un (bpss_cons (bps_set (i := 1) sc_l_number.nd rfl (by first | exact Or.inl rfl | exact Or.inr rfl) (bpe_ixA ix_list (bpe_lst (bpa_cons (bpe_op op_mod (bpv 0) bpe_int) (bpa_cons (bpe_op op_mod (bpe_op op_fdiv (bpv 0) bpe_int) (bpe_op op_pow bpe_int bpe_int)) (bpa_cons (bpe_op op_sub (bpe_op op_sub (bpe_op op_pow bpe_int bpe_int) bpe_int) (bpe_op op_mod (bpv 0) bpe_int)) bpa_nil)))) (bpe_op op_mod (bpe_op op_fdiv (bpv 0) bpe_int) bpe_int)))
      (bpss_cons (bps_if (bpt_cmpR op_eq (bpe_op op_mod (bpe_op op_fdiv (bpv 0) bpe_int) bpe_int) bpe_int (nomark _))
      (bpss_one (bps_ret (bpe_callTy call_str_int (by rfl) T.b_str PyProof.Rows.boot_str (bpa_cons (bpe_un un_neg (bpv 1)) bpa_nil))))
      bpss_nil)
      (bpss_one (bps_ret (bpe_callTy call_str_int (by rfl) T.b_str PyProof.Rows.boot_str (bpa_cons (bpv 1) bpa_nil)))))), ?_⟩
    walk_at "rs"
    refine seq_rule fun N hN => ?_
    walk_at "rd"
    refine ⟨by decide, by decide, by decide, fun p hp => ?_⟩
    have big : (10 : Nat) ^ 60 = 1000000000000000000000000000000000000000000000000000000000000 := by decide
    have cs : c / 3 % 3 = 0 ∨ c / 3 % 3 = 1 ∨ c / 3 % 3 = 2 := by omega
    have pick : ∃ v : Int, v.natAbs < 10 ^ 60 ∧ atI [V.int (c % 1000), V.int (c / 7 % 1000000000000000000000000000000000000000000000000000000000000), V.int (1000000000000000000000000000000000000000000000000000000000000 - 1 - c % 9)] (c / 3 % 3) = some (V.int v) := by
      rcases cs with h | h | h <;> rw [h] <;> refine ⟨_, ?_, rfl⟩ <;> rw [big] <;> omega
    obtain ⟨v, v0, hv⟩ := pick
    refine rd_ixL upd_same hv (hN _ _ ?_)
    clear hN N
    have n1 := Same.new (o := .lst [V.int (c % 1000), V.int (c / 7 % 1000000000000000000000000000000000000000000000000000000000000), V.int (1000000000000000000000000000000000000000000000000000000000000 - 1 - c % 9)]) hp
    generalize upd H p (.lst [V.int (c % 1000), V.int (c / 7 % 1000000000000000000000000000000000000000000000000000000000000), V.int (1000000000000000000000000000000000000000000000000000000000000 - 1 - c % 9)]) = H1 at n1
    walk_at "rd"
    refine ite_both (fun _ => ?_) fun _ => ?_
    · have h : (-v).natAbs < 10 ^ 60 := by rw [Int.natAbs_neg]; exact v0
      refine ⟨num_log h, ?_⟩
      rw [numC_tx]
      exact k _ _ h n1
    · refine ⟨num_log v0, ?_⟩
      rw [numC_tx]
      exact k _ _ v0 n1
theorem sc_l_row : FnScope ["cell", "way", "many", "rest", "name", "key", "act", "other"] ["cell", "way", "many"] (defScope s_l_row) := ⟨rfl, rfl, rfl, by decide +kernel, rfl, by decide +kernel, by decide +kernel⟩
theorem ok_l_row (T : Txt w K mg t) : FnOk P w K mg base (CX1 P w) 4 t.a_l_row t.d_l_row ["cell", "way", "many"] (sp_l_row) := by
  have G_l_name := (ok_l_name (P := P) (w := w) (base := base) T).mono (show 2 ≤ 3 by decide)
  have G_l_key := (ok_l_key (P := P) (w := w) (base := base) T).mono (show 3 ≤ 3 by decide)
  have G_l_number := (ok_l_number (P := P) (w := w) (base := base) T).mono (show 1 ≤ 3 by decide)
  refine T.l_row.fn.okN sc_l_row (fun vs H Q E h => ?_) (fun cdv A outer s H vs Q E hr h => ?_)
  · obtain ⟨c, w, m, rfl, m0, m1, k⟩ := h
    rfl
  · obtain ⟨c, w, m, rfl, m0, m1, k⟩ := h
    refine ⟨_, Bx.un (bpss_cons (bps_set (i := 3) sc_l_row.nd rfl (by first | exact Or.inl rfl | exact Or.inr rfl) (bpe_op op_fdiv (bpv 0) bpe_int))
      (bpss_cons (bps_set (i := 4) sc_l_row.nd rfl (by first | exact Or.inl rfl | exact Or.inr rfl) (bpe_fnx T.l_name G_l_name hr pass0' (bpa_cons (bpe_op op_mod (bpv 3) bpe_int) (bpa_cons (bpv 1) bpa_nil))))
      (bpss_cons (bps_set (i := 5) sc_l_row.nd rfl (by first | exact Or.inl rfl | exact Or.inr rfl) (bpe_op op_add_str bpe_str (bpe_fnx T.l_key G_l_key hr pass0' (bpa_cons (bpe_op op_mod (bpe_op op_fdiv (bpv 3) bpe_int) bpe_int) (bpa_cons (bpv 1) bpa_nil)))))
      (bpss_cons (bps_set (i := 6) sc_l_row.nd rfl (by first | exact Or.inl rfl | exact Or.inr rfl) (bpe_op op_mod (bpv 0) bpe_int))
      (bpss_cons (bps_if (bpt_cmpR op_lt (bpv 6) bpe_int (nomark _))
      (bpss_one (bps_ret (bpe_op op_add_str bpe_str (bpv 4))))
      bpss_nil)
      (bpss_cons (bps_if (bpt_cmpR op_eq (bpv 6) bpe_int (nomark _))
      (bpss_one (bps_ret (bpe_op op_add_str bpe_str (bpv 4))))
      bpss_nil)
      (bpss_cons (bps_if (bpt_cmpR op_lt (bpv 6) bpe_int (nomark _))
      (bpss_one (bps_ret (bpe_op op_add_str (bpe_op op_add_str (bpe_op op_add_str (bpe_op op_add_str bpe_str (bpv 4)) (bpv 5)) bpe_str) (bpe_fnx T.l_number G_l_number hr pass0' (bpa_cons (bpe_op op_fdiv (bpv 3) bpe_int) bpa_nil)))))
      bpss_nil)
      (bpss_cons (bps_if (bpt_cmpR op_eq (bpv 6) bpe_int (nomark _))
      (bpss_one (bps_ret (bpe_op op_add_str (bpe_op op_add_str bpe_str (bpv 4)) (bpv 5))))
      bpss_nil)
      (bpss_cons (bps_if (bpw_and (bpt_cmpR op_eq (bpv 6) bpe_int (nomark _)) (bpw_and1 (bpt_cmpR op_eq (bpe_op op_mod (bpv 3) bpe_int) bpe_int (nomark _)))).bpt
      (bpss_one (bps_ret (bpe_op op_add_str bpe_str (bpe_callTy call_str_int (by rfl) T.b_str PyProof.Rows.boot_str (bpa_cons (bpe_op op_mod (bpe_op op_fdiv (bpv 3) bpe_int) (bpe_op op_add (bpv 2) bpe_int)) bpa_nil)))))
      bpss_nil)
      (bpss_cons (bps_set (i := 7) sc_l_row.nd rfl (by first | exact Or.inl rfl | exact Or.inr rfl) (bpe_op op_add_str (bpe_op op_add_str bpe_str (bpe_fnx T.l_name G_l_name hr pass0' (bpa_cons (bpe_op op_mod (bpe_op op_fdiv (bpv 3) bpe_int) bpe_int) (bpa_cons (bpv 1) bpa_nil)))) bpe_str))
      (bpss_one (bps_ret (bpe_op op_add_str (bpe_op op_add_str (bpe_op op_add_str (bpe_op op_add_str bpe_str (bpv 4)) (bpv 5)) (bpv 7)) (bpe_fnx T.l_number G_l_number hr pass0' (bpa_cons (bpe_op op_fdiv (bpv 3) bpe_int) bpa_nil))))))))))))))), ?_⟩
    walk_at "rs"
    have nl : ∀ x : Int, (nameC x w).length ≤ 12 := fun x => (good_ok (nameC_good x w)).2
    have no : ∀ x : Int, okT (nameC x w) := fun x => (good_ok (nameC_good x w)).1
    refine seq_rule fun N hN => ?_
    walk_at "rd"
    refine hN _ _ ?_
    clear hN N
    refine seq_rule fun N hN => ?_
    walk_at "rd"
    refine ⟨_, _, rfl, hN _ _ ?_⟩
    clear hN N
    refine seq_rule fun N hN => ?_
    walk_at "rd"
    refine ⟨_, _, rfl, by omega, by omega, fun m2 => ⟨_, rfl, sz_of (by rw [tx_len]; have := nl m2; omega), hN _ _ ?_⟩⟩
    clear hN N
    rw [tx_app]
    refine seq_rule fun N hN => ?_
    walk_at "rd"
    refine hN _ _ ?_
    clear hN N
    have ok32 : okT [32] := by intro x hx; rw [List.mem_singleton.mp hx]; decide
    generalize hn1 : nameC (c / 10 % 6) w = n1
    have l1 : n1.length ≤ 12 := by rw [← hn1]; exact nl _
    have o1 : okT n1 := by rw [← hn1]; exact no _
    have l2 := nl m2
    have o2 := no m2
    clear hn1
    have ok0 : okT [] := fun x hx => nomatch hx
    walk_at "rd"
    generalize nameC m2 w = n2 at l2 o2
    refine ite_both (fun _ => ⟨sz_of (by omega), k _ _ (by simp only [List.length_cons]; omega) (okc (by decide) (okc (by decide) (okc (by decide) (okc (by decide) (okc (by decide) (okc (by decide) o1)))))) (Same.refl _)⟩) fun _ => ite_both (fun _ => ⟨sz_of (by omega), k _ _ (by simp only [List.length_cons]; omega) (okc (by decide) (okc (by decide) (okc (by decide) (okc (by decide) (okc (by decide) o1))))) (Same.refl _)⟩) fun _ =>
      ite_both (fun _ => ⟨sz_of (by omega), sz_of (by omega), sz_of (by simp only [List.length_append, List.length_cons]; omega), _, rfl, fun nn H2 hnn s2 => ?_⟩) fun _ => ite_both (fun _ => ⟨sz_of (by omega), sz_of (by omega), k _ _ (by simp only [List.length_append, List.length_cons]; omega) (okc (by decide) (okc (by decide) (okc (by decide) (okc (by decide) (okc (by decide) (okA o1 (okc (by decide) o2))))))) (Same.refl _)⟩) fun _ => ?_
    · have ln := numC_len hnn
      refine ⟨_, rfl, sz_of (by simp only [List.length_append, List.length_cons, List.length_nil, tx_len]; omega), ?_⟩
      rw [tx_app]
      refine k _ _ (by simp only [List.length_append, List.length_cons, List.length_nil]; omega) ?_ s2
      exact okA (okc (by decide) (okc (by decide) (okc (by decide) (okc (by decide) (okA (okA o1 (okc (by decide) o2)) (okc (by decide) ok0)))))) (okN nn)
    refine by_else (fun els => ite_both (fun _ => ite_both (fun _ => ?_) fun _ => els) fun _ => els) ?_
    · have z0 : 0 ≤ c / 10 / 3 % (m + 1) := Int.emod_nonneg _ (by omega)
      have z1 : c / 10 / 3 % (m + 1) < m + 1 := Int.emod_lt_of_pos _ (by omega)
      generalize c / 10 / 3 % (m + 1) = z at z0 z1
      have zz : z.natAbs < 10 ^ 60 := Nat.lt_of_lt_of_le (show z.natAbs < 2000 by omega) (by decide)
      have ln := numC_len zz
      refine ⟨by omega, num_log zz, ?_⟩
      rw [numC_tx, tx_len, tx_app]
      exact ⟨sz_of (by omega), k _ _ (by simp only [List.length_append, List.length_cons, List.length_nil]; omega) (okA (okc (by decide) (okc (by decide) (okc (by decide) (okc (by decide) ok0)))) (okN z)) (Same.refl _)⟩
    · refine ⟨_, _, rfl, _, rfl, ?_⟩
      have l3 := nl (c / 10 / 7 % 6)
      have o3 := no (c / 10 / 7 % 6)
      generalize nameC (c / 10 / 7 % 6) w = n3 at l3 o3
      rw [tx_app, tx_app, tx_len, tx_len, tx_len, tx_app]
      refine ⟨sz_of (by omega), sz_of (by simp only [List.length_append, List.length_cons, List.length_nil]; omega), sz_of (by omega), sz_of (by omega), sz_of (by simp only [List.length_append, List.length_cons, List.length_nil]; omega), _, rfl, fun nn H2 hnn s2 => ⟨_, rfl, ?_⟩⟩
      have ln := numC_len hnn
      rw [tx_len, tx_len, tx_app]
      refine ⟨sz_of (by simp only [List.length_append, List.length_cons, List.length_nil]; omega), k _ _ (by simp only [List.length_append, List.length_cons, List.length_nil]; omega) ?_ s2⟩
      exact okA (okA (okc (by decide) (okc (by decide) (okc (by decide) (okc (by decide) (okA o1 (okc (by decide) o2)))))) (okA (okA (okc (by decide) ok0) o3) (okc (by decide) ok0))) (okN nn)
theorem sc_l_said : FnScope ["web", "row", "e"] ["web", "row"] (defScope s_l_said) := ⟨rfl, rfl, rfl, by decide +kernel, rfl, by decide +kernel, by decide +kernel⟩
theorem ok_l_said (T : Txt w K mg t) : FnOk P w K mg base (CX1 P w) 6 t.a_l_said t.d_l_said ["web", "row"] (sp_l_said t) := by
  have G_done_row := (ok_done_row (P := P) (w := w) (base := base) T).mono (show 5 ≤ 5 by decide)
  have GH_l_which := (okH_l_which (P := P) (w := w) (base := base) T).mono (show 1 ≤ 5 by decide)
  refine T.l_said.fn.okN sc_l_said (fun vs H Q E h => ?_) (fun cdv A outer s H vs Q E hr h => ?_)
  · obtain ⟨p, W, l, rfl, hw, pre, hz, k⟩ := h
    rfl
  · obtain ⟨p, W, l, rfl, hw, pre, hz, k⟩ := h
    refine ⟨_, Bx.un (bpss_one (bps_tryS T.xs T.g_SeekError sc_l_said.nd (i := 2) rfl rfl rfl rfl
      (bpsx_one (bpsx_ret (bxe_tup (bxa_cons (bxe_of (fun _ => bpe_str)) (bxa_cons (bxe_fn T.done_row G_done_row hr (fun _ => (bpa_cons (bpv 0) (bpa_cons (bpv 1) bpa_nil)))) bxa_nil)))))
      (fun _ => (bpss_one (bps_ret (bpe_tup (bpa_cons bpe_str (bpa_cons (bpe_fnH T.l_which GH_l_which (hr.h _) (bpa_cons (bpv 2) bpa_nil)) bpa_nil)))))))), ?_⟩
    walk_at "rs"
    walk_at "rd"
    refine ⟨p, W, l, rfl, hw, pre, hz, ?_⟩
    refine row_to (t := t) (p := p) (W := W) (H := H) (E := fun c _ H' => ∃ C, c = Value.ref C ∧ C ∈ t.cs ∧ ∀ a, H' a = none → sp_l_which t [V.ref a] (upd H' a (hoExc a C)) (fun x H1 => 2 ≤ sizeLine ∧ ∀ p, H1 p = none → Q (V.ref p) (upd H1 p (.tup [.str (tx refC), x]))) E0) ?_
    cases e : stepR W.abs l with
    | error x =>
      rw [e] at k
      intro d H' s
      refine ⟨_, rfl, t.cx_in x, fun a ha => ⟨a, x, rfl, upd_same, fun H2 s2 => ⟨by decide, fun q hq => ?_⟩⟩⟩
      have s3 := (s.upd_new (o := hoExc a (t.cx x)) (s.free ha)).trans s2
      exact k q _ (s3.upd_new (s3.free hq)) upd_same
    | ok y =>
      obtain ⟨A, v⟩ := y
      rw [e] at k
      intro H' W' w' ea st
      exact ⟨by decide, fun q hq => k q _ W' (w'.same (Same.new hq)) ea (st.trans (L2.Step.same (Same.new hq))) upd_same⟩
theorem sc_l_picture : FnScope ["web", "rows", "name"] ["web"] (defScope s_l_picture) := ⟨rfl, rfl, rfl, by decide +kernel, rfl, by decide +kernel, by decide +kernel⟩
theorem ok_l_picture (T : Txt w K mg t) : FnOk P w K mg base (CX1 P w) 3 t.a_l_picture t.d_l_picture ["web"] (sp_l_picture t K) := by
  have G_Web_things := (ok_Web_things (P := P) (w := w) (base := base) T).mono (show 1 ≤ 2 by decide)
  have G_Web_tie := (ok_Web_tie (P := P) (w := w) (base := base) T).mono (show 2 ≤ 2 by decide)
  have G_Web_values_of := (ok_Web_values_of (P := P) (w := w) (base := base) T).mono (show 2 ≤ 2 by decide)
  have G_Web_ties := (ok_Web_ties (P := P) (w := w) (base := base) T).mono (show 1 ≤ 2 by decide)
  refine T.l_picture.fn.okN sc_l_picture (fun vs H Q E h => ?_) (fun cdv A outer s H vs Q E hr h => ?_)
  · obtain ⟨p, W, n, rfl, hw, g, hn, k⟩ := h
    rfl
  · obtain ⟨p, W, n, rfl, hw, g, hn, k⟩ := h
    refine ⟨_, Bx.un (bpss_cons (bps_set (i := 1) sc_l_picture.nd rfl (by first | exact Or.inl rfl | exact Or.inr rfl) (bpe_lst bpa_nil))
      (bpss_cons (bps_for PassesOwn.never rfl (bpi_list (bpe_mx0 (bpv 0) T.o_Web T.Web_things G_Web_things hr pass0')) (bpg_name (i := 2) sc_l_picture.nd rfl (by first | exact Or.inl rfl | exact Or.inr rfl))
      (bpss_one (bps_expr (bpe_bm PySem.F.plainAttrs_list PySem.F.slot_list_append PySem.F.type_list_append mt_append (bpv 1) (bpa_cons (bpe_tup (bpa_cons (bpv 2) (bpa_cons (bpe_mx (bpv 0) T.o_Web T.Web_values_of G_Web_values_of hr pass0' (bpa_cons (bpv 2) bpa_nil)) bpa_nil))) bpa_nil)))))
      (bpss_one (bps_ret (bpe_op op_cat (bpv 1) (bpe_comp rfl (N := ["number", "web"]) (fr := [0]) (CSc.of (by kernel_rfl)) (bpi_list (bpe_mx0 (bpv 0) T.o_Web T.Web_ties G_Web_ties hr pass0')) (fun _ _ _ _ _ => bpts_nil)
        (fun _ _ _ _ _ => (bpe_mx (bpv 1) T.o_Web T.Web_tie G_Web_tie hr pass0' (bpa_cons (bpv 0) bpa_nil))))))))), ?_⟩
    walk_at "rs"
    refine seq_rule fun N hN => ?_
    walk_at "rd"
    refine ⟨Nat.zero_le _, fun q hq => hN _ _ ?_⟩
    clear hN N
    have n1 := Same.new (o := .lst []) hq
    have q1 : upd H q (.lst []) q = some (.lst []) := upd_same
    generalize upd H q (.lst []) = H1 at n1 q1
    have hw1 := hw.same n1
    have things : W.abs.things = W.vals.map fun x => (x.1, x.2.2) := rfl
    have tl : W.abs.things.length ≤ 100 := by rw [things, List.length_map]; exact hw.few
    have ndn : (W.vals.map (·.1)).Nodup := hw.names
    refine seq_rule fun N hN => ?_
    refine ⟨_, rfl, _, _, _, rfl, hw1.obj, rfl, p, W, rfl, hw1, fun ln hln => ?_⟩
    have nq : q ≠ ln := fun e => by rw [← e, q1] at hln; cases hln
    refine ⟨ln, rfl, ⟨_, SqL.of upd_same⟩, for_list (xs := (W.vals.map (·.1)).map fun z => V.str (tx z)) (fun i σ H2 => ∃ (v : Option V) (bs : List Addr), σ = [some (.ref p), some (.ref q), v] ∧ H2 q = some (.lst (bs.map V.ref)) ∧ H2 ln = some (.lst ((W.vals.map (·.1)).map fun z => V.str (tx z))) ∧ All2 (PicAt H2 q) bs (W.abs.things.take i) ∧ Same H H2)
      ⟨none, [], rfl, (upd_ne nq).trans q1, upd_same, .nil, n1.trans (Same.new hln)⟩ (fun i σ H2 _ ⟨_, _, _, _, e, _⟩ => SqL.of e) ?_ ?_⟩
    · rintro i y σ H2 hi ⟨v, bs, rfl, eq, el, al, s2⟩
      clear hN
      rw [List.map_map] at hi
      obtain ⟨x, hx, rfl⟩ := map_get hi
      have hw2 := hw.same s2
      have hlook : W.abs.look x.1 = some x.2.2 := by rw [look_abs]; exact lookV_mem ndn (List.mem_of_getElem? hx)
      have xt : W.abs.things[i]? = some (x.1, x.2.2) := by rw [things, List.getElem?_map, hx]; rfl
      have xm := List.mem_of_getElem? xt
      have bl := al.len
      rw [List.length_take] at bl
      walk_at "rg"
      walk_at "rd"
      refine ⟨tyV_lst (SqL.of eq), _, _, hw2.obj, rfl, p, W, x.1, rfl, hw2, ?_⟩
      rw [hlook]
      refine ⟨Nat.lt_of_le_of_lt (g.few _ xm) hn, g.nd _ xm, fun l as H3 hl ha s3 el3 fr at3 => ⟨by decide, fun b hb => ?_⟩⟩
      have lq : l ≠ q := fun e => by rw [e, eq] at hl; cases hl
      have n3 := Same.new (o := HO.tup [.str (tx x.1), .ref l]) hb
      have s4 := s3.trans n3
      have eq4 := s4 _ _ eq
      refine ⟨_, eq4, sz_of (by rw [List.length_map]; omega), bs ++ [b], by rw [upd_same, List.map_append]; rfl, (upd_ne nq.symm).trans (s4 _ _ el), ?_, (s2.trans s4).upd_new hq⟩
      rw [show W.abs.things.take (i + 1) = W.abs.things.take i ++ [(x.1, x.2.2)] by rw [List.take_add_one, xt]; rfl]
      exact All2.snoc (R := PicAt _ q) (PicAt.off (x := (x.1, x.2.2)) ⟨l, as, upd_same, n3 _ _ el3, lq, ha, fun i a y e1 e2 => n3 _ _ (at3 i a y e1 e2)⟩ eq4) (al.imp fun c z r => (r.same s4).off eq4)
    · rintro σ H2 ⟨v, bs, rfl, eq, el, al, s2⟩
      refine hN _ _ ?_
      clear hN N
      have hw2 := hw.same s2
      have fT := hw.fewT
      rw [List.length_map, List.length_map, List.take_of_length_le (by rw [things, List.length_map]; exact Nat.le_refl _)] at al
      have bl := al.len
      walk_at "rd"
      refine ⟨_, rfl, _, _, _, rfl, hw2.obj, rfl, p, W, rfl, hw2, fun lt hlt => ?_⟩
      have e3 : upd H2 lt (.lst ((W.ties.map (·.1)).map V.int)) lt = some (.lst (W.ties.map fun c => V.int c.1)) := by rw [upd_same, List.map_map]; rfl
      have n3 := Same.new (o := HO.lst ((W.ties.map (·.1)).map V.int)) hlt
      refine ⟨lt, rfl, ⟨_, SqL.of e3⟩, comp_map (tells_list (SqL.of e3)) (fun c => .ref c.2.1) (sz_of (by omega)) (fun c H3 Q2 hc s3 h => ?_) fun D H3 hD s3 d3 => ?_⟩
      · have hw3 := hw2.same (n3.trans s3)
        refine ⟨_, rfl, _, _, _, rfl, hw3.obj, rfl, _, rfl, p, W, c.1, rfl, hw3, ?_⟩
        rw [if_pos (List.mem_map.mpr ⟨c, hc, rfl⟩)]
        intro a tie hm
        rw [show a = c.2.1 from congrArg (fun x => x.2.1) (tie_one hw.nums hm hc rfl)]
        exact h _ (Same.refl _)
      · have s4 := n3.trans s3
        refine ⟨D, rfl, _, s4 _ _ eq, _, d3, sz_of (by rw [List.length_map, List.length_map]; omega), fun r hr => ?_⟩
        have n4 := Same.new (o := HO.lst (bs.map V.ref ++ W.ties.map fun c => V.ref c.2.1)) hr
        have s5 := s4.trans n4
        refine k r _ ((s2.trans s4).free hr) (s2.trans s5) (.lst (SqL.of upd_same) (DatVs.append (datVs_of (fun a x r => (r.same s5).dat) al) ?_))
        have := dat_ties (K := K) (hw2.same s5).tups
        unfold WS.abs
        rw [List.map_map]
        exact this
theorem sc_done_rows : FnScope ["web", "rows", "changed", "row"] ["web", "rows"] (defScope s_done_rows) := ⟨rfl, rfl, rfl, by decide +kernel, rfl, by decide +kernel, by decide +kernel⟩
theorem ok_done_rows (T : Txt w K mg t) : FnOk P w K mg base (CX1 P w) 6 t.a_done_rows t.d_done_rows ["web", "rows"] (sp_done_rows t) := by
  have G_Web_twin := (ok_Web_twin (P := P) (w := w) (base := base) T).mono (show 3 ≤ 5 by decide)
  have G_done_row := (ok_done_row (P := P) (w := w) (base := base) T).mono (show 5 ≤ 5 by decide)
  refine T.done_rows.fn.okX sc_done_rows (fun vs H Q E h => ?_) (fun cdv A outer s H vs Q E hr h => ?_)
  · obtain ⟨p, l, W, ls, n, rfl, hw, g, few, hl, lz, k⟩ := h
    rfl
  · obtain ⟨p, l, W, ls, n, rfl, hw, g, few, hl, lz, k⟩ := h
    refine ⟨_, Bx.un (bpss_cons (bps_set (i := 2) sc_done_rows.nd rfl (by first | exact Or.inl rfl | exact Or.inr rfl) (bpe_mx0 (bpv 0) T.o_Web T.Web_twin G_Web_twin hr pass1))
      (bpss_cons (bps_for PassesOwn.leaving rfl (bpi_list (bpv 1)) (bpg_name (i := 3) sc_done_rows.nd rfl (by first | exact Or.inl rfl | exact Or.inr rfl))
      (bpss_one (bps_expr (bpe_fnx T.done_row G_done_row hr pass1 (bpa_cons (bpv 2) (bpa_cons (bpv 3) bpa_nil))))))
      (bpss_one (bps_ret (bpv 2))))), ?_⟩
    walk_at "rs"
    refine seq_rule fun N hN => ?_
    walk_at "rd"
    refine ⟨_, _, hw.obj, rfl, p, W, rfl, hw, fun q H1 W1 hq s1 w1 ea own => hN _ _ ?_⟩
    clear hN N
    refine seq_rule fun N hN => ?_
    refine ⟨_, rfl, l, rfl, ⟨_, SqL.of (s1 _ _ hl)⟩, for_list (xs := ls.map fun z => V.str (tx z)) (fun i σ H2 => ∃ (v : Option V) (W2 : WS), σ = [some (.ref p), some (.ref l), some (.ref q), v] ∧ WebAt t.c_Web H2 q W2 ∧ Mine H H2 (W2.own q) ∧ runC W.abs ls = runC W2.abs (ls.drop i) ∧ GoodA W2.abs (n + i))
      ⟨none, W1, rfl, w1, ⟨s1, own⟩, by rw [ea]; rfl, by rw [ea]; exact g⟩ (fun i σ H2 _ ⟨_, _, _, _, m2, _⟩ => SqL.of (m2.same _ _ hl)) ?_ ?_⟩
    · rintro i y σ H2 hi ⟨v, W2, rfl, w2, m2, er, g2⟩
      clear hN
      obtain ⟨x, hx, rfl⟩ := map_get hi
      have il : i < ls.length := (List.getElem?_eq_some_iff.mp hx).1
      have xz := lz x (List.mem_of_getElem? hx)
      rw [drop_at hx] at er
      walk_at "rg"
      walk_at "rd"
      refine ⟨q, W2, x, rfl, w2, g2.pre (by omega), xz, row_to ?_⟩
      cases e : stepR W2.abs x with
      | error r =>
        rw [runC_err e] at er
        rw [er] at k
        exact fun d H' s' => k d H' (m2.same.trans s')
      | ok z =>
        obtain ⟨A, u⟩ := z
        rw [runC_ok e] at er
        intro H' W' w' ea' st
        refine ⟨W', w', ?_, ?_, ?_⟩
        · have := m2.step st (fun b hb => hb)
          exact this.mono fun b hb => List.mem_append_left _ hb
        · rw [er, ea']
        · rw [ea']
          exact g2.step e
    · rintro σ H2 ⟨v, W2, rfl, w2, m2, er, g2⟩
      refine hN _ _ ?_
      walk_at "rd"
      rw [List.length_map, List.drop_length] at er
      rw [er] at k
      exact k q H2 W2 hq m2.same w2 rfl m2.new
theorem sc_number_shown : FnScope ["number"] ["number"] (defScope s_number_shown) := ⟨rfl, rfl, rfl, by decide +kernel, rfl, by decide +kernel, by decide +kernel⟩
theorem ok_number_shown (T : Txt w K mg t) : FnOk P w K mg base (CX1 P w) 1 t.a_number_shown t.d_number_shown ["number"] (sp_number_shown) := by
  refine T.number_shown.fn.okN sc_number_shown (fun vs H Q E h => ?_) (fun cdv A outer s H vs Q E hr h => ?_)
  · obtain ⟨n, rfl, hn, k⟩ := h
    rfl
  · obtain ⟨n, rfl, hn, k⟩ := h
    refine ⟨_, Bx.un (bpss_one (bps_ret (bpe_callTy call_str_int (by rfl) T.b_str PyProof.Rows.boot_str (bpa_cons (bpv 0) bpa_nil)))), ?_⟩
    walk_at "rd"
    exact ⟨num_log hn, by rw [numC_tx]; exact k⟩
theorem sc_rows_of : FnScope ["text"] ["text"] (defScope s_rows_of) := ⟨rfl, rfl, rfl, by decide +kernel, rfl, by decide +kernel, by decide +kernel⟩
theorem ok_rows_of (T : Txt w K mg t) : FnOk P w K mg base (CX1 P w) 1 t.a_rows_of t.d_rows_of ["text"] (sp_rows_of) := by
  refine T.rows_of.fn.okN sc_rows_of (fun vs H Q E h => ?_) (fun cdv A outer s H vs Q E hr h => ?_)
  · obtain ⟨l, rfl, hz, k⟩ := h
    rfl
  · obtain ⟨l, rfl, hz, k⟩ := h
    refine ⟨_, Bx.un (bpss_cons (bps_if (bpt_cmpR op_eq (bpv 0) bpe_str (nomark _))
      (bpss_one (bps_ret (bpe_lst bpa_nil)))
      bpss_nil)
      (bpss_one (bps_ret (bpe_bm PySem.F.plainAttrs_str PySem.F.slot_str_split PySem.F.type_str_split mt_split (bpv 0) (bpa_cons bpe_str bpa_nil))))), ?_⟩
    walk_at "rd"
    unfold rowsC sts at k
    split
    · rename_i h
      rw [if_pos h] at k
      exact ⟨Nat.zero_le _, k⟩
    · rename_i h
      rw [if_neg h] at k
      exact rd_split (by rw [sizeLine_eq]; omega) k
theorem sc_text_of : FnScope ["rows"] ["rows"] (defScope s_text_of) := ⟨rfl, rfl, rfl, by decide +kernel, rfl, by decide +kernel, by decide +kernel⟩
theorem ok_text_of (T : Txt w K mg t) : FnOk P w K mg base (CX1 P w) 1 t.a_text_of t.d_text_of ["rows"] (sp_text_of) := by
  refine T.text_of.fn.okN sc_text_of (fun vs H Q E h => ?_) (fun cdv A outer s H vs Q E hr h => ?_)
  · obtain ⟨p, ys, rfl, hp, hz, k⟩ := h
    rfl
  · obtain ⟨p, ys, rfl, hp, hz, k⟩ := h
    refine ⟨_, Bx.un (bpss_one (bps_ret (bpe_bm PySem.F.plainAttrs_str PySem.F.slot_str_join PySem.F.type_str_join mt_joinS bpe_str (bpa_cons (bpv 0) bpa_nil)))), ?_⟩
    walk_at "rd"
    exact rd_joinS (SqL.of hp) (by omega) k
theorem sc_thing_rows : FnScope ["web", "name", "rows", "key", "number"] ["web", "name"] (defScope s_thing_rows) := ⟨rfl, rfl, rfl, by decide +kernel, rfl, by decide +kernel, by decide +kernel⟩
theorem ok_thing_rows (T : Txt w K mg t) : FnOk P w K mg base (CX1 P w) 3 t.a_thing_rows t.d_thing_rows ["web", "name"] (sp_thing_rows t) := by
  have G_Web_values_of := (ok_Web_values_of (P := P) (w := w) (base := base) T).mono (show 2 ≤ 2 by decide)
  have G_number_shown := (ok_number_shown (P := P) (w := w) (base := base) T).mono (show 1 ≤ 2 by decide)
  refine T.thing_rows.fn.okN sc_thing_rows (fun vs H Q E h => ?_) (fun cdv A outer s H vs Q E hr h => ?_)
  · obtain ⟨p, W, n, x, rfl, hw, g, gs, hn, hx, k⟩ := h
    rfl
  · obtain ⟨p, W, n, x, rfl, hw, g, gs, hn, hx, k⟩ := h
    refine ⟨_, Bx.un (bpss_cons (bps_set (i := 2) sc_thing_rows.nd rfl (by first | exact Or.inl rfl | exact Or.inr rfl) (bpe_lst (bpa_cons (bpe_bm PySem.F.plainAttrs_str PySem.F.slot_str_join PySem.F.type_str_join mt_joinS bpe_str (bpa_cons (bpe_lst (bpa_cons bpe_str (bpa_cons (bpv 1) bpa_nil))) bpa_nil)) bpa_nil)))
      (bpss_cons (bps_for PassesOwn.never rfl (bpi_list (bpe_mx (bpv 0) T.o_Web T.Web_values_of G_Web_values_of hr pass0' (bpa_cons (bpv 1) bpa_nil))) (bpg_tup rfl (bpgs_cons (bpg_name (i := 3) sc_thing_rows.nd rfl (by first | exact Or.inl rfl | exact Or.inr rfl)) (bpgs_cons (bpg_name (i := 4) sc_thing_rows.nd rfl (by first | exact Or.inl rfl | exact Or.inr rfl)) bpgs_nil)))
      (bpss_one (bps_expr (bpe_bm PySem.F.plainAttrs_list PySem.F.slot_list_append PySem.F.type_list_append mt_append (bpv 2) (bpa_cons (bpe_bm PySem.F.plainAttrs_str PySem.F.slot_str_join PySem.F.type_str_join mt_joinS bpe_str (bpa_cons (bpe_lst (bpa_cons bpe_str (bpa_cons (bpv 1) (bpa_cons (bpv 3) (bpa_cons (bpe_fnx T.number_shown G_number_shown hr pass0' (bpa_cons (bpv 4) bpa_nil)) bpa_nil))))) bpa_nil)) bpa_nil)))))
      (bpss_one (bps_ret (bpv 2))))), ?_⟩
    walk_at "rs"
    have lx : x.1.length ≤ 12 := (good_ok (gs.gn x hx)).2
    have hlook : W.abs.look x.1 = some x.2 := by
      obtain ⟨y, hy, e⟩ := List.mem_map.mp hx
      rw [look_abs, ← e]
      exact lookV_mem hw.names hy
    refine seq_rule fun N hN => ?_
    walk_at "rd"
    refine ⟨by decide, fun r hr => rd_joinS (ys := [wThing, x.1]) (SqL.of upd_same) (by simp only [List.map_cons, List.map_nil, List.sum_cons, List.sum_nil, List.length_cons, List.length_nil]; unfold wThing; simp only [List.length_cons, List.length_nil]; omega) ⟨by decide, fun q hq => hN _ _ ?_⟩⟩
    clear hN N
    have s1 : Same H (upd (upd H r (.lst [V.str (tx [116, 104, 105, 110, 103]), V.str (tx x.1)])) q (.lst [V.str (tx (joinC 32 [wThing, x.1]))])) := (Same.new hr).trans (Same.new hq)
    have q1 : upd (upd H r (.lst [V.str (tx [116, 104, 105, 110, 103]), V.str (tx x.1)])) q (.lst [V.str (tx (joinC 32 [wThing, x.1]))]) q = some (sts [rowT x.1]) := upd_same
    have q0 := (Same.new hr).free hq
    generalize upd (upd H r (.lst [V.str (tx [116, 104, 105, 110, 103]), V.str (tx x.1)])) q (.lst [V.str (tx (joinC 32 [wThing, x.1]))]) = H1 at s1 q1
    have hw1 := hw.same s1
    refine seq_rule fun N hN => ?_
    refine ⟨_, rfl, _, _, _, rfl, hw1.obj, rfl, _, rfl, p, W, x.1, rfl, hw1, ?_⟩
    rw [hlook]
    refine ⟨Nat.lt_of_le_of_lt (g.few _ hx) hn, g.nd _ hx, fun l as H3 hl ha s3 el3 fr at3 => ?_⟩
    have nq : q ≠ l := fun e => by rw [← e, q1] at hl; cases hl
    refine ⟨l, rfl, ⟨_, SqL.of el3⟩, for_list (xs := (sortP (ltN x.2) x.2.length).map fun i => V.ref (as.getD i 0)) (fun i σ H2 => ∃ (v5 v6 : Option V), σ = [some (.ref p), some (.str (tx x.1)), some (.ref q), v5, v6] ∧ H2 q = some (sts (rowT x.1 :: ((srt x.2).take i).map (rowS x.1))) ∧ H2 l = some (.lst ((sortP (ltN x.2) x.2.length).map fun i => V.ref (as.getD i 0))) ∧ (∀ i, i < x.2.length → H2 (as.getD i 0) = some (.tup [.str (tx (keyAt x.2 i)), .int (numAt' x.2 i)])) ∧ Same H H2)
      ⟨none, none, rfl, s3 _ _ q1, el3, fun i hi => ?_, s1.trans s3⟩ (fun i σ H2 _ ⟨_, _, _, _, e, _⟩ => SqL.of e) ?_ ?_⟩
    · have e1 : as[i]? = some (as.getD i 0) := by rw [List.getD_eq_getElem?_getD, List.getElem?_eq_getElem (by omega)]; rfl
      have e2 : x.2[i]? = some (x.2.getD i ([], 0)) := by rw [List.getD_eq_getElem?_getD, List.getElem?_eq_getElem hi]; rfl
      exact at3 i _ _ e1 e2
    · rintro i y σ H2 hi ⟨v5, v6, rfl, eq, el, tu, s2⟩
      obtain ⟨j, hj, rfl⟩ := map_get hi
      clear hN
      have jl : j < x.2.length := sortP_lt (List.mem_of_getElem? hj)
      have e2 : x.2[j]? = some (keyAt x.2 j, numAt' x.2 j) := by unfold keyAt numAt'; rw [List.getD_eq_getElem?_getD, List.getElem?_eq_getElem jl]; rfl
      have ok := gs.gk x hx _ (List.mem_of_getElem? e2)
      dsimp only at ok
      have tk : (srt x.2).take (i + 1) = (srt x.2).take i ++ [(keyAt x.2 j, numAt' x.2 j)] := by
        rw [List.take_add_one, show (srt x.2)[i]? = some (keyAt x.2 j, numAt' x.2 j) by unfold srt; rw [List.getElem?_map, hj]; rfl]
        rfl
      have lk := (good_ok ok.1).2
      have lv := numC_len ok.2
      have li : i < x.2.length := by
        have := (List.getElem?_eq_some_iff.mp hj).1
        rwa [sortP_len] at this
      have l64 := Nat.lt_of_le_of_lt (g.few _ hx) hn
      walk_at "rg"
      walk_at "rd"
      refine ⟨_, SqT.of (tu j jl), rfl, _, _, rfl, _, _, rfl, rfl, tyV_lst (SqL.of eq), _, rfl, ok.2, by decide, fun r hr => rd_joinS (ys := [wSet, x.1, keyAt x.2 j, numC (numAt' x.2 j)]) (SqL.of upd_same) ?_ ⟨_, (Same.new hr) _ _ eq, ?_, ?_, ?_, fun i' hi' => ?_, ?_⟩⟩
      · simp only [List.map_cons, List.map_nil, List.sum_cons, List.sum_nil, List.length_cons, List.length_nil]
        unfold wSet
        simp only [List.length_cons, List.length_nil]
        omega
      · refine Nat.lt_of_le_of_lt (m := 200) ?_ (by rw [sizeLine_eq]; decide)
        simp only [List.length_map, List.length_cons, List.length_take]
        omega
      · rw [upd_same, tk]
        unfold sts
        rw [List.map_cons, List.map_cons, List.map_append, List.map_append]
        rfl
      · refine (upd_ne ?_).trans ((Same.new hr) _ _ el)
        exact nq.symm
      · refine (upd_ne ?_).trans ((Same.new hr) _ _ (tu i' hi'))
        intro z
        have := tu i' hi'
        rw [z, eq] at this
        cases this
      · exact (s2.trans (Same.new hr)).upd_new q0
    · rintro σ H2 ⟨v5, v6, rfl, eq, el, tu, s2⟩
      refine hN _ _ ?_
      clear hN N
      walk_at "rd"
      rw [List.length_map, sortP_len, ← srt_len, List.take_length] at eq
      exact k q H2 q0 s2 eq
theorem sc_tie_row : FnScope ["tie"] ["tie"] (defScope s_tie_row) := ⟨rfl, rfl, rfl, by decide +kernel, rfl, by decide +kernel, by decide +kernel⟩
theorem ok_tie_row (T : Txt w K mg t) : FnOk P w K mg base (CX1 P w) 2 t.a_tie_row t.d_tie_row ["tie"] (sp_tie_row) := by
  have G_number_shown := (ok_number_shown (P := P) (w := w) (base := base) T).mono (show 1 ≤ 1 by decide)
  refine T.tie_row.fn.okN sc_tie_row (fun vs H Q E h => ?_) (fun cdv A outer s H vs Q E hr h => ?_)
  · obtain ⟨a, x, rfl, ha, l1, l2, l3, hv, k⟩ := h
    rfl
  · obtain ⟨a, x, rfl, ha, l1, l2, l3, hv, k⟩ := h
    refine ⟨_, Bx.un (bpss_one (bps_ret (bpe_bm PySem.F.plainAttrs_str PySem.F.slot_str_join PySem.F.type_str_join mt_joinS bpe_str (bpa_cons (bpe_lst (bpa_cons bpe_str (bpa_cons (bpe_ixA ix_tup (bpv 0) bpe_int) (bpa_cons (bpe_ixA ix_tup (bpv 0) bpe_int) (bpa_cons (bpe_ixA ix_tup (bpv 0) bpe_int) (bpa_cons (bpe_fnx T.number_shown G_number_shown hr pass0' (bpa_cons (bpe_ixA ix_tup (bpv 0) bpe_int) bpa_nil)) bpa_nil)))))) bpa_nil)))), ?_⟩
    walk_at "rs"
    walk_at "rd"
    have lv := numC_len hv
    refine rd_ixT ha rfl (rd_ixT ha rfl (rd_ixT ha rfl (rd_ixT ha rfl ⟨_, rfl, hv, by decide, fun p hp => rd_joinS (ys := [wTie, x.start, x.name, x.stop, numC x.weight]) (SqL.of upd_same) ?_ (k _ (Same.new hp))⟩)))
    simp only [List.map_cons, List.map_nil, List.sum_cons, List.sum_nil, List.length_cons, List.length_nil]
    unfold wTie
    simp only [List.length_cons, List.length_nil]
    omega
theorem sc_shown_web : FnScope ["web", "rows", "name", "number"] ["web"] (defScope s_shown_web) := ⟨rfl, rfl, rfl, by decide +kernel, rfl, by decide +kernel, by decide +kernel⟩
theorem ok_shown_web (T : Txt w K mg t) : FnOk P w K mg base (CX1 P w) 4 t.a_shown_web t.d_shown_web ["web"] (sp_shown_web t) := by
  have G_Web_things := (ok_Web_things (P := P) (w := w) (base := base) T).mono (show 1 ≤ 3 by decide)
  have G_Web_ties := (ok_Web_ties (P := P) (w := w) (base := base) T).mono (show 1 ≤ 3 by decide)
  have G_thing_rows := (ok_thing_rows (P := P) (w := w) (base := base) T).mono (show 3 ≤ 3 by decide)
  have G_tie_row := (ok_tie_row (P := P) (w := w) (base := base) T).mono (show 2 ≤ 3 by decide)
  have G_Web_tie := (ok_Web_tie (P := P) (w := w) (base := base) T).mono (show 2 ≤ 3 by decide)
  refine T.shown_web.fn.okN sc_shown_web (fun vs H Q E h => ?_) (fun cdv A outer s H vs Q E hr h => ?_)
  · obtain ⟨p, W, n, rfl, hw, g, gs, hn, k⟩ := h
    rfl
  · obtain ⟨p, W, n, rfl, hw, g, gs, hn, k⟩ := h
    refine ⟨_, Bx.un (bpss_cons (bps_set (i := 1) sc_shown_web.nd rfl (by first | exact Or.inl rfl | exact Or.inr rfl) (bpe_lst bpa_nil))
      (bpss_cons (bps_for PassesOwn.never rfl (bpi_list (bpe_mx0 (bpv 0) T.o_Web T.Web_things G_Web_things hr pass0')) (bpg_name (i := 2) sc_shown_web.nd rfl (by first | exact Or.inl rfl | exact Or.inr rfl))
      (bpss_one (bps_expr (bpe_bm PySem.F.plainAttrs_list PySem.F.slot_list_extend PySem.F.type_list_extend mt_extend (bpv 1) (bpa_cons (bpe_fnx T.thing_rows G_thing_rows hr pass0' (bpa_cons (bpv 0) (bpa_cons (bpv 2) bpa_nil))) bpa_nil)))))
      (bpss_cons (bps_for PassesOwn.never rfl (bpi_list (bpe_mx0 (bpv 0) T.o_Web T.Web_ties G_Web_ties hr pass0')) (bpg_name (i := 3) sc_shown_web.nd rfl (by first | exact Or.inl rfl | exact Or.inr rfl))
      (bpss_one (bps_expr (bpe_bm PySem.F.plainAttrs_list PySem.F.slot_list_append PySem.F.type_list_append mt_append (bpv 1) (bpa_cons (bpe_fnx T.tie_row G_tie_row hr pass0' (bpa_cons (bpe_mx (bpv 0) T.o_Web T.Web_tie G_Web_tie hr pass0' (bpa_cons (bpv 3) bpa_nil)) bpa_nil)) bpa_nil)))))
      (bpss_one (bps_ret (bpv 1)))))), ?_⟩
    walk_at "rs"
    refine seq_rule fun N hN => ?_
    walk_at "rd"
    refine ⟨Nat.zero_le _, fun q hq => hN _ _ ?_⟩
    clear hN N
    have n1 := Same.new (o := .lst []) hq
    have q1 : upd H q (.lst []) q = some (.lst []) := upd_same
    generalize upd H q (.lst []) = H1 at n1 q1
    have hw1 := hw.same n1
    have things : W.abs.things = W.vals.map fun x => (x.1, x.2.2) := rfl
    refine seq_rule fun N hN => ?_
    refine ⟨_, rfl, _, _, _, rfl, hw1.obj, rfl, p, W, rfl, hw1, fun ln hln => ?_⟩
    have nq : q ≠ ln := fun e => by rw [← e, q1] at hln; cases hln
    have hlen : ∀ i, ((W.abs.things.take i).flatMap rowsT).length ≤ 6400 := fun i => rows_few (fun x hx => by have := g.few x (List.mem_of_mem_take hx); omega) (by rw [List.length_take]; have := gs.len; omega)
    refine ⟨ln, rfl, ⟨_, SqL.of upd_same⟩, for_list (xs := (W.vals.map (·.1)).map fun z => V.str (tx z)) (fun i σ H2 => ∃ (v5 v6 : Option V), σ = [some (.ref p), some (.ref q), v5, v6] ∧ H2 q = some (sts ((W.abs.things.take i).flatMap rowsT)) ∧ H2 ln = some (.lst ((W.vals.map (·.1)).map fun z => V.str (tx z))) ∧ Same H H2)
      ⟨none, none, rfl, (upd_ne nq).trans q1, upd_same, n1.trans (Same.new hln)⟩ (fun i σ H2 _ ⟨_, _, _, _, e, _⟩ => SqL.of e) ?_ ?_⟩
    · rintro i y σ H2 hi ⟨v5, v6, rfl, eq, el, s2⟩
      clear hN
      rw [List.map_map] at hi
      obtain ⟨x, hx, rfl⟩ := map_get hi
      have hw2 := hw.same s2
      have xt : W.abs.things[i]? = some (x.1, x.2.2) := by rw [things, List.getElem?_map, hx]; rfl
      have xm := List.mem_of_getElem? xt
      walk_at "rg"
      walk_at "rd"
      refine ⟨tyV_lst (SqL.of eq), p, W, n, (x.1, x.2.2), rfl, hw2, g, gs, hn, xm, fun r H3 hr s3 e3 => ⟨q, r, _, _, rfl, rfl, s3 _ _ eq, e3, ?_, ?_, ?_, ?_⟩⟩
      · refine Nat.le_trans (m := 6500) ?_ (by rw [sizeLine_eq]; decide)
        have := hlen i
        have e : (rowsT (x.1, x.2.2)).length = x.2.2.length + 1 := by unfold rowsT; rw [List.length_cons, List.length_map, srt_len]
        have := g.few _ xm
        dsimp only at this
        simp only [List.length_map]
        rw [e]
        omega
      · rw [upd_same, List.take_add_one, xt]
        unfold sts
        rw [Option.toList_some, List.flatMap_append, List.map_append, List.flatMap_singleton]
      · exact (upd_ne nq.symm).trans (s3 _ _ el)
      · exact (s2.trans s3).upd_new hq
    · rintro σ H2 ⟨v5, v6, rfl, eq, el, s2⟩
      refine hN _ _ ?_
      clear hN N
      have hz := hlen W.abs.things.length
      rw [List.length_map, List.length_map, List.take_of_length_le (by rw [things, List.length_map]; exact Nat.le_refl _)] at eq
      rw [List.take_length] at hz
      clear hlen el nq hln ln
      generalize hR : W.abs.things.flatMap rowsT = R at eq hz
      have hw2 := hw.same s2
      refine seq_rule fun N hN => ?_
      refine ⟨_, rfl, _, _, _, rfl, hw2.obj, rfl, p, W, rfl, hw2, fun lt hlt => ?_⟩
      have e3 : upd H2 lt (.lst ((W.ties.map (·.1)).map V.int)) lt = some (.lst (W.ties.map fun c => V.int c.1)) := by rw [upd_same, List.map_map]; rfl
      have n3 := Same.new (o := HO.lst ((W.ties.map (·.1)).map V.int)) hlt
      have nl : q ≠ lt := fun e => by rw [← e, eq] at hlt; cases hlt
      refine ⟨lt, rfl, ⟨_, SqL.of e3⟩, for_list (xs := W.ties.map fun c => V.int c.1) (fun i σ H4 => ∃ (v : Option V), σ = [some (.ref p), some (.ref q), v5, v] ∧ H4 q = some (sts (R ++ (W.ties.take i).map fun c => rowB c.2.2)) ∧ H4 lt = some (.lst (W.ties.map fun c => V.int c.1)) ∧ Same H H4)
        ⟨v6, rfl, (by rw [List.take_zero, List.map_nil, List.append_nil]; exact n3 _ _ eq), e3, s2.trans n3⟩ (fun i σ H4 _ ⟨_, _, _, e, _⟩ => SqL.of e) ?_ ?_⟩
      · rintro i y σ H4 hi ⟨v, rfl, eq4, el4, s4⟩
        clear hN
        obtain ⟨c, hc, rfl⟩ := map_get hi
        have cm := List.mem_of_getElem? hc
        have hw4 := hw.same s4
        have tg := gs.ties (c.1, c.2.2) (List.mem_map.mpr ⟨c, cm, rfl⟩)
        have nmg : ∀ z ∈ W.abs.names, z.length ≤ 12 := fun z hz => by
          obtain ⟨u, hu, rfl⟩ := List.mem_map.mp hz
          exact (good_ok (gs.gn u hu)).2
        have fT := hw.fewT
        walk_at "rg"
        walk_at "rd"
        refine ⟨tyV_lst (SqL.of eq4), _, _, hw4.obj, rfl, p, W, c.1, rfl, hw4, ?_⟩
        rw [if_pos (List.mem_map.mpr ⟨c, cm, rfl⟩)]
        intro a tie hm
        have ec := tie_one hw.nums hm cm rfl
        obtain rfl : a = c.2.1 := congrArg (fun x => x.2.1) ec
        refine ⟨_, c.2.2, rfl, hw4.tups c cm, nmg _ tg.1, (good_ok tg.2.2.1).2, nmg _ tg.2.1, tg.2.2.2, fun H5 s5 => ⟨_, s5 _ _ eq4, ?_, ?_, ?_, ?_⟩⟩
        · refine Nat.lt_of_le_of_lt (m := 7000) ?_ (by rw [sizeLine_eq]; decide)
          simp only [List.length_map, List.length_append, List.length_take]
          omega
        · rw [upd_same, List.take_add_one, hc]
          unfold sts
          rw [Option.toList_some, List.map_append, List.map_append, List.map_append, List.map_append, List.append_assoc]
          rfl
        · exact (upd_ne nl.symm).trans (s5 _ _ el4)
        · exact (s4.trans s5).upd_new hq
      · rintro σ H4 ⟨v, rfl, eq4, el4, s4⟩
        refine hN _ _ ?_
        clear hN N
        rw [List.length_map, List.take_length] at eq4
        walk_at "rd"
        refine k q H4 hq s4 ?_
        rw [eq4, ← hR]
        unfold showC
        rw [show (W.abs.ties.map fun x => rowB x.2) = W.ties.map fun c => rowB c.2.2 by unfold WS.abs; rw [List.map_map]; rfl]
theorem sc_read_web : FnScope ["rows"] ["rows"] (defScope s_read_web) := ⟨rfl, rfl, rfl, by decide +kernel, rfl, by decide +kernel, by decide +kernel⟩
theorem ok_read_web (T : Txt w K mg t) : FnOk P w K mg base (CX1 P w) 8 t.a_read_web t.d_read_web ["rows"] (sp_read_web t) := by
  have G_done_rows := (ok_done_rows (P := P) (w := w) (base := base) T).mono (show 6 ≤ 7 by decide)
  have G_Web_init := (ok_Web_init (P := P) (w := w) (base := base) T).mono (show 1 ≤ 6 by decide)
  refine T.read_web.fn.okX sc_read_web (fun vs H Q E h => ?_) (fun cdv A outer s H vs Q E hr h => ?_)
  · obtain ⟨l, ls, rfl, few, hl, lz, k⟩ := h
    rfl
  · obtain ⟨l, ls, rfl, few, hl, lz, k⟩ := h
    refine ⟨_, Bx.un (bpss_one (bps_ret (bpe_fnx T.done_rows G_done_rows hr pass1 (bpa_cons (bpe_make0 T.mk_Web G_Web_init hr (by rfl) T.g_Web T.Web_init.b .nil pass1) (bpa_cons (bpv 0) bpa_nil))))), ?_⟩
    walk_at "rs"
    walk_at "rd"
    intro p dx hp hdx hne
    refine ⟨p, dx, rfl, upd_same, fun H1 W w1 e1 e2 e3 off own => ⟨rfl, ?_⟩⟩
    have mi1 : Mine H H1 (W.own p) := web_new hp hdx off own
    have ea : W.abs = ⟨[], [], 0⟩ := by
      unfold WS.abs
      rw [e1, e2, e3]
      rfl
    refine ⟨p, l, W, ls, 0, rfl, w1, ?_, by omega, mi1.same _ _ hl, lz, ?_⟩
    · rw [ea]
      exact ⟨fun x hx => (by cases hx), fun x hx => (by cases hx), fun x hx => (by cases hx), fun x hx => (by cases hx), fun x hx => (by cases hx), fun x hx => (by cases hx)⟩
    rw [ea]
    cases e : runC ⟨[], [], 0⟩ ls with
    | error x =>
      rw [e] at k
      exact fun d H' s' => k d H' (mi1.same.trans s')
    | ok A =>
      rw [e] at k
      intro q H' W' hq s' w' ea' own'
      exact k q H' W' (mi1.fresh hq) (mi1.same.trans s') w' ea' fun b hb => mi1.fresh (own' b hb)
theorem sc_l_due_rows : FnScope ["web", "rows", "name", "pair", "number", "tie"] ["web"] (defScope s_l_due_rows) := ⟨rfl, rfl, rfl, by decide +kernel, rfl, by decide +kernel, by decide +kernel⟩
theorem ok_l_due_rows (T : Txt w K mg t) : FnOk P w K mg base (CX1 P w) 3 t.a_l_due_rows t.d_l_due_rows ["web"] (sp_l_due_rows t) := by
  have G_Web_things := (ok_Web_things (P := P) (w := w) (base := base) T).mono (show 1 ≤ 2 by decide)
  have G_Web_ties := (ok_Web_ties (P := P) (w := w) (base := base) T).mono (show 1 ≤ 2 by decide)
  have G_Web_values_of := (ok_Web_values_of (P := P) (w := w) (base := base) T).mono (show 2 ≤ 2 by decide)
  have G_Web_tie := (ok_Web_tie (P := P) (w := w) (base := base) T).mono (show 2 ≤ 2 by decide)
  refine T.l_due_rows.fn.okN sc_l_due_rows (fun vs H Q E h => ?_) (fun cdv A outer s H vs Q E hr h => ?_)
  · obtain ⟨p, W, n, rfl, hw, g, gs, hn, k⟩ := h
    rfl
  · obtain ⟨p, W, n, rfl, hw, g, gs, hn, k⟩ := h
    refine ⟨_, Bx.un (bpss_cons (bps_set (i := 1) sc_l_due_rows.nd rfl (by first | exact Or.inl rfl | exact Or.inr rfl) (bpe_lst bpa_nil))
      (bpss_cons (bps_for PassesOwn.never rfl (bpi_list (bpe_mx0 (bpv 0) T.o_Web T.Web_things G_Web_things hr pass0')) (bpg_name (i := 2) sc_l_due_rows.nd rfl (by first | exact Or.inl rfl | exact Or.inr rfl))
      (bpss_cons (bps_expr (bpe_bm PySem.F.plainAttrs_list PySem.F.slot_list_append PySem.F.type_list_append mt_append (bpv 1) (bpa_cons (bpe_op op_add_str bpe_str (bpv 2)) bpa_nil)))
      (bpss_one (bps_for PassesOwn.never rfl (bpi_list (bpe_mx (bpv 0) T.o_Web T.Web_values_of G_Web_values_of hr pass0' (bpa_cons (bpv 2) bpa_nil))) (bpg_name (i := 3) sc_l_due_rows.nd rfl (by first | exact Or.inl rfl | exact Or.inr rfl))
      (bpss_one (bps_expr (bpe_bm PySem.F.plainAttrs_list PySem.F.slot_list_append PySem.F.type_list_append mt_append (bpv 1) (bpa_cons (bpe_op op_add_str (bpe_op op_add_str (bpe_op op_add_str (bpe_op op_add_str (bpe_op op_add_str bpe_str (bpv 2)) bpe_str) (bpe_ixA ix_tup (bpv 3) bpe_int)) bpe_str) (bpe_callTy call_str_int (by rfl) T.b_str PyProof.Rows.boot_str (bpa_cons (bpe_ixA ix_tup (bpv 3) bpe_int) bpa_nil))) bpa_nil))))))))
      (bpss_cons (bps_for PassesOwn.never rfl (bpi_list (bpe_mx0 (bpv 0) T.o_Web T.Web_ties G_Web_ties hr pass0')) (bpg_name (i := 4) sc_l_due_rows.nd rfl (by first | exact Or.inl rfl | exact Or.inr rfl))
      (bpss_cons (bps_set (i := 5) sc_l_due_rows.nd rfl (by first | exact Or.inl rfl | exact Or.inr rfl) (bpe_mx (bpv 0) T.o_Web T.Web_tie G_Web_tie hr pass0' (bpa_cons (bpv 4) bpa_nil)))
      (bpss_one (bps_expr (bpe_bm PySem.F.plainAttrs_list PySem.F.slot_list_append PySem.F.type_list_append mt_append (bpv 1) (bpa_cons (bpe_op op_add_str (bpe_op op_add_str (bpe_op op_add_str (bpe_op op_add_str (bpe_op op_add_str (bpe_op op_add_str (bpe_op op_add_str bpe_str (bpe_ixA ix_tup (bpv 5) bpe_int)) bpe_str) (bpe_ixA ix_tup (bpv 5) bpe_int)) bpe_str) (bpe_ixA ix_tup (bpv 5) bpe_int)) bpe_str) (bpe_callTy call_str_int (by rfl) T.b_str PyProof.Rows.boot_str (bpa_cons (bpe_ixA ix_tup (bpv 5) bpe_int) bpa_nil))) bpa_nil))))))
      (bpss_one (bps_ret (bpv 1)))))), ?_⟩
    walk_at "rs"
    refine seq_rule fun N hN => ?_
    walk_at "rd"
    refine ⟨Nat.zero_le _, fun q hq => hN _ _ ?_⟩
    clear hN N
    have n1 := Same.new (o := .lst []) hq
    have q1 : upd H q (.lst []) q = some (.lst []) := upd_same
    generalize upd H q (.lst []) = H1 at n1 q1
    have hw1 := hw.same n1
    have things : W.abs.things = W.vals.map fun x => (x.1, x.2.2) := rfl
    refine seq_rule fun N hN => ?_
    refine ⟨_, rfl, _, _, _, rfl, hw1.obj, rfl, p, W, rfl, hw1, fun ln hln => ?_⟩
    have nq : q ≠ ln := fun e => by rw [← e, q1] at hln; cases hln
    have hlen : ∀ i, ((W.abs.things.take i).flatMap rowsT).length ≤ 6400 := fun i => rows_few (fun x hx => by have := g.few x (List.mem_of_mem_take hx); omega) (by rw [List.length_take]; have := gs.len; omega)
    refine ⟨ln, rfl, ⟨_, SqL.of upd_same⟩, for_list (xs := (W.vals.map (·.1)).map fun z => V.str (tx z)) (fun i σ H2 => ∃ (v2 v3 v4 v5 : Option V), σ = [some (.ref p), some (.ref q), v2, v3, v4, v5] ∧ H2 q = some (sts ((W.abs.things.take i).flatMap rowsT)) ∧ H2 ln = some (.lst ((W.vals.map (·.1)).map fun z => V.str (tx z))) ∧ Same H H2)
      ⟨none, none, none, none, rfl, (upd_ne nq).trans q1, upd_same, n1.trans (Same.new hln)⟩ (fun i σ H2 _ ⟨_, _, _, _, _, _, e, _⟩ => SqL.of e) ?_ ?_⟩
    · rintro i y σ H2 hi ⟨v2, v3, v4, v5, rfl, eq, el, s2⟩
      clear hN
      rw [List.map_map] at hi
      obtain ⟨x, hx, rfl⟩ := map_get hi
      have hw2 := hw.same s2
      have xt : W.abs.things[i]? = some (x.1, x.2.2) := by rw [things, List.getElem?_map, hx]; rfl
      have xm := List.mem_of_getElem? xt
      have hi' := hlen i
      generalize hR : (W.abs.things.take i).flatMap rowsT = R at eq hi'
      have lx : x.1.length ≤ 12 := (good_ok (gs.gn _ xm)).2
      have hlook : W.abs.look x.1 = some x.2.2 := by rw [look_abs]; exact lookV_mem hw.names (List.mem_of_getElem? hx)
      have l64 := Nat.lt_of_le_of_lt (g.few _ xm) hn
      have tki : (W.abs.things.take (i + 1)).flatMap rowsT = R ++ rowsT (x.1, x.2.2) := by
        rw [List.take_add_one, xt, ← hR, Option.toList_some, List.flatMap_append, List.flatMap_singleton]
      rw [tki]
      have gk := gs.gk _ xm
      have nd := g.nd _ xm
      clear hR tki hx hi
      obtain ⟨xn, xa, xv⟩ := x
      dsimp only [Function.comp] at xm lx hlook l64 gk nd ⊢
      clear xt xm
      walk_at "rg"
      refine seq_rule fun N hN => ?_
      walk_at "rd"
      refine ⟨tyV_lst (SqL.of eq), sz_of (by omega), _, eq, ?_, ?_⟩
      · refine Nat.lt_of_le_of_lt (m := 7000) ?_ (by rw [sizeLine_eq]; decide)
        rw [List.length_map]
        omega
      refine hN _ _ ?_
      clear hN N
      have eq2 : upd H2 q (.lst (R.map (fun z => V.str (tx z)) ++ [V.str (tx (116 :: 104 :: 105 :: 110 :: 103 :: 32 :: xn))])) q = some (sts (R ++ [rowT xn])) := by
        rw [upd_same]
        unfold sts
        rw [List.map_append]
        rfl
      have s3 : Same H (upd H2 q (.lst (R.map (fun z => V.str (tx z)) ++ [V.str (tx (116 :: 104 :: 105 :: 110 :: 103 :: 32 :: xn))]))) := s2.upd_new hq
      have el3 := (upd_ne (o := .lst (R.map (fun z => V.str (tx z)) ++ [V.str (tx (116 :: 104 :: 105 :: 110 :: 103 :: 32 :: xn))])) nq.symm).trans el
      generalize upd H2 q (.lst (R.map (fun z => V.str (tx z)) ++ [V.str (tx (116 :: 104 :: 105 :: 110 :: 103 :: 32 :: xn))])) = H3 at eq2 s3 el3
      have hw3 := hw.same s3
      clear hw2 s2 el eq
      refine ⟨_, rfl, _, _, _, rfl, hw3.obj, rfl, _, rfl, p, W, xn, rfl, hw3, ?_⟩
      rw [hlook]
      refine ⟨l64, nd, fun l as H4 hl ha s4 el4 fr at4 => ?_⟩
      have nl : q ≠ l := fun e => by rw [← e, eq2] at hl; cases hl
      refine ⟨l, rfl, ⟨_, SqL.of el4⟩, for_list (xs := (sortP (ltN xv) xv.length).map fun i => V.ref (as.getD i 0)) (fun i σ H5 => ∃ v : Option V, σ = [some (.ref p), some (.ref q), some (.str (tx xn)), v, v4, v5] ∧ H5 q = some (sts (R ++ (rowT xn :: ((srt xv).take i).map (rowS xn)))) ∧ H5 ln = some (.lst ((W.vals.map (·.1)).map fun z => V.str (tx z))) ∧ H5 l = some (.lst ((sortP (ltN xv) xv.length).map fun i => V.ref (as.getD i 0))) ∧ (∀ i, i < xv.length → H5 (as.getD i 0) = some (.tup [.str (tx (keyAt xv i)), .int (numAt' xv i)])) ∧ Same H H5)
        ⟨v3, rfl, s4 _ _ eq2, s4 _ _ el3, el4, fun i hi => ?_, s3.trans s4⟩ (fun i σ H2 _ ⟨_, _, _, _, e, _⟩ => SqL.of e) ?_ ?_⟩
      · have e1 : as[i]? = some (as.getD i 0) := by rw [List.getD_eq_getElem?_getD, List.getElem?_eq_getElem (by omega)]; rfl
        have e2 : xv[i]? = some (xv.getD i ([], 0)) := by rw [List.getD_eq_getElem?_getD, List.getElem?_eq_getElem hi]; rfl
        exact at4 i _ _ e1 e2
      · rintro i y σ H5 hi ⟨v, rfl, eq5, el5, ll5, tu, s5⟩
        obtain ⟨j, hj, rfl⟩ := map_get hi
        have jl : j < xv.length := sortP_lt (List.mem_of_getElem? hj)
        have e2 : xv[j]? = some (keyAt xv j, numAt' xv j) := by unfold keyAt numAt'; rw [List.getD_eq_getElem?_getD, List.getElem?_eq_getElem jl]; rfl
        have ok := gk _ (List.mem_of_getElem? e2)
        dsimp only at ok
        have tk : (srt xv).take (i + 1) = (srt xv).take i ++ [(keyAt xv j, numAt' xv j)] := by
          rw [List.take_add_one, show (srt xv)[i]? = some (keyAt xv j, numAt' xv j) by unfold srt; rw [List.getElem?_map, hj]; rfl]
          rfl
        have lk := (good_ok ok.1).2
        have lv := numC_len ok.2
        have li : i < xv.length := by
          have := (List.getElem?_eq_some_iff.mp hj).1
          rwa [sortP_len] at this
        have ct := tu j jl
        walk_at "rg"
        walk_at "rd"
        refine ⟨tyV_lst (SqL.of eq5), (by (try simp only [numC_tx, tx_app, tx_len]); refine sz_of ?_; (try simp only [List.length_append, List.length_cons, List.length_nil]); omega), (by (try simp only [numC_tx, tx_app, tx_len]); refine sz_of ?_; (try simp only [List.length_append, List.length_cons, List.length_nil]); omega), rd_ixT ct rfl ⟨_, rfl, (by (try simp only [numC_tx, tx_app, tx_len]); refine sz_of ?_; (try simp only [List.length_append, List.length_cons, List.length_nil]); omega), (by (try simp only [numC_tx, tx_app, tx_len]); refine sz_of ?_; (try simp only [List.length_append, List.length_cons, List.length_nil]); omega), rd_ixT ct rfl ⟨_, rfl, num_log ok.2, (by (try simp only [numC_tx, tx_app, tx_len]); refine sz_of ?_; (try simp only [List.length_append, List.length_cons, List.length_nil]); omega), _, eq5, ?_, ?_, ?_, ?_, fun i' hi' => ?_, ?_⟩⟩⟩
        · refine Nat.lt_of_le_of_lt (m := 7000) ?_ (by rw [sizeLine_eq]; decide)
          simp only [List.length_map, List.length_append, List.length_cons, List.length_take]
          omega
        · rw [upd_same, tk]
          unfold sts
          rw [numC_tx]
          simp only [tx_app]
          rw [show 115 :: 101 :: 116 :: 32 :: (xn ++ [32]) ++ keyAt xv j ++ [32] ++ numC (numAt' xv j) = rowS xn (keyAt xv j, numAt' xv j) by unfold rowS wSet; simp [joinC]]
          simp only [List.map_append, List.append_assoc, List.cons_append, List.map_cons, List.map_nil]
        · exact (upd_ne nq.symm).trans el5
        · exact (upd_ne nl.symm).trans ll5
        · refine (upd_ne ?_).trans (tu i' hi')
          intro z
          have := tu i' hi'
          rw [z, eq5] at this
          cases this
        · exact s5.upd_new hq
      · rintro σ H5 ⟨v, rfl, eq5, el5, ll5, tu, s5⟩
        rw [List.length_map, sortP_len, ← srt_len, List.take_length] at eq5
        exact ⟨_, _, _, _, rfl, eq5, el5, s5⟩
    · rintro σ H2 ⟨v2, v3, v4, v5, rfl, eq, el, s2⟩
      refine hN _ _ ?_
      clear hN N
      have hz := hlen W.abs.things.length
      rw [List.length_map, List.length_map, List.take_of_length_le (by rw [things, List.length_map]; exact Nat.le_refl _)] at eq
      rw [List.take_length] at hz
      clear hlen el nq hln ln
      generalize hR : W.abs.things.flatMap rowsT = R at eq hz
      have hw2 := hw.same s2
      refine seq_rule fun N hN => ?_
      refine ⟨_, rfl, _, _, _, rfl, hw2.obj, rfl, p, W, rfl, hw2, fun lt hlt => ?_⟩
      have e3 : upd H2 lt (.lst ((W.ties.map (·.1)).map V.int)) lt = some (.lst (W.ties.map fun c => V.int c.1)) := by rw [upd_same, List.map_map]; rfl
      have n3 := Same.new (o := HO.lst ((W.ties.map (·.1)).map V.int)) hlt
      have nl : q ≠ lt := fun e => by rw [← e, eq] at hlt; cases hlt
      refine ⟨lt, rfl, ⟨_, SqL.of e3⟩, for_list (xs := W.ties.map fun c => V.int c.1) (fun i σ H4 => ∃ (v w : Option V), σ = [some (.ref p), some (.ref q), v2, v3, v, w] ∧ H4 q = some (sts (R ++ (W.ties.take i).map fun c => rowB c.2.2)) ∧ H4 lt = some (.lst (W.ties.map fun c => V.int c.1)) ∧ Same H H4)
        ⟨v4, v5, rfl, (by rw [List.take_zero, List.map_nil, List.append_nil]; exact n3 _ _ eq), e3, s2.trans n3⟩ (fun i σ H4 _ ⟨_, _, _, _, e, _⟩ => SqL.of e) ?_ ?_⟩
      · rintro i y σ H4 hi ⟨v, w, rfl, eq4, el4, s4⟩
        clear hN
        obtain ⟨c, hc, rfl⟩ := map_get hi
        have cm := List.mem_of_getElem? hc
        have hw4 := hw.same s4
        have tg := gs.ties (c.1, c.2.2) (List.mem_map.mpr ⟨c, cm, rfl⟩)
        have nmg : ∀ z ∈ W.abs.names, z.length ≤ 12 := fun z hz => by
          obtain ⟨u, hu, rfl⟩ := List.mem_map.mp hz
          exact (good_ok (gs.gn u hu)).2
        have fT := hw.fewT
        walk_at "rg"
        refine seq_rule fun N hN => ?_
        walk_at "rd"
        refine ⟨_, _, hw4.obj, rfl, p, W, c.1, rfl, hw4, ?_⟩
        rw [if_pos (List.mem_map.mpr ⟨c, cm, rfl⟩)]
        intro a tie hm
        have ec := tie_one hw.nums hm cm rfl
        obtain rfl : a = c.2.1 := congrArg (fun x => x.2.1) ec
        refine hN _ _ ?_
        clear hN N
        walk_at "rd"
        have ct := hw4.tups c cm
        have m1 := nmg _ tg.1
        have m2 := nmg _ tg.2.1
        have m3 := (good_ok tg.2.2.1).2
        have m4 := numC_len tg.2.2.2
        dsimp only at m1 m2 m3 m4
        refine ⟨tyV_lst (SqL.of eq4), rd_ixT ct rfl ⟨_, rfl, (by simp only [numC_tx, tx_app, tx_len]; refine sz_of ?_; (try simp only [List.length_append, List.length_cons, List.length_nil]); omega), (by simp only [numC_tx, tx_app, tx_len]; refine sz_of ?_; (try simp only [List.length_append, List.length_cons, List.length_nil]); omega), rd_ixT ct rfl ⟨_, rfl, (by simp only [numC_tx, tx_app, tx_len]; refine sz_of ?_; (try simp only [List.length_append, List.length_cons, List.length_nil]); omega), (by simp only [numC_tx, tx_app, tx_len]; refine sz_of ?_; (try simp only [List.length_append, List.length_cons, List.length_nil]); omega), rd_ixT ct rfl ⟨_, rfl, (by simp only [numC_tx, tx_app, tx_len]; refine sz_of ?_; (try simp only [List.length_append, List.length_cons, List.length_nil]); omega), (by simp only [numC_tx, tx_app, tx_len]; refine sz_of ?_; (try simp only [List.length_append, List.length_cons, List.length_nil]); omega), rd_ixT ct rfl ⟨_, rfl, num_log tg.2.2.2, (by simp only [numC_tx, tx_app, tx_len]; refine sz_of ?_; (try simp only [List.length_append, List.length_cons, List.length_nil]); omega), _, eq4, ?_, ?_, ?_, ?_⟩⟩⟩⟩⟩
        · refine Nat.lt_of_le_of_lt (m := 7000) ?_ (by rw [sizeLine_eq]; decide)
          simp only [List.length_map, List.length_append, List.length_take]
          omega
        · rw [upd_same, List.take_add_one, hc]
          unfold sts
          rw [Option.toList_some, List.map_append, List.map_append, List.map_append, List.map_append, List.append_assoc, numC_tx]
          simp only [tx_app]
          rw [show [116, 105, 101, 32] ++ c.2.2.start ++ [32] ++ c.2.2.name ++ [32] ++ c.2.2.stop ++ [32] ++ numC c.2.2.weight = rowB c.2.2 by unfold rowB wTie; simp [joinC]]
          rfl
        · exact (upd_ne nl.symm).trans el4
        · exact s4.upd_new hq
      · rintro σ H4 ⟨v, w, rfl, eq4, el4, s4⟩
        refine hN _ _ ?_
        clear hN N
        rw [List.length_map, List.take_length] at eq4
        walk_at "rd"
        refine k q H4 hq s4 ?_
        rw [eq4, ← hR]
        unfold showC
        rw [show (W.abs.ties.map fun x => rowB x.2) = W.ties.map fun c => rowB c.2.2 by unfold WS.abs; rw [List.map_map]; rfl]
theorem sc_l_back : FnScope ["web", "ahead", "due", "found", "other", "name"] ["web"] (defScope s_l_back) := ⟨rfl, rfl, rfl, by decide +kernel, rfl, by decide +kernel, by decide +kernel⟩
theorem ok_l_back (T : Txt w K mg t) : FnOk P w K mg base (CX1 P w) 9 t.a_l_back t.d_l_back ["web"] (sp_l_back t) := by
  have G_l_picture := (ok_l_picture (P := P) (w := w) (base := base) T).mono (show 3 ≤ 8 by decide)
  have G_l_due_rows := (ok_l_due_rows (P := P) (w := w) (base := base) T).mono (show 3 ≤ 8 by decide)
  have G_shown_web := (ok_shown_web (P := P) (w := w) (base := base) T).mono (show 4 ≤ 8 by decide)
  have G_read_web := (ok_read_web (P := P) (w := w) (base := base) T).mono (show 8 ≤ 8 by decide)
  have G_Web_things := (ok_Web_things (P := P) (w := w) (base := base) T).mono (show 1 ≤ 8 by decide)
  have G_rows_of := (ok_rows_of (P := P) (w := w) (base := base) T).mono (show 1 ≤ 8 by decide)
  have G_Web_ties := (ok_Web_ties (P := P) (w := w) (base := base) T).mono (show 1 ≤ 8 by decide)
  have G_text_of := (ok_text_of (P := P) (w := w) (base := base) T).mono (show 1 ≤ 8 by decide)
  have G_Web_add_tie := (ok_Web_add_tie (P := P) (w := w) (base := base) T).mono (show 3 ≤ 8 by decide)
  refine T.l_back.fn.okN sc_l_back (fun vs H Q E h => ?_) (fun cdv A outer s H vs Q E hr h => ?_)
  · obtain ⟨p, W, n, rfl, hw, g, gs, hn, k⟩ := h
    rfl
  · obtain ⟨p, W, n, rfl, hw, g, gs, hn, k⟩ := h
    refine ⟨_, Bx.un (bpss_cons (bps_set (i := 1) sc_l_back.nd rfl (by first | exact Or.inl rfl | exact Or.inr rfl) (bpe_fnx T.l_picture G_l_picture hr pass0' (bpa_cons (bpv 0) bpa_nil)))
      (bpss_cons (bps_set (i := 2) sc_l_back.nd rfl (by first | exact Or.inl rfl | exact Or.inr rfl) (bpe_fnx T.l_due_rows G_l_due_rows hr pass0' (bpa_cons (bpv 0) bpa_nil)))
      (bpss_cons (bps_set (i := 3) sc_l_back.nd rfl (by first | exact Or.inl rfl | exact Or.inr rfl) (bpe_fnx T.shown_web G_shown_web hr pass0' (bpa_cons (bpv 0) bpa_nil)))
      (bpss_cons (bps_if (bpw_or (bpt_not (bpt_val (bpe_callB call_isinst (by rfl) T.b_isinstance PyProof.Rows.boot_isinstance (bpa_cons (bpv 3) (bpa_cons (bpe_ty T.b_list PyProof.Rows.boot_list) bpa_nil))))) (bpw_or (bpt_cmpR (op_neD (hu64 hr)) (bpv 3) (bpv 2) (nomark _)) (bpw_or1 (bpt_cmpR (op_neD (hu64 hr)) (bpe_fnx T.l_picture G_l_picture hr pass0' (bpa_cons (bpv 0) bpa_nil)) (bpv 1) (nomark _))))).bpt
      (bpss_one (bps_ret bpe_bl))
      bpss_nil)
      (bpss_cons (bps_if (bpw_or (bpt_cmpR (op_neD (hu64 hr)) (bpe_fnx T.rows_of G_rows_of hr pass0' (bpa_cons (bpe_fnx T.text_of G_text_of hr pass0' (bpa_cons (bpv 3) bpa_nil)) bpa_nil)) (bpv 2) (nomark _)) (bpw_or1 (bpt_cmpR (op_neD (hu64 hr)) (bpv 3) (bpv 2) (nomark _)))).bpt
      (bpss_one (bps_ret bpe_bl))
      bpss_nil)
      (bpss_cons (bps_set (i := 4) sc_l_back.nd rfl (by first | exact Or.inl rfl | exact Or.inr rfl) (bpe_fnx T.read_web G_read_web hr pass0' (bpa_cons (bpv 3) bpa_nil)))
      (bpss_cons (bps_if (bpw_or (bpt_not (bpt_val (bpe_callB call_isinstO (by rfl) T.b_isinstance PyProof.Rows.boot_isinstance (bpa_cons (bpv 4) (bpa_cons (bpe_cls T.g_Web) bpa_nil))))) (bpw_or (bpt_cmpR (op_neD (hu64 hr)) (bpv 3) (bpv 2) (nomark _)) (bpw_or1 (bpt_cmpR (op_neD (hu64 hr)) (bpe_fnx T.l_picture G_l_picture hr pass0' (bpa_cons (bpv 4) bpa_nil)) (bpv 1) (nomark _))))).bpt
      (bpss_one (bps_ret bpe_bl))
      bpss_nil)
      (bpss_cons (bps_if (bpw_or (bpt_cmpR (op_neD (hu64 hr)) (bpe_mx0 (bpv 4) T.o_Web T.Web_ties G_Web_ties hr pass0') (bpe_listN rfl (by rfl) T.b_list (by rfl) T.b_range (bpa_cons (bpe_callB call_len_seq (by rfl) T.b_len PySem.boot_len (bpa_cons (bpe_mx0 (bpv 0) T.o_Web T.Web_ties G_Web_ties hr pass0') bpa_nil)) bpa_nil)) (nomark _)) (bpw_or1 (bpt_cmpR (op_neD (hu64 hr)) (bpe_fnx T.shown_web G_shown_web hr pass0' (bpa_cons (bpv 4) bpa_nil)) (bpv 2) (nomark _)))).bpt
      (bpss_one (bps_ret bpe_bl))
      bpss_nil)
      (bpss_cons (bps_expr (bpe_bm0 PySem.F.plainAttrs_list PySem.F.slot_list_clear PySem.F.type_list_clear mt_clear (bpv 3)))
      (bpss_cons (bps_if (bpt_cmpR (op_neD (hu64 hr)) (bpe_fnx T.shown_web G_shown_web hr pass0' (bpa_cons (bpv 0) bpa_nil)) (bpv 2) (nomark _))
      (bpss_one (bps_ret bpe_bl))
      bpss_nil)
      (bpss_cons (bps_for PassesOwn.never rfl (bpi_list (bpe_slice sl_list (bpe_mx0 (bpv 0) T.o_Web T.Web_things G_Web_things hr pass0') bpo_none (bpo_some bpe_int))) (bpg_name (i := 5) sc_l_back.nd rfl (by first | exact Or.inl rfl | exact Or.inr rfl))
      (bpss_one (bps_if (bpw_and (bpt_cmpR op_lt (bpe_callB call_len_seq (by rfl) T.b_len PySem.boot_len (bpa_cons (bpe_mx0 (bpv 0) T.o_Web T.Web_ties G_Web_ties hr pass0') bpa_nil)) bpe_int (nomark _)) (bpw_and1 (bpt_cmpR op_ne (bpe_mxD (bpv 4) T.o_Web T.Web_add_tie G_Web_add_tie hr pass0' (bpa_cons (bpv 5) (bpa_cons bpe_str (bpa_cons (bpv 5) bpa_nil)))) (bpe_callB call_len_seq (by rfl) T.b_len PySem.boot_len (bpa_cons (bpe_mx0 (bpv 0) T.o_Web T.Web_ties G_Web_ties hr pass0') bpa_nil)) (nomark _)))).bpt
      (bpss_one (bps_ret bpe_bl))
      bpss_nil)))
      (bpss_one (bps_ret (bpe_and (bpe_cmpR (op_eqD (hu64 hr)) (bpe_fnx T.l_picture G_l_picture hr pass0' (bpa_cons (bpv 0) bpa_nil)) (bpv 1) (nomark _)) (bpe_one (bpe_cmpR (op_eqD (hu64 hr)) (bpe_fnx T.l_picture G_l_picture hr pass0' (bpa_cons (bpe_fnx T.read_web G_read_web hr pass0' (bpa_cons (bpe_callTy call_list_of (by rfl) T.b_list PyProof.Rows.boot_list (bpa_cons (bpv 2) bpa_nil)) bpa_nil)) bpa_nil)) (bpv 1) (nomark _))))))))))))))))), ?_⟩
    walk_at "rs"
    refine seq_rule fun N hN => ?_
    walk_at "rd"
    refine ⟨p, W, n, rfl, hw, g, hn, fun qa H1 hqa s1 da => hN _ _ ?_⟩
    clear hN N
    have hw1 := hw.same s1
    refine seq_rule fun N hN => ?_
    walk_at "rd"
    refine ⟨p, W, n, rfl, hw1, g, gs, hn, fun du H2 hdu s2 ed => hN _ _ ?_⟩
    clear hN N
    have hw2 := hw1.same s2
    refine seq_rule fun N hN => ?_
    walk_at "rd"
    refine ⟨p, W, n, rfl, hw2, g, gs, hn, fun fo H3 hfo s3 ef => hN _ _ ?_⟩
    clear hN N
    have hw3 := hw2.same s3
    have ok : ∀ x ∈ showC W.abs, okT x := show_ok gs
    have shS := shaped_strs ok
    have few : (showC W.abs).length ≤ 6800 := show_few g gs hn
    have wt : ((showC W.abs).map List.length).sum + (showC W.abs).length ≤ 10000000 := show_wt gs few
    have lz : ∀ x ∈ showC W.abs, x.length ≤ 1000 := fun x hx => Nat.le_trans (show_len gs x hx) (by decide)
    have n10 : ∀ x ∈ showC W.abs, (10 : Nat) ∉ x := show_no gs
    have run := run_show gs g.nd
    have pb := pic_back (A := W.abs) g.nd
    have sb := show_back (A := W.abs) g.nd
    have ed3 := s3 _ _ ed
    have da3 := (da.same s2).same s3
    have shP := (pic_fit g hn).shaped (by decide)
    have dS : ∀ {H : Hp} {a : Addr}, H a = some (sts (showC W.abs)) → DatV K H (.ref a) (.list ((showC W.abs).map fun z => .str (tx z))) := fun e => .lst (SqL.of e) (datVs_strs _)
    refine seq_rule fun N hN => ?_
    walk_at "rd"
    refine ⟨_, .lst ef, _, kit_ll K, ite_F (by decide) ⟨_, dS ef, dS ed3, shS, p, W, n, rfl, hw3, g, hn, fun qb H4 _ s4 db => ⟨_, db, da3.same s4, shP, hN _ _ ?_⟩⟩⟩
    clear hN N
    have ef4 := s4 _ _ ef
    have ed4 := s4 _ _ ed3
    have da4 := da3.same s4
    have hw4 := hw3.same s4
    have rj := rows_join n10 (show_ne gs)
    refine seq_rule fun N hN => ?_
    walk_at "rd"
    refine ⟨fo, _, rfl, ef4, wt, _, rfl, Nat.le_trans (joinC_len 10 _) wt, fun r hr => ?_⟩
    rw [rj]
    have n5 := Same.new (o := sts (showC W.abs)) hr
    refine ⟨_, dS upd_same, dS (n5 _ _ ed4), shS, _, dS (n5 _ _ ef4), dS (n5 _ _ ed4), shS, hN _ _ ?_⟩
    clear hN N
    have ef5 := n5 _ _ ef4
    have ed5 := n5 _ _ ed4
    have da5 := da4.same n5
    have hw5 := hw4.same n5
    have s5 : Same H2 (upd H4 r (sts (showC W.abs))) := (s3.trans s4).trans n5
    have da2 := da.same s2
    generalize upd H4 r (sts (showC W.abs)) = H5 at n5 ef5 ed5 da5 hw5 s5
    clear n5 ef ef4 ed3 ed4 da3 da4 hw3 hw4 hr r db
    have s12 := s1.trans s2
    refine seq_rule fun N hN => ?_
    walk_at "rd"
    refine ⟨fo, _, rfl, by omega, ef5, lz, ?_⟩
    rw [run]
    intro o H6 O ho s6 wo eo ow
    refine hN _ _ ?_
    clear hN N
    have ef6 := s6 _ _ ef5
    have s6 := s5.trans s6
    have mo : Mine H2 H6 (O.own o) := ⟨s6, fun b hb => s5.free (ow b hb)⟩
    have fno : fo ∉ O.own o := fun z => by
      have := ow fo z
      rw [ef5] at this
      cases this
    clear s5 ed5 da5 hw5 ef5 ow ho s3 s4
    have go : GoodA O.abs n := by rw [eo]; exact back_good g gs
    have gos : GoodS O.abs := by rw [eo]; exact back_goods gs
    refine seq_rule fun N hN => ?_
    walk_at "rd"
    refine ⟨_, T.is_Web.ty T.o_Web wo.obj, _, T.is_Web.kit, ite_F (by decide) ⟨_, dS ef6, dS (s6 _ _ ed), shS, o, O, n, rfl, wo, go, hn, fun qb H7 _ s7 db => ⟨_, (by rw [eo, pb] at db; exact db), da2.same (s6.trans s7), shP, hN _ _ ?_⟩⟩⟩
    clear hN N
    have ef7 := s7 _ _ ef6
    have mo := mo.more s7
    have wo := wo.same s7
    have s7 := s6.trans s7
    clear s6 ef6 db
    refine seq_rule fun N hN => ?_
    walk_at "rd"
    refine ⟨_, _, wo.obj, rfl, o, O, rfl, wo, fun lt hlt => ⟨_, _, (hw2.same (s7.trans (Same.new hlt))).obj, rfl, p, W, rfl, hw2.same (s7.trans (Same.new hlt)), fun lu hlu => ⟨lu, rfl, _, .inl (SqL.of upd_same), ?_⟩⟩⟩
    have en : O.ties.map (·.1) = (List.range W.ties.length).map fun i : Nat => (i : Int) := by
      have e1 : O.ties.map (·.1) = O.abs.ties.map (·.1) := by unfold WS.abs; rw [List.map_map]; rfl
      rw [e1, eo, back_nums]
      unfold WS.abs
      rw [List.length_map]
    refine ⟨W.ties.length, by rw [List.length_map, List.length_map], by have := hw.fewT; omega, fun l hl => ?_⟩
    have n8 := ((Same.new (o := HO.lst (List.map V.int (List.map (fun x => x.1) O.ties))) hlt).trans (Same.new (o := HO.lst (List.map V.int (List.map (fun x => x.1) W.ties))) hlu)).trans (Same.new (o := HO.lst (List.map (fun i : Nat => V.int (i : Int)) (List.range W.ties.length))) hl)
    have dn : ∀ {H : Hp} {a : Addr}, H a = some (.lst ((List.range W.ties.length).map fun i : Nat => V.int (i : Int))) → DatV K H (.ref a) (.list (((List.range W.ties.length).map fun i : Nat => (i : Int)).map PyData.int)) := fun {H a} e => by
      refine .lst (SqL.of e) ?_
      have := datVs_ints (K := K) (H := H) ((List.range W.ties.length).map fun i : Nat => (i : Int))
      rw [List.map_map] at this
      exact this
    refine ⟨_, dn ?_, dn upd_same, shaped_ints _, o, O, n, rfl, wo.same n8, go, gos, hn, fun r H8 hr s8 e8 => ⟨_, (by rw [eo, sb] at e8; exact dS e8), dS ((s7.trans (n8.trans s8)) _ _ ed), shS, hN _ _ ?_⟩⟩
    · refine ((Same.new hlu).trans (Same.new hl)) _ _ ?_
      rw [upd_same, en, List.map_map]
      rfl
    clear hN N e8
    have ef8 := (n8.trans s8) _ _ ef7
    have mo := mo.more (n8.trans s8)
    have wo := wo.same (n8.trans s8)
    have s8 := s7.trans (n8.trans s8)
    clear s7 ef7 n8 hl hlu hlt hr dn
    refine seq_rule fun N hN => ?_
    walk_at "rd"
    refine ⟨tyV_lst (SqL.of ef8), fo, _, rfl, rfl, ef8, hN _ _ ?_⟩
    clear hN N
    have wo : WebAt t.c_Web (upd H8 fo (.lst [])) o O := wo.beside fno (fun xs z => by rw [ef8] at z; cases z)
    have s9 : Same H2 (upd H8 fo (.lst [])) := s8.upd_new hfo
    have mo : Mine H2 (upd H8 fo (.lst [])) (O.own o) := ⟨s9, mo.new⟩
    generalize upd H8 fo (.lst []) = H9 at s9 mo wo
    clear s8 ef8
    refine seq_rule fun N hN => ?_
    walk_at "rd"
    refine ⟨p, W, n, rfl, hw2.same s9, g, gs, hn, fun r HA hr sA eA => ⟨_, dS eA, dS ((s9.trans sA) _ _ ed), shS, hN _ _ ?_⟩⟩
    clear hN N eA hr
    have mo := mo.more sA
    have wo := wo.same sA
    have sA := s9.trans sA
    clear s9
    refine seq_rule fun N hN => ?_
    have hwA := hw2.same sA
    have things : W.abs.things = W.vals.map fun x => (x.1, x.2.2) := rfl
    refine ⟨_, rfl, _, _, _, rfl, hwA.obj, rfl, p, W, rfl, hwA, fun ln hln => ⟨1, rfl, ln, _, rfl, SqL.of upd_same, fun lc hlc => ?_⟩⟩
    rw [cut_str1]
    have nB := (Same.new (o := HO.lst ((W.vals.map (·.1)).map fun z => V.str (tx z))) hln).trans (Same.new (o := HO.lst (((W.vals.map (·.1)).take 1).map fun z => V.str (tx z))) hlc)
    have eB : upd (upd HA ln (HO.lst ((W.vals.map (·.1)).map fun z => V.str (tx z)))) lc (HO.lst (((W.vals.map (·.1)).take 1).map fun z => V.str (tx z))) lc = some (.lst (((W.vals.map (·.1)).take 1).map fun z => V.str (tx z))) := upd_same
    generalize upd (upd HA ln (HO.lst ((W.vals.map (·.1)).map fun z => V.str (tx z)))) lc (HO.lst (((W.vals.map (·.1)).take 1).map fun z => V.str (tx z))) = HB at nB eB
    have mo := mo.more nB
    have wo := wo.same nB
    refine ⟨lc, rfl, ⟨_, SqL.of eB⟩, for_list (xs := ((W.vals.map (·.1)).take 1).map fun z => V.str (tx z)) (fun i σ H' => ∃ (v : Option V) (O' : WS), σ = [some (.ref p), some (.ref qa), some (.ref du), some (.ref fo), some (.ref o), v] ∧ Mine H2 H' (O'.own o) ∧ WebAt t.c_Web H' o O' ∧ H' lc = some (.lst (((W.vals.map (·.1)).take 1).map fun z => V.str (tx z))) ∧ (i = 0 → O'.abs = backC W.abs))
      ⟨none, O, rfl, mo, wo, eB, fun _ => eo⟩ (fun i σ H' _ ⟨_, _, _, _, _, e, _⟩ => SqL.of e) ?_ ?_⟩
    · clear wo mo eB nB hlc hln hwA sA
      rintro i y σ H' hi ⟨v, O', rfl, mo, wo, eB, e0⟩
      clear hN
      obtain ⟨x, hx, rfl⟩ := map_get hi
      obtain rfl : i = 0 := by
        have := (List.getElem?_eq_some_iff.mp hx).1
        rw [List.length_take] at this
        omega
      have xm : x ∈ W.vals.map (·.1) := List.mem_of_mem_take (List.mem_of_getElem? hx)
      have e0 := e0 rfl
      have hw' := hw2.same mo.same
      have tl : W.abs.ties.length = W.ties.length := by unfold WS.abs; rw [List.length_map]
      walk_at "rg"
      walk_at "rd"
      refine ⟨_, _, hw'.obj, rfl, p, W, rfl, hw', fun lu hlu => ⟨lu, rfl, _, .inl (SqL.of upd_same), ?_⟩⟩
      have n1 := Same.new (o := HO.lst ((W.ties.map (·.1)).map V.int)) hlu
      generalize upd H' lu (HO.lst ((W.ties.map (·.1)).map V.int)) = H1' at n1
      have mo := mo.more n1
      have wo := wo.same n1
      have eB := n1 _ _ eB
      refine ite2 (fun hlt => ?_) fun _ => ⟨O', mo, wo, eB, fun z => z.elim⟩
      rw [List.length_map, List.length_map] at hlt
      have gO : GoodA O'.abs n := by rw [e0]; exact back_good g gs
      have low : ∀ z ∈ O'.ties.map (·.1), z < O'.next := fun z hz => gO.low z (by
        unfold WS.abs
        rw [List.map_map]
        exact hz)
      have nx : O'.next = (W.ties.length : Int) := by
        have : O'.abs.next = (backC W.abs).next := by rw [e0]
        rw [show O'.next = (W.abs.ties.length : Int) from this, tl]
      refine ⟨_, _, wo.obj, rfl, o, O', x, [97], x, 0, rfl, wo, low, by decide, ?_⟩
      have add : O'.abs.addTie x [97] x 0 = .ok { O'.abs with ties := O'.abs.ties ++ [(O'.abs.next, ⟨x, [97], x, 0⟩)], next := O'.abs.next + 1 } := by
        have xn : x ∈ O'.abs.names := by rw [e0, back_names, names_abs]; exact xm
        have l4 : O'.abs.ties.length < 400 := by
          rw [e0, show (backC W.abs).ties.length = W.abs.ties.length from (renum_len _ _).trans (List.length_map ..), tl]
          omega
        unfold WA.addTie
        rw [if_neg (by rintro (z | z) <;> exact z xn), if_neg (by decide), if_neg (by decide), if_neg (by omega)]
      rw [add]
      intro HD OD wD eD st
      have mD : Mine H2 HD (OD.own o) := (mo.step st fun b hb => hb).mono fun b hb => List.mem_append_left _ hb
      have hwD := hw2.same mD.same
      refine ⟨_, _, hwD.obj, rfl, p, W, rfl, hwD, fun lv hlv => ⟨lv, rfl, _, .inl (SqL.of upd_same), rfl, ite_F (fun z => z (by rw [nx, List.length_map, List.length_map])) ?_⟩⟩
      have n2 := Same.new (o := HO.lst ((W.ties.map (·.1)).map V.int)) hlv
      exact ⟨OD, mD.more n2, wD.same n2, n2 _ _ (st.off _ _ (wo.lst_off eB) eB), fun z => z.elim⟩
    · rintro σ H' ⟨v, O', rfl, mo', wo', eB', _⟩
      refine hN _ _ ?_
      clear hN N wo mo eB nB hlc hln hwA sA
      have hw' := hw2.same mo'.same
      walk_at "rd"
      refine ⟨p, W, n, rfl, hw', g, hn, fun r HC _ sC dC => ?_⟩
      have sD := mo'.same.trans sC
      refine ⟨_, dC, da2.same sD, shP, _, .inl (SqL.of (sD _ _ ed)), fun l hl => ⟨l, showC W.abs, rfl, by omega, upd_same, lz, ?_⟩⟩
      rw [run]
      intro o2 HD OD ho sE wE eE oE
      have sF := (Same.new (o := sts (showC W.abs)) hl).trans sE
      refine ⟨o2, OD, n, rfl, wE, by rw [eE]; exact back_good g gs, hn, fun r2 HF _ sG dG => ⟨_, (by rw [eE, pb] at dG; exact dG), da2.same ((sD.trans sF).trans sG), shP, k _ ?_⟩⟩
      exact s12.trans ((sD.trans sF).trans sG)
theorem sc_l_read_alike : FnScope ["rows", "mine", "due", "row", "handed", "other", "e"] ["rows"] (defScope s_l_read_alike) := ⟨rfl, rfl, rfl, by decide +kernel, rfl, by decide +kernel, by decide +kernel⟩
theorem ok_l_read_alike (T : Txt w K mg t) : FnOk P w K mg base (CX1 P w) 10 t.a_l_read_alike t.d_l_read_alike ["rows"] (sp_l_read_alike t) := by
  have G_Web_init := (ok_Web_init (P := P) (w := w) (base := base) T).mono (show 1 ≤ 8 by decide)
  have G_read_web := (ok_read_web (P := P) (w := w) (base := base) T).mono (show 8 ≤ 9 by decide)
  have G_l_said := (ok_l_said (P := P) (w := w) (base := base) T).mono (show 6 ≤ 9 by decide)
  have G_l_picture := (ok_l_picture (P := P) (w := w) (base := base) T).mono (show 3 ≤ 9 by decide)
  have GH_l_which := (okH_l_which (P := P) (w := w) (base := base) T).mono (show 1 ≤ 9 by decide)
  refine T.l_read_alike.fn.okN sc_l_read_alike (fun vs H Q E h => ?_) (fun cdv A outer s H vs Q E hr h => ?_)
  · obtain ⟨l, ls, rfl, few, hl, lz, k⟩ := h
    rfl
  · obtain ⟨l, ls, rfl, few, hl, lz, k⟩ := h
    refine ⟨_, Bx.un (bpss_cons (bps_set (i := 1) sc_l_read_alike.nd rfl (by first | exact Or.inl rfl | exact Or.inr rfl) (bpe_make0 T.mk_Web G_Web_init hr (by rfl) T.g_Web T.Web_init.b .nil pass0'))
      (bpss_cons (bps_set (i := 2) sc_l_read_alike.nd rfl (by first | exact Or.inl rfl | exact Or.inr rfl) (bpe_tup (bpa_cons bpe_str (bpa_cons bpe_non bpa_nil))))
      (bpss_cons (bps_for PassesOwn.never rfl (bpi_list (bpv 0)) (bpg_name (i := 3) sc_l_read_alike.nd rfl (by first | exact Or.inl rfl | exact Or.inr rfl))
      (bpss_one (bps_if (bpt_cmpR op_eq (bpe_ixA ix_tup (bpv 2) bpe_int) bpe_str (nomark _))
      (bpss_one (bps_set (i := 2) sc_l_read_alike.nd rfl (by first | exact Or.inl rfl | exact Or.inr rfl) (bpe_fnx T.l_said G_l_said hr pass0' (bpa_cons (bpv 1) (bpa_cons (bpv 3) bpa_nil)))))
      bpss_nil)))
      (bpss_cons (bps_set (i := 4) sc_l_read_alike.nd rfl (by first | exact Or.inl rfl | exact Or.inr rfl) (bpe_callTy call_list_of (by rfl) T.b_list PyProof.Rows.boot_list (bpa_cons (bpv 0) bpa_nil)))
      (bpss_cons (bps_tryS T.xs T.g_SeekError sc_l_read_alike.nd (i := 6) rfl rfl rfl rfl
      (bpsx_one (bpsx_set (i := 5) sc_l_read_alike.nd rfl (by first | exact Or.inl rfl | exact Or.inr rfl) (bxe_fn T.read_web G_read_web hr (fun _ => (bpa_cons (bpv 4) bpa_nil)))))
      (fun _ => (bpss_one (bps_ret (bpe_and (bpe_cmpR (op_eqDK K (hu64H (hr.h _))) (bpv 2) (bpe_tup (bpa_cons bpe_str (bpa_cons (bpe_fnH T.l_which GH_l_which (hr.h _) (bpa_cons (bpv 6) bpa_nil)) bpa_nil))) (nomark _)) (bpe_one (bpe_cmpR (op_eqDK K (hu64H (hr.h _))) (bpv 4) (bpv 0) (nomark _))))))))
      (bpss_one (bps_ret (bpe_and (bpe_cmpR op_eq (bpe_ixA ix_tup (bpv 2) bpe_int) bpe_str (nomark _)) (bpe_and (bpe_cmpR (op_eqD (hu64 hr)) (bpv 4) (bpv 0) (nomark _)) (bpe_one (bpe_cmpR (op_eqD (hu64 hr)) (bpe_fnx T.l_picture G_l_picture hr pass0' (bpa_cons (bpv 5) bpa_nil)) (bpe_fnx T.l_picture G_l_picture hr pass0' (bpa_cons (bpv 1) bpa_nil)) (nomark _)))))))))))), ?_⟩
    walk_at "rs"
    refine seq_rule fun N hN => ?_
    walk_at "rd"
    intro m dx hp hdx hne
    refine ⟨m, dx, rfl, upd_same, fun H1 M wm e1 e2 e3 off own => ⟨rfl, hN _ _ ?_⟩⟩
    clear hN N
    have mi1 : Mine H H1 (M.own m) := web_new hp hdx off own
    clear off own hp hdx hne dx
    have ea : M.abs = ⟨[], [], 0⟩ := by
      unfold WS.abs
      rw [e1, e2, e3]
      rfl
    clear e1 e2 e3
    refine seq_rule fun N hN => ?_
    walk_at "rd"
    refine ⟨by decide, fun d hd => hN _ _ ?_⟩
    clear hN N
    have n2 := Same.new (o := .tup [.str (tx toldC), .non]) hd
    have d2 : upd H1 d (.tup [.str (tx toldC), .non]) d = some (.tup [.str (tx toldC), .non]) := upd_same
    refine seq_rule fun N hN => ?_
    have okl : ∀ x ∈ ls, okT x := fun x hx => (lz x hx).2
    have dL : ∀ {H : Hp} {a : Addr}, H a = some (sts ls) → DatV K H (.ref a) (.list (ls.map fun z => .str (tx z))) := fun e => .lst (SqL.of e) (datVs_strs _)
    have shL := shaped_strs okl
    refine ⟨_, rfl, l, rfl, ⟨_, (n2.seq (mi1.same.seq (SqL.of hl)))⟩, for_list (xs := ls.map fun z => V.str (tx z)) (fun i σ H' => ∃ (v3 : Option V) (M' : WS) (q : Addr) (wv : Nm) (v : V), σ = [some (.ref l), some (.ref m), some (.ref q), v3, none, none, none] ∧ Mine H H' (M'.own m) ∧ WebAt t.c_Web H' m M' ∧ GoodA M'.abs i ∧ H' q = some (.tup [.str (tx wv), v]) ∧
        ((wv = toldC ∧ runC ⟨[], [], 0⟩ ls = runC M'.abs (ls.drop i)) ∨ ∃ e, wv = refC ∧ v = .str (tx (xword e)) ∧ runC ⟨[], [], 0⟩ ls = .error e))
      ⟨none, M, d, toldC, .non, rfl, mi1.more n2, wm.same n2, ?_, d2, .inl ⟨rfl, by rw [ea]; rfl⟩⟩ (fun i σ H' _ ⟨_, _, _, _, _, _, mi, _⟩ => SqL.of (mi.same _ _ hl)) ?_ ?_⟩
    · rw [ea]
      exact ⟨fun x hx => (by cases hx), fun x hx => (by cases hx), fun x hx => (by cases hx), fun x hx => (by cases hx), fun x hx => (by cases hx), fun x hx => (by cases hx)⟩
    · clear d2 n2 hd wm mi1 ea hN
      rintro i y σ H' hi ⟨v3, M', q, wv, v, rfl, mi, wm, gm, eq, alt⟩
      obtain ⟨x, hx, rfl⟩ := map_get hi
      have xz := lz x (List.mem_of_getElem? hx)
      have il : i < ls.length := (List.getElem?_eq_some_iff.mp hx).1
      walk_at "rg"
      walk_at "rd"
      refine rd_ixT eq rfl ⟨rfl, ?_⟩
      rcases alt with ⟨rfl, er⟩ | ⟨e, rfl, rfl, er⟩
      · rw [drop_at hx] at er
        refine ite_T rfl ⟨m, M', x, rfl, wm, gm.pre (by omega), xz.1, ?_⟩
        cases e : stepR M'.abs x with
        | error r =>
          rw [runC_err e] at er
          exact fun q2 H2 s2 e2 => ⟨_, M', q2, rfl, rfl, mi.more s2, wm.same s2, gm.more (Nat.le_succ _), _, _, e2, .inr ⟨rfl, r, rfl, er⟩⟩
        | ok z =>
          obtain ⟨A, u⟩ := z
          rw [runC_ok e] at er
          intro q2 H2 W2 w2 ea st e2
          refine ⟨_, W2, q2, rfl, rfl, (mi.step st fun b hb => hb).mono fun b hb => List.mem_append_left _ hb, w2, by rw [ea]; exact gm.step e, _, _, e2, .inl ⟨rfl, by rw [er, ea]⟩⟩
      · exact ite_F (by intro z; exact absurd (tx_inj.mp (V.str.inj z)) (by unfold refC; decide)) ⟨M', mi, wm, gm.more (Nat.le_succ _), _, _, eq, .inr ⟨rfl, e, rfl, er⟩⟩
    · rintro σ H' ⟨v3, M', q, wv, v, rfl, mi, wm, gm, eq, alt⟩
      refine hN _ _ ?_
      clear hN N d2 n2 hd
      rw [List.length_map, List.drop_length] at *
      refine seq_rule fun N hN => ?_
      walk_at "rd"
      refine ⟨_, .inl (SqL.of (mi.same _ _ hl)), fun h hh => hN _ _ ?_⟩
      clear hN N
      have n3 := Same.new (o := .lst (ls.map fun z => V.str (tx z))) hh
      have h3 : upd H' h (.lst (ls.map fun z => V.str (tx z))) h = some (sts ls) := upd_same
      have mi := mi.more n3
      have wm := wm.same n3
      have eq := n3 _ _ eq
      have s3 := mi.same
      generalize upd H' h (.lst (ls.map fun z => V.str (tx z))) = H3 at n3 h3 mi wm eq s3
      refine seq_rule fun N hN => ?_
      walk_at "rd"
      refine ⟨h, ls, rfl, by omega, h3, fun x hx => (lz x hx).1, ?_⟩
      cases er : runC ⟨[], [], 0⟩ ls with
      | error e =>
        rcases alt with ⟨rfl, er2⟩ | ⟨e2, rfl, rfl, er2⟩
        · rw [er2] at er
          cases er
        obtain rfl : e2 = e := by
          rw [er2] at er
          cases er
          rfl
        intro d H4 s4
        refine ⟨_, rfl, t.cx_in e2, fun a ha => ⟨a, e2, rfl, upd_same, fun H5 s5 => ⟨by decide, fun p' hp' => ?_⟩⟩⟩
        have s6 := ((s4.upd_new (o := hoExc a (t.cx e2)) (s4.free ha)).trans s5).trans (Same.new (o := .tup [.str (tx refC), .str (tx (xword e2))]) hp')
        refine ⟨_, .tup (SqT.of (s6 _ _ eq)) (.cons (.str _) (.cons (.str _) .nil)), .tup (SqT.of upd_same) (.cons (.str _) (.cons (.str _) .nil)), pair_shaped (by unfold okT refC; decide) ?_, _, dL (s6 _ _ h3), dL ((s3.trans s6) _ _ hl), shL, k _ (s3.trans s6)⟩
        cases e2 with
        | none => unfold okT xword; decide
        | some r => cases r <;> (unfold okT xword Rf.word; decide)
      | ok A =>
        rcases alt with ⟨rfl, er2⟩ | ⟨e2, rfl, rfl, er2⟩
        rotate_left
        · rw [er2] at er
          cases er
        obtain rfl : M'.abs = A := by
          rw [er2] at er
          cases er
          rfl
        intro o H4 O ho s4 wo eo ow
        refine hN _ _ ?_
        clear hN N
        walk_at "rd"
        refine rd_ixT (s4 _ _ eq) rfl ⟨rfl, ite_T rfl ⟨_, dL (s4 _ _ h3), dL ((s3.trans s4) _ _ hl), shL, o, O, ls.length, rfl, wo, by rw [eo]; exact gm, few, fun qa H5 _ s5 da => ⟨m, M', ls.length, rfl, wm.same (s4.trans s5), gm, few, fun qb H6 _ s6 db => ⟨_, da.same s6, (by rw [eo]; exact db), (by rw [eo]; exact (pic_fit gm few).shaped (by decide)), k _ (s3.trans ((s4.trans s5).trans s6))⟩⟩⟩⟩
theorem sc_law : FnScope ["script", "first", "way", "web", "k", "rows", "cell", "row"] ["script"] (defScope s_law) := ⟨rfl, rfl, rfl, by decide +kernel, rfl, by decide +kernel, by decide +kernel⟩
def spLaw (K : PySem.W.Frag) : Sp := fun vs H Q _ => ∃ (a : Addr) (ns : List Int), vs = [.ref a] ∧ SqL K H a (ns.map V.int) ∧ ns.length ≤ 63 ∧ ∀ H', Q (.bl true) H'
theorem ok_law {f : Addr} {fd : FuncData} (F : Fun K "law" "law" s_law f fd) (T : Txt w K mg t) : FnOk P w K mg base (CX1 P w) 12 f fd ["script"] (spLaw K) := by
  have G_Web_init := (ok_Web_init (P := P) (w := w) (base := base) T).mono (show 1 ≤ 10 by decide)
  have G_l_row := (ok_l_row (P := P) (w := w) (base := base) T).mono (show 4 ≤ 11 by decide)
  have G_l_said := (ok_l_said (P := P) (w := w) (base := base) T).mono (show 6 ≤ 11 by decide)
  have G_l_read_alike := (ok_l_read_alike (P := P) (w := w) (base := base) T).mono (show 10 ≤ 11 by decide)
  have G_l_back := (ok_l_back (P := P) (w := w) (base := base) T).mono (show 9 ≤ 11 by decide)
  have G_Web_add_thing := (ok_Web_add_thing (P := P) (w := w) (base := base) T).mono (show 3 ≤ 11 by decide)
  have G_Web_add_tie := (ok_Web_add_tie (P := P) (w := w) (base := base) T).mono (show 3 ≤ 11 by decide)
  have G_l_name := (ok_l_name (P := P) (w := w) (base := base) T).mono (show 2 ≤ 11 by decide)
  have G_Web_ties := (ok_Web_ties (P := P) (w := w) (base := base) T).mono (show 1 ≤ 11 by decide)
  refine F.okN sc_law (fun vs H Q E h => ?_) (fun cdv A outer s H vs Q E hr h => ?_)
  · obtain ⟨a, ns, rfl, hS, hlen, k⟩ := h
    rfl
  · obtain ⟨a, ns, rfl, hS, hlen, k⟩ := h
    refine ⟨_, Bx.un (bpss_cons (bps_set (i := 1) sc_law.nd rfl (by first | exact Or.inl rfl | exact Or.inr rfl) bpe_int)
      (bpss_cons (bps_if (bpt_cmpR op_gt (bpe_callB call_len_seq (by rfl) T.b_len PySem.boot_len (bpa_cons (bpv 0) bpa_nil)) bpe_int (nomark _))
      (bpss_one (bps_set (i := 1) sc_law.nd rfl (by first | exact Or.inl rfl | exact Or.inr rfl) (bpe_ixA ix_list (bpv 0) bpe_int)))
      bpss_nil)
      (bpss_cons (bps_set (i := 2) sc_law.nd rfl (by first | exact Or.inl rfl | exact Or.inr rfl) (bpe_op op_mod (bpe_op op_fdiv (bpv 1) bpe_int) (bpe_op op_pow bpe_int bpe_int)))
      (bpss_cons (bps_set (i := 3) sc_law.nd rfl (by first | exact Or.inl rfl | exact Or.inr rfl) (bpe_make0 T.mk_Web G_Web_init hr (by rfl) T.g_Web T.Web_init.b .nil pass0'))
      (bpss_cons (bps_if (bpt_cmpR op_eq (bpe_op op_mod (bpv 1) bpe_int) bpe_int (nomark _))
      (bpss_cons (bps_for PassesOwn.never rfl (bpi_range1 rfl T.b_range (bpa_cons (bpe_op op_add bpe_int (bpe_op op_mod (bpe_op op_fdiv (bpv 1) bpe_int) bpe_int)) bpa_nil)) (bpg_name (i := 4) sc_law.nd rfl (by first | exact Or.inl rfl | exact Or.inr rfl))
      (bpss_one (bps_expr (bpe_mx (bpv 3) T.o_Web T.Web_add_thing G_Web_add_thing hr pass0' (bpa_cons (bpe_fnx T.l_name G_l_name hr pass0' (bpa_cons (bpe_op op_add bpe_int (bpv 4)) (bpa_cons (bpv 2) bpa_nil))) bpa_nil)))))
      (bpss_one (bps_for PassesOwn.never rfl (bpi_range1 rfl T.b_range (bpa_cons bpe_int bpa_nil)) (bpg_name (i := 4) sc_law.nd rfl (by first | exact Or.inl rfl | exact Or.inr rfl))
      (bpss_one (bps_expr (bpe_mxF (bpv 3) T.o_Web T.Web_add_tie G_Web_add_tie hr pass0' (bpa_cons (bpe_fnx T.l_name G_l_name hr pass0' (bpa_cons (bpe_op op_add bpe_int (bpe_op op_mod (bpe_op op_mul (bpv 4) (bpv 4)) bpe_int)) (bpa_cons (bpv 2) bpa_nil))) (bpa_cons (bpe_fnx T.l_name G_l_name hr pass0' (bpa_cons (bpe_op op_mod (bpv 4) bpe_int) (bpa_cons (bpv 2) bpa_nil))) (bpa_cons (bpe_fnx T.l_name G_l_name hr pass0' (bpa_cons (bpe_op op_add bpe_int (bpv 4)) (bpa_cons (bpv 2) bpa_nil))) (bpa_cons (bpe_un un_neg (bpv 4)) bpa_nil))))))))))
      bpss_nil)
      (bpss_cons (bps_set (i := 5) sc_law.nd rfl (by first | exact Or.inl rfl | exact Or.inr rfl) (bpe_lst bpa_nil))
      (bpss_cons (bps_for PassesOwn.never rfl (bpi_list (bpv 0)) (bpg_name (i := 6) sc_law.nd rfl (by first | exact Or.inl rfl | exact Or.inr rfl))
      (bpss_cons (bps_set (i := 7) sc_law.nd rfl (by first | exact Or.inl rfl | exact Or.inr rfl) (bpe_fnx T.l_row G_l_row hr pass0' (bpa_cons (bpv 6) (bpa_cons (bpv 2) (bpa_cons (bpe_callB call_len_seq (by rfl) T.b_len PySem.boot_len (bpa_cons (bpe_mx0 (bpv 3) T.o_Web T.Web_ties G_Web_ties hr pass0') bpa_nil)) bpa_nil)))))
      (bpss_cons (bps_expr (bpe_bm PySem.F.plainAttrs_list PySem.F.slot_list_append PySem.F.type_list_append mt_append (bpv 5) (bpa_cons (bpv 7) bpa_nil)))
      (bpss_one (bps_expr (bpe_fnx T.l_said G_l_said hr pass0' (bpa_cons (bpv 3) (bpa_cons (bpv 7) bpa_nil))))))))
      (bpss_one (bps_ret (bpe_and (bpe_fnx T.l_read_alike G_l_read_alike hr pass0' (bpa_cons (bpv 5) bpa_nil)) (bpe_one (bpe_fnx T.l_back G_l_back hr pass0' (bpa_cons (bpv 3) bpa_nil))))))))))))), ?_⟩
    walk_at "rs"
    refine seq_rule fun N hN => ?_
    walk_at "rd"
    refine hN _ _ ?_
    clear hN N
    refine seq_rule fun N hN => ?_
    have hM : ∀ f : Int, N [some (.ref a), some (.int f), none, none, none, none, none, none] H := by
      intro f
      refine hN _ _ ?_
      clear hN N
      refine seq_rule fun N hN => ?_
      walk_at "rd"
      refine ⟨by decide, hN _ _ ?_⟩
      clear hN N
      generalize f / 12 % 1000000 = w
      refine seq_rule fun N hN => ?_
      walk_at "rd"
      intro p dx hp hdx hne
      refine ⟨p, dx, rfl, upd_same, fun H1 W w1 e1 e2 e3 off own => ⟨rfl, hN _ _ ?_⟩⟩
      clear hN N
      have mi1 : Mine H H1 (W.own p) := web_new hp hdx off own
      clear off own hp hdx hne dx
      have ea : W.abs = ⟨[], [], 0⟩ := by
        unfold WS.abs
        rw [e1, e2, e3]
        rfl
      clear e1 e2 e3
      have g1 : GoodA W.abs 0 := by
        rw [ea]
        exact ⟨fun x hx => (by cases hx), fun x hx => (by cases hx), fun x hx => (by cases hx), fun x hx => (by cases hx), fun x hx => (by cases hx), fun x hx => (by cases hx)⟩
      have gs1 : GoodS W.abs := by rw [ea]; exact GoodS.none
      refine seq_rule fun N hN => ?_
      have hJ : ∀ (v4 : Option V) (W2 : WS) (H2 : Hp), Mine H H2 (W2.own p) → WebAt t.c_Web H2 p W2 → GoodA W2.abs 0 → GoodS W2.abs → N [some (.ref a), some (.int f), some (.int w), some (.ref p), v4, none, none, none] H2 := by
        clear mi1 ea g1 gs1 w1 W H1
        intro v4 W H1 mi1 w1 g1 gs1
        refine hN _ _ ?_
        clear hN N
        refine seq_rule fun N hN => ?_
        walk_at "rd"
        refine ⟨Nat.zero_le _, fun q hq => hN _ _ ?_⟩
        clear hN N
        have hq0 := mi1.fresh hq
        have n2 := Same.new (o := .lst []) hq
        have q2 : upd H1 q (.lst []) q = some (.lst []) := upd_same
        have mi1 := mi1.more n2
        have w1 := w1.same n2
        generalize upd H1 q (.lst []) = H2 at n2 q2 mi1 w1
        refine seq_rule fun N hN => ?_
        refine ⟨_, rfl, a, rfl, ⟨_, mi1.same.seq hS⟩, for_list (K := K) (a := a) (xs := ns.map V.int) (fun i σ H' => ∃ (v6 v7 : Option V) (ls : List Nm) (W' : WS), σ = [some (.ref a), some (.int f), some (.int w), some (.ref p), v4, some (.ref q), v6, v7] ∧ ls.length = i ∧ H' q = some (sts ls) ∧ (∀ x ∈ ls, x.length ≤ 1000 ∧ okT x) ∧ Mine H H' (W'.own p) ∧ WebAt t.c_Web H' p W' ∧ GoodA W'.abs i ∧ GoodS W'.abs)
          ⟨_, _, [], W, rfl, rfl, q2, fun x hx => (nomatch hx), mi1, w1, g1, gs1⟩ (fun i σ H6 _ ⟨_, _, _, _, _, _, _, _, mi, _⟩ => mi.same.seq hS) ?_ ?_⟩
        · clear mi1 w1 q2 n2 hq hN
          rintro i y σ H' hi ⟨v6, v7, ls, W', rfl, li, eq, lz, mi, wp, g, gs⟩
          have il : i < ns.length := by
            have := (List.getElem?_eq_some_iff.mp hi).1
            rwa [List.length_map] at this
          obtain ⟨z, hz, rfl⟩ := map_get hi
          walk_at "rg"
          refine seq_rule fun N1 hN1 => ?_
          walk_at "rd"
          refine ⟨_, _, wp.obj, rfl, p, W', rfl, wp, fun lt hlt => ⟨lt, rfl, _, .inl (SqL.of upd_same), _, _, _, rfl, by omega, ?_, fun l0 H5 ll0 ok0 s5 => hN1 _ _ ?_⟩⟩
          · rw [List.length_map, List.length_map]
            have := wp.fewT
            omega
          clear hN1 N1
          have s6 := (Same.new (o := HO.lst ((W'.ties.map (·.1)).map V.int)) hlt).trans s5
          have eq := s6 _ _ eq
          have mi := mi.more s6
          have wp := wp.same s6
          clear s6 s5 hlt
          refine seq_rule fun N1 hN1 => ?_
          walk_at "rd"
          refine ⟨tyV_lst (SqL.of eq), _, eq, sz_lt (by rw [List.length_map]; omega), hN1 _ _ ?_⟩
          clear hN1 N1
          have qo : q ∉ W'.own p := wp.lst_off eq
          have wp : WebAt t.c_Web (upd H5 q (.lst (ls.map (fun z => V.str (tx z)) ++ [V.str (tx l0)]))) p W' := wp.beside qo (fun xs z => by rw [eq] at z; cases z)
          have mi : Mine H (upd H5 q (.lst (ls.map (fun z => V.str (tx z)) ++ [V.str (tx l0)]))) (W'.own p) := ⟨mi.same.upd_new hq0, mi.new⟩
          have eq : upd H5 q (.lst (ls.map (fun z => V.str (tx z)) ++ [V.str (tx l0)])) q = some (sts (ls ++ [l0])) := by
            rw [upd_same]
            unfold sts
            rw [List.map_append]
            rfl
          generalize upd H5 q (.lst (ls.map (fun z => V.str (tx z)) ++ [V.str (tx l0)])) = H6 at wp mi eq
          have lz : ∀ x ∈ ls ++ [l0], x.length ≤ 1000 ∧ okT x := fun x hx => by
            rcases List.mem_append.mp hx with z | z
            · exact lz x z
            · rw [List.mem_singleton.mp z]
              exact ⟨by omega, ok0⟩
          walk_at "rd"
          refine ⟨p, W', l0, rfl, wp, g.pre (by omega), by omega, ?_⟩
          cases e : stepR W'.abs l0 with
          | error r => exact fun q2 H7 s7 _ => ⟨ls ++ [l0], by rw [List.length_append, li]; rfl, s7 _ _ eq, lz, W', mi.more s7, wp.same s7, g.more (Nat.le_succ _), gs⟩
          | ok u =>
            obtain ⟨A, v⟩ := u
            intro q2 H7 W7 w7 ea st _
            exact ⟨ls ++ [l0], by rw [List.length_append, li]; rfl, st.off _ _ qo eq, lz, W7, (mi.step st fun b hb => hb).mono fun b hb => List.mem_append_left _ hb, w7, by rw [ea]; exact g.step e, by rw [ea]; exact gs.step e⟩
        · rintro σ H' ⟨v6, v7, ls, W', rfl, li, eq, lz, mi, wp, g, gs⟩
          refine hN _ _ ?_
          clear hN N
          rw [List.length_map] at li g
          walk_at "rd"
          refine ⟨q, ls, rfl, by omega, eq, lz, fun H7 s7 => ⟨_, rfl, ite_T rfl ⟨p, W', ns.length, rfl, wp.same s7, g, gs, by omega, fun H8 _ => k _⟩⟩⟩
      clear hN
      walk_at "rd"
      refine ite_both (fun _ => ?_) fun _ => hJ _ W H1 mi1 w1 g1 gs1
      have f0 : 0 ≤ f / 6 % 7 := by omega
      have f6 : f / 6 % 7 < 7 := by omega
      obtain ⟨mm, hm⟩ : ∃ mm : Nat, (94 + f / 6 % 7 : Int) = mm := ⟨(94 + f / 6 % 7).toNat, by omega⟩
      refine ⟨_, rfl, _, _, rfl, rfl, ⟨by decide, by decide⟩, _, _, rfl, rfl, (show (0 : Int) < 7 by decide), _, _, rfl, rfl, _, rfl, by omega, by omega, for_range (n := (94 + f / 6 % 7).toNat) (lo := 0) (fun i σ H2 => ∃ (v4 : Option V) (W2 : WS), σ = [some (.ref a), some (.int f), some (.int w), some (.ref p), v4, none, none, none] ∧ Mine H H2 (W2.own p) ∧ WebAt t.c_Web H2 p W2 ∧ GoodA W2.abs 0 ∧ GoodS W2.abs ∧ W2.abs.names = (List.range i).map (fun k : Nat => nameC (20 + (k : Int)) w) ∧ W2.abs.ties = [])
        ⟨none, W, rfl, mi1, w1, g1, gs1, by rw [ea]; rfl, by rw [ea]⟩ ?_ ?_⟩
      · clear mi1 w1 g1 gs1 ea W H1
        rintro i σ H1 hi ⟨v4, W, rfl, mi, wp, g, gs, en, et⟩
        rw [hm, Int.toNat_natCast] at hi
        have nl := (good_ok (nameC_good (20 + (i : Int)) w)).2
        walk_at "rd"
        have nin : nameC (20 + (i : Int)) w ∉ W.abs.names := fun z => by
          rw [en] at z
          obtain ⟨j, hj, e⟩ := List.mem_map.mp z
          have hj := List.mem_range.mp hj
          have := nameC_inj (by omega) (by omega) (by omega) (by omega) e
          omega
        have ln : W.abs.things.length = i := by
          have := congrArg List.length en
          rw [List.length_map, List.length_range] at this
          unfold WA.names at this
          rw [List.length_map] at this
          exact this
        refine ⟨_, _, wp.obj, rfl, _, _, rfl, p, W, _, rfl, wp, ?_, ?_⟩
        · rw [Int.zero_add]
          exact sz_of (by omega)
        rw [Int.zero_add]
        have add : W.abs.addThing (nameC (20 + (i : Int)) w) = .ok { W.abs with things := W.abs.things ++ [(nameC (20 + (i : Int)) w, [])] } := by
          unfold WA.addThing
          rw [if_neg (by rw [nameC_good]; decide), if_neg nin, if_neg (by omega)]
        rw [add]
        intro H2 W2 w2 e2 st
        refine ⟨W2, (mi.step st fun b hb => hb).mono fun b hb => List.mem_append_left _ hb, w2, by rw [e2]; exact g.thing add, by rw [e2]; exact gs.thing add, ?_, by rw [e2]; exact et⟩
        rw [e2, List.range_succ, List.map_append, ← en]
        unfold WA.names
        rw [List.map_append]
        rfl
      · clear mi1 w1 g1 gs1 ea W H1
        rintro σ H1 ⟨v4, W, rfl, mi, wp, g, gs, en, et⟩
        rw [hm, Int.toNat_natCast] at en
        have en : ∀ j : Int, 0 ≤ j → j < 94 → nameC (20 + j) w ∈ W.abs.names := fun j h0 h1 => by
          rw [en]
          exact List.mem_map.mpr ⟨j.toNat, List.mem_range.mpr (by omega), by rw [Int.toNat_of_nonneg h0]⟩
        refine ⟨_, rfl, by decide, by decide, for_range (n := (20 : Int).toNat) (lo := 0) (fun i σ H2 => ∃ (v4 : Option V) (W2 : WS), σ = [some (.ref a), some (.int f), some (.int w), some (.ref p), v4, none, none, none] ∧ Mine H H2 (W2.own p) ∧ WebAt t.c_Web H2 p W2 ∧ GoodA W2.abs 0 ∧ GoodS W2.abs ∧ W2.abs.names = W.abs.names ∧ W2.abs.ties.length = i)
          ⟨v4, W, rfl, mi, wp, g, gs, rfl, by rw [et]; rfl⟩ ?_ ?_⟩
        · clear mi wp g gs et
          rintro i σ H1 hi ⟨v4, W2, rfl, mi, wp, g, gs, en2, et⟩
          have hi : i < 20 := hi
          walk_at "rd"
          simp only [Int.zero_add]
          have m1 : nameC (20 + (i : Int) * (i : Int) % 90) w ∈ W2.abs.names := by
            rw [en2]
            exact en _ (Int.emod_nonneg _ (by decide)) (Int.lt_trans (Int.emod_lt_of_pos _ (by decide)) (by decide))
          have m2 : nameC (20 + (i : Int)) w ∈ W2.abs.names := by
            rw [en2]
            exact en _ (by omega) (by omega)
          have low : ∀ z ∈ W2.ties.map (·.1), z < W2.next := (g.pre (by decide)).low
          have nl := (good_ok (nameC_good ((i : Int) % 3) w)).2
          refine ⟨_, _, wp.obj, rfl, .inl ⟨by omega, by omega⟩, _, _, rfl, _, _, rfl, _, _, rfl, p, W2, _, _, _, _, rfl, wp, low, sz_of (by omega), ?_⟩
          have wt : (-(i : Int)).natAbs < 10 ^ 60 := Nat.lt_of_lt_of_le (show (-(i : Int)).natAbs < 20 by omega) (by decide)
          have add : W2.abs.addTie (nameC (20 + (i : Int) * (i : Int) % 90) w) (nameC ((i : Int) % 3) w) (nameC (20 + (i : Int)) w) (-(i : Int)) = .ok { W2.abs with ties := W2.abs.ties ++ [(W2.abs.next, ⟨nameC (20 + (i : Int) * (i : Int) % 90) w, nameC ((i : Int) % 3) w, nameC (20 + (i : Int)) w, -(i : Int)⟩)], next := W2.abs.next + 1 } := by
            unfold WA.addTie
            rw [if_neg (by rintro (z | z); exact z m1; exact z m2), if_neg (by rw [nameC_good]; decide), if_neg (by omega), if_neg (by omega)]
          rw [add]
          intro H3 W3 w3 e3 st
          refine ⟨W3, (mi.step st fun b hb => hb).mono fun b hb => List.mem_append_left _ hb, w3, by rw [e3]; exact g.tie add, by rw [e3]; exact gs.tie add, ?_, ?_⟩
          · rw [e3]
            exact en2
          · rw [e3]
            dsimp only
            rw [List.length_append, et]
            rfl
        · rintro σ H2 ⟨v4, W2, rfl, mi, wp, g, gs, _, _⟩
          exact hJ v4 W2 H2 mi wp g gs
    walk_at "rd"
    refine ⟨_, .inl hS, ite2 (fun h => ?_) fun _ => hM 0⟩
    cases ns with
    | nil => exact absurd h (by simp)
    | cons x r => exact ⟨a, _, 0, .int x, rfl, rfl, hS, atI_zero, hM x⟩
end
theorem all_mk {l : PySem.W.OpenLaw} {w : World} {K : PySem.W.Frag} {h : Heap} {mg : Str → Option Value} {fa : Addr} (X : K.In h) (G : h.Ns mainGlobals mg) (hfa : mg "law" = some (.ref fa))
    {C_SeekError : Addr} (gc_SeekError : PySem.W.nsIn K mainGlobals "SeekError" = some (some (.ref C_SeekError)))
    {C_NoName : Addr} (gc_NoName : PySem.W.nsIn K mainGlobals "NoName" = some (some (.ref C_NoName)))
    {C_NoNumber : Addr} (gc_NoNumber : PySem.W.nsIn K mainGlobals "NoNumber" = some (some (.ref C_NoNumber)))
    {C_NoThing : Addr} (gc_NoThing : PySem.W.nsIn K mainGlobals "NoThing" = some (some (.ref C_NoThing)))
    {C_NoKey : Addr} (gc_NoKey : PySem.W.nsIn K mainGlobals "NoKey" = some (some (.ref C_NoKey)))
    {C_NoTie : Addr} (gc_NoTie : PySem.W.nsIn K mainGlobals "NoTie" = some (some (.ref C_NoTie)))
    {C_Twice : Addr} (gc_Twice : PySem.W.nsIn K mainGlobals "Twice" = some (some (.ref C_Twice)))
    {C_StillTied : Addr} (gc_StillTied : PySem.W.nsIn K mainGlobals "StillTied" = some (some (.ref C_StillTied)))
    {C_Full : Addr} (gc_Full : PySem.W.nsIn K mainGlobals "Full" = some (some (.ref C_Full)))
    {C_NoRow : Addr} (gc_NoRow : PySem.W.nsIn K mainGlobals "NoRow" = some (some (.ref C_NoRow)))
    {C_Web : Addr} (gc_Web : PySem.W.nsIn K mainGlobals "Web" = some (some (.ref C_Web)))
    {f0 : Addr} {od0 an0 : Option Addr} {sl0 : Array (Option Value)} {oc0 kV0 dc0 pm0 cd0 ct0 : Value}
    (a0 : PySem.W.nsIn K mainGlobals "good_name" = some (some (.ref f0)))
    (l0 : K.lookup f0 = some ⟨oc0, od0, .func (PySem.W.fnOf "good_name" "good_name" (defArgs s_good_name) (defBody s_good_name) (defScope s_good_name) .none kV0 dc0 pm0 an0 cd0 ct0), sl0⟩) (c0 : PySem.W.codeIn K cd0 "good_name" = true) (k0 : PySem.W.keepIn K (.ref f0) = true)
    {f1 : Addr} {od1 an1 : Option Addr} {sl1 : Array (Option Value)} {oc1 kV1 dc1 pm1 cd1 ct1 : Value}
    (a1 : PySem.W.nsIn K mainGlobals "few_figures" = some (some (.ref f1)))
    (l1 : K.lookup f1 = some ⟨oc1, od1, .func (PySem.W.fnOf "few_figures" "few_figures" (defArgs s_few_figures) (defBody s_few_figures) (defScope s_few_figures) .none kV1 dc1 pm1 an1 cd1 ct1), sl1⟩) (c1 : PySem.W.codeIn K cd1 "few_figures" = true) (k1 : PySem.W.keepIn K (.ref f1) = true)
    {f2 : Addr} {od2 an2 : Option Addr} {sl2 : Array (Option Value)} {oc2 kV2 dc2 pm2 cd2 ct2 : Value}
    (a2 : PySem.W.nsIn K mainGlobals "number_shown" = some (some (.ref f2)))
    (l2 : K.lookup f2 = some ⟨oc2, od2, .func (PySem.W.fnOf "number_shown" "number_shown" (defArgs s_number_shown) (defBody s_number_shown) (defScope s_number_shown) .none kV2 dc2 pm2 an2 cd2 ct2), sl2⟩) (c2 : PySem.W.codeIn K cd2 "number_shown" = true) (k2 : PySem.W.keepIn K (.ref f2) = true)
    {f3 : Addr} {od3 an3 : Option Addr} {sl3 : Array (Option Value)} {oc3 kV3 dc3 pm3 cd3 ct3 : Value}
    (a3 : PySem.W.nsIn K mainGlobals "good_figures" = some (some (.ref f3)))
    (l3 : K.lookup f3 = some ⟨oc3, od3, .func (PySem.W.fnOf "good_figures" "good_figures" (defArgs s_good_figures) (defBody s_good_figures) (defScope s_good_figures) .none kV3 dc3 pm3 an3 cd3 ct3), sl3⟩) (c3 : PySem.W.codeIn K cd3 "good_figures" = true) (k3 : PySem.W.keepIn K (.ref f3) = true)
    {f4 : Addr} {od4 an4 : Option Addr} {sl4 : Array (Option Value)} {oc4 kV4 dc4 pm4 cd4 ct4 : Value}
    (a4 : PySem.W.nsIn K mainGlobals "number_read" = some (some (.ref f4)))
    (l4 : K.lookup f4 = some ⟨oc4, od4, .func (PySem.W.fnOf "number_read" "number_read" (defArgs s_number_read) (defBody s_number_read) (defScope s_number_read) .none kV4 dc4 pm4 an4 cd4 ct4), sl4⟩) (c4 : PySem.W.codeIn K cd4 "number_read" = true) (k4 : PySem.W.keepIn K (.ref f4) = true)
    {f5 : Addr} {od5 an5 : Option Addr} {sl5 : Array (Option Value)} {oc5 kV5 dc5 pm5 cd5 ct5 : Value}
    (a5 : PySem.W.nsIn K mainGlobals "rows_of" = some (some (.ref f5)))
    (l5 : K.lookup f5 = some ⟨oc5, od5, .func (PySem.W.fnOf "rows_of" "rows_of" (defArgs s_rows_of) (defBody s_rows_of) (defScope s_rows_of) .none kV5 dc5 pm5 an5 cd5 ct5), sl5⟩) (c5 : PySem.W.codeIn K cd5 "rows_of" = true) (k5 : PySem.W.keepIn K (.ref f5) = true)
    {f6 : Addr} {od6 an6 : Option Addr} {sl6 : Array (Option Value)} {oc6 kV6 dc6 pm6 cd6 ct6 : Value}
    (a6 : PySem.W.nsIn K mainGlobals "text_of" = some (some (.ref f6)))
    (l6 : K.lookup f6 = some ⟨oc6, od6, .func (PySem.W.fnOf "text_of" "text_of" (defArgs s_text_of) (defBody s_text_of) (defScope s_text_of) .none kV6 dc6 pm6 an6 cd6 ct6), sl6⟩) (c6 : PySem.W.codeIn K cd6 "text_of" = true) (k6 : PySem.W.keepIn K (.ref f6) = true)
    {f7 : Addr} {od7 an7 : Option Addr} {sl7 : Array (Option Value)} {oc7 kV7 dc7 pm7 cd7 ct7 : Value}
    (a7 : PySem.W.nsIn K mainGlobals "number_in_row" = some (some (.ref f7)))
    (l7 : K.lookup f7 = some ⟨oc7, od7, .func (PySem.W.fnOf "number_in_row" "number_in_row" (defArgs s_number_in_row) (defBody s_number_in_row) (defScope s_number_in_row) .none kV7 dc7 pm7 an7 cd7 ct7), sl7⟩) (c7 : PySem.W.codeIn K cd7 "number_in_row" = true) (k7 : PySem.W.keepIn K (.ref f7) = true)
    {f8 : Addr} {od8 an8 : Option Addr} {sl8 : Array (Option Value)} {oc8 kV8 dc8 pm8 cd8 ct8 : Value}
    (a8 : PySem.W.nsIn K mainGlobals "do_deed" = some (some (.ref f8)))
    (l8 : K.lookup f8 = some ⟨oc8, od8, .func (PySem.W.fnOf "do_deed" "do_deed" (defArgs s_do_deed) (defBody s_do_deed) (defScope s_do_deed) .none kV8 dc8 pm8 an8 cd8 ct8), sl8⟩) (c8 : PySem.W.codeIn K cd8 "do_deed" = true) (k8 : PySem.W.keepIn K (.ref f8) = true)
    {f9 : Addr} {od9 an9 : Option Addr} {sl9 : Array (Option Value)} {oc9 kV9 dc9 pm9 cd9 ct9 : Value}
    (a9 : PySem.W.nsIn K mainGlobals "done_row" = some (some (.ref f9)))
    (l9 : K.lookup f9 = some ⟨oc9, od9, .func (PySem.W.fnOf "done_row" "done_row" (defArgs s_done_row) (defBody s_done_row) (defScope s_done_row) .none kV9 dc9 pm9 an9 cd9 ct9), sl9⟩) (c9 : PySem.W.codeIn K cd9 "done_row" = true) (k9 : PySem.W.keepIn K (.ref f9) = true)
    {f10 : Addr} {od10 an10 : Option Addr} {sl10 : Array (Option Value)} {oc10 kV10 dc10 pm10 cd10 ct10 : Value}
    (a10 : PySem.W.nsIn K mainGlobals "done_rows" = some (some (.ref f10)))
    (l10 : K.lookup f10 = some ⟨oc10, od10, .func (PySem.W.fnOf "done_rows" "done_rows" (defArgs s_done_rows) (defBody s_done_rows) (defScope s_done_rows) .none kV10 dc10 pm10 an10 cd10 ct10), sl10⟩) (c10 : PySem.W.codeIn K cd10 "done_rows" = true) (k10 : PySem.W.keepIn K (.ref f10) = true)
    {f11 : Addr} {od11 an11 : Option Addr} {sl11 : Array (Option Value)} {oc11 kV11 dc11 pm11 cd11 ct11 : Value}
    (a11 : PySem.W.nsIn K mainGlobals "check_name" = some (some (.ref f11)))
    (l11 : K.lookup f11 = some ⟨oc11, od11, .func (PySem.W.fnOf "check_name" "check_name" (defArgs s_check_name) (defBody s_check_name) (defScope s_check_name) .none kV11 dc11 pm11 an11 cd11 ct11), sl11⟩) (c11 : PySem.W.codeIn K cd11 "check_name" = true) (k11 : PySem.W.keepIn K (.ref f11) = true)
    {f12 : Addr} {od12 an12 : Option Addr} {sl12 : Array (Option Value)} {oc12 kV12 dc12 pm12 cd12 ct12 : Value}
    (a12 : PySem.W.nsIn K mainGlobals "check_number" = some (some (.ref f12)))
    (l12 : K.lookup f12 = some ⟨oc12, od12, .func (PySem.W.fnOf "check_number" "check_number" (defArgs s_check_number) (defBody s_check_number) (defScope s_check_number) .none kV12 dc12 pm12 an12 cd12 ct12), sl12⟩) (c12 : PySem.W.codeIn K cd12 "check_number" = true) (k12 : PySem.W.keepIn K (.ref f12) = true)
    {f13 : Addr} {od13 an13 : Option Addr} {sl13 : Array (Option Value)} {oc13 kV13 dc13 pm13 cd13 ct13 : Value}
    (a13 : PySem.W.nsIn K mainGlobals "thing_rows" = some (some (.ref f13)))
    (l13 : K.lookup f13 = some ⟨oc13, od13, .func (PySem.W.fnOf "thing_rows" "thing_rows" (defArgs s_thing_rows) (defBody s_thing_rows) (defScope s_thing_rows) .none kV13 dc13 pm13 an13 cd13 ct13), sl13⟩) (c13 : PySem.W.codeIn K cd13 "thing_rows" = true) (k13 : PySem.W.keepIn K (.ref f13) = true)
    {f14 : Addr} {od14 an14 : Option Addr} {sl14 : Array (Option Value)} {oc14 kV14 dc14 pm14 cd14 ct14 : Value}
    (a14 : PySem.W.nsIn K mainGlobals "tie_row" = some (some (.ref f14)))
    (l14 : K.lookup f14 = some ⟨oc14, od14, .func (PySem.W.fnOf "tie_row" "tie_row" (defArgs s_tie_row) (defBody s_tie_row) (defScope s_tie_row) .none kV14 dc14 pm14 an14 cd14 ct14), sl14⟩) (c14 : PySem.W.codeIn K cd14 "tie_row" = true) (k14 : PySem.W.keepIn K (.ref f14) = true)
    {f15 : Addr} {od15 an15 : Option Addr} {sl15 : Array (Option Value)} {oc15 kV15 dc15 pm15 cd15 ct15 : Value}
    (a15 : PySem.W.nsIn K mainGlobals "shown_web" = some (some (.ref f15)))
    (l15 : K.lookup f15 = some ⟨oc15, od15, .func (PySem.W.fnOf "shown_web" "shown_web" (defArgs s_shown_web) (defBody s_shown_web) (defScope s_shown_web) .none kV15 dc15 pm15 an15 cd15 ct15), sl15⟩) (c15 : PySem.W.codeIn K cd15 "shown_web" = true) (k15 : PySem.W.keepIn K (.ref f15) = true)
    {f16 : Addr} {od16 an16 : Option Addr} {sl16 : Array (Option Value)} {oc16 kV16 dc16 pm16 cd16 ct16 : Value}
    (a16 : PySem.W.nsIn K mainGlobals "read_web" = some (some (.ref f16)))
    (l16 : K.lookup f16 = some ⟨oc16, od16, .func (PySem.W.fnOf "read_web" "read_web" (defArgs s_read_web) (defBody s_read_web) (defScope s_read_web) .none kV16 dc16 pm16 an16 cd16 ct16), sl16⟩) (c16 : PySem.W.codeIn K cd16 "read_web" = true) (k16 : PySem.W.keepIn K (.ref f16) = true)
    {f17 : Addr} {od17 an17 : Option Addr} {sl17 : Array (Option Value)} {oc17 kV17 dc17 pm17 cd17 ct17 : Value}
    (a17 : PySem.W.nsIn K mainGlobals "_law_letter" = some (some (.ref f17)))
    (l17 : K.lookup f17 = some ⟨oc17, od17, .func (PySem.W.fnOf "_law_letter" "_law_letter" (defArgs s_l_letter) (defBody s_l_letter) (defScope s_l_letter) .none kV17 dc17 pm17 an17 cd17 ct17), sl17⟩) (c17 : PySem.W.codeIn K cd17 "_law_letter" = true) (k17 : PySem.W.keepIn K (.ref f17) = true)
    {f18 : Addr} {od18 an18 : Option Addr} {sl18 : Array (Option Value)} {oc18 kV18 dc18 pm18 cd18 ct18 : Value}
    (a18 : PySem.W.nsIn K mainGlobals "_law_name" = some (some (.ref f18)))
    (l18 : K.lookup f18 = some ⟨oc18, od18, .func (PySem.W.fnOf "_law_name" "_law_name" (defArgs s_l_name) (defBody s_l_name) (defScope s_l_name) .none kV18 dc18 pm18 an18 cd18 ct18), sl18⟩) (c18 : PySem.W.codeIn K cd18 "_law_name" = true) (k18 : PySem.W.keepIn K (.ref f18) = true)
    {f19 : Addr} {od19 an19 : Option Addr} {sl19 : Array (Option Value)} {oc19 kV19 dc19 pm19 cd19 ct19 : Value}
    (a19 : PySem.W.nsIn K mainGlobals "_law_key" = some (some (.ref f19)))
    (l19 : K.lookup f19 = some ⟨oc19, od19, .func (PySem.W.fnOf "_law_key" "_law_key" (defArgs s_l_key) (defBody s_l_key) (defScope s_l_key) .none kV19 dc19 pm19 an19 cd19 ct19), sl19⟩) (c19 : PySem.W.codeIn K cd19 "_law_key" = true) (k19 : PySem.W.keepIn K (.ref f19) = true)
    {f20 : Addr} {od20 an20 : Option Addr} {sl20 : Array (Option Value)} {oc20 kV20 dc20 pm20 cd20 ct20 : Value}
    (a20 : PySem.W.nsIn K mainGlobals "_law_which" = some (some (.ref f20)))
    (l20 : K.lookup f20 = some ⟨oc20, od20, .func (PySem.W.fnOf "_law_which" "_law_which" (defArgs s_l_which) (defBody s_l_which) (defScope s_l_which) .none kV20 dc20 pm20 an20 cd20 ct20), sl20⟩) (c20 : PySem.W.codeIn K cd20 "_law_which" = true) (k20 : PySem.W.keepIn K (.ref f20) = true)
    {f21 : Addr} {od21 an21 : Option Addr} {sl21 : Array (Option Value)} {oc21 kV21 dc21 pm21 cd21 ct21 : Value}
    (a21 : PySem.W.nsIn K mainGlobals "_law_number" = some (some (.ref f21)))
    (l21 : K.lookup f21 = some ⟨oc21, od21, .func (PySem.W.fnOf "_law_number" "_law_number" (defArgs s_l_number) (defBody s_l_number) (defScope s_l_number) .none kV21 dc21 pm21 an21 cd21 ct21), sl21⟩) (c21 : PySem.W.codeIn K cd21 "_law_number" = true) (k21 : PySem.W.keepIn K (.ref f21) = true)
    {f22 : Addr} {od22 an22 : Option Addr} {sl22 : Array (Option Value)} {oc22 kV22 dc22 pm22 cd22 ct22 : Value}
    (a22 : PySem.W.nsIn K mainGlobals "_law_row" = some (some (.ref f22)))
    (l22 : K.lookup f22 = some ⟨oc22, od22, .func (PySem.W.fnOf "_law_row" "_law_row" (defArgs s_l_row) (defBody s_l_row) (defScope s_l_row) .none kV22 dc22 pm22 an22 cd22 ct22), sl22⟩) (c22 : PySem.W.codeIn K cd22 "_law_row" = true) (k22 : PySem.W.keepIn K (.ref f22) = true)
    {f23 : Addr} {od23 an23 : Option Addr} {sl23 : Array (Option Value)} {oc23 kV23 dc23 pm23 cd23 ct23 : Value}
    (a23 : PySem.W.nsIn K mainGlobals "_law_picture" = some (some (.ref f23)))
    (l23 : K.lookup f23 = some ⟨oc23, od23, .func (PySem.W.fnOf "_law_picture" "_law_picture" (defArgs s_l_picture) (defBody s_l_picture) (defScope s_l_picture) .none kV23 dc23 pm23 an23 cd23 ct23), sl23⟩) (c23 : PySem.W.codeIn K cd23 "_law_picture" = true) (k23 : PySem.W.keepIn K (.ref f23) = true)
    {f24 : Addr} {od24 an24 : Option Addr} {sl24 : Array (Option Value)} {oc24 kV24 dc24 pm24 cd24 ct24 : Value}
    (a24 : PySem.W.nsIn K mainGlobals "_law_said" = some (some (.ref f24)))
    (l24 : K.lookup f24 = some ⟨oc24, od24, .func (PySem.W.fnOf "_law_said" "_law_said" (defArgs s_l_said) (defBody s_l_said) (defScope s_l_said) .none kV24 dc24 pm24 an24 cd24 ct24), sl24⟩) (c24 : PySem.W.codeIn K cd24 "_law_said" = true) (k24 : PySem.W.keepIn K (.ref f24) = true)
    {f25 : Addr} {od25 an25 : Option Addr} {sl25 : Array (Option Value)} {oc25 kV25 dc25 pm25 cd25 ct25 : Value}
    (a25 : PySem.W.nsIn K mainGlobals "_law_due_rows" = some (some (.ref f25)))
    (l25 : K.lookup f25 = some ⟨oc25, od25, .func (PySem.W.fnOf "_law_due_rows" "_law_due_rows" (defArgs s_l_due_rows) (defBody s_l_due_rows) (defScope s_l_due_rows) .none kV25 dc25 pm25 an25 cd25 ct25), sl25⟩) (c25 : PySem.W.codeIn K cd25 "_law_due_rows" = true) (k25 : PySem.W.keepIn K (.ref f25) = true)
    {f26 : Addr} {od26 an26 : Option Addr} {sl26 : Array (Option Value)} {oc26 kV26 dc26 pm26 cd26 ct26 : Value}
    (a26 : PySem.W.nsIn K mainGlobals "_law_back" = some (some (.ref f26)))
    (l26 : K.lookup f26 = some ⟨oc26, od26, .func (PySem.W.fnOf "_law_back" "_law_back" (defArgs s_l_back) (defBody s_l_back) (defScope s_l_back) .none kV26 dc26 pm26 an26 cd26 ct26), sl26⟩) (c26 : PySem.W.codeIn K cd26 "_law_back" = true) (k26 : PySem.W.keepIn K (.ref f26) = true)
    {f27 : Addr} {od27 an27 : Option Addr} {sl27 : Array (Option Value)} {oc27 kV27 dc27 pm27 cd27 ct27 : Value}
    (a27 : PySem.W.nsIn K mainGlobals "_law_read_alike" = some (some (.ref f27)))
    (l27 : K.lookup f27 = some ⟨oc27, od27, .func (PySem.W.fnOf "_law_read_alike" "_law_read_alike" (defArgs s_l_read_alike) (defBody s_l_read_alike) (defScope s_l_read_alike) .none kV27 dc27 pm27 an27 cd27 ct27), sl27⟩) (c27 : PySem.W.codeIn K cd27 "_law_read_alike" = true) (k27 : PySem.W.keepIn K (.ref f27) = true)
    {f28 : Addr} {od28 an28 : Option Addr} {sl28 : Array (Option Value)} {oc28 kV28 dc28 pm28 cd28 ct28 : Value}
    (a28 : PySem.W.nsIn K mainGlobals "law" = some (some (.ref f28)))
    (l28 : K.lookup f28 = some ⟨oc28, od28, .func (PySem.W.fnOf "law" "law" (defArgs s_law) (defBody s_law) (defScope s_law) .none kV28 dc28 pm28 an28 cd28 ct28), sl28⟩) (c28 : PySem.W.codeIn K cd28 "law" = true) (k28 : PySem.W.keepIn K (.ref f28) = true)
    {f29 : Addr} {od29 an29 : Option Addr} {sl29 : Array (Option Value)} {oc29 kV29 dc29 pm29 cd29 ct29 : Value}
    (a29 : PySem.W.findIn K (.ref C_Web) "__init__" = some (some (.ref f29))) (n29 : PySem.W.isFn K (.ref f29) = true)
    (l29 : K.lookup f29 = some ⟨oc29, od29, .func (PySem.W.fnOf "__init__" "Web.__init__" (defArgs s_Web_init) (defBody s_Web_init) (defScope s_Web_init) .none kV29 dc29 pm29 an29 cd29 ct29), sl29⟩) (c29 : PySem.W.codeIn K cd29 "Web.__init__" = true) (k29 : PySem.W.keepIn K (.ref f29) = true)
    {f30 : Addr} {od30 an30 : Option Addr} {sl30 : Array (Option Value)} {oc30 kV30 dc30 pm30 cd30 ct30 : Value}
    (a30 : PySem.W.findIn K (.ref C_Web) "check_thing" = some (some (.ref f30))) (n30 : PySem.W.isFn K (.ref f30) = true)
    (l30 : K.lookup f30 = some ⟨oc30, od30, .func (PySem.W.fnOf "check_thing" "Web.check_thing" (defArgs s_Web_check_thing) (defBody s_Web_check_thing) (defScope s_Web_check_thing) .none kV30 dc30 pm30 an30 cd30 ct30), sl30⟩) (c30 : PySem.W.codeIn K cd30 "Web.check_thing" = true) (k30 : PySem.W.keepIn K (.ref f30) = true)
    {f31 : Addr} {od31 an31 : Option Addr} {sl31 : Array (Option Value)} {oc31 kV31 dc31 pm31 cd31 ct31 : Value}
    (a31 : PySem.W.findIn K (.ref C_Web) "check_tie" = some (some (.ref f31))) (n31 : PySem.W.isFn K (.ref f31) = true)
    (l31 : K.lookup f31 = some ⟨oc31, od31, .func (PySem.W.fnOf "check_tie" "Web.check_tie" (defArgs s_Web_check_tie) (defBody s_Web_check_tie) (defScope s_Web_check_tie) .none kV31 dc31 pm31 an31 cd31 ct31), sl31⟩) (c31 : PySem.W.codeIn K cd31 "Web.check_tie" = true) (k31 : PySem.W.keepIn K (.ref f31) = true)
    {f32 : Addr} {od32 an32 : Option Addr} {sl32 : Array (Option Value)} {oc32 kV32 dc32 pm32 cd32 ct32 : Value}
    (a32 : PySem.W.findIn K (.ref C_Web) "add_thing" = some (some (.ref f32))) (n32 : PySem.W.isFn K (.ref f32) = true)
    (l32 : K.lookup f32 = some ⟨oc32, od32, .func (PySem.W.fnOf "add_thing" "Web.add_thing" (defArgs s_Web_add_thing) (defBody s_Web_add_thing) (defScope s_Web_add_thing) .none kV32 dc32 pm32 an32 cd32 ct32), sl32⟩) (c32 : PySem.W.codeIn K cd32 "Web.add_thing" = true) (k32 : PySem.W.keepIn K (.ref f32) = true)
    {f33 : Addr} {od33 an33 : Option Addr} {sl33 : Array (Option Value)} {oc33 kV33 dc33 pm33 cd33 ct33 : Value}
    (a33 : PySem.W.findIn K (.ref C_Web) "drop_thing" = some (some (.ref f33))) (n33 : PySem.W.isFn K (.ref f33) = true)
    (l33 : K.lookup f33 = some ⟨oc33, od33, .func (PySem.W.fnOf "drop_thing" "Web.drop_thing" (defArgs s_Web_drop_thing) (defBody s_Web_drop_thing) (defScope s_Web_drop_thing) .none kV33 dc33 pm33 an33 cd33 ct33), sl33⟩) (c33 : PySem.W.codeIn K cd33 "Web.drop_thing" = true) (k33 : PySem.W.keepIn K (.ref f33) = true)
    {f34 : Addr} {od34 an34 : Option Addr} {sl34 : Array (Option Value)} {oc34 kV34 dc34 pm34 cd34 ct34 : Value}
    (a34 : PySem.W.findIn K (.ref C_Web) "set_value" = some (some (.ref f34))) (n34 : PySem.W.isFn K (.ref f34) = true)
    (l34 : K.lookup f34 = some ⟨oc34, od34, .func (PySem.W.fnOf "set_value" "Web.set_value" (defArgs s_Web_set_value) (defBody s_Web_set_value) (defScope s_Web_set_value) .none kV34 dc34 pm34 an34 cd34 ct34), sl34⟩) (c34 : PySem.W.codeIn K cd34 "Web.set_value" = true) (k34 : PySem.W.keepIn K (.ref f34) = true)
    {f35 : Addr} {od35 an35 : Option Addr} {sl35 : Array (Option Value)} {oc35 kV35 dc35 pm35 cd35 ct35 : Value}
    (a35 : PySem.W.findIn K (.ref C_Web) "take_value" = some (some (.ref f35))) (n35 : PySem.W.isFn K (.ref f35) = true)
    (l35 : K.lookup f35 = some ⟨oc35, od35, .func (PySem.W.fnOf "take_value" "Web.take_value" (defArgs s_Web_take_value) (defBody s_Web_take_value) (defScope s_Web_take_value) .none kV35 dc35 pm35 an35 cd35 ct35), sl35⟩) (c35 : PySem.W.codeIn K cd35 "Web.take_value" = true) (k35 : PySem.W.keepIn K (.ref f35) = true)
    {f36 : Addr} {od36 an36 : Option Addr} {sl36 : Array (Option Value)} {oc36 kV36 dc36 pm36 cd36 ct36 : Value}
    (a36 : PySem.W.findIn K (.ref C_Web) "add_tie" = some (some (.ref f36))) (n36 : PySem.W.isFn K (.ref f36) = true)
    {dt36 : Addr} {dd36 : Option Addr} {dn36 : Nat} {ds36 : Array (Option Value)} {dk36_0 : Tok}
    (dl36 : K.lookup dt36 = some ⟨.type "tuple", dd36, .seq #[.int 0 dk36_0] dn36, ds36⟩)
    (l36 : K.lookup f36 = some ⟨oc36, od36, .func (PySem.W.fnOf "add_tie" "Web.add_tie" (defArgs s_Web_add_tie) (defBody s_Web_add_tie) (defScope s_Web_add_tie) (.ref dt36) kV36 dc36 pm36 an36 cd36 ct36), sl36⟩) (c36 : PySem.W.codeIn K cd36 "Web.add_tie" = true) (k36 : PySem.W.keepIn K (.ref f36) = true)
    {f37 : Addr} {od37 an37 : Option Addr} {sl37 : Array (Option Value)} {oc37 kV37 dc37 pm37 cd37 ct37 : Value}
    (a37 : PySem.W.findIn K (.ref C_Web) "cut_tie" = some (some (.ref f37))) (n37 : PySem.W.isFn K (.ref f37) = true)
    (l37 : K.lookup f37 = some ⟨oc37, od37, .func (PySem.W.fnOf "cut_tie" "Web.cut_tie" (defArgs s_Web_cut_tie) (defBody s_Web_cut_tie) (defScope s_Web_cut_tie) .none kV37 dc37 pm37 an37 cd37 ct37), sl37⟩) (c37 : PySem.W.codeIn K cd37 "Web.cut_tie" = true) (k37 : PySem.W.keepIn K (.ref f37) = true)
    {f38 : Addr} {od38 an38 : Option Addr} {sl38 : Array (Option Value)} {oc38 kV38 dc38 pm38 cd38 ct38 : Value}
    (a38 : PySem.W.findIn K (.ref C_Web) "things" = some (some (.ref f38))) (n38 : PySem.W.isFn K (.ref f38) = true)
    (l38 : K.lookup f38 = some ⟨oc38, od38, .func (PySem.W.fnOf "things" "Web.things" (defArgs s_Web_things) (defBody s_Web_things) (defScope s_Web_things) .none kV38 dc38 pm38 an38 cd38 ct38), sl38⟩) (c38 : PySem.W.codeIn K cd38 "Web.things" = true) (k38 : PySem.W.keepIn K (.ref f38) = true)
    {f39 : Addr} {od39 an39 : Option Addr} {sl39 : Array (Option Value)} {oc39 kV39 dc39 pm39 cd39 ct39 : Value}
    (a39 : PySem.W.findIn K (.ref C_Web) "value" = some (some (.ref f39))) (n39 : PySem.W.isFn K (.ref f39) = true)
    (l39 : K.lookup f39 = some ⟨oc39, od39, .func (PySem.W.fnOf "value" "Web.value" (defArgs s_Web_value) (defBody s_Web_value) (defScope s_Web_value) .none kV39 dc39 pm39 an39 cd39 ct39), sl39⟩) (c39 : PySem.W.codeIn K cd39 "Web.value" = true) (k39 : PySem.W.keepIn K (.ref f39) = true)
    {f40 : Addr} {od40 an40 : Option Addr} {sl40 : Array (Option Value)} {oc40 kV40 dc40 pm40 cd40 ct40 : Value}
    (a40 : PySem.W.findIn K (.ref C_Web) "values_of" = some (some (.ref f40))) (n40 : PySem.W.isFn K (.ref f40) = true)
    (l40 : K.lookup f40 = some ⟨oc40, od40, .func (PySem.W.fnOf "values_of" "Web.values_of" (defArgs s_Web_values_of) (defBody s_Web_values_of) (defScope s_Web_values_of) .none kV40 dc40 pm40 an40 cd40 ct40), sl40⟩) (c40 : PySem.W.codeIn K cd40 "Web.values_of" = true) (k40 : PySem.W.keepIn K (.ref f40) = true)
    {f41 : Addr} {od41 an41 : Option Addr} {sl41 : Array (Option Value)} {oc41 kV41 dc41 pm41 cd41 ct41 : Value}
    (a41 : PySem.W.findIn K (.ref C_Web) "ties" = some (some (.ref f41))) (n41 : PySem.W.isFn K (.ref f41) = true)
    (l41 : K.lookup f41 = some ⟨oc41, od41, .func (PySem.W.fnOf "ties" "Web.ties" (defArgs s_Web_ties) (defBody s_Web_ties) (defScope s_Web_ties) .none kV41 dc41 pm41 an41 cd41 ct41), sl41⟩) (c41 : PySem.W.codeIn K cd41 "Web.ties" = true) (k41 : PySem.W.keepIn K (.ref f41) = true)
    {f42 : Addr} {od42 an42 : Option Addr} {sl42 : Array (Option Value)} {oc42 kV42 dc42 pm42 cd42 ct42 : Value}
    (a42 : PySem.W.findIn K (.ref C_Web) "tie" = some (some (.ref f42))) (n42 : PySem.W.isFn K (.ref f42) = true)
    (l42 : K.lookup f42 = some ⟨oc42, od42, .func (PySem.W.fnOf "tie" "Web.tie" (defArgs s_Web_tie) (defBody s_Web_tie) (defScope s_Web_tie) .none kV42 dc42 pm42 an42 cd42 ct42), sl42⟩) (c42 : PySem.W.codeIn K cd42 "Web.tie" = true) (k42 : PySem.W.keepIn K (.ref f42) = true)
    {f43 : Addr} {od43 an43 : Option Addr} {sl43 : Array (Option Value)} {oc43 kV43 dc43 pm43 cd43 ct43 : Value}
    (a43 : PySem.W.findIn K (.ref C_Web) "out_of" = some (some (.ref f43))) (n43 : PySem.W.isFn K (.ref f43) = true)
    (l43 : K.lookup f43 = some ⟨oc43, od43, .func (PySem.W.fnOf "out_of" "Web.out_of" (defArgs s_Web_out_of) (defBody s_Web_out_of) (defScope s_Web_out_of) .none kV43 dc43 pm43 an43 cd43 ct43), sl43⟩) (c43 : PySem.W.codeIn K cd43 "Web.out_of" = true) (k43 : PySem.W.keepIn K (.ref f43) = true)
    {f44 : Addr} {od44 an44 : Option Addr} {sl44 : Array (Option Value)} {oc44 kV44 dc44 pm44 cd44 ct44 : Value}
    (a44 : PySem.W.findIn K (.ref C_Web) "into" = some (some (.ref f44))) (n44 : PySem.W.isFn K (.ref f44) = true)
    (l44 : K.lookup f44 = some ⟨oc44, od44, .func (PySem.W.fnOf "into" "Web.into" (defArgs s_Web_into) (defBody s_Web_into) (defScope s_Web_into) .none kV44 dc44 pm44 an44 cd44 ct44), sl44⟩) (c44 : PySem.W.codeIn K cd44 "Web.into" = true) (k44 : PySem.W.keepIn K (.ref f44) = true)
    {f45 : Addr} {od45 an45 : Option Addr} {sl45 : Array (Option Value)} {oc45 kV45 dc45 pm45 cd45 ct45 : Value}
    (a45 : PySem.W.findIn K (.ref C_Web) "twin" = some (some (.ref f45))) (n45 : PySem.W.isFn K (.ref f45) = true)
    (l45 : K.lookup f45 = some ⟨oc45, od45, .func (PySem.W.fnOf "twin" "Web.twin" (defArgs s_Web_twin) (defBody s_Web_twin) (defScope s_Web_twin) .none kV45 dc45 pm45 an45 cd45 ct45), sl45⟩) (c45 : PySem.W.codeIn K cd45 "Web.twin" = true) (k45 : PySem.W.keepIn K (.ref f45) = true)
    {tk0 : Tok} (g0 : PySem.W.nsIn K mainGlobals "LETTERS" = some (some (Value.str (v_LETTERS) tk0)))
    {tk1 : Tok} (g1 : PySem.W.nsIn K mainGlobals "FIGURES" = some (some (Value.str (v_FIGURES) tk1)))
    {tk2 : Tok} (g2 : PySem.W.nsIn K mainGlobals "MOST_LETTERS" = some (some (Value.int (12) tk2)))
    {tk3 : Tok} (g3 : PySem.W.nsIn K mainGlobals "MOST_FIGURES" = some (some (Value.int (60) tk3)))
    {tk4 : Tok} (g4 : PySem.W.nsIn K mainGlobals "MOST_THINGS" = some (some (Value.int (100) tk4)))
    {tk5 : Tok} (g5 : PySem.W.nsIn K mainGlobals "MOST_TIES" = some (some (Value.int (400) tk5)))
    {ka0 : Addr} {kd0 : Option Addr} {kn0 : Nat} {ks0 : Array (Option Value)} {kt0_0 : Tok} {kt0_1 : Tok} {kt0_2 : Tok}
    (kg0 : PySem.W.nsIn K mainGlobals "NUMBERED" = some (some (.ref ka0)))
    (kl0 : K.lookup ka0 = some ⟨.type "tuple", kd0, .seq #[.str (tx [115, 101, 116]) kt0_0, .str (tx [116, 105, 101]) kt0_1, .str (tx [99, 117, 116]) kt0_2] kn0, ks0⟩)
    {ma0 : Addr} {mn0 : Nat} {mk0_0 mu0_0 : Tok} {mk0_1 mu0_1 : Tok} {mk0_2 mu0_2 : Tok} {mk0_3 mu0_3 : Tok} {mk0_4 mu0_4 : Tok} {mk0_5 mu0_5 : Tok}
    (mg0 : PySem.W.nsIn K mainGlobals "LENGTHS" = some (some (.ref ma0)))
    (ml0 : K.lookup ma0 = some ⟨.type "dict", none, .dict #[⟨PyData.keyHash w.params (Str.ofString "thing"), .str (Str.ofString "thing") mk0_0, .int 2 mu0_0⟩, ⟨PyData.keyHash w.params (Str.ofString "drop"), .str (Str.ofString "drop") mk0_1, .int 2 mu0_1⟩, ⟨PyData.keyHash w.params (Str.ofString "set"), .str (Str.ofString "set") mk0_2, .int 4 mu0_2⟩, ⟨PyData.keyHash w.params (Str.ofString "take"), .str (Str.ofString "take") mk0_3, .int 3 mu0_3⟩, ⟨PyData.keyHash w.params (Str.ofString "tie"), .str (Str.ofString "tie") mk0_4, .int 5 mu0_4⟩, ⟨PyData.keyHash w.params (Str.ofString "cut"), .str (Str.ofString "cut") mk0_5, .int 2 mu0_5⟩] mn0, #[]⟩)
    (ms0 : (ma0 == sysModules) = false)
    (z0 : PySem.W.nsIn K mainGlobals "len" = some none)
    (z1 : PySem.W.nsIn K mainGlobals "isinstance" = some none)
    (z2 : PySem.W.nsIn K mainGlobals "bool" = some none)
    (z3 : PySem.W.nsIn K mainGlobals "int" = some none)
    (z4 : PySem.W.nsIn K mainGlobals "range" = some none)
    (z5 : PySem.W.nsIn K mainGlobals "list" = some none)
    (z6 : PySem.W.nsIn K mainGlobals "str" = some none)
    (z7 : PySem.W.nsIn K mainGlobals "ValueError" = some none)
    (z8 : PySem.W.nsIn K mainGlobals "tuple" = some none)
    (z9 : PySem.W.nsIn K mainGlobals "abs" = some none)
    (z10 : PySem.W.nsIn K mainGlobals "all" = some none)
    (z11 : PySem.W.nsIn K mainGlobals "sorted" = some none)
    (z12 : PySem.W.nsIn K mainGlobals "dict" = some none)
    (o1_Web : PySem.W.plainGet K C_Web Str.empty = true) (o2_Web : PySem.W.hasDictIn K C_Web = true) (o3_Web : PySem.W.plainOver K C_Web = true) (o4_Web : PySem.W.findIn K (.ref C_Web) "__setattr__" = some (some (.builtin "object.__setattr__"))) (o5_Web : PySem.W.makesIn K C_Web = true) (o6_Web : PySem.W.keepIn K (.ref C_Web) = true)
    (io_Web : ownRow K C_Web = ownRow0)
    (na_kept_values : PySem.W.findIn K (.ref C_Web) "kept_values" = some none)
    (na_kept_ties : PySem.W.findIn K (.ref C_Web) "kept_ties" = some none)
    (na_coming_number : PySem.W.findIn K (.ref C_Web) "coming_number" = some none)
    (xs : ([C_NoName, C_NoNumber, C_NoThing, C_NoKey, C_NoTie, C_Twice, C_StillTied, C_Full, C_NoRow] : List Addr).map (xRow K C_SeekError [C_NoName, C_NoNumber, C_NoThing, C_NoKey, C_NoTie, C_Twice, C_StillTied, C_Full, C_NoRow]) = ([C_NoName, C_NoNumber, C_NoThing, C_NoKey, C_NoTie, C_Twice, C_StillTied, C_Full, C_NoRow] : List Addr).map (xRow0 [C_NoName, C_NoNumber, C_NoThing, C_NoKey, C_NoTie, C_Twice, C_StillTied, C_Full, C_NoRow]))
    (xnd : decide (@List.Nodup Nat [C_NoName, C_NoNumber, C_NoThing, C_NoKey, C_NoTie, C_Twice, C_StillTied, C_Full, C_NoRow]) = true)
    (xm : ([C_NoName, C_NoNumber, C_NoThing, C_NoKey, C_NoTie, C_Twice, C_StillTied, C_Full, C_NoRow] : List Addr).map (fun C => ([C_NoName, C_NoNumber, C_NoThing, C_NoKey, C_NoTie, C_Twice, C_StillTied, C_Full, C_NoRow] : List Addr).map fun D => PySem.W.exmOne K (.ref C) (.ref D)) = ([C_NoName, C_NoNumber, C_NoThing, C_NoKey, C_NoTie, C_Twice, C_StillTied, C_Full, C_NoRow] : List Addr).map fun C => ([C_NoName, C_NoNumber, C_NoThing, C_NoKey, C_NoTie, C_Twice, C_StillTied, C_Full, C_NoRow] : List Addr).map fun D => some (decide ((C : Nat) = D)))
    : ∃ fd : FuncData, (∀ (s : Shared) (v : Value), BindsTo s fd ⟨[v], []⟩ [("script", v)]) ∧ ∀ base : Heap, K.In base → base.Ns mainGlobals mg → FnOk l.prog w K mg base (CX1 l.prog w) 12 fa fd ["script"] (spLaw K) := by
  have e := hfa.symm.trans (PySem.W.mg_of X G a28)
  cases e
  have F0 := fun_mk (st := s_good_name) l0 c0 k0
  have b0 := F0.binds (ps := ["text"]) fun _ _ _ _ _ _ us hl => match us, hl with | [_], _ => rfl
  have F1 := fun_mk (st := s_few_figures) l1 c1 k1
  have b1 := F1.binds (ps := ["number"]) fun _ _ _ _ _ _ us hl => match us, hl with | [_], _ => rfl
  have F2 := fun_mk (st := s_number_shown) l2 c2 k2
  have b2 := F2.binds (ps := ["number"]) fun _ _ _ _ _ _ us hl => match us, hl with | [_], _ => rfl
  have F3 := fun_mk (st := s_good_figures) l3 c3 k3
  have b3 := F3.binds (ps := ["text"]) fun _ _ _ _ _ _ us hl => match us, hl with | [_], _ => rfl
  have F4 := fun_mk (st := s_number_read) l4 c4 k4
  have b4 := F4.binds (ps := ["text"]) fun _ _ _ _ _ _ us hl => match us, hl with | [_], _ => rfl
  have F5 := fun_mk (st := s_rows_of) l5 c5 k5
  have b5 := F5.binds (ps := ["text"]) fun _ _ _ _ _ _ us hl => match us, hl with | [_], _ => rfl
  have F6 := fun_mk (st := s_text_of) l6 c6 k6
  have b6 := F6.binds (ps := ["rows"]) fun _ _ _ _ _ _ us hl => match us, hl with | [_], _ => rfl
  have F7 := fun_mk (st := s_number_in_row) l7 c7 k7
  have b7 := F7.binds (ps := ["word"]) fun _ _ _ _ _ _ us hl => match us, hl with | [_], _ => rfl
  have F8 := fun_mk (st := s_do_deed) l8 c8 k8
  have b8 := F8.binds (ps := ["web", "words", "number"]) fun _ _ _ _ _ _ us hl => match us, hl with | [_, _, _], _ => rfl
  have F9 := fun_mk (st := s_done_row) l9 c9 k9
  have b9 := F9.binds (ps := ["web", "row"]) fun _ _ _ _ _ _ us hl => match us, hl with | [_, _], _ => rfl
  have F10 := fun_mk (st := s_done_rows) l10 c10 k10
  have b10 := F10.binds (ps := ["web", "rows"]) fun _ _ _ _ _ _ us hl => match us, hl with | [_, _], _ => rfl
  have F11 := fun_mk (st := s_check_name) l11 c11 k11
  have b11 := F11.binds (ps := ["name"]) fun _ _ _ _ _ _ us hl => match us, hl with | [_], _ => rfl
  have F12 := fun_mk (st := s_check_number) l12 c12 k12
  have b12 := F12.binds (ps := ["number"]) fun _ _ _ _ _ _ us hl => match us, hl with | [_], _ => rfl
  have F13 := fun_mk (st := s_thing_rows) l13 c13 k13
  have b13 := F13.binds (ps := ["web", "name"]) fun _ _ _ _ _ _ us hl => match us, hl with | [_, _], _ => rfl
  have F14 := fun_mk (st := s_tie_row) l14 c14 k14
  have b14 := F14.binds (ps := ["tie"]) fun _ _ _ _ _ _ us hl => match us, hl with | [_], _ => rfl
  have F15 := fun_mk (st := s_shown_web) l15 c15 k15
  have b15 := F15.binds (ps := ["web"]) fun _ _ _ _ _ _ us hl => match us, hl with | [_], _ => rfl
  have F16 := fun_mk (st := s_read_web) l16 c16 k16
  have b16 := F16.binds (ps := ["rows"]) fun _ _ _ _ _ _ us hl => match us, hl with | [_], _ => rfl
  have F17 := fun_mk (st := s_l_letter) l17 c17 k17
  have b17 := F17.binds (ps := ["number"]) fun _ _ _ _ _ _ us hl => match us, hl with | [_], _ => rfl
  have F18 := fun_mk (st := s_l_name) l18 c18 k18
  have b18 := F18.binds (ps := ["number", "way"]) fun _ _ _ _ _ _ us hl => match us, hl with | [_, _], _ => rfl
  have F19 := fun_mk (st := s_l_key) l19 c19 k19
  have b19 := F19.binds (ps := ["number", "way"]) fun _ _ _ _ _ _ us hl => match us, hl with | [_, _], _ => rfl
  have F20 := fun_mk (st := s_l_which) l20 c20 k20
  have b20 := F20.binds (ps := ["e"]) fun _ _ _ _ _ _ us hl => match us, hl with | [_], _ => rfl
  have F21 := fun_mk (st := s_l_number) l21 c21 k21
  have b21 := F21.binds (ps := ["cell"]) fun _ _ _ _ _ _ us hl => match us, hl with | [_], _ => rfl
  have F22 := fun_mk (st := s_l_row) l22 c22 k22
  have b22 := F22.binds (ps := ["cell", "way", "many"]) fun _ _ _ _ _ _ us hl => match us, hl with | [_, _, _], _ => rfl
  have F23 := fun_mk (st := s_l_picture) l23 c23 k23
  have b23 := F23.binds (ps := ["web"]) fun _ _ _ _ _ _ us hl => match us, hl with | [_], _ => rfl
  have F24 := fun_mk (st := s_l_said) l24 c24 k24
  have b24 := F24.binds (ps := ["web", "row"]) fun _ _ _ _ _ _ us hl => match us, hl with | [_, _], _ => rfl
  have F25 := fun_mk (st := s_l_due_rows) l25 c25 k25
  have b25 := F25.binds (ps := ["web"]) fun _ _ _ _ _ _ us hl => match us, hl with | [_], _ => rfl
  have F26 := fun_mk (st := s_l_back) l26 c26 k26
  have b26 := F26.binds (ps := ["web"]) fun _ _ _ _ _ _ us hl => match us, hl with | [_], _ => rfl
  have F27 := fun_mk (st := s_l_read_alike) l27 c27 k27
  have b27 := F27.binds (ps := ["rows"]) fun _ _ _ _ _ _ us hl => match us, hl with | [_], _ => rfl
  have F28 := fun_mk (st := s_law) l28 c28 k28
  have F29 := fun_mk (st := s_Web_init) l29 c29 k29
  have b29 := F29.binds (ps := ["self"]) fun _ _ _ _ _ _ us hl => match us, hl with | [_], _ => rfl
  have F30 := fun_mk (st := s_Web_check_thing) l30 c30 k30
  have b30 := F30.binds (ps := ["self", "name"]) fun _ _ _ _ _ _ us hl => match us, hl with | [_, _], _ => rfl
  have F31 := fun_mk (st := s_Web_check_tie) l31 c31 k31
  have b31 := F31.binds (ps := ["self", "number"]) fun _ _ _ _ _ _ us hl => match us, hl with | [_, _], _ => rfl
  have F32 := fun_mk (st := s_Web_add_thing) l32 c32 k32
  have b32 := F32.binds (ps := ["self", "name"]) fun _ _ _ _ _ _ us hl => match us, hl with | [_, _], _ => rfl
  have F33 := fun_mk (st := s_Web_drop_thing) l33 c33 k33
  have b33 := F33.binds (ps := ["self", "name"]) fun _ _ _ _ _ _ us hl => match us, hl with | [_, _], _ => rfl
  have F34 := fun_mk (st := s_Web_set_value) l34 c34 k34
  have b34 := F34.binds (ps := ["self", "name", "key", "number"]) fun _ _ _ _ _ _ us hl => match us, hl with | [_, _, _, _], _ => rfl
  have F35 := fun_mk (st := s_Web_take_value) l35 c35 k35
  have b35 := F35.binds (ps := ["self", "name", "key"]) fun _ _ _ _ _ _ us hl => match us, hl with | [_, _, _], _ => rfl
  have F36 : FunD K _ _ s_Web_add_tie f36 _ := ⟨⟨_, _, _, _, _, _, _, _, _, _, rfl, l36, c36⟩, k36⟩
  have b36 : Binds K (PySem.W.fnOf "add_tie" "Web.add_tie" (defArgs s_Web_add_tie) (defBody s_Web_add_tie) (defScope s_Web_add_tie) (.ref dt36) kV36 dc36 pm36 an36 cd36 ct36) ["self", "start", "name", "end", "weight"] [] := fun s us hK hl => match us, hl with | [_, _, _, _, _], _ => by first | exact .of_eq rfl | exact PySem.W.binds_K hK rfl dl36 rfl rfl rfl
  have e36 : Binds K (PySem.W.fnOf "add_tie" "Web.add_tie" (defArgs s_Web_add_tie) (defBody s_Web_add_tie) (defScope s_Web_add_tie) (.ref dt36) kV36 dc36 pm36 an36 cd36 ct36) ["self", "start", "name", "end", "weight"] [.int 0 dk36_0] := fun s us hK hl => match us, (show us.length = 4 by simp only [List.length_append, List.length_cons, List.length_nil] at hl; omega) with | [_, _, _, _], _ => PySem.W.binds_K hK rfl dl36 rfl rfl rfl
  have F37 := fun_mk (st := s_Web_cut_tie) l37 c37 k37
  have b37 := F37.binds (ps := ["self", "number"]) fun _ _ _ _ _ _ us hl => match us, hl with | [_, _], _ => rfl
  have F38 := fun_mk (st := s_Web_things) l38 c38 k38
  have b38 := F38.binds (ps := ["self"]) fun _ _ _ _ _ _ us hl => match us, hl with | [_], _ => rfl
  have F39 := fun_mk (st := s_Web_value) l39 c39 k39
  have b39 := F39.binds (ps := ["self", "name", "key"]) fun _ _ _ _ _ _ us hl => match us, hl with | [_, _, _], _ => rfl
  have F40 := fun_mk (st := s_Web_values_of) l40 c40 k40
  have b40 := F40.binds (ps := ["self", "name"]) fun _ _ _ _ _ _ us hl => match us, hl with | [_, _], _ => rfl
  have F41 := fun_mk (st := s_Web_ties) l41 c41 k41
  have b41 := F41.binds (ps := ["self"]) fun _ _ _ _ _ _ us hl => match us, hl with | [_], _ => rfl
  have F42 := fun_mk (st := s_Web_tie) l42 c42 k42
  have b42 := F42.binds (ps := ["self", "number"]) fun _ _ _ _ _ _ us hl => match us, hl with | [_, _], _ => rfl
  have F43 := fun_mk (st := s_Web_out_of) l43 c43 k43
  have b43 := F43.binds (ps := ["self", "name"]) fun _ _ _ _ _ _ us hl => match us, hl with | [_, _], _ => rfl
  have F44 := fun_mk (st := s_Web_into) l44 c44 k44
  have b44 := F44.binds (ps := ["self", "name"]) fun _ _ _ _ _ _ us hl => match us, hl with | [_, _], _ => rfl
  have F45 := fun_mk (st := s_Web_twin) l45 c45 k45
  have b45 := F45.binds (ps := ["self"]) fun _ _ _ _ _ _ us hl => match us, hl with | [_], _ => rfl
  have T : Txt w K mg ⟨f0, _, f1, _, f2, _, f3, _, f4, _, f5, _, f6, _, f7, _, f8, _, f9, _, f10, _, f11, _, f12, _, f13, _, f14, _, f15, _, f16, _, f17, _, f18, _, f19, _, f20, _, f21, _, f22, _, f23, _, f24, _, f25, _, f26, _, f27, _, f29, _, f30, _, f31, _, f32, _, f33, _, f34, _, f35, _, f36, _, f37, _, f38, _, f39, _, f40, _, f41, _, f42, _, f43, _, f44, _, f45, _, C_SeekError, C_NoName, C_NoNumber, C_NoThing, C_NoKey, C_NoTie, C_Twice, C_StillTied, C_Full, C_NoRow, C_Web, ka0, ma0⟩ := ⟨⟨F0, b0, PySem.W.mg_of X G a0⟩, ⟨F1, b1, PySem.W.mg_of X G a1⟩, ⟨F2, b2, PySem.W.mg_of X G a2⟩, ⟨F3, b3, PySem.W.mg_of X G a3⟩, ⟨F4, b4, PySem.W.mg_of X G a4⟩, ⟨F5, b5, PySem.W.mg_of X G a5⟩, ⟨F6, b6, PySem.W.mg_of X G a6⟩, ⟨F7, b7, PySem.W.mg_of X G a7⟩, ⟨F8, b8, PySem.W.mg_of X G a8⟩, ⟨F9, b9, PySem.W.mg_of X G a9⟩, ⟨F10, b10, PySem.W.mg_of X G a10⟩, ⟨F11, b11, PySem.W.mg_of X G a11⟩, ⟨F12, b12, PySem.W.mg_of X G a12⟩, ⟨F13, b13, PySem.W.mg_of X G a13⟩, ⟨F14, b14, PySem.W.mg_of X G a14⟩, ⟨F15, b15, PySem.W.mg_of X G a15⟩, ⟨F16, b16, PySem.W.mg_of X G a16⟩, ⟨F17, b17, PySem.W.mg_of X G a17⟩, ⟨F18, b18, PySem.W.mg_of X G a18⟩, ⟨F19, b19, PySem.W.mg_of X G a19⟩, ⟨F20, b20, PySem.W.mg_of X G a20⟩, ⟨F21, b21, PySem.W.mg_of X G a21⟩, ⟨F22, b22, PySem.W.mg_of X G a22⟩, ⟨F23, b23, PySem.W.mg_of X G a23⟩, ⟨F24, b24, PySem.W.mg_of X G a24⟩, ⟨F25, b25, PySem.W.mg_of X G a25⟩, ⟨F26, b26, PySem.W.mg_of X G a26⟩, ⟨F27, b27, PySem.W.mg_of X G a27⟩, ⟨⟨a29, n29, k29⟩, F29, b29⟩, ⟨⟨a30, n30, k30⟩, F30, b30⟩, ⟨⟨a31, n31, k31⟩, F31, b31⟩, ⟨⟨a32, n32, k32⟩, F32, b32⟩, ⟨⟨a33, n33, k33⟩, F33, b33⟩, ⟨⟨a34, n34, k34⟩, F34, b34⟩, ⟨⟨a35, n35, k35⟩, F35, b35⟩, ⟨⟨a36, n36, k36⟩, F36, b36, ⟨_, (.cons ⟨_, rfl⟩ .nil), e36⟩⟩, ⟨⟨a37, n37, k37⟩, F37, b37⟩, ⟨⟨a38, n38, k38⟩, F38, b38⟩, ⟨⟨a39, n39, k39⟩, F39, b39⟩, ⟨⟨a40, n40, k40⟩, F40, b40⟩, ⟨⟨a41, n41, k41⟩, F41, b41⟩, ⟨⟨a42, n42, k42⟩, F42, b42⟩, ⟨⟨a43, n43, k43⟩, F43, b43⟩, ⟨⟨a44, n44, k44⟩, F44, b44⟩, ⟨⟨a45, n45, k45⟩, F45, b45⟩, ⟨_, PySem.W.mg_of X G g0, ⟨_, rfl⟩⟩, ⟨_, PySem.W.mg_of X G g1, ⟨_, rfl⟩⟩, ⟨_, PySem.W.mg_of X G g2, ⟨_, rfl⟩⟩, ⟨_, PySem.W.mg_of X G g3, ⟨_, rfl⟩⟩, ⟨_, PySem.W.mg_of X G g4, ⟨_, rfl⟩⟩, ⟨_, PySem.W.mg_of X G g5, ⟨_, rfl⟩⟩, PySem.W.mg_of X G kg0, fun H => .inr ⟨_, _, _, kl0, rfl, rfl, (by show 3 ≤ sizeLine; decide), (.cons ⟨_, rfl⟩ (.cons ⟨_, rfl⟩ (.cons ⟨_, rfl⟩ .nil)))⟩, PySem.W.mg_of X G mg0, kvt_LENGTHS ▸ KD.of [⟨Str.ofString "thing", mk0_0, .int 2, _, ⟨_, rfl⟩⟩, ⟨Str.ofString "drop", mk0_1, .int 2, _, ⟨_, rfl⟩⟩, ⟨Str.ofString "set", mk0_2, .int 4, _, ⟨_, rfl⟩⟩, ⟨Str.ofString "take", mk0_3, .int 3, _, ⟨_, rfl⟩⟩, ⟨Str.ofString "tie", mk0_4, .int 5, _, ⟨_, rfl⟩⟩, ⟨Str.ofString "cut", mk0_5, .int 2, _, ⟨_, rfl⟩⟩] ml0 ms0 (show List.Nodup [Str.ofString "thing", Str.ofString "drop", Str.ofString "set", Str.ofString "take", Str.ofString "tie", Str.ofString "cut"] by decide +kernel), PySem.W.mg_none_of X G z0, PySem.W.mg_none_of X G z1, PySem.W.mg_none_of X G z2, PySem.W.mg_none_of X G z3, PySem.W.mg_none_of X G z4, PySem.W.mg_none_of X G z5, PySem.W.mg_none_of X G z6, PySem.W.mg_none_of X G z7, PySem.W.mg_none_of X G z8, PySem.W.mg_none_of X G z9, PySem.W.mg_none_of X G z10, PySem.W.mg_none_of X G z11, PySem.W.mg_none_of X G z12, PySem.W.mg_of X G gc_SeekError, PySem.W.mg_of X G gc_NoName, PySem.W.mg_of X G gc_NoNumber, PySem.W.mg_of X G gc_NoThing, PySem.W.mg_of X G gc_NoKey, PySem.W.mg_of X G gc_NoTie, PySem.W.mg_of X G gc_Twice, PySem.W.mg_of X G gc_StillTied, PySem.W.mg_of X G gc_Full, PySem.W.mg_of X G gc_NoRow, PySem.W.mg_of X G gc_Web, ⟨xs, xnd⟩, ⟨xm, xnd⟩, ⟨o1_Web, o2_Web, o3_Web, o4_Web⟩, IsOwn.of io_Web, ⟨o5_Web, a29, n29, o6_Web⟩, na_kept_values, na_kept_ties, na_coming_number⟩
  exact ⟨PySem.W.fnOf "law" "law" (defArgs s_law) (defBody s_law) (defScope s_law) .none kV28 dc28 pm28 an28 cd28 ct28, fun s v => .of_eq rfl, fun base _ _ => ok_law F28 T⟩
theorem walk {l : PySem.W.OpenLaw} {q : Program} {loose : List Str} {XP : (Str → Option Value) → Heap → Prop} {YP : World → Heap → Prop} {d : DefRec} {K : Params → PySem.W.Frag} (hn : l.most = some 63) (hdf : d.params.defaults = [])
    (hY : ∀ (w : World) (h : Heap), YP w h → (K w.params).In h)
    (F : ∀ (w : World) (mg : Str → Option Value) (fa : Addr) (h : Heap), (K w.params).In h → h.Ns mainGlobals mg → mg d.name = some (.ref fa) →
      ∃ fd : FuncData, (∀ (s : Shared) (u : Value), BindsTo s fd ⟨[u], []⟩ [("script", u)]) ∧ ∀ base : Heap, (K w.params).In base → base.Ns mainGlobals mg → FnOk l.prog w (K w.params) mg base (CX1 l.prog w) 12 fa fd ["script"] (spLaw (K w.params))) :
    PySem.W.WalkO q loose XP YP l.row.toRowW d [] (fun f vs => PySem.call f vs) :=
  L2.walk_of (n := 63) (k := 12) (x := "script") (CX := fun w => CX1 l.prog w) (sp := fun w => spLaw (K w.params)) hn (by decide) hdf ⟨rfl, by decide, by decide⟩ hY F (fun _ _ a ns hl _ hS => ⟨a, ns, rfl, hS, hl, fun _ => rfl⟩) fun _ _ _ _ _ ⟨_, _, _, _, _, _, _, z⟩ => z
end K14
open PySem PySem.W PyProof.Rows
local macro_rules
  | `(tactic| o_head $H) => `(tactic|
    refine holds_open (q := seenP) (loose := ["LENGTHS"]) (Xt := seenX)
      (XP := XL seenP []) (Yf := Hook.obs $H) (Ya := Hook.val $H)
      (YP := Hook.says $H) (N := 8202) (two_looks (split_look "special-get-raises" look_no look_yes) (split_look "special-get-raises" h_no h_yes)) (Hook.of $H) (Hook.keeps $H)
      (fun s e => xl_of s (Bool.and_eq_true_iff.mp e).1) XL.keeps
      (by rfl) (by rfl) (by rfl)
      (fun s e => recFacts_of (Bool.and_eq_true_iff.mp e).2)
      (by rfl) (by first | assumption | decide +kernel)
      (by decide +kernel) ⟨rfl, rfl, rfl, rfl, rfl, by decide +kernel⟩ ?hw ?hc)
set_option maxRecDepth 100000 in
set_option maxHeartbeats 0 in
theorem PySem.Challenge.cw_tieseek_k14_whole_web_read_back_holds : PySem.Challenge.rw_tieseek_k14_whole_web_read_back.Holds := by
  w_on; o_law; o_head (kHook heapAt.heap_1 asAt asEq); (case hw => w_witness2)
  k_fill
  refine K14.walk (l := PySem.Challenge.rw_tieseek_k14_whole_web_read_back) rfl rfl (fun w h Y => PySem.W.kIn_of Y) ?F
  case F =>
    intro w mg fa h KX G hmg
    refine' K14.all_mk KX G hmg ?gc_SeekError ?gc_NoName ?gc_NoNumber ?gc_NoThing ?gc_NoKey ?gc_NoTie ?gc_Twice ?gc_StillTied ?gc_Full ?gc_NoRow ?gc_Web ?xa0 ?xl0 ?xc0 ?xk0 ?xa1 ?xl1 ?xc1 ?xk1 ?xa2 ?xl2 ?xc2 ?xk2 ?xa3 ?xl3 ?xc3 ?xk3 ?xa4 ?xl4 ?xc4 ?xk4 ?xa5 ?xl5 ?xc5 ?xk5 ?xa6 ?xl6 ?xc6 ?xk6 ?xa7 ?xl7 ?xc7 ?xk7 ?xa8 ?xl8 ?xc8 ?xk8 ?xa9 ?xl9 ?xc9 ?xk9 ?xa10 ?xl10 ?xc10 ?xk10 ?xa11 ?xl11 ?xc11 ?xk11 ?xa12 ?xl12 ?xc12 ?xk12 ?xa13 ?xl13 ?xc13 ?xk13 ?xa14 ?xl14 ?xc14 ?xk14 ?xa15 ?xl15 ?xc15 ?xk15 ?xa16 ?xl16 ?xc16 ?xk16 ?xa17 ?xl17 ?xc17 ?xk17 ?xa18 ?xl18 ?xc18 ?xk18 ?xa19 ?xl19 ?xc19 ?xk19 ?xa20 ?xl20 ?xc20 ?xk20 ?xa21 ?xl21 ?xc21 ?xk21 ?xa22 ?xl22 ?xc22 ?xk22 ?xa23 ?xl23 ?xc23 ?xk23 ?xa24 ?xl24 ?xc24 ?xk24 ?xa25 ?xl25 ?xc25 ?xk25 ?xa26 ?xl26 ?xc26 ?xk26 ?xa27 ?xl27 ?xc27 ?xk27 ?xa28 ?xl28 ?xc28 ?xk28 ?xa29 ?xn29 ?xl29 ?xc29 ?xk29 ?xa30 ?xn30 ?xl30 ?xc30 ?xk30 ?xa31 ?xn31 ?xl31 ?xc31 ?xk31 ?xa32 ?xn32 ?xl32 ?xc32 ?xk32 ?xa33 ?xn33 ?xl33 ?xc33 ?xk33 ?xa34 ?xn34 ?xl34 ?xc34 ?xk34 ?xa35 ?xn35 ?xl35 ?xc35 ?xk35 ?xa36 ?xn36 ?xd36 ?xl36 ?xc36 ?xk36 ?xa37 ?xn37 ?xl37 ?xc37 ?xk37 ?xa38 ?xn38 ?xl38 ?xc38 ?xk38 ?xa39 ?xn39 ?xl39 ?xc39 ?xk39 ?xa40 ?xn40 ?xl40 ?xc40 ?xk40 ?xa41 ?xn41 ?xl41 ?xc41 ?xk41 ?xa42 ?xn42 ?xl42 ?xc42 ?xk42 ?xa43 ?xn43 ?xl43 ?xc43 ?xk43 ?xa44 ?xn44 ?xl44 ?xc44 ?xk44 ?xa45 ?xn45 ?xl45 ?xc45 ?xk45 ?xg0 ?xg1 ?xg2 ?xg3 ?xg4 ?xg5 ?kg0 ?kl0 ?mg0 ?ml0 ?ms0 ?xz0 ?xz1 ?xz2 ?xz3 ?xz4 ?xz5 ?xz6 ?xz7 ?xz8 ?xz9 ?xz10 ?xz11 ?xz12 ?o1_Web ?o2_Web ?o3_Web ?o4_Web ?o5_Web ?o6_Web ?io_Web ?na_kept_values ?na_kept_ties ?na_coming_number ?xs ?xnd ?xm
    (case gc_SeekError => k_is)
    (case gc_NoName => k_is)
    (case gc_NoNumber => k_is)
    (case gc_NoThing => k_is)
    (case gc_NoKey => k_is)
    (case gc_NoTie => k_is)
    (case gc_Twice => k_is)
    (case gc_StillTied => k_is)
    (case gc_Full => k_is)
    (case gc_NoRow => k_is)
    (case gc_Web => k_is)
    (case xa0 => k_is)
    (case xl0 => k_is)
    (case xc0 => k_is)
    (case xk0 => k_is)
    (case xa1 => k_is)
    (case xl1 => k_is)
    (case xc1 => k_is)
    (case xk1 => k_is)
    (case xa2 => k_is)
    (case xl2 => k_is)
    (case xc2 => k_is)
    (case xk2 => k_is)
    (case xa3 => k_is)
    (case xl3 => k_is)
    (case xc3 => k_is)
    (case xk3 => k_is)
    (case xa4 => k_is)
    (case xl4 => k_is)
    (case xc4 => k_is)
    (case xk4 => k_is)
    (case xa5 => k_is)
    (case xl5 => k_is)
    (case xc5 => k_is)
    (case xk5 => k_is)
    (case xa6 => k_is)
    (case xl6 => k_is)
    (case xc6 => k_is)
    (case xk6 => k_is)
    (case xa7 => k_is)
    (case xl7 => k_is)
    (case xc7 => k_is)
    (case xk7 => k_is)
    (case xa8 => k_is)
    (case xl8 => k_is)
    (case xc8 => k_is)
    (case xk8 => k_is)
    (case xa9 => k_is)
    (case xl9 => k_is)
    (case xc9 => k_is)
    (case xk9 => k_is)
    (case xa10 => k_is)
    (case xl10 => k_is)
    (case xc10 => k_is)
    (case xk10 => k_is)
    (case xa11 => k_is)
    (case xl11 => k_is)
    (case xc11 => k_is)
    (case xk11 => k_is)
    (case xa12 => k_is)
    (case xl12 => k_is)
    (case xc12 => k_is)
    (case xk12 => k_is)
    (case xa13 => k_is)
    (case xl13 => k_is)
    (case xc13 => k_is)
    (case xk13 => k_is)
    (case xa14 => k_is)
    (case xl14 => k_is)
    (case xc14 => k_is)
    (case xk14 => k_is)
    (case xa15 => k_is)
    (case xl15 => k_is)
    (case xc15 => k_is)
    (case xk15 => k_is)
    (case xa16 => k_is)
    (case xl16 => k_is)
    (case xc16 => k_is)
    (case xk16 => k_is)
    (case xa17 => k_is)
    (case xl17 => k_is)
    (case xc17 => k_is)
    (case xk17 => k_is)
    (case xa18 => k_is)
    (case xl18 => k_is)
    (case xc18 => k_is)
    (case xk18 => k_is)
    (case xa19 => k_is)
    (case xl19 => k_is)
    (case xc19 => k_is)
    (case xk19 => k_is)
    (case xa20 => k_is)
    (case xl20 => k_is)
    (case xc20 => k_is)
    (case xk20 => k_is)
    (case xa21 => k_is)
    (case xl21 => k_is)
    (case xc21 => k_is)
    (case xk21 => k_is)
    (case xa22 => k_is)
    (case xl22 => k_is)
    (case xc22 => k_is)
    (case xk22 => k_is)
    (case xa23 => k_is)
    (case xl23 => k_is)
    (case xc23 => k_is)
    (case xk23 => k_is)
    (case xa24 => k_is)
    (case xl24 => k_is)
    (case xc24 => k_is)
    (case xk24 => k_is)
    (case xa25 => k_is)
    (case xl25 => k_is)
    (case xc25 => k_is)
    (case xk25 => k_is)
    (case xa26 => k_is)
    (case xl26 => k_is)
    (case xc26 => k_is)
    (case xk26 => k_is)
    (case xa27 => k_is)
    (case xl27 => k_is)
    (case xc27 => k_is)
    (case xk27 => k_is)
    (case xa28 => k_is)
    (case xl28 => k_is)
    (case xc28 => k_is)
    (case xk28 => k_is)
    (case xa29 => k_is)
    (case xn29 => k_is)
    (case xl29 => k_is)
    (case xc29 => k_is)
    (case xk29 => k_is)
    (case xa30 => k_is)
    (case xn30 => k_is)
    (case xl30 => k_is)
    (case xc30 => k_is)
    (case xk30 => k_is)
    (case xa31 => k_is)
    (case xn31 => k_is)
    (case xl31 => k_is)
    (case xc31 => k_is)
    (case xk31 => k_is)
    (case xa32 => k_is)
    (case xn32 => k_is)
    (case xl32 => k_is)
    (case xc32 => k_is)
    (case xk32 => k_is)
    (case xa33 => k_is)
    (case xn33 => k_is)
    (case xl33 => k_is)
    (case xc33 => k_is)
    (case xk33 => k_is)
    (case xa34 => k_is)
    (case xn34 => k_is)
    (case xl34 => k_is)
    (case xc34 => k_is)
    (case xk34 => k_is)
    (case xa35 => k_is)
    (case xn35 => k_is)
    (case xl35 => k_is)
    (case xc35 => k_is)
    (case xk35 => k_is)
    (case xa36 => k_is)
    (case xn36 => k_is)
    (case xl36 => k_is)
    (case xc36 => k_is)
    (case xk36 => k_is)
    (case xa37 => k_is)
    (case xn37 => k_is)
    (case xl37 => k_is)
    (case xc37 => k_is)
    (case xk37 => k_is)
    (case xa38 => k_is)
    (case xn38 => k_is)
    (case xl38 => k_is)
    (case xc38 => k_is)
    (case xk38 => k_is)
    (case xa39 => k_is)
    (case xn39 => k_is)
    (case xl39 => k_is)
    (case xc39 => k_is)
    (case xk39 => k_is)
    (case xa40 => k_is)
    (case xn40 => k_is)
    (case xl40 => k_is)
    (case xc40 => k_is)
    (case xk40 => k_is)
    (case xa41 => k_is)
    (case xn41 => k_is)
    (case xl41 => k_is)
    (case xc41 => k_is)
    (case xk41 => k_is)
    (case xa42 => k_is)
    (case xn42 => k_is)
    (case xl42 => k_is)
    (case xc42 => k_is)
    (case xk42 => k_is)
    (case xa43 => k_is)
    (case xn43 => k_is)
    (case xl43 => k_is)
    (case xc43 => k_is)
    (case xk43 => k_is)
    (case xa44 => k_is)
    (case xn44 => k_is)
    (case xl44 => k_is)
    (case xc44 => k_is)
    (case xk44 => k_is)
    (case xa45 => k_is)
    (case xn45 => k_is)
    (case xl45 => k_is)
    (case xc45 => k_is)
    (case xk45 => k_is)
    (case xg0 => k_is)
    (case xg1 => k_is)
    (case xg2 => k_is)
    (case xg3 => k_is)
    (case xg4 => k_is)
    (case xg5 => k_is)
    (case kg0 => k_is)
    (case kl0 => k_is)
    (case mg0 => k_is)
    (case ml0 => k_is)
    (case ms0 => kernel_rfl)
    (case xz0 => k_is)
    (case xz1 => k_is)
    (case xz2 => k_is)
    (case xz3 => k_is)
    (case xz4 => k_is)
    (case xz5 => k_is)
    (case xz6 => k_is)
    (case xz7 => k_is)
    (case xz8 => k_is)
    (case xz9 => k_is)
    (case xz10 => k_is)
    (case xz11 => k_is)
    (case xz12 => k_is)
    (case o1_Web => k_is)
    (case o2_Web => k_is)
    (case o3_Web => k_is)
    (case o4_Web => k_is)
    (case o5_Web => k_is)
    (case o6_Web => k_is)
    (case io_Web => kernel_rfl)
    (case na_kept_values => k_is)
    (case na_kept_ties => k_is)
    (case na_coming_number => k_is)
    (case xs => kernel_rfl)
    (case xnd => kernel_rfl)
    (case xm => kernel_rfl)
    (case xd36 => k_is)
