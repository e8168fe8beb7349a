/- Memory of package iv's walks: slices of spans, of spans with owners and of numbers, as lists; what is kept where the blocks of a set alone are written. -/
import Derived.Test.YtjodhfehfpmfaaaRows
import Derived.Test.YtjodhfehfpmfaaaIvSet
import Derived.WalkKit
import Derived.OwnWalk
import Derived.WalkSpells
import Derived.LoopTactic
import Derived.Deep.QuietTactic
import Derived.BigQuiet
import Derived.IntWalk
import Derived.Lib.Hide
import Derived.Lib.Slices
import Derived.Laws.MakeOwn
set_option linter.unusedVariables false
namespace Go.Proofs.Ytjodhfehfpmfaaa.Iv
open Go.RowKit

theorem ret_int {k : IntKind} {a b : Int} (h : a = b) : Ending.returned (.int k a) = .returned (.int k b) := by rw [h]
theorem ret_bool {a b : Bool} (h : a = b) : Ending.returned (.bool a) = .returned (.bool b) := by rw [h]
theorem no_bool {p : Prop} [Decidable p] (h : ¬ p) : false = decide p := (decide_eq_false h).symm
theorem yes_bool {p : Prop} [Decidable p] (h : p) : true = decide p := (decide_eq_true h).symm
theorem addr_off (b o j : Nat) : (⟨b, o, none⟩ : Addr).add j = ⟨b, o + j, none⟩ := by unfold Addr.add; split <;> simp_all
theorem below_drewN (B : Nat) (w : World) (n : Nat) : Below B w (w.drewN n) := ⟨rfl, rfl, rfl, Nat.le_refl _, fun _ _ => rfl⟩
theorem below_alloc (w : World) (o : Obj) : Below w.heap.size w (w.alloc o) := (Below.refl _ _).alloc (Nat.le_refl _) o
/-- an element of a list, as the walks name it -/
def gt {α : Type} [Inhabited α] (l : List α) (j : Nat) : α := l[j]?.getD default
theorem gt_lt {α : Type} [Inhabited α] {l : List α} {j : Nat} (h : j < l.length) : gt l j = l[j] := by unfold gt; rw [List.getElem?_eq_getElem h]; rfl
theorem gt_mem {α : Type} [Inhabited α] {l : List α} {j : Nat} (h : j < l.length) : gt l j ∈ l := by rw [gt_lt h]; exact List.getElem_mem h
theorem gt_ext {α : Type} [Inhabited α] {l m : List α} (e : l.length = m.length) (h : ∀ j, j < l.length → gt l j = gt m j) : l = m := by
  refine List.ext_getElem e fun j h1 h2 => ?_
  have := h j h1
  rwa [gt_lt h1, gt_lt h2] at this
theorem gt_cons {α : Type} [Inhabited α] (x : α) (l : List α) (j : Nat) : gt (x :: l) (j + 1) = gt l j := by simp [gt]
/-- cells of a list whose elements have k cells each -/
def cellsL {α : Type} (enc : α → List Value) (l : List α) : List Value := l.flatMap enc
section
variable {α : Type} {enc : α → List Value} {k : Nat}
theorem cells_len (hk : ∀ x, (enc x).length = k) : ∀ l : List α, (cellsL enc l).length = l.length * k
  | [] => by simp [cellsL]
  | s :: l => by
    have := cells_len hk l
    unfold cellsL at this ⊢
    rw [List.flatMap_cons, List.length_append, this, hk, List.length_cons, Nat.add_mul]
    omega
theorem cells_app (l m : List α) : cellsL enc (l ++ m) = cellsL enc l ++ cellsL enc m := by unfold cellsL; rw [List.flatMap_append]
theorem cells_get [Inhabited α] (hk : ∀ x, (enc x).length = k) : ∀ (l : List α) (j c : Nat), j < l.length → c < k → (cellsL enc l)[j * k + c]? = (enc (gt l j))[c]?
  | [], j, c, h, _ => by simp at h
  | s :: l, 0, c, _, hc => by
    unfold cellsL
    rw [List.flatMap_cons, List.getElem?_append_left (by rw [hk]; omega)]
    simp [gt]
  | s :: l, j + 1, c, h, hc => by
    have := cells_get hk l j c (by simpa using h) hc
    unfold cellsL at this ⊢
    rw [List.flatMap_cons, List.getElem?_append_right (by rw [hk, Nat.add_mul]; omega), hk, gt_cons, ← this, show (j + 1) * k + c - k = j * k + c by rw [Nat.add_mul]; omega]
theorem cells_one (h1 : ∀ x, ∀ v ∈ enc x, v.oneCell' = true) (l : List α) : ∀ u ∈ cellsL enc l, u.oneCell' = true := by
  intro u hu
  unfold cellsL at hu
  obtain ⟨x, -, hx⟩ := List.mem_flatMap.1 hu
  exact h1 x u hx
theorem cells_take (hk : ∀ x, (enc x).length = k) (l : List α) (n : Nat) : (cellsL enc l).take (n * k) = cellsL enc (l.take n) := by
  by_cases h : n ≤ l.length
  · have e : cellsL enc l = cellsL enc (l.take n) ++ cellsL enc (l.drop n) := by rw [← cells_app, List.take_append_drop]
    rw [e, List.take_left' (by rw [cells_len hk, List.length_take, Nat.min_eq_left h])]
  · rw [List.take_of_length_le (by rw [cells_len hk]; exact Nat.mul_le_mul_right _ (by omega)), List.take_of_length_le (by omega)]
end
def encS (a : Int × Int) : List Value := [.int .i64 a.1, .int .i64 a.2]
def encT (t : Tg) : List Value := [.int .i64 t.1.1, .int .i64 t.1.2, .int .i64 t.2]
def encI (x : Int) : List Value := [.int .i64 x]
theorem encS_one : ∀ x, ∀ v ∈ encS x, v.oneCell' = true := by
  intro x v h
  simp only [encS, List.mem_cons, List.not_mem_nil, or_false] at h
  rcases h with rfl | rfl <;> rfl
theorem encT_one : ∀ x, ∀ v ∈ encT x, v.oneCell' = true := by
  intro x v h
  simp only [encT, List.mem_cons, List.not_mem_nil, or_false] at h
  rcases h with rfl | rfl | rfl <;> rfl
theorem encI_one : ∀ x, ∀ v ∈ encI x, v.oneCell' = true := by
  intro x v h
  simp only [encI, List.mem_cons, List.not_mem_nil, or_false] at h
  subst h; rfl
theorem cellsI (l : List Int) : cellsL encI l = l.map (Value.int .i64) := by
  unfold cellsL encI
  induction l with
  | nil => rfl
  | cons x l ih => rw [List.flatMap_cons, ih]; rfl
/-- the slice at A of n elements holds the spans l, in W -/
def SpAt (W : World) (A : Option Addr) (n : Nat) (l : List (Int × Int)) : Prop :=
  n = l.length ∧ (0 < n → ∃ b off, A = some ⟨b, off, none⟩ ∧ b < W.heap.size ∧ ∀ j, j < n → W.cell? ⟨b, off + j * 2, none⟩ = some (.int .i64 (gt l j).1) ∧ W.cell? ⟨b, off + j * 2 + 1, none⟩ = some (.int .i64 (gt l j).2))
/-- likewise, spans with owners -/
def TgAt (W : World) (A : Option Addr) (n : Nat) (l : List Tg) : Prop :=
  n = l.length ∧ (0 < n → ∃ b off, A = some ⟨b, off, none⟩ ∧ b < W.heap.size ∧ ∀ j, j < n → W.cell? ⟨b, off + j * 3, none⟩ = some (.int .i64 (gt l j).1.1) ∧ W.cell? ⟨b, off + j * 3 + 1, none⟩ = some (.int .i64 (gt l j).1.2) ∧ W.cell? ⟨b, off + j * 3 + 2, none⟩ = some (.int .i64 (gt l j).2))
/-- likewise, numbers -/
def IsAt (W : World) (A : Option Addr) (n : Nat) (l : List Int) : Prop :=
  n = l.length ∧ (0 < n → ∃ b off, A = some ⟨b, off, none⟩ ∧ b < W.heap.size ∧ ∀ j, j < n → W.cell? ⟨b, off + j, none⟩ = some (.int .i64 (gt l j)))
/-- outside the blocks F nothing has turned -/
structure Kp (F : Nat → Prop) (w w' : World) : Prop where
  os : w'.os = w.os
  tape : w'.tape = w.tape
  output : w'.output = w.output
  size : w.heap.size ≤ w'.heap.size
  block : ∀ k, k < w.heap.size → ¬ F k → w'.heap[k]? = w.heap[k]?
theorem Kp.refl (F : Nat → Prop) (w : World) : Kp F w w := ⟨rfl, rfl, rfl, Nat.le_refl _, fun _ _ _ => rfl⟩
theorem Kp.trans {F : Nat → Prop} {a b c : World} (h : Kp F a b) (k : Kp F b c) : Kp F a c :=
  ⟨k.os.trans h.os, k.tape.trans h.tape, k.output.trans h.output, Nat.le_trans h.size k.size, fun i hi hf => (k.block i (Nat.lt_of_lt_of_le hi h.size) hf).trans (h.block i hi hf)⟩
theorem Kp.mono {F G : Nat → Prop} {w w' : World} (h : Kp F w w') (hg : ∀ k, F k → G k) : Kp G w w' := ⟨h.os, h.tape, h.output, h.size, fun k hk hf => h.block k hk fun q => hf (hg k q)⟩
theorem Kp.of {F : Nat → Prop} {w w' : World} (h : Below w.heap.size w w') : Kp F w w' := ⟨h.os, h.tape, h.output, h.size, fun k hk _ => h.block k hk⟩
theorem Kp.below {F : Nat → Prop} {B : Nat} {w w' : World} (h : Kp F w w') (hB : B ≤ w.heap.size) (hF : ∀ k, F k → B ≤ k) : Below B w w' :=
  ⟨h.os, h.tape, h.output, h.size, fun k hk => h.block k (by omega) fun q => by have := hF k q; omega⟩
theorem Kp.cell {F : Nat → Prop} {w w' : World} (h : Kp F w w') {b o : Nat} (hb : b < w.heap.size) (hf : ¬ F b) : w'.cell? ⟨b, o, none⟩ = w.cell? ⟨b, o, none⟩ := World.cell?_of_block (w := w) (h.block b hb hf)
theorem Kp.grown {F : Nat → Prop} {w w' : World} {row : Option Nat} (hg : w.grownBy w' row) (hr : ∀ k, row = some k → F k) : Kp F w w' :=
  ⟨hg.os, hg.tape, hg.output, hg.size, fun k hk hf => hg.block k hk fun e => hf (hr k e.symm)⟩
theorem Kp.setCell {F : Nat → Prop} (w : World) (p : Addr) (hp : F p.block) (u : Value) : Kp F w (w.setCell p u) :=
  ⟨rfl, rfl, rfl, by simp [World.setCell], fun k hk hf => Below.heap_setCell _ _ _ _ (fun e => hf (e ▸ hp))⟩
/-- no block of F is under the slice -/
def Off (F : Nat → Prop) (A : Option Addr) (n : Nat) : Prop := 0 < n → ∀ a, A = some a → ¬ F a.block
theorem SpAt.kp {F : Nat → Prop} {W w : World} {A : Option Addr} {n : Nat} {l : List (Int × Int)} (h : SpAt W A n l) (hb : Kp F W w) (ho : Off F A n) : SpAt w A n l :=
  ⟨h.1, fun h0 => by
    obtain ⟨b, off, e, hlt, hc⟩ := h.2 h0
    have hf := ho h0 _ e
    exact ⟨b, off, e, Nat.lt_of_lt_of_le hlt hb.size, fun j hj => ⟨(hb.cell hlt hf).trans (hc j hj).1, (hb.cell hlt hf).trans (hc j hj).2⟩⟩⟩
theorem TgAt.kp {F : Nat → Prop} {W w : World} {A : Option Addr} {n : Nat} {l : List Tg} (h : TgAt W A n l) (hb : Kp F W w) (ho : Off F A n) : TgAt w A n l :=
  ⟨h.1, fun h0 => by
    obtain ⟨b, off, e, hlt, hc⟩ := h.2 h0
    have hf := ho h0 _ e
    exact ⟨b, off, e, Nat.lt_of_lt_of_le hlt hb.size, fun j hj => ⟨(hb.cell hlt hf).trans (hc j hj).1, (hb.cell hlt hf).trans (hc j hj).2.1, (hb.cell hlt hf).trans (hc j hj).2.2⟩⟩⟩
theorem IsAt.kp {F : Nat → Prop} {W w : World} {A : Option Addr} {n : Nat} {l : List Int} (h : IsAt W A n l) (hb : Kp F W w) (ho : Off F A n) : IsAt w A n l :=
  ⟨h.1, fun h0 => by
    obtain ⟨b, off, e, hlt, hc⟩ := h.2 h0
    have hf := ho h0 _ e
    exact ⟨b, off, e, Nat.lt_of_lt_of_le hlt hb.size, fun j hj => (hb.cell hlt hf).trans (hc j hj)⟩⟩
theorem off_none (A : Option Addr) (n : Nat) : Off (fun _ => False) A n := fun _ _ _ h => h
theorem Kp.of' {w w' : World} (h : Below w.heap.size w w') : Kp (fun _ => False) w w' := Kp.of h
theorem SpAt.below {W w : World} {A : Option Addr} {n : Nat} {l : List (Int × Int)} (h : SpAt W A n l) (hb : Below W.heap.size W w) : SpAt w A n l := h.kp (Kp.of' hb) (off_none _ _)
theorem TgAt.below {W w : World} {A : Option Addr} {n : Nat} {l : List Tg} (h : TgAt W A n l) (hb : Below W.heap.size W w) : TgAt w A n l := h.kp (Kp.of' hb) (off_none _ _)
theorem IsAt.below {W w : World} {A : Option Addr} {n : Nat} {l : List Int} (h : IsAt W A n l) (hb : Below W.heap.size W w) : IsAt w A n l := h.kp (Kp.of' hb) (off_none _ _)
theorem SpAt.nil (W : World) (A : Option Addr) : SpAt W A 0 [] := ⟨rfl, fun h => absurd h (by omega)⟩
theorem TgAt.nil (W : World) (A : Option Addr) : TgAt W A 0 [] := ⟨rfl, fun h => absurd h (by omega)⟩
theorem IsAt.nil (W : World) (A : Option Addr) : IsAt W A 0 [] := ⟨rfl, fun h => absurd h (by omega)⟩
/-- v is a slice of the call's own that holds the spans l -/
def OwnP (B : Nat) (w : World) (v : Value) (l : List (Int × Int)) : Prop := w.ownsRow B 40 2 v l.length (cellsL encS l)
theorem OwnP.nil (B : Nat) (w : World) : OwnP B w (.slice none 0 0) [] := World.ownsRow_nil _ _ _ _
theorem row_on {B : Nat} {w w' : World} {e : TypeId} {size : Nat} {v : Value} {n : Nat} {xs : List Value} (h : w.ownsRow B e size v n xs) (hb : Below w.heap.size w w') : w'.ownsRow B e size v n xs :=
  World.ownsRow.kept (row := none) h ⟨hb.1, hb.2, hb.3, hb.4, fun k hk _ => hb.5 k hk⟩ (by cases v.ownBlock <;> simp)
theorem OwnP.on {B : Nat} {w w' : World} {v : Value} {l : List (Int × Int)} (h : OwnP B w v l) (hb : Below w.heap.size w w') : OwnP B w' v l := row_on h hb
theorem OwnP.form {B : Nat} {w : World} {v : Value} {l : List (Int × Int)} (h : OwnP B w v l) : (v = .slice none 0 0 ∧ l = []) ∨ ∃ g c, v = .slice (some ⟨g, 0, none⟩) l.length c ∧ SpAt w (some ⟨g, 0, none⟩) l.length l ∧ B ≤ g ∧ g < w.heap.size ∧ l.length ≤ c := by
  have hb := fun g => World.ownsRow.lt h g
  have cc := fun g (e : v.ownBlock = some g) => World.ownsRow.cells h (g := g) e
  rcases h.2 with ⟨rfl, e⟩ | ⟨g, cap, cur, rfl, hB, hg, hn, hm, hs, ht⟩
  · exact .inl ⟨rfl, List.eq_nil_of_length_eq_zero e⟩
  · refine .inr ⟨g, cap, rfl, ⟨rfl, fun h0 => ⟨g, 0, rfl, (hb g rfl).2, fun j hj => ?_⟩⟩, (hb g rfl).1, (hb g rfl).2, hn⟩
    have a := cells_get (enc := encS) (k := 2) (fun _ => rfl) l j 0 hj (by omega)
    have b := cells_get (enc := encS) (k := 2) (fun _ => rfl) l j 1 hj (by omega)
    exact ⟨by have := cc g rfl _ _ a; rwa [addr_off] at this, by have := cc g rfl _ _ b; rwa [addr_off] at this⟩
theorem info_sp : (Try.prog.info? 40).map (fun i => (i.zero, i.size, i.bytes)) = some (some (.agg #[.int .i64 0, .int .i64 0]), 2, 16) := by kernel_rfl
theorem info_int : (Try.prog.info? 3).map (fun i => (i.zero, i.size, i.bytes)) = some (some (.int .i64 0), 1, 8) := by kernel_rfl
/-- append of one span to an own slice of spans -/
theorem append_sp {ops : Array Oper} {rest : List Oper} {o : Oper} {a : Act} {Q : Exit → Act → World → Prop} {B : Nat} {w : World} (hgd : o.guard = none) (s x : Operand)
    (ho : o.op = .call { callee := .builtin .append, args := #[s, x], argTypes := #[22, 22] })
    (v : Value) (l : List (Int × Int)) (hs : a.eval s = v) (hown : OwnP B w v l) (hB : B ≤ w.heap.size) (p : Int × Int) (cs : Array Value) (hcs : cs.toList = encS p) (T : TypeId) (c : Nat)
    (hx : a.eval x = .slice (some ⟨w.heap.size, 0, none⟩) 1 c) (hl : l.length ≤ 1000000)
    (h : ∀ v' w', OwnP B w' v' (l ++ [p]) → Below B w w' → wpList Try.prog ops Q rest (a.put o.dst v') w') : wpList Try.prog ops Q (o :: rest) a (w.alloc (.cells cs T)) := by
  obtain ⟨i0, hi, hz0, hz1, hz2⟩ := info_parts info_sp
  refine wpList_append_own _ hgd s x 22 ho B 40 i0 _ 2 16 Try.underlying22 hi hz0 hz1 hz2 rfl (by decide) v l.length (cellsL encS l) hs (World.ownsRow.alloc hown _)
    ⟨w.heap.size, 0, none⟩ 1 c (encS p) hx rfl ?_ (encS_one p) (by unfold maxLen; omega) (by omega) (by simp; omega) ?_
  · intro j u hj
    rw [addr_off, World.cell?_alloc_new, ← hj, ← hcs]
    simp
  · intro v' w' hown' hg _
    refine h v' w' ?_ (((Below.refl _ _).alloc hB _).grown hg (by simp; omega) fun _ hk => (World.ownsRow.lt hown _ hk).1)
    unfold OwnP
    rw [List.length_append, cells_app]
    have : cellsL encS [p] = encS p := by unfold cellsL; simp
    rw [this]
    exact hown'
theorem cellsS_set : ∀ (l : List (Int × Int)) (j : Nat) (x : Int), j < l.length → (cellsL encS l).set (j * 2 + 1) (.int .i64 x) = cellsL encS (l.set j ((gt l j).1, x))
  | [], j, x, h => by simp at h
  | s :: l, 0, x, _ => by simp [cellsL, encS, gt]
  | s :: l, j + 1, x, h => by
    have ih := cellsS_set l j x (by simpa using h)
    unfold cellsL at ih ⊢
    rw [gt_cons, List.set_cons_succ, List.flatMap_cons, List.flatMap_cons, ← ih, show (j + 1) * 2 + 1 = (j * 2 + 1) + 1 + 1 by omega]
    rfl
/-- a span's end is written -/
theorem OwnP.store {B : Nat} {w : World} {g cap : Nat} {l : List (Int × Int)} (h : OwnP B w (.slice (some ⟨g, 0, none⟩) l.length cap) l) (j : Nat) (hj : j < l.length) (x : Int) :
    OwnP B (w.setCell ⟨g, j * 2 + 1, none⟩ (.int .i64 x)) (.slice (some ⟨g, 0, none⟩) l.length cap) (l.set j ((gt l j).1, x)) ∧ (B ≤ w.heap.size → Below B w (w.setCell ⟨g, j * 2 + 1, none⟩ (.int .i64 x))) := by
  obtain ⟨h1, h2⟩ := World.ownsRow.stored h (j * 2 + 1) (.int .i64 x)
  refine ⟨?_, fun hB => (Below.refl _ _).grown h2 hB fun k hk => ?_⟩
  · unfold OwnP
    rw [List.length_set, ← cellsS_set l j x hj]
    exact h1
  · injection hk with hk; subst hk
    exact (World.ownsRow.lt h g rfl).1
/-- what a call answers that makes a slice of spans of its own -/
def NewS (w : World) (r : List (Int × Int)) (e : Ending) (w' : World) : Prop := ∃ A c, e = .returned (.slice A r.length c) ∧ SpAt w' A r.length r ∧ (0 < r.length → ∃ g, A = some ⟨g, 0, none⟩ ∧ w.heap.size ≤ g) ∧ r.length ≤ c ∧ Below w.heap.size w w'
theorem OwnP.new {B : Nat} {w : World} {v : Value} {l : List (Int × Int)} (h : OwnP B w v l) : ∃ A c, v = .slice A l.length c ∧ SpAt w A l.length l ∧ (0 < l.length → ∃ g, A = some ⟨g, 0, none⟩ ∧ B ≤ g) ∧ l.length ≤ c := by
  rcases h.form with ⟨rfl, rfl⟩ | ⟨g, c, rfl, s, q, -, r⟩
  · exact ⟨none, 0, rfl, SpAt.nil _ _, fun h => absurd h (by simp), Nat.le_refl _⟩
  · exact ⟨_, _, rfl, s, fun _ => ⟨g, rfl, q⟩, r⟩
end Go.Proofs.Ytjodhfehfpmfaaa.Iv
