/- Appending to a list of a rule whose lists lie in blocks of their own (what RuleWrong does to CopyRule's answer). -/
import Derived.Test.YtcngmgpegnmooaaGreatDoorRuCopyO
import Derived.Test.YtcngmgpegnmooaaGreatDoorRuLaws
import Derived.Maps.AppendAt
set_option linter.unusedVariables false
namespace Go.Proofs.YtcngmgpegnmooaaGreatDoor.Ru
open Go.RowKit Cv St Go.Proofs.YtcngmgpegnmooaaGreatDoor.Fd

theorem OwnB.keep {B C : Nat} {w w' : World} {row : Option Nat} {v : Value} {l : List Int} (h : OwnB B C w v l) (hg : w.grownBy w' row) (hd : ∀ k, row = some k → k < B ∨ C ≤ k) : OwnB B C w' v l := by
  refine ⟨World.ownsRow.kept h.1 hg ?_, h.2⟩
  cases q : v.ownBlock with
  | none => exact .inl rfl
  | some j =>
    refine .inr fun z => ?_
    have h1 := (World.ownsRow.lt h.1 j q).1
    have h2 := h.2 j q
    rcases hd j z.symm with h3 | h3 <;> omega
theorem OwnDB.keep {B C : Nat} {w w' : World} {row : Option Nat} {v : Value} {l : List Dy} (h : OwnDB B C w v l) (hg : w.grownBy w' row) (hd : ∀ k, row = some k → k < B ∨ C ≤ k) : OwnDB B C w' v l := by
  refine ⟨World.ownsRow.kept h.1 hg ?_, h.2⟩
  cases q : v.ownBlock with
  | none => exact .inl rfl
  | some j =>
    refine .inr fun z => ?_
    have h1 := (World.ownsRow.lt h.1 j q).1
    have h2 := h.2 j q
    rcases hd j z.symm with h3 | h3 <;> omega
theorem OwnB.row {B C : Nat} {w : World} {v : Value} {l : List Int} (h : OwnB B C w v l) : ∀ k, v.ownBlock = some k → B ≤ k ∧ k < C := fun k q => ⟨(World.ownsRow.lt h.1 k q).1, h.2 k q⟩
theorem OwnDB.row {B C : Nat} {w : World} {v : Value} {l : List Dy} (h : OwnDB B C w v l) : ∀ k, v.ownBlock = some k → B ≤ k ∧ k < C := fun k q => ⟨(World.ownsRow.lt h.1 k q).1, h.2 k q⟩
/-- the row of an owned slice of numbers, its form read off -/
theorem own_form {B : Nat} {w : World} {v : Value} {l : List Int} (h : w.ownsRow B 3 1 v l.length (l.map (Value.int .i64))) : ∃ A c, v = .slice A l.length c ∧ IsAt w A l.length l := by
  rcases h.2 with ⟨rfl, h0⟩ | ⟨g, cap, cur, rfl, hb, hg, hnc, hcm, -⟩
  · have e : l = [] := List.length_eq_zero_iff.1 h0
    subst e
    exact ⟨none, 0, rfl, IsAt.nil _ _⟩
  · exact ⟨some ⟨g, 0, none⟩, cap, rfl, own_at h⟩
theorem own_formD {B : Nat} {w : World} {v : Value} {l : List Dy} (h : w.ownsRow B 40 2 v l.length (dyCells l)) : ∃ A c, v = .slice A l.length c ∧ DyAt w A l.length l := by
  rcases h.2 with ⟨rfl, h0⟩ | ⟨g, cap, cur, rfl, hb, hg, hnc, hcm, -⟩
  · have e : l = [] := List.length_eq_zero_iff.1 h0
    subst e
    exact ⟨none, 0, rfl, ⟨rfl, fun z => absurd z (Nat.lt_irrefl 0)⟩⟩
  · exact ⟨some ⟨g, 0, none⟩, cap, rfl, own_atD h⟩
/-- append of one number to an owned list: only the list's own block is written -/
theorem append_numB {ops : Array Oper} {rest : List Oper} {o : Oper} {a : Act} {Q : Exit → Act → World → Prop} {w : World} (hgd : o.guard = none) (s x : Operand)
    (ho : o.op = .call { callee := .builtin .append, args := #[s, x], argTypes := #[22, 22] }) (B C : Nat)
    (v : Value) (l : List Int) (hs : a.eval s = v) (hown : OwnB B C w v l) (hB : B ≤ w.heap.size) (t : Int) (T : TypeId) (c : Nat)
    (hx : a.eval x = .slice (some ⟨w.heap.size, 0, none⟩) 1 c) (hl : l.length ≤ 1000000)
    (h : ∀ A c' w', IsAt w' A (l ++ [t]).length (l ++ [t]) → w.grownBy w' v.ownBlock → (∀ g, g < w.heap.size → (∀ k, v.ownBlock = some k → k ≠ g) → Far A g) → wpList Tryz.prog ops Q rest (a.put o.dst (.slice A (l ++ [t]).length c')) w') : wpList Tryz.prog ops Q (o :: rest) a (w.alloc (.cells #[.int .i64 t] T)) := by
  obtain ⟨i0, hi, hz0, hz1, hz2⟩ := info_parts info_int
  refine wpList_append_own_at _ hgd s x 22 ho B 3 i0 (.int .i64 0) 1 8 Tryz.underlying22 hi hz0 hz1 hz2 rfl (by decide) v l.length (l.map (Value.int .i64)) hs (World.ownsRow.alloc hown.1 _)
    ⟨w.heap.size, 0, none⟩ 1 c [.int .i64 t] hx rfl ?_ (by intro u hu; obtain rfl : u = .int .i64 t := by simpa using hu
                                                           rfl) (by unfold maxLen; omega) (by omega) (by simp; omega) ?_
  · intro j u hj
    cases j with
    | zero => obtain rfl : Value.int .i64 t = u := by simpa using hj
              show (w.alloc (.cells #[.int .i64 t] T)).cell? ⟨w.heap.size, 0, none⟩ = _
              rw [World.cell?_alloc_new]; rfl
    | succ j => simp at hj
  · intro v' w' hown' hg _ hb
    obtain ⟨A, c', rfl, hA⟩ := own_form (B := B) (l := l ++ [t]) (by rw [List.length_append, List.map_append]; exact hown')
    refine h A c' w' hA ((World.grownBy_alloc w _ _).trans hg) fun g hg1 hg2 b off e => ?_
    subst e
    rcases hb with hb | hb
    · exact hg2 b hb.symm
    · injection hb with hb
      simp at hb
      omega
/-- append of one weekday to an owned list -/
theorem append_dayB {ops : Array Oper} {rest : List Oper} {o : Oper} {a : Act} {Q : Exit → Act → World → Prop} {w : World} (hgd : o.guard = none) (s x : Operand)
    (ho : o.op = .call { callee := .builtin .append, args := #[s, x], argTypes := #[23, 23] }) (B C : Nat)
    (v : Value) (l : List Dy) (hs : a.eval s = v) (hown : OwnDB B C w v l) (hB : B ≤ w.heap.size) (t : Dy) (T : TypeId) (c : Nat)
    (hx : a.eval x = .slice (some ⟨w.heap.size, 0, none⟩) 1 c) (hl : l.length ≤ 1000000)
    (h : ∀ A c' w', DyAt w' A (l ++ [t]).length (l ++ [t]) → w.grownBy w' v.ownBlock → (∀ g, g < w.heap.size → (∀ k, v.ownBlock = some k → k ≠ g) → Far A g) → wpList Tryz.prog ops Q rest (a.put o.dst (.slice A (l ++ [t]).length c')) w') : wpList Tryz.prog ops Q (o :: rest) a (w.alloc (.cells #[.int .i64 t.n, .int .i64 t.w] T)) := by
  obtain ⟨i0, hi, hz0, hz1, hz2⟩ := info_parts info_dy
  refine wpList_append_own_at _ hgd s x 23 ho B 40 i0 (.agg #[.int .i64 0, .int .i64 0]) 2 16 Tryz.underlying23 hi hz0 hz1 hz2 rfl (by decide) v l.length (dyCells l) hs (World.ownsRow.alloc hown.1 _)
    ⟨w.heap.size, 0, none⟩ 1 c (dyCells [t]) hx rfl ?_ (dyCells_one [t]) (by unfold maxLen; omega) (by omega) (by simp; omega) ?_
  · intro j u hj
    rw [addr_off, Nat.zero_add, World.cell?_alloc_new]
    have : (#[Value.int .i64 t.n, Value.int .i64 t.w] : Array Value).toList = dyCells [t] := rfl
    rw [← this] at hj
    simpa using hj
  · intro v' w' hown' hg _ hb
    obtain ⟨A, c', rfl, hA⟩ := own_formD (B := B) (l := l ++ [t]) (by rw [List.length_append, dyCells_app]; exact hown')
    refine h A c' w' hA ((World.grownBy_alloc w _ _).trans hg) fun g hg1 hg2 b off e => ?_
    subst e
    rcases hb with hb | hb
    · exact hg2 b hb.symm
    · injection hb with hb
      simp at hb
      omega
end Go.Proofs.YtcngmgpegnmooaaGreatDoor.Ru
