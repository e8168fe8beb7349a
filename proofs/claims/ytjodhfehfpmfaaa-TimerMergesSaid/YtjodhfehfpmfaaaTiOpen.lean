/- What came in, opened: operations of three numbers, lists of numbers, lists of lists. -/
import Derived.Test.YtjodhfehfpmfaaaIvOp
import Derived.Test.YtjodhfehfpmfaaaTiMg
set_option linter.unusedVariables false
namespace Go.Proofs.Ytjodhfehfpmfaaa.Ti
open Go.ChangeShapes Go.WideShapes Go.RowKit Go.Deep Iv

section
variable {H : Type} {enc : TypeId × Value → H} {W : World} {base : Nat} {spare : Nat → Bool} {held : Bool}
theorem op_open {n : Nat} {v : Value} {y : DataW H × List MemPlace} (h : DataW.trod enc Try.prog W base spare held n 59 [v] = some y) :
    ∃ A k c l, v = .slice A k c ∧ TgAt W A k l ∧ (A = none → c = 0) ∧ k ≤ 9223372036854775807 := by
  rcases open_slice Try.underlying59 h with ⟨hc, _⟩ | ⟨a, len, cap, m, n', D, Pl, hc, _, hl, hm, hmm, _, hi⟩
  · injection hc with hc
    exact ⟨none, 0, 0, [], hc, TgAt.nil _ _, fun _ => rfl, by omega⟩
  · injection hc with hc
    have hlm : len ≤ m := by rw [hmm]; split <;> omega
    have each : ∀ i, i < len → ∃ s : Tg, W.cell? (a.add (i * 3)) = some (.int .i64 s.1.1) ∧ W.cell? ((a.add (i * 3)).add 1) = some (.int .i64 s.1.2) ∧ W.cell? ((a.add (i * 3)).add 2) = some (.int .i64 s.2) := fun i hi' => by
      obtain ⟨cs, hcs, ht⟩ := hi i (by omega)
      have e2 : Try.prog.cellsOf 67 = 3 := by kernel_rfl
      rw [e2] at hcs
      obtain ⟨_, hlen, hcell⟩ := World.cells?_some hcs
      have hz := ints_of Try.underlying67 (by kernel_rfl) (by kernel_rfl) (fun j f hj => by
        match j, hj with
        | 0, hj => cases hj; exact Try.underlying3
        | 1, hj => cases hj; exact Try.underlying3
        | 2, hj => cases hj; exact Try.underlying3) ht
      obtain ⟨t, h0⟩ := hz 0 (by decide)
      obtain ⟨o, h1⟩ := hz 1 (by decide)
      obtain ⟨r, h2⟩ := hz 2 (by decide)
      refine ⟨((t, o), r), ?_, (hcell 1 (by omega)).trans h1, (hcell 2 (by omega)).trans h2⟩
      have := (hcell 0 (by omega)).trans h0
      rwa [show (a.add (i * 3)).add 0 = a.add (i * 3) from rfl] at this
    obtain ⟨l, hll, hall⟩ := list_of (default : Tg) each
    refine ⟨some a, len, cap, l, hc, ⟨hll.symm, fun h0 => ?_⟩, (fun h => by cases h), (by unfold maxLen at hm; omega)⟩
    obtain ⟨b, off, spot⟩ := a
    have hs : spot = none := by have := World.cell?_spot (hall 0 h0).1; simpa [Addr.add] using this
    subst hs
    have hb : b < W.heap.size := by
      have := (hall 0 h0).1
      simp only [Nat.zero_mul, Addr.add, if_true] at this
      exact World.block_lt_of_cell? _ _ this
    refine ⟨b, off, rfl, hb, fun j hj => ?_⟩
    obtain ⟨c0, c1, c2⟩ := hall j hj
    rw [addr_add'] at c0 c1 c2
    rw [addr_add'] at c1 c2
    exact ⟨c0, c1, c2⟩
theorem is_open {n : Nat} {v : Value} {y : DataW H × List MemPlace} (h : DataW.trod enc Try.prog W base spare held n 53 [v] = some y) :
    ∃ A k c l, v = .slice A k c ∧ IsAt W A k l ∧ (A = none → c = 0) ∧ k ≤ 9223372036854775807 ∧ k ≤ c := by
  rcases open_slice Try.underlying53 h with ⟨hc, _⟩ | ⟨a, len, cap, m, n', D, Pl, hc, _, hl, hm, hmm, _, hi⟩
  · injection hc with hc
    exact ⟨none, 0, 0, [], hc, IsAt.nil _ _, fun _ => rfl, by omega, Nat.le_refl _⟩
  · injection hc with hc
    have hlm : len ≤ m := by rw [hmm]; split <;> omega
    have each : ∀ i, i < len → ∃ s : Int, W.cell? (a.add (i * 1)) = some (.int .i64 s) := fun i hi' => by
      obtain ⟨cs, hcs, ht⟩ := hi i (by omega)
      have e2 : Try.prog.cellsOf 3 = 1 := by kernel_rfl
      rw [e2] at hcs
      obtain ⟨_, hlen, hcell⟩ := World.cells?_some hcs
      match cs, hlen, ht, hcell with
      | [u], _, ht, hcell =>
        obtain ⟨z, e0, _⟩ := DataW.trod_int Try.underlying3 ht
        injection e0 with e0
        subst e0
        refine ⟨z, ?_⟩
        have := hcell 0 (by omega)
        rwa [show (a.add (i * 1)).add 0 = a.add (i * 1) from rfl] at this
    obtain ⟨l, hll, hall⟩ := list_of (0 : Int) each
    refine ⟨some a, len, cap, l, hc, ⟨hll.symm, fun h0 => ?_⟩, (fun h => by cases h), (by unfold maxLen at hm; omega), hl⟩
    obtain ⟨b, off, spot⟩ := a
    have hs : spot = none := by have := World.cell?_spot (hall 0 h0); simpa [Addr.add] using this
    subst hs
    have hb : b < W.heap.size := by
      have := hall 0 h0
      simp only [Nat.zero_mul, Addr.add, if_true] at this
      exact World.block_lt_of_cell? _ _ this
    refine ⟨b, off, rfl, hb, fun j hj => ?_⟩
    have c0 := hall j hj
    rw [addr_add', Nat.mul_one] at c0
    exact c0
theorem ls_open {n : Nat} {v : Value} {y : DataW H × List MemPlace} (h : DataW.trod enc Try.prog W base spare held n 78 [v] = some y) :
    ∃ A k c S, v = .slice A k c ∧ LsAt W A k S ∧ (A = none → c = 0) ∧ k ≤ 9223372036854775807 ∧ ∀ s ∈ S, (s.A = none → s.c = 0) ∧ s.k ≤ 9223372036854775807 := by
  rcases open_slice Try.underlying78 h with ⟨hc, _⟩ | ⟨a, len, cap, m, n', D, Pl, hc, _, hl, hm, hmm, _, hi⟩
  · injection hc with hc
    exact ⟨none, 0, 0, [], hc, ⟨rfl, fun h => absurd h (by omega)⟩, fun _ => rfl, by omega, fun s hs => by cases hs⟩
  · injection hc with hc
    have hlm : len ≤ m := by rw [hmm]; split <;> omega
    have each : ∀ i, i < len → ∃ s : SlR, W.cell? (a.add (i * 1)) = some (.slice s.A s.k s.c) ∧ IsAt W s.A s.k s.l ∧ s.k ≤ s.c ∧ (s.A = none → s.c = 0) ∧ s.k ≤ 9223372036854775807 := fun i hi' => by
      obtain ⟨cs, hcs, ht⟩ := hi i (by omega)
      have e2 : Try.prog.cellsOf 53 = 1 := by kernel_rfl
      rw [e2] at hcs
      obtain ⟨_, hlen, hcell⟩ := World.cells?_some hcs
      match cs, hlen, ht, hcell with
      | [u], _, ht, hcell =>
        obtain ⟨A, k, c, l, rfl, h1, h2, h3, h4⟩ := is_open ht
        refine ⟨⟨A, k, c, l⟩, ?_, h1, h4, h2, h3⟩
        have := hcell 0 (by omega)
        rwa [show (a.add (i * 1)).add 0 = a.add (i * 1) from rfl] at this
    obtain ⟨l, hll, hall⟩ := list_of (default : SlR) each
    refine ⟨some a, len, cap, l, hc, ⟨hll.symm, fun h0 => ?_⟩, (fun h => by cases h), (by unfold maxLen at hm; omega), fun s hs => ?_⟩
    · obtain ⟨b, off, spot⟩ := a
      have hs : spot = none := by have := World.cell?_spot (hall 0 h0).1; simpa [Addr.add] using this
      subst hs
      have hb : b < W.heap.size := by
        have := (hall 0 h0).1
        simp only [Nat.zero_mul, Addr.add, if_true] at this
        exact World.block_lt_of_cell? _ _ this
      refine ⟨b, off, rfl, hb, fun j hj => ?_⟩
      obtain ⟨c0, c1, c2, -⟩ := hall j hj
      rw [addr_add', Nat.mul_one] at c0
      exact ⟨c0, c1, c2⟩
    · obtain ⟨j, hj, e⟩ := List.mem_iff_getElem.1 hs
      have := hall j (by omega)
      rw [List.getElem?_eq_getElem hj, Option.getD_some, e] at this
      exact ⟨this.2.2.2.1, this.2.2.2.2⟩
end
end Go.Proofs.Ytjodhfehfpmfaaa.Ti
