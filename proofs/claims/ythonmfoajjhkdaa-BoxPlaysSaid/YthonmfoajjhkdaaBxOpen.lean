/- What came in, opened: operations of two numbers, lists of numbers, lists of lists. -/
import Derived.Test.YthonmfoajjhkdaaIvOpen
set_option linter.unusedVariables false
namespace Go.Proofs.Ythonmfoajjhkdaa.Bx
open Go.ChangeShapes Go.WideShapes Go.RowKit Go.Deep Iv

/-- a list of numbers, where it lies -/
structure SlR where
  A : Option Addr
  k : Nat
  c : Nat
  l : List Int
instance : Inhabited SlR := ⟨⟨none, 0, 0, []⟩⟩
/-- a slice of slices of numbers that is read -/
def LsAt (W : World) (B : Option Addr) (n : Nat) (S : List SlR) : Prop :=
  n = S.length ∧ (0 < n → ∃ b off, B = some ⟨b, off, none⟩ ∧ b < W.heap.size ∧ ∀ j, j < n → W.cell? ⟨b, off + j, none⟩ = some (.slice (gt S j).A (gt S j).k (gt S j).c) ∧ IsAt W (gt S j).A (gt S j).k (gt S j).l ∧ (gt S j).k ≤ (gt S j).c)
theorem LsAt.below {W w : World} {B : Option Addr} {n : Nat} {S : List SlR} (h : LsAt W B n S) (hb : Below W.heap.size W w) : LsAt w B n S := by
  refine ⟨h.1, fun h0 => ?_⟩
  obtain ⟨b, off, e, hlt, hc⟩ := h.2 h0
  refine ⟨b, off, e, Nat.lt_of_lt_of_le hlt hb.size, fun j hj => ?_⟩
  obtain ⟨c0, s, k⟩ := hc j hj
  exact ⟨(hb.cell (p := ⟨b, _, none⟩) hlt).trans c0, s.below hb, k⟩
section
variable {H : Type} {enc : TypeId × Value → H} {W : World} {base : Nat} {spare : Nat → Bool} {held : Bool}
theorem op_open {n : Nat} {v : Value} {y : DataW H × List MemPlace} (h : DataW.trod enc Try.prog W base spare held n 22 [v] = some y) :
    ∃ A k c l, v = .slice A k c ∧ SpAt W A k l ∧ (A = none → c = 0) ∧ k ≤ 9223372036854775807 := by
  rcases open_slice Try.underlying22 h with ⟨hc, _⟩ | ⟨a, len, cap, m, n', D, Pl, hc, _, hl, hm, hmm, _, hi⟩
  · injection hc with hc
    exact ⟨none, 0, 0, [], hc, SpAt.nil _ _, fun _ => rfl, by omega⟩
  · injection hc with hc
    have hlm : len ≤ m := by rw [hmm]; split <;> omega
    have each : ∀ i, i < len → ∃ s : Int × Int, W.cell? (a.add (i * 2)) = some (.int .i64 s.1) ∧ W.cell? ((a.add (i * 2)).add 1) = some (.int .i64 s.2) := fun i hi' => by
      obtain ⟨cs, hcs, ht⟩ := hi i (by omega)
      have e2 : Try.prog.cellsOf 33 = 2 := by kernel_rfl
      rw [e2] at hcs
      obtain ⟨_, hlen, hcell⟩ := World.cells?_some hcs
      have hz := ints_of Try.underlying33 (by kernel_rfl) (by kernel_rfl) (fun j f hj => by
        match j, hj with
        | 0, hj => cases hj; exact Try.underlying3
        | 1, hj => cases hj; exact Try.underlying3) ht
      obtain ⟨t, h0⟩ := hz 0 (by decide)
      obtain ⟨o, h1⟩ := hz 1 (by decide)
      refine ⟨(t, o), ?_, (hcell 1 (by omega)).trans h1⟩
      have := (hcell 0 (by omega)).trans h0
      rwa [show (a.add (i * 2)).add 0 = a.add (i * 2) from rfl] at this
    obtain ⟨l, hll, hall⟩ := list_of (default : Int × Int) each
    refine ⟨some a, len, cap, l, hc, ⟨hll.symm, fun h0 => ?_⟩, (fun h => by cases h), (by unfold maxLen at hm; omega)⟩
    obtain ⟨b, off, spot⟩ := a
    have hs : spot = none := by have := World.cell?_spot (hall 0 h0).1; simpa [Addr.add] using this
    subst hs
    have hb : b < W.heap.size := by
      have := (hall 0 h0).1
      simp only [Nat.zero_mul, Addr.add, if_true] at this
      exact World.block_lt_of_cell? _ _ this
    refine ⟨b, off, rfl, hb, fun j hj => ?_⟩
    obtain ⟨c0, c1⟩ := hall j hj
    rw [addr_add'] at c0 c1
    rw [addr_add'] at c1
    exact ⟨c0, c1⟩
theorem is_open {n : Nat} {v : Value} {y : DataW H × List MemPlace} (h : DataW.trod enc Try.prog W base spare held n 29 [v] = some y) :
    ∃ A k c l, v = .slice A k c ∧ IsAt W A k l ∧ (A = none → c = 0) ∧ k ≤ 9223372036854775807 ∧ k ≤ c := by
  rcases open_slice Try.underlying29 h with ⟨hc, _⟩ | ⟨a, len, cap, m, n', D, Pl, hc, _, hl, hm, hmm, _, hi⟩
  · injection hc with hc
    exact ⟨none, 0, 0, [], hc, IsAt.nil _ _, fun _ => rfl, by omega, Nat.le_refl _⟩
  · injection hc with hc
    have hlm : len ≤ m := by rw [hmm]; split <;> omega
    have each : ∀ i, i < len → ∃ s : Int, W.cell? (a.add (i * 1)) = some (.int .i64 s) := fun i hi' => by
      obtain ⟨cs, hcs, ht⟩ := hi i (by omega)
      have e2 : Try.prog.cellsOf 3 = 1 := by kernel_rfl
      rw [e2] at hcs
      obtain ⟨_, hlen, hcell⟩ := World.cells?_some hcs
      match cs, hlen, ht, hcell with
      | [u], _, ht, hcell =>
        obtain ⟨z, e0, _⟩ := DataW.trod_int Try.underlying3 ht
        injection e0 with e0
        subst e0
        refine ⟨z, ?_⟩
        have := hcell 0 (by omega)
        rwa [show (a.add (i * 1)).add 0 = a.add (i * 1) from rfl] at this
    obtain ⟨l, hll, hall⟩ := list_of (0 : Int) each
    refine ⟨some a, len, cap, l, hc, ⟨hll.symm, fun h0 => ?_⟩, (fun h => by cases h), (by unfold maxLen at hm; omega), hl⟩
    obtain ⟨b, off, spot⟩ := a
    have hs : spot = none := by have := World.cell?_spot (hall 0 h0); simpa [Addr.add] using this
    subst hs
    have hb : b < W.heap.size := by
      have := hall 0 h0
      simp only [Nat.zero_mul, Addr.add, if_true] at this
      exact World.block_lt_of_cell? _ _ this
    refine ⟨b, off, rfl, hb, fun j hj => ?_⟩
    have c0 := hall j hj
    rw [addr_add', Nat.mul_one] at c0
    exact c0
theorem ls_open {n : Nat} {v : Value} {y : DataW H × List MemPlace} (h : DataW.trod enc Try.prog W base spare held n 42 [v] = some y) :
    ∃ A k c S, v = .slice A k c ∧ LsAt W A k S ∧ (A = none → c = 0) ∧ k ≤ 9223372036854775807 ∧ ∀ s ∈ S, (s.A = none → s.c = 0) ∧ s.k ≤ 9223372036854775807 := by
  rcases open_slice Try.underlying42 h with ⟨hc, _⟩ | ⟨a, len, cap, m, n', D, Pl, hc, _, hl, hm, hmm, _, hi⟩
  · injection hc with hc
    exact ⟨none, 0, 0, [], hc, ⟨rfl, fun h => absurd h (by omega)⟩, fun _ => rfl, by omega, fun s hs => by cases hs⟩
  · injection hc with hc
    have hlm : len ≤ m := by rw [hmm]; split <;> omega
    have each : ∀ i, i < len → ∃ s : SlR, W.cell? (a.add (i * 1)) = some (.slice s.A s.k s.c) ∧ IsAt W s.A s.k s.l ∧ s.k ≤ s.c ∧ (s.A = none → s.c = 0) ∧ s.k ≤ 9223372036854775807 := fun i hi' => by
      obtain ⟨cs, hcs, ht⟩ := hi i (by omega)
      have e2 : Try.prog.cellsOf 29 = 1 := by kernel_rfl
      rw [e2] at hcs
      obtain ⟨_, hlen, hcell⟩ := World.cells?_some hcs
      match cs, hlen, ht, hcell with
      | [u], _, ht, hcell =>
        obtain ⟨A, k, c, l, rfl, h1, h2, h3, h4⟩ := is_open ht
        refine ⟨⟨A, k, c, l⟩, ?_, h1, h4, h2, h3⟩
        have := hcell 0 (by omega)
        rwa [show (a.add (i * 1)).add 0 = a.add (i * 1) from rfl] at this
    obtain ⟨l, hll, hall⟩ := list_of (default : SlR) each
    refine ⟨some a, len, cap, l, hc, ⟨hll.symm, fun h0 => ?_⟩, (fun h => by cases h), (by unfold maxLen at hm; omega), fun s hs => ?_⟩
    · obtain ⟨b, off, spot⟩ := a
      have hs : spot = none := by have := World.cell?_spot (hall 0 h0).1; simpa [Addr.add] using this
      subst hs
      have hb : b < W.heap.size := by
        have := (hall 0 h0).1
        simp only [Nat.zero_mul, Addr.add, if_true] at this
        exact World.block_lt_of_cell? _ _ this
      refine ⟨b, off, rfl, hb, fun j hj => ?_⟩
      obtain ⟨c0, c1, c2, -⟩ := hall j hj
      rw [addr_add', Nat.mul_one] at c0
      exact ⟨c0, c1, c2⟩
    · obtain ⟨j, hj, e⟩ := List.mem_iff_getElem.1 hs
      have := hall j (by omega)
      rw [List.getElem?_eq_getElem hj, Option.getD_some, e] at this
      exact ⟨this.2.2.2.1, this.2.2.2.2⟩
end
end Go.Proofs.Ythonmfoajjhkdaa.Bx
