/- What came in, opened: lists of a log's operations. -/
import Derived.Test.YtniphbfoppocfaaDoorWlO
import Derived.Test.YtniphbfoppocfaaDoorFrOpen
import Derived.OpenShut
set_option linter.unusedVariables false
namespace Go.Proofs.YtniphbfoppocfaaDoor.Wl
open Go.ChangeShapes Go.WideShapes Go.RowKit Go.Deep Fr Dk

section
variable {H : Type} {enc : TypeId × Value → H} {W : World} {base : Nat} {spare : Nat → Bool} {held : Bool}
theorem os_open {n : Nat} {v : Value} {y : DataW H × List MemPlace} (h : DataW.trod enc Tryd.prog W base spare held n 23 [v] = some y) :
    ∃ A k c S, v = .slice A k c ∧ OsW W A k S ∧ (A = none → c = 0) ∧ k ≤ c ∧ c ≤ 9223372036854775807 := by
  rcases open_slice Tryd.underlying23 h with ⟨hc, _⟩ | ⟨a, len, cap, m, n', D, Pl, hc, _, hl, hm, hmm, _, hi⟩
  · injection hc with hc
    exact ⟨none, 0, 0, [], hc, OsW.nil _ _, fun _ => rfl, Nat.le_refl _, by omega⟩
  · injection hc with hc
    have hlm : len ≤ m := by rw [hmm]; split <;> omega
    have each : ∀ i, i < len → ∃ s : OpW, W.cell? (a.add (i * 4)) = some (.int .i64 s.k) ∧ W.cell? ((a.add (i * 4)).add 1) = some (.int .i64 s.n) ∧ W.cell? ((a.add (i * 4)).add 2) = some (.slice s.A s.m s.c) ∧ W.cell? ((a.add (i * 4)).add 3) = some (.slice s.B s.N s.C) ∧ OpIn W s := fun i hi' => by
      obtain ⟨cs, hcs, ht⟩ := hi i (by omega)
      have e2 : Tryd.prog.cellsOf 42 = 4 := by kernel_rfl
      rw [e2] at hcs
      obtain ⟨_, hlen, hcell⟩ := World.cells?_some hcs
      match cs, hlen, ht, hcell with
      | [u0, u1, u2, u3], _, ht, hcell =>
        obtain ⟨xs, m', rfl, _, hlen2, hxs, hf⟩ := DataW.trod_struct Tryd.underlying42 ht
        have hC : Tryd.prog.cellsOf 3 = 1 := by kernel_rfl
        have hD : Tryd.prog.cellsOf 22 = 1 := by kernel_rfl
        have each2 : ∀ j, j < 4 → ∃ x, xs[j]? = some x := fun j hj => ⟨xs[j]'(by rw [hxs]; exact hj), List.getElem?_eq_getElem _⟩
        obtain ⟨x0, y0⟩ := each2 0 (by decide)
        obtain ⟨x1, y1⟩ := each2 1 (by decide)
        obtain ⟨x2, y2⟩ := each2 2 (by decide)
        obtain ⟨x3, y3⟩ := each2 3 (by decide)
        have t0 := (hf 0 _ rfl).trans y0
        have t1 := (hf 1 _ rfl).trans y1
        have t2 := (hf 2 _ rfl).trans y2
        have t3 := (hf 3 _ rfl).trans y3
        change DataW.trod enc Tryd.prog W base spare held m' 3 (([u0, u1, u2, u3].drop 0).take (Tryd.prog.cellsOf 3)) = some x0 at t0
        change DataW.trod enc Tryd.prog W base spare held m' 3 (([u0, u1, u2, u3].drop 1).take (Tryd.prog.cellsOf 3)) = some x1 at t1
        change DataW.trod enc Tryd.prog W base spare held m' 22 (([u0, u1, u2, u3].drop 2).take (Tryd.prog.cellsOf 22)) = some x2 at t2
        change DataW.trod enc Tryd.prog W base spare held m' 40 (([u0, u1, u2, u3].drop 3).take (Tryd.prog.cellsOf 40)) = some x3 at t3
        have hE : Tryd.prog.cellsOf 40 = 1 := by kernel_rfl
        rw [hE] at t3
        rw [hC] at t0 t1
        rw [hD] at t2
        obtain ⟨z0, e0, _, w0⟩ := DataW.trod_int Tryd.underlying3 t0
        obtain ⟨z1, e1, _, w1⟩ := DataW.trod_int Tryd.underlying3 t1
        obtain ⟨A, k, c, l, e3, h1, h2, h3, h4⟩ := by_open t2
        obtain ⟨A3, k3, c3, P3, e4, g1, g2, g3, g4, g5⟩ := ls_open t3
        injection e0 with e0
        injection e1 with e1
        subst e0; subst e1; subst e3; subst e4
        obtain ⟨b1, b2⟩ := bounds_i64 w1
        refine ⟨⟨z0, z1, A, k, c, l, A3, k3, c3, P3⟩, ?_, hcell 1 (by omega), hcell 2 (by omega), hcell 3 (by omega), h1, h3, h2, h4, g1, Nat.le_trans g3 g4, g5, b1, b2⟩
        have := hcell 0 (by omega)
        rwa [show (a.add (i * 4)).add 0 = a.add (i * 4) from rfl] at this
    obtain ⟨l, hll, hall⟩ := list_of (default : OpW) each
    refine ⟨some a, len, cap, l, hc, ⟨hll.symm, fun h0 => ?_⟩, (fun h => by cases h), hl, (by unfold maxLen at hm; omega)⟩
    obtain ⟨b, off, spot⟩ := a
    have hs : spot = none := by have := World.cell?_spot (hall 0 h0).1; simpa [Addr.add] using this
    subst hs
    have hb : b < W.heap.size := by
      have := (hall 0 h0).1
      simp only [Nat.zero_mul, Addr.add, if_true] at this
      exact World.block_lt_of_cell? _ _ this
    refine ⟨b, off, rfl, hb, fun j hj => ?_⟩
    obtain ⟨c0, c1, c2, c3, r⟩ := hall j hj
    rw [addr_off] at c0 c1 c2 c3
    rw [addr_off] at c1 c2 c3
    exact ⟨c0, c1, c2, c3, r⟩
end
end Go.Proofs.YtniphbfoppocfaaDoor.Wl
