/- The walks of the document's own answers on zones: yearly, near, Before, After, Offset, Local, UTC, and two zones held against each other. -/
import Derived.Test.YtbinhnlajflndaaZnRMay
set_option linter.unusedVariables false
namespace Go.Proofs.Ytbinhnlajflndaa.Zn
open Go.RowKit Cv St

set_option maxHeartbeats 1000000 in
theorem ryearly_any (r : Yr) (y : Int) (w : World) (hr : yrB r = true) (h1 : 1 ≤ y) (h2 : y ≤ 9999) :
    Calls Try.prog 67 #[yrV r, .int .i64 y] w fun e w' => e = .returned (.int .i64 (inY r y).t) ∧ Below w.heap.size w w' := by
  obtain ⟨m, k, d, s, o⟩ := r
  obtain ⟨g1, g2, g3, g4, g5, g6, g7, g8, g9, g10⟩ := of_decide_eq_true hr
  simp only at g1 g2 g3 g4 g5 g6 g7 g8 g9 g10
  have hv := nth_ok (x := d) h1 h2 g1 g2 g3 g4
  have nb := num_bd hv
  have V := Lib.hid hv
  clear hv hr
  show Calls _ _ #[.agg #[.int .i64 m, .int .i64 k, .int .i64 d, .int .i64 s, .int .i64 o], .int .i64 y] _ _
  go_enter Try.func67, Try.ntmps67
  go_wp2_with fail
  refine (rnth_yes _ _ _ _ _ h1 h2 g1 g2 g3 g4 g5 g6).mono ?_
  rintro e w' ⟨rfl, rfl⟩
  go_wp2_with fail
  refine (rdays_yes _ _ _ _ V.out).mono ?_
  rintro e w' ⟨rfl, rfl⟩
  go_wp2
  go_ret
  exact ⟨ret_int (by unfold inY; simp only; omega), (Below.refl _ _).alloc (Nat.le_refl _) _⟩
end Go.Proofs.Ytbinhnlajflndaa.Zn
