/- The walk of voklaw10.first: what the chapter's examples fix. -/
import Derived.Test.YtjodhfehfpmfaaaIvAdd
import Derived.Test.YtjodhfehfpmfaaaIvCut
import Derived.Test.YtjodhfehfpmfaaaIvV
set_option linter.unusedVariables false
namespace Go.Proofs.Ytjodhfehfpmfaaa.Iv
open Go.RowKit

theorem ex_n1 : normL [((0 : Int), (2 : Int)), (1, 3)] = [(0, 3)] := (jn_norm (l := [((0 : Int), (2 : Int)), (1, 3)]) (m := [(0, 2), (1, 3)]) (by decide) (by simp)).symm.trans (by decide)
theorem ex_n2 : normL [((2 : Int), (4 : Int))] = [(2, 4)] := norms_norm ⟨by simp, by simp⟩
theorem ex_a1 : addB [(0, 3)] 1 [] [] = true := by decide
theorem ex_r1 : addR [(0, 3)] 1 [] [] = ([((0, 3), 1)], [1]) := by
  rw [addR_yes ex_a1]
  simp [addL, tagL, addO, insI]
theorem ex_a2 : addB [(2, 4)] 2 [((0, 3), 1)] [1] = false := by decide
theorem ex_r2 : addR [(2, 4)] 2 [((0, 3), 1)] [1] = ([((0, 3), 1)], [1]) := addR_no ex_a2
theorem ex_c1 : clashL 0 [(2, 4)] [((0, 3), 1)] = some ((0, 3), 1) := by decide
theorem ex_c2 : clashL 1 [(2, 4)] [((0, 3), 1)] = none := by decide
theorem ex_cut : cutL 1 9 [((0, 3), 1)] = [(1, 3)] := norms_norm (s := [((1 : Int), (3 : Int))]) ⟨by simp, by simp⟩
theorem sp1 (w : World) (T : TypeId) (x : Int × Int) : SpAt (w.alloc (.cells #[.int .i64 x.1, .int .i64 x.2] T)) (some ⟨w.heap.size, 0, none⟩) 1 [x] := by
  refine ⟨rfl, fun _ => ⟨_, _, rfl, by simp, fun j hj => ?_⟩⟩
  obtain rfl : j = 0 := by omega
  constructor <;> simp [gt]
theorem sp2 (w : World) (T : TypeId) (x y : Int × Int) : SpAt (w.alloc (.cells #[.int .i64 x.1, .int .i64 x.2, .int .i64 y.1, .int .i64 y.2] T)) (some ⟨w.heap.size, 0, none⟩) 2 [x, y] := by
  refine ⟨rfl, fun _ => ⟨_, _, rfl, by simp, fun j hj => ?_⟩⟩
  rcases (by omega : j = 0 ∨ j = 1) with rfl | rfl
  · constructor <;> simp [gt]
  · constructor <;> simp [gt]
set_option maxRecDepth 100000 in
set_option maxHeartbeats 4000000 in
theorem firstV (w : World) : Calls Try.prog 12 #[] w fun e w' => e = .returned (.bool true) ∧ Below w.heap.size w w' := by
  go_enter Try.func12, Try.ntmps12
  go_wp2_with fail
  refine (new_is (F := fun k => w.heap.size ≤ k) w fun k h => h).mono ?_
  rintro e w1 ⟨rfl, S1, b1⟩
  have S1H := Lib.hid S1
  have B1 := Lib.hid b1
  clear S1 b1
  go_wp2_with fail
  have b2 := below_alloc w1 (.cells #[.int .i64 0, .int .i64 2, .int .i64 1, .int .i64 3] 40)
  refine (add_is (F := fun k => w.heap.size ≤ k) _ w.heap.size [] [] (some ⟨w1.heap.size, 0, none⟩) 2 2 [(0, 2), (1, 3)] 1 (S1H.out.below b2) (fun k h => Nat.le_trans (Nat.le_trans B1.out.size b2.size) h) (sp2 w1 _ (0, 2) (1, 3)) (fun h => by cases h) (by simp) (by simp)).mono ?_
  rintro e w3 ⟨rfl, S3, k3⟩
  rw [ex_n1, ex_r1] at S3
  rw [ex_n1, ex_a1]
  have B3 := Lib.hid ((B1.out.trans (b2.mono B1.out.size)).trans (k3.below (Nat.le_trans B1.out.size b2.size) fun k h => h))
  have S3H := Lib.hid S3
  clear S3 k3 b2
  go_wp2_with fail
  have b2 := below_alloc w3 (.cells #[.int .i64 2, .int .i64 4] 40)
  refine (add_is (F := fun k => w.heap.size ≤ k) _ w.heap.size [((0, 3), 1)] [1] (some ⟨w3.heap.size, 0, none⟩) 1 1 [(2, 4)] 2 (S3H.out.below b2) (fun k h => Nat.le_trans (Nat.le_trans B3.out.size b2.size) h) (sp1 w3 _ (2, 4)) (fun h => by cases h) (by simp) (by simp)).mono ?_
  rintro e w5 ⟨rfl, S5, k5⟩
  rw [ex_n2, ex_r2] at S5
  rw [ex_n2, ex_a2]
  have B5 := Lib.hid ((B3.out.trans (b2.mono B3.out.size)).trans (k5.below (Nat.le_trans B3.out.size b2.size) fun k h => h))
  have S5H := Lib.hid S5
  clear S5 k5 b2 S1H B1 S3H B3
  go_wp2_with fail
  have b2 := below_alloc w5 (.cells #[.int .i64 2, .int .i64 4] 40)
  refine (clash_is _ w.heap.size [((0, 3), 1)] [1] (some ⟨w5.heap.size, 0, none⟩) 1 1 [(2, 4)] 0 (S5H.out.below b2) (sp1 w5 _ (2, 4)) (fun h => by cases h) (by simp) (by simp)).mono ?_
  rintro e w7 ⟨rfl, b7⟩
  rw [ex_n2, ex_c1]
  have B7 := Lib.hid (b2.trans (b7.mono b2.size))
  clear b2 b7
  unfold tgV
  go_wp2_with fail
  obtain ⟨w8, hw8⟩ : ∃ w8 : World, w8 = w7.alloc (.cells #[.int .i64 0, .int .i64 3, .int .i64 1] 42) := ⟨_, rfl⟩
  have R8 := Lib.hid (show RowIs w8 w7.heap.size 42 3 1 [.int .i64 0, .int .i64 3, .int .i64 1] from hw8 ▸ new_row w7 42 3 1 1 #[.int .i64 0, .int .i64 3, .int .i64 1] #[] rfl (by unfold maxLen; decide))
  have B8 := Lib.hid (show Below w5.heap.size w5 w8 from B7.out.trans ((hw8 ▸ below_alloc w7 _ : Below w7.heap.size w7 w8).mono B7.out.size))
  have e8 : w8.heap.size = w7.heap.size + 1 := by rw [hw8]; simp
  rw [← hw8]
  clear hw8 B7
  generalize w7.heap.size = t4 at *
  rw [← e8]
  have b2 := below_alloc w8 (.cells #[.int .i64 2, .int .i64 4] 40)
  refine (clash_is _ w.heap.size [((0, 3), 1)] [1] (some ⟨w8.heap.size, 0, none⟩) 1 1 [(2, 4)] 1 (S5H.out.below (B8.out.trans (b2.mono B8.out.size))) (sp1 w8 _ (2, 4)) (fun h => by cases h) (by simp) (by simp)).mono ?_
  rintro e w9 ⟨rfl, b9⟩
  rw [ex_n2, ex_c2]
  have B9 := Lib.hid (b2.trans (b9.mono b2.size))
  clear b2 b9 e8
  unfold tgV
  go_wp2_with fail
  obtain ⟨w10, hw10⟩ : ∃ w10 : World, w10 = w9.alloc (.cells #[.int .i64 0, .int .i64 0, .int .i64 0] 42) := ⟨_, rfl⟩
  have B10 := Lib.hid (show Below w8.heap.size w8 w10 from B9.out.trans ((hw10 ▸ below_alloc w9 _ : Below w9.heap.size w9 w10).mono B9.out.size))
  rw [← hw10]
  clear hw10 B9
  refine (list_is w10 w.heap.size [((0, 3), 1)] [1] (S5H.out.below (B8.out.trans (B10.out.mono B8.out.size))) (by simp)).mono ?_
  rintro e w11 ⟨A, c, rfl, T11, n11, l11, b11⟩
  obtain ⟨g, rfl, hg⟩ := n11 (by simp)
  have B11 := Lib.hid (B10.out.trans (b11.mono B10.out.size))
  have R11 := R8.out.below B11.out
  have d0 : w11.cell? ⟨t4, 0, none⟩ = some (.int .i64 0) := R11.cell rfl
  have d1 : w11.cell? ⟨t4, 1, none⟩ = some (.int .i64 3) := R11.cell rfl
  have d2 : w11.cell? ⟨t4, 2, none⟩ = some (.int .i64 1) := R11.cell rfl
  obtain ⟨b', o', ea, hlt, hcc⟩ := T11.2 (by simp)
  injection ea with ea
  injection ea with e1 e2
  subst e1 e2
  obtain ⟨c0, c1, c2⟩ := hcc 0 (by simp)
  simp only [gt, List.getElem?_cons_zero, Option.getD_some, Nat.zero_mul, Nat.add_zero, Nat.zero_add] at c0 c1 c2
  have S11 := Lib.hid (S5H.out.below (B8.out.trans (B11.out.mono B8.out.size)))
  have BW := Lib.hid (B5.out.trans ((B8.out.trans (B11.out.mono B8.out.size)).mono B5.out.size))
  clear hcc R11 b11 T11 n11 hlt B11 B10 R8 B8 B5 S5H hg l11
  go_wp2_with fail
  refine (cut_is w11 w.heap.size [((0, 3), 1)] [1] 1 9 S11.out (by simp)).mono ?_
  rintro e w12 ⟨A12, c12, rfl, h12, -, -, b12⟩
  rw [ex_cut] at h12 ⊢
  have H12 := Lib.hid h12
  have B12 := Lib.hid (BW.out.trans (b12.mono BW.out.size))
  clear h12 b12 c0 c1 c2 d0 d1 d2
  go_wp2_with fail
  have b2 := below_alloc w12 (.cells #[.int .i64 1, .int .i64 3] 40)
  refine (spans_any _ A12 (some ⟨w12.heap.size, 0, none⟩) 1 c12 1 1 [(1, 3)] [(1, 3)] (H12.out.below b2) (sp1 w12 _ (1, 3)) (by omega) (by omega)).mono ?_
  rintro e w13 ⟨rfl, b13⟩
  have B13 := Lib.hid (B12.out.trans ((b2.trans (b13.mono b2.size)).mono B12.out.size))
  clear b2 b13
  go_wp2_with fail
  go_ret
  exact ⟨by simp, B13.out⟩
end Go.Proofs.Ytjodhfehfpmfaaa.Iv
