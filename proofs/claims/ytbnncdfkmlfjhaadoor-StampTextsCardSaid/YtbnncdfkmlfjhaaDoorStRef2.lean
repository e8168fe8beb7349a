/- The walk of the document's own answer on texts as moments: vokref1's Parse. -/
import Derived.Test.YtbnncdfkmlfjhaaDoorStRef1
import Derived.Test.YtbnncdfkmlfjhaaDoorStWalkC
import Derived.StillTailTactics
import Derived.Outline
namespace Go.Proofs.YtbnncdfkmlfjhaaDoor.St
open Go.RowKit Cv
set_option linter.unusedVariables false

theorem rnumber_is (s : ByteArray) (w : World) (z : Int) (hs : s.size ≤ 15) (hz : rnmb s.data.toList = z) :
    Calls Tryd.prog 40 #[.string s] w fun e w' => e = .returned (.int .i64 z) ∧ w' = w := by
  subst hz; exact (rnumber_any s w hs).mono fun _ _ h => ⟨h.1, h.2.symm⟩
/-- The numbers of a text's six cuts, each 0 or above. -/
def Six (zs : List Int) : Prop := ∀ j, j < 6 → 0 ≤ zs.getD j 0
theorem six_cell (w : World) (z0 z1 z2 z3 z4 z5 : Int) (T : TypeId) (j : Nat) (h : j < 6) :
    (w.alloc (.cells #[.int .i64 z0, .int .i64 z1, .int .i64 z2, .int .i64 z3, .int .i64 z4, .int .i64 z5] T)).cell? ⟨w.heap.size, j, none⟩ = some (.int .i64 ([z0, z1, z2, z3, z4, z5].getD j 0)) := by
  rw [World.cell?_alloc_new]
  match j, h with
  | 0, _ => rfl
  | 1, _ => rfl
  | 2, _ => rfl
  | 3, _ => rfl
  | 4, _ => rfl
  | 5, _ => rfl
theorem rmake_quiet (y mo d h mi s a b : Int) (w : World) (hr : makeR y mo d h mi s = (a, b)) :
    Calls Tryd.prog 15 #[.int .i64 y, .int .i64 mo, .int .i64 d, .int .i64 h, .int .i64 mi, .int .i64 s] w fun e w' => e = .returned (.tuple #[.int .i64 a, .int .i64 b]) ∧ w' = w :=
  (rmake_is y mo d h mi s a b w hr).mono fun _ _ h => ⟨h.1, h.2.symm⟩
set_option maxHeartbeats 2000000 in
theorem rparse_yes (s : ByteArray) (z0 z1 z2 z3 z4 z5 : Int) (a b : Int) (W w : World) (h1 : 15 ≤ s.size) (h2 : s.size ≤ 15) (h : s[8].toNat = 84) (hat : At W w) (hsix : Six [z0, z1, z2, z3, z4, z5]) (hr : makeR z0 z1 z2 z3 z4 z5 = (a, b))
    (e0 : rnmb (s.extract 0 4).data.toList = z0) (e1 : rnmb (s.extract 4 6).data.toList = z1) (e2 : rnmb (s.extract 6 8).data.toList = z2) (e3 : rnmb (s.extract 9 11).data.toList = z3) (e4 : rnmb (s.extract 11 13).data.toList = z4) (e5 : rnmb (s.extract 13 15).data.toList = z5) :
    Calls Tryd.prog 25 #[.string s] w fun e w' => e = .returned (.tuple #[.int .i64 a, .int .i64 b]) ∧ At W w' := by
  have hb : ((s[8].toNat : Int) != 84) = false := by rw [bne_eq_false_iff_eq]; omega
  have E0 := Lib.hid e0; have E1 := Lib.hid e1; have E2 := Lib.hid e2; have E3 := Lib.hid e3; have E4 := Lib.hid e4; have E5 := Lib.hid e5
  have i4 : (4 : Int) ≤ (s.size : Int) := by omega
  have i6 : (6 : Int) ≤ (s.size : Int) := by omega
  have i8 : (8 : Int) ≤ (s.size : Int) := by omega
  have i11 : (11 : Int) ≤ (s.size : Int) := by omega
  have i13 : (13 : Int) ≤ (s.size : Int) := by omega
  have i15 : (15 : Int) ≤ (s.size : Int) := by omega
  have SX := Lib.hid hsix; have R := Lib.hid hr
  clear hsix hr e0 e1 e2 e3 e4 e5 h
  go_enter Tryd.func25, Tryd.ntmps25
  go_wp2_with fail
  refine wp_region_still_tail 18 (by kernel_rfl) (by kernel_rfl) ?_
  simp only [List.take_succ_cons, List.take_zero, List.drop_succ_cons, List.drop_zero]
  still_step
  still_step
  still_call (rnumber_is (s.extract 0 4) _ z0 (ext_15 _ _ _ h2) E0.out)
  still_step
  still_step
  still_call (rnumber_is (s.extract 4 6) _ z1 (ext_15 _ _ _ h2) E1.out)
  still_step
  still_step
  still_call (rnumber_is (s.extract 6 8) _ z2 (ext_15 _ _ _ h2) E2.out)
  still_step
  still_step
  still_call (rnumber_is (s.extract 9 11) _ z3 (ext_15 _ _ _ h2) E3.out)
  still_step
  still_step
  still_call (rnumber_is (s.extract 11 13) _ z4 (ext_15 _ _ _ h2) E4.out)
  still_step
  still_step
  still_call (rnumber_is (s.extract 13 15) _ z5 (ext_15 _ _ _ h2) E5.out)
  refine wpStill_nil ?_
  change wpList _ _ _ _ _ w.drew
  have hat1 := hat.drew
  obtain ⟨w2, hw2⟩ : ∃ w2, w2 = w.drew := ⟨_, rfl⟩
  rw [← hw2] at hat1 ⊢
  clear hw2
  go_wp2
  go_loop [5] (fun i => ∃ j : Nat, j ≤ 6 ∧ i = .int .i64 j) (fun i => 6 - (intOf i).toNat)
  case atStart => exact ⟨0, by omega, rfl⟩
  case round =>
    obtain ⟨j, hj, rfl⟩ := hrel
    by_cases hlt : j < 6
    · have hc := six_cell w2 z0 z1 z2 z3 z4 z5 3 j hlt
      have hz := SX.out j hlt
      obtain ⟨q, hq⟩ : ∃ q, q = [z0, z1, z2, z3, z4, z5].getD j 0 := ⟨_, rfl⟩
      rw [← hq] at hc hz
      clear hq
      go_wp2
      go_round
      case rel => exact ⟨j + 1, by omega, by go_num⟩
      case measure => simp [intOf]; omega
    · go_wp2_with fail
      go_quiet ((go_at_call 15; exact Calls.quiet_of_same (rmake_quiet _ _ _ _ _ _ a b _ R.out)))
      go_wp2
      go_ret2
      exact ⟨rfl, (hat1.alloc _).drewN _⟩
set_option maxHeartbeats 2000000 in
theorem rparse_bad (s : ByteArray) (z0 z1 z2 z3 z4 z5 : Int) (W w : World) (h1 : 15 ≤ s.size) (h2 : s.size ≤ 15) (h : s[8].toNat = 84) (hat : At W w) (k0 : Nat) (hk0 : k0 < 6) (hbad : [z0, z1, z2, z3, z4, z5].getD k0 0 < 0)
    (e0 : rnmb (s.extract 0 4).data.toList = z0) (e1 : rnmb (s.extract 4 6).data.toList = z1) (e2 : rnmb (s.extract 6 8).data.toList = z2) (e3 : rnmb (s.extract 9 11).data.toList = z3) (e4 : rnmb (s.extract 11 13).data.toList = z4) (e5 : rnmb (s.extract 13 15).data.toList = z5) :
    Calls Tryd.prog 25 #[.string s] w fun e w' => e = .returned (.tuple #[.int .i64 0, .int .i64 4]) ∧ At W w' := by
  have hb : ((s[8].toNat : Int) != 84) = false := by rw [bne_eq_false_iff_eq]; omega
  have E0 := Lib.hid e0; have E1 := Lib.hid e1; have E2 := Lib.hid e2; have E3 := Lib.hid e3; have E4 := Lib.hid e4; have E5 := Lib.hid e5
  have i4 : (4 : Int) ≤ (s.size : Int) := by omega
  have i6 : (6 : Int) ≤ (s.size : Int) := by omega
  have i8 : (8 : Int) ≤ (s.size : Int) := by omega
  have i11 : (11 : Int) ≤ (s.size : Int) := by omega
  have i13 : (13 : Int) ≤ (s.size : Int) := by omega
  have i15 : (15 : Int) ≤ (s.size : Int) := by omega
  have BD := Lib.hid hbad
  clear hbad e0 e1 e2 e3 e4 e5 h
  go_enter Tryd.func25, Tryd.ntmps25
  go_wp2_with fail
  refine wp_region_still_tail 18 (by kernel_rfl) (by kernel_rfl) ?_
  simp only [List.take_succ_cons, List.take_zero, List.drop_succ_cons, List.drop_zero]
  still_step
  still_step
  still_call (rnumber_is (s.extract 0 4) _ z0 (ext_15 _ _ _ h2) E0.out)
  still_step
  still_step
  still_call (rnumber_is (s.extract 4 6) _ z1 (ext_15 _ _ _ h2) E1.out)
  still_step
  still_step
  still_call (rnumber_is (s.extract 6 8) _ z2 (ext_15 _ _ _ h2) E2.out)
  still_step
  still_step
  still_call (rnumber_is (s.extract 9 11) _ z3 (ext_15 _ _ _ h2) E3.out)
  still_step
  still_step
  still_call (rnumber_is (s.extract 11 13) _ z4 (ext_15 _ _ _ h2) E4.out)
  still_step
  still_step
  still_call (rnumber_is (s.extract 13 15) _ z5 (ext_15 _ _ _ h2) E5.out)
  refine wpStill_nil ?_
  change wpList _ _ _ _ _ w.drew
  have hat1 := hat.drew
  obtain ⟨w2, hw2⟩ : ∃ w2, w2 = w.drew := ⟨_, rfl⟩
  rw [← hw2] at hat1 ⊢
  clear hw2
  go_wp2
  go_loop [5] (fun i => ∃ j : Nat, j ≤ k0 ∧ i = .int .i64 j) (fun i => 6 - (intOf i).toNat)
  case atStart => exact ⟨0, by omega, rfl⟩
  case round =>
    obtain ⟨j, hj, rfl⟩ := hrel
    have hlt : j < 6 := by omega
    have hc := six_cell w2 z0 z1 z2 z3 z4 z5 3 j hlt
    by_cases hz : [z0, z1, z2, z3, z4, z5].getD j 0 < 0
    · obtain ⟨q, hq⟩ : ∃ q, q = [z0, z1, z2, z3, z4, z5].getD j 0 := ⟨_, rfl⟩
      rw [← hq] at hc hz
      clear hq
      go_wp2
      go_ret2
      exact ⟨rfl, hat1.alloc _⟩
    · have hne : j ≠ k0 := fun e => hz (by rw [e]; exact BD.out)
      have hz2 : 0 ≤ [z0, z1, z2, z3, z4, z5].getD j 0 := by omega
      obtain ⟨q, hq⟩ : ∃ q, q = [z0, z1, z2, z3, z4, z5].getD j 0 := ⟨_, rfl⟩
      rw [← hq] at hc hz2
      clear hq hz
      have hj2 : j + 1 ≤ k0 := by omega
      clear hne
      go_wp2
      go_round
      case rel => exact ⟨j + 1, hj2, by go_num⟩
      case measure => simp [intOf]; omega
end Go.Proofs.YtbnncdfkmlfjhaaDoor.St
