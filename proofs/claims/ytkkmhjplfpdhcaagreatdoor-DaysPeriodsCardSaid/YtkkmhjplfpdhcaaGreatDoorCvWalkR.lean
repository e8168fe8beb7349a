/- The walks of vokref1's calendar functions, each a contract in the same plain words as package civil's; the world stays as it is. -/
import Derived.Test.YtkkmhjplfpdhcaaGreatDoorRows
import Derived.Test.YtkkmhjplfpdhcaaGreatDoorCvWalkA
import Derived.WalkKit
import Derived.WalkSpells
import Derived.Lib.Hide
namespace Go.Proofs.YtkkmhjplfpdhcaaGreatDoor.Cv
open Go.RowKit

theorem rleap_any (y : Int) (w : World) :
    Calls Tryz.prog 155 #[.int .i64 y] w fun e w' => e = .returned (.bool (leap y)) ∧ w = w' := by
  have a4 := tmod0 y 4
  have a100 := tmod0n y 100
  have a400 := tmod0 y 400
  by_cases h4 : (y % 4 == 0) = true
  · by_cases h100 : (y % 100 != 0) = true
    · have H := Lib.hid (leap100 h4 h100)
      rw [h4] at a4; rw [h100] at a100; clear a400 h4 h100
      go_enter Tryz.func155, Tryz.ntmps155
      go_wp2
      go_ret
      exact ⟨ret_bool H.out.symm, rfl⟩
    · have H := Lib.hid (leap400 h4 h100)
      rw [Bool.not_eq_true] at h100
      rw [h4] at a4; rw [h100] at a100
      have A := Lib.hid a400; clear a400 h4 h100
      go_enter Tryz.func155, Tryz.ntmps155
      go_wp2
      go_ret
      exact ⟨ret_bool (by rw [H.out, A.out]), rfl⟩
  · have H := Lib.hid (leap4 h4)
    rw [Bool.not_eq_true] at h4
    rw [h4] at a4; clear a100 a400 h4
    go_enter Tryz.func155, Tryz.ntmps155
    go_wp2
    go_ret
    exact ⟨ret_bool H.out.symm, rfl⟩
theorem rleap_yes (y : Int) (w : World) (h : leap y = true) :
    Calls Tryz.prog 155 #[.int .i64 y] w fun e w' => e = .returned (.bool true) ∧ w = w' := by
  have := rleap_any y w; rwa [h] at this
theorem rleap_no (y : Int) (w : World) (h : leap y = false) :
    Calls Tryz.prog 155 #[.int .i64 y] w fun e w' => e = .returned (.bool false) ∧ w = w' := by
  have := rleap_any y w; rwa [h] at this

theorem rlength_any (y m : Int) (w : World) :
    Calls Tryz.prog 132 #[.int .i64 y, .int .i64 m] w fun e w' => e = .returned (.int .i64 (len y m)) ∧ w = w' := by
  by_cases hm : m = 1 ∨ m = 2 ∨ m = 3 ∨ m = 4 ∨ m = 5 ∨ m = 6 ∨ m = 7 ∨ m = 8 ∨ m = 9 ∨ m = 10 ∨ m = 11 ∨ m = 12
  · rcases hm with rfl | rfl | rfl | rfl | rfl | rfl | rfl | rfl | rfl | rfl | rfl | rfl
    case inr.inl =>
      by_cases hl : leap y = true
      · have H := Lib.hid hl; clear hl
        go_enter Tryz.func132, Tryz.ntmps132
        go_wp2_with (go_at_call 155; refine (rleap_yes _ _ H.out).mono ?_; rintro e w' ⟨rfl, rfl⟩)
        go_ret
        exact ⟨ret_int (by simp [len, lp, H.out]), rfl⟩
      · rw [Bool.not_eq_true] at hl
        have H := Lib.hid hl; clear hl
        go_enter Tryz.func132, Tryz.ntmps132
        go_wp2_with (go_at_call 155; refine (rleap_no _ _ H.out).mono ?_; rintro e w' ⟨rfl, rfl⟩)
        go_ret
        exact ⟨ret_int (by simp [len, lp, H.out]), rfl⟩
    all_goals
      go_enter Tryz.func132, Tryz.ntmps132
      go_wp2
      go_ret
      exact ⟨ret_int (by simp [len]), rfl⟩
  · have H := Lib.hid (len_else (y := y) hm)
    have h1 : ¬ m = 1 := by omega
    have h2 : ¬ m = 2 := by omega
    have h3 : ¬ m = 3 := by omega
    have h4 : ¬ m = 4 := by omega
    have h5 : ¬ m = 5 := by omega
    have h6 : ¬ m = 6 := by omega
    have h7 : ¬ m = 7 := by omega
    have h8 : ¬ m = 8 := by omega
    have h9 : ¬ m = 9 := by omega
    have h10 : ¬ m = 10 := by omega
    have h11 : ¬ m = 11 := by omega
    have h12 : ¬ m = 12 := by omega
    clear hm
    go_enter Tryz.func132, Tryz.ntmps132
    go_wp2
    go_ret
    exact ⟨ret_int H.out.symm, rfl⟩

theorem rweekday_any (n : Int) (w : World) :
    Calls Tryz.prog 208 #[.int .i64 n] w fun e w' => e = .returned (.int .i64 (wd n)) ∧ w = w' := by
  obtain ⟨h1, h2⟩ := tmod7_bd n
  go_enter Tryz.func208, Tryz.ntmps208
  go_wp2
  go_ret
  exact ⟨ret_int (wd_tmod n), rfl⟩

theorem rdown_any (n b : Int) (w : World) (h1 : -1000000000000000 ≤ n) (h2 : n ≤ 1000000000000000) (h3 : 1 ≤ b) (h4 : b ≤ 1000000) :
    Calls Tryz.prog 100 #[.int .i64 n, .int .i64 b] w fun e w' => e = .returned (.int .i64 (n / b)) ∧ w = w' := by
  by_cases hn : 0 ≤ n
  · have g := Int.emod_nonneg n (b := b) (by omega)
    have g' : ¬ n % b < 0 := by omega
    obtain ⟨q1, q2⟩ := div_bd n b hn h3
    clear g
    go_enter Tryz.func100, Tryz.ntmps100
    go_wp2
    go_ret
    exact ⟨rfl, rfl⟩
  · obtain ⟨q1, q2⟩ := tdiv_bd n b (by omega) h3
    by_cases hz : n.tmod b < 0
    · have H := Lib.hid (down_1 n b (by omega) h3 hz)
      go_enter Tryz.func100, Tryz.ntmps100
      go_wp2
      go_ret
      exact ⟨ret_int H.out.symm, rfl⟩
    · have H := Lib.hid (down_2 n b (by omega) h3 hz)
      go_enter Tryz.func100, Tryz.ntmps100
      go_wp2
      go_ret
      exact ⟨ret_int H.out.symm, rfl⟩
theorem rfirst_any (y : Int) (w : World) (h1 : 0 ≤ y) (h2 : y ≤ 10001) :
    Calls Tryz.prog 131 #[.int .i64 y] w fun e w' => e = .returned (.int .i64 (ny y)) ∧ w = w' := by
  have H := Lib.hid (ny_old y)
  go_enter Tryz.func131, Tryz.ntmps131
  go_wp2_with (go_at_call 100; refine (rdown_any _ _ _ (by omega) (by omega) (by omega) (by omega)).mono ?_; rintro e w' ⟨rfl, rfl⟩)
  go_ret
  exact ⟨ret_int (by have := H.out; omega), rfl⟩
theorem rfirst_one (w : World) :
    Calls Tryz.prog 131 #[.int .i64 1] w fun e w' => e = .returned (.int .i64 (-719162)) ∧ w = w' :=
  rfirst_any 1 w (by decide) (by decide)
theorem rfirst_end (w : World) :
    Calls Tryz.prog 131 #[.int .i64 10000] w fun e w' => e = .returned (.int .i64 2932897) ∧ w = w' :=
  rfirst_any 10000 w (by decide) (by decide)
theorem rin_yes (y : Int) (w : World) (h1 : -719162 ≤ y) (h2 : y ≤ 2932896) :
    Calls Tryz.prog 130 #[.int .i64 y] w fun e w' => e = .returned (.bool true) ∧ w = w' := by
  go_enter Tryz.func130, Tryz.ntmps130
  go_wp2_with fail
  refine (rfirst_one _).mono ?_
  rintro e w' ⟨rfl, rfl⟩
  go_wp2_with fail
  refine (rfirst_end _).mono ?_
  rintro e w' ⟨rfl, rfl⟩
  go_wp2_with fail
  go_ret
  exact ⟨ret_bool (decide_eq_true (by omega)), rfl⟩
theorem rin_no (y : Int) (w : World) (h : ¬ (-719162 ≤ y ∧ y ≤ 2932896)) :
    Calls Tryz.prog 130 #[.int .i64 y] w fun e w' => e = .returned (.bool false) ∧ w = w' := by
  by_cases h1 : y < -719162
  · clear h
    go_enter Tryz.func130, Tryz.ntmps130
    go_wp2_with fail
    refine (rfirst_one _).mono ?_
    rintro e w' ⟨rfl, rfl⟩
    go_wp2_with fail
    go_ret
    exact ⟨rfl, rfl⟩
  · have h2 : 2932896 < y := by omega
    clear h
    go_enter Tryz.func130, Tryz.ntmps130
    go_wp2_with fail
    refine (rfirst_one _).mono ?_
    rintro e w' ⟨rfl, rfl⟩
    go_wp2_with fail
    refine (rfirst_end _).mono ?_
    rintro e w' ⟨rfl, rfl⟩
    go_wp2_with fail
    go_ret
    exact ⟨ret_bool (decide_eq_false (by omega)), rfl⟩
theorem rvalid_any (y m d : Int) (w : World) :
    Calls Tryz.prog 207 #[.int .i64 y, .int .i64 m, .int .i64 d] w fun e w' => e = .returned (.bool (valid y m d)) ∧ w = w' := by
  by_cases h1 : 1 ≤ y
  · by_cases h2 : y ≤ 9999
    · by_cases h3 : 1 ≤ d
      · have H := Lib.hid (valid_dec h1 h2 h3 m)
        go_enter Tryz.func207, Tryz.ntmps207
        go_wp2_with (go_at_call 132; refine (rlength_any _ _ _).mono ?_; rintro e w' ⟨rfl, rfl⟩)
        go_ret
        exact ⟨ret_bool H.out.symm, rfl⟩
      · have H := Lib.hid (show valid y m d = false from valid_not (by omega))
        go_enter Tryz.func207, Tryz.ntmps207
        go_wp2
        go_ret
        exact ⟨ret_bool H.out.symm, rfl⟩
    · have H := Lib.hid (show valid y m d = false from valid_not (by omega))
      go_enter Tryz.func207, Tryz.ntmps207
      go_wp2
      go_ret
      exact ⟨ret_bool H.out.symm, rfl⟩
  · have H := Lib.hid (show valid y m d = false from valid_not (by omega))
    go_enter Tryz.func207, Tryz.ntmps207
    go_wp2
    go_ret
    exact ⟨ret_bool H.out.symm, rfl⟩
theorem rvalid_yes (y m d : Int) (w : World) (h : valid y m d = true) :
    Calls Tryz.prog 207 #[.int .i64 y, .int .i64 m, .int .i64 d] w fun e w' => e = .returned (.bool true) ∧ w = w' := by
  have := rvalid_any y m d w; rwa [h] at this
theorem rvalid_no (y m d : Int) (w : World) (h : valid y m d = false) :
    Calls Tryz.prog 207 #[.int .i64 y, .int .i64 m, .int .i64 d] w fun e w' => e = .returned (.bool false) ∧ w = w' := by
  have := rvalid_any y m d w; rwa [h] at this
theorem rdays_no (y m d : Int) (w : World) (h : valid y m d = false) :
    Calls Tryz.prog 179 #[.int .i64 y, .int .i64 m, .int .i64 d] w fun e w' => e = .returned (.tuple #[.int .i64 0, .int .i64 1]) ∧ w = w' := by
  have H := Lib.hid h; clear h
  go_enter Tryz.func179, Tryz.ntmps179
  go_wp2_with (go_at_call 207; refine (rvalid_no _ _ _ _ H.out).mono ?_; rintro e w' ⟨rfl, rfl⟩)
  go_ret2
  exact ⟨rfl, rfl⟩
theorem rdays_yes (y m d : Int) (w : World) (h : valid y m d = true) :
    Calls Tryz.prog 179 #[.int .i64 y, .int .i64 m, .int .i64 d] w fun e w' => e = .returned (.tuple #[.int .i64 (num y m d), .int .i64 0]) ∧ w = w' := by
  obtain ⟨h1, h2, h3, h4, h5, h6⟩ := valid_parts h
  have H := Lib.hid h; clear h
  obtain ⟨a1, a2⟩ := ny_bd y (by omega) (by omega)
  obtain ⟨c1, c2⟩ := len_bd y m
  go_enter Tryz.func179, Tryz.ntmps179
  go_wp2_with (first
    | (go_at_call 207; refine (rvalid_yes _ _ _ _ H.out).mono ?_; rintro e w' ⟨rfl, rfl⟩)
    | (go_at_call 131; refine (rfirst_any _ _ (by omega) (by omega)).mono ?_; rintro e w' ⟨rfl, rfl⟩))
  go_loop [8, 9] (fun t i => ∃ k : Int, 1 ≤ k ∧ k ≤ m ∧ i = .int .i64 k ∧ t = .int .i64 (ny y + ah y k + d - 1)) (fun _ i => (m - intOf i).toNat)
  case atStart => exact ⟨1, by omega, by omega, rfl, by rw [ah_one, Int.add_zero]⟩
  case round =>
    obtain ⟨k, hk1, hk2, rfl, rfl⟩ := hrel
    obtain ⟨b1, b2⟩ := ah_bd y k (by omega) (by omega)
    obtain ⟨e1, e2⟩ := len_bd y k
    by_cases hlt : k < m
    · have S := Lib.hid (ah_succ y k hk1 (by omega))
      go_wp2_with (go_at_call 132; refine (rlength_any _ _ _).mono ?_; rintro e w' ⟨rfl, rfl⟩)
      go_round
      case rel => exact ⟨k + 1, by omega, by omega, rfl, by rw [S.out]; exact int_eq (by omega)⟩
      case measure => simp [intOf]; omega
    · have S := Lib.hid (show k = m by omega)
      go_wp2
      go_ret2
      exact ⟨ret_two (by rw [S.out]; rfl) rfl, rfl⟩
theorem rdate_no (n : Int) (w : World) (h : ¬ (-719162 ≤ n ∧ n ≤ 2932896)) :
    Calls Tryz.prog 95 #[.int .i64 n] w fun e w' => e = .returned (.tuple #[.int .i64 0, .int .i64 0, .int .i64 0, .int .i64 1]) ∧ w = w' := by
  have H := Lib.hid h; clear h
  go_enter Tryz.func95, Tryz.ntmps95
  go_wp2_with (go_at_call 130; refine (rin_no _ _ H.out).mono ?_; rintro e w' ⟨rfl, rfl⟩)
  refine bodyPost_ret (results_tmp4 rfl _ _ _) rfl ?_
  exact ⟨rfl, rfl⟩
theorem rdate_yes (n : Int) (w : World) (h1 : -719162 ≤ n) (h2 : n ≤ 2932896) :
    Calls Tryz.prog 95 #[.int .i64 n] w fun e w' => e = .returned (.tuple #[.int .i64 (yr n), .int .i64 (mon n), .int .i64 (dom n), .int .i64 0]) ∧ w = w' := by
  obtain ⟨a1, a2⟩ := yr_day n h1 h2
  go_enter Tryz.func95, Tryz.ntmps95
  go_wp2_with (first
    | (go_at_call 130; refine (rin_yes _ _ h1 h2).mono ?_; rintro e w' ⟨rfl, rfl⟩)
    | (go_at_call 131; refine (rfirst_one _).mono ?_; rintro e w' ⟨rfl, rfl⟩))
  go_loop [6] (fun t => ∃ y : Int, 1 ≤ y ∧ y ≤ yr n ∧ t = .int .i64 y) (fun t => (10000 - intOf t).toNat)
  case atStart => exact ⟨_, by omega, start_le n h1, rfl⟩
  case round =>
    obtain ⟨y, hy1, hy2, rfl⟩ := hrel
    by_cases hc : ny (y + 1) ≤ n
    · have hy : y + 1 ≤ yr n := yr_ge hc
      go_wp2_with (go_at_call 131; refine (rfirst_any _ _ (by omega) (by omega)).mono ?_; rintro e w' ⟨rfl, rfl⟩)
      go_round
      case rel => exact ⟨y + 1, by omega, by omega, rfl⟩
      case measure => simp [intOf]; omega
    · have E := Lib.hid (yr_le hy2 hc)
      obtain ⟨b1, b2⟩ := in_year n
      rw [← E.out] at b1 b2
      obtain ⟨l1, l2⟩ := lp_01 y
      go_wp2_with (go_at_call 131; refine (rfirst_any _ _ (by omega) (by omega)).mono ?_; rintro e w' ⟨rfl, rfl⟩)
      go_loop [7, 8] (fun r k => ∃ m : Int, 1 ≤ m ∧ m ≤ 12 ∧ k = .int .i64 m ∧ 0 ≤ n - ny y - ah y m ∧ r = .int .i64 (n - ny y - ah y m)) (fun _ k => (13 - intOf k).toNat)
      case atStart => exact ⟨1, by omega, by omega, rfl, by rw [ah_one]; omega, by rw [ah_one, Int.sub_zero]⟩
      case round =>
        obtain ⟨m, hm1, hm2, rfl, hr, rfl⟩ := hrel
        obtain ⟨e1, e2⟩ := len_bd y m
        obtain ⟨f1, f2⟩ := ah_bd y m (by omega) (by omega)
        by_cases hd : len y m ≤ n - ny y - ah y m
        · have S := Lib.hid (ah_succ y m hm1 hm2)
          have hm : m < 12 := month_lt hm2 b2 hd hm1
          go_wp2_with (go_at_call 132; refine (rlength_any _ _ _).mono ?_; rintro e w' ⟨rfl, rfl⟩)
          go_round
          case rel => exact ⟨m + 1, by omega, by omega, rfl, by rw [S.out]; omega, by rw [S.out]; exact int_eq (by omega)⟩
          case measure => simp [intOf]; omega
        · have M := Lib.hid (mon_eq E.out hm1 hm2 hr hd)
          go_wp2_with (go_at_call 132; refine (rlength_any _ _ _).mono ?_; rintro e w' ⟨rfl, rfl⟩)
          refine bodyPost_ret (results_tmp4 rfl _ _ _) rfl ?_
          exact ⟨ret_four E.out M.out.1.symm M.out.2.symm rfl, rfl⟩
end Go.Proofs.YtkkmhjplfpdhcaaGreatDoor.Cv
