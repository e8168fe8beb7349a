/- The walks of package civil's exported functions (but Leap, Length, Valid, Weekday: the text before), each a contract in the calendar's plain words, for every argument: inside its bounds (.._yes) and outside (.._no); the world stays as it is. -/
import Derived.Test.YtcngmgpegnmooaaGreatDoorRows
import Derived.Test.YtcngmgpegnmooaaGreatDoorCvWalkA
import Derived.WalkKit
import Derived.WalkSpells
import Derived.Lib.Hide
namespace Go.Proofs.YtcngmgpegnmooaaGreatDoor.Cv
open Go.RowKit

theorem yearOf_any (n : Int) (w : World) (h1 : -719528 ≤ n) (h2 : n ≤ 2932899) :
    Calls Tryz.prog 88 #[.int .i64 n] w fun e w' => e = .returned (.int .i64 (yr n)) ∧ w = w' := by
  by_cases c1 : n < ny ((n + 719528) * 400 / 146097)
  · have H := Lib.hid (yr_1 c1)
    go_enter Tryz.func88, Tryz.ntmps88
    go_wp2_with (go_at_call 89; refine (newYear_any _ _ (by omega) (by omega)).mono ?_; rintro e w' ⟨rfl, rfl⟩)
    go_ret
    exact ⟨ret_int H.out.symm, rfl⟩
  · by_cases c2 : ny ((n + 719528) * 400 / 146097 + 1) ≤ n
    · have H := Lib.hid (yr_2 c1 c2)
      go_enter Tryz.func88, Tryz.ntmps88
      go_wp2_with (go_at_call 89; refine (newYear_any _ _ (by omega) (by omega)).mono ?_; rintro e w' ⟨rfl, rfl⟩)
      go_ret
      exact ⟨ret_int H.out.symm, rfl⟩
    · have H := Lib.hid (yr_3 c1 c2)
      go_enter Tryz.func88, Tryz.ntmps88
      go_wp2_with (go_at_call 89; refine (newYear_any _ _ (by omega) (by omega)).mono ?_; rintro e w' ⟨rfl, rfl⟩)
      go_ret
      exact ⟨ret_int H.out.symm, rfl⟩
theorem days_yes (y m d : Int) (w : World) (h : valid y m d = true) :
    Calls Tryz.prog 157 #[.int .i64 y, .int .i64 m, .int .i64 d] w fun e w' => e = .returned (.tuple #[.int .i64 (num y m d), .int .i64 0]) ∧ w = w' := by
  obtain ⟨h1, h2, h3, h4, h5, h6⟩ := valid_parts h
  have H := Lib.hid h; clear h
  obtain ⟨a1, a2⟩ := ny_bd y (by omega) (by omega)
  obtain ⟨b1, b2⟩ := ah_bd y m (by omega) (by omega)
  obtain ⟨c1, c2⟩ := len_bd y m
  go_enter Tryz.func157, Tryz.ntmps157
  go_wp2_with (first
    | (go_at_call 174; refine (valid_yes _ _ _ _ H.out).mono ?_; rintro e w' ⟨rfl, rfl⟩)
    | (go_at_call 89; refine (newYear_any _ _ (by omega) (by omega)).mono ?_; rintro e w' ⟨rfl, rfl⟩)
    | (go_at_call 90; refine (ahead_any _ _ _ (by omega) (by omega)).mono ?_; rintro e w' ⟨rfl, rfl⟩))
  go_ret2
  exact ⟨rfl, rfl⟩
theorem days_no (y m d : Int) (w : World) (h : valid y m d = false) :
    Calls Tryz.prog 157 #[.int .i64 y, .int .i64 m, .int .i64 d] w fun e w' => e = .returned (.tuple #[.int .i64 0, .int .i64 1]) ∧ w = w' := by
  have H := Lib.hid h; clear h
  go_enter Tryz.func157, Tryz.ntmps157
  go_wp2_with (go_at_call 174; refine (valid_no _ _ _ _ H.out).mono ?_; rintro e w' ⟨rfl, rfl⟩)
  go_ret2
  exact ⟨rfl, rfl⟩
theorem date_no (n : Int) (w : World) (h : ¬ (-719162 ≤ n ∧ n ≤ 2932896)) :
    Calls Tryz.prog 56 #[.int .i64 n] w fun e w' => e = .returned (.tuple #[.int .i64 0, .int .i64 0, .int .i64 0, .int .i64 1]) ∧ w = w' := by
  have H := Lib.hid h; clear h
  go_enter Tryz.func56, Tryz.ntmps56
  go_wp2_with (go_at_call 87; refine (isDay_no _ _ H.out).mono ?_; rintro e w' ⟨rfl, rfl⟩)
  refine bodyPost_ret (results_tmp4 rfl _ _ _) rfl ?_
  exact ⟨rfl, rfl⟩
theorem date_yes (n : Int) (w : World) (h1 : -719162 ≤ n) (h2 : n ≤ 2932896) :
    Calls Tryz.prog 56 #[.int .i64 n] w fun e w' => e = .returned (.tuple #[.int .i64 (yr n), .int .i64 (mon n), .int .i64 (dom n), .int .i64 0]) ∧ w = w' := by
  obtain ⟨a1, a2⟩ := yr_day n h1 h2
  obtain ⟨b1, b2⟩ := in_year n
  obtain ⟨d1, d2, d3, d4⟩ := mo_spec (yr n) (n - ny (yr n)) (by omega) (by omega)
  have l := lp_01 (yr n)
  obtain ⟨l1, l2⟩ := l
  obtain ⟨f1, f2⟩ := ah_bd (yr n) (mo (yr n) (n - ny (yr n))) d1 (by omega)
  by_cases c : ah (yr n) ((n - ny (yr n)) / 31 + 1 + 1) ≤ n - ny (yr n)
  · have e : mo (yr n) (n - ny (yr n)) = (n - ny (yr n)) / 31 + 1 + 1 := by simp [mo, c]
    rw [e] at d1 d2 d3 d4 f1 f2
    have E := Lib.hid e; clear e
    go_enter Tryz.func56, Tryz.ntmps56
    go_wp2_with (first
      | (go_at_call 87; refine (isDay_yes _ _ h1 h2).mono ?_; rintro e w' ⟨rfl, rfl⟩)
      | (go_at_call 88; refine (yearOf_any _ _ (by omega) (by omega)).mono ?_; rintro e w' ⟨rfl, rfl⟩)
      | (go_at_call 89; refine (newYear_any _ _ (by omega) (by omega)).mono ?_; rintro e w' ⟨rfl, rfl⟩)
      | (go_at_call 90; refine (ahead_any _ _ _ (by omega) (by omega)).mono ?_; rintro e w' ⟨rfl, rfl⟩))
    refine bodyPost_ret (results_tmp4 rfl _ _ _) rfl ?_
    exact ⟨ret_four rfl E.out.symm (by simp [dom, mon, E.out]) rfl, rfl⟩
  · have e : mo (yr n) (n - ny (yr n)) = (n - ny (yr n)) / 31 + 1 := by simp [mo, c]
    rw [e] at d1 d2 d3 d4 f1 f2
    have E := Lib.hid e; clear e
    go_enter Tryz.func56, Tryz.ntmps56
    go_wp2_with (first
      | (go_at_call 87; refine (isDay_yes _ _ h1 h2).mono ?_; rintro e w' ⟨rfl, rfl⟩)
      | (go_at_call 88; refine (yearOf_any _ _ (by omega) (by omega)).mono ?_; rintro e w' ⟨rfl, rfl⟩)
      | (go_at_call 89; refine (newYear_any _ _ (by omega) (by omega)).mono ?_; rintro e w' ⟨rfl, rfl⟩)
      | (go_at_call 90; refine (ahead_any _ _ _ (by omega) (by omega)).mono ?_; rintro e w' ⟨rfl, rfl⟩))
    refine bodyPost_ret (results_tmp4 rfl _ _ _) rfl ?_
    exact ⟨ret_four rfl E.out.symm (by simp [dom, mon, E.out]) rfl, rfl⟩
end Go.Proofs.YtcngmgpegnmooaaGreatDoor.Cv
