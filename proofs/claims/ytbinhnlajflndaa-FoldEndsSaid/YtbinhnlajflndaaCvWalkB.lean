/- The walks of package civil's exported functions (but Leap, Length, Valid, Weekday: the text before), each a contract in the calendar's plain words, for every argument: inside its bounds (.._yes) and outside (.._no); the world stays as it is. -/
import Derived.Test.YtbinhnlajflndaaRows
import Derived.Test.YtbinhnlajflndaaCvWalkA
import Derived.WalkKit
import Derived.WalkSpells
import Derived.Lib.Hide
namespace Go.Proofs.Ytbinhnlajflndaa.Cv
open Go.RowKit

theorem yearOf_any (n : Int) (w : World) (h1 : -719528 ≤ n) (h2 : n ≤ 2932899) :
    Calls Try.prog 97 #[.int .i64 n] w fun e w' => e = .returned (.int .i64 (yr n)) ∧ w = w' := by
  by_cases c1 : n < ny ((n + 719528) * 400 / 146097)
  · have H := Lib.hid (yr_1 c1)
    go_enter Try.func97, Try.ntmps97
    go_wp2_with (go_at_call 94; refine (newYear_any _ _ (by omega) (by omega)).mono ?_; rintro e w' ⟨rfl, rfl⟩)
    go_ret
    exact ⟨ret_int H.out.symm, rfl⟩
  · by_cases c2 : ny ((n + 719528) * 400 / 146097 + 1) ≤ n
    · have H := Lib.hid (yr_2 c1 c2)
      go_enter Try.func97, Try.ntmps97
      go_wp2_with (go_at_call 94; refine (newYear_any _ _ (by omega) (by omega)).mono ?_; rintro e w' ⟨rfl, rfl⟩)
      go_ret
      exact ⟨ret_int H.out.symm, rfl⟩
    · have H := Lib.hid (yr_3 c1 c2)
      go_enter Try.func97, Try.ntmps97
      go_wp2_with (go_at_call 94; refine (newYear_any _ _ (by omega) (by omega)).mono ?_; rintro e w' ⟨rfl, rfl⟩)
      go_ret
      exact ⟨ret_int H.out.symm, rfl⟩
theorem days_yes (y m d : Int) (w : World) (h : valid y m d = true) :
    Calls Try.prog 77 #[.int .i64 y, .int .i64 m, .int .i64 d] w fun e w' => e = .returned (.tuple #[.int .i64 (num y m d), .int .i64 0]) ∧ w = w' := by
  obtain ⟨h1, h2, h3, h4, h5, h6⟩ := valid_parts h
  have H := Lib.hid h; clear h
  obtain ⟨a1, a2⟩ := ny_bd y (by omega) (by omega)
  obtain ⟨b1, b2⟩ := ah_bd y m (by omega) (by omega)
  obtain ⟨c1, c2⟩ := len_bd y m
  go_enter Try.func77, Try.ntmps77
  go_wp2_with (first
    | (go_at_call 93; refine (valid_yes _ _ _ _ H.out).mono ?_; rintro e w' ⟨rfl, rfl⟩)
    | (go_at_call 94; refine (newYear_any _ _ (by omega) (by omega)).mono ?_; rintro e w' ⟨rfl, rfl⟩)
    | (go_at_call 95; refine (ahead_any _ _ _ (by omega) (by omega)).mono ?_; rintro e w' ⟨rfl, rfl⟩))
  go_ret2
  exact ⟨rfl, rfl⟩
theorem days_no (y m d : Int) (w : World) (h : valid y m d = false) :
    Calls Try.prog 77 #[.int .i64 y, .int .i64 m, .int .i64 d] w fun e w' => e = .returned (.tuple #[.int .i64 0, .int .i64 1]) ∧ w = w' := by
  have H := Lib.hid h; clear h
  go_enter Try.func77, Try.ntmps77
  go_wp2_with (go_at_call 93; refine (valid_no _ _ _ _ H.out).mono ?_; rintro e w' ⟨rfl, rfl⟩)
  go_ret2
  exact ⟨rfl, rfl⟩
theorem yearDay_no (n : Int) (w : World) (h : ¬ (-719162 ≤ n ∧ n ≤ 2932896)) :
    Calls Try.prog 79 #[.int .i64 n] w fun e w' => e = .returned (.tuple #[.int .i64 0, .int .i64 0, .int .i64 1]) ∧ w = w' := by
  have H := Lib.hid h; clear h
  go_enter Try.func79, Try.ntmps79
  go_wp2_with (go_at_call 96; refine (isDay_no _ _ H.out).mono ?_; rintro e w' ⟨rfl, rfl⟩)
  go_ret3
  exact ⟨rfl, rfl⟩
theorem yearDay_yes (n : Int) (w : World) (h1 : -719162 ≤ n) (h2 : n ≤ 2932896) :
    Calls Try.prog 79 #[.int .i64 n] w fun e w' => e = .returned (.tuple #[.int .i64 (yr n), .int .i64 (n - ny (yr n) + 1), .int .i64 0]) ∧ w = w' := by
  obtain ⟨a1, a2⟩ := yr_day n h1 h2
  obtain ⟨b1, b2⟩ := in_year n
  obtain ⟨l1, l2⟩ := lp_01 (yr n)
  go_enter Try.func79, Try.ntmps79
  go_wp2_with (first
    | (go_at_call 96; refine (isDay_yes _ _ h1 h2).mono ?_; rintro e w' ⟨rfl, rfl⟩)
    | (go_at_call 97; refine (yearOf_any _ _ (by omega) (by omega)).mono ?_; rintro e w' ⟨rfl, rfl⟩)
    | (go_at_call 94; refine (newYear_any _ _ (by omega) (by omega)).mono ?_; rintro e w' ⟨rfl, rfl⟩))
  go_ret3
  exact ⟨rfl, rfl⟩
theorem nth_no (y m k d : Int) (w : World) (h : ¬ (1 ≤ y ∧ y ≤ 9999 ∧ 1 ≤ m ∧ m ≤ 12 ∧ 1 ≤ k ∧ k ≤ 5 ∧ 0 ≤ d ∧ d ≤ 6)) :
    Calls Try.prog 81 #[.int .i64 y, .int .i64 m, .int .i64 k, .int .i64 d] w fun e w' => e = .returned (.tuple #[.int .i64 0, .int .i64 1]) ∧ w = w' := by
  by_cases hy : 1 ≤ y ∧ y ≤ 9999
  · obtain ⟨h1, h2⟩ := hy
    by_cases hm : 1 ≤ m ∧ m ≤ 12
    · obtain ⟨h3, h4⟩ := hm
      by_cases hk : k < 1
      · clear h
        go_enter Try.func81, Try.ntmps81
        go_wp2_with (first
          | (go_at_call 98; refine (isYear_yes _ _ h1 h2).mono ?_; rintro e w' ⟨rfl, rfl⟩)
          | (go_at_call 99; refine (isMonth_yes _ _ h3 h4).mono ?_; rintro e w' ⟨rfl, rfl⟩))
        go_ret2
        exact ⟨rfl, rfl⟩
      · by_cases hk' : 5 < k
        · clear h
          go_enter Try.func81, Try.ntmps81
          go_wp2_with (first
            | (go_at_call 98; refine (isYear_yes _ _ h1 h2).mono ?_; rintro e w' ⟨rfl, rfl⟩)
            | (go_at_call 99; refine (isMonth_yes _ _ h3 h4).mono ?_; rintro e w' ⟨rfl, rfl⟩))
          go_ret2
          exact ⟨rfl, rfl⟩
        · have H := Lib.hid (show ¬ (0 ≤ d ∧ d ≤ 6) from fun g => h ⟨h1, h2, h3, h4, by omega, by omega, g.1, g.2⟩)
          clear h
          go_enter Try.func81, Try.ntmps81
          go_wp2_with (first
            | (go_at_call 98; refine (isYear_yes _ _ h1 h2).mono ?_; rintro e w' ⟨rfl, rfl⟩)
            | (go_at_call 99; refine (isMonth_yes _ _ h3 h4).mono ?_; rintro e w' ⟨rfl, rfl⟩)
            | (go_at_call 100; refine (isWeekday_no _ _ H.out).mono ?_; rintro e w' ⟨rfl, rfl⟩))
          go_ret2
          exact ⟨rfl, rfl⟩
    · clear h
      have H := Lib.hid hm; clear hm
      go_enter Try.func81, Try.ntmps81
      go_wp2_with (first
        | (go_at_call 98; refine (isYear_yes _ _ h1 h2).mono ?_; rintro e w' ⟨rfl, rfl⟩)
        | (go_at_call 99; refine (isMonth_no _ _ H.out).mono ?_; rintro e w' ⟨rfl, rfl⟩))
      go_ret2
      exact ⟨rfl, rfl⟩
  · clear h
    have H := Lib.hid hy; clear hy
    go_enter Try.func81, Try.ntmps81
    go_wp2_with (go_at_call 98; refine (isYear_no _ _ H.out).mono ?_; rintro e w' ⟨rfl, rfl⟩)
    go_ret2
    exact ⟨rfl, rfl⟩
theorem nth_yes (y m k d : Int) (w : World) (h1 : 1 ≤ y) (h2 : y ≤ 9999) (h3 : 1 ≤ m) (h4 : m ≤ 12) (h5 : 1 ≤ k) (h6 : k ≤ 5) (h7 : 0 ≤ d) (h8 : d ≤ 6) :
    Calls Try.prog 81 #[.int .i64 y, .int .i64 m, .int .i64 k, .int .i64 d] w fun e w' => e = .returned (.tuple #[.int .i64 (nth y m k d), .int .i64 0]) ∧ w = w' := by
  obtain ⟨a1, a2⟩ := ny_bd y (by omega) (by omega)
  obtain ⟨b1, b2⟩ := ah_bd y m (by omega) (by omega)
  obtain ⟨c1, c2⟩ := wd_bd (ny y + ah y m)
  by_cases hc : len y m < 1 + (d - wd (ny y + ah y m)) % 7 + 7 * (k - 1)
  · have H := Lib.hid (nth_1 hc)
    go_enter Try.func81, Try.ntmps81
    go_wp2_with (first
      | (go_at_call 98; refine (isYear_yes _ _ h1 h2).mono ?_; rintro e w' ⟨rfl, rfl⟩)
      | (go_at_call 99; refine (isMonth_yes _ _ h3 h4).mono ?_; rintro e w' ⟨rfl, rfl⟩)
      | (go_at_call 100; refine (isWeekday_yes _ _ h7 h8).mono ?_; rintro e w' ⟨rfl, rfl⟩)
      | (go_at_call 94; refine (newYear_any _ _ (by omega) (by omega)).mono ?_; rintro e w' ⟨rfl, rfl⟩)
      | (go_at_call 95; refine (ahead_any _ _ _ (by omega) (by omega)).mono ?_; rintro e w' ⟨rfl, rfl⟩)
      | (go_at_call 102; refine (weekday_any _ _).mono ?_; rintro e w' ⟨rfl, rfl⟩)
      | (go_at_call 101; refine (since_any _ _ _ (by omega) (by omega) (by omega) (by omega)).mono ?_; rintro e w' ⟨rfl, rfl⟩)
      | (go_at_call 103; refine (length_any _ _ _).mono ?_; rintro e w' ⟨rfl, rfl⟩))
    go_ret2
    exact ⟨ret_two H.out.symm rfl, rfl⟩
  · have H := Lib.hid (nth_2 hc)
    go_enter Try.func81, Try.ntmps81
    go_wp2_with (first
      | (go_at_call 98; refine (isYear_yes _ _ h1 h2).mono ?_; rintro e w' ⟨rfl, rfl⟩)
      | (go_at_call 99; refine (isMonth_yes _ _ h3 h4).mono ?_; rintro e w' ⟨rfl, rfl⟩)
      | (go_at_call 100; refine (isWeekday_yes _ _ h7 h8).mono ?_; rintro e w' ⟨rfl, rfl⟩)
      | (go_at_call 94; refine (newYear_any _ _ (by omega) (by omega)).mono ?_; rintro e w' ⟨rfl, rfl⟩)
      | (go_at_call 95; refine (ahead_any _ _ _ (by omega) (by omega)).mono ?_; rintro e w' ⟨rfl, rfl⟩)
      | (go_at_call 102; refine (weekday_any _ _).mono ?_; rintro e w' ⟨rfl, rfl⟩)
      | (go_at_call 101; refine (since_any _ _ _ (by omega) (by omega) (by omega) (by omega)).mono ?_; rintro e w' ⟨rfl, rfl⟩)
      | (go_at_call 103; refine (length_any _ _ _).mono ?_; rintro e w' ⟨rfl, rfl⟩))
    go_ret2
    exact ⟨ret_two H.out.symm rfl, rfl⟩
end Go.Proofs.Ytbinhnlajflndaa.Cv
