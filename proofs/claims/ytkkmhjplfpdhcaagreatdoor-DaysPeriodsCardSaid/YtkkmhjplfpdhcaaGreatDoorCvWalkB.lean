/- The walks of package civil's exported functions (but Leap, Length, Valid, Weekday: the text before), each a contract in the calendar's plain words, for every argument: inside its bounds (.._yes) and outside (.._no); the world stays as it is. -/
import Derived.Test.YtkkmhjplfpdhcaaGreatDoorRows
import Derived.Test.YtkkmhjplfpdhcaaGreatDoorCvWalkA
import Derived.WalkKit
import Derived.WalkSpells
import Derived.Lib.Hide
namespace Go.Proofs.YtkkmhjplfpdhcaaGreatDoor.Cv
open Go.RowKit

theorem yearOf_any (n : Int) (w : World) (h1 : -719528 ≤ n) (h2 : n ≤ 2932899) :
    Calls Tryz.prog 60 #[.int .i64 n] w fun e w' => e = .returned (.int .i64 (yr n)) ∧ w = w' := by
  by_cases c1 : n < ny ((n + 719528) * 400 / 146097)
  · have H := Lib.hid (yr_1 c1)
    go_enter Tryz.func60, Tryz.ntmps60
    go_wp2_with (go_at_call 61; refine (newYear_any _ _ (by omega) (by omega)).mono ?_; rintro e w' ⟨rfl, rfl⟩)
    go_ret
    exact ⟨ret_int H.out.symm, rfl⟩
  · by_cases c2 : ny ((n + 719528) * 400 / 146097 + 1) ≤ n
    · have H := Lib.hid (yr_2 c1 c2)
      go_enter Tryz.func60, Tryz.ntmps60
      go_wp2_with (go_at_call 61; refine (newYear_any _ _ (by omega) (by omega)).mono ?_; rintro e w' ⟨rfl, rfl⟩)
      go_ret
      exact ⟨ret_int H.out.symm, rfl⟩
    · have H := Lib.hid (yr_3 c1 c2)
      go_enter Tryz.func60, Tryz.ntmps60
      go_wp2_with (go_at_call 61; refine (newYear_any _ _ (by omega) (by omega)).mono ?_; rintro e w' ⟨rfl, rfl⟩)
      go_ret
      exact ⟨ret_int H.out.symm, rfl⟩
theorem days_yes (y m d : Int) (w : World) (h : valid y m d = true) :
    Calls Tryz.prog 39 #[.int .i64 y, .int .i64 m, .int .i64 d] w fun e w' => e = .returned (.tuple #[.int .i64 (num y m d), .int .i64 0]) ∧ w = w' := by
  obtain ⟨h1, h2, h3, h4, h5, h6⟩ := valid_parts h
  have H := Lib.hid h; clear h
  obtain ⟨a1, a2⟩ := ny_bd y (by omega) (by omega)
  obtain ⟨b1, b2⟩ := ah_bd y m (by omega) (by omega)
  obtain ⟨c1, c2⟩ := len_bd y m
  go_enter Tryz.func39, Tryz.ntmps39
  go_wp2_with (first
    | (go_at_call 92; refine (valid_yes _ _ _ _ H.out).mono ?_; rintro e w' ⟨rfl, rfl⟩)
    | (go_at_call 61; refine (newYear_any _ _ (by omega) (by omega)).mono ?_; rintro e w' ⟨rfl, rfl⟩)
    | (go_at_call 62; refine (ahead_any _ _ _ (by omega) (by omega)).mono ?_; rintro e w' ⟨rfl, rfl⟩))
  go_ret2
  exact ⟨rfl, rfl⟩
theorem days_no (y m d : Int) (w : World) (h : valid y m d = false) :
    Calls Tryz.prog 39 #[.int .i64 y, .int .i64 m, .int .i64 d] w fun e w' => e = .returned (.tuple #[.int .i64 0, .int .i64 1]) ∧ w = w' := by
  have H := Lib.hid h; clear h
  go_enter Tryz.func39, Tryz.ntmps39
  go_wp2_with (go_at_call 92; refine (valid_no _ _ _ _ H.out).mono ?_; rintro e w' ⟨rfl, rfl⟩)
  go_ret2
  exact ⟨rfl, rfl⟩
theorem date_no (n : Int) (w : World) (h : ¬ (-719162 ≤ n ∧ n ≤ 2932896)) :
    Calls Tryz.prog 22 #[.int .i64 n] w fun e w' => e = .returned (.tuple #[.int .i64 0, .int .i64 0, .int .i64 0, .int .i64 1]) ∧ w = w' := by
  have H := Lib.hid h; clear h
  go_enter Tryz.func22, Tryz.ntmps22
  go_wp2_with (go_at_call 59; refine (isDay_no _ _ H.out).mono ?_; rintro e w' ⟨rfl, rfl⟩)
  refine bodyPost_ret (results_tmp4 rfl _ _ _) rfl ?_
  exact ⟨rfl, rfl⟩
theorem date_yes (n : Int) (w : World) (h1 : -719162 ≤ n) (h2 : n ≤ 2932896) :
    Calls Tryz.prog 22 #[.int .i64 n] w fun e w' => e = .returned (.tuple #[.int .i64 (yr n), .int .i64 (mon n), .int .i64 (dom n), .int .i64 0]) ∧ w = w' := by
  obtain ⟨a1, a2⟩ := yr_day n h1 h2
  obtain ⟨b1, b2⟩ := in_year n
  obtain ⟨d1, d2, d3, d4⟩ := mo_spec (yr n) (n - ny (yr n)) (by omega) (by omega)
  have l := lp_01 (yr n)
  obtain ⟨l1, l2⟩ := l
  obtain ⟨f1, f2⟩ := ah_bd (yr n) (mo (yr n) (n - ny (yr n))) d1 (by omega)
  by_cases c : ah (yr n) ((n - ny (yr n)) / 31 + 1 + 1) ≤ n - ny (yr n)
  · have e : mo (yr n) (n - ny (yr n)) = (n - ny (yr n)) / 31 + 1 + 1 := by simp [mo, c]
    rw [e] at d1 d2 d3 d4 f1 f2
    have E := Lib.hid e; clear e
    go_enter Tryz.func22, Tryz.ntmps22
    go_wp2_with (first
      | (go_at_call 59; refine (isDay_yes _ _ h1 h2).mono ?_; rintro e w' ⟨rfl, rfl⟩)
      | (go_at_call 60; refine (yearOf_any _ _ (by omega) (by omega)).mono ?_; rintro e w' ⟨rfl, rfl⟩)
      | (go_at_call 61; refine (newYear_any _ _ (by omega) (by omega)).mono ?_; rintro e w' ⟨rfl, rfl⟩)
      | (go_at_call 62; refine (ahead_any _ _ _ (by omega) (by omega)).mono ?_; rintro e w' ⟨rfl, rfl⟩))
    refine bodyPost_ret (results_tmp4 rfl _ _ _) rfl ?_
    exact ⟨ret_four rfl E.out.symm (by simp [dom, mon, E.out]) rfl, rfl⟩
  · have e : mo (yr n) (n - ny (yr n)) = (n - ny (yr n)) / 31 + 1 := by simp [mo, c]
    rw [e] at d1 d2 d3 d4 f1 f2
    have E := Lib.hid e; clear e
    go_enter Tryz.func22, Tryz.ntmps22
    go_wp2_with (first
      | (go_at_call 59; refine (isDay_yes _ _ h1 h2).mono ?_; rintro e w' ⟨rfl, rfl⟩)
      | (go_at_call 60; refine (yearOf_any _ _ (by omega) (by omega)).mono ?_; rintro e w' ⟨rfl, rfl⟩)
      | (go_at_call 61; refine (newYear_any _ _ (by omega) (by omega)).mono ?_; rintro e w' ⟨rfl, rfl⟩)
      | (go_at_call 62; refine (ahead_any _ _ _ (by omega) (by omega)).mono ?_; rintro e w' ⟨rfl, rfl⟩))
    refine bodyPost_ret (results_tmp4 rfl _ _ _) rfl ?_
    exact ⟨ret_four rfl E.out.symm (by simp [dom, mon, E.out]) rfl, rfl⟩
theorem yearDay_no (n : Int) (w : World) (h : ¬ (-719162 ≤ n ∧ n ≤ 2932896)) :
    Calls Tryz.prog 97 #[.int .i64 n] w fun e w' => e = .returned (.tuple #[.int .i64 0, .int .i64 0, .int .i64 1]) ∧ w = w' := by
  have H := Lib.hid h; clear h
  go_enter Tryz.func97, Tryz.ntmps97
  go_wp2_with (go_at_call 59; refine (isDay_no _ _ H.out).mono ?_; rintro e w' ⟨rfl, rfl⟩)
  go_ret3
  exact ⟨rfl, rfl⟩
theorem yearDay_yes (n : Int) (w : World) (h1 : -719162 ≤ n) (h2 : n ≤ 2932896) :
    Calls Tryz.prog 97 #[.int .i64 n] w fun e w' => e = .returned (.tuple #[.int .i64 (yr n), .int .i64 (n - ny (yr n) + 1), .int .i64 0]) ∧ w = w' := by
  obtain ⟨a1, a2⟩ := yr_day n h1 h2
  obtain ⟨b1, b2⟩ := in_year n
  obtain ⟨l1, l2⟩ := lp_01 (yr n)
  go_enter Tryz.func97, Tryz.ntmps97
  go_wp2_with (first
    | (go_at_call 59; refine (isDay_yes _ _ h1 h2).mono ?_; rintro e w' ⟨rfl, rfl⟩)
    | (go_at_call 60; refine (yearOf_any _ _ (by omega) (by omega)).mono ?_; rintro e w' ⟨rfl, rfl⟩)
    | (go_at_call 61; refine (newYear_any _ _ (by omega) (by omega)).mono ?_; rintro e w' ⟨rfl, rfl⟩))
  go_ret3
  exact ⟨rfl, rfl⟩
theorem week_no (n k : Int) (w : World) (h : ¬ (-719162 ≤ n ∧ n ≤ 2932896 ∧ 0 ≤ k ∧ k ≤ 6)) :
    Calls Tryz.prog 29 #[.int .i64 n, .int .i64 k] w fun e w' => e = .returned (.tuple #[.int .i64 0, .int .i64 0, .int .i64 1]) ∧ w = w' := by
  by_cases hd : -719162 ≤ n ∧ n ≤ 2932896
  · have H := Lib.hid (show ¬ (0 ≤ k ∧ k ≤ 6) from fun g => h ⟨hd.1, hd.2, g.1, g.2⟩)
    clear h
    obtain ⟨h1, h2⟩ := hd
    go_enter Tryz.func29, Tryz.ntmps29
    go_wp2_with (first
      | (go_at_call 59; refine (isDay_yes _ _ h1 h2).mono ?_; rintro e w' ⟨rfl, rfl⟩)
      | (go_at_call 66; refine (isWeekday_no _ _ H.out).mono ?_; rintro e w' ⟨rfl, rfl⟩))
    go_ret3
    exact ⟨rfl, rfl⟩
  · clear h
    have H := Lib.hid hd; clear hd
    go_enter Tryz.func29, Tryz.ntmps29
    go_wp2_with (go_at_call 59; refine (isDay_no _ _ H.out).mono ?_; rintro e w' ⟨rfl, rfl⟩)
    go_ret3
    exact ⟨rfl, rfl⟩
theorem week_yes (n k : Int) (w : World) (h1 : -719162 ≤ n) (h2 : n ≤ 2932896) (h3 : 0 ≤ k) (h4 : k ≤ 6) :
    Calls Tryz.prog 29 #[.int .i64 n, .int .i64 k] w fun e w' => e = .returned (.tuple #[.int .i64 (wky n k), .int .i64 (wkn n k), .int .i64 0]) ∧ w = w' := by
  obtain ⟨a1, a2⟩ := wd_bd n
  obtain ⟨b1, b2⟩ := in_year (fo n k)
  obtain ⟨l1, l2⟩ := lp_01 (yr (fo n k))
  obtain ⟨f1, f2⟩ := fo_bd n k
  obtain ⟨g1, g2⟩ := yr_bd (fo n k) (by omega) (by omega)
  unfold fo at b1 b2 l1 l2 f1 f2 g1 g2
  go_enter Tryz.func29, Tryz.ntmps29
  go_wp2_with (first
    | (go_at_call 59; refine (isDay_yes _ _ h1 h2).mono ?_; rintro e w' ⟨rfl, rfl⟩)
    | (go_at_call 66; refine (isWeekday_yes _ _ h3 h4).mono ?_; rintro e w' ⟨rfl, rfl⟩)
    | (go_at_call 27; refine (weekday_any _ _).mono ?_; rintro e w' ⟨rfl, rfl⟩)
    | (go_at_call 67; refine (since_any _ _ _ (by omega) (by omega) (by omega) (by omega)).mono ?_; rintro e w' ⟨rfl, rfl⟩)
    | (go_at_call 60; refine (yearOf_any _ _ (by omega) (by omega)).mono ?_; rintro e w' ⟨rfl, rfl⟩)
    | (go_at_call 61; refine (newYear_any _ _ (by omega) (by omega)).mono ?_; rintro e w' ⟨rfl, rfl⟩))
  go_ret3
  exact ⟨rfl, rfl⟩
theorem weeks_no (y k : Int) (w : World) (h : ¬ (1 ≤ y ∧ y ≤ 9999 ∧ 0 ≤ k ∧ k ≤ 6)) :
    Calls Tryz.prog 30 #[.int .i64 y, .int .i64 k] w fun e w' => e = .returned (.tuple #[.int .i64 0, .int .i64 1]) ∧ w = w' := by
  by_cases hd : 1 ≤ y ∧ y ≤ 9999
  · have H := Lib.hid (show ¬ (0 ≤ k ∧ k ≤ 6) from fun g => h ⟨hd.1, hd.2, g.1, g.2⟩)
    clear h
    obtain ⟨h1, h2⟩ := hd
    go_enter Tryz.func30, Tryz.ntmps30
    go_wp2_with (first
      | (go_at_call 64; refine (isYear_yes _ _ h1 h2).mono ?_; rintro e w' ⟨rfl, rfl⟩)
      | (go_at_call 66; refine (isWeekday_no _ _ H.out).mono ?_; rintro e w' ⟨rfl, rfl⟩))
    go_ret2
    exact ⟨rfl, rfl⟩
  · clear h
    have H := Lib.hid hd; clear hd
    go_enter Tryz.func30, Tryz.ntmps30
    go_wp2_with (go_at_call 64; refine (isYear_no _ _ H.out).mono ?_; rintro e w' ⟨rfl, rfl⟩)
    go_ret2
    exact ⟨rfl, rfl⟩
theorem weeks_yes (y k : Int) (w : World) (h1 : 1 ≤ y) (h2 : y ≤ 9999) (h3 : 0 ≤ k) (h4 : k ≤ 6) :
    Calls Tryz.prog 30 #[.int .i64 y, .int .i64 k] w fun e w' => e = .returned (.tuple #[.int .i64 (wks y k), .int .i64 0]) ∧ w = w' := by
  obtain ⟨a1, a2⟩ := wd_bd (ny y)
  have s := ny_mono y (y + 1) (by omega)
  obtain ⟨g1, g2⟩ := ny_bd y (by omega) (by omega)
  obtain ⟨g3, g4⟩ := ny_bd (y + 1) (by omega) (by omega)
  have s' : 365 ≤ ny (y + 1) - ny y := by omega
  clear s
  go_enter Tryz.func30, Tryz.ntmps30
  go_wp2_with (first
    | (go_at_call 64; refine (isYear_yes _ _ h1 h2).mono ?_; rintro e w' ⟨rfl, rfl⟩)
    | (go_at_call 66; refine (isWeekday_yes _ _ h3 h4).mono ?_; rintro e w' ⟨rfl, rfl⟩)
    | (go_at_call 27; refine (weekday_any _ _).mono ?_; rintro e w' ⟨rfl, rfl⟩)
    | (go_at_call 67; refine (since_any _ _ _ (by omega) (by omega) (by omega) (by omega)).mono ?_; rintro e w' ⟨rfl, rfl⟩)
    | (go_at_call 61; refine (newYear_any _ _ (by omega) (by omega)).mono ?_; rintro e w' ⟨rfl, rfl⟩))
  go_ret2
  exact ⟨rfl, rfl⟩
theorem nth_no (y m k d : Int) (w : World) (h : ¬ (1 ≤ y ∧ y ≤ 9999 ∧ 1 ≤ m ∧ m ≤ 12 ∧ 1 ≤ k ∧ k ≤ 5 ∧ 0 ≤ d ∧ d ≤ 6)) :
    Calls Tryz.prog 28 #[.int .i64 y, .int .i64 m, .int .i64 k, .int .i64 d] w fun e w' => e = .returned (.tuple #[.int .i64 0, .int .i64 1]) ∧ w = w' := by
  by_cases hy : 1 ≤ y ∧ y ≤ 9999
  · obtain ⟨h1, h2⟩ := hy
    by_cases hm : 1 ≤ m ∧ m ≤ 12
    · obtain ⟨h3, h4⟩ := hm
      by_cases hk : k < 1
      · clear h
        go_enter Tryz.func28, Tryz.ntmps28
        go_wp2_with (first
          | (go_at_call 64; refine (isYear_yes _ _ h1 h2).mono ?_; rintro e w' ⟨rfl, rfl⟩)
          | (go_at_call 65; refine (isMonth_yes _ _ h3 h4).mono ?_; rintro e w' ⟨rfl, rfl⟩))
        go_ret2
        exact ⟨rfl, rfl⟩
      · by_cases hk' : 5 < k
        · clear h
          go_enter Tryz.func28, Tryz.ntmps28
          go_wp2_with (first
            | (go_at_call 64; refine (isYear_yes _ _ h1 h2).mono ?_; rintro e w' ⟨rfl, rfl⟩)
            | (go_at_call 65; refine (isMonth_yes _ _ h3 h4).mono ?_; rintro e w' ⟨rfl, rfl⟩))
          go_ret2
          exact ⟨rfl, rfl⟩
        · have H := Lib.hid (show ¬ (0 ≤ d ∧ d ≤ 6) from fun g => h ⟨h1, h2, h3, h4, by omega, by omega, g.1, g.2⟩)
          clear h
          go_enter Tryz.func28, Tryz.ntmps28
          go_wp2_with (first
            | (go_at_call 64; refine (isYear_yes _ _ h1 h2).mono ?_; rintro e w' ⟨rfl, rfl⟩)
            | (go_at_call 65; refine (isMonth_yes _ _ h3 h4).mono ?_; rintro e w' ⟨rfl, rfl⟩)
            | (go_at_call 66; refine (isWeekday_no _ _ H.out).mono ?_; rintro e w' ⟨rfl, rfl⟩))
          go_ret2
          exact ⟨rfl, rfl⟩
    · clear h
      have H := Lib.hid hm; clear hm
      go_enter Tryz.func28, Tryz.ntmps28
      go_wp2_with (first
        | (go_at_call 64; refine (isYear_yes _ _ h1 h2).mono ?_; rintro e w' ⟨rfl, rfl⟩)
        | (go_at_call 65; refine (isMonth_no _ _ H.out).mono ?_; rintro e w' ⟨rfl, rfl⟩))
      go_ret2
      exact ⟨rfl, rfl⟩
  · clear h
    have H := Lib.hid hy; clear hy
    go_enter Tryz.func28, Tryz.ntmps28
    go_wp2_with (go_at_call 64; refine (isYear_no _ _ H.out).mono ?_; rintro e w' ⟨rfl, rfl⟩)
    go_ret2
    exact ⟨rfl, rfl⟩
theorem nth_yes (y m k d : Int) (w : World) (h1 : 1 ≤ y) (h2 : y ≤ 9999) (h3 : 1 ≤ m) (h4 : m ≤ 12) (h5 : 1 ≤ k) (h6 : k ≤ 5) (h7 : 0 ≤ d) (h8 : d ≤ 6) :
    Calls Tryz.prog 28 #[.int .i64 y, .int .i64 m, .int .i64 k, .int .i64 d] w fun e w' => e = .returned (.tuple #[.int .i64 (nth y m k d), .int .i64 0]) ∧ w = w' := by
  obtain ⟨a1, a2⟩ := ny_bd y (by omega) (by omega)
  obtain ⟨b1, b2⟩ := ah_bd y m (by omega) (by omega)
  obtain ⟨c1, c2⟩ := wd_bd (ny y + ah y m)
  by_cases hc : len y m < 1 + (d - wd (ny y + ah y m)) % 7 + 7 * (k - 1)
  · have H := Lib.hid (nth_1 hc)
    go_enter Tryz.func28, Tryz.ntmps28
    go_wp2_with (first
      | (go_at_call 64; refine (isYear_yes _ _ h1 h2).mono ?_; rintro e w' ⟨rfl, rfl⟩)
      | (go_at_call 65; refine (isMonth_yes _ _ h3 h4).mono ?_; rintro e w' ⟨rfl, rfl⟩)
      | (go_at_call 66; refine (isWeekday_yes _ _ h7 h8).mono ?_; rintro e w' ⟨rfl, rfl⟩)
      | (go_at_call 61; refine (newYear_any _ _ (by omega) (by omega)).mono ?_; rintro e w' ⟨rfl, rfl⟩)
      | (go_at_call 62; refine (ahead_any _ _ _ (by omega) (by omega)).mono ?_; rintro e w' ⟨rfl, rfl⟩)
      | (go_at_call 27; refine (weekday_any _ _).mono ?_; rintro e w' ⟨rfl, rfl⟩)
      | (go_at_call 67; refine (since_any _ _ _ (by omega) (by omega) (by omega) (by omega)).mono ?_; rintro e w' ⟨rfl, rfl⟩)
      | (go_at_call 47; refine (length_any _ _ _).mono ?_; rintro e w' ⟨rfl, rfl⟩))
    go_ret2
    exact ⟨ret_two H.out.symm rfl, rfl⟩
  · have H := Lib.hid (nth_2 hc)
    go_enter Tryz.func28, Tryz.ntmps28
    go_wp2_with (first
      | (go_at_call 64; refine (isYear_yes _ _ h1 h2).mono ?_; rintro e w' ⟨rfl, rfl⟩)
      | (go_at_call 65; refine (isMonth_yes _ _ h3 h4).mono ?_; rintro e w' ⟨rfl, rfl⟩)
      | (go_at_call 66; refine (isWeekday_yes _ _ h7 h8).mono ?_; rintro e w' ⟨rfl, rfl⟩)
      | (go_at_call 61; refine (newYear_any _ _ (by omega) (by omega)).mono ?_; rintro e w' ⟨rfl, rfl⟩)
      | (go_at_call 62; refine (ahead_any _ _ _ (by omega) (by omega)).mono ?_; rintro e w' ⟨rfl, rfl⟩)
      | (go_at_call 27; refine (weekday_any _ _).mono ?_; rintro e w' ⟨rfl, rfl⟩)
      | (go_at_call 67; refine (since_any _ _ _ (by omega) (by omega) (by omega) (by omega)).mono ?_; rintro e w' ⟨rfl, rfl⟩)
      | (go_at_call 47; refine (length_any _ _ _).mono ?_; rintro e w' ⟨rfl, rfl⟩))
    go_ret2
    exact ⟨ret_two H.out.symm rfl, rfl⟩
end Go.Proofs.YtkkmhjplfpdhcaaGreatDoor.Cv
