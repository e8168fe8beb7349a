/- The walks of vokref1's weeks, months on and nth weekdays, each a contract in the same plain words as package civil's; the world stays as it is. -/
import Derived.Test.YtbinhnlajflndaaRows
import Derived.Test.YtbinhnlajflndaaCvWalkR
import Derived.WalkKit
import Derived.WalkSpells
import Derived.Lib.Hide
namespace Go.Proofs.Ytbinhnlajflndaa.Cv
open Go.RowKit

theorem rnth_no (y m k d : Int) (w : World) (h : ¬ (1 ≤ y ∧ y ≤ 9999 ∧ 1 ≤ m ∧ m ≤ 12 ∧ 1 ≤ k ∧ k ≤ 5 ∧ 0 ≤ d ∧ d ≤ 6)) :
    Calls Try.prog 85 #[.int .i64 y, .int .i64 m, .int .i64 k, .int .i64 d] w fun e w' => e = .returned (.tuple #[.int .i64 0, .int .i64 1]) ∧ w = w' := by
  by_cases hm : 1 ≤ y ∧ y ≤ 9999 ∧ 1 ≤ m ∧ m ≤ 12
  · have H := Lib.hid (valid_one hm)
    obtain ⟨h1, h2, h3, h4⟩ := hm
    by_cases b1 : k < 1
    · clear h
      go_enter Try.func85, Try.ntmps85
      go_wp2_with (go_at_call 105; refine (rvalid_yes _ _ _ _ H.out).mono ?_; rintro e w' ⟨rfl, rfl⟩)
      go_ret2
      exact ⟨rfl, rfl⟩
    · by_cases b2 : 5 < k
      · clear h
        go_enter Try.func85, Try.ntmps85
        go_wp2_with (go_at_call 105; refine (rvalid_yes _ _ _ _ H.out).mono ?_; rintro e w' ⟨rfl, rfl⟩)
        go_ret2
        exact ⟨rfl, rfl⟩
      · by_cases b3 : d < 0
        · clear h
          go_enter Try.func85, Try.ntmps85
          go_wp2_with (go_at_call 105; refine (rvalid_yes _ _ _ _ H.out).mono ?_; rintro e w' ⟨rfl, rfl⟩)
          go_ret2
          exact ⟨rfl, rfl⟩
        · have b4 : 6 < d := by omega
          clear h
          go_enter Try.func85, Try.ntmps85
          go_wp2_with (go_at_call 105; refine (rvalid_yes _ _ _ _ H.out).mono ?_; rintro e w' ⟨rfl, rfl⟩)
          go_ret2
          exact ⟨rfl, rfl⟩
  · have H := Lib.hid (valid_none hm)
    clear h hm
    go_enter Try.func85, Try.ntmps85
    go_wp2_with (go_at_call 105; refine (rvalid_no _ _ _ _ H.out).mono ?_; rintro e w' ⟨rfl, rfl⟩)
    go_ret2
    exact ⟨rfl, rfl⟩
theorem rnth_yes (y m k x : Int) (w : World) (h1 : 1 ≤ y) (h2 : y ≤ 9999) (h3 : 1 ≤ m) (h4 : m ≤ 12) (h5 : 1 ≤ k) (h6 : k ≤ 5) (h7 : 0 ≤ x) (h8 : x ≤ 6) :
    Calls Try.prog 85 #[.int .i64 y, .int .i64 m, .int .i64 k, .int .i64 x] w fun e w' => e = .returned (.tuple #[.int .i64 (nth y m k x), .int .i64 0]) ∧ w = w' := by
  have H := Lib.hid (valid_one ⟨h1, h2, h3, h4⟩)
  obtain ⟨l1, l2⟩ := len_bd y m
  have l3 := len_lo y m h3 h4
  go_enter Try.func85, Try.ntmps85
  go_wp2_with (go_at_call 105; refine (rvalid_yes _ _ _ _ H.out).mono ?_; rintro e w' ⟨rfl, rfl⟩)
  go_loop [10, 11, 12] (fun c l d => ∃ j : Int, 1 ≤ j ∧ j ≤ len y m + 1 ∧ d = .int .i64 j ∧ c = .int .i64 (cnt y m x j) ∧ l = .int .i64 (lst y m x j) ∧ Still k (cnt y m x j)) (fun _ _ d => (40 - intOf d).toNat)
  case atStart => exact ⟨1, by omega, by omega, rfl, int_eq (cnt_one y m x).symm, int_eq (lst_one y m x).symm, by rw [cnt_one]; exact Or.inr (by omega)⟩
  case round =>
    obtain ⟨j, hj1, hj2, rfl, rfl, rfl, hk⟩ := hrel
    have HK := Lib.hid hk; clear hk
    obtain ⟨t1, t2⟩ := cnt_bd y m x j hj1 (by omega)
    by_cases hj : j ≤ len y m
    · have V := Lib.hid (valid_mk (y := y) (m := m) (d := j) ⟨h1, h2, hj1, hj⟩)
      by_cases hw : wd (num y m j) = x
      · have S := Lib.hid (cnt_yes hw hj1)
        have W := Lib.hid hw
        have hwb : (wd (num y m j) != x) = false := by simp [hw]
        clear hw
        by_cases hr : cnt y m x j + 1 = k ∧ k < 5
        · have R := Lib.hid (nth_here (y := y) (m := m) (x := x) hr.1 W.out hj)
          have hr1 : (cnt y m x j + 1 == k) = true := by simp [hr.1]
          have hr2 := hr.2
          clear hr
          go_wp2_with (first
            | (go_at_call 84; refine (rlength_any _ _ _).mono ?_; rintro e w' ⟨rfl, rfl⟩)
            | (go_at_call 86; refine (rdays_yes _ _ _ _ V.out).mono ?_; rintro e w' ⟨rfl, rfl⟩)
            | (go_at_call 106; refine (rweekday_any _ _).mono ?_; rintro e w' ⟨rfl, rfl⟩))
          go_ret2
          exact ⟨ret_two R.out.symm rfl, rfl⟩
        · have hk5 : k = 5 ∨ cnt y m x j + 1 < k := by
            rcases HK.out with g | g <;> omega
          rcases hk5 with hk5 | hk5
          · have K5 := Lib.hid hk5
            have hk6 : 5 ≤ k := by omega
            clear hr hk5
            go_wp2_with (first
              | (go_at_call 84; refine (rlength_any _ _ _).mono ?_; rintro e w' ⟨rfl, rfl⟩)
              | (go_at_call 86; refine (rdays_yes _ _ _ _ V.out).mono ?_; rintro e w' ⟨rfl, rfl⟩)
              | (go_at_call 106; refine (rweekday_any _ _).mono ?_; rintro e w' ⟨rfl, rfl⟩))
            all_goals
              go_round
              case rel => exact ⟨j + 1, by omega, by omega, rfl, int_eq (by have := S.out.1; omega), int_eq S.out.2.symm, Or.inl K5.out⟩
              case measure => simp [intOf]; omega
          · have hr1 : (cnt y m x j + 1 == k) = false := by simp; omega
            have hk6 : cnt y m x j + 1 < k := hk5
            clear hr hk5
            go_wp2_with (first
              | (go_at_call 84; refine (rlength_any _ _ _).mono ?_; rintro e w' ⟨rfl, rfl⟩)
              | (go_at_call 86; refine (rdays_yes _ _ _ _ V.out).mono ?_; rintro e w' ⟨rfl, rfl⟩)
              | (go_at_call 106; refine (rweekday_any _ _).mono ?_; rintro e w' ⟨rfl, rfl⟩))
            go_round
            case rel => exact ⟨j + 1, by omega, by omega, rfl, int_eq S.out.1.symm, int_eq S.out.2.symm, Or.inr (by rw [S.out.1]; exact hk6)⟩
            case measure => simp [intOf]; omega
      · have S := Lib.hid (cnt_no hw h7 h8)
        have hwb : (wd (num y m j) != x) = true := by simp [hw]
        clear hw
        go_wp2_with (first
          | (go_at_call 84; refine (rlength_any _ _ _).mono ?_; rintro e w' ⟨rfl, rfl⟩)
          | (go_at_call 86; refine (rdays_yes _ _ _ _ V.out).mono ?_; rintro e w' ⟨rfl, rfl⟩)
          | (go_at_call 106; refine (rweekday_any _ _).mono ?_; rintro e w' ⟨rfl, rfl⟩))
        go_round
        case rel => exact ⟨j + 1, by omega, by omega, rfl, int_eq S.out.1.symm, int_eq S.out.2.symm, by rw [S.out.1]; exact HK.out⟩
        case measure => simp [intOf]; omega
    · have R := Lib.hid (nth_end (x := x) (show j = len y m + 1 by omega) l3 l2 HK.out h6)
      go_wp2_with (go_at_call 84; refine (rlength_any _ _ _).mono ?_; rintro e w' ⟨rfl, rfl⟩)
      go_ret2
      exact ⟨ret_two R.out.symm rfl, rfl⟩
end Go.Proofs.Ytbinhnlajflndaa.Cv
