/- The walks of voklaw1's laws CivilNths: each returns true at every argument, and changes nothing. -/
import Derived.Test.YtlnilmojpobaiaaCvFirst
import Derived.Test.YtlnilmojpobaiaaCvMath2
import Derived.WalkKit
import Derived.WalkSpells
import Derived.Lib.Hide
import Derived.Test.YtlnilmojpobaiaaCvSpec
namespace Go.Proofs.Ytlnilmojpobaiaa.Cv
open Go.RowKit

set_option maxHeartbeats 4000000 in
theorem civilNths_walk (y m k x : Int) (w : World) : Calls Try.prog 10 #[.int .i64 y, .int .i64 m, .int .i64 k, .int .i64 x] w fun e w' => e = .returned (.bool true) ∧ w = w' := by
  by_cases h : 1 ≤ y ∧ y ≤ 9999 ∧ 1 ≤ m ∧ m ≤ 12 ∧ 1 ≤ k ∧ k ≤ 5 ∧ 0 ≤ x ∧ x ≤ 6
  · obtain ⟨h1, h2, h3, h4, h5, h6, h7, h8⟩ := h
    have V := Lib.hid (nth_ok (x := x) h1 h2 h3 h4 h5 h6)
    obtain ⟨_, _, _, _, v1, v2⟩ := valid_bits V.out
    have l := (len_bd y m).2
    have W := Lib.hid (weekday_nth (y := y) (m := m) (k := k) h7 h8)
    by_cases k5 : k = 5
    · subst k5
      have t := nth_5 (y := y) (x := x) h3 h4
      go_enter Try.func10, Try.ntmps10
      go_wp2_with (first
        | (go_at_call 15; refine (first_any _).mono ?_; rintro e w' ⟨rfl, rfl⟩)
        | (go_at_call 36; refine (nth_yes _ _ _ _ _ h1 h2 h3 h4 (by decide) (by decide) h7 h8).mono ?_; rintro e w' ⟨rfl, rfl⟩)
        | (go_at_call 16; refine (days_yes _ _ _ _ V.out).mono ?_; rintro e w' ⟨rfl, rfl⟩)
        | (go_at_call 28; refine (W.out _).mono ?_; rintro e w' ⟨rfl, rfl⟩)
        | (go_at_call 20; refine (length_any _ _ _).mono ?_; rintro e w' ⟨rfl, rfl⟩))
      go_ret
      first
        | exact ⟨rfl, rfl⟩
        | exact ⟨ret_bool (by simp; omega), rfl⟩
    · have k4 : k < 5 := by omega
      have T := Lib.hid (nth_k (y := y) (x := x) h3 h4 h5 k4)
      clear k5
      go_enter Try.func10, Try.ntmps10
      go_wp2_with (first
        | (go_at_call 15; refine (first_any _).mono ?_; rintro e w' ⟨rfl, rfl⟩)
        | (go_at_call 36; refine (nth_yes _ _ _ _ _ h1 h2 h3 h4 h5 h6 h7 h8).mono ?_; rintro e w' ⟨rfl, rfl⟩)
        | (go_at_call 16; refine (days_yes _ _ _ _ V.out).mono ?_; rintro e w' ⟨rfl, rfl⟩)
        | (go_at_call 28; refine (W.out _).mono ?_; rintro e w' ⟨rfl, rfl⟩))
      go_ret
      exact ⟨ret_bool (by simp [T.out]), rfl⟩
  · have H := Lib.hid h
    by_cases hm : 1 ≤ y ∧ y ≤ 9999 ∧ 1 ≤ m ∧ m ≤ 12
    · have V := Lib.hid (valid_one hm)
      have hr : k < 1 ∨ 5 < k ∨ x < 0 ∨ 6 < x := by omega
      clear h hm
      rcases hr with r | r | r | r
      all_goals
        go_enter Try.func10, Try.ntmps10
        go_wp2_with (first
          | (go_at_call 15; refine (first_any _).mono ?_; rintro e w' ⟨rfl, rfl⟩)
          | (go_at_call 36; refine (nth_no _ _ _ _ _ H.out).mono ?_; rintro e w' ⟨rfl, rfl⟩)
          | (go_at_call 22; refine (valid_yes _ _ _ _ V.out).mono ?_; rintro e w' ⟨rfl, rfl⟩))
        all_goals go_ret
        all_goals exact ⟨rfl, rfl⟩
    · have V := Lib.hid (valid_none hm)
      clear h hm
      go_enter Try.func10, Try.ntmps10
      go_wp2_with (first
        | (go_at_call 15; refine (first_any _).mono ?_; rintro e w' ⟨rfl, rfl⟩)
        | (go_at_call 36; refine (nth_no _ _ _ _ _ H.out).mono ?_; rintro e w' ⟨rfl, rfl⟩)
        | (go_at_call 22; refine (valid_no _ _ _ _ V.out).mono ?_; rintro e w' ⟨rfl, rfl⟩))
      go_ret
      exact ⟨rfl, rfl⟩
end Go.Proofs.Ytlnilmojpobaiaa.Cv
