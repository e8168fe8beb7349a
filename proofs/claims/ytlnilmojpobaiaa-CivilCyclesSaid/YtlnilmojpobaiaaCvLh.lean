/- The walks of voklaw1's laws CivilAdds, CivilCycles: each returns true at every argument, and changes nothing. -/
import Derived.Test.YtlnilmojpobaiaaCvFirst
import Derived.Test.YtlnilmojpobaiaaCvMath2
import Derived.WalkKit
import Derived.WalkSpells
import Derived.Lib.Hide
import Derived.Test.YtlnilmojpobaiaaCvSpec
namespace Go.Proofs.Ytlnilmojpobaiaa.Cv
open Go.RowKit

theorem civilAdds_walk (y m b : Int) (w : World) : Calls Try.prog 11 #[.int .i64 y, .int .i64 m, .int .i64 b] w fun e w' => e = .returned (.bool true) ∧ w = w' := by
  by_cases h : 1 ≤ y ∧ y ≤ 9999 ∧ 1 ≤ m ∧ m ≤ 12 ∧ 12 ≤ 12 * y + m - 1 + b ∧ 12 * y + m - 1 + b ≤ 119999
  · obtain ⟨h1, h2, h3, h4, h5, h6⟩ := h
    have E : (12 * ((12 * y + m - 1 + b) / 12) + ((12 * y + m - 1 + b) % 12 + 1) == 12 * y + m + b) = true := by simp; omega
    by_cases l : y = 9999
    · subst l
      have N := Lib.hid (show ¬ (1 ≤ (9999 : Int) ∧ (9999 : Int) ≤ 9999 ∧ 1 ≤ m ∧ m ≤ 12 ∧ 12 ≤ 12 * (9999 : Int) + m - 1 + 12 ∧ 12 * (9999 : Int) + m - 1 + 12 ≤ 119999) by omega)
      go_enter Try.func11, Try.ntmps11
      go_wp2_with fail
      refine (first_any _).mono ?_
      rintro e w' ⟨rfl, rfl⟩
      go_wp2_with fail
      refine (addMonths_yes _ _ _ _ h1 h2 h3 h4 h5 h6).mono ?_
      rintro e w' ⟨rfl, rfl⟩
      go_wp2_with fail
      refine (adds_back h1 h2 h3 h4 h5 h6 _).mono ?_
      rintro e w' ⟨rfl, rfl⟩
      go_wp2_with fail
      refine (addMonths_no _ _ _ _ N.out).mono ?_
      rintro e w' ⟨rfl, rfl⟩
      go_wp2_with fail
      refine (first_any _).mono ?_
      rintro e w' ⟨rfl, rfl⟩
      go_wp2_with fail
      go_ret
      first
        | exact ⟨rfl, rfl⟩
        | exact ⟨ret_bool (by simp; omega), rfl⟩
    · have l' : y ≤ 9998 := by omega
      go_enter Try.func11, Try.ntmps11
      go_wp2_with fail
      refine (first_any _).mono ?_
      rintro e w' ⟨rfl, rfl⟩
      go_wp2_with fail
      refine (addMonths_yes _ _ _ _ h1 h2 h3 h4 h5 h6).mono ?_
      rintro e w' ⟨rfl, rfl⟩
      go_wp2_with fail
      refine (adds_back h1 h2 h3 h4 h5 h6 _).mono ?_
      rintro e w' ⟨rfl, rfl⟩
      go_wp2_with fail
      refine (adds_12 h1 l' h3 h4 _).mono ?_
      rintro e w' ⟨rfl, rfl⟩
      go_wp2_with fail
      refine (first_any _).mono ?_
      rintro e w' ⟨rfl, rfl⟩
      go_wp2_with fail
      go_ret
      first
        | exact ⟨rfl, rfl⟩
        | exact ⟨ret_bool (by simp; omega), rfl⟩
  · have H := Lib.hid h; clear h
    go_enter Try.func11, Try.ntmps11
    go_wp2_with (first
      | (go_at_call 15; refine (first_any _).mono ?_; rintro e w' ⟨rfl, rfl⟩)
      | (go_at_call 34; refine (addMonths_no _ _ _ _ H.out).mono ?_; rintro e w' ⟨rfl, rfl⟩))
    go_ret
    exact ⟨rfl, rfl⟩

theorem civilCycles_walk (y m d : Int) (w : World) : Calls Try.prog 12 #[.int .i64 y, .int .i64 m, .int .i64 d] w fun e w' => e = .returned (.bool true) ∧ w = w' := by
  by_cases h : valid y m d = true
  · obtain ⟨v1, v2, _, _, _, _⟩ := valid_bits h
    obtain ⟨b1, b2⟩ := num_bd h
    have H := Lib.hid h
    by_cases l : y + 400 ≤ 9999
    · have K := Lib.hid (days_400 h l)
      clear h
      go_enter Try.func12, Try.ntmps12
      go_wp2_with fail
      refine (first_any _).mono ?_
      rintro e w' ⟨rfl, rfl⟩
      go_wp2_with fail
      refine (days_yes _ _ _ _ H.out).mono ?_
      rintro e w' ⟨rfl, rfl⟩
      go_wp2_with fail
      refine (K.out _).mono ?_
      rintro e w' ⟨rfl, rfl⟩
      go_wp2_with fail
      refine (first_any _).mono ?_
      rintro e w' ⟨rfl, rfl⟩
      go_wp2_with fail
      refine (weekday_any _ _).mono ?_
      rintro e w' ⟨rfl, rfl⟩
      go_wp2_with fail
      refine (weekday_400 _ _).mono ?_
      rintro e w' ⟨rfl, rfl⟩
      go_wp2_with fail
      refine (leap_any _ _).mono ?_
      rintro e w' ⟨rfl, rfl⟩
      go_wp2_with fail
      refine (leap_y400 _ _).mono ?_
      rintro e w' ⟨rfl, rfl⟩
      go_wp2_with fail
      go_ret
      exact ⟨rfl, rfl⟩
    · have N := Lib.hid (valid_not (y := y + 400) (m := m) (d := d) (by omega))
      clear h
      go_enter Try.func12, Try.ntmps12
      go_wp2_with fail
      refine (first_any _).mono ?_
      rintro e w' ⟨rfl, rfl⟩
      go_wp2_with fail
      refine (days_yes _ _ _ _ H.out).mono ?_
      rintro e w' ⟨rfl, rfl⟩
      go_wp2_with fail
      refine (days_no _ _ _ _ N.out).mono ?_
      rintro e w' ⟨rfl, rfl⟩
      go_wp2_with fail
      refine (first_any _).mono ?_
      rintro e w' ⟨rfl, rfl⟩
      go_wp2_with fail
      go_ret
      exact ⟨rfl, rfl⟩
  · rw [Bool.not_eq_true] at h
    have H := Lib.hid h; clear h
    go_enter Try.func12, Try.ntmps12
    go_wp2_with fail
    refine (first_any _).mono ?_
    rintro e w' ⟨rfl, rfl⟩
    go_wp2_with fail
    refine (days_no _ _ _ _ H.out).mono ?_
    rintro e w' ⟨rfl, rfl⟩
    go_wp2_with fail
    refine (days_any _ _ _ _).mono ?_
    rintro e w' ⟨rfl, rfl⟩
    go_wp2_with fail
    refine (first_any _).mono ?_
    rintro e w' ⟨rfl, rfl⟩
    go_wp2_with fail
    go_ret
    exact ⟨rfl, rfl⟩
end Go.Proofs.Ytlnilmojpobaiaa.Cv
