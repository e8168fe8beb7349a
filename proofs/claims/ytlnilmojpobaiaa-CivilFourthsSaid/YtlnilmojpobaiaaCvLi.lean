/- The walks of voklaw1's laws CivilFourths: each returns true at every argument, and changes nothing. -/
import Derived.Test.YtlnilmojpobaiaaCvFirst
import Derived.Test.YtlnilmojpobaiaaCvMath2
import Derived.WalkKit
import Derived.WalkSpells
import Derived.Lib.Hide
import Derived.Test.YtlnilmojpobaiaaCvSpec
namespace Go.Proofs.Ytlnilmojpobaiaa.Cv
open Go.RowKit

theorem civilFourths_walk (y k : Int) (w : World) : Calls Try.prog 13 #[.int .i64 y, .int .i64 k] w fun e w' => e = .returned (.bool true) ∧ w = w' := by
  by_cases h : 1 ≤ y ∧ y ≤ 9998 ∧ 0 ≤ k ∧ k ≤ 6
  · obtain ⟨h1, h2, h3, h4⟩ := h
    have g2 : y ≤ 9999 := by omega
    have g3 : 1 ≤ y + 1 := by omega
    have g4 : y + 1 ≤ 9999 := by omega
    obtain ⟨c1, c2⟩ := ny_bd y (by omega) (by omega)
    obtain ⟨d1, d2⟩ := ny_bd (y + 1) (by omega) (by omega)
    rcases wks_bd y k h3 h4 with s | s
    all_goals
      have E1 : (wks y k == 52 || wks y k == 53) = true := by simp [s]
      have S := Lib.hid s
      clear s
      go_enter Try.func13, Try.ntmps13
      go_wp2_with fail
      refine (first_any _).mono ?_
      rintro e w' ⟨rfl, rfl⟩
      go_wp2_with fail
      refine (days_4 _ h1 g2).mono ?_
      rintro e w' ⟨rfl, rfl⟩
      go_wp2_with fail
      refine (days_4 _ g3 g4).mono ?_
      rintro e w' ⟨rfl, rfl⟩
      go_wp2_with fail
      refine (week_4 _ h1 g2 h3 h4).mono ?_
      rintro e w' ⟨rfl, rfl⟩
      go_wp2_with fail
      refine (week_4 _ g3 g4 h3 h4).mono ?_
      rintro e w' ⟨rfl, rfl⟩
      go_wp2_with fail
      refine (weeks_yes _ _ _ h1 g2 h3 h4).mono ?_
      rintro e w' ⟨rfl, rfl⟩
      go_wp2_with fail
      refine (week_4b _ h1 h2 h3 h4).mono ?_
      rintro e w' ⟨rfl, rfl⟩
      go_wp2_with fail
      refine (first_any _).mono ?_
      rintro e w' ⟨rfl, rfl⟩
      go_wp2_with fail
      all_goals go_ret
      all_goals exact ⟨ret_bool (by simp), rfl⟩
  · have hr : y < 1 ∨ 9998 < y ∨ k < 0 ∨ 6 < k := by omega
    clear h
    rcases hr with r | r | r | r
    all_goals
      go_enter Try.func13, Try.ntmps13
      go_wp2_with (go_at_call 15; refine (first_any _).mono ?_; rintro e w' ⟨rfl, rfl⟩)
      all_goals go_ret
      all_goals exact ⟨rfl, rfl⟩
end Go.Proofs.Ytlnilmojpobaiaa.Cv
