/- The walks of voklaw1's laws CivilWeeks, CivilMonths: each returns true at every argument, and changes nothing. -/
import Derived.Test.YtlnilmojpobaiaaCvFirst
import Derived.Test.YtlnilmojpobaiaaCvMath2
import Derived.WalkKit
import Derived.WalkSpells
import Derived.Lib.Hide
import Derived.Test.YtlnilmojpobaiaaCvSpec
namespace Go.Proofs.Ytlnilmojpobaiaa.Cv
open Go.RowKit

theorem civilWeeks_walk (n k y : Int) (w : World) : Calls Try.prog 5 #[.int .i64 n, .int .i64 k, .int .i64 y] w fun e w' => e = .returned (.bool true) ∧ w = w' := by
  by_cases h : -719162 ≤ n ∧ n ≤ 2932896 ∧ 0 ≤ k ∧ k ≤ 6
  · obtain ⟨h1, h2, h3, h4⟩ := h
    by_cases g : 1 ≤ y ∧ y ≤ 9999 ∧ 0 ≤ k ∧ k ≤ 6
    · obtain ⟨g1, g2, g3, g4⟩ := g
      go_enter Try.func5, Try.ntmps5
      go_wp2_with (first
        | (go_at_call 15; refine (first_any _).mono ?_; rintro e w' ⟨rfl, rfl⟩)
        | (go_at_call 30; refine (week_yes _ _ _ h1 h2 h3 h4).mono ?_; rintro e w' ⟨rfl, rfl⟩)
        | (go_at_call 31; refine (rweek_yes _ _ _ h1 h2 h3 h4).mono ?_; rintro e w' ⟨rfl, rfl⟩)
        | (go_at_call 32; refine (weeks_yes _ _ _ g1 g2 g3 g4).mono ?_; rintro e w' ⟨rfl, rfl⟩)
        | (go_at_call 33; refine (rweeks_yes _ _ _ g1 g2 g3 g4).mono ?_; rintro e w' ⟨rfl, rfl⟩))
      go_ret
      exact ⟨rfl, rfl⟩
    · have G := Lib.hid g; clear g
      go_enter Try.func5, Try.ntmps5
      go_wp2_with (first
        | (go_at_call 15; refine (first_any _).mono ?_; rintro e w' ⟨rfl, rfl⟩)
        | (go_at_call 30; refine (week_yes _ _ _ h1 h2 h3 h4).mono ?_; rintro e w' ⟨rfl, rfl⟩)
        | (go_at_call 31; refine (rweek_yes _ _ _ h1 h2 h3 h4).mono ?_; rintro e w' ⟨rfl, rfl⟩)
        | (go_at_call 32; refine (weeks_no _ _ _ G.out).mono ?_; rintro e w' ⟨rfl, rfl⟩)
        | (go_at_call 33; refine (rweeks_no _ _ _ G.out).mono ?_; rintro e w' ⟨rfl, rfl⟩))
      go_ret
      exact ⟨rfl, rfl⟩
  · have H := Lib.hid h; clear h
    by_cases g : 1 ≤ y ∧ y ≤ 9999 ∧ 0 ≤ k ∧ k ≤ 6
    · obtain ⟨g1, g2, g3, g4⟩ := g
      go_enter Try.func5, Try.ntmps5
      go_wp2_with (first
        | (go_at_call 15; refine (first_any _).mono ?_; rintro e w' ⟨rfl, rfl⟩)
        | (go_at_call 30; refine (week_no _ _ _ H.out).mono ?_; rintro e w' ⟨rfl, rfl⟩)
        | (go_at_call 31; refine (rweek_no _ _ _ H.out).mono ?_; rintro e w' ⟨rfl, rfl⟩)
        | (go_at_call 32; refine (weeks_yes _ _ _ g1 g2 g3 g4).mono ?_; rintro e w' ⟨rfl, rfl⟩)
        | (go_at_call 33; refine (rweeks_yes _ _ _ g1 g2 g3 g4).mono ?_; rintro e w' ⟨rfl, rfl⟩))
      go_ret
      exact ⟨rfl, rfl⟩
    · have G := Lib.hid g; clear g
      go_enter Try.func5, Try.ntmps5
      go_wp2_with (first
        | (go_at_call 15; refine (first_any _).mono ?_; rintro e w' ⟨rfl, rfl⟩)
        | (go_at_call 30; refine (week_no _ _ _ H.out).mono ?_; rintro e w' ⟨rfl, rfl⟩)
        | (go_at_call 31; refine (rweek_no _ _ _ H.out).mono ?_; rintro e w' ⟨rfl, rfl⟩)
        | (go_at_call 32; refine (weeks_no _ _ _ G.out).mono ?_; rintro e w' ⟨rfl, rfl⟩)
        | (go_at_call 33; refine (rweeks_no _ _ _ G.out).mono ?_; rintro e w' ⟨rfl, rfl⟩))
      go_ret
      exact ⟨rfl, rfl⟩

theorem civilMonths_walk (y m b k x : Int) (w : World) : Calls Try.prog 6 #[.int .i64 y, .int .i64 m, .int .i64 b, .int .i64 k, .int .i64 x] w fun e w' => e = .returned (.bool true) ∧ w = w' := by
  by_cases h : 1 ≤ y ∧ y ≤ 9999 ∧ 1 ≤ m ∧ m ≤ 12 ∧ 12 ≤ 12 * y + m - 1 + b ∧ 12 * y + m - 1 + b ≤ 119999
  · obtain ⟨h1, h2, h3, h4, h5, h6⟩ := h
    by_cases g : 1 ≤ y ∧ y ≤ 9999 ∧ 1 ≤ m ∧ m ≤ 12 ∧ 1 ≤ k ∧ k ≤ 5 ∧ 0 ≤ x ∧ x ≤ 6
    · obtain ⟨g1, g2, g3, g4, g5, g6, g7, g8⟩ := g
      go_enter Try.func6, Try.ntmps6
      go_wp2_with (first
        | (go_at_call 15; refine (first_any _).mono ?_; rintro e w' ⟨rfl, rfl⟩)
        | (go_at_call 34; refine (addMonths_yes _ _ _ _ h1 h2 h3 h4 h5 h6).mono ?_; rintro e w' ⟨rfl, rfl⟩)
        | (go_at_call 35; refine (raddMonths_yes _ _ _ _ h1 h2 h3 h4 h5 h6).mono ?_; rintro e w' ⟨rfl, rfl⟩)
        | (go_at_call 36; refine (nth_yes _ _ _ _ _ g1 g2 g3 g4 g5 g6 g7 g8).mono ?_; rintro e w' ⟨rfl, rfl⟩)
        | (go_at_call 37; refine (rnth_yes _ _ _ _ _ g1 g2 g3 g4 g5 g6 g7 g8).mono ?_; rintro e w' ⟨rfl, rfl⟩))
      go_ret
      exact ⟨rfl, rfl⟩
    · have G := Lib.hid g; clear g
      go_enter Try.func6, Try.ntmps6
      go_wp2_with (first
        | (go_at_call 15; refine (first_any _).mono ?_; rintro e w' ⟨rfl, rfl⟩)
        | (go_at_call 34; refine (addMonths_yes _ _ _ _ h1 h2 h3 h4 h5 h6).mono ?_; rintro e w' ⟨rfl, rfl⟩)
        | (go_at_call 35; refine (raddMonths_yes _ _ _ _ h1 h2 h3 h4 h5 h6).mono ?_; rintro e w' ⟨rfl, rfl⟩)
        | (go_at_call 36; refine (nth_no _ _ _ _ _ G.out).mono ?_; rintro e w' ⟨rfl, rfl⟩)
        | (go_at_call 37; refine (rnth_no _ _ _ _ _ G.out).mono ?_; rintro e w' ⟨rfl, rfl⟩))
      go_ret
      exact ⟨rfl, rfl⟩
  · have H := Lib.hid h; clear h
    by_cases g : 1 ≤ y ∧ y ≤ 9999 ∧ 1 ≤ m ∧ m ≤ 12 ∧ 1 ≤ k ∧ k ≤ 5 ∧ 0 ≤ x ∧ x ≤ 6
    · obtain ⟨g1, g2, g3, g4, g5, g6, g7, g8⟩ := g
      go_enter Try.func6, Try.ntmps6
      go_wp2_with (first
        | (go_at_call 15; refine (first_any _).mono ?_; rintro e w' ⟨rfl, rfl⟩)
        | (go_at_call 34; refine (addMonths_no _ _ _ _ H.out).mono ?_; rintro e w' ⟨rfl, rfl⟩)
        | (go_at_call 35; refine (raddMonths_no _ _ _ _ H.out).mono ?_; rintro e w' ⟨rfl, rfl⟩)
        | (go_at_call 36; refine (nth_yes _ _ _ _ _ g1 g2 g3 g4 g5 g6 g7 g8).mono ?_; rintro e w' ⟨rfl, rfl⟩)
        | (go_at_call 37; refine (rnth_yes _ _ _ _ _ g1 g2 g3 g4 g5 g6 g7 g8).mono ?_; rintro e w' ⟨rfl, rfl⟩))
      go_ret
      exact ⟨rfl, rfl⟩
    · have G := Lib.hid g; clear g
      go_enter Try.func6, Try.ntmps6
      go_wp2_with (first
        | (go_at_call 15; refine (first_any _).mono ?_; rintro e w' ⟨rfl, rfl⟩)
        | (go_at_call 34; refine (addMonths_no _ _ _ _ H.out).mono ?_; rintro e w' ⟨rfl, rfl⟩)
        | (go_at_call 35; refine (raddMonths_no _ _ _ _ H.out).mono ?_; rintro e w' ⟨rfl, rfl⟩)
        | (go_at_call 36; refine (nth_no _ _ _ _ _ G.out).mono ?_; rintro e w' ⟨rfl, rfl⟩)
        | (go_at_call 37; refine (rnth_no _ _ _ _ _ G.out).mono ?_; rintro e w' ⟨rfl, rfl⟩))
      go_ret
      exact ⟨rfl, rfl⟩
end Go.Proofs.Ytlnilmojpobaiaa.Cv
