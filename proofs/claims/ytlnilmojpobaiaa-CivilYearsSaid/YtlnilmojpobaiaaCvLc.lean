/- The walks of voklaw1's laws CivilYears: each returns true at every argument, and changes nothing. -/
import Derived.Test.YtlnilmojpobaiaaCvFirst
import Derived.Test.YtlnilmojpobaiaaCvMath2
import Derived.WalkKit
import Derived.WalkSpells
import Derived.Lib.Hide
import Derived.Test.YtlnilmojpobaiaaCvSpec
namespace Go.Proofs.Ytlnilmojpobaiaa.Cv
open Go.RowKit

theorem civilYears_walk (n : Int) (w : World) : Calls Try.prog 14 #[.int .i64 n] w fun e w' => e = .returned (.bool true) ∧ w = w' := by
  by_cases h : -719162 ≤ n ∧ n ≤ 2932896
  · obtain ⟨h1, h2⟩ := h
    obtain ⟨a1, a2⟩ := yr_day n h1 h2
    obtain ⟨b1, b2⟩ := in_year n
    obtain ⟨c1, c2⟩ := ny_bd (yr n) (by omega) (by omega)
    obtain ⟨d1, d2⟩ := ny_bd (yr n + 1) (by omega) (by omega)
    obtain ⟨l1, l2⟩ := lp_01 (yr n)
    have e2 := (yr_spec n).2
    have Y := Lib.hid (ny_mono 1 (yr n) a1)
    have Z := Lib.hid (ny_mono (yr n + 1) 10000 (by omega))
    have V := Lib.hid (yearDay_lastday a1 a2)
    go_enter Try.func14, Try.ntmps14
    go_wp2_with fail
    refine (first_any _).mono ?_
    rintro e w' ⟨rfl, rfl⟩
    go_wp2_with fail
    refine (yearDay_yes _ _ h1 h2).mono ?_
    rintro e w' ⟨rfl, rfl⟩
    go_wp2_with fail
    refine (days_new _ a1 a2).mono ?_
    rintro e w' ⟨rfl, rfl⟩
    go_wp2_with fail
    refine (days_last _ a1 a2).mono ?_
    rintro e w' ⟨rfl, rfl⟩
    go_wp2_with fail
    refine (V.out _).mono ?_
    rintro e w' ⟨rfl, rfl⟩
    go_wp2_with fail
    refine (first_any _).mono ?_
    rintro e w' ⟨rfl, rfl⟩
    go_wp2_with fail
    go_ret
    exact ⟨rfl, rfl⟩
  · have H := Lib.hid h; clear h
    go_enter Try.func14, Try.ntmps14
    go_wp2_with (first
      | (go_at_call 15; refine (first_any _).mono ?_; rintro e w' ⟨rfl, rfl⟩)
      | (go_at_call 26; refine (yearDay_no _ _ H.out).mono ?_; rintro e w' ⟨rfl, rfl⟩)
      | (go_at_call 24; refine (date_no _ _ H.out).mono ?_; rintro e w' ⟨rfl, rfl⟩))
    go_ret
    exact ⟨rfl, rfl⟩
end Go.Proofs.Ytlnilmojpobaiaa.Cv
