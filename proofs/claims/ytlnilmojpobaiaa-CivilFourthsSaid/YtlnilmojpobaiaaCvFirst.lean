/- The walk of voklaw1.first: the chapter's examples hold; it returns true at every world and changes nothing. -/
import Derived.Test.YtlnilmojpobaiaaCvWalkB
import Derived.Test.YtlnilmojpobaiaaCvWalkS
import Derived.WalkKit
import Derived.WalkSpells
import Derived.Lib.Hide
namespace Go.Proofs.Ytlnilmojpobaiaa.Cv
open Go.RowKit

theorem c1_days (w : World) : Calls Try.prog 16 #[.int .i64 2000, .int .i64 3, .int .i64 1] w fun e w' => e = .returned (.tuple #[.int .i64 11017, .int .i64 0]) ∧ w = w' :=
  days_yes 2000 3 1 w (by decide)
theorem c2_days (w : World) : Calls Try.prog 16 #[.int .i64 1, .int .i64 1, .int .i64 1] w fun e w' => e = .returned (.tuple #[.int .i64 (-719162), .int .i64 0]) ∧ w = w' :=
  days_yes 1 1 1 w (by decide)
theorem c3_days (w : World) : Calls Try.prog 16 #[.int .i64 9999, .int .i64 12, .int .i64 31] w fun e w' => e = .returned (.tuple #[.int .i64 2932896, .int .i64 0]) ∧ w = w' :=
  days_yes 9999 12 31 w (by decide)
theorem c4_days (w : World) : Calls Try.prog 16 #[.int .i64 2021, .int .i64 1, .int .i64 3] w fun e w' => e = .returned (.tuple #[.int .i64 18630, .int .i64 0]) ∧ w = w' :=
  days_yes 2021 1 3 w (by decide)
theorem c5_week (w : World) : Calls Try.prog 30 #[.int .i64 18630, .int .i64 0] w fun e w' => e = .returned (.tuple #[.int .i64 2020, .int .i64 53, .int .i64 0]) ∧ w = w' :=
  week_yes 18630 0 w (by decide) (by decide) (by decide) (by decide)
theorem c6_nth (w : World) : Calls Try.prog 36 #[.int .i64 2026, .int .i64 3, .int .i64 5, .int .i64 6] w fun e w' => e = .returned (.tuple #[.int .i64 29, .int .i64 0]) ∧ w = w' :=
  nth_yes 2026 3 5 6 w (by decide) (by decide) (by decide) (by decide) (by decide) (by decide) (by decide) (by decide)
theorem c7_weekday (w : World) : Calls Try.prog 28 #[.int .i64 0] w fun e w' => e = .returned (.int .i64 3) ∧ w = w' :=
  weekday_any 0 w
theorem first_any (w : World) : Calls Try.prog 15 #[] w fun e w' => e = .returned (.bool true) ∧ w = w' := by
  go_enter Try.func15, Try.ntmps15
  go_wp2_with fail
  refine (c1_days _).mono ?_
  rintro e w' ⟨rfl, rfl⟩
  go_wp2_with fail
  refine (c2_days _).mono ?_
  rintro e w' ⟨rfl, rfl⟩
  go_wp2_with fail
  refine (c3_days _).mono ?_
  rintro e w' ⟨rfl, rfl⟩
  go_wp2_with fail
  refine (c4_days _).mono ?_
  rintro e w' ⟨rfl, rfl⟩
  go_wp2_with (first
    | (go_at_call 30; refine (c5_week _).mono ?_; rintro e w' ⟨rfl, rfl⟩)
    | (go_at_call 36; refine (c6_nth _).mono ?_; rintro e w' ⟨rfl, rfl⟩)
    | (go_at_call 28; refine (c7_weekday _).mono ?_; rintro e w' ⟨rfl, rfl⟩))
  go_ret
  exact ⟨rfl, rfl⟩
end Go.Proofs.Ytlnilmojpobaiaa.Cv
