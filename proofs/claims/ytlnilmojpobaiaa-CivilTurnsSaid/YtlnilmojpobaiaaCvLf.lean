/- The walks of voklaw1's laws CivilTurns: each returns true at every argument, and changes nothing. -/
import Derived.Test.YtlnilmojpobaiaaCvFirst
import Derived.Test.YtlnilmojpobaiaaCvMath2
import Derived.WalkKit
import Derived.WalkSpells
import Derived.Lib.Hide
import Derived.Test.YtlnilmojpobaiaaCvSpec
namespace Go.Proofs.Ytlnilmojpobaiaa.Cv
open Go.RowKit

set_option maxHeartbeats 8000000 in
theorem civilTurns_walk (n k : Int) (w : World) : Calls Try.prog 9 #[.int .i64 n, .int .i64 k] w fun e w' => e = .returned (.bool true) ∧ w = w' := by
  by_cases h : -719162 ≤ n ∧ n ≤ 2932896 ∧ 0 ≤ k ∧ k ≤ 6
  · obtain ⟨h1, h2, k1, k2⟩ := h
    by_cases l : 2932889 < n
    · go_enter Try.func9, Try.ntmps9
      go_wp2_with (first
        | (go_at_call 15; refine (first_any _).mono ?_; rintro e w' ⟨rfl, rfl⟩)
        | (go_at_call 30; refine (week_yes _ _ _ h1 h2 k1 k2).mono ?_; rintro e w' ⟨rfl, rfl⟩))
      go_ret
      exact ⟨rfl, rfl⟩
    · have l' : n ≤ 2932889 := by omega
      obtain ⟨b1, b2⟩ := wkn_bd n k
      obtain ⟨f1, f2⟩ := fo_bd n k
      have y1 : 0 ≤ wky n k := (yr_bd (fo n k) (by omega) (by omega)).1
      have y2 : wky n k ≤ 9999 := year_top (n := n) (k := k) (by omega) (by omega)
      obtain ⟨d1, d2⟩ := wd_bd n
      rcases wk_on (f := fo n k) with c | c
      · have C7 := Lib.hid (week_7i h1 l' k1 k2 c)
        by_cases s : wd (n + 1) = k
        · have C1 := Lib.hid (week_1g (a := wky n k) (b := wkn n k + 1) h1 l' k1 k2 s ⟨by unfold wky; rw [fo_7]; exact c.1, by unfold wkn; rw [fo_7]; exact c.2⟩)
          rw [wd_1] at s
          have s1 : (wd n + 1) % 7 ≤ k := by omega
          have s2 : k ≤ (wd n + 1) % 7 := by omega
          have S : ((wd n + 1) % 7 != k) = false := by simp [s]
          have E1 : (wkn n k + 1 == wkn n k) = false := by simp; omega
          have E2 : (wky n k + 1 == wky n k) = false := by simp; omega
          clear s
          by_cases z : 1 ≤ wky n k
          · have C := Lib.hid (fun w => weeks_yes (wky n k) k w z y2 k1 k2)
            clear c
            go_enter Try.func9, Try.ntmps9
            go_wp2_with fail
            refine (first_any _).mono ?_
            rintro e w' ⟨rfl, rfl⟩
            go_wp2_with fail
            refine (week_yes _ _ _ h1 h2 k1 k2).mono ?_
            rintro e w' ⟨rfl, rfl⟩
            go_wp2_with fail
            refine (C1.out _).mono ?_
            rintro e w' ⟨rfl, rfl⟩
            go_wp2_with fail
            refine (C7.out _).mono ?_
            rintro e w' ⟨rfl, rfl⟩
            go_wp2_with fail
            refine (weekday_7 _ _).mono ?_
            rintro e w' ⟨rfl, rfl⟩
            go_wp2_with fail
            refine (weekday_any _ _).mono ?_
            rintro e w' ⟨rfl, rfl⟩
            go_wp2_with fail
            refine (weekday_1 _ _).mono ?_
            rintro e w' ⟨rfl, rfl⟩
            go_wp2_with fail
            refine (weekday_any _ _).mono ?_
            rintro e w' ⟨rfl, rfl⟩
            go_wp2_with fail
            refine (weekday_1 _ _).mono ?_
            rintro e w' ⟨rfl, rfl⟩
            go_wp2_with fail
            refine (C.out _).mono ?_
            rintro e w' ⟨rfl, rfl⟩
            go_wp2_with fail
            refine (first_any _).mono ?_
            rintro e w' ⟨rfl, rfl⟩
            go_wp2_with fail
            go_ret
            exact ⟨rfl, rfl⟩
          · have C := Lib.hid (fun w => weeks_no (wky n k) k w (by omega))
            clear c
            go_enter Try.func9, Try.ntmps9
            go_wp2_with fail
            refine (first_any _).mono ?_
            rintro e w' ⟨rfl, rfl⟩
            go_wp2_with fail
            refine (week_yes _ _ _ h1 h2 k1 k2).mono ?_
            rintro e w' ⟨rfl, rfl⟩
            go_wp2_with fail
            refine (C1.out _).mono ?_
            rintro e w' ⟨rfl, rfl⟩
            go_wp2_with fail
            refine (C7.out _).mono ?_
            rintro e w' ⟨rfl, rfl⟩
            go_wp2_with fail
            refine (weekday_7 _ _).mono ?_
            rintro e w' ⟨rfl, rfl⟩
            go_wp2_with fail
            refine (weekday_any _ _).mono ?_
            rintro e w' ⟨rfl, rfl⟩
            go_wp2_with fail
            refine (weekday_1 _ _).mono ?_
            rintro e w' ⟨rfl, rfl⟩
            go_wp2_with fail
            refine (weekday_any _ _).mono ?_
            rintro e w' ⟨rfl, rfl⟩
            go_wp2_with fail
            refine (weekday_1 _ _).mono ?_
            rintro e w' ⟨rfl, rfl⟩
            go_wp2_with fail
            refine (C.out _).mono ?_
            rintro e w' ⟨rfl, rfl⟩
            go_wp2_with fail
            refine (first_any _).mono ?_
            rintro e w' ⟨rfl, rfl⟩
            go_wp2_with fail
            go_ret
            exact ⟨rfl, rfl⟩
        · have C1 := Lib.hid (week_1s h1 l' k1 k2 s)
          rw [wd_1] at s
          have S : ((wd n + 1) % 7 != k) = true := by simp [s]
          have E1 : (wkn n k + 1 == wkn n k) = false := by simp; omega
          have E2 : (wky n k + 1 == wky n k) = false := by simp; omega
          by_cases z : 1 ≤ wky n k
          · have C := Lib.hid (fun w => weeks_yes (wky n k) k w z y2 k1 k2)
            clear c
            go_enter Try.func9, Try.ntmps9
            go_wp2_with fail
            refine (first_any _).mono ?_
            rintro e w' ⟨rfl, rfl⟩
            go_wp2_with fail
            refine (week_yes _ _ _ h1 h2 k1 k2).mono ?_
            rintro e w' ⟨rfl, rfl⟩
            go_wp2_with fail
            refine (C1.out _).mono ?_
            rintro e w' ⟨rfl, rfl⟩
            go_wp2_with fail
            refine (C7.out _).mono ?_
            rintro e w' ⟨rfl, rfl⟩
            go_wp2_with fail
            refine (weekday_7 _ _).mono ?_
            rintro e w' ⟨rfl, rfl⟩
            go_wp2_with fail
            refine (weekday_any _ _).mono ?_
            rintro e w' ⟨rfl, rfl⟩
            go_wp2_with fail
            refine (weekday_1 _ _).mono ?_
            rintro e w' ⟨rfl, rfl⟩
            go_wp2_with fail
            refine (weekday_any _ _).mono ?_
            rintro e w' ⟨rfl, rfl⟩
            go_wp2_with fail
            refine (weekday_1 _ _).mono ?_
            rintro e w' ⟨rfl, rfl⟩
            go_wp2_with fail
            refine (C.out _).mono ?_
            rintro e w' ⟨rfl, rfl⟩
            go_wp2_with fail
            refine (first_any _).mono ?_
            rintro e w' ⟨rfl, rfl⟩
            go_wp2_with fail
            go_ret
            exact ⟨rfl, rfl⟩
          · have C := Lib.hid (fun w => weeks_no (wky n k) k w (by omega))
            clear c
            go_enter Try.func9, Try.ntmps9
            go_wp2_with fail
            refine (first_any _).mono ?_
            rintro e w' ⟨rfl, rfl⟩
            go_wp2_with fail
            refine (week_yes _ _ _ h1 h2 k1 k2).mono ?_
            rintro e w' ⟨rfl, rfl⟩
            go_wp2_with fail
            refine (C1.out _).mono ?_
            rintro e w' ⟨rfl, rfl⟩
            go_wp2_with fail
            refine (C7.out _).mono ?_
            rintro e w' ⟨rfl, rfl⟩
            go_wp2_with fail
            refine (weekday_7 _ _).mono ?_
            rintro e w' ⟨rfl, rfl⟩
            go_wp2_with fail
            refine (weekday_any _ _).mono ?_
            rintro e w' ⟨rfl, rfl⟩
            go_wp2_with fail
            refine (weekday_1 _ _).mono ?_
            rintro e w' ⟨rfl, rfl⟩
            go_wp2_with fail
            refine (weekday_any _ _).mono ?_
            rintro e w' ⟨rfl, rfl⟩
            go_wp2_with fail
            refine (weekday_1 _ _).mono ?_
            rintro e w' ⟨rfl, rfl⟩
            go_wp2_with fail
            refine (C.out _).mono ?_
            rintro e w' ⟨rfl, rfl⟩
            go_wp2_with fail
            refine (first_any _).mono ?_
            rintro e w' ⟨rfl, rfl⟩
            go_wp2_with fail
            go_ret
            exact ⟨rfl, rfl⟩
      · have C7 := Lib.hid (week_7j h1 l' k1 k2 ⟨c.1, c.2.1⟩)
        by_cases s : wd (n + 1) = k
        · have C1 := Lib.hid (week_1g (a := wky n k + 1) (b := 1) h1 l' k1 k2 s ⟨by unfold wky; rw [fo_7]; exact c.1, by unfold wkn; rw [fo_7]; exact c.2.1⟩)
          rw [wd_1] at s
          have s1 : (wd n + 1) % 7 ≤ k := by omega
          have s2 : k ≤ (wd n + 1) % 7 := by omega
          have S : ((wd n + 1) % 7 != k) = false := by simp [s]
          have E1 : (wkn n k + 1 == wkn n k) = false := by simp; omega
          have E2 : (wky n k + 1 == wky n k) = false := by simp; omega
          clear s
          by_cases z : 1 ≤ wky n k
          · have C := Lib.hid (weeks_last k1 k2 z y2 c.2.2.2)
            clear c
            go_enter Try.func9, Try.ntmps9
            go_wp2_with fail
            refine (first_any _).mono ?_
            rintro e w' ⟨rfl, rfl⟩
            go_wp2_with fail
            refine (week_yes _ _ _ h1 h2 k1 k2).mono ?_
            rintro e w' ⟨rfl, rfl⟩
            go_wp2_with fail
            refine (C1.out _).mono ?_
            rintro e w' ⟨rfl, rfl⟩
            go_wp2_with fail
            refine (C7.out _).mono ?_
            rintro e w' ⟨rfl, rfl⟩
            go_wp2_with fail
            refine (weekday_7 _ _).mono ?_
            rintro e w' ⟨rfl, rfl⟩
            go_wp2_with fail
            refine (weekday_any _ _).mono ?_
            rintro e w' ⟨rfl, rfl⟩
            go_wp2_with fail
            refine (weekday_1 _ _).mono ?_
            rintro e w' ⟨rfl, rfl⟩
            go_wp2_with fail
            refine (weekday_any _ _).mono ?_
            rintro e w' ⟨rfl, rfl⟩
            go_wp2_with fail
            refine (weekday_1 _ _).mono ?_
            rintro e w' ⟨rfl, rfl⟩
            go_wp2_with fail
            refine (C.out _).mono ?_
            rintro e w' ⟨rfl, rfl⟩
            go_wp2_with fail
            refine (first_any _).mono ?_
            rintro e w' ⟨rfl, rfl⟩
            go_wp2_with fail
            go_ret
            exact ⟨rfl, rfl⟩
          · have C := Lib.hid (fun w => weeks_no (wky n k) k w (by omega))
            clear c
            go_enter Try.func9, Try.ntmps9
            go_wp2_with fail
            refine (first_any _).mono ?_
            rintro e w' ⟨rfl, rfl⟩
            go_wp2_with fail
            refine (week_yes _ _ _ h1 h2 k1 k2).mono ?_
            rintro e w' ⟨rfl, rfl⟩
            go_wp2_with fail
            refine (C1.out _).mono ?_
            rintro e w' ⟨rfl, rfl⟩
            go_wp2_with fail
            refine (C7.out _).mono ?_
            rintro e w' ⟨rfl, rfl⟩
            go_wp2_with fail
            refine (weekday_7 _ _).mono ?_
            rintro e w' ⟨rfl, rfl⟩
            go_wp2_with fail
            refine (weekday_any _ _).mono ?_
            rintro e w' ⟨rfl, rfl⟩
            go_wp2_with fail
            refine (weekday_1 _ _).mono ?_
            rintro e w' ⟨rfl, rfl⟩
            go_wp2_with fail
            refine (weekday_any _ _).mono ?_
            rintro e w' ⟨rfl, rfl⟩
            go_wp2_with fail
            refine (weekday_1 _ _).mono ?_
            rintro e w' ⟨rfl, rfl⟩
            go_wp2_with fail
            refine (C.out _).mono ?_
            rintro e w' ⟨rfl, rfl⟩
            go_wp2_with fail
            refine (first_any _).mono ?_
            rintro e w' ⟨rfl, rfl⟩
            go_wp2_with fail
            go_ret
            exact ⟨rfl, rfl⟩
        · have C1 := Lib.hid (week_1s h1 l' k1 k2 s)
          rw [wd_1] at s
          have S : ((wd n + 1) % 7 != k) = true := by simp [s]
          have E1 : (wkn n k + 1 == wkn n k) = false := by simp; omega
          have E2 : (wky n k + 1 == wky n k) = false := by simp; omega
          by_cases z : 1 ≤ wky n k
          · have C := Lib.hid (weeks_last k1 k2 z y2 c.2.2.2)
            clear c
            go_enter Try.func9, Try.ntmps9
            go_wp2_with fail
            refine (first_any _).mono ?_
            rintro e w' ⟨rfl, rfl⟩
            go_wp2_with fail
            refine (week_yes _ _ _ h1 h2 k1 k2).mono ?_
            rintro e w' ⟨rfl, rfl⟩
            go_wp2_with fail
            refine (C1.out _).mono ?_
            rintro e w' ⟨rfl, rfl⟩
            go_wp2_with fail
            refine (C7.out _).mono ?_
            rintro e w' ⟨rfl, rfl⟩
            go_wp2_with fail
            refine (weekday_7 _ _).mono ?_
            rintro e w' ⟨rfl, rfl⟩
            go_wp2_with fail
            refine (weekday_any _ _).mono ?_
            rintro e w' ⟨rfl, rfl⟩
            go_wp2_with fail
            refine (weekday_1 _ _).mono ?_
            rintro e w' ⟨rfl, rfl⟩
            go_wp2_with fail
            refine (weekday_any _ _).mono ?_
            rintro e w' ⟨rfl, rfl⟩
            go_wp2_with fail
            refine (weekday_1 _ _).mono ?_
            rintro e w' ⟨rfl, rfl⟩
            go_wp2_with fail
            refine (C.out _).mono ?_
            rintro e w' ⟨rfl, rfl⟩
            go_wp2_with fail
            refine (first_any _).mono ?_
            rintro e w' ⟨rfl, rfl⟩
            go_wp2_with fail
            go_ret
            exact ⟨rfl, rfl⟩
          · have C := Lib.hid (fun w => weeks_no (wky n k) k w (by omega))
            clear c
            go_enter Try.func9, Try.ntmps9
            go_wp2_with fail
            refine (first_any _).mono ?_
            rintro e w' ⟨rfl, rfl⟩
            go_wp2_with fail
            refine (week_yes _ _ _ h1 h2 k1 k2).mono ?_
            rintro e w' ⟨rfl, rfl⟩
            go_wp2_with fail
            refine (C1.out _).mono ?_
            rintro e w' ⟨rfl, rfl⟩
            go_wp2_with fail
            refine (C7.out _).mono ?_
            rintro e w' ⟨rfl, rfl⟩
            go_wp2_with fail
            refine (weekday_7 _ _).mono ?_
            rintro e w' ⟨rfl, rfl⟩
            go_wp2_with fail
            refine (weekday_any _ _).mono ?_
            rintro e w' ⟨rfl, rfl⟩
            go_wp2_with fail
            refine (weekday_1 _ _).mono ?_
            rintro e w' ⟨rfl, rfl⟩
            go_wp2_with fail
            refine (weekday_any _ _).mono ?_
            rintro e w' ⟨rfl, rfl⟩
            go_wp2_with fail
            refine (weekday_1 _ _).mono ?_
            rintro e w' ⟨rfl, rfl⟩
            go_wp2_with fail
            refine (C.out _).mono ?_
            rintro e w' ⟨rfl, rfl⟩
            go_wp2_with fail
            refine (first_any _).mono ?_
            rintro e w' ⟨rfl, rfl⟩
            go_wp2_with fail
            go_ret
            exact ⟨rfl, rfl⟩
  · have H := Lib.hid h; clear h
    go_enter Try.func9, Try.ntmps9
    go_wp2_with (first
      | (go_at_call 15; refine (first_any _).mono ?_; rintro e w' ⟨rfl, rfl⟩)
      | (go_at_call 30; refine (week_no _ _ _ H.out).mono ?_; rintro e w' ⟨rfl, rfl⟩))
    go_ret
    exact ⟨rfl, rfl⟩
end Go.Proofs.Ytlnilmojpobaiaa.Cv
