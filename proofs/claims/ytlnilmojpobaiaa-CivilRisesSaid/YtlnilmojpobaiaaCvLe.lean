/- The walks of voklaw1's laws CivilRises: each returns true at every argument, and changes nothing. -/
import Derived.Test.YtlnilmojpobaiaaCvFirst
import Derived.Test.YtlnilmojpobaiaaCvMath2
import Derived.WalkKit
import Derived.WalkSpells
import Derived.Lib.Hide
import Derived.Test.YtlnilmojpobaiaaCvSpec
namespace Go.Proofs.Ytlnilmojpobaiaa.Cv
open Go.RowKit

set_option maxHeartbeats 8000000 in
theorem civilRises_walk (y m d a b c : Int) (w : World) : Calls Try.prog 8 #[.int .i64 y, .int .i64 m, .int .i64 d, .int .i64 a, .int .i64 b, .int .i64 c] w fun e w' => e = .returned (.bool true) ∧ w = w' := by
  by_cases h : valid y m d = true
  · by_cases g : valid a b c = true
    · obtain ⟨v1, v2, _, _, _, _⟩ := valid_bits h
      obtain ⟨b1, b2⟩ := num_bd h
      obtain ⟨c1, c2⟩ := num_bd g
      obtain ⟨q1, q2⟩ := ny_bd (y + 1) (by omega) (by omega)
      obtain ⟨q3, q4⟩ := ny_bd y (by omega) (by omega)
      have s := ny_succ y
      have H := Lib.hid h
      have G := Lib.hid g
      by_cases lq : leap y = true
      · have LQ := Lib.hid lq
        have s1 : ny y + 366 ≤ ny (y + 1) := by unfold lp at s; rw [if_pos lq] at s; omega
        have s2 : ny (y + 1) ≤ ny y + 366 := by unfold lp at s; rw [if_pos lq] at s; omega
        clear lq s
        by_cases y1 : a < y
        · have r := rise_y h g y1
          clear h g
          go_enter Try.func8, Try.ntmps8
          go_wp2_with fail
          refine (first_any _).mono ?_
          rintro e w' ⟨rfl, rfl⟩
          go_wp2_with fail
          refine (days_yes _ _ _ _ H.out).mono ?_
          rintro e w' ⟨rfl, rfl⟩
          go_wp2_with fail
          refine (days_yes _ _ _ _ G.out).mono ?_
          rintro e w' ⟨rfl, rfl⟩
          go_wp2_with fail
          refine (days_new _ v1 v2).mono ?_
          rintro e w' ⟨rfl, rfl⟩
          go_wp2_with fail
          refine (days_last _ v1 v2).mono ?_
          rintro e w' ⟨rfl, rfl⟩
          go_wp2_with (first
            | (go_at_call 18; refine (leap_yes _ _ LQ.out).mono ?_; rintro e w' ⟨rfl, rfl⟩)
            | (go_at_call 15; refine (first_any _).mono ?_; rintro e w' ⟨rfl, rfl⟩))
          go_ret
          first
            | exact ⟨rfl, rfl⟩
            | exact ⟨ret_bool (by simp; omega), rfl⟩
        · by_cases y2 : y < a
          · have r := rise_y g h y2
            clear h g
            go_enter Try.func8, Try.ntmps8
            go_wp2_with fail
            refine (first_any _).mono ?_
            rintro e w' ⟨rfl, rfl⟩
            go_wp2_with fail
            refine (days_yes _ _ _ _ H.out).mono ?_
            rintro e w' ⟨rfl, rfl⟩
            go_wp2_with fail
            refine (days_yes _ _ _ _ G.out).mono ?_
            rintro e w' ⟨rfl, rfl⟩
            go_wp2_with fail
            refine (days_new _ v1 v2).mono ?_
            rintro e w' ⟨rfl, rfl⟩
            go_wp2_with fail
            refine (days_last _ v1 v2).mono ?_
            rintro e w' ⟨rfl, rfl⟩
            go_wp2_with (first
              | (go_at_call 18; refine (leap_yes _ _ LQ.out).mono ?_; rintro e w' ⟨rfl, rfl⟩)
              | (go_at_call 15; refine (first_any _).mono ?_; rintro e w' ⟨rfl, rfl⟩))
            go_ret
            first
              | exact ⟨rfl, rfl⟩
              | exact ⟨ret_bool (by simp; omega), rfl⟩
          · obtain rfl : y = a := by omega
            clear y1 y2
            by_cases m1 : b < m
            · have r := rise_m h g m1
              clear h g
              go_enter Try.func8, Try.ntmps8
              go_wp2_with fail
              refine (first_any _).mono ?_
              rintro e w' ⟨rfl, rfl⟩
              go_wp2_with fail
              refine (days_yes _ _ _ _ H.out).mono ?_
              rintro e w' ⟨rfl, rfl⟩
              go_wp2_with fail
              refine (days_yes _ _ _ _ G.out).mono ?_
              rintro e w' ⟨rfl, rfl⟩
              go_wp2_with fail
              refine (days_new _ v1 v2).mono ?_
              rintro e w' ⟨rfl, rfl⟩
              go_wp2_with fail
              refine (days_last _ v1 v2).mono ?_
              rintro e w' ⟨rfl, rfl⟩
              go_wp2_with (first
                | (go_at_call 18; refine (leap_yes _ _ LQ.out).mono ?_; rintro e w' ⟨rfl, rfl⟩)
                | (go_at_call 15; refine (first_any _).mono ?_; rintro e w' ⟨rfl, rfl⟩))
              go_ret
              first
                | exact ⟨rfl, rfl⟩
                | exact ⟨ret_bool (by simp; omega), rfl⟩
            · by_cases m2 : m < b
              · have r := rise_m g h m2
                clear h g
                go_enter Try.func8, Try.ntmps8
                go_wp2_with fail
                refine (first_any _).mono ?_
                rintro e w' ⟨rfl, rfl⟩
                go_wp2_with fail
                refine (days_yes _ _ _ _ H.out).mono ?_
                rintro e w' ⟨rfl, rfl⟩
                go_wp2_with fail
                refine (days_yes _ _ _ _ G.out).mono ?_
                rintro e w' ⟨rfl, rfl⟩
                go_wp2_with fail
                refine (days_new _ v1 v2).mono ?_
                rintro e w' ⟨rfl, rfl⟩
                go_wp2_with fail
                refine (days_last _ v1 v2).mono ?_
                rintro e w' ⟨rfl, rfl⟩
                go_wp2_with (first
                  | (go_at_call 18; refine (leap_yes _ _ LQ.out).mono ?_; rintro e w' ⟨rfl, rfl⟩)
                  | (go_at_call 15; refine (first_any _).mono ?_; rintro e w' ⟨rfl, rfl⟩))
                go_ret
                first
                  | exact ⟨rfl, rfl⟩
                  | exact ⟨ret_bool (by simp; omega), rfl⟩
              · obtain rfl : m = b := by omega
                clear m1 m2
                by_cases d1 : c < d
                · have r := rise_d (y := y) (m := m) d1
                  have E1 : (num y m d == num y m c) = false := by simp; omega
                  have E2 : (d == c) = false := by simp; omega
                  clear h g
                  go_enter Try.func8, Try.ntmps8
                  go_wp2_with fail
                  refine (first_any _).mono ?_
                  rintro e w' ⟨rfl, rfl⟩
                  go_wp2_with fail
                  refine (days_yes _ _ _ _ H.out).mono ?_
                  rintro e w' ⟨rfl, rfl⟩
                  go_wp2_with fail
                  refine (days_yes _ _ _ _ G.out).mono ?_
                  rintro e w' ⟨rfl, rfl⟩
                  go_wp2_with fail
                  refine (days_new _ v1 v2).mono ?_
                  rintro e w' ⟨rfl, rfl⟩
                  go_wp2_with fail
                  refine (days_last _ v1 v2).mono ?_
                  rintro e w' ⟨rfl, rfl⟩
                  go_wp2_with (first
                    | (go_at_call 18; refine (leap_yes _ _ LQ.out).mono ?_; rintro e w' ⟨rfl, rfl⟩)
                    | (go_at_call 15; refine (first_any _).mono ?_; rintro e w' ⟨rfl, rfl⟩))
                  go_ret
                  first
                    | exact ⟨rfl, rfl⟩
                    | exact ⟨ret_bool (by simp; omega), rfl⟩
                · by_cases d2 : d < c
                  · have r := rise_d (y := y) (m := m) d2
                    have E1 : (num y m d == num y m c) = false := by simp; omega
                    have E2 : (d == c) = false := by simp; omega
                    clear h g
                    go_enter Try.func8, Try.ntmps8
                    go_wp2_with fail
                    refine (first_any _).mono ?_
                    rintro e w' ⟨rfl, rfl⟩
                    go_wp2_with fail
                    refine (days_yes _ _ _ _ H.out).mono ?_
                    rintro e w' ⟨rfl, rfl⟩
                    go_wp2_with fail
                    refine (days_yes _ _ _ _ G.out).mono ?_
                    rintro e w' ⟨rfl, rfl⟩
                    go_wp2_with fail
                    refine (days_new _ v1 v2).mono ?_
                    rintro e w' ⟨rfl, rfl⟩
                    go_wp2_with fail
                    refine (days_last _ v1 v2).mono ?_
                    rintro e w' ⟨rfl, rfl⟩
                    go_wp2_with (first
                      | (go_at_call 18; refine (leap_yes _ _ LQ.out).mono ?_; rintro e w' ⟨rfl, rfl⟩)
                      | (go_at_call 15; refine (first_any _).mono ?_; rintro e w' ⟨rfl, rfl⟩))
                    go_ret
                    first
                      | exact ⟨rfl, rfl⟩
                      | exact ⟨ret_bool (by simp; omega), rfl⟩
                  · obtain rfl : d = c := by omega
                    clear d1 d2 h g
                    go_enter Try.func8, Try.ntmps8
                    go_wp2_with fail
                    refine (first_any _).mono ?_
                    rintro e w' ⟨rfl, rfl⟩
                    go_wp2_with fail
                    refine (days_yes _ _ _ _ H.out).mono ?_
                    rintro e w' ⟨rfl, rfl⟩
                    go_wp2_with fail
                    refine (days_yes _ _ _ _ G.out).mono ?_
                    rintro e w' ⟨rfl, rfl⟩
                    go_wp2_with fail
                    refine (days_new _ v1 v2).mono ?_
                    rintro e w' ⟨rfl, rfl⟩
                    go_wp2_with fail
                    refine (days_last _ v1 v2).mono ?_
                    rintro e w' ⟨rfl, rfl⟩
                    go_wp2_with (first
                      | (go_at_call 18; refine (leap_yes _ _ LQ.out).mono ?_; rintro e w' ⟨rfl, rfl⟩)
                      | (go_at_call 15; refine (first_any _).mono ?_; rintro e w' ⟨rfl, rfl⟩))
                    go_ret
                    first
                      | exact ⟨rfl, rfl⟩
                      | exact ⟨ret_bool (by simp; omega), rfl⟩
      · have LQ := Lib.hid (show leap y = false by simpa using lq)
        have s1 : ny y + 365 ≤ ny (y + 1) := by unfold lp at s; rw [if_neg lq] at s; omega
        have s2 : ny (y + 1) ≤ ny y + 365 := by unfold lp at s; rw [if_neg lq] at s; omega
        clear lq s
        by_cases y1 : a < y
        · have r := rise_y h g y1
          clear h g
          go_enter Try.func8, Try.ntmps8
          go_wp2_with fail
          refine (first_any _).mono ?_
          rintro e w' ⟨rfl, rfl⟩
          go_wp2_with fail
          refine (days_yes _ _ _ _ H.out).mono ?_
          rintro e w' ⟨rfl, rfl⟩
          go_wp2_with fail
          refine (days_yes _ _ _ _ G.out).mono ?_
          rintro e w' ⟨rfl, rfl⟩
          go_wp2_with fail
          refine (days_new _ v1 v2).mono ?_
          rintro e w' ⟨rfl, rfl⟩
          go_wp2_with fail
          refine (days_last _ v1 v2).mono ?_
          rintro e w' ⟨rfl, rfl⟩
          go_wp2_with (first
            | (go_at_call 18; refine (leap_no _ _ LQ.out).mono ?_; rintro e w' ⟨rfl, rfl⟩)
            | (go_at_call 15; refine (first_any _).mono ?_; rintro e w' ⟨rfl, rfl⟩))
          go_ret
          first
            | exact ⟨rfl, rfl⟩
            | exact ⟨ret_bool (by simp; omega), rfl⟩
        · by_cases y2 : y < a
          · have r := rise_y g h y2
            clear h g
            go_enter Try.func8, Try.ntmps8
            go_wp2_with fail
            refine (first_any _).mono ?_
            rintro e w' ⟨rfl, rfl⟩
            go_wp2_with fail
            refine (days_yes _ _ _ _ H.out).mono ?_
            rintro e w' ⟨rfl, rfl⟩
            go_wp2_with fail
            refine (days_yes _ _ _ _ G.out).mono ?_
            rintro e w' ⟨rfl, rfl⟩
            go_wp2_with fail
            refine (days_new _ v1 v2).mono ?_
            rintro e w' ⟨rfl, rfl⟩
            go_wp2_with fail
            refine (days_last _ v1 v2).mono ?_
            rintro e w' ⟨rfl, rfl⟩
            go_wp2_with (first
              | (go_at_call 18; refine (leap_no _ _ LQ.out).mono ?_; rintro e w' ⟨rfl, rfl⟩)
              | (go_at_call 15; refine (first_any _).mono ?_; rintro e w' ⟨rfl, rfl⟩))
            go_ret
            first
              | exact ⟨rfl, rfl⟩
              | exact ⟨ret_bool (by simp; omega), rfl⟩
          · obtain rfl : y = a := by omega
            clear y1 y2
            by_cases m1 : b < m
            · have r := rise_m h g m1
              clear h g
              go_enter Try.func8, Try.ntmps8
              go_wp2_with fail
              refine (first_any _).mono ?_
              rintro e w' ⟨rfl, rfl⟩
              go_wp2_with fail
              refine (days_yes _ _ _ _ H.out).mono ?_
              rintro e w' ⟨rfl, rfl⟩
              go_wp2_with fail
              refine (days_yes _ _ _ _ G.out).mono ?_
              rintro e w' ⟨rfl, rfl⟩
              go_wp2_with fail
              refine (days_new _ v1 v2).mono ?_
              rintro e w' ⟨rfl, rfl⟩
              go_wp2_with fail
              refine (days_last _ v1 v2).mono ?_
              rintro e w' ⟨rfl, rfl⟩
              go_wp2_with (first
                | (go_at_call 18; refine (leap_no _ _ LQ.out).mono ?_; rintro e w' ⟨rfl, rfl⟩)
                | (go_at_call 15; refine (first_any _).mono ?_; rintro e w' ⟨rfl, rfl⟩))
              go_ret
              first
                | exact ⟨rfl, rfl⟩
                | exact ⟨ret_bool (by simp; omega), rfl⟩
            · by_cases m2 : m < b
              · have r := rise_m g h m2
                clear h g
                go_enter Try.func8, Try.ntmps8
                go_wp2_with fail
                refine (first_any _).mono ?_
                rintro e w' ⟨rfl, rfl⟩
                go_wp2_with fail
                refine (days_yes _ _ _ _ H.out).mono ?_
                rintro e w' ⟨rfl, rfl⟩
                go_wp2_with fail
                refine (days_yes _ _ _ _ G.out).mono ?_
                rintro e w' ⟨rfl, rfl⟩
                go_wp2_with fail
                refine (days_new _ v1 v2).mono ?_
                rintro e w' ⟨rfl, rfl⟩
                go_wp2_with fail
                refine (days_last _ v1 v2).mono ?_
                rintro e w' ⟨rfl, rfl⟩
                go_wp2_with (first
                  | (go_at_call 18; refine (leap_no _ _ LQ.out).mono ?_; rintro e w' ⟨rfl, rfl⟩)
                  | (go_at_call 15; refine (first_any _).mono ?_; rintro e w' ⟨rfl, rfl⟩))
                go_ret
                first
                  | exact ⟨rfl, rfl⟩
                  | exact ⟨ret_bool (by simp; omega), rfl⟩
              · obtain rfl : m = b := by omega
                clear m1 m2
                by_cases d1 : c < d
                · have r := rise_d (y := y) (m := m) d1
                  have E1 : (num y m d == num y m c) = false := by simp; omega
                  have E2 : (d == c) = false := by simp; omega
                  clear h g
                  go_enter Try.func8, Try.ntmps8
                  go_wp2_with fail
                  refine (first_any _).mono ?_
                  rintro e w' ⟨rfl, rfl⟩
                  go_wp2_with fail
                  refine (days_yes _ _ _ _ H.out).mono ?_
                  rintro e w' ⟨rfl, rfl⟩
                  go_wp2_with fail
                  refine (days_yes _ _ _ _ G.out).mono ?_
                  rintro e w' ⟨rfl, rfl⟩
                  go_wp2_with fail
                  refine (days_new _ v1 v2).mono ?_
                  rintro e w' ⟨rfl, rfl⟩
                  go_wp2_with fail
                  refine (days_last _ v1 v2).mono ?_
                  rintro e w' ⟨rfl, rfl⟩
                  go_wp2_with (first
                    | (go_at_call 18; refine (leap_no _ _ LQ.out).mono ?_; rintro e w' ⟨rfl, rfl⟩)
                    | (go_at_call 15; refine (first_any _).mono ?_; rintro e w' ⟨rfl, rfl⟩))
                  go_ret
                  first
                    | exact ⟨rfl, rfl⟩
                    | exact ⟨ret_bool (by simp; omega), rfl⟩
                · by_cases d2 : d < c
                  · have r := rise_d (y := y) (m := m) d2
                    have E1 : (num y m d == num y m c) = false := by simp; omega
                    have E2 : (d == c) = false := by simp; omega
                    clear h g
                    go_enter Try.func8, Try.ntmps8
                    go_wp2_with fail
                    refine (first_any _).mono ?_
                    rintro e w' ⟨rfl, rfl⟩
                    go_wp2_with fail
                    refine (days_yes _ _ _ _ H.out).mono ?_
                    rintro e w' ⟨rfl, rfl⟩
                    go_wp2_with fail
                    refine (days_yes _ _ _ _ G.out).mono ?_
                    rintro e w' ⟨rfl, rfl⟩
                    go_wp2_with fail
                    refine (days_new _ v1 v2).mono ?_
                    rintro e w' ⟨rfl, rfl⟩
                    go_wp2_with fail
                    refine (days_last _ v1 v2).mono ?_
                    rintro e w' ⟨rfl, rfl⟩
                    go_wp2_with (first
                      | (go_at_call 18; refine (leap_no _ _ LQ.out).mono ?_; rintro e w' ⟨rfl, rfl⟩)
                      | (go_at_call 15; refine (first_any _).mono ?_; rintro e w' ⟨rfl, rfl⟩))
                    go_ret
                    first
                      | exact ⟨rfl, rfl⟩
                      | exact ⟨ret_bool (by simp; omega), rfl⟩
                  · obtain rfl : d = c := by omega
                    clear d1 d2 h g
                    go_enter Try.func8, Try.ntmps8
                    go_wp2_with fail
                    refine (first_any _).mono ?_
                    rintro e w' ⟨rfl, rfl⟩
                    go_wp2_with fail
                    refine (days_yes _ _ _ _ H.out).mono ?_
                    rintro e w' ⟨rfl, rfl⟩
                    go_wp2_with fail
                    refine (days_yes _ _ _ _ G.out).mono ?_
                    rintro e w' ⟨rfl, rfl⟩
                    go_wp2_with fail
                    refine (days_new _ v1 v2).mono ?_
                    rintro e w' ⟨rfl, rfl⟩
                    go_wp2_with fail
                    refine (days_last _ v1 v2).mono ?_
                    rintro e w' ⟨rfl, rfl⟩
                    go_wp2_with (first
                      | (go_at_call 18; refine (leap_no _ _ LQ.out).mono ?_; rintro e w' ⟨rfl, rfl⟩)
                      | (go_at_call 15; refine (first_any _).mono ?_; rintro e w' ⟨rfl, rfl⟩))
                    go_ret
                    first
                      | exact ⟨rfl, rfl⟩
                      | exact ⟨ret_bool (by simp; omega), rfl⟩
    · rw [Bool.not_eq_true] at g
      have H := Lib.hid h; clear h
      have G := Lib.hid g; clear g
      go_enter Try.func8, Try.ntmps8
      go_wp2_with fail
      refine (first_any _).mono ?_
      rintro e w' ⟨rfl, rfl⟩
      go_wp2_with fail
      refine (days_yes _ _ _ _ H.out).mono ?_
      rintro e w' ⟨rfl, rfl⟩
      go_wp2_with fail
      refine (days_no _ _ _ _ G.out).mono ?_
      rintro e w' ⟨rfl, rfl⟩
      go_wp2_with fail
      refine (first_any _).mono ?_
      rintro e w' ⟨rfl, rfl⟩
      go_wp2_with fail
      go_ret
      exact ⟨rfl, rfl⟩
  · rw [Bool.not_eq_true] at h
    have H := Lib.hid h; clear h
    by_cases g : valid a b c = true
    · have G := Lib.hid g; clear g
      go_enter Try.func8, Try.ntmps8
      go_wp2_with fail
      refine (first_any _).mono ?_
      rintro e w' ⟨rfl, rfl⟩
      go_wp2_with fail
      refine (days_no _ _ _ _ H.out).mono ?_
      rintro e w' ⟨rfl, rfl⟩
      go_wp2_with fail
      refine (days_yes _ _ _ _ G.out).mono ?_
      rintro e w' ⟨rfl, rfl⟩
      go_wp2_with fail
      refine (first_any _).mono ?_
      rintro e w' ⟨rfl, rfl⟩
      go_wp2_with fail
      go_ret
      exact ⟨rfl, rfl⟩
    · rw [Bool.not_eq_true] at g
      have G := Lib.hid g; clear g
      go_enter Try.func8, Try.ntmps8
      go_wp2_with fail
      refine (first_any _).mono ?_
      rintro e w' ⟨rfl, rfl⟩
      go_wp2_with fail
      refine (days_no _ _ _ _ H.out).mono ?_
      rintro e w' ⟨rfl, rfl⟩
      go_wp2_with fail
      refine (days_no _ _ _ _ G.out).mono ?_
      rintro e w' ⟨rfl, rfl⟩
      go_wp2_with fail
      refine (first_any _).mono ?_
      rintro e w' ⟨rfl, rfl⟩
      go_wp2_with fail
      go_ret
      exact ⟨rfl, rfl⟩
end Go.Proofs.Ytlnilmojpobaiaa.Cv
