/- Special contracts of package civil's functions, as voklaw1's laws meet them. -/
import Derived.Test.YtlnilmojpobaiaaCvFirst
import Derived.Test.YtlnilmojpobaiaaCvMath2
import Derived.WalkKit
import Derived.WalkSpells
import Derived.Lib.Hide
namespace Go.Proofs.Ytlnilmojpobaiaa.Cv
open Go.RowKit

theorem date_num {y m d : Int} (w : World) (h : valid y m d = true) :
    Calls Try.prog 24 #[.int .i64 (num y m d)] w fun e w' => e = .returned (.tuple #[.int .i64 y, .int .i64 m, .int .i64 d, .int .i64 0]) ∧ w = w' := by
  have b := num_bd h
  have := date_yes (num y m d) w b.1 b.2
  rwa [yr_num h, (mon_num h).1, (mon_num h).2] at this
theorem days_back {n : Int} (w : World) (h1 : -719162 ≤ n) (h2 : n ≤ 2932896) :
    Calls Try.prog 16 #[.int .i64 (yr n), .int .i64 (mon n), .int .i64 (dom n)] w fun e w' => e = .returned (.tuple #[.int .i64 n, .int .i64 0]) ∧ w = w' := by
  have b := back h1 h2
  have := days_yes (yr n) (mon n) (dom n) w b.1
  rwa [b.2] at this
theorem days_next {y m d : Int} (w : World) (h : valid y m (d + 1) = true) :
    Calls Try.prog 16 #[.int .i64 y, .int .i64 m, .int .i64 (d + 1)] w fun e w' => e = .returned (.tuple #[.int .i64 (num y m d + 1), .int .i64 0]) ∧ w = w' := by
  have := days_yes y m (d + 1) w h
  rwa [num_next] at this
theorem days_new {y : Int} (w : World) (h1 : 1 ≤ y) (h2 : y ≤ 9999) :
    Calls Try.prog 16 #[.int .i64 y, .int .i64 1, .int .i64 1] w fun e w' => e = .returned (.tuple #[.int .i64 (ny y), .int .i64 0]) ∧ w = w' := by
  have := days_yes y 1 1 w (valid_new h1 h2)
  rwa [num_new] at this
theorem days_last {y : Int} (w : World) (h1 : 1 ≤ y) (h2 : y ≤ 9999) :
    Calls Try.prog 16 #[.int .i64 y, .int .i64 12, .int .i64 31] w fun e w' => e = .returned (.tuple #[.int .i64 (ny (y + 1) - 1), .int .i64 0]) ∧ w = w' := by
  have := days_yes y 12 31 w (valid_last h1 h2)
  rwa [num_last] at this
theorem days_4 {y : Int} (w : World) (h1 : 1 ≤ y) (h2 : y ≤ 9999) :
    Calls Try.prog 16 #[.int .i64 y, .int .i64 1, .int .i64 4] w fun e w' => e = .returned (.tuple #[.int .i64 (ny y + 3), .int .i64 0]) ∧ w = w' := by
  have := days_yes y 1 4 w (valid_4 h1 h2)
  rwa [num_4] at this
theorem week_4 {y k : Int} (w : World) (h1 : 1 ≤ y) (h2 : y ≤ 9999) (k1 : 0 ≤ k) (k2 : k ≤ 6) :
    Calls Try.prog 30 #[.int .i64 (ny y + 3), .int .i64 k] w fun e w' => e = .returned (.tuple #[.int .i64 y, .int .i64 1, .int .i64 0]) ∧ w = w' := by
  have b := num_bd (valid_4 h1 h2)
  rw [num_4] at b
  have := week_yes (ny y + 3) k w b.1 b.2 k1 k2
  rwa [(wk_4 y k k1 k2).1, (wk_4 y k k1 k2).2] at this
theorem week_4b {y k : Int} (w : World) (h1 : 1 ≤ y) (h2 : y ≤ 9998) (k1 : 0 ≤ k) (k2 : k ≤ 6) :
    Calls Try.prog 30 #[.int .i64 (ny (y + 1) + 3 - 7), .int .i64 k] w fun e w' => e = .returned (.tuple #[.int .i64 y, .int .i64 (wks y k), .int .i64 0]) ∧ w = w' := by
  have b := num_bd (valid_4 (y := y + 1) (by omega) (by omega))
  rw [num_4] at b
  have c := ny_mono 1 y h1
  have d := ny_mono y (y + 1) (by omega)
  rw [ny_1] at c
  have := week_yes (ny (y + 1) + 3 - 7) k w (by omega) (by omega) k1 k2
  rwa [(wk_4b y k k1 k2).1, (wk_4b y k k1 k2).2] at this
theorem yearDay_lastday {y : Int} (h1 : 1 ≤ y) (h2 : y ≤ 9999) (w : World) :
    Calls Try.prog 26 #[.int .i64 (ny (y + 1) - 1)] w fun e w' => e = .returned (.tuple #[.int .i64 y, .int .i64 (ny (y + 1) - 1 - ny y + 1), .int .i64 0]) ∧ w = w' := by
  have b := num_bd (valid_last h1 h2)
  rw [num_last] at b
  have := yearDay_yes (ny (y + 1) - 1) w b.1 b.2
  rwa [yr_last] at this
theorem weekday_7 (n : Int) (w : World) :
    Calls Try.prog 28 #[.int .i64 (n + 7)] w fun e w' => e = .returned (.int .i64 (wd n)) ∧ w = w' := by
  have := weekday_any (n + 7) w; rwa [wd_7] at this
theorem weekday_1 (n : Int) (w : World) :
    Calls Try.prog 28 #[.int .i64 (n + 1)] w fun e w' => e = .returned (.int .i64 ((wd n + 1) % 7)) ∧ w = w' := by
  have := weekday_any (n + 1) w; rwa [wd_1] at this
theorem week_fo {a b k : Int} (e : fo a k = fo b k) : wky a k = wky b k ∧ wkn a k = wkn b k := by
  unfold wky wkn; rw [e]; exact ⟨rfl, rfl⟩
theorem week_1s {n k : Int} (h1 : -719162 ≤ n) (h2 : n ≤ 2932889) (k1 : 0 ≤ k) (k2 : k ≤ 6) (h : wd (n + 1) ≠ k) (w : World) :
    Calls Try.prog 30 #[.int .i64 (n + 1), .int .i64 k] w fun e w' => e = .returned (.tuple #[.int .i64 (wky n k), .int .i64 (wkn n k), .int .i64 0]) ∧ w = w' := by
  have := week_yes (n + 1) k w (by omega) (by omega) k1 k2
  have f := week_fo (fo_stay h k1 k2)
  rwa [f.1, f.2] at this
theorem week_7i {n k : Int} (h1 : -719162 ≤ n) (h2 : n ≤ 2932889) (k1 : 0 ≤ k) (k2 : k ≤ 6) (h : yr (fo n k + 7) = yr (fo n k) ∧ (fo n k + 7 - ny (yr (fo n k + 7))) / 7 + 1 = (fo n k - ny (yr (fo n k))) / 7 + 1 + 1) (w : World) :
    Calls Try.prog 30 #[.int .i64 (n + 7), .int .i64 k] w fun e w' => e = .returned (.tuple #[.int .i64 (wky n k), .int .i64 (wkn n k + 1), .int .i64 0]) ∧ w = w' := by
  have := week_yes (n + 7) k w (by omega) (by omega) k1 k2
  unfold wky wkn at *
  rw [fo_7] at this
  rwa [h.2, h.1] at this
theorem week_7j {n k : Int} (h1 : -719162 ≤ n) (h2 : n ≤ 2932889) (k1 : 0 ≤ k) (k2 : k ≤ 6) (h : yr (fo n k + 7) = yr (fo n k) + 1 ∧ (fo n k + 7 - ny (yr (fo n k + 7))) / 7 + 1 = 1) (w : World) :
    Calls Try.prog 30 #[.int .i64 (n + 7), .int .i64 k] w fun e w' => e = .returned (.tuple #[.int .i64 (wky n k + 1), .int .i64 1, .int .i64 0]) ∧ w = w' := by
  have := week_yes (n + 7) k w (by omega) (by omega) k1 k2
  unfold wky wkn at *
  rw [fo_7] at this
  rwa [h.2, h.1] at this
theorem week_1g {n k a b : Int} (h1 : -719162 ≤ n) (h2 : n ≤ 2932889) (k1 : 0 ≤ k) (k2 : k ≤ 6) (h : wd (n + 1) = k)
    (g : wky (n + 7) k = a ∧ wkn (n + 7) k = b) (w : World) :
    Calls Try.prog 30 #[.int .i64 (n + 1), .int .i64 k] w fun e w' => e = .returned (.tuple #[.int .i64 a, .int .i64 b, .int .i64 0]) ∧ w = w' := by
  have := week_yes (n + 1) k w (by omega) (by omega) k1 k2
  have f := week_fo ((fo_go h).trans (fo_7 n k).symm)
  rwa [f.1, f.2, g.1, g.2] at this
theorem weeks_last {n k : Int} (k1 : 0 ≤ k) (k2 : k ≤ 6) (y1 : 1 ≤ wky n k) (y2 : wky n k ≤ 9999) (h : ny (yr (fo n k) + 1) ≤ fo n k + 7) (w : World) :
    Calls Try.prog 32 #[.int .i64 (wky n k), .int .i64 k] w fun e w' => e = .returned (.tuple #[.int .i64 (wkn n k), .int .i64 0]) ∧ w = w' := by
  have := weeks_yes (wky n k) k w y1 y2 k1 k2
  rw [wk_last k1 k2 h]
  exact this
theorem weekday_nth {y m k x : Int} (h7 : 0 ≤ x) (h8 : x ≤ 6) (w : World) :
    Calls Try.prog 28 #[.int .i64 (num y m (nth y m k x))] w fun e w' => e = .returned (.int .i64 x) ∧ w = w' := by
  have := weekday_any (num y m (nth y m k x)) w; rwa [nth_wd h7 h8] at this
theorem adds_back {y m b : Int} (h1 : 1 ≤ y) (h2 : y ≤ 9999) (h3 : 1 ≤ m) (h4 : m ≤ 12) (h5 : 12 ≤ 12 * y + m - 1 + b) (h6 : 12 * y + m - 1 + b ≤ 119999) (w : World) :
    Calls Try.prog 34 #[.int .i64 ((12 * y + m - 1 + b) / 12), .int .i64 ((12 * y + m - 1 + b) % 12 + 1), .int .i64 (-b)] w fun e w' => e = .returned (.tuple #[.int .i64 y, .int .i64 m, .int .i64 0]) ∧ w = w' := by
  have := addMonths_yes ((12 * y + m - 1 + b) / 12) ((12 * y + m - 1 + b) % 12 + 1) (-b) w (by omega) (by omega) (by omega) (by omega) (by omega) (by omega)
  rwa [show (12 * ((12 * y + m - 1 + b) / 12) + ((12 * y + m - 1 + b) % 12 + 1) - 1 + -b) / 12 = y by omega, show (12 * ((12 * y + m - 1 + b) / 12) + ((12 * y + m - 1 + b) % 12 + 1) - 1 + -b) % 12 + 1 = m by omega] at this
theorem adds_12 {y m : Int} (h1 : 1 ≤ y) (h2 : y ≤ 9998) (h3 : 1 ≤ m) (h4 : m ≤ 12) (w : World) :
    Calls Try.prog 34 #[.int .i64 y, .int .i64 m, .int .i64 12] w fun e w' => e = .returned (.tuple #[.int .i64 (y + 1), .int .i64 m, .int .i64 0]) ∧ w = w' := by
  have := addMonths_yes y m 12 w (by omega) (by omega) (by omega) (by omega) (by omega) (by omega)
  rwa [show (12 * y + m - 1 + 12) / 12 = y + 1 by omega, show (12 * y + m - 1 + 12) % 12 + 1 = m by omega] at this
theorem days_some (y m d : Int) (w : World) :
    ∃ a b : Int, Calls Try.prog 16 #[.int .i64 y, .int .i64 m, .int .i64 d] w fun e w' => e = .returned (.tuple #[.int .i64 a, .int .i64 b]) ∧ w = w' := by
  by_cases h : valid y m d = true
  · exact ⟨_, _, days_yes y m d w h⟩
  · rw [Bool.not_eq_true] at h
    exact ⟨_, _, days_no y m d w h⟩
theorem days_400 {y m d : Int} (h : valid y m d = true) (l : y + 400 ≤ 9999) (w : World) :
    Calls Try.prog 16 #[.int .i64 (y + 400), .int .i64 m, .int .i64 d] w fun e w' => e = .returned (.tuple #[.int .i64 (num y m d + 146097), .int .i64 0]) ∧ w = w' := by
  have := days_yes (y + 400) m d w (valid_400 h l)
  rwa [num_400] at this
theorem weekday_400 (n : Int) (w : World) :
    Calls Try.prog 28 #[.int .i64 (n + 146097)] w fun e w' => e = .returned (.int .i64 (wd n)) ∧ w = w' := by
  have := weekday_any (n + 146097) w; rwa [wd_400] at this
theorem leap_y400 (y : Int) (w : World) :
    Calls Try.prog 18 #[.int .i64 (y + 400)] w fun e w' => e = .returned (.bool (leap y)) ∧ w = w' := by
  have := leap_any (y + 400) w; rwa [leap_400] at this
def daysE (y m d : Int) : Int := if valid y m d = true then 0 else 1
def daysN (y m d : Int) : Int := if valid y m d = true then num y m d else 0
theorem days_any (y m d : Int) (w : World) :
    Calls Try.prog 16 #[.int .i64 y, .int .i64 m, .int .i64 d] w fun e w' => e = .returned (.tuple #[.int .i64 (daysN y m d), .int .i64 (daysE y m d)]) ∧ w = w' := by
  by_cases h : valid y m d = true
  · have := days_yes y m d w h
    rwa [show daysN y m d = num y m d by simp [daysN, h], show daysE y m d = 0 by simp [daysE, h]]
  · have g := h
    rw [Bool.not_eq_true] at g
    have := days_no y m d w g
    rwa [show daysN y m d = 0 by simp [daysN, h], show daysE y m d = 1 by simp [daysE, h]]
end Go.Proofs.Ytlnilmojpobaiaa.Cv
