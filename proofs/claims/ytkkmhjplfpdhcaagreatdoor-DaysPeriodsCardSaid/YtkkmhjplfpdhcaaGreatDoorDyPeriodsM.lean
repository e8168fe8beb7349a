/- DaysPeriods answers true; the walks of vokref1.Week, vokref4.May and vokref6 that it needs. -/
import Derived.Test.YtkkmhjplfpdhcaaGreatDoorStWalkA
import Derived.Test.YtkkmhjplfpdhcaaGreatDoorCvWalkR
import Derived.Test.YtkkmhjplfpdhcaaGreatDoorRows
import Derived.WalkKit
import Derived.WalkSpells
import Derived.Lib.Hide
import Derived.Test.YtkkmhjplfpdhcaaGreatDoorRuWalkA
import Derived.Test.YtkkmhjplfpdhcaaGreatDoorRuRule
import Derived.Test.YtkkmhjplfpdhcaaGreatDoorDyRiseX
set_option linter.unusedVariables false
namespace Go.Proofs.YtkkmhjplfpdhcaaGreatDoor.St
open Go.RowKit Cv

theorem rmay_yes (t : Int) (w : World) (h : may t = true) :
    Calls Tryz.prog 43 #[.int .i64 t] w fun e w' => e = .returned (.bool true) ∧ w = w' := by
  obtain ⟨h1, h2⟩ := of_decide_eq_true h; clear h
  have h3 : t < 253402300800 := by omega
  go_enter Tryz.func43, Tryz.ntmps43
  go_wp2
  go_ret
  exact ⟨rfl, rfl⟩
theorem rmay_no (t : Int) (w : World) (h : may t = false) :
    Calls Tryz.prog 43 #[.int .i64 t] w fun e w' => e = .returned (.bool false) ∧ w = w' := by
  have g := of_decide_eq_false h; clear h
  by_cases h1 : t < -62135596800
  · clear g
    go_enter Tryz.func43, Tryz.ntmps43
    go_wp2
    go_ret
    exact ⟨rfl, rfl⟩
  · have h2 : 253402300799 < t := by omega
    clear g
    go_enter Tryz.func43, Tryz.ntmps43
    go_wp2
    go_ret
    exact ⟨ret_bool (decide_eq_false (by omega)), rfl⟩
theorem rmay_any (t : Int) (w : World) :
    Calls Tryz.prog 43 #[.int .i64 t] w fun e w' => e = .returned (.bool (may t)) ∧ w = w' := by
  cases h : may t
  · exact rmay_no t w h
  · exact rmay_yes t w h
theorem rdown_day (t : Int) (w : World) (h1 : -9223372036854775808 ≤ t) (h2 : t ≤ 9223372036854775807) :
    Calls Tryz.prog 100 #[.int .i64 t, .int .i64 86400] w fun e w' => e = .returned (.int .i64 (t / 86400)) ∧ w = w' := by
  by_cases hn : 0 ≤ t
  · have g := Int.emod_nonneg t (b := 86400) (by omega)
    have g' : ¬ t % 86400 < 0 := by omega
    clear g
    go_enter Tryz.func100, Tryz.ntmps100
    go_wp2
    go_ret
    exact ⟨rfl, rfl⟩
  · obtain ⟨e1, e2, b1, b2, b3, b4⟩ := tday (t := t) (by omega) h1
    by_cases hz : t.tmod 86400 < 0
    · obtain ⟨e, f⟩ := e1 hz
      have E := Lib.hid e; clear e f e1 e2
      go_enter Tryz.func100, Tryz.ntmps100
      go_wp2
      go_ret
      exact ⟨ret_int E.out, rfl⟩
    · obtain ⟨e, f⟩ := e2 hz
      have E := Lib.hid e; clear e f e1 e2
      go_enter Tryz.func100, Tryz.ntmps100
      go_wp2
      go_ret
      exact ⟨ret_int E.out, rfl⟩
theorem rday_any (t : Int) (w : World) (h1 : -9223372036854775808 ≤ t) (h2 : t ≤ 9223372036854775807) :
    Calls Tryz.prog 49 #[.int .i64 t] w fun e w' => e = .returned (.tuple #[.int .i64 (t / 86400), .int .i64 (t % 86400)]) ∧ w = w' := by
  by_cases hn : 0 ≤ t
  · have g := Int.emod_nonneg t (b := 86400) (by omega)
    have g' : ¬ t % 86400 < 0 := by omega
    clear g
    go_enter Tryz.func49, Tryz.ntmps49
    go_wp2_with (go_at_call 100; refine (rdown_day _ _ h1 h2).mono ?_; rintro e w' ⟨rfl, rfl⟩)
    go_ret2
    exact ⟨rfl, rfl⟩
  · obtain ⟨e1, e2, b1, b2, b3, b4⟩ := tday (t := t) (by omega) h1
    by_cases hz : t.tmod 86400 < 0
    · obtain ⟨e, f⟩ := e1 hz
      have F := Lib.hid f; clear e f e1 e2
      go_enter Tryz.func49, Tryz.ntmps49
      go_wp2_with (go_at_call 100; refine (rdown_day _ _ h1 h2).mono ?_; rintro e w' ⟨rfl, rfl⟩)
      go_ret2
      exact ⟨ret_two rfl F.out, rfl⟩
    · obtain ⟨e, f⟩ := e2 hz
      have F := Lib.hid f; clear e f e1 e2
      go_enter Tryz.func49, Tryz.ntmps49
      go_wp2_with (go_at_call 100; refine (rdown_day _ _ h1 h2).mono ?_; rintro e w' ⟨rfl, rfl⟩)
      go_ret2
      exact ⟨ret_two rfl F.out, rfl⟩
end Go.Proofs.YtkkmhjplfpdhcaaGreatDoor.St
namespace Go.Proofs.YtkkmhjplfpdhcaaGreatDoor.Cv
open Go.RowKit

theorem rbegin_any (n k : Int) (w : World) (h1 : -1000000000000000 ≤ n) (h2 : n ≤ 1000000000000000) (h3 : 0 ≤ k) (h4 : k ≤ 6) :
    Calls Tryz.prog 180 #[.int .i64 n, .int .i64 k] w fun e w' => e = .returned (.int .i64 (n - (wd n - k) % 7)) ∧ w = w' := by
  obtain ⟨a1, a2⟩ := wd_bd n
  go_enter Tryz.func180, Tryz.ntmps180
  go_wp2_with (go_at_call 208; refine (rweekday_any _ _).mono ?_; rintro e w' ⟨rfl, rfl⟩)
  go_ret
  exact ⟨rfl, rfl⟩
theorem rone_any (y k : Int) (w : World) (h1 : 0 ≤ y) (h2 : y ≤ 10001) (h3 : 0 ≤ k) (h4 : k ≤ 6) :
    Calls Tryz.prog 154 #[.int .i64 y, .int .i64 k] w fun e w' => e = .returned (.int .i64 (on y k)) ∧ w = w' := by
  obtain ⟨a1, a2⟩ := ny_bd y h1 h2
  go_enter Tryz.func154, Tryz.ntmps154
  go_wp2_with (first
    | (go_at_call 131; refine (rfirst_any _ _ h1 h2).mono ?_; rintro e w' ⟨rfl, rfl⟩)
    | (go_at_call 180; refine (rbegin_any _ _ _ (by omega) (by omega) h3 h4).mono ?_; rintro e w' ⟨rfl, rfl⟩))
  go_ret
  exact ⟨rfl, rfl⟩
theorem rweek_no (n k : Int) (w : World) (h : ¬ (-719162 ≤ n ∧ n ≤ 2932896 ∧ 0 ≤ k ∧ k ≤ 6)) :
    Calls Tryz.prog 129 #[.int .i64 n, .int .i64 k] w fun e w' => e = .returned (.tuple #[.int .i64 0, .int .i64 0, .int .i64 1]) ∧ w = w' := by
  by_cases hd : -719162 ≤ n ∧ n ≤ 2932896
  · obtain ⟨h1, h2⟩ := hd
    by_cases hk : k < 0
    · clear h
      go_enter Tryz.func129, Tryz.ntmps129
      go_wp2_with (go_at_call 95; refine (rdate_yes _ _ h1 h2).mono ?_; rintro e w' ⟨rfl, rfl⟩)
      go_ret3
      exact ⟨rfl, rfl⟩
    · have hk' : 6 < k := by omega
      clear h
      go_enter Tryz.func129, Tryz.ntmps129
      go_wp2_with (go_at_call 95; refine (rdate_yes _ _ h1 h2).mono ?_; rintro e w' ⟨rfl, rfl⟩)
      go_ret3
      exact ⟨rfl, rfl⟩
  · clear h
    have H := Lib.hid hd; clear hd
    go_enter Tryz.func129, Tryz.ntmps129
    go_wp2_with (go_at_call 95; refine (rdate_no _ _ H.out).mono ?_; rintro e w' ⟨rfl, rfl⟩)
    go_ret3
    exact ⟨rfl, rfl⟩
theorem rweek_yes (n k : Int) (w : World) (h1 : -719162 ≤ n) (h2 : n ≤ 2932896) (h3 : 0 ≤ k) (h4 : k ≤ 6) :
    Calls Tryz.prog 129 #[.int .i64 n, .int .i64 k] w fun e w' => e = .returned (.tuple #[.int .i64 (wky n k), .int .i64 (wkn n k), .int .i64 0]) ∧ w = w' := by
  obtain ⟨a1, a2⟩ := yr_day n h1 h2
  by_cases c1 : on (yr n + 1) k ≤ n
  · have H := Lib.hid (wk_up c1 h3 h4)
    obtain ⟨o1, o2⟩ := on_bd (yr n + 1) k
    obtain ⟨n1, n2⟩ := ny_bd (yr n + 1) (by omega) (by omega)
    go_enter Tryz.func129, Tryz.ntmps129
    go_wp2_with (first
      | (go_at_call 95; refine (rdate_yes _ _ h1 h2).mono ?_; rintro e w' ⟨rfl, rfl⟩)
      | (go_at_call 154; refine (rone_any _ _ _ (by omega) (by omega) h3 h4).mono ?_; rintro e w' ⟨rfl, rfl⟩))
    go_ret3
    exact ⟨ret_three H.out.1.symm H.out.2.symm rfl, rfl⟩
  · by_cases c2 : n < on (yr n) k
    · have H := Lib.hid (wk_down c2 h3 h4)
      obtain ⟨o1, o2⟩ := on_bd (yr n - 1) k
      obtain ⟨n1, n2⟩ := ny_bd (yr n - 1) (by omega) (by omega)
      have o3 := on_low c2
      go_enter Tryz.func129, Tryz.ntmps129
      go_wp2_with (first
        | (go_at_call 95; refine (rdate_yes _ _ h1 h2).mono ?_; rintro e w' ⟨rfl, rfl⟩)
        | (go_at_call 154; refine (rone_any _ _ _ (by omega) (by omega) h3 h4).mono ?_; rintro e w' ⟨rfl, rfl⟩))
      go_ret3
      exact ⟨ret_three H.out.1.symm H.out.2.symm rfl, rfl⟩
    · have H := Lib.hid (wk_mid c1 c2 h3 h4)
      obtain ⟨o1, o2⟩ := on_bd (yr n) k
      obtain ⟨n1, n2⟩ := ny_bd (yr n) (by omega) (by omega)
      go_enter Tryz.func129, Tryz.ntmps129
      go_wp2_with (first
        | (go_at_call 95; refine (rdate_yes _ _ h1 h2).mono ?_; rintro e w' ⟨rfl, rfl⟩)
        | (go_at_call 154; refine (rone_any _ _ _ (by omega) (by omega) h3 h4).mono ?_; rintro e w' ⟨rfl, rfl⟩))
      go_ret3
      exact ⟨ret_three H.out.1.symm H.out.2.symm rfl, rfl⟩
end Go.Proofs.YtkkmhjplfpdhcaaGreatDoor.Cv
namespace Go.Proofs.YtkkmhjplfpdhcaaGreatDoor.Ru
open Go.RowKit Cv St

theorem pair_bd {a b : Nat} (h1 : a ≤ 60) (h2 : b ≤ 60) : 0 ≤ (a : Int) * (b : Int) ∧ (a : Int) * (b : Int) ≤ 3600 := by
  have := Nat.mul_le_mul h1 h2
  exact ⟨Int.mul_nonneg (by omega) (by omega), by rw [← Int.natCast_mul]; omega⟩
theorem trip_bd {a b c : Nat} (h1 : a ≤ 60) (h2 : b ≤ 60) (h3 : c ≤ 60) : 0 ≤ (a : Int) * (b : Int) * (c : Int) ∧ (a : Int) * (b : Int) * (c : Int) ≤ 216000 := by
  have := Nat.mul_le_mul (Nat.mul_le_mul h1 h2) h3
  exact ⟨Int.mul_nonneg (Int.mul_nonneg (by omega) (by omega)) (by omega), by rw [← Int.natCast_mul, ← Int.natCast_mul]; omega⟩
theorem often_len (r : Ru) : oftenB r = decide (4 < r.freq ∨ ((max r.hour.length 1 : Nat) : Int) * ((max r.minu.length 1 : Nat) : Int) * ((max r.sec.length 1 : Nat) : Int) ≤ 1000) := by
  unfold oftenB
  refine decide_eq_decide.2 ?_
  rw [← Int.natCast_mul, ← Int.natCast_mul]
  omega
set_option maxRecDepth 100000 in
set_option maxHeartbeats 16000000 in
/-- vokref4.May -/
theorem rmayR_is (w : World) (S : RS) (r : Ru) (x : Bool) (h : RuAt w S r) (hx : mayR r = x) :
    Calls Tryz.prog 34 #[S.val r] w fun e w' => e = .returned (.bool x) ∧ Below w.heap.size w w' := by
  obtain ⟨x1, e1⟩ : ∃ p, scalB r = p := ⟨_, rfl⟩
  obtain ⟨x2, e2⟩ : ∃ p, endB r = p := ⟨_, rfl⟩
  obtain ⟨x3, e3⟩ : ∃ p, listB r = p := ⟨_, rfl⟩
  obtain ⟨x4, e4⟩ : ∃ p, besideB r = p := ⟨_, rfl⟩
  obtain ⟨x5, e5⟩ : ∃ p, nthB r = p := ⟨_, rfl⟩
  obtain ⟨x6, e6⟩ : ∃ p, posB r = p := ⟨_, rfl⟩
  obtain ⟨x7, e7⟩ : ∃ p, oftenB r = p := ⟨_, rfl⟩
  have HX := Lib.hid (show (x1 && x2 && x3 && x4 && x5 && x6 && x7) = x by rw [← hx, ← e1, ← e2, ← e3, ← e4, ← e5, ← e6, ← e7]; rfl)
  have L60 := Lib.hid (fun (g : listB r = true) => by
    unfold listB at g
    simp only [Bool.and_eq_true] at g
    obtain ⟨⟨⟨⟨⟨⟨⟨⟨_, _⟩, _⟩, _⟩, _⟩, a⟩, b⟩, c⟩, _⟩ := g
    unfold inB at a b c
    simp only [Bool.and_eq_true] at a b c
    exact (⟨of_decide_eq_true a.1.2, of_decide_eq_true b.1.2, of_decide_eq_true c.1.2⟩ : r.hour.length ≤ 60 ∧ r.minu.length ≤ 60 ∧ r.sec.length ≤ 60))
  unfold besideB at e4
  unfold nthB at e5
  unfold posB at e6
  rw [often_len] at e7
  rw [← h.h7.1, ← h.h8.1, ← h.h9.1] at e4
  rw [← h.h7.1] at e5
  rw [← h.h6.1, ← h.h7.1, ← h.h8.1, ← h.h9.1, ← h.h10.1, ← h.h11.1, ← h.h12.1, ← h.h13.1, ← h.h14.1] at e6
  rw [← h.h11.1, ← h.h12.1, ← h.h13.1] at e7
  rw [← h.h11.1, ← h.h12.1, ← h.h13.1] at L60
  have E1 := Lib.hid e1; have E2 := Lib.hid e2; have E3 := Lib.hid e3; have E4 := Lib.hid e4; have E5 := Lib.hid e5; have E6 := Lib.hid e6; have E7 := Lib.hid e7
  have H6 := Lib.hid h.h6; have H7 := Lib.hid h.h7; have H8 := Lib.hid h.h8; have H9 := Lib.hid h.h9; have H10 := Lib.hid h.h10; have H11 := Lib.hid h.h11; have H12 := Lib.hid h.h12; have H13 := Lib.hid h.h13; have H14 := Lib.hid h.h14
  have l6 := h.l6; have l7 := h.l7; have l8 := h.l8; have l9 := h.l9; have l10 := h.l10; have l11 := h.l11; have l12 := h.l12; have l13 := h.l13; have l14 := h.l14
  clear h hx e1 e2 e3 e4 e5 e6 e7
  obtain ⟨a6, n6, c6, a7, n7, c7, a8, n8, c8, a9, n9, c9, a10, n10, c10, a11, n11, c11, a12, n12, c12, a13, n13, c13, a14, n14, c14⟩ := S
  obtain ⟨freq, itv, cnt, til, wkst, ends, mon, week, yday, mday, day, hour, minu, sec, pos⟩ := r
  replace l6 : n6 ≤ 140737488355328 := l6
  replace l7 : n7 ≤ 140737488355328 := l7
  replace l8 : n8 ≤ 140737488355328 := l8
  replace l9 : n9 ≤ 140737488355328 := l9
  replace l10 : n10 ≤ 140737488355328 := l10
  replace l11 : n11 ≤ 140737488355328 := l11
  replace l12 : n12 ≤ 140737488355328 := l12
  replace l13 : n13 ≤ 140737488355328 := l13
  replace l14 : n14 ≤ 140737488355328 := l14
  have E1 := Lib.hid (show decide (1 ≤ freq ∧ freq ≤ 7 ∧ 1 ≤ itv ∧ itv ≤ 1000 ∧ 0 ≤ cnt ∧ cnt ≤ 4096 ∧ 0 ≤ wkst ∧ wkst ≤ 6) = x1 from E1.out)
  have E2 := Lib.hid (show (if ends then decide (cnt ≤ 0) && mayT til else decide (til = 0)) = x2 from E2.out)
  have E3 := Lib.hid (show (inB mon 1 12 true && inB week (-53) 53 false && inB yday (-366) 366 false && inB mday (-31) 31 false && inB pos (-366) 366 false && inB hour 0 23 true && inB minu 0 59 true && inB sec 0 59 true && dayB day) = x3 from E3.out)
  have E4 := Lib.hid (show decide (¬ ((0 < n7 ∧ freq ≠ 1) ∨ (0 < n8 ∧ 2 ≤ freq ∧ freq ≤ 4) ∨ (0 < n9 ∧ freq = 3))) = x4 from E4.out)
  have E5 := Lib.hid (show decide (¬ (numbB day = true ∧ freq ≠ 2 ∧ (freq ≠ 1 ∨ 0 < n7))) = x5 from E5.out)
  have E6 := Lib.hid (show decide (¬ (0 < n14 ∧ n6 + n7 + n8 + n9 + n10 + n11 + n12 + n13 = 0)) = x6 from E6.out)
  have E7 := Lib.hid (show decide (4 < freq ∨ ((max n11 1 : Nat) : Int) * ((max n12 1 : Nat) : Int) * ((max n13 1 : Nat) : Int) ≤ 1000) = x7 from E7.out)
  have L60 := Lib.hid (fun (g : x3 = true) => show n11 ≤ 60 ∧ n12 ≤ 60 ∧ n13 ≤ 60 from L60.out (E3.out.trans g))
  show Calls Tryz.prog 34 #[.agg #[.int .i64 freq, .int .i64 itv, .int .i64 cnt, .int .i64 til, .int .i64 wkst, .bool ends, .slice a6 n6 c6, .slice a7 n7 c7, .slice a8 n8 c8, .slice a9 n9 c9, .slice a10 n10 c10, .slice a11 n11 c11, .slice a12 n12 c12, .slice a13 n13 c13, .slice a14 n14 c14]] w _
  go_enter Tryz.func34, Tryz.ntmps34
  go_upto_region 1 with fail
  have B0 := alloc_below w (.cells #[.int .i64 freq, .int .i64 itv, .int .i64 cnt, .int .i64 til, .int .i64 wkst, .bool ends, .slice a6 n6 c6, .slice a7 n7 c7, .slice a8 n8 c8, .slice a9 n9 c9, .slice a10 n10 c10, .slice a11 n11 c11, .slice a12 n12 c12, .slice a13 n13 c13, .slice a14 n14 c14] 25)
  have X0 := Box.new w #[.int .i64 freq, .int .i64 itv, .int .i64 cnt, .int .i64 til, .int .i64 wkst, .bool ends, .slice a6 n6 c6, .slice a7 n7 c7, .slice a8 n8 c8, .slice a9 n9 c9, .slice a10 n10 c10, .slice a11 n11 c11, .slice a12 n12 c12, .slice a13 n13 c13, .slice a14 n14 c14] 25
  generalize w.alloc (.cells #[.int .i64 freq, .int .i64 itv, .int .i64 cnt, .int .i64 til, .int .i64 wkst, .bool ends, .slice a6 n6 c6, .slice a7 n7 c7, .slice a8 n8 c8, .slice a9 n9 c9, .slice a10 n10 c10, .slice a11 n11 c11, .slice a12 n12 c12, .slice a13 n13 c13, .slice a14 n14 c14] 25) = w0 at *
  go_cut [41] (fun s wx => s = .bool (!x1) ∧ Below w0.heap.size w0 wx)
  case first =>
    as_aux_lemma =>
      have z0 : w0.cell? ⟨w.heap.size, 0, none⟩ = some (.int .i64 freq) := X0.at_ 0 _ rfl
      have z1 : w0.cell? ⟨w.heap.size, 1, none⟩ = some (.int .i64 itv) := X0.at_ 1 _ rfl
      have z2 : w0.cell? ⟨w.heap.size, 2, none⟩ = some (.int .i64 cnt) := X0.at_ 2 _ rfl
      have z4 : w0.cell? ⟨w.heap.size, 4, none⟩ = some (.int .i64 wkst) := X0.at_ 4 _ rfl
      by_cases c0 : freq < 1
      · have t0 : decide (freq < 1) = true := decide_eq_true c0
        have G := Lib.hid (show false = x1 by rw [← E1.out]; exact (decide_eq_false (by omega)).symm)
        clear c0
        go_wp2
        go_meet
        exact ⟨by rw [← G.out]; rfl, Below.refl _ _⟩
      by_cases c1 : 7 < freq
      · have t0 : decide (freq < 1) = false := decide_eq_false c0
        have t1 : decide (7 < freq) = true := decide_eq_true c1
        have G := Lib.hid (show false = x1 by rw [← E1.out]; exact (decide_eq_false (by omega)).symm)
        clear c0 c1
        go_wp2
        go_meet
        exact ⟨by rw [← G.out]; rfl, Below.refl _ _⟩
      by_cases c2 : itv < 1
      · have t0 : decide (freq < 1) = false := decide_eq_false c0
        have t1 : decide (7 < freq) = false := decide_eq_false c1
        have t2 : decide (itv < 1) = true := decide_eq_true c2
        have G := Lib.hid (show false = x1 by rw [← E1.out]; exact (decide_eq_false (by omega)).symm)
        clear c0 c1 c2
        go_wp2
        go_meet
        exact ⟨by rw [← G.out]; rfl, Below.refl _ _⟩
      by_cases c3 : 1000 < itv
      · have t0 : decide (freq < 1) = false := decide_eq_false c0
        have t1 : decide (7 < freq) = false := decide_eq_false c1
        have t2 : decide (itv < 1) = false := decide_eq_false c2
        have t3 : decide (1000 < itv) = true := decide_eq_true c3
        have G := Lib.hid (show false = x1 by rw [← E1.out]; exact (decide_eq_false (by omega)).symm)
        clear c0 c1 c2 c3
        go_wp2
        go_meet
        exact ⟨by rw [← G.out]; rfl, Below.refl _ _⟩
      by_cases c4 : cnt < 0
      · have t0 : decide (freq < 1) = false := decide_eq_false c0
        have t1 : decide (7 < freq) = false := decide_eq_false c1
        have t2 : decide (itv < 1) = false := decide_eq_false c2
        have t3 : decide (1000 < itv) = false := decide_eq_false c3
        have t4 : decide (cnt < 0) = true := decide_eq_true c4
        have G := Lib.hid (show false = x1 by rw [← E1.out]; exact (decide_eq_false (by omega)).symm)
        clear c0 c1 c2 c3 c4
        go_wp2
        go_meet
        exact ⟨by rw [← G.out]; rfl, Below.refl _ _⟩
      by_cases c5 : 4096 < cnt
      · have t0 : decide (freq < 1) = false := decide_eq_false c0
        have t1 : decide (7 < freq) = false := decide_eq_false c1
        have t2 : decide (itv < 1) = false := decide_eq_false c2
        have t3 : decide (1000 < itv) = false := decide_eq_false c3
        have t4 : decide (cnt < 0) = false := decide_eq_false c4
        have t5 : decide (4096 < cnt) = true := decide_eq_true c5
        have G := Lib.hid (show false = x1 by rw [← E1.out]; exact (decide_eq_false (by omega)).symm)
        clear c0 c1 c2 c3 c4 c5
        go_wp2
        go_meet
        exact ⟨by rw [← G.out]; rfl, Below.refl _ _⟩
      by_cases c6 : wkst < 0
      · have t0 : decide (freq < 1) = false := decide_eq_false c0
        have t1 : decide (7 < freq) = false := decide_eq_false c1
        have t2 : decide (itv < 1) = false := decide_eq_false c2
        have t3 : decide (1000 < itv) = false := decide_eq_false c3
        have t4 : decide (cnt < 0) = false := decide_eq_false c4
        have t5 : decide (4096 < cnt) = false := decide_eq_false c5
        have t6 : decide (wkst < 0) = true := decide_eq_true c6
        have G := Lib.hid (show false = x1 by rw [← E1.out]; exact (decide_eq_false (by omega)).symm)
        clear c0 c1 c2 c3 c4 c5 c6
        go_wp2
        go_meet
        exact ⟨by rw [← G.out]; rfl, Below.refl _ _⟩
      by_cases c7 : 6 < wkst
      · have t0 : decide (freq < 1) = false := decide_eq_false c0
        have t1 : decide (7 < freq) = false := decide_eq_false c1
        have t2 : decide (itv < 1) = false := decide_eq_false c2
        have t3 : decide (1000 < itv) = false := decide_eq_false c3
        have t4 : decide (cnt < 0) = false := decide_eq_false c4
        have t5 : decide (4096 < cnt) = false := decide_eq_false c5
        have t6 : decide (wkst < 0) = false := decide_eq_false c6
        have t7 : decide (6 < wkst) = true := decide_eq_true c7
        have G := Lib.hid (show false = x1 by rw [← E1.out]; exact (decide_eq_false (by omega)).symm)
        clear c0 c1 c2 c3 c4 c5 c6 c7
        go_wp2
        go_meet
        exact ⟨by rw [← G.out]; rfl, Below.refl _ _⟩
      have t0 : decide (freq < 1) = false := decide_eq_false c0
      have t1 : decide (7 < freq) = false := decide_eq_false c1
      have t2 : decide (itv < 1) = false := decide_eq_false c2
      have t3 : decide (1000 < itv) = false := decide_eq_false c3
      have t4 : decide (cnt < 0) = false := decide_eq_false c4
      have t5 : decide (4096 < cnt) = false := decide_eq_false c5
      have t6 : decide (wkst < 0) = false := decide_eq_false c6
      have t7 : decide (6 < wkst) = false := decide_eq_false c7
      have G := Lib.hid (show true = x1 by rw [← E1.out]; exact (decide_eq_true (by omega)).symm)
      clear c0 c1 c2 c3 c4 c5 c6 c7
      go_wp2
      go_meet
      exact ⟨by rw [← G.out]; rfl, Below.refl _ _⟩
  case rest =>
    obtain ⟨rfl, bc⟩ := hcut
    generalize wc = w1 at *
    have B1 := B0.trans (bc.mono B0.size)
    have X1 := X0.below bc
    clear bc B0 X0 E1
    cases x1
    · have G := Lib.hid (show false = x by rw [← HX.out]; simp)
      go_wp2
      go_ret
      exact ⟨ret_bool G.out, B1⟩
    · go_upto_region 3 with fail
      go_cut [64] (fun s wx => s = .bool (!x2) ∧ Below w1.heap.size w1 wx)
      case first =>
        as_aux_lemma =>
          have z2 : w1.cell? ⟨w.heap.size, 2, none⟩ = some (.int .i64 cnt) := X1.at_ 2 _ rfl
          have z3 : w1.cell? ⟨w.heap.size, 3, none⟩ = some (.int .i64 til) := X1.at_ 3 _ rfl
          have z5 : w1.cell? ⟨w.heap.size, 5, none⟩ = some (.bool ends) := X1.at_ 5 _ rfl
          cases ends
          · by_cases c : til = 0
            · have C := Lib.hid c
              clear c
              have t : ((til : Int) != 0) = false := by rw [bne_eq_false_iff_eq]; exact C.out
              have G := Lib.hid (show true = x2 by rw [← E2.out]; exact (decide_eq_true C.out).symm)
              go_wp2
              go_meet
              exact ⟨by rw [← G.out]; rfl, Below.refl _ _⟩
            · have C := Lib.hid c
              clear c
              have t : ((til : Int) != 0) = true := by rw [bne_iff_ne]; exact C.out
              have G := Lib.hid (show false = x2 by rw [← E2.out]; exact (decide_eq_false C.out).symm)
              go_wp2
              go_meet
              exact ⟨by rw [← G.out]; rfl, Below.refl _ _⟩
          · by_cases c : 0 < cnt
            · have t : decide (0 < cnt) = true := decide_eq_true c
              have G := Lib.hid (show false = x2 by rw [← E2.out, show decide (cnt ≤ 0) = false from decide_eq_false (by omega)]; rfl)
              go_wp2
              go_meet
              exact ⟨by rw [← G.out]; rfl, Below.refl _ _⟩
            · have t : decide (0 < cnt) = false := decide_eq_false c
              have G := Lib.hid (show St.may til = x2 by rw [← E2.out, show decide (cnt ≤ 0) = true from decide_eq_true (by omega)]; rfl)
              obtain ⟨m, hm⟩ : ∃ m, St.may til = m := ⟨_, rfl⟩
              have G2 := Lib.hid (show m = x2 by rw [← hm]; exact G.out)
              have HM := Lib.hid hm
              clear hm c
              go_wp2_with fail
              refine (rmay_any til _).mono ?_
              rintro e w' ⟨rfl, rfl⟩
              rw [HM.out]
              cases m
              · go_wp2
                go_meet
                exact ⟨by rw [← G2.out]; rfl, Below.refl _ _⟩
              · go_wp2
                go_meet
                exact ⟨by rw [← G2.out]; rfl, Below.refl _ _⟩
      case rest =>
        obtain ⟨rfl, bc⟩ := hcut
        generalize wc = w2 at *
        have B2 := B1.trans (bc.mono B1.size)
        have X2 := X1.below bc
        clear bc B1 X1 E2
        cases x2
        · have G := Lib.hid (show false = x by rw [← HX.out]; simp)
          go_wp2
          go_ret
          exact ⟨ret_bool G.out, B2⟩
        · go_upto_region 5 with fail
          go_cut [116] (fun s wx => s = .bool (!x3) ∧ Below w2.heap.size w2 wx)
          case first =>
            as_aux_lemma =>
              obtain ⟨p0, f0⟩ : ∃ p, inB mon 1 12 true = p := ⟨_, rfl⟩
              obtain ⟨p1, f1⟩ : ∃ p, inB week (-53) 53 false = p := ⟨_, rfl⟩
              obtain ⟨p2, f2⟩ : ∃ p, inB yday (-366) 366 false = p := ⟨_, rfl⟩
              obtain ⟨p3, f3⟩ : ∃ p, inB mday (-31) 31 false = p := ⟨_, rfl⟩
              obtain ⟨p4, f4⟩ : ∃ p, inB pos (-366) 366 false = p := ⟨_, rfl⟩
              obtain ⟨p5, f5⟩ : ∃ p, inB hour 0 23 true = p := ⟨_, rfl⟩
              obtain ⟨p6, f6⟩ : ∃ p, inB minu 0 59 true = p := ⟨_, rfl⟩
              obtain ⟨p7, f7⟩ : ∃ p, inB sec 0 59 true = p := ⟨_, rfl⟩
              obtain ⟨p8, f8⟩ : ∃ p, dayB day = p := ⟨_, rfl⟩
              have E := Lib.hid (show (p0 && p1 && p2 && p3 && p4 && p5 && p6 && p7 && p8) = x3 by rw [← E3.out, f0, f1, f2, f3, f4, f5, f6, f7, f8])
              have F0 := Lib.hid f0
              have F1 := Lib.hid f1
              have F2 := Lib.hid f2
              have F3 := Lib.hid f3
              have F4 := Lib.hid f4
              have F5 := Lib.hid f5
              have F6 := Lib.hid f6
              have F7 := Lib.hid f7
              have F8 := Lib.hid f8
              clear f0 f1 f2 f3 f4 f5 f6 f7 f8
              have D0 : Below w2.heap.size w2 w2 := Below.refl _ _
              have Y0 := X2
              obtain ⟨v0, hv⟩ : ∃ v, w2 = v := ⟨_, rfl⟩
              have D0 : Below w2.heap.size w2 v0 := hv ▸ D0
              have Y0 : Box v0 w.heap.size #[.int .i64 freq, .int .i64 itv, .int .i64 cnt, .int .i64 til, .int .i64 wkst, .bool ends, .slice a6 n6 c6, .slice a7 n7 c7, .slice a8 n8 c8, .slice a9 n9 c9, .slice a10 n10 c10, .slice a11 n11 c11, .slice a12 n12 c12, .slice a13 n13 c13, .slice a14 n14 c14] := hv ▸ Y0
              have BV : Below w.heap.size w v0 := hv ▸ B2
              rw [hv]
              clear hv
              have z : v0.cell? ⟨w.heap.size, 6, none⟩ = some (.slice a6 n6 c6) := Y0.at_ 6 _ rfl
              go_wp2_with fail
              refine (within_any _ a6 n6 c6 mon 1 12 true (H6.out.below BV) (by omega)).mono ?_
              rintro e v1 ⟨rfl, b⟩
              rw [F0.out]
              have D1 := D0.trans (b.mono D0.size)
              have Y1 := Y0.below b
              have BV := BV.trans (b.mono BV.size)
              clear b z D0 Y0
              cases p0
              · have G := Lib.hid (show false = x3 by rw [← E.out]; simp)
                go_wp2
                go_meet
                exact ⟨by rw [← G.out]; rfl, D1⟩
              · have z : v1.cell? ⟨w.heap.size, 7, none⟩ = some (.slice a7 n7 c7) := Y1.at_ 7 _ rfl
                go_wp2_with fail
                refine (within_any _ a7 n7 c7 week (-53) 53 false (H7.out.below BV) (by omega)).mono ?_
                rintro e v2 ⟨rfl, b⟩
                rw [F1.out]
                have D2 := D1.trans (b.mono D1.size)
                have Y2 := Y1.below b
                have BV := BV.trans (b.mono BV.size)
                clear b z D1 Y1
                cases p1
                · have G := Lib.hid (show false = x3 by rw [← E.out]; simp)
                  go_wp2
                  go_meet
                  exact ⟨by rw [← G.out]; rfl, D2⟩
                · have z : v2.cell? ⟨w.heap.size, 8, none⟩ = some (.slice a8 n8 c8) := Y2.at_ 8 _ rfl
                  go_wp2_with fail
                  refine (within_any _ a8 n8 c8 yday (-366) 366 false (H8.out.below BV) (by omega)).mono ?_
                  rintro e v3 ⟨rfl, b⟩
                  rw [F2.out]
                  have D3 := D2.trans (b.mono D2.size)
                  have Y3 := Y2.below b
                  have BV := BV.trans (b.mono BV.size)
                  clear b z D2 Y2
                  cases p2
                  · have G := Lib.hid (show false = x3 by rw [← E.out]; simp)
                    go_wp2
                    go_meet
                    exact ⟨by rw [← G.out]; rfl, D3⟩
                  · have z : v3.cell? ⟨w.heap.size, 9, none⟩ = some (.slice a9 n9 c9) := Y3.at_ 9 _ rfl
                    go_wp2_with fail
                    refine (within_any _ a9 n9 c9 mday (-31) 31 false (H9.out.below BV) (by omega)).mono ?_
                    rintro e v4 ⟨rfl, b⟩
                    rw [F3.out]
                    have D4 := D3.trans (b.mono D3.size)
                    have Y4 := Y3.below b
                    have BV := BV.trans (b.mono BV.size)
                    clear b z D3 Y3
                    cases p3
                    · have G := Lib.hid (show false = x3 by rw [← E.out]; simp)
                      go_wp2
                      go_meet
                      exact ⟨by rw [← G.out]; rfl, D4⟩
                    · have z : v4.cell? ⟨w.heap.size, 14, none⟩ = some (.slice a14 n14 c14) := Y4.at_ 14 _ rfl
                      go_wp2_with fail
                      refine (within_any _ a14 n14 c14 pos (-366) 366 false (H14.out.below BV) (by omega)).mono ?_
                      rintro e v5 ⟨rfl, b⟩
                      rw [F4.out]
                      have D5 := D4.trans (b.mono D4.size)
                      have Y5 := Y4.below b
                      have BV := BV.trans (b.mono BV.size)
                      clear b z D4 Y4
                      cases p4
                      · have G := Lib.hid (show false = x3 by rw [← E.out]; simp)
                        go_wp2
                        go_meet
                        exact ⟨by rw [← G.out]; rfl, D5⟩
                      · have z : v5.cell? ⟨w.heap.size, 11, none⟩ = some (.slice a11 n11 c11) := Y5.at_ 11 _ rfl
                        go_wp2_with fail
                        refine (within_any _ a11 n11 c11 hour 0 23 true (H11.out.below BV) (by omega)).mono ?_
                        rintro e v6 ⟨rfl, b⟩
                        rw [F5.out]
                        have D6 := D5.trans (b.mono D5.size)
                        have Y6 := Y5.below b
                        have BV := BV.trans (b.mono BV.size)
                        clear b z D5 Y5
                        cases p5
                        · have G := Lib.hid (show false = x3 by rw [← E.out]; simp)
                          go_wp2
                          go_meet
                          exact ⟨by rw [← G.out]; rfl, D6⟩
                        · have z : v6.cell? ⟨w.heap.size, 12, none⟩ = some (.slice a12 n12 c12) := Y6.at_ 12 _ rfl
                          go_wp2_with fail
                          refine (within_any _ a12 n12 c12 minu 0 59 true (H12.out.below BV) (by omega)).mono ?_
                          rintro e v7 ⟨rfl, b⟩
                          rw [F6.out]
                          have D7 := D6.trans (b.mono D6.size)
                          have Y7 := Y6.below b
                          have BV := BV.trans (b.mono BV.size)
                          clear b z D6 Y6
                          cases p6
                          · have G := Lib.hid (show false = x3 by rw [← E.out]; simp)
                            go_wp2
                            go_meet
                            exact ⟨by rw [← G.out]; rfl, D7⟩
                          · have z : v7.cell? ⟨w.heap.size, 13, none⟩ = some (.slice a13 n13 c13) := Y7.at_ 13 _ rfl
                            go_wp2_with fail
                            refine (within_any _ a13 n13 c13 sec 0 59 true (H13.out.below BV) (by omega)).mono ?_
                            rintro e v8 ⟨rfl, b⟩
                            rw [F7.out]
                            have D8 := D7.trans (b.mono D7.size)
                            have Y8 := Y7.below b
                            have BV := BV.trans (b.mono BV.size)
                            clear b z D7 Y7
                            cases p7
                            · have G := Lib.hid (show false = x3 by rw [← E.out]; simp)
                              go_wp2
                              go_meet
                              exact ⟨by rw [← G.out]; rfl, D8⟩
                            · have z : v8.cell? ⟨w.heap.size, 10, none⟩ = some (.slice a10 n10 c10) := Y8.at_ 10 _ rfl
                              go_wp2_with fail
                              refine (dayList_any _ a10 n10 c10 day (H10.out.below BV) (by omega)).mono ?_
                              rintro e v9 ⟨rfl, b⟩
                              rw [F8.out]
                              have D9 := D8.trans (b.mono D8.size)
                              have Y9 := Y8.below b
                              have BV := BV.trans (b.mono BV.size)
                              clear b z D8 Y8
                              cases p8
                              · have G := Lib.hid (show false = x3 by rw [← E.out]; simp)
                                go_wp2
                                go_meet
                                exact ⟨by rw [← G.out]; rfl, D9⟩
                              · have G := Lib.hid (show true = x3 by rw [← E.out]; rfl)
                                go_wp2
                                go_meet
                                exact ⟨by rw [← G.out]; rfl, D9⟩
          case rest =>
            obtain ⟨rfl, bc⟩ := hcut
            generalize wc = w3 at *
            have B3 := B2.trans (bc.mono B2.size)
            have X3 := X2.below bc
            clear bc B2 X2 E3
            cases x3
            · have G := Lib.hid (show false = x by rw [← HX.out]; simp)
              go_wp2
              go_ret
              exact ⟨ret_bool G.out, B3⟩
            · go_upto_region 7 with fail
              obtain ⟨q11, q12, q13⟩ := L60.out rfl
              clear L60
              go_cut [152] (fun s wx => s = .bool (!x4) ∧ Below w3.heap.size w3 wx)
              case first =>
                as_aux_lemma =>
                  have z0 : w3.cell? ⟨w.heap.size, 0, none⟩ = some (.int .i64 freq) := X3.at_ 0 _ rfl
                  have z7 : w3.cell? ⟨w.heap.size, 7, none⟩ = some (.slice a7 n7 c7) := X3.at_ 7 _ rfl
                  have z8 : w3.cell? ⟨w.heap.size, 8, none⟩ = some (.slice a8 n8 c8) := X3.at_ 8 _ rfl
                  have z9 : w3.cell? ⟨w.heap.size, 9, none⟩ = some (.slice a9 n9 c9) := X3.at_ 9 _ rfl
                  by_cases a1 : 0 < n7
                  · by_cases f1 : freq = 1
                    · have g1 : ((freq : Int) != 1) = false := by rw [bne_eq_false_iff_eq]; exact f1
                      by_cases a2 : 0 < n8
                      · have g2 : decide (2 ≤ freq) = false := decide_eq_false (by omega)
                        by_cases a3 : 0 < n9
                        · have g3 : ((freq : Int) == 3) = false := by rw [beq_eq_false_iff_ne]; omega
                          have G := Lib.hid (show true = x4 by rw [← E4.out]; exact (decide_eq_true (by omega)).symm)
                          clear f1
                          go_wp2
                          go_meet
                          exact ⟨by rw [← G.out]; rfl, Below.refl _ _⟩
                        · have G := Lib.hid (show true = x4 by rw [← E4.out]; exact (decide_eq_true (by omega)).symm)
                          clear f1
                          go_wp2
                          go_meet
                          exact ⟨by rw [← G.out]; rfl, Below.refl _ _⟩
                      · by_cases a3 : 0 < n9
                        · have g3 : ((freq : Int) == 3) = false := by rw [beq_eq_false_iff_ne]; omega
                          have G := Lib.hid (show true = x4 by rw [← E4.out]; exact (decide_eq_true (by omega)).symm)
                          clear f1
                          go_wp2
                          go_meet
                          exact ⟨by rw [← G.out]; rfl, Below.refl _ _⟩
                        · have G := Lib.hid (show true = x4 by rw [← E4.out]; exact (decide_eq_true (by omega)).symm)
                          clear f1
                          go_wp2
                          go_meet
                          exact ⟨by rw [← G.out]; rfl, Below.refl _ _⟩
                    · have g1 : ((freq : Int) != 1) = true := by rw [bne_iff_ne]; exact f1
                      have G := Lib.hid (show false = x4 by rw [← E4.out]; exact (decide_eq_false (by omega)).symm)
                      go_wp2
                      go_meet
                      exact ⟨by rw [← G.out]; rfl, Below.refl _ _⟩
                  · by_cases a2 : 0 < n8
                    · by_cases f2 : 2 ≤ freq
                      · have g2 : decide (2 ≤ freq) = true := decide_eq_true f2
                        by_cases f4 : freq ≤ 4
                        · have g4 : decide (freq ≤ 4) = true := decide_eq_true f4
                          have G := Lib.hid (show false = x4 by rw [← E4.out]; exact (decide_eq_false (by omega)).symm)
                          go_wp2
                          go_meet
                          exact ⟨by rw [← G.out]; rfl, Below.refl _ _⟩
                        · have g4 : decide (freq ≤ 4) = false := decide_eq_false f4
                          by_cases a3 : 0 < n9
                          · have g3 : ((freq : Int) == 3) = false := by rw [beq_eq_false_iff_ne]; omega
                            have G := Lib.hid (show true = x4 by rw [← E4.out]; exact (decide_eq_true (by omega)).symm)
                            go_wp2
                            go_meet
                            exact ⟨by rw [← G.out]; rfl, Below.refl _ _⟩
                          · have G := Lib.hid (show true = x4 by rw [← E4.out]; exact (decide_eq_true (by omega)).symm)
                            go_wp2
                            go_meet
                            exact ⟨by rw [← G.out]; rfl, Below.refl _ _⟩
                      · have g2 : decide (2 ≤ freq) = false := decide_eq_false f2
                        by_cases a3 : 0 < n9
                        · have g3 : ((freq : Int) == 3) = false := by rw [beq_eq_false_iff_ne]; omega
                          have G := Lib.hid (show true = x4 by rw [← E4.out]; exact (decide_eq_true (by omega)).symm)
                          go_wp2
                          go_meet
                          exact ⟨by rw [← G.out]; rfl, Below.refl _ _⟩
                        · have G := Lib.hid (show true = x4 by rw [← E4.out]; exact (decide_eq_true (by omega)).symm)
                          go_wp2
                          go_meet
                          exact ⟨by rw [← G.out]; rfl, Below.refl _ _⟩
                    · by_cases a3 : 0 < n9
                      · by_cases f3 : freq = 3
                        · have g3 : ((freq : Int) == 3) = true := by rw [beq_iff_eq]; omega
                          have G := Lib.hid (show false = x4 by rw [← E4.out]; exact (decide_eq_false (by omega)).symm)
                          clear f3
                          go_wp2
                          go_meet
                          exact ⟨by rw [← G.out]; rfl, Below.refl _ _⟩
                        · have g3 : ((freq : Int) == 3) = false := by rw [beq_eq_false_iff_ne]; omega
                          have G := Lib.hid (show true = x4 by rw [← E4.out]; exact (decide_eq_true (by omega)).symm)
                          go_wp2
                          go_meet
                          exact ⟨by rw [← G.out]; rfl, Below.refl _ _⟩
                      · have G := Lib.hid (show true = x4 by rw [← E4.out]; exact (decide_eq_true (by omega)).symm)
                        go_wp2
                        go_meet
                        exact ⟨by rw [← G.out]; rfl, Below.refl _ _⟩
              case rest =>
                obtain ⟨rfl, bc⟩ := hcut
                generalize wc = w4 at *
                have B4 := B3.trans (bc.mono B3.size)
                have X4 := X3.below bc
                clear bc B3 X3 E4
                cases x4
                · have G := Lib.hid (show false = x by rw [← HX.out]; simp)
                  go_wp2
                  go_ret
                  exact ⟨ret_bool G.out, B4⟩
                · go_upto_region 9 with fail
                  go_cut [171] (fun s wx => s = .bool (!x5) ∧ Below w4.heap.size w4 wx)
                  case first =>
                    as_aux_lemma =>
                      have z0 : w4.cell? ⟨w.heap.size, 0, none⟩ = some (.int .i64 freq) := X4.at_ 0 _ rfl
                      have z7 : w4.cell? ⟨w.heap.size, 7, none⟩ = some (.slice a7 n7 c7) := X4.at_ 7 _ rfl
                      have z10 : w4.cell? ⟨w.heap.size, 10, none⟩ = some (.slice a10 n10 c10) := X4.at_ 10 _ rfl
                      obtain ⟨p, hp⟩ : ∃ p, numbB day = p := ⟨_, rfl⟩
                      have HP := Lib.hid hp
                      have E := Lib.hid (show decide (¬ (p = true ∧ freq ≠ 2 ∧ (freq ≠ 1 ∨ 0 < n7))) = x5 by rw [← E5.out, hp])
                      clear hp
                      go_wp2_with fail
                      refine (numbered_any _ a10 n10 c10 day (H10.out.below B4) (by omega)).mono ?_
                      rintro e v1 ⟨rfl, b⟩
                      rw [HP.out]
                      have Y := X4.below b
                      clear z0 z7 z10
                      have z0 : v1.cell? ⟨w.heap.size, 0, none⟩ = some (.int .i64 freq) := Y.at_ 0 _ rfl
                      have z7 : v1.cell? ⟨w.heap.size, 7, none⟩ = some (.slice a7 n7 c7) := Y.at_ 7 _ rfl
                      cases p
                      · have G := Lib.hid (show true = x5 by rw [← E.out]; exact (decide_eq_true (by simp; try omega)).symm)
                        go_wp2
                        go_meet
                        exact ⟨by rw [← G.out]; rfl, b⟩
                      · by_cases f2 : freq = 2
                        · have g2 : ((freq : Int) != 2) = false := by rw [bne_eq_false_iff_eq]; exact f2
                          have G := Lib.hid (show true = x5 by rw [← E.out]; exact (decide_eq_true (by simp; try omega)).symm)
                          clear f2
                          go_wp2
                          go_meet
                          exact ⟨by rw [← G.out]; rfl, b⟩
                        · have g2 : ((freq : Int) != 2) = true := by rw [bne_iff_ne]; exact f2
                          by_cases f1 : freq = 1
                          · have g1 : ((freq : Int) != 1) = false := by rw [bne_eq_false_iff_eq]; exact f1
                            by_cases a : 0 < n7
                            · have G := Lib.hid (show false = x5 by rw [← E.out]; exact (decide_eq_false (by simp; try omega)).symm)
                              clear f1
                              go_wp2
                              go_meet
                              exact ⟨by rw [← G.out]; rfl, b⟩
                            · have G := Lib.hid (show true = x5 by rw [← E.out]; exact (decide_eq_true (by simp; try omega)).symm)
                              clear f1
                              go_wp2
                              go_meet
                              exact ⟨by rw [← G.out]; rfl, b⟩
                          · have g1 : ((freq : Int) != 1) = true := by rw [bne_iff_ne]; exact f1
                            have G := Lib.hid (show false = x5 by rw [← E.out]; exact (decide_eq_false (by simp; try omega)).symm)
                            go_wp2
                            go_meet
                            exact ⟨by rw [← G.out]; rfl, b⟩
                  case rest =>
                    obtain ⟨rfl, bc⟩ := hcut
                    generalize wc = w5 at *
                    have B5 := B4.trans (bc.mono B4.size)
                    have X5 := X4.below bc
                    clear bc B4 X4 E5
                    cases x5
                    · have G := Lib.hid (show false = x by rw [← HX.out]; simp)
                      go_wp2
                      go_ret
                      exact ⟨ret_bool G.out, B5⟩
                    · go_upto_region 11 with fail
                      have z6 : w5.cell? ⟨w.heap.size, 6, none⟩ = some (.slice a6 n6 c6) := X5.at_ 6 _ rfl
                      have z7 : w5.cell? ⟨w.heap.size, 7, none⟩ = some (.slice a7 n7 c7) := X5.at_ 7 _ rfl
                      have z8 : w5.cell? ⟨w.heap.size, 8, none⟩ = some (.slice a8 n8 c8) := X5.at_ 8 _ rfl
                      have z9 : w5.cell? ⟨w.heap.size, 9, none⟩ = some (.slice a9 n9 c9) := X5.at_ 9 _ rfl
                      have z10 : w5.cell? ⟨w.heap.size, 10, none⟩ = some (.slice a10 n10 c10) := X5.at_ 10 _ rfl
                      have z11 : w5.cell? ⟨w.heap.size, 11, none⟩ = some (.slice a11 n11 c11) := X5.at_ 11 _ rfl
                      have z12 : w5.cell? ⟨w.heap.size, 12, none⟩ = some (.slice a12 n12 c12) := X5.at_ 12 _ rfl
                      have z13 : w5.cell? ⟨w.heap.size, 13, none⟩ = some (.slice a13 n13 c13) := X5.at_ 13 _ rfl
                      go_upto_region 12 with fail
                      clear z6 z7 z8 z9 z10 z11 z12 z13
                      go_cut [210] (fun s wx => s = .bool (!x6) ∧ Below w5.heap.size w5 wx)
                      case first =>
                        as_aux_lemma =>
                          have z14 : w5.cell? ⟨w.heap.size, 14, none⟩ = some (.slice a14 n14 c14) := X5.at_ 14 _ rfl
                          by_cases a : 0 < n14
                          · by_cases c : n6 + n7 + n8 + n9 + n10 + n11 + n12 + n13 = 0
                            · have t : (((n6 : Int) + (n7 : Int) + (n8 : Int) + (n9 : Int) + (n10 : Int) + (n11 : Int) + (n12 : Int) + (n13 : Int)) == 0) = true := by rw [beq_iff_eq]; omega
                              have G := Lib.hid (show false = x6 by rw [← E6.out]; exact (decide_eq_false (by omega)).symm)
                              have C := Lib.hid c
                              clear c
                              go_wp2
                              go_meet
                              exact ⟨by rw [← G.out]; rfl, Below.refl _ _⟩
                            · have t : (((n6 : Int) + (n7 : Int) + (n8 : Int) + (n9 : Int) + (n10 : Int) + (n11 : Int) + (n12 : Int) + (n13 : Int)) == 0) = false := by rw [beq_eq_false_iff_ne]; omega
                              have G := Lib.hid (show true = x6 by rw [← E6.out]; exact (decide_eq_true (by omega)).symm)
                              have C := Lib.hid c
                              clear c
                              go_wp2
                              go_meet
                              exact ⟨by rw [← G.out]; rfl, Below.refl _ _⟩
                          · have G := Lib.hid (show true = x6 by rw [← E6.out]; exact (decide_eq_true (by omega)).symm)
                            go_wp2
                            go_meet
                            exact ⟨by rw [← G.out]; rfl, Below.refl _ _⟩
                      case rest =>
                        obtain ⟨rfl, bc⟩ := hcut
                        generalize wc = w6 at *
                        have B6 := B5.trans (bc.mono B5.size)
                        have X6 := X5.below bc
                        clear bc B5 X5 E6
                        cases x6
                        · have G := Lib.hid (show false = x by rw [← HX.out]; simp)
                          go_wp2
                          go_ret
                          exact ⟨ret_bool G.out, B6⟩
                        · go_upto_region 14 with fail
                          as_aux_lemma =>
                            have HX2 := Lib.hid (show x7 = x by rw [← HX.out]; simp)
                            clear HX
                            have z0 : w6.cell? ⟨w.heap.size, 0, none⟩ = some (.int .i64 freq) := X6.at_ 0 _ rfl
                            have z11 : w6.cell? ⟨w.heap.size, 11, none⟩ = some (.slice a11 n11 c11) := X6.at_ 11 _ rfl
                            have z12 : w6.cell? ⟨w.heap.size, 12, none⟩ = some (.slice a12 n12 c12) := X6.at_ 12 _ rfl
                            have z13 : w6.cell? ⟨w.heap.size, 13, none⟩ = some (.slice a13 n13 c13) := X6.at_ 13 _ rfl
                            by_cases f : 4 < freq
                            · have t : decide (4 < freq) = true := decide_eq_true f
                              have G := Lib.hid (show true = x by rw [← HX2.out, ← E7.out]; exact (decide_eq_true (.inl f)).symm)
                              go_wp2
                              go_ret
                              exact ⟨ret_bool G.out, B6⟩
                            · have t : decide (4 < freq) = false := decide_eq_false f
                              have G := Lib.hid (show decide (((max n11 1 : Nat) : Int) * ((max n12 1 : Nat) : Int) * ((max n13 1 : Nat) : Int) ≤ 1000) = x by rw [← HX2.out, ← E7.out]; exact decide_eq_decide.2 ⟨.inr, fun g => g.resolve_left f⟩)
                              clear HX2 E7 f
                              obtain ⟨m1, hm1⟩ : ∃ m : Nat, max n11 1 = m := ⟨_, rfl⟩
                              obtain ⟨m2, hm2⟩ : ∃ m : Nat, max n12 1 = m := ⟨_, rfl⟩
                              obtain ⟨m3, hm3⟩ : ∃ m : Nat, max n13 1 = m := ⟨_, rfl⟩
                              have G2 := Lib.hid (show decide ((m1 : Int) * (m2 : Int) * (m3 : Int) ≤ 1000) = x by rw [← hm1, ← hm2, ← hm3]; exact G.out)
                              have M1 := Lib.hid (show (n11 ≤ 0 ∧ m1 = 1) ∨ (1 ≤ n11 ∧ m1 = n11) from by omega)
                              have M2 := Lib.hid (show (n12 ≤ 0 ∧ m2 = 1) ∨ (1 ≤ n12 ∧ m2 = n12) from by omega)
                              have M3 := Lib.hid (show (n13 ≤ 0 ∧ m3 = 1) ∨ (1 ≤ n13 ∧ m3 = n13) from by omega)
                              clear hm1 hm2 hm3 G H6 H7 H8 H9 H10 H11 H12 H13 H14 l6 l7 l8 l9 l10 l11 l12 l13 l14
                              go_wp2
                              all_goals
                                go_ret
                                have i1 := M1.out; have i2 := M2.out; have i3 := M3.out
                                refine ⟨ret_bool ?_, B6⟩
                                have g := G2.out
                                obtain ⟨p1a, p1b⟩ := pair_bd q11 q12
                                obtain ⟨p2a, p2b⟩ := pair_bd q11 q13
                                obtain ⟨p3a, p3b⟩ := pair_bd q12 q13
                                obtain ⟨p4a, p4b⟩ := trip_bd q11 q12 q13
                                clear M1 M2 M3 G2
                                have w1 : max (n11 : Int) 1 = (m1 : Int) := by omega
                                have w2 : max (n12 : Int) 1 = (m2 : Int) := by omega
                                have w3 : max (n13 : Int) 1 = (m3 : Int) := by omega
                                have k1 : m1 ≤ 60 := by omega
                                have k2 : m2 ≤ 60 := by omega
                                have k3 : m3 ≤ 60 := by omega
                                obtain ⟨p5a, p5b⟩ := pair_bd k1 k2
                                obtain ⟨p6a, p6b⟩ := trip_bd k1 k2 k3
                                first
                                | (rw [w1, w2, w3, IntWalk.wrap64_in ((m1 : Int) * (m2 : Int)) (by omega), IntWalk.wrap64_in ((m1 : Int) * (m2 : Int) * (m3 : Int)) (by omega)]; exact g)
                                | skip
                                all_goals (clear w1 w2 w3 k1 k2 k3 p5a p5b p6a p6b)
                                all_goals rcases i1 with ⟨j1, rfl⟩ | ⟨j1, rfl⟩ <;> rcases i2 with ⟨j2, rfl⟩ | ⟨j2, rfl⟩ <;> rcases i3 with ⟨j3, rfl⟩ | ⟨j3, rfl⟩
                                all_goals
                                  first
                                    | (exfalso; omega)
                                    | (try simp only [Int.natCast_one, Int.one_mul, Int.mul_one] at g
                                       rw [← g]
                                       (repeat first | rw [IntWalk.wrap64_in (1 : Int) (by omega)] | rw [Int.one_mul] | rw [IntWalk.wrap64_in ((m1 : Int) * (m2 : Int)) (by omega)] | rw [IntWalk.wrap64_in ((m1 : Int) * (m3 : Int)) (by omega)] | rw [IntWalk.wrap64_in ((m2 : Int) * (m3 : Int)) (by omega)] | rw [IntWalk.wrap64_in ((m1 : Int) * (m2 : Int) * (m3 : Int)) (by omega)] | rw [IntWalk.wrap64_in (m1 : Int) (by omega)] | rw [IntWalk.wrap64_in (m2 : Int) (by omega)] | rw [IntWalk.wrap64_in (m3 : Int) (by omega)])
                                       try rfl)
end Go.Proofs.YtkkmhjplfpdhcaaGreatDoor.Ru
namespace Go.Proofs.YtkkmhjplfpdhcaaGreatDoor.Dd
open Go.RowKit Cv St Ru

theorem down6_any (n b : Int) (w : World) (h1 : -1000000000000000 ≤ n) (h2 : n ≤ 1000000000000000) (h3 : 1 ≤ b) (h4 : b ≤ 1000000) :
    Calls Tryz.prog 96 #[.int .i64 n, .int .i64 b] w fun e w' => e = .returned (.int .i64 (n / b)) ∧ w = w' := by
  by_cases hn : 0 ≤ n
  · have g := Int.emod_nonneg n (b := b) (by omega)
    have g' : ¬ n % b < 0 := by omega
    obtain ⟨q1, q2⟩ := div_bd n b hn h3
    clear g
    go_enter Tryz.func96, Tryz.ntmps96
    go_wp2
    go_ret
    exact ⟨rfl, rfl⟩
  · obtain ⟨q1, q2⟩ := tdiv_bd n b (by omega) h3
    by_cases hz : n.tmod b < 0
    · have H := Lib.hid (down_1 n b (by omega) h3 hz)
      go_enter Tryz.func96, Tryz.ntmps96
      go_wp2
      go_ret
      exact ⟨ret_int H.out.symm, rfl⟩
    · have H := Lib.hid (down_2 n b (by omega) h3 hz)
      go_enter Tryz.func96, Tryz.ntmps96
      go_wp2
      go_ret
      exact ⟨ret_int H.out.symm, rfl⟩
set_option maxRecDepth 100000 in
set_option maxHeartbeats 2000000 in
/-- vokref6.right -/
theorem right_is (w : World) (S : RS) (r : Ru) (t : Int) (m q : Bool) (h : RuAt w S r) (hm : mayR r = m) (hq : St.may t = q) :
    Calls Tryz.prog 42 #[S.val r, .int .i64 t] w fun e w' => e = .returned (.bool (m && q)) ∧ Below w.heap.size w w' := by
  have RA := Lib.hid h
  have HM := Lib.hid hm
  have HQ := Lib.hid hq
  clear h hm hq
  obtain ⟨a6, n6, c6, a7, n7, c7, a8, n8, c8, a9, n9, c9, a10, n10, c10, a11, n11, c11, a12, n12, c12, a13, n13, c13, a14, n14, c14⟩ := S
  obtain ⟨freq, itv, cnt, til, wkst, ends, mon, week, yday, mday, day, hour, minu, sec, pos⟩ := r
  show Calls Tryz.prog 42 #[.agg #[.int .i64 freq, .int .i64 itv, .int .i64 cnt, .int .i64 til, .int .i64 wkst, .bool ends, .slice a6 n6 c6, .slice a7 n7 c7, .slice a8 n8 c8, .slice a9 n9 c9, .slice a10 n10 c10, .slice a11 n11 c11, .slice a12 n12 c12, .slice a13 n13 c13, .slice a14 n14 c14], .int .i64 t] w _
  go_enter Tryz.func42, Tryz.ntmps42
  go_upto_region 1 with fail
  have B0 := alloc_below w (.cells #[.int .i64 freq, .int .i64 itv, .int .i64 cnt, .int .i64 til, .int .i64 wkst, .bool ends, .slice a6 n6 c6, .slice a7 n7 c7, .slice a8 n8 c8, .slice a9 n9 c9, .slice a10 n10 c10, .slice a11 n11 c11, .slice a12 n12 c12, .slice a13 n13 c13, .slice a14 n14 c14] 25)
  have XR0 := Box.new w #[.int .i64 freq, .int .i64 itv, .int .i64 cnt, .int .i64 til, .int .i64 wkst, .bool ends, .slice a6 n6 c6, .slice a7 n7 c7, .slice a8 n8 c8, .slice a9 n9 c9, .slice a10 n10 c10, .slice a11 n11 c11, .slice a12 n12 c12, .slice a13 n13 c13, .slice a14 n14 c14] 25
  have SR0 : w.heap.size < (w.alloc (.cells #[.int .i64 freq, .int .i64 itv, .int .i64 cnt, .int .i64 til, .int .i64 wkst, .bool ends, .slice a6 n6 c6, .slice a7 n7 c7, .slice a8 n8 c8, .slice a9 n9 c9, .slice a10 n10 c10, .slice a11 n11 c11, .slice a12 n12 c12, .slice a13 n13 c13, .slice a14 n14 c14] 25)).heap.size := by simp
  generalize w.alloc (.cells #[.int .i64 freq, .int .i64 itv, .int .i64 cnt, .int .i64 til, .int .i64 wkst, .bool ends, .slice a6 n6 c6, .slice a7 n7 c7, .slice a8 n8 c8, .slice a9 n9 c9, .slice a10 n10 c10, .slice a11 n11 c11, .slice a12 n12 c12, .slice a13 n13 c13, .slice a14 n14 c14] 25) = w0 at *
  have z0 : w0.cell? ⟨w.heap.size, 0, none⟩ = some (.int .i64 freq) := XR0.at_ 0 _ rfl
  have z1 : w0.cell? ⟨w.heap.size, 1, none⟩ = some (.int .i64 itv) := XR0.at_ 1 _ rfl
  have z2 : w0.cell? ⟨w.heap.size, 2, none⟩ = some (.int .i64 cnt) := XR0.at_ 2 _ rfl
  have z3 : w0.cell? ⟨w.heap.size, 3, none⟩ = some (.int .i64 til) := XR0.at_ 3 _ rfl
  have z4 : w0.cell? ⟨w.heap.size, 4, none⟩ = some (.int .i64 wkst) := XR0.at_ 4 _ rfl
  have z5 : w0.cell? ⟨w.heap.size, 5, none⟩ = some (.bool ends) := XR0.at_ 5 _ rfl
  have z6 : w0.cell? ⟨w.heap.size, 6, none⟩ = some (.slice a6 n6 c6) := XR0.at_ 6 _ rfl
  have z7 : w0.cell? ⟨w.heap.size, 7, none⟩ = some (.slice a7 n7 c7) := XR0.at_ 7 _ rfl
  have z8 : w0.cell? ⟨w.heap.size, 8, none⟩ = some (.slice a8 n8 c8) := XR0.at_ 8 _ rfl
  have z9 : w0.cell? ⟨w.heap.size, 9, none⟩ = some (.slice a9 n9 c9) := XR0.at_ 9 _ rfl
  have z10 : w0.cell? ⟨w.heap.size, 10, none⟩ = some (.slice a10 n10 c10) := XR0.at_ 10 _ rfl
  have z11 : w0.cell? ⟨w.heap.size, 11, none⟩ = some (.slice a11 n11 c11) := XR0.at_ 11 _ rfl
  have z12 : w0.cell? ⟨w.heap.size, 12, none⟩ = some (.slice a12 n12 c12) := XR0.at_ 12 _ rfl
  have z13 : w0.cell? ⟨w.heap.size, 13, none⟩ = some (.slice a13 n13 c13) := XR0.at_ 13 _ rfl
  have z14 : w0.cell? ⟨w.heap.size, 14, none⟩ = some (.slice a14 n14 c14) := XR0.at_ 14 _ rfl
  go_wp2_with fail
  refine (rmayR_is _ ⟨a6, n6, c6, a7, n7, c7, a8, n8, c8, a9, n9, c9, a10, n10, c10, a11, n11, c11, a12, n12, c12, a13, n13, c13, a14, n14, c14⟩ ⟨freq, itv, cnt, til, wkst, ends, mon, week, yday, mday, day, hour, minu, sec, pos⟩ m (RA.out.below B0) HM.out).mono ?_
  rintro e w1 ⟨rfl, b1⟩
  have B1 := B0.trans (b1.mono B0.size)
  clear z0 z1 z2 z3 z4 z5 z6 z7 z8 z9 z10 z11 z12 z13 z14
  cases m
  · go_wp2
    go_ret
    exact ⟨rfl, B1⟩
  · go_wp2_with fail
    refine (rmay_any t _).mono ?_
    rintro e w' ⟨rfl, rfl⟩
    rw [HQ.out]
    go_wp2
    go_ret
    exact ⟨by simp, B1⟩
set_option maxRecDepth 100000 in
set_option maxHeartbeats 2000000 in
/-- vokref6.yearOf -/
theorem yearOf6_is (w : World) (S : RS) (r : Ru) (n x : Int) (h : RuAt w S r) (h1 : -719162 ≤ n) (h2 : n ≤ 2932896) (k1 : 0 ≤ r.wkst) (k2 : r.wkst ≤ 6) (hx : yro r n = x) :
    Calls Tryz.prog 94 #[S.val r, .int .i64 n] w fun e w' => e = .returned (.int .i64 x) ∧ Below w.heap.size w w' := by
  have E7 := Lib.hid h.h7.1
  have HX := Lib.hid hx
  clear h hx
  obtain ⟨a6, n6, c6, a7, n7, c7, a8, n8, c8, a9, n9, c9, a10, n10, c10, a11, n11, c11, a12, n12, c12, a13, n13, c13, a14, n14, c14⟩ := S
  obtain ⟨freq, itv, cnt, til, wkst, ends, mon, week, yday, mday, day, hour, minu, sec, pos⟩ := r
  replace k1 : 0 ≤ wkst := k1
  replace k2 : wkst ≤ 6 := k2
  have HX2 := Lib.hid (show (if week = [] then yr n else wky n wkst) = x from HX.out)
  clear HX
  show Calls Tryz.prog 94 #[.agg #[.int .i64 freq, .int .i64 itv, .int .i64 cnt, .int .i64 til, .int .i64 wkst, .bool ends, .slice a6 n6 c6, .slice a7 n7 c7, .slice a8 n8 c8, .slice a9 n9 c9, .slice a10 n10 c10, .slice a11 n11 c11, .slice a12 n12 c12, .slice a13 n13 c13, .slice a14 n14 c14], .int .i64 n] w _
  by_cases c : 0 < n7
  · have G := Lib.hid (show wky n wkst = x by rw [← HX2.out, if_neg (fun e => by have := E7.out; rw [show week = [] from e] at this; simp at this; omega)])
    clear HX2
    go_enter Tryz.func94, Tryz.ntmps94
    go_upto_region 1 with fail
    have B0 := alloc_below w (.cells #[.int .i64 freq, .int .i64 itv, .int .i64 cnt, .int .i64 til, .int .i64 wkst, .bool ends, .slice a6 n6 c6, .slice a7 n7 c7, .slice a8 n8 c8, .slice a9 n9 c9, .slice a10 n10 c10, .slice a11 n11 c11, .slice a12 n12 c12, .slice a13 n13 c13, .slice a14 n14 c14] 25)
    have XR0 := Box.new w #[.int .i64 freq, .int .i64 itv, .int .i64 cnt, .int .i64 til, .int .i64 wkst, .bool ends, .slice a6 n6 c6, .slice a7 n7 c7, .slice a8 n8 c8, .slice a9 n9 c9, .slice a10 n10 c10, .slice a11 n11 c11, .slice a12 n12 c12, .slice a13 n13 c13, .slice a14 n14 c14] 25
    have SR0 : w.heap.size < (w.alloc (.cells #[.int .i64 freq, .int .i64 itv, .int .i64 cnt, .int .i64 til, .int .i64 wkst, .bool ends, .slice a6 n6 c6, .slice a7 n7 c7, .slice a8 n8 c8, .slice a9 n9 c9, .slice a10 n10 c10, .slice a11 n11 c11, .slice a12 n12 c12, .slice a13 n13 c13, .slice a14 n14 c14] 25)).heap.size := by simp
    generalize w.alloc (.cells #[.int .i64 freq, .int .i64 itv, .int .i64 cnt, .int .i64 til, .int .i64 wkst, .bool ends, .slice a6 n6 c6, .slice a7 n7 c7, .slice a8 n8 c8, .slice a9 n9 c9, .slice a10 n10 c10, .slice a11 n11 c11, .slice a12 n12 c12, .slice a13 n13 c13, .slice a14 n14 c14] 25) = w0 at *
    have z4 : w0.cell? ⟨w.heap.size, 4, none⟩ = some (.int .i64 wkst) := XR0.at_ 4 _ rfl
    have z7 : w0.cell? ⟨w.heap.size, 7, none⟩ = some (.slice a7 n7 c7) := XR0.at_ 7 _ rfl
    clear XR0
    go_wp2_with fail
    refine (rweek_yes n wkst _ h1 h2 k1 k2).mono ?_
    rintro e w' ⟨rfl, rfl⟩
    go_wp2
    go_ret
    exact ⟨ret_int G.out, B0⟩
  · have G := Lib.hid (show yr n = x by rw [← HX2.out, if_pos (List.length_eq_zero_iff.1 (by have := E7.out; simp at this; omega))])
    clear HX2
    go_enter Tryz.func94, Tryz.ntmps94
    go_upto_region 1 with fail
    have B0 := alloc_below w (.cells #[.int .i64 freq, .int .i64 itv, .int .i64 cnt, .int .i64 til, .int .i64 wkst, .bool ends, .slice a6 n6 c6, .slice a7 n7 c7, .slice a8 n8 c8, .slice a9 n9 c9, .slice a10 n10 c10, .slice a11 n11 c11, .slice a12 n12 c12, .slice a13 n13 c13, .slice a14 n14 c14] 25)
    have XR0 := Box.new w #[.int .i64 freq, .int .i64 itv, .int .i64 cnt, .int .i64 til, .int .i64 wkst, .bool ends, .slice a6 n6 c6, .slice a7 n7 c7, .slice a8 n8 c8, .slice a9 n9 c9, .slice a10 n10 c10, .slice a11 n11 c11, .slice a12 n12 c12, .slice a13 n13 c13, .slice a14 n14 c14] 25
    have SR0 : w.heap.size < (w.alloc (.cells #[.int .i64 freq, .int .i64 itv, .int .i64 cnt, .int .i64 til, .int .i64 wkst, .bool ends, .slice a6 n6 c6, .slice a7 n7 c7, .slice a8 n8 c8, .slice a9 n9 c9, .slice a10 n10 c10, .slice a11 n11 c11, .slice a12 n12 c12, .slice a13 n13 c13, .slice a14 n14 c14] 25)).heap.size := by simp
    generalize w.alloc (.cells #[.int .i64 freq, .int .i64 itv, .int .i64 cnt, .int .i64 til, .int .i64 wkst, .bool ends, .slice a6 n6 c6, .slice a7 n7 c7, .slice a8 n8 c8, .slice a9 n9 c9, .slice a10 n10 c10, .slice a11 n11 c11, .slice a12 n12 c12, .slice a13 n13 c13, .slice a14 n14 c14] 25) = w0 at *
    have z4 : w0.cell? ⟨w.heap.size, 4, none⟩ = some (.int .i64 wkst) := XR0.at_ 4 _ rfl
    have z7 : w0.cell? ⟨w.heap.size, 7, none⟩ = some (.slice a7 n7 c7) := XR0.at_ 7 _ rfl
    clear XR0
    go_wp2_with fail
    refine (rdate_yes n _ h1 h2).mono ?_
    rintro e w' ⟨rfl, rfl⟩
    go_wp2
    go_ret
    exact ⟨ret_int G.out, B0⟩
set_option maxRecDepth 100000 in
set_option maxHeartbeats 8000000 in
/-- vokref6.number -/
theorem number_is (w : World) (S : RS) (r : Ru) (t x : Int) (h : RuAt w S r) (hm : mayR r = true) (ht : St.may t = true) (hx : per r t = x) :
    Calls Tryz.prog 44 #[S.val r, .int .i64 t] w fun e w' => e = .returned (.int .i64 x) ∧ Below w.heap.size w w' := by
  have RA := Lib.hid h
  have hk := wk_of hm
  have hf := freq_of hm
  have ht1 := of_decide_eq_true ht
  have td := may_day ht1.1 ht1.2
  have tl : -9223372036854775808 ≤ t := by omega
  have th : t ≤ 9223372036854775807 := by omega
  have HX := Lib.hid hx
  clear h hx hm ht
  obtain ⟨a6, n6, c6, a7, n7, c7, a8, n8, c8, a9, n9, c9, a10, n10, c10, a11, n11, c11, a12, n12, c12, a13, n13, c13, a14, n14, c14⟩ := S
  obtain ⟨freq, itv, cnt, til, wkst, ends, mon, week, yday, mday, day, hour, minu, sec, pos⟩ := r
  obtain ⟨k1, k2⟩ := show 0 ≤ wkst ∧ wkst ≤ 6 from hk
  obtain ⟨f1, f2⟩ := show 1 ≤ freq ∧ freq ≤ 7 from hf
  clear hk hf
  obtain ⟨d1, d2⟩ := td
  have HX2 := Lib.hid (show (if freq = 5 then t / 3600 else if freq = 6 then t / 60 else if freq = 7 then t else if freq = 1 then yro ⟨freq, itv, cnt, til, wkst, ends, mon, week, yday, mday, day, hour, minu, sec, pos⟩ (t / 86400) else if freq = 2 then yr (t / 86400) * 12 + Cv.mon (t / 86400) else if freq = 3 then (t / 86400 + 3 - wkst) / 7 else t / 86400) = x from HX.out)
  clear HX
  show Calls Tryz.prog 44 #[.agg #[.int .i64 freq, .int .i64 itv, .int .i64 cnt, .int .i64 til, .int .i64 wkst, .bool ends, .slice a6 n6 c6, .slice a7 n7 c7, .slice a8 n8 c8, .slice a9 n9 c9, .slice a10 n10 c10, .slice a11 n11 c11, .slice a12 n12 c12, .slice a13 n13 c13, .slice a14 n14 c14], .int .i64 t] w _
  by_cases c1 : freq = 1
  · have G := Lib.hid (show yro ⟨freq, itv, cnt, til, wkst, ends, mon, week, yday, mday, day, hour, minu, sec, pos⟩ (t / 86400) = x by rw [← HX2.out, if_neg (show ¬ freq = 5 by omega), if_neg (show ¬ freq = 6 by omega), if_neg (show ¬ freq = 7 by omega), if_pos c1])
    clear HX2
    have C1 := Lib.hid c1
    clear c1 f1 f2
    go_enter Tryz.func44, Tryz.ntmps44
    go_upto_region 1 with fail
    have B0 := alloc_below w (.cells #[.int .i64 freq, .int .i64 itv, .int .i64 cnt, .int .i64 til, .int .i64 wkst, .bool ends, .slice a6 n6 c6, .slice a7 n7 c7, .slice a8 n8 c8, .slice a9 n9 c9, .slice a10 n10 c10, .slice a11 n11 c11, .slice a12 n12 c12, .slice a13 n13 c13, .slice a14 n14 c14] 25)
    have XR0 := Box.new w #[.int .i64 freq, .int .i64 itv, .int .i64 cnt, .int .i64 til, .int .i64 wkst, .bool ends, .slice a6 n6 c6, .slice a7 n7 c7, .slice a8 n8 c8, .slice a9 n9 c9, .slice a10 n10 c10, .slice a11 n11 c11, .slice a12 n12 c12, .slice a13 n13 c13, .slice a14 n14 c14] 25
    have SR0 : w.heap.size < (w.alloc (.cells #[.int .i64 freq, .int .i64 itv, .int .i64 cnt, .int .i64 til, .int .i64 wkst, .bool ends, .slice a6 n6 c6, .slice a7 n7 c7, .slice a8 n8 c8, .slice a9 n9 c9, .slice a10 n10 c10, .slice a11 n11 c11, .slice a12 n12 c12, .slice a13 n13 c13, .slice a14 n14 c14] 25)).heap.size := by simp
    generalize w.alloc (.cells #[.int .i64 freq, .int .i64 itv, .int .i64 cnt, .int .i64 til, .int .i64 wkst, .bool ends, .slice a6 n6 c6, .slice a7 n7 c7, .slice a8 n8 c8, .slice a9 n9 c9, .slice a10 n10 c10, .slice a11 n11 c11, .slice a12 n12 c12, .slice a13 n13 c13, .slice a14 n14 c14] 25) = w0 at *
    go_wp2_with fail
    refine (rday_any t _ tl th).mono ?_
    rintro e w' ⟨rfl, rfl⟩
    have z0 : w0.cell? ⟨w.heap.size, 0, none⟩ = some (.int .i64 freq) := XR0.at_ 0 _ rfl
    have e1 : ((freq : Int) == 1) = true := by rw [beq_iff_eq]; exact C1.out
    have z1 : w0.cell? ⟨w.heap.size, 1, none⟩ = some (.int .i64 itv) := XR0.at_ 1 _ rfl
    have z2 : w0.cell? ⟨w.heap.size, 2, none⟩ = some (.int .i64 cnt) := XR0.at_ 2 _ rfl
    have z3 : w0.cell? ⟨w.heap.size, 3, none⟩ = some (.int .i64 til) := XR0.at_ 3 _ rfl
    have z4 : w0.cell? ⟨w.heap.size, 4, none⟩ = some (.int .i64 wkst) := XR0.at_ 4 _ rfl
    have z5 : w0.cell? ⟨w.heap.size, 5, none⟩ = some (.bool ends) := XR0.at_ 5 _ rfl
    have z6 : w0.cell? ⟨w.heap.size, 6, none⟩ = some (.slice a6 n6 c6) := XR0.at_ 6 _ rfl
    have z7 : w0.cell? ⟨w.heap.size, 7, none⟩ = some (.slice a7 n7 c7) := XR0.at_ 7 _ rfl
    have z8 : w0.cell? ⟨w.heap.size, 8, none⟩ = some (.slice a8 n8 c8) := XR0.at_ 8 _ rfl
    have z9 : w0.cell? ⟨w.heap.size, 9, none⟩ = some (.slice a9 n9 c9) := XR0.at_ 9 _ rfl
    have z10 : w0.cell? ⟨w.heap.size, 10, none⟩ = some (.slice a10 n10 c10) := XR0.at_ 10 _ rfl
    have z11 : w0.cell? ⟨w.heap.size, 11, none⟩ = some (.slice a11 n11 c11) := XR0.at_ 11 _ rfl
    have z12 : w0.cell? ⟨w.heap.size, 12, none⟩ = some (.slice a12 n12 c12) := XR0.at_ 12 _ rfl
    have z13 : w0.cell? ⟨w.heap.size, 13, none⟩ = some (.slice a13 n13 c13) := XR0.at_ 13 _ rfl
    have z14 : w0.cell? ⟨w.heap.size, 14, none⟩ = some (.slice a14 n14 c14) := XR0.at_ 14 _ rfl
    go_wp2_with fail
    refine (yearOf6_is _ ⟨a6, n6, c6, a7, n7, c7, a8, n8, c8, a9, n9, c9, a10, n10, c10, a11, n11, c11, a12, n12, c12, a13, n13, c13, a14, n14, c14⟩ ⟨freq, itv, cnt, til, wkst, ends, mon, week, yday, mday, day, hour, minu, sec, pos⟩ (t / 86400) x (RA.out.below B0) d1 d2 k1 k2 G.out).mono ?_
    rintro e w1 ⟨rfl, b1⟩
    go_wp2
    go_ret
    exact ⟨rfl, B0.trans (b1.mono B0.size)⟩
  by_cases c2 : freq = 2
  · have G := Lib.hid (show yr (t / 86400) * 12 + Cv.mon (t / 86400) = x by rw [← HX2.out, if_neg (show ¬ freq = 5 by omega), if_neg (show ¬ freq = 6 by omega), if_neg (show ¬ freq = 7 by omega), if_neg (show ¬ freq = 1 by omega), if_pos c2])
    clear HX2
    have C1 := Lib.hid c1
    have C2 := Lib.hid c2
    clear c1 c2 f1 f2
    go_enter Tryz.func44, Tryz.ntmps44
    go_upto_region 1 with fail
    have B0 := alloc_below w (.cells #[.int .i64 freq, .int .i64 itv, .int .i64 cnt, .int .i64 til, .int .i64 wkst, .bool ends, .slice a6 n6 c6, .slice a7 n7 c7, .slice a8 n8 c8, .slice a9 n9 c9, .slice a10 n10 c10, .slice a11 n11 c11, .slice a12 n12 c12, .slice a13 n13 c13, .slice a14 n14 c14] 25)
    have XR0 := Box.new w #[.int .i64 freq, .int .i64 itv, .int .i64 cnt, .int .i64 til, .int .i64 wkst, .bool ends, .slice a6 n6 c6, .slice a7 n7 c7, .slice a8 n8 c8, .slice a9 n9 c9, .slice a10 n10 c10, .slice a11 n11 c11, .slice a12 n12 c12, .slice a13 n13 c13, .slice a14 n14 c14] 25
    have SR0 : w.heap.size < (w.alloc (.cells #[.int .i64 freq, .int .i64 itv, .int .i64 cnt, .int .i64 til, .int .i64 wkst, .bool ends, .slice a6 n6 c6, .slice a7 n7 c7, .slice a8 n8 c8, .slice a9 n9 c9, .slice a10 n10 c10, .slice a11 n11 c11, .slice a12 n12 c12, .slice a13 n13 c13, .slice a14 n14 c14] 25)).heap.size := by simp
    generalize w.alloc (.cells #[.int .i64 freq, .int .i64 itv, .int .i64 cnt, .int .i64 til, .int .i64 wkst, .bool ends, .slice a6 n6 c6, .slice a7 n7 c7, .slice a8 n8 c8, .slice a9 n9 c9, .slice a10 n10 c10, .slice a11 n11 c11, .slice a12 n12 c12, .slice a13 n13 c13, .slice a14 n14 c14] 25) = w0 at *
    go_wp2_with fail
    refine (rday_any t _ tl th).mono ?_
    rintro e w' ⟨rfl, rfl⟩
    have z0 : w0.cell? ⟨w.heap.size, 0, none⟩ = some (.int .i64 freq) := XR0.at_ 0 _ rfl
    have e1 : ((freq : Int) == 1) = false := by rw [beq_eq_false_iff_ne]; exact C1.out
    have e2 : ((freq : Int) == 2) = true := by rw [beq_iff_eq]; exact C2.out
    obtain ⟨y1, y2⟩ := yr_day (t / 86400) d1 d2
    obtain ⟨m1, m2, _, _⟩ := mon_bd (t / 86400)
    go_wp2_with fail
    refine (rdate_yes (t / 86400) _ d1 d2).mono ?_
    rintro e w' ⟨rfl, rfl⟩
    go_wp2
    go_ret
    exact ⟨ret_int (by rw [← G.out]; omega), B0⟩
  by_cases c3 : freq = 3
  · have G := Lib.hid (show (t / 86400 + 3 - wkst) / 7 = x by rw [← HX2.out, if_neg (show ¬ freq = 5 by omega), if_neg (show ¬ freq = 6 by omega), if_neg (show ¬ freq = 7 by omega), if_neg (show ¬ freq = 1 by omega), if_neg (show ¬ freq = 2 by omega), if_pos c3])
    clear HX2
    have C1 := Lib.hid c1
    have C2 := Lib.hid c2
    have C3 := Lib.hid c3
    clear c1 c2 c3 f1 f2
    go_enter Tryz.func44, Tryz.ntmps44
    go_upto_region 1 with fail
    have B0 := alloc_below w (.cells #[.int .i64 freq, .int .i64 itv, .int .i64 cnt, .int .i64 til, .int .i64 wkst, .bool ends, .slice a6 n6 c6, .slice a7 n7 c7, .slice a8 n8 c8, .slice a9 n9 c9, .slice a10 n10 c10, .slice a11 n11 c11, .slice a12 n12 c12, .slice a13 n13 c13, .slice a14 n14 c14] 25)
    have XR0 := Box.new w #[.int .i64 freq, .int .i64 itv, .int .i64 cnt, .int .i64 til, .int .i64 wkst, .bool ends, .slice a6 n6 c6, .slice a7 n7 c7, .slice a8 n8 c8, .slice a9 n9 c9, .slice a10 n10 c10, .slice a11 n11 c11, .slice a12 n12 c12, .slice a13 n13 c13, .slice a14 n14 c14] 25
    have SR0 : w.heap.size < (w.alloc (.cells #[.int .i64 freq, .int .i64 itv, .int .i64 cnt, .int .i64 til, .int .i64 wkst, .bool ends, .slice a6 n6 c6, .slice a7 n7 c7, .slice a8 n8 c8, .slice a9 n9 c9, .slice a10 n10 c10, .slice a11 n11 c11, .slice a12 n12 c12, .slice a13 n13 c13, .slice a14 n14 c14] 25)).heap.size := by simp
    generalize w.alloc (.cells #[.int .i64 freq, .int .i64 itv, .int .i64 cnt, .int .i64 til, .int .i64 wkst, .bool ends, .slice a6 n6 c6, .slice a7 n7 c7, .slice a8 n8 c8, .slice a9 n9 c9, .slice a10 n10 c10, .slice a11 n11 c11, .slice a12 n12 c12, .slice a13 n13 c13, .slice a14 n14 c14] 25) = w0 at *
    go_wp2_with fail
    refine (rday_any t _ tl th).mono ?_
    rintro e w' ⟨rfl, rfl⟩
    have z0 : w0.cell? ⟨w.heap.size, 0, none⟩ = some (.int .i64 freq) := XR0.at_ 0 _ rfl
    have e1 : ((freq : Int) == 1) = false := by rw [beq_eq_false_iff_ne]; exact C1.out
    have e2 : ((freq : Int) == 2) = false := by rw [beq_eq_false_iff_ne]; exact C2.out
    have e3 : ((freq : Int) == 3) = true := by rw [beq_iff_eq]; exact C3.out
    have z4 : w0.cell? ⟨w.heap.size, 4, none⟩ = some (.int .i64 wkst) := XR0.at_ 4 _ rfl
    go_wp2_with fail
    refine (down6_any (t / 86400 + 3 - wkst) 7 _ (by omega) (by omega) (by omega) (by omega)).mono ?_
    rintro e w' ⟨rfl, rfl⟩
    go_wp2
    go_ret
    exact ⟨ret_int G.out, B0⟩
  by_cases c4 : freq = 4
  · have G := Lib.hid (show t / 86400 = x by rw [← HX2.out, if_neg (show ¬ freq = 5 by omega), if_neg (show ¬ freq = 6 by omega), if_neg (show ¬ freq = 7 by omega), if_neg (show ¬ freq = 1 by omega), if_neg (show ¬ freq = 2 by omega), if_neg (show ¬ freq = 3 by omega)])
    clear HX2
    have C1 := Lib.hid c1
    have C2 := Lib.hid c2
    have C3 := Lib.hid c3
    have C4 := Lib.hid c4
    clear c1 c2 c3 c4 f1 f2
    go_enter Tryz.func44, Tryz.ntmps44
    go_upto_region 1 with fail
    have B0 := alloc_below w (.cells #[.int .i64 freq, .int .i64 itv, .int .i64 cnt, .int .i64 til, .int .i64 wkst, .bool ends, .slice a6 n6 c6, .slice a7 n7 c7, .slice a8 n8 c8, .slice a9 n9 c9, .slice a10 n10 c10, .slice a11 n11 c11, .slice a12 n12 c12, .slice a13 n13 c13, .slice a14 n14 c14] 25)
    have XR0 := Box.new w #[.int .i64 freq, .int .i64 itv, .int .i64 cnt, .int .i64 til, .int .i64 wkst, .bool ends, .slice a6 n6 c6, .slice a7 n7 c7, .slice a8 n8 c8, .slice a9 n9 c9, .slice a10 n10 c10, .slice a11 n11 c11, .slice a12 n12 c12, .slice a13 n13 c13, .slice a14 n14 c14] 25
    have SR0 : w.heap.size < (w.alloc (.cells #[.int .i64 freq, .int .i64 itv, .int .i64 cnt, .int .i64 til, .int .i64 wkst, .bool ends, .slice a6 n6 c6, .slice a7 n7 c7, .slice a8 n8 c8, .slice a9 n9 c9, .slice a10 n10 c10, .slice a11 n11 c11, .slice a12 n12 c12, .slice a13 n13 c13, .slice a14 n14 c14] 25)).heap.size := by simp
    generalize w.alloc (.cells #[.int .i64 freq, .int .i64 itv, .int .i64 cnt, .int .i64 til, .int .i64 wkst, .bool ends, .slice a6 n6 c6, .slice a7 n7 c7, .slice a8 n8 c8, .slice a9 n9 c9, .slice a10 n10 c10, .slice a11 n11 c11, .slice a12 n12 c12, .slice a13 n13 c13, .slice a14 n14 c14] 25) = w0 at *
    go_wp2_with fail
    refine (rday_any t _ tl th).mono ?_
    rintro e w' ⟨rfl, rfl⟩
    have z0 : w0.cell? ⟨w.heap.size, 0, none⟩ = some (.int .i64 freq) := XR0.at_ 0 _ rfl
    have e1 : ((freq : Int) == 1) = false := by rw [beq_eq_false_iff_ne]; exact C1.out
    have e2 : ((freq : Int) == 2) = false := by rw [beq_eq_false_iff_ne]; exact C2.out
    have e3 : ((freq : Int) == 3) = false := by rw [beq_eq_false_iff_ne]; exact C3.out
    have e4 : ((freq : Int) == 4) = true := by rw [beq_iff_eq]; exact C4.out
    go_wp2
    go_ret
    exact ⟨ret_int G.out, B0⟩
  by_cases c5 : freq = 5
  · have G := Lib.hid (show t / 3600 = x by rw [← HX2.out, if_pos c5])
    clear HX2
    have C1 := Lib.hid c1
    have C2 := Lib.hid c2
    have C3 := Lib.hid c3
    have C4 := Lib.hid c4
    have C5 := Lib.hid c5
    clear c1 c2 c3 c4 c5 f1 f2
    go_enter Tryz.func44, Tryz.ntmps44
    go_upto_region 1 with fail
    have B0 := alloc_below w (.cells #[.int .i64 freq, .int .i64 itv, .int .i64 cnt, .int .i64 til, .int .i64 wkst, .bool ends, .slice a6 n6 c6, .slice a7 n7 c7, .slice a8 n8 c8, .slice a9 n9 c9, .slice a10 n10 c10, .slice a11 n11 c11, .slice a12 n12 c12, .slice a13 n13 c13, .slice a14 n14 c14] 25)
    have XR0 := Box.new w #[.int .i64 freq, .int .i64 itv, .int .i64 cnt, .int .i64 til, .int .i64 wkst, .bool ends, .slice a6 n6 c6, .slice a7 n7 c7, .slice a8 n8 c8, .slice a9 n9 c9, .slice a10 n10 c10, .slice a11 n11 c11, .slice a12 n12 c12, .slice a13 n13 c13, .slice a14 n14 c14] 25
    have SR0 : w.heap.size < (w.alloc (.cells #[.int .i64 freq, .int .i64 itv, .int .i64 cnt, .int .i64 til, .int .i64 wkst, .bool ends, .slice a6 n6 c6, .slice a7 n7 c7, .slice a8 n8 c8, .slice a9 n9 c9, .slice a10 n10 c10, .slice a11 n11 c11, .slice a12 n12 c12, .slice a13 n13 c13, .slice a14 n14 c14] 25)).heap.size := by simp
    generalize w.alloc (.cells #[.int .i64 freq, .int .i64 itv, .int .i64 cnt, .int .i64 til, .int .i64 wkst, .bool ends, .slice a6 n6 c6, .slice a7 n7 c7, .slice a8 n8 c8, .slice a9 n9 c9, .slice a10 n10 c10, .slice a11 n11 c11, .slice a12 n12 c12, .slice a13 n13 c13, .slice a14 n14 c14] 25) = w0 at *
    go_wp2_with fail
    refine (rday_any t _ tl th).mono ?_
    rintro e w' ⟨rfl, rfl⟩
    have z0 : w0.cell? ⟨w.heap.size, 0, none⟩ = some (.int .i64 freq) := XR0.at_ 0 _ rfl
    have e1 : ((freq : Int) == 1) = false := by rw [beq_eq_false_iff_ne]; exact C1.out
    have e2 : ((freq : Int) == 2) = false := by rw [beq_eq_false_iff_ne]; exact C2.out
    have e3 : ((freq : Int) == 3) = false := by rw [beq_eq_false_iff_ne]; exact C3.out
    have e4 : ((freq : Int) == 4) = false := by rw [beq_eq_false_iff_ne]; exact C4.out
    have e5 : ((freq : Int) == 5) = true := by rw [beq_iff_eq]; exact C5.out
    go_wp2_with fail
    refine (down6_any t 3600 _ (by omega) (by omega) (by omega) (by omega)).mono ?_
    rintro e w' ⟨rfl, rfl⟩
    go_wp2
    go_ret
    exact ⟨ret_int G.out, B0⟩
  by_cases c6 : freq = 6
  · have G := Lib.hid (show t / 60 = x by rw [← HX2.out, if_neg (show ¬ freq = 5 by omega), if_pos c6])
    clear HX2
    have C1 := Lib.hid c1
    have C2 := Lib.hid c2
    have C3 := Lib.hid c3
    have C4 := Lib.hid c4
    have C5 := Lib.hid c5
    have C6 := Lib.hid c6
    clear c1 c2 c3 c4 c5 c6 f1 f2
    go_enter Tryz.func44, Tryz.ntmps44
    go_upto_region 1 with fail
    have B0 := alloc_below w (.cells #[.int .i64 freq, .int .i64 itv, .int .i64 cnt, .int .i64 til, .int .i64 wkst, .bool ends, .slice a6 n6 c6, .slice a7 n7 c7, .slice a8 n8 c8, .slice a9 n9 c9, .slice a10 n10 c10, .slice a11 n11 c11, .slice a12 n12 c12, .slice a13 n13 c13, .slice a14 n14 c14] 25)
    have XR0 := Box.new w #[.int .i64 freq, .int .i64 itv, .int .i64 cnt, .int .i64 til, .int .i64 wkst, .bool ends, .slice a6 n6 c6, .slice a7 n7 c7, .slice a8 n8 c8, .slice a9 n9 c9, .slice a10 n10 c10, .slice a11 n11 c11, .slice a12 n12 c12, .slice a13 n13 c13, .slice a14 n14 c14] 25
    have SR0 : w.heap.size < (w.alloc (.cells #[.int .i64 freq, .int .i64 itv, .int .i64 cnt, .int .i64 til, .int .i64 wkst, .bool ends, .slice a6 n6 c6, .slice a7 n7 c7, .slice a8 n8 c8, .slice a9 n9 c9, .slice a10 n10 c10, .slice a11 n11 c11, .slice a12 n12 c12, .slice a13 n13 c13, .slice a14 n14 c14] 25)).heap.size := by simp
    generalize w.alloc (.cells #[.int .i64 freq, .int .i64 itv, .int .i64 cnt, .int .i64 til, .int .i64 wkst, .bool ends, .slice a6 n6 c6, .slice a7 n7 c7, .slice a8 n8 c8, .slice a9 n9 c9, .slice a10 n10 c10, .slice a11 n11 c11, .slice a12 n12 c12, .slice a13 n13 c13, .slice a14 n14 c14] 25) = w0 at *
    go_wp2_with fail
    refine (rday_any t _ tl th).mono ?_
    rintro e w' ⟨rfl, rfl⟩
    have z0 : w0.cell? ⟨w.heap.size, 0, none⟩ = some (.int .i64 freq) := XR0.at_ 0 _ rfl
    have e1 : ((freq : Int) == 1) = false := by rw [beq_eq_false_iff_ne]; exact C1.out
    have e2 : ((freq : Int) == 2) = false := by rw [beq_eq_false_iff_ne]; exact C2.out
    have e3 : ((freq : Int) == 3) = false := by rw [beq_eq_false_iff_ne]; exact C3.out
    have e4 : ((freq : Int) == 4) = false := by rw [beq_eq_false_iff_ne]; exact C4.out
    have e5 : ((freq : Int) == 5) = false := by rw [beq_eq_false_iff_ne]; exact C5.out
    have e6 : ((freq : Int) == 6) = true := by rw [beq_iff_eq]; exact C6.out
    go_wp2_with fail
    refine (down6_any t 60 _ (by omega) (by omega) (by omega) (by omega)).mono ?_
    rintro e w' ⟨rfl, rfl⟩
    go_wp2
    go_ret
    exact ⟨ret_int G.out, B0⟩
  by_cases c7 : freq = 7
  · have G := Lib.hid (show t = x by rw [← HX2.out, if_neg (show ¬ freq = 5 by omega), if_neg (show ¬ freq = 6 by omega), if_pos c7])
    clear HX2
    have C1 := Lib.hid c1
    have C2 := Lib.hid c2
    have C3 := Lib.hid c3
    have C4 := Lib.hid c4
    have C5 := Lib.hid c5
    have C6 := Lib.hid c6
    have C7 := Lib.hid c7
    clear c1 c2 c3 c4 c5 c6 c7 f1 f2
    go_enter Tryz.func44, Tryz.ntmps44
    go_upto_region 1 with fail
    have B0 := alloc_below w (.cells #[.int .i64 freq, .int .i64 itv, .int .i64 cnt, .int .i64 til, .int .i64 wkst, .bool ends, .slice a6 n6 c6, .slice a7 n7 c7, .slice a8 n8 c8, .slice a9 n9 c9, .slice a10 n10 c10, .slice a11 n11 c11, .slice a12 n12 c12, .slice a13 n13 c13, .slice a14 n14 c14] 25)
    have XR0 := Box.new w #[.int .i64 freq, .int .i64 itv, .int .i64 cnt, .int .i64 til, .int .i64 wkst, .bool ends, .slice a6 n6 c6, .slice a7 n7 c7, .slice a8 n8 c8, .slice a9 n9 c9, .slice a10 n10 c10, .slice a11 n11 c11, .slice a12 n12 c12, .slice a13 n13 c13, .slice a14 n14 c14] 25
    have SR0 : w.heap.size < (w.alloc (.cells #[.int .i64 freq, .int .i64 itv, .int .i64 cnt, .int .i64 til, .int .i64 wkst, .bool ends, .slice a6 n6 c6, .slice a7 n7 c7, .slice a8 n8 c8, .slice a9 n9 c9, .slice a10 n10 c10, .slice a11 n11 c11, .slice a12 n12 c12, .slice a13 n13 c13, .slice a14 n14 c14] 25)).heap.size := by simp
    generalize w.alloc (.cells #[.int .i64 freq, .int .i64 itv, .int .i64 cnt, .int .i64 til, .int .i64 wkst, .bool ends, .slice a6 n6 c6, .slice a7 n7 c7, .slice a8 n8 c8, .slice a9 n9 c9, .slice a10 n10 c10, .slice a11 n11 c11, .slice a12 n12 c12, .slice a13 n13 c13, .slice a14 n14 c14] 25) = w0 at *
    go_wp2_with fail
    refine (rday_any t _ tl th).mono ?_
    rintro e w' ⟨rfl, rfl⟩
    have z0 : w0.cell? ⟨w.heap.size, 0, none⟩ = some (.int .i64 freq) := XR0.at_ 0 _ rfl
    have e1 : ((freq : Int) == 1) = false := by rw [beq_eq_false_iff_ne]; exact C1.out
    have e2 : ((freq : Int) == 2) = false := by rw [beq_eq_false_iff_ne]; exact C2.out
    have e3 : ((freq : Int) == 3) = false := by rw [beq_eq_false_iff_ne]; exact C3.out
    have e4 : ((freq : Int) == 4) = false := by rw [beq_eq_false_iff_ne]; exact C4.out
    have e5 : ((freq : Int) == 5) = false := by rw [beq_eq_false_iff_ne]; exact C5.out
    have e6 : ((freq : Int) == 6) = false := by rw [beq_eq_false_iff_ne]; exact C6.out
    go_wp2
    go_ret
    exact ⟨ret_int G.out, B0⟩
  omega
set_option maxRecDepth 100000 in
set_option maxHeartbeats 8000000 in
/-- vokref6.Period -/
theorem period6_is (w : World) (S : RS) (r : Ru) (start t a : Int) (b : Bool) (h : RuAt w S r) (hx : perR r start t = (a, b)) :
    Calls Tryz.prog 15 #[S.val r, .int .i64 start, .int .i64 t] w fun e w' => e = .returned (.tuple #[.int .i64 a, .bool b]) ∧ Below w.heap.size w w' := by
  have RA := Lib.hid h
  have HX := Lib.hid hx
  clear h hx
  obtain ⟨a6, n6, c6, a7, n7, c7, a8, n8, c8, a9, n9, c9, a10, n10, c10, a11, n11, c11, a12, n12, c12, a13, n13, c13, a14, n14, c14⟩ := S
  obtain ⟨freq, itv, cnt, til, wkst, ends, mon, week, yday, mday, day, hour, minu, sec, pos⟩ := r
  obtain ⟨m, hm⟩ : ∃ m, mayR ⟨freq, itv, cnt, til, wkst, ends, mon, week, yday, mday, day, hour, minu, sec, pos⟩ = m := ⟨_, rfl⟩
  obtain ⟨p, hp⟩ : ∃ p, St.may start = p := ⟨_, rfl⟩
  obtain ⟨q, hq⟩ : ∃ q, St.may t = q := ⟨_, rfl⟩
  have HM := Lib.hid hm
  have HP := Lib.hid hp
  have HQ := Lib.hid hq
  clear hm hp hq
  have NO := Lib.hid (fun (h : (m && p && q) = false) => show ((0 : Int), false) = (a, b) from (perR_no (r := ⟨freq, itv, cnt, til, wkst, ends, mon, week, yday, mday, day, hour, minu, sec, pos⟩) (start := start) (t := t) (by rw [HM.out, HP.out, HQ.out]; exact h)).symm.trans HX.out)
  show Calls Tryz.prog 15 #[.agg #[.int .i64 freq, .int .i64 itv, .int .i64 cnt, .int .i64 til, .int .i64 wkst, .bool ends, .slice a6 n6 c6, .slice a7 n7 c7, .slice a8 n8 c8, .slice a9 n9 c9, .slice a10 n10 c10, .slice a11 n11 c11, .slice a12 n12 c12, .slice a13 n13 c13, .slice a14 n14 c14], .int .i64 start, .int .i64 t] w _
  go_enter Tryz.func15, Tryz.ntmps15
  go_upto_region 1 with fail
  have B0 := alloc_below w (.cells #[.int .i64 freq, .int .i64 itv, .int .i64 cnt, .int .i64 til, .int .i64 wkst, .bool ends, .slice a6 n6 c6, .slice a7 n7 c7, .slice a8 n8 c8, .slice a9 n9 c9, .slice a10 n10 c10, .slice a11 n11 c11, .slice a12 n12 c12, .slice a13 n13 c13, .slice a14 n14 c14] 25)
  have XR0 := Box.new w #[.int .i64 freq, .int .i64 itv, .int .i64 cnt, .int .i64 til, .int .i64 wkst, .bool ends, .slice a6 n6 c6, .slice a7 n7 c7, .slice a8 n8 c8, .slice a9 n9 c9, .slice a10 n10 c10, .slice a11 n11 c11, .slice a12 n12 c12, .slice a13 n13 c13, .slice a14 n14 c14] 25
  have SR0 : w.heap.size < (w.alloc (.cells #[.int .i64 freq, .int .i64 itv, .int .i64 cnt, .int .i64 til, .int .i64 wkst, .bool ends, .slice a6 n6 c6, .slice a7 n7 c7, .slice a8 n8 c8, .slice a9 n9 c9, .slice a10 n10 c10, .slice a11 n11 c11, .slice a12 n12 c12, .slice a13 n13 c13, .slice a14 n14 c14] 25)).heap.size := by simp
  generalize w.alloc (.cells #[.int .i64 freq, .int .i64 itv, .int .i64 cnt, .int .i64 til, .int .i64 wkst, .bool ends, .slice a6 n6 c6, .slice a7 n7 c7, .slice a8 n8 c8, .slice a9 n9 c9, .slice a10 n10 c10, .slice a11 n11 c11, .slice a12 n12 c12, .slice a13 n13 c13, .slice a14 n14 c14] 25) = w0 at *
  have z0 : w0.cell? ⟨w.heap.size, 0, none⟩ = some (.int .i64 freq) := XR0.at_ 0 _ rfl
  have z1 : w0.cell? ⟨w.heap.size, 1, none⟩ = some (.int .i64 itv) := XR0.at_ 1 _ rfl
  have z2 : w0.cell? ⟨w.heap.size, 2, none⟩ = some (.int .i64 cnt) := XR0.at_ 2 _ rfl
  have z3 : w0.cell? ⟨w.heap.size, 3, none⟩ = some (.int .i64 til) := XR0.at_ 3 _ rfl
  have z4 : w0.cell? ⟨w.heap.size, 4, none⟩ = some (.int .i64 wkst) := XR0.at_ 4 _ rfl
  have z5 : w0.cell? ⟨w.heap.size, 5, none⟩ = some (.bool ends) := XR0.at_ 5 _ rfl
  have z6 : w0.cell? ⟨w.heap.size, 6, none⟩ = some (.slice a6 n6 c6) := XR0.at_ 6 _ rfl
  have z7 : w0.cell? ⟨w.heap.size, 7, none⟩ = some (.slice a7 n7 c7) := XR0.at_ 7 _ rfl
  have z8 : w0.cell? ⟨w.heap.size, 8, none⟩ = some (.slice a8 n8 c8) := XR0.at_ 8 _ rfl
  have z9 : w0.cell? ⟨w.heap.size, 9, none⟩ = some (.slice a9 n9 c9) := XR0.at_ 9 _ rfl
  have z10 : w0.cell? ⟨w.heap.size, 10, none⟩ = some (.slice a10 n10 c10) := XR0.at_ 10 _ rfl
  have z11 : w0.cell? ⟨w.heap.size, 11, none⟩ = some (.slice a11 n11 c11) := XR0.at_ 11 _ rfl
  have z12 : w0.cell? ⟨w.heap.size, 12, none⟩ = some (.slice a12 n12 c12) := XR0.at_ 12 _ rfl
  have z13 : w0.cell? ⟨w.heap.size, 13, none⟩ = some (.slice a13 n13 c13) := XR0.at_ 13 _ rfl
  have z14 : w0.cell? ⟨w.heap.size, 14, none⟩ = some (.slice a14 n14 c14) := XR0.at_ 14 _ rfl
  go_wp2_with fail
  refine (right_is _ ⟨a6, n6, c6, a7, n7, c7, a8, n8, c8, a9, n9, c9, a10, n10, c10, a11, n11, c11, a12, n12, c12, a13, n13, c13, a14, n14, c14⟩ ⟨freq, itv, cnt, til, wkst, ends, mon, week, yday, mday, day, hour, minu, sec, pos⟩ start m p (RA.out.below B0) HM.out HP.out).mono ?_
  rintro e w1 ⟨rfl, b1⟩
  clear z0 z1 z2 z3 z4 z5 z6 z7 z8 z9 z10 z11 z12 z13 z14
  have B1 := B0.trans (b1.mono B0.size)
  have XR1 := XR0.below b1
  clear B0 XR0 b1 SR0
  cases m
  · have e := NO.out (by simp)
    obtain ⟨rfl, rfl⟩ := Prod.mk.inj e
    go_wp2
    go_ret2
    exact ⟨rfl, B1⟩
  · cases p
    · have e := NO.out (by simp)
      obtain ⟨rfl, rfl⟩ := Prod.mk.inj e
      go_wp2
      go_ret2
      exact ⟨rfl, B1⟩
    · go_wp2_with fail
      refine (rmay_any t _).mono ?_
      rintro e w' ⟨rfl, rfl⟩
      rw [HQ.out]
      cases q
      · have e := NO.out (by simp)
        obtain ⟨rfl, rfl⟩ := Prod.mk.inj e
        go_wp2
        go_ret2
        exact ⟨rfl, B1⟩
      · clear NO
        have pb := per_bd HM.out HQ.out
        have pc := per_bd HM.out HP.out
        have e := (perR_yes HM.out HP.out HQ.out).symm.trans HX.out
        obtain ⟨e1, rfl⟩ := Prod.mk.inj e
        obtain ⟨u, hu⟩ : ∃ u, per ⟨freq, itv, cnt, til, wkst, ends, mon, week, yday, mday, day, hour, minu, sec, pos⟩ t = u := ⟨_, rfl⟩
        obtain ⟨v, hv⟩ : ∃ v, per ⟨freq, itv, cnt, til, wkst, ends, mon, week, yday, mday, day, hour, minu, sec, pos⟩ start = v := ⟨_, rfl⟩
        rw [hu] at pb e1
        rw [hv] at pc e1
        have HU := Lib.hid hu
        have HV := Lib.hid hv
        subst e1
        clear hu hv e
        go_upto_region 3 with fail
        refine wp_region_late (fun _ => false) (fun v => Below w1.heap.size w1 v) (by kernel_rfl) ?_
        have D0 : Below w1.heap.size w1 w1.drew := (Below.refl _ _).drew
        refine Late.take 0 (.agg #[.int .i64 freq, .int .i64 itv, .int .i64 cnt, .int .i64 til, .int .i64 wkst, .bool ends, .slice a6 n6 c6, .slice a7 n7 c7, .slice a8 n8 c8, .slice a9 n9 c9, .slice a10 n10 c10, .slice a11 n11 c11, .slice a12 n12 c12, .slice a13 n13 c13, .slice a14 n14 c14]) rfl (by kernel_rfl) (by kernel_rfl) (by kernel_rfl) (by kernel_rfl) (fun _ _ _ h => h) (.inl ⟨rfl, fun w' hs => ?_⟩) D0 ?_
        · have XQ := XR1.below hs
          have z0 : w'.cell? ⟨w.heap.size, 0, none⟩ = some (.int .i64 freq) := XQ.at_ 0 _ rfl
          have z1 : w'.cell? ⟨w.heap.size, 1, none⟩ = some (.int .i64 itv) := XQ.at_ 1 _ rfl
          have z2 : w'.cell? ⟨w.heap.size, 2, none⟩ = some (.int .i64 cnt) := XQ.at_ 2 _ rfl
          have z3 : w'.cell? ⟨w.heap.size, 3, none⟩ = some (.int .i64 til) := XQ.at_ 3 _ rfl
          have z4 : w'.cell? ⟨w.heap.size, 4, none⟩ = some (.int .i64 wkst) := XQ.at_ 4 _ rfl
          have z5 : w'.cell? ⟨w.heap.size, 5, none⟩ = some (.bool ends) := XQ.at_ 5 _ rfl
          have z6 : w'.cell? ⟨w.heap.size, 6, none⟩ = some (.slice a6 n6 c6) := XQ.at_ 6 _ rfl
          have z7 : w'.cell? ⟨w.heap.size, 7, none⟩ = some (.slice a7 n7 c7) := XQ.at_ 7 _ rfl
          have z8 : w'.cell? ⟨w.heap.size, 8, none⟩ = some (.slice a8 n8 c8) := XQ.at_ 8 _ rfl
          have z9 : w'.cell? ⟨w.heap.size, 9, none⟩ = some (.slice a9 n9 c9) := XQ.at_ 9 _ rfl
          have z10 : w'.cell? ⟨w.heap.size, 10, none⟩ = some (.slice a10 n10 c10) := XQ.at_ 10 _ rfl
          have z11 : w'.cell? ⟨w.heap.size, 11, none⟩ = some (.slice a11 n11 c11) := XQ.at_ 11 _ rfl
          have z12 : w'.cell? ⟨w.heap.size, 12, none⟩ = some (.slice a12 n12 c12) := XQ.at_ 12 _ rfl
          have z13 : w'.cell? ⟨w.heap.size, 13, none⟩ = some (.slice a13 n13 c13) := XQ.at_ 13 _ rfl
          have z14 : w'.cell? ⟨w.heap.size, 14, none⟩ = some (.slice a14 n14 c14) := XQ.at_ 14 _ rfl
          clear XQ
          go_simp
        refine Late.take 1 (.int .i64 t) rfl (by kernel_rfl) (by kernel_rfl) (by kernel_rfl) (by kernel_rfl) (fun _ _ _ h => h) (.inl ⟨rfl, fun w' hs => ?_⟩) D0 ?_
        · go_simp
        refine Late.take 3 (.agg #[.int .i64 freq, .int .i64 itv, .int .i64 cnt, .int .i64 til, .int .i64 wkst, .bool ends, .slice a6 n6 c6, .slice a7 n7 c7, .slice a8 n8 c8, .slice a9 n9 c9, .slice a10 n10 c10, .slice a11 n11 c11, .slice a12 n12 c12, .slice a13 n13 c13, .slice a14 n14 c14]) rfl (by kernel_rfl) (by kernel_rfl) (by kernel_rfl) (by kernel_rfl) (fun _ _ _ h => h) (.inl ⟨rfl, fun w' hs => ?_⟩) D0 ?_
        · have XQ := XR1.below hs
          have z0 : w'.cell? ⟨w.heap.size, 0, none⟩ = some (.int .i64 freq) := XQ.at_ 0 _ rfl
          have z1 : w'.cell? ⟨w.heap.size, 1, none⟩ = some (.int .i64 itv) := XQ.at_ 1 _ rfl
          have z2 : w'.cell? ⟨w.heap.size, 2, none⟩ = some (.int .i64 cnt) := XQ.at_ 2 _ rfl
          have z3 : w'.cell? ⟨w.heap.size, 3, none⟩ = some (.int .i64 til) := XQ.at_ 3 _ rfl
          have z4 : w'.cell? ⟨w.heap.size, 4, none⟩ = some (.int .i64 wkst) := XQ.at_ 4 _ rfl
          have z5 : w'.cell? ⟨w.heap.size, 5, none⟩ = some (.bool ends) := XQ.at_ 5 _ rfl
          have z6 : w'.cell? ⟨w.heap.size, 6, none⟩ = some (.slice a6 n6 c6) := XQ.at_ 6 _ rfl
          have z7 : w'.cell? ⟨w.heap.size, 7, none⟩ = some (.slice a7 n7 c7) := XQ.at_ 7 _ rfl
          have z8 : w'.cell? ⟨w.heap.size, 8, none⟩ = some (.slice a8 n8 c8) := XQ.at_ 8 _ rfl
          have z9 : w'.cell? ⟨w.heap.size, 9, none⟩ = some (.slice a9 n9 c9) := XQ.at_ 9 _ rfl
          have z10 : w'.cell? ⟨w.heap.size, 10, none⟩ = some (.slice a10 n10 c10) := XQ.at_ 10 _ rfl
          have z11 : w'.cell? ⟨w.heap.size, 11, none⟩ = some (.slice a11 n11 c11) := XQ.at_ 11 _ rfl
          have z12 : w'.cell? ⟨w.heap.size, 12, none⟩ = some (.slice a12 n12 c12) := XQ.at_ 12 _ rfl
          have z13 : w'.cell? ⟨w.heap.size, 13, none⟩ = some (.slice a13 n13 c13) := XQ.at_ 13 _ rfl
          have z14 : w'.cell? ⟨w.heap.size, 14, none⟩ = some (.slice a14 n14 c14) := XQ.at_ 14 _ rfl
          clear XQ
          go_simp
        refine Late.take 4 (.int .i64 start) rfl (by kernel_rfl) (by kernel_rfl) (by kernel_rfl) (by kernel_rfl) (fun _ _ _ h => h) (.inl ⟨rfl, fun w' hs => ?_⟩) D0 ?_
        · go_simp
        refine Late.one 2 rfl (by kernel_rfl) rfl ?_
        go_simp
        refine (number_is _ ⟨a6, n6, c6, a7, n7, c7, a8, n8, c8, a9, n9, c9, a10, n10, c10, a11, n11, c11, a12, n12, c12, a13, n13, c13, a14, n14, c14⟩ ⟨freq, itv, cnt, til, wkst, ends, mon, week, yday, mday, day, hour, minu, sec, pos⟩ t u (RA.out.below (B1.trans (D0.mono B1.size))) HM.out HQ.out HU.out).mono ?_
        rintro e x1 ⟨rfl, b1⟩
        have D1 := D0.trans (b1.mono D0.size)
        refine ⟨D1, ?_⟩
        refine Late.one 5 rfl (by kernel_rfl) rfl ?_
        go_simp
        refine (number_is _ ⟨a6, n6, c6, a7, n7, c7, a8, n8, c8, a9, n9, c9, a10, n10, c10, a11, n11, c11, a12, n12, c12, a13, n13, c13, a14, n14, c14⟩ ⟨freq, itv, cnt, til, wkst, ends, mon, week, yday, mday, day, hour, minu, sec, pos⟩ start v (RA.out.below (B1.trans (D1.mono B1.size))) HM.out HP.out HV.out).mono ?_
        rintro e x2 ⟨rfl, b2⟩
        have D2 := D1.trans (b2.mono D1.size)
        refine ⟨D2, ?_⟩
        refine Late.take 6 (.int .i64 (u - v)) rfl (by kernel_rfl) (by kernel_rfl) (by kernel_rfl) (by kernel_rfl) (fun _ _ _ h => h) (.inl ⟨rfl, fun w' hs => ?_⟩) D2 ?_
        · go_simp
          exact IntWalk.i64_in _ (by omega)
        refine Late.take 7 (.int .i64 (u - v)) rfl (by kernel_rfl) (by kernel_rfl) (by kernel_rfl) (by kernel_rfl) (fun _ _ _ h => h) (.inl ⟨rfl, fun w' hs => ?_⟩) D2 ?_
        · go_simp
        refine Late.take 8 (.bool true) rfl (by kernel_rfl) (by kernel_rfl) (by kernel_rfl) (by kernel_rfl) (fun _ _ _ h => h) (.inl ⟨rfl, fun w' hs => ?_⟩) D2 ?_
        · go_simp
        refine Late.done (by kernel_rfl) ?_
        go_wp2
        go_ret2
        exact ⟨rfl, B1.trans (D2.mono B1.size)⟩
theorem days_down {r : Ru} {t lo : Int} (hf : r.freq ≤ 4) (hl : max (pfirst r (t / 86400)) (-719162) = lo) :
    (∀ a, lo < a → a ≤ t / 86400 → per r ((a - 1) * 86400) = per r t) ∧ (-719162 < lo → per r ((lo - 1) * 86400) ≠ per r t) := by
  have i := p_in r (t / 86400)
  refine ⟨fun a h1 h2 => ?_, fun h e => ?_⟩
  · rw [per_day hf, per_day hf, show (a - 1) * 86400 / 86400 = a - 1 from by omega]
    exact p_same ⟨by omega, by omega⟩
  · rw [per_day hf, per_day hf, show (lo - 1) * 86400 / 86400 = lo - 1 from by omega] at e
    have := (p_iff.1 e).1
    omega
theorem days_up {r : Ru} {t hi : Int} (hf : r.freq ≤ 4) (hh : min (plast r (t / 86400)) 2932896 = hi) :
    (∀ a, a < hi → t / 86400 ≤ a → per r ((a + 1) * 86400) = per r t) ∧ (hi < 2932896 → per r ((hi + 1) * 86400) ≠ per r t) := by
  have i := p_in r (t / 86400)
  refine ⟨fun a h1 h2 => ?_, fun h e => ?_⟩
  · rw [per_day hf, per_day hf, show (a + 1) * 86400 / 86400 = a + 1 from by omega]
    exact p_same ⟨by omega, by omega⟩
  · rw [per_day hf, per_day hf, show (hi + 1) * 86400 / 86400 = hi + 1 from by omega] at e
    have := (p_iff.1 e).2
    omega
theorem may_mul {a : Int} : St.may (a * 86400) = decide (-719162 ≤ a ∧ a ≤ 2932896) := decide_eq_decide.2 (by omega)
set_option maxRecDepth 100000 in
set_option maxHeartbeats 16000000 in
/-- vokref6.Days -/
theorem days6_is (w : World) (S : RS) (r : Ru) (t a b : Int) (h : RuAt w S r) (hx : daysR r t = (a, b)) :
    Calls Tryz.prog 17 #[S.val r, .int .i64 t] w fun e w' => e = .returned (.tuple #[.int .i64 a, .int .i64 b]) ∧ Below w.heap.size w w' := by
  have RA := Lib.hid h
  have HX := Lib.hid hx
  clear h hx
  obtain ⟨a6, n6, c6, a7, n7, c7, a8, n8, c8, a9, n9, c9, a10, n10, c10, a11, n11, c11, a12, n12, c12, a13, n13, c13, a14, n14, c14⟩ := S
  obtain ⟨freq, itv, cnt, til, wkst, ends, mon, week, yday, mday, day, hour, minu, sec, pos⟩ := r
  obtain ⟨m, hm⟩ : ∃ m, mayR ⟨freq, itv, cnt, til, wkst, ends, mon, week, yday, mday, day, hour, minu, sec, pos⟩ = m := ⟨_, rfl⟩
  obtain ⟨q, hq⟩ : ∃ q, St.may t = q := ⟨_, rfl⟩
  have HM := Lib.hid hm
  have HQ := Lib.hid hq
  clear hm hq
  have NO := Lib.hid (fun (h : (m && q) = false) => show ((0 : Int), (0 : Int)) = (a, b) from (daysR_no (r := ⟨freq, itv, cnt, til, wkst, ends, mon, week, yday, mday, day, hour, minu, sec, pos⟩) (t := t) (by rw [HM.out, HQ.out]; exact h)).symm.trans HX.out)
  show Calls Tryz.prog 17 #[.agg #[.int .i64 freq, .int .i64 itv, .int .i64 cnt, .int .i64 til, .int .i64 wkst, .bool ends, .slice a6 n6 c6, .slice a7 n7 c7, .slice a8 n8 c8, .slice a9 n9 c9, .slice a10 n10 c10, .slice a11 n11 c11, .slice a12 n12 c12, .slice a13 n13 c13, .slice a14 n14 c14], .int .i64 t] w _
  go_enter Tryz.func17, Tryz.ntmps17
  go_upto_region 1 with fail
  have B0 := alloc_below w (.cells #[.int .i64 freq, .int .i64 itv, .int .i64 cnt, .int .i64 til, .int .i64 wkst, .bool ends, .slice a6 n6 c6, .slice a7 n7 c7, .slice a8 n8 c8, .slice a9 n9 c9, .slice a10 n10 c10, .slice a11 n11 c11, .slice a12 n12 c12, .slice a13 n13 c13, .slice a14 n14 c14] 25)
  have XR0 := Box.new w #[.int .i64 freq, .int .i64 itv, .int .i64 cnt, .int .i64 til, .int .i64 wkst, .bool ends, .slice a6 n6 c6, .slice a7 n7 c7, .slice a8 n8 c8, .slice a9 n9 c9, .slice a10 n10 c10, .slice a11 n11 c11, .slice a12 n12 c12, .slice a13 n13 c13, .slice a14 n14 c14] 25
  have SR0 : w.heap.size < (w.alloc (.cells #[.int .i64 freq, .int .i64 itv, .int .i64 cnt, .int .i64 til, .int .i64 wkst, .bool ends, .slice a6 n6 c6, .slice a7 n7 c7, .slice a8 n8 c8, .slice a9 n9 c9, .slice a10 n10 c10, .slice a11 n11 c11, .slice a12 n12 c12, .slice a13 n13 c13, .slice a14 n14 c14] 25)).heap.size := by simp
  generalize w.alloc (.cells #[.int .i64 freq, .int .i64 itv, .int .i64 cnt, .int .i64 til, .int .i64 wkst, .bool ends, .slice a6 n6 c6, .slice a7 n7 c7, .slice a8 n8 c8, .slice a9 n9 c9, .slice a10 n10 c10, .slice a11 n11 c11, .slice a12 n12 c12, .slice a13 n13 c13, .slice a14 n14 c14] 25) = w0 at *
  have z0 : w0.cell? ⟨w.heap.size, 0, none⟩ = some (.int .i64 freq) := XR0.at_ 0 _ rfl
  have z1 : w0.cell? ⟨w.heap.size, 1, none⟩ = some (.int .i64 itv) := XR0.at_ 1 _ rfl
  have z2 : w0.cell? ⟨w.heap.size, 2, none⟩ = some (.int .i64 cnt) := XR0.at_ 2 _ rfl
  have z3 : w0.cell? ⟨w.heap.size, 3, none⟩ = some (.int .i64 til) := XR0.at_ 3 _ rfl
  have z4 : w0.cell? ⟨w.heap.size, 4, none⟩ = some (.int .i64 wkst) := XR0.at_ 4 _ rfl
  have z5 : w0.cell? ⟨w.heap.size, 5, none⟩ = some (.bool ends) := XR0.at_ 5 _ rfl
  have z6 : w0.cell? ⟨w.heap.size, 6, none⟩ = some (.slice a6 n6 c6) := XR0.at_ 6 _ rfl
  have z7 : w0.cell? ⟨w.heap.size, 7, none⟩ = some (.slice a7 n7 c7) := XR0.at_ 7 _ rfl
  have z8 : w0.cell? ⟨w.heap.size, 8, none⟩ = some (.slice a8 n8 c8) := XR0.at_ 8 _ rfl
  have z9 : w0.cell? ⟨w.heap.size, 9, none⟩ = some (.slice a9 n9 c9) := XR0.at_ 9 _ rfl
  have z10 : w0.cell? ⟨w.heap.size, 10, none⟩ = some (.slice a10 n10 c10) := XR0.at_ 10 _ rfl
  have z11 : w0.cell? ⟨w.heap.size, 11, none⟩ = some (.slice a11 n11 c11) := XR0.at_ 11 _ rfl
  have z12 : w0.cell? ⟨w.heap.size, 12, none⟩ = some (.slice a12 n12 c12) := XR0.at_ 12 _ rfl
  have z13 : w0.cell? ⟨w.heap.size, 13, none⟩ = some (.slice a13 n13 c13) := XR0.at_ 13 _ rfl
  have z14 : w0.cell? ⟨w.heap.size, 14, none⟩ = some (.slice a14 n14 c14) := XR0.at_ 14 _ rfl
  go_wp2_with fail
  refine (right_is _ ⟨a6, n6, c6, a7, n7, c7, a8, n8, c8, a9, n9, c9, a10, n10, c10, a11, n11, c11, a12, n12, c12, a13, n13, c13, a14, n14, c14⟩ ⟨freq, itv, cnt, til, wkst, ends, mon, week, yday, mday, day, hour, minu, sec, pos⟩ t m q (RA.out.below B0) HM.out HQ.out).mono ?_
  rintro e w1 ⟨rfl, b1⟩
  clear z0 z1 z2 z3 z4 z5 z6 z7 z8 z9 z10 z11 z12 z13 z14
  have B1 := B0.trans (b1.mono B0.size)
  have XR1 := XR0.below b1
  clear B0 XR0 b1 SR0
  cases m
  · have e := NO.out (by simp)
    obtain ⟨rfl, rfl⟩ := Prod.mk.inj e
    go_wp2
    go_ret2
    exact ⟨rfl, B1⟩
  · cases q
    · have e := NO.out (by simp)
      obtain ⟨rfl, rfl⟩ := Prod.mk.inj e
      go_wp2
      go_ret2
      exact ⟨rfl, B1⟩
    · clear NO
      have ht1 := of_decide_eq_true HQ.out
      have td := may_day ht1.1 ht1.2
      have tl : -9223372036854775808 ≤ t := by omega
      have th : t ≤ 9223372036854775807 := by omega
      have e := (daysR_yes HM.out HQ.out).symm.trans HX.out
      obtain ⟨ea, eb⟩ := Prod.mk.inj e
      have dn := rise_days (r := ⟨freq, itv, cnt, til, wkst, ends, mon, week, yday, mday, day, hour, minu, sec, pos⟩) HQ.out
      rw [ea, eb] at dn
      clear e ht1
      go_wp2_with fail
      refine (rday_any t _ tl th).mono ?_
      rintro e w' ⟨rfl, rfl⟩
      by_cases hf : 4 < freq
      · have el := rise_late (r := ⟨freq, itv, cnt, til, wkst, ends, mon, week, yday, mday, day, hour, minu, sec, pos⟩) (t := t) hf HQ.out
        rw [ea, eb] at el
        have e1 : t / 86400 = a := by omega
        have e2 : t / 86400 = b := by omega
        have E1 := Lib.hid e1
        have E2 := Lib.hid e2
        have c : decide (4 < freq) = true := decide_eq_true hf
        clear e1 e2 el ea eb dn
        have z0 : w1.cell? ⟨w.heap.size, 0, none⟩ = some (.int .i64 freq) := XR1.at_ 0 _ rfl
        go_wp2
        go_ret2
        exact ⟨ret_two E1.out E2.out, B1⟩
      · have c : decide (4 < freq) = false := decide_eq_false hf
        have DD := Lib.hid (days_down (r := ⟨freq, itv, cnt, til, wkst, ends, mon, week, yday, mday, day, hour, minu, sec, pos⟩) (t := t) (by show freq ≤ 4; omega) ea)
        have DU := Lib.hid (days_up (r := ⟨freq, itv, cnt, til, wkst, ends, mon, week, yday, mday, day, hour, minu, sec, pos⟩) (t := t) (by show freq ≤ 4; omega) eb)
        obtain ⟨k, hk⟩ : ∃ k, per ⟨freq, itv, cnt, til, wkst, ends, mon, week, yday, mday, day, hour, minu, sec, pos⟩ t = k := ⟨_, rfl⟩
        have HK := Lib.hid hk
        clear hk ea eb
        have z0 : w1.cell? ⟨w.heap.size, 0, none⟩ = some (.int .i64 freq) := XR1.at_ 0 _ rfl
        have z1 : w1.cell? ⟨w.heap.size, 1, none⟩ = some (.int .i64 itv) := XR1.at_ 1 _ rfl
        have z2 : w1.cell? ⟨w.heap.size, 2, none⟩ = some (.int .i64 cnt) := XR1.at_ 2 _ rfl
        have z3 : w1.cell? ⟨w.heap.size, 3, none⟩ = some (.int .i64 til) := XR1.at_ 3 _ rfl
        have z4 : w1.cell? ⟨w.heap.size, 4, none⟩ = some (.int .i64 wkst) := XR1.at_ 4 _ rfl
        have z5 : w1.cell? ⟨w.heap.size, 5, none⟩ = some (.bool ends) := XR1.at_ 5 _ rfl
        have z6 : w1.cell? ⟨w.heap.size, 6, none⟩ = some (.slice a6 n6 c6) := XR1.at_ 6 _ rfl
        have z7 : w1.cell? ⟨w.heap.size, 7, none⟩ = some (.slice a7 n7 c7) := XR1.at_ 7 _ rfl
        have z8 : w1.cell? ⟨w.heap.size, 8, none⟩ = some (.slice a8 n8 c8) := XR1.at_ 8 _ rfl
        have z9 : w1.cell? ⟨w.heap.size, 9, none⟩ = some (.slice a9 n9 c9) := XR1.at_ 9 _ rfl
        have z10 : w1.cell? ⟨w.heap.size, 10, none⟩ = some (.slice a10 n10 c10) := XR1.at_ 10 _ rfl
        have z11 : w1.cell? ⟨w.heap.size, 11, none⟩ = some (.slice a11 n11 c11) := XR1.at_ 11 _ rfl
        have z12 : w1.cell? ⟨w.heap.size, 12, none⟩ = some (.slice a12 n12 c12) := XR1.at_ 12 _ rfl
        have z13 : w1.cell? ⟨w.heap.size, 13, none⟩ = some (.slice a13 n13 c13) := XR1.at_ 13 _ rfl
        have z14 : w1.cell? ⟨w.heap.size, 14, none⟩ = some (.slice a14 n14 c14) := XR1.at_ 14 _ rfl
        go_wp2_with fail
        refine (number_is _ ⟨a6, n6, c6, a7, n7, c7, a8, n8, c8, a9, n9, c9, a10, n10, c10, a11, n11, c11, a12, n12, c12, a13, n13, c13, a14, n14, c14⟩ ⟨freq, itv, cnt, til, wkst, ends, mon, week, yday, mday, day, hour, minu, sec, pos⟩ t k (RA.out.below B1) HM.out HQ.out HK.out).mono ?_
        rintro e w2 ⟨rfl, b2⟩
        have B2 := B1.trans (b2.mono B1.size)
        have XR2 := XR1.below b2
        clear B1 XR1 b2
        clear z0 z1 z2 z3 z4 z5 z6 z7 z8 z9 z10 z11 z12 z13 z14
        have DN := Lib.hid dn
        generalize t / 86400 = n at *
        have DD2 := Lib.hid (show (∀ z, a < z → z ≤ n → per ⟨freq, itv, cnt, til, wkst, ends, mon, week, yday, mday, day, hour, minu, sec, pos⟩ ((z - 1) * 86400) = k) ∧ (-719162 < a → per ⟨freq, itv, cnt, til, wkst, ends, mon, week, yday, mday, day, hour, minu, sec, pos⟩ ((a - 1) * 86400) ≠ k) from by rw [← HK.out]; exact DD.out)
        have DU2 := Lib.hid (show (∀ z, z < b → n ≤ z → per ⟨freq, itv, cnt, til, wkst, ends, mon, week, yday, mday, day, hour, minu, sec, pos⟩ ((z + 1) * 86400) = k) ∧ (b < 2932896 → per ⟨freq, itv, cnt, til, wkst, ends, mon, week, yday, mday, day, hour, minu, sec, pos⟩ ((b + 1) * 86400) ≠ k) from by rw [← HK.out]; exact DU.out)
        clear DD DU c
        obtain ⟨dn1, dn2, dn3, dn4⟩ := dn
        go_wp2
        go_loopw [8] (fun i wr => ∃ z : Int, i = .int .i64 z ∧ (a ≤ z ∧ z ≤ n) ∧ Below w2.heap.size w2 wr) (fun i _ => (intOf i - a).toNat)
        case atStart => exact ⟨n, rfl, ⟨by omega, Int.le_refl _⟩, Below.refl _ _⟩
        case round =>
          obtain ⟨zd, rfl, hzd, brd⟩ := hrel
          have XRr : Box wr w.heap.size #[.int .i64 freq, .int .i64 itv, .int .i64 cnt, .int .i64 til, .int .i64 wkst, .bool ends, .slice a6 n6 c6, .slice a7 n7 c7, .slice a8 n8 c8, .slice a9 n9 c9, .slice a10 n10 c10, .slice a11 n11 c11, .slice a12 n12 c12, .slice a13 n13 c13, .slice a14 n14 c14] := XR2.below brd
          have BRd : Below w.heap.size w wr := B2.trans (brd.mono B2.size)
          obtain ⟨hz1d, hz2d⟩ := hzd
          by_cases hlt : a < zd
          · have M := Lib.hid (show St.may ((zd - 1) * 86400) = true by rw [may_mul]; exact decide_eq_true (by omega))
            have P := Lib.hid (DD2.out.1 zd hlt hz2d)
            have z0 : wr.cell? ⟨w.heap.size, 0, none⟩ = some (.int .i64 freq) := XRr.at_ 0 _ rfl
            have z1 : wr.cell? ⟨w.heap.size, 1, none⟩ = some (.int .i64 itv) := XRr.at_ 1 _ rfl
            have z2 : wr.cell? ⟨w.heap.size, 2, none⟩ = some (.int .i64 cnt) := XRr.at_ 2 _ rfl
            have z3 : wr.cell? ⟨w.heap.size, 3, none⟩ = some (.int .i64 til) := XRr.at_ 3 _ rfl
            have z4 : wr.cell? ⟨w.heap.size, 4, none⟩ = some (.int .i64 wkst) := XRr.at_ 4 _ rfl
            have z5 : wr.cell? ⟨w.heap.size, 5, none⟩ = some (.bool ends) := XRr.at_ 5 _ rfl
            have z6 : wr.cell? ⟨w.heap.size, 6, none⟩ = some (.slice a6 n6 c6) := XRr.at_ 6 _ rfl
            have z7 : wr.cell? ⟨w.heap.size, 7, none⟩ = some (.slice a7 n7 c7) := XRr.at_ 7 _ rfl
            have z8 : wr.cell? ⟨w.heap.size, 8, none⟩ = some (.slice a8 n8 c8) := XRr.at_ 8 _ rfl
            have z9 : wr.cell? ⟨w.heap.size, 9, none⟩ = some (.slice a9 n9 c9) := XRr.at_ 9 _ rfl
            have z10 : wr.cell? ⟨w.heap.size, 10, none⟩ = some (.slice a10 n10 c10) := XRr.at_ 10 _ rfl
            have z11 : wr.cell? ⟨w.heap.size, 11, none⟩ = some (.slice a11 n11 c11) := XRr.at_ 11 _ rfl
            have z12 : wr.cell? ⟨w.heap.size, 12, none⟩ = some (.slice a12 n12 c12) := XRr.at_ 12 _ rfl
            have z13 : wr.cell? ⟨w.heap.size, 13, none⟩ = some (.slice a13 n13 c13) := XRr.at_ 13 _ rfl
            have z14 : wr.cell? ⟨w.heap.size, 14, none⟩ = some (.slice a14 n14 c14) := XRr.at_ 14 _ rfl
            go_wp2_with fail
            refine (rmay_any ((zd - 1) * 86400) _).mono ?_
            rintro e w' ⟨rfl, rfl⟩
            rw [M.out]
            go_wp2_with fail
            refine (number_is _ ⟨a6, n6, c6, a7, n7, c7, a8, n8, c8, a9, n9, c9, a10, n10, c10, a11, n11, c11, a12, n12, c12, a13, n13, c13, a14, n14, c14⟩ ⟨freq, itv, cnt, til, wkst, ends, mon, week, yday, mday, day, hour, minu, sec, pos⟩ ((zd - 1) * 86400) k (RA.out.below BRd) HM.out M.out P.out).mono ?_
            rintro e w5 ⟨rfl, b5⟩
            clear z0 z1 z2 z3 z4 z5 z6 z7 z8 z9 z10 z11 z12 z13 z14
            have q : ((k : Int) == k) = true := by rw [beq_iff_eq]
            go_wp2
            go_roundw
            case rel => exact ⟨(zd - 1), by go_num, ⟨by omega, by omega⟩, brd.trans (b5.mono brd.size)⟩
            case measure => simp [intOf]; omega
          · obtain rfl : zd = a := by omega
            by_cases hb : -719162 < zd
            · have M := Lib.hid (show St.may ((zd - 1) * 86400) = true by rw [may_mul]; exact decide_eq_true (by omega))
              obtain ⟨y, hy⟩ : ∃ y, per ⟨freq, itv, cnt, til, wkst, ends, mon, week, yday, mday, day, hour, minu, sec, pos⟩ ((zd - 1) * 86400) = y := ⟨_, rfl⟩
              have HY := Lib.hid hy
              have P := Lib.hid (show ¬ y = k by rw [← hy]; exact DD2.out.2 hb)
              clear hy
              have z0 : wr.cell? ⟨w.heap.size, 0, none⟩ = some (.int .i64 freq) := XRr.at_ 0 _ rfl
              have z1 : wr.cell? ⟨w.heap.size, 1, none⟩ = some (.int .i64 itv) := XRr.at_ 1 _ rfl
              have z2 : wr.cell? ⟨w.heap.size, 2, none⟩ = some (.int .i64 cnt) := XRr.at_ 2 _ rfl
              have z3 : wr.cell? ⟨w.heap.size, 3, none⟩ = some (.int .i64 til) := XRr.at_ 3 _ rfl
              have z4 : wr.cell? ⟨w.heap.size, 4, none⟩ = some (.int .i64 wkst) := XRr.at_ 4 _ rfl
              have z5 : wr.cell? ⟨w.heap.size, 5, none⟩ = some (.bool ends) := XRr.at_ 5 _ rfl
              have z6 : wr.cell? ⟨w.heap.size, 6, none⟩ = some (.slice a6 n6 c6) := XRr.at_ 6 _ rfl
              have z7 : wr.cell? ⟨w.heap.size, 7, none⟩ = some (.slice a7 n7 c7) := XRr.at_ 7 _ rfl
              have z8 : wr.cell? ⟨w.heap.size, 8, none⟩ = some (.slice a8 n8 c8) := XRr.at_ 8 _ rfl
              have z9 : wr.cell? ⟨w.heap.size, 9, none⟩ = some (.slice a9 n9 c9) := XRr.at_ 9 _ rfl
              have z10 : wr.cell? ⟨w.heap.size, 10, none⟩ = some (.slice a10 n10 c10) := XRr.at_ 10 _ rfl
              have z11 : wr.cell? ⟨w.heap.size, 11, none⟩ = some (.slice a11 n11 c11) := XRr.at_ 11 _ rfl
              have z12 : wr.cell? ⟨w.heap.size, 12, none⟩ = some (.slice a12 n12 c12) := XRr.at_ 12 _ rfl
              have z13 : wr.cell? ⟨w.heap.size, 13, none⟩ = some (.slice a13 n13 c13) := XRr.at_ 13 _ rfl
              have z14 : wr.cell? ⟨w.heap.size, 14, none⟩ = some (.slice a14 n14 c14) := XRr.at_ 14 _ rfl
              go_wp2_with fail
              refine (rmay_any ((zd - 1) * 86400) _).mono ?_
              rintro e w' ⟨rfl, rfl⟩
              rw [M.out]
              go_wp2_with fail
              refine (number_is _ ⟨a6, n6, c6, a7, n7, c7, a8, n8, c8, a9, n9, c9, a10, n10, c10, a11, n11, c11, a12, n12, c12, a13, n13, c13, a14, n14, c14⟩ ⟨freq, itv, cnt, til, wkst, ends, mon, week, yday, mday, day, hour, minu, sec, pos⟩ ((zd - 1) * 86400) y (RA.out.below BRd) HM.out M.out HY.out).mono ?_
              rintro e w5 ⟨rfl, b5⟩
              clear z0 z1 z2 z3 z4 z5 z6 z7 z8 z9 z10 z11 z12 z13 z14
              have q : ((y : Int) == k) = false := by rw [beq_eq_false_iff_ne]; exact P.out
              skip
              have B3 := BRd.trans (b5.mono BRd.size)
              have XR3 := XRr.below b5
              go_wp2
              generalize hw3 : w5 = w3 at *
              clear hw3
              go_loopw [9] (fun i wr => ∃ z : Int, i = .int .i64 z ∧ (n ≤ z ∧ z ≤ b) ∧ Below w3.heap.size w3 wr) (fun i _ => (b - intOf i).toNat)
              case atStart => exact ⟨n, rfl, ⟨Int.le_refl _, by omega⟩, Below.refl _ _⟩
              case round =>
                obtain ⟨zu, rfl, hzu, bru⟩ := hrel
                have XRr : Box wr w.heap.size #[.int .i64 freq, .int .i64 itv, .int .i64 cnt, .int .i64 til, .int .i64 wkst, .bool ends, .slice a6 n6 c6, .slice a7 n7 c7, .slice a8 n8 c8, .slice a9 n9 c9, .slice a10 n10 c10, .slice a11 n11 c11, .slice a12 n12 c12, .slice a13 n13 c13, .slice a14 n14 c14] := XR3.below bru
                have BRu : Below w.heap.size w wr := B3.trans (bru.mono B3.size)
                obtain ⟨hz1u, hz2u⟩ := hzu
                by_cases hlt : zu < b
                · have M := Lib.hid (show St.may ((zu + 1) * 86400) = true by rw [may_mul]; exact decide_eq_true (by omega))
                  have P := Lib.hid (DU2.out.1 zu hlt hz1u)
                  have z0 : wr.cell? ⟨w.heap.size, 0, none⟩ = some (.int .i64 freq) := XRr.at_ 0 _ rfl
                  have z1 : wr.cell? ⟨w.heap.size, 1, none⟩ = some (.int .i64 itv) := XRr.at_ 1 _ rfl
                  have z2 : wr.cell? ⟨w.heap.size, 2, none⟩ = some (.int .i64 cnt) := XRr.at_ 2 _ rfl
                  have z3 : wr.cell? ⟨w.heap.size, 3, none⟩ = some (.int .i64 til) := XRr.at_ 3 _ rfl
                  have z4 : wr.cell? ⟨w.heap.size, 4, none⟩ = some (.int .i64 wkst) := XRr.at_ 4 _ rfl
                  have z5 : wr.cell? ⟨w.heap.size, 5, none⟩ = some (.bool ends) := XRr.at_ 5 _ rfl
                  have z6 : wr.cell? ⟨w.heap.size, 6, none⟩ = some (.slice a6 n6 c6) := XRr.at_ 6 _ rfl
                  have z7 : wr.cell? ⟨w.heap.size, 7, none⟩ = some (.slice a7 n7 c7) := XRr.at_ 7 _ rfl
                  have z8 : wr.cell? ⟨w.heap.size, 8, none⟩ = some (.slice a8 n8 c8) := XRr.at_ 8 _ rfl
                  have z9 : wr.cell? ⟨w.heap.size, 9, none⟩ = some (.slice a9 n9 c9) := XRr.at_ 9 _ rfl
                  have z10 : wr.cell? ⟨w.heap.size, 10, none⟩ = some (.slice a10 n10 c10) := XRr.at_ 10 _ rfl
                  have z11 : wr.cell? ⟨w.heap.size, 11, none⟩ = some (.slice a11 n11 c11) := XRr.at_ 11 _ rfl
                  have z12 : wr.cell? ⟨w.heap.size, 12, none⟩ = some (.slice a12 n12 c12) := XRr.at_ 12 _ rfl
                  have z13 : wr.cell? ⟨w.heap.size, 13, none⟩ = some (.slice a13 n13 c13) := XRr.at_ 13 _ rfl
                  have z14 : wr.cell? ⟨w.heap.size, 14, none⟩ = some (.slice a14 n14 c14) := XRr.at_ 14 _ rfl
                  go_wp2_with fail
                  refine (rmay_any ((zu + 1) * 86400) _).mono ?_
                  rintro e w' ⟨rfl, rfl⟩
                  rw [M.out]
                  go_wp2_with fail
                  refine (number_is _ ⟨a6, n6, c6, a7, n7, c7, a8, n8, c8, a9, n9, c9, a10, n10, c10, a11, n11, c11, a12, n12, c12, a13, n13, c13, a14, n14, c14⟩ ⟨freq, itv, cnt, til, wkst, ends, mon, week, yday, mday, day, hour, minu, sec, pos⟩ ((zu + 1) * 86400) k (RA.out.below BRu) HM.out M.out P.out).mono ?_
                  rintro e w5 ⟨rfl, b5⟩
                  clear z0 z1 z2 z3 z4 z5 z6 z7 z8 z9 z10 z11 z12 z13 z14
                  have q : ((k : Int) == k) = true := by rw [beq_iff_eq]
                  go_wp2
                  go_roundw
                  case rel => exact ⟨(zu + 1), by go_num, ⟨by omega, by omega⟩, bru.trans (b5.mono bru.size)⟩
                  case measure => simp [intOf]; omega
                · obtain rfl : zu = b := by omega
                  by_cases hb : zu < 2932896
                  · have M := Lib.hid (show St.may ((zu + 1) * 86400) = true by rw [may_mul]; exact decide_eq_true (by omega))
                    obtain ⟨y, hy⟩ : ∃ y, per ⟨freq, itv, cnt, til, wkst, ends, mon, week, yday, mday, day, hour, minu, sec, pos⟩ ((zu + 1) * 86400) = y := ⟨_, rfl⟩
                    have HY := Lib.hid hy
                    have P := Lib.hid (show ¬ y = k by rw [← hy]; exact DU2.out.2 hb)
                    clear hy
                    have z0 : wr.cell? ⟨w.heap.size, 0, none⟩ = some (.int .i64 freq) := XRr.at_ 0 _ rfl
                    have z1 : wr.cell? ⟨w.heap.size, 1, none⟩ = some (.int .i64 itv) := XRr.at_ 1 _ rfl
                    have z2 : wr.cell? ⟨w.heap.size, 2, none⟩ = some (.int .i64 cnt) := XRr.at_ 2 _ rfl
                    have z3 : wr.cell? ⟨w.heap.size, 3, none⟩ = some (.int .i64 til) := XRr.at_ 3 _ rfl
                    have z4 : wr.cell? ⟨w.heap.size, 4, none⟩ = some (.int .i64 wkst) := XRr.at_ 4 _ rfl
                    have z5 : wr.cell? ⟨w.heap.size, 5, none⟩ = some (.bool ends) := XRr.at_ 5 _ rfl
                    have z6 : wr.cell? ⟨w.heap.size, 6, none⟩ = some (.slice a6 n6 c6) := XRr.at_ 6 _ rfl
                    have z7 : wr.cell? ⟨w.heap.size, 7, none⟩ = some (.slice a7 n7 c7) := XRr.at_ 7 _ rfl
                    have z8 : wr.cell? ⟨w.heap.size, 8, none⟩ = some (.slice a8 n8 c8) := XRr.at_ 8 _ rfl
                    have z9 : wr.cell? ⟨w.heap.size, 9, none⟩ = some (.slice a9 n9 c9) := XRr.at_ 9 _ rfl
                    have z10 : wr.cell? ⟨w.heap.size, 10, none⟩ = some (.slice a10 n10 c10) := XRr.at_ 10 _ rfl
                    have z11 : wr.cell? ⟨w.heap.size, 11, none⟩ = some (.slice a11 n11 c11) := XRr.at_ 11 _ rfl
                    have z12 : wr.cell? ⟨w.heap.size, 12, none⟩ = some (.slice a12 n12 c12) := XRr.at_ 12 _ rfl
                    have z13 : wr.cell? ⟨w.heap.size, 13, none⟩ = some (.slice a13 n13 c13) := XRr.at_ 13 _ rfl
                    have z14 : wr.cell? ⟨w.heap.size, 14, none⟩ = some (.slice a14 n14 c14) := XRr.at_ 14 _ rfl
                    go_wp2_with fail
                    refine (rmay_any ((zu + 1) * 86400) _).mono ?_
                    rintro e w' ⟨rfl, rfl⟩
                    rw [M.out]
                    go_wp2_with fail
                    refine (number_is _ ⟨a6, n6, c6, a7, n7, c7, a8, n8, c8, a9, n9, c9, a10, n10, c10, a11, n11, c11, a12, n12, c12, a13, n13, c13, a14, n14, c14⟩ ⟨freq, itv, cnt, til, wkst, ends, mon, week, yday, mday, day, hour, minu, sec, pos⟩ ((zu + 1) * 86400) y (RA.out.below BRu) HM.out M.out HY.out).mono ?_
                    rintro e w5 ⟨rfl, b5⟩
                    clear z0 z1 z2 z3 z4 z5 z6 z7 z8 z9 z10 z11 z12 z13 z14
                    have q : ((y : Int) == k) = false := by rw [beq_eq_false_iff_ne]; exact P.out
                    go_wp2
                    go_ret2
                    exact ⟨rfl, BRu.trans (b5.mono BRu.size)⟩
                  · have M := Lib.hid (show St.may ((zu + 1) * 86400) = false by rw [may_mul]; exact decide_eq_false (by omega))
                    go_wp2_with fail
                    refine (rmay_any ((zu + 1) * 86400) _).mono ?_
                    rintro e w' ⟨rfl, rfl⟩
                    rw [M.out]
                    go_wp2
                    go_ret2
                    exact ⟨rfl, BRu⟩
            · have M := Lib.hid (show St.may ((zd - 1) * 86400) = false by rw [may_mul]; exact decide_eq_false (by omega))
              go_wp2_with fail
              refine (rmay_any ((zd - 1) * 86400) _).mono ?_
              rintro e w' ⟨rfl, rfl⟩
              rw [M.out]
              skip
              have B3 := BRd
              have XR3 := XRr
              go_wp2
              generalize hw3 : wr = w3 at *
              clear hw3
              go_loopw [9] (fun i wr => ∃ z : Int, i = .int .i64 z ∧ (n ≤ z ∧ z ≤ b) ∧ Below w3.heap.size w3 wr) (fun i _ => (b - intOf i).toNat)
              case atStart => exact ⟨n, rfl, ⟨Int.le_refl _, by omega⟩, Below.refl _ _⟩
              case round =>
                obtain ⟨zu, rfl, hzu, bru⟩ := hrel
                have XRr : Box wr w.heap.size #[.int .i64 freq, .int .i64 itv, .int .i64 cnt, .int .i64 til, .int .i64 wkst, .bool ends, .slice a6 n6 c6, .slice a7 n7 c7, .slice a8 n8 c8, .slice a9 n9 c9, .slice a10 n10 c10, .slice a11 n11 c11, .slice a12 n12 c12, .slice a13 n13 c13, .slice a14 n14 c14] := XR3.below bru
                have BRu : Below w.heap.size w wr := B3.trans (bru.mono B3.size)
                obtain ⟨hz1u, hz2u⟩ := hzu
                by_cases hlt : zu < b
                · have M := Lib.hid (show St.may ((zu + 1) * 86400) = true by rw [may_mul]; exact decide_eq_true (by omega))
                  have P := Lib.hid (DU2.out.1 zu hlt hz1u)
                  have z0 : wr.cell? ⟨w.heap.size, 0, none⟩ = some (.int .i64 freq) := XRr.at_ 0 _ rfl
                  have z1 : wr.cell? ⟨w.heap.size, 1, none⟩ = some (.int .i64 itv) := XRr.at_ 1 _ rfl
                  have z2 : wr.cell? ⟨w.heap.size, 2, none⟩ = some (.int .i64 cnt) := XRr.at_ 2 _ rfl
                  have z3 : wr.cell? ⟨w.heap.size, 3, none⟩ = some (.int .i64 til) := XRr.at_ 3 _ rfl
                  have z4 : wr.cell? ⟨w.heap.size, 4, none⟩ = some (.int .i64 wkst) := XRr.at_ 4 _ rfl
                  have z5 : wr.cell? ⟨w.heap.size, 5, none⟩ = some (.bool ends) := XRr.at_ 5 _ rfl
                  have z6 : wr.cell? ⟨w.heap.size, 6, none⟩ = some (.slice a6 n6 c6) := XRr.at_ 6 _ rfl
                  have z7 : wr.cell? ⟨w.heap.size, 7, none⟩ = some (.slice a7 n7 c7) := XRr.at_ 7 _ rfl
                  have z8 : wr.cell? ⟨w.heap.size, 8, none⟩ = some (.slice a8 n8 c8) := XRr.at_ 8 _ rfl
                  have z9 : wr.cell? ⟨w.heap.size, 9, none⟩ = some (.slice a9 n9 c9) := XRr.at_ 9 _ rfl
                  have z10 : wr.cell? ⟨w.heap.size, 10, none⟩ = some (.slice a10 n10 c10) := XRr.at_ 10 _ rfl
                  have z11 : wr.cell? ⟨w.heap.size, 11, none⟩ = some (.slice a11 n11 c11) := XRr.at_ 11 _ rfl
                  have z12 : wr.cell? ⟨w.heap.size, 12, none⟩ = some (.slice a12 n12 c12) := XRr.at_ 12 _ rfl
                  have z13 : wr.cell? ⟨w.heap.size, 13, none⟩ = some (.slice a13 n13 c13) := XRr.at_ 13 _ rfl
                  have z14 : wr.cell? ⟨w.heap.size, 14, none⟩ = some (.slice a14 n14 c14) := XRr.at_ 14 _ rfl
                  go_wp2_with fail
                  refine (rmay_any ((zu + 1) * 86400) _).mono ?_
                  rintro e w' ⟨rfl, rfl⟩
                  rw [M.out]
                  go_wp2_with fail
                  refine (number_is _ ⟨a6, n6, c6, a7, n7, c7, a8, n8, c8, a9, n9, c9, a10, n10, c10, a11, n11, c11, a12, n12, c12, a13, n13, c13, a14, n14, c14⟩ ⟨freq, itv, cnt, til, wkst, ends, mon, week, yday, mday, day, hour, minu, sec, pos⟩ ((zu + 1) * 86400) k (RA.out.below BRu) HM.out M.out P.out).mono ?_
                  rintro e w5 ⟨rfl, b5⟩
                  clear z0 z1 z2 z3 z4 z5 z6 z7 z8 z9 z10 z11 z12 z13 z14
                  have q : ((k : Int) == k) = true := by rw [beq_iff_eq]
                  go_wp2
                  go_roundw
                  case rel => exact ⟨(zu + 1), by go_num, ⟨by omega, by omega⟩, bru.trans (b5.mono bru.size)⟩
                  case measure => simp [intOf]; omega
                · obtain rfl : zu = b := by omega
                  by_cases hb : zu < 2932896
                  · have M := Lib.hid (show St.may ((zu + 1) * 86400) = true by rw [may_mul]; exact decide_eq_true (by omega))
                    obtain ⟨y, hy⟩ : ∃ y, per ⟨freq, itv, cnt, til, wkst, ends, mon, week, yday, mday, day, hour, minu, sec, pos⟩ ((zu + 1) * 86400) = y := ⟨_, rfl⟩
                    have HY := Lib.hid hy
                    have P := Lib.hid (show ¬ y = k by rw [← hy]; exact DU2.out.2 hb)
                    clear hy
                    have z0 : wr.cell? ⟨w.heap.size, 0, none⟩ = some (.int .i64 freq) := XRr.at_ 0 _ rfl
                    have z1 : wr.cell? ⟨w.heap.size, 1, none⟩ = some (.int .i64 itv) := XRr.at_ 1 _ rfl
                    have z2 : wr.cell? ⟨w.heap.size, 2, none⟩ = some (.int .i64 cnt) := XRr.at_ 2 _ rfl
                    have z3 : wr.cell? ⟨w.heap.size, 3, none⟩ = some (.int .i64 til) := XRr.at_ 3 _ rfl
                    have z4 : wr.cell? ⟨w.heap.size, 4, none⟩ = some (.int .i64 wkst) := XRr.at_ 4 _ rfl
                    have z5 : wr.cell? ⟨w.heap.size, 5, none⟩ = some (.bool ends) := XRr.at_ 5 _ rfl
                    have z6 : wr.cell? ⟨w.heap.size, 6, none⟩ = some (.slice a6 n6 c6) := XRr.at_ 6 _ rfl
                    have z7 : wr.cell? ⟨w.heap.size, 7, none⟩ = some (.slice a7 n7 c7) := XRr.at_ 7 _ rfl
                    have z8 : wr.cell? ⟨w.heap.size, 8, none⟩ = some (.slice a8 n8 c8) := XRr.at_ 8 _ rfl
                    have z9 : wr.cell? ⟨w.heap.size, 9, none⟩ = some (.slice a9 n9 c9) := XRr.at_ 9 _ rfl
                    have z10 : wr.cell? ⟨w.heap.size, 10, none⟩ = some (.slice a10 n10 c10) := XRr.at_ 10 _ rfl
                    have z11 : wr.cell? ⟨w.heap.size, 11, none⟩ = some (.slice a11 n11 c11) := XRr.at_ 11 _ rfl
                    have z12 : wr.cell? ⟨w.heap.size, 12, none⟩ = some (.slice a12 n12 c12) := XRr.at_ 12 _ rfl
                    have z13 : wr.cell? ⟨w.heap.size, 13, none⟩ = some (.slice a13 n13 c13) := XRr.at_ 13 _ rfl
                    have z14 : wr.cell? ⟨w.heap.size, 14, none⟩ = some (.slice a14 n14 c14) := XRr.at_ 14 _ rfl
                    go_wp2_with fail
                    refine (rmay_any ((zu + 1) * 86400) _).mono ?_
                    rintro e w' ⟨rfl, rfl⟩
                    rw [M.out]
                    go_wp2_with fail
                    refine (number_is _ ⟨a6, n6, c6, a7, n7, c7, a8, n8, c8, a9, n9, c9, a10, n10, c10, a11, n11, c11, a12, n12, c12, a13, n13, c13, a14, n14, c14⟩ ⟨freq, itv, cnt, til, wkst, ends, mon, week, yday, mday, day, hour, minu, sec, pos⟩ ((zu + 1) * 86400) y (RA.out.below BRu) HM.out M.out HY.out).mono ?_
                    rintro e w5 ⟨rfl, b5⟩
                    clear z0 z1 z2 z3 z4 z5 z6 z7 z8 z9 z10 z11 z12 z13 z14
                    have q : ((y : Int) == k) = false := by rw [beq_eq_false_iff_ne]; exact P.out
                    go_wp2
                    go_ret2
                    exact ⟨rfl, BRu.trans (b5.mono BRu.size)⟩
                  · have M := Lib.hid (show St.may ((zu + 1) * 86400) = false by rw [may_mul]; exact decide_eq_false (by omega))
                    go_wp2_with fail
                    refine (rmay_any ((zu + 1) * 86400) _).mono ?_
                    rintro e w' ⟨rfl, rfl⟩
                    rw [M.out]
                    go_wp2
                    go_ret2
                    exact ⟨rfl, BRu⟩
end Go.Proofs.YtkkmhjplfpdhcaaGreatDoor.Dd
namespace Go.Proofs.YtkkmhjplfpdhcaaGreatDoor.Dd
open Go.RowKit Cv St Ru

set_option maxRecDepth 100000 in
set_option maxHeartbeats 8000000 in
theorem periods_a (w : World) (T : Tabs w) (S : RS) (r : Ru) (start t : Int) (h : RuIn w S r) (hx1 : fewB S = false) :
    Calls Tryz.prog 3 #[S.val r, .int .i64 start, .int .i64 t] w fun e w' => e = .returned (.bool true) ∧ Below w.heap.size w w' := by
  have TT := Lib.hid T
  have HK := Lib.hid h
  have X1 := Lib.hid hx1
  clear h T hx1
  obtain ⟨ra6, rn6, rc6, ra7, rn7, rc7, ra8, rn8, rc8, ra9, rn9, rc9, ra10, rn10, rc10, ra11, rn11, rc11, ra12, rn12, rc12, ra13, rn13, rc13, ra14, rn14, rc14⟩ := S
  obtain ⟨rfreq, ritv, rcnt, rtil, rwkst, rends, rmon, rweek, ryday, rmday, rday, rhour, rminu, rsec, rpos⟩ := r
  show Calls Tryz.prog 3 #[.agg #[.int .i64 rfreq, .int .i64 ritv, .int .i64 rcnt, .int .i64 rtil, .int .i64 rwkst, .bool rends, .slice ra6 rn6 rc6, .slice ra7 rn7 rc7, .slice ra8 rn8 rc8, .slice ra9 rn9 rc9, .slice ra10 rn10 rc10, .slice ra11 rn11 rc11, .slice ra12 rn12 rc12, .slice ra13 rn13 rc13, .slice ra14 rn14 rc14], .int .i64 start, .int .i64 t] w _
  go_enter Tryz.func3, Tryz.ntmps3
  go_upto_region 1 with fail
  have B0 := alloc_below w (.cells #[.int .i64 rfreq, .int .i64 ritv, .int .i64 rcnt, .int .i64 rtil, .int .i64 rwkst, .bool rends, .slice ra6 rn6 rc6, .slice ra7 rn7 rc7, .slice ra8 rn8 rc8, .slice ra9 rn9 rc9, .slice ra10 rn10 rc10, .slice ra11 rn11 rc11, .slice ra12 rn12 rc12, .slice ra13 rn13 rc13, .slice ra14 rn14 rc14] 25)
  have Xr0 := Box.new w #[.int .i64 rfreq, .int .i64 ritv, .int .i64 rcnt, .int .i64 rtil, .int .i64 rwkst, .bool rends, .slice ra6 rn6 rc6, .slice ra7 rn7 rc7, .slice ra8 rn8 rc8, .slice ra9 rn9 rc9, .slice ra10 rn10 rc10, .slice ra11 rn11 rc11, .slice ra12 rn12 rc12, .slice ra13 rn13 rc13, .slice ra14 rn14 rc14] 25
  generalize w.alloc (.cells #[.int .i64 rfreq, .int .i64 ritv, .int .i64 rcnt, .int .i64 rtil, .int .i64 rwkst, .bool rends, .slice ra6 rn6 rc6, .slice ra7 rn7 rc7, .slice ra8 rn8 rc8, .slice ra9 rn9 rc9, .slice ra10 rn10 rc10, .slice ra11 rn11 rc11, .slice ra12 rn12 rc12, .slice ra13 rn13 rc13, .slice ra14 rn14 rc14] 25) = w0 at *
  go_wp2_with fail
  refine (first_is _ (TT.out.on B0)).mono ?_
  rintro e w1 ⟨rfl, b1⟩
  have B1 := B0.trans (b1.mono B0.size)
  have Xr1 := Xr0.below b1
  clear B0 Xr0
  clear b1
  have rz0 : w1.cell? ⟨w.heap.size, 0, none⟩ = some (.int .i64 rfreq) := Xr1.at_ 0 _ rfl
  have rz1 : w1.cell? ⟨w.heap.size, 1, none⟩ = some (.int .i64 ritv) := Xr1.at_ 1 _ rfl
  have rz2 : w1.cell? ⟨w.heap.size, 2, none⟩ = some (.int .i64 rcnt) := Xr1.at_ 2 _ rfl
  have rz3 : w1.cell? ⟨w.heap.size, 3, none⟩ = some (.int .i64 rtil) := Xr1.at_ 3 _ rfl
  have rz4 : w1.cell? ⟨w.heap.size, 4, none⟩ = some (.int .i64 rwkst) := Xr1.at_ 4 _ rfl
  have rz5 : w1.cell? ⟨w.heap.size, 5, none⟩ = some (.bool rends) := Xr1.at_ 5 _ rfl
  have rz6 : w1.cell? ⟨w.heap.size, 6, none⟩ = some (.slice ra6 rn6 rc6) := Xr1.at_ 6 _ rfl
  have rz7 : w1.cell? ⟨w.heap.size, 7, none⟩ = some (.slice ra7 rn7 rc7) := Xr1.at_ 7 _ rfl
  have rz8 : w1.cell? ⟨w.heap.size, 8, none⟩ = some (.slice ra8 rn8 rc8) := Xr1.at_ 8 _ rfl
  have rz9 : w1.cell? ⟨w.heap.size, 9, none⟩ = some (.slice ra9 rn9 rc9) := Xr1.at_ 9 _ rfl
  have rz10 : w1.cell? ⟨w.heap.size, 10, none⟩ = some (.slice ra10 rn10 rc10) := Xr1.at_ 10 _ rfl
  have rz11 : w1.cell? ⟨w.heap.size, 11, none⟩ = some (.slice ra11 rn11 rc11) := Xr1.at_ 11 _ rfl
  have rz12 : w1.cell? ⟨w.heap.size, 12, none⟩ = some (.slice ra12 rn12 rc12) := Xr1.at_ 12 _ rfl
  have rz13 : w1.cell? ⟨w.heap.size, 13, none⟩ = some (.slice ra13 rn13 rc13) := Xr1.at_ 13 _ rfl
  have rz14 : w1.cell? ⟨w.heap.size, 14, none⟩ = some (.slice ra14 rn14 rc14) := Xr1.at_ 14 _ rfl
  go_wp2_with fail
  refine (few_is _ ⟨ra6, rn6, rc6, ra7, rn7, rc7, ra8, rn8, rc8, ra9, rn9, rc9, ra10, rn10, rc10, ra11, rn11, rc11, ra12, rn12, rc12, ra13, rn13, rc13, ra14, rn14, rc14⟩ ⟨rfreq, ritv, rcnt, rtil, rwkst, rends, rmon, rweek, ryday, rmday, rday, rhour, rminu, rsec, rpos⟩ false HK.out.k6 HK.out.k7 HK.out.k8 HK.out.k9 HK.out.k10 HK.out.k11 HK.out.k12 HK.out.k13 HK.out.k14 X1.out).mono ?_
  rintro e w2 ⟨rfl, b2⟩
  clear rz0 rz1 rz2 rz3 rz4 rz5 rz6 rz7 rz8 rz9 rz10 rz11 rz12 rz13 rz14
  have B2 := B1.trans (b2.mono B1.size)
  have Xr2 := Xr1.below b2
  clear B1 Xr1
  clear b2
  go_wp2_with fail
  refine (first_is _ (TT.out.on B2)).mono ?_
  rintro e w3 ⟨rfl, b3⟩
  have B3 := B2.trans (b3.mono B2.size)
  have Xr3 := Xr2.below b3
  clear B2 Xr2
  clear b3
  go_wp2
  go_ret
  exact ⟨rfl, B3⟩
set_option maxRecDepth 100000 in
set_option maxHeartbeats 8000000 in
theorem periods_b (w : World) (T : Tabs w) (S : RS) (r : Ru) (start t : Int) (h : RuIn w S r) (hx1 : fewB S = true) (a lo hi : Int) (b : Bool) (h1 : perR r start t = (a, b)) (h2 : daysR r t = (lo, hi)) :
    Calls Tryz.prog 3 #[S.val r, .int .i64 start, .int .i64 t] w fun e w' => e = .returned (.bool true) ∧ Below w.heap.size w w' := by
  have TT := Lib.hid T
  have HK := Lib.hid h
  have X1 := Lib.hid hx1
  have RA0 := Lib.hid (h.few hx1)
  have F1 := Lib.hid h1
  have F2 := Lib.hid h2
  clear h1 h2
  clear h T hx1
  obtain ⟨ra6, rn6, rc6, ra7, rn7, rc7, ra8, rn8, rc8, ra9, rn9, rc9, ra10, rn10, rc10, ra11, rn11, rc11, ra12, rn12, rc12, ra13, rn13, rc13, ra14, rn14, rc14⟩ := S
  obtain ⟨rfreq, ritv, rcnt, rtil, rwkst, rends, rmon, rweek, ryday, rmday, rday, rhour, rminu, rsec, rpos⟩ := r
  show Calls Tryz.prog 3 #[.agg #[.int .i64 rfreq, .int .i64 ritv, .int .i64 rcnt, .int .i64 rtil, .int .i64 rwkst, .bool rends, .slice ra6 rn6 rc6, .slice ra7 rn7 rc7, .slice ra8 rn8 rc8, .slice ra9 rn9 rc9, .slice ra10 rn10 rc10, .slice ra11 rn11 rc11, .slice ra12 rn12 rc12, .slice ra13 rn13 rc13, .slice ra14 rn14 rc14], .int .i64 start, .int .i64 t] w _
  go_enter Tryz.func3, Tryz.ntmps3
  go_upto_region 1 with fail
  have B0 := alloc_below w (.cells #[.int .i64 rfreq, .int .i64 ritv, .int .i64 rcnt, .int .i64 rtil, .int .i64 rwkst, .bool rends, .slice ra6 rn6 rc6, .slice ra7 rn7 rc7, .slice ra8 rn8 rc8, .slice ra9 rn9 rc9, .slice ra10 rn10 rc10, .slice ra11 rn11 rc11, .slice ra12 rn12 rc12, .slice ra13 rn13 rc13, .slice ra14 rn14 rc14] 25)
  have Xr0 := Box.new w #[.int .i64 rfreq, .int .i64 ritv, .int .i64 rcnt, .int .i64 rtil, .int .i64 rwkst, .bool rends, .slice ra6 rn6 rc6, .slice ra7 rn7 rc7, .slice ra8 rn8 rc8, .slice ra9 rn9 rc9, .slice ra10 rn10 rc10, .slice ra11 rn11 rc11, .slice ra12 rn12 rc12, .slice ra13 rn13 rc13, .slice ra14 rn14 rc14] 25
  generalize w.alloc (.cells #[.int .i64 rfreq, .int .i64 ritv, .int .i64 rcnt, .int .i64 rtil, .int .i64 rwkst, .bool rends, .slice ra6 rn6 rc6, .slice ra7 rn7 rc7, .slice ra8 rn8 rc8, .slice ra9 rn9 rc9, .slice ra10 rn10 rc10, .slice ra11 rn11 rc11, .slice ra12 rn12 rc12, .slice ra13 rn13 rc13, .slice ra14 rn14 rc14] 25) = w0 at *
  go_wp2_with fail
  refine (first_is _ (TT.out.on B0)).mono ?_
  rintro e w1 ⟨rfl, b1⟩
  have B1 := B0.trans (b1.mono B0.size)
  have Xr1 := Xr0.below b1
  clear B0 Xr0
  clear b1
  have Rr1 := RA0.out.below B1
  clear RA0
  have rz0 : w1.cell? ⟨w.heap.size, 0, none⟩ = some (.int .i64 rfreq) := Xr1.at_ 0 _ rfl
  have rz1 : w1.cell? ⟨w.heap.size, 1, none⟩ = some (.int .i64 ritv) := Xr1.at_ 1 _ rfl
  have rz2 : w1.cell? ⟨w.heap.size, 2, none⟩ = some (.int .i64 rcnt) := Xr1.at_ 2 _ rfl
  have rz3 : w1.cell? ⟨w.heap.size, 3, none⟩ = some (.int .i64 rtil) := Xr1.at_ 3 _ rfl
  have rz4 : w1.cell? ⟨w.heap.size, 4, none⟩ = some (.int .i64 rwkst) := Xr1.at_ 4 _ rfl
  have rz5 : w1.cell? ⟨w.heap.size, 5, none⟩ = some (.bool rends) := Xr1.at_ 5 _ rfl
  have rz6 : w1.cell? ⟨w.heap.size, 6, none⟩ = some (.slice ra6 rn6 rc6) := Xr1.at_ 6 _ rfl
  have rz7 : w1.cell? ⟨w.heap.size, 7, none⟩ = some (.slice ra7 rn7 rc7) := Xr1.at_ 7 _ rfl
  have rz8 : w1.cell? ⟨w.heap.size, 8, none⟩ = some (.slice ra8 rn8 rc8) := Xr1.at_ 8 _ rfl
  have rz9 : w1.cell? ⟨w.heap.size, 9, none⟩ = some (.slice ra9 rn9 rc9) := Xr1.at_ 9 _ rfl
  have rz10 : w1.cell? ⟨w.heap.size, 10, none⟩ = some (.slice ra10 rn10 rc10) := Xr1.at_ 10 _ rfl
  have rz11 : w1.cell? ⟨w.heap.size, 11, none⟩ = some (.slice ra11 rn11 rc11) := Xr1.at_ 11 _ rfl
  have rz12 : w1.cell? ⟨w.heap.size, 12, none⟩ = some (.slice ra12 rn12 rc12) := Xr1.at_ 12 _ rfl
  have rz13 : w1.cell? ⟨w.heap.size, 13, none⟩ = some (.slice ra13 rn13 rc13) := Xr1.at_ 13 _ rfl
  have rz14 : w1.cell? ⟨w.heap.size, 14, none⟩ = some (.slice ra14 rn14 rc14) := Xr1.at_ 14 _ rfl
  go_wp2_with fail
  refine (few_is _ ⟨ra6, rn6, rc6, ra7, rn7, rc7, ra8, rn8, rc8, ra9, rn9, rc9, ra10, rn10, rc10, ra11, rn11, rc11, ra12, rn12, rc12, ra13, rn13, rc13, ra14, rn14, rc14⟩ ⟨rfreq, ritv, rcnt, rtil, rwkst, rends, rmon, rweek, ryday, rmday, rday, rhour, rminu, rsec, rpos⟩ true HK.out.k6 HK.out.k7 HK.out.k8 HK.out.k9 HK.out.k10 HK.out.k11 HK.out.k12 HK.out.k13 HK.out.k14 X1.out).mono ?_
  rintro e w2 ⟨rfl, b2⟩
  clear rz0 rz1 rz2 rz3 rz4 rz5 rz6 rz7 rz8 rz9 rz10 rz11 rz12 rz13 rz14
  have B2 := B1.trans (b2.mono B1.size)
  have Xr2 := Xr1.below b2
  have Rr2 := Rr1.below b2
  clear B1 Xr1 Rr1
  clear b2
  have rz0 : w2.cell? ⟨w.heap.size, 0, none⟩ = some (.int .i64 rfreq) := Xr2.at_ 0 _ rfl
  have rz1 : w2.cell? ⟨w.heap.size, 1, none⟩ = some (.int .i64 ritv) := Xr2.at_ 1 _ rfl
  have rz2 : w2.cell? ⟨w.heap.size, 2, none⟩ = some (.int .i64 rcnt) := Xr2.at_ 2 _ rfl
  have rz3 : w2.cell? ⟨w.heap.size, 3, none⟩ = some (.int .i64 rtil) := Xr2.at_ 3 _ rfl
  have rz4 : w2.cell? ⟨w.heap.size, 4, none⟩ = some (.int .i64 rwkst) := Xr2.at_ 4 _ rfl
  have rz5 : w2.cell? ⟨w.heap.size, 5, none⟩ = some (.bool rends) := Xr2.at_ 5 _ rfl
  have rz6 : w2.cell? ⟨w.heap.size, 6, none⟩ = some (.slice ra6 rn6 rc6) := Xr2.at_ 6 _ rfl
  have rz7 : w2.cell? ⟨w.heap.size, 7, none⟩ = some (.slice ra7 rn7 rc7) := Xr2.at_ 7 _ rfl
  have rz8 : w2.cell? ⟨w.heap.size, 8, none⟩ = some (.slice ra8 rn8 rc8) := Xr2.at_ 8 _ rfl
  have rz9 : w2.cell? ⟨w.heap.size, 9, none⟩ = some (.slice ra9 rn9 rc9) := Xr2.at_ 9 _ rfl
  have rz10 : w2.cell? ⟨w.heap.size, 10, none⟩ = some (.slice ra10 rn10 rc10) := Xr2.at_ 10 _ rfl
  have rz11 : w2.cell? ⟨w.heap.size, 11, none⟩ = some (.slice ra11 rn11 rc11) := Xr2.at_ 11 _ rfl
  have rz12 : w2.cell? ⟨w.heap.size, 12, none⟩ = some (.slice ra12 rn12 rc12) := Xr2.at_ 12 _ rfl
  have rz13 : w2.cell? ⟨w.heap.size, 13, none⟩ = some (.slice ra13 rn13 rc13) := Xr2.at_ 13 _ rfl
  have rz14 : w2.cell? ⟨w.heap.size, 14, none⟩ = some (.slice ra14 rn14 rc14) := Xr2.at_ 14 _ rfl
  go_wp2_with fail
  refine (periodP_is _ ⟨ra6, rn6, rc6, ra7, rn7, rc7, ra8, rn8, rc8, ra9, rn9, rc9, ra10, rn10, rc10, ra11, rn11, rc11, ra12, rn12, rc12, ra13, rn13, rc13, ra14, rn14, rc14⟩ ⟨rfreq, ritv, rcnt, rtil, rwkst, rends, rmon, rweek, ryday, rmday, rday, rhour, rminu, rsec, rpos⟩ start t a b Rr2 F1.out).mono ?_
  rintro e w3 ⟨rfl, b3⟩
  clear rz0 rz1 rz2 rz3 rz4 rz5 rz6 rz7 rz8 rz9 rz10 rz11 rz12 rz13 rz14
  have B3 := B2.trans (b3.mono B2.size)
  have Xr3 := Xr2.below b3
  have Rr3 := Rr2.below b3
  clear B2 Xr2 Rr2
  clear b3
  have rz0 : w3.cell? ⟨w.heap.size, 0, none⟩ = some (.int .i64 rfreq) := Xr3.at_ 0 _ rfl
  have rz1 : w3.cell? ⟨w.heap.size, 1, none⟩ = some (.int .i64 ritv) := Xr3.at_ 1 _ rfl
  have rz2 : w3.cell? ⟨w.heap.size, 2, none⟩ = some (.int .i64 rcnt) := Xr3.at_ 2 _ rfl
  have rz3 : w3.cell? ⟨w.heap.size, 3, none⟩ = some (.int .i64 rtil) := Xr3.at_ 3 _ rfl
  have rz4 : w3.cell? ⟨w.heap.size, 4, none⟩ = some (.int .i64 rwkst) := Xr3.at_ 4 _ rfl
  have rz5 : w3.cell? ⟨w.heap.size, 5, none⟩ = some (.bool rends) := Xr3.at_ 5 _ rfl
  have rz6 : w3.cell? ⟨w.heap.size, 6, none⟩ = some (.slice ra6 rn6 rc6) := Xr3.at_ 6 _ rfl
  have rz7 : w3.cell? ⟨w.heap.size, 7, none⟩ = some (.slice ra7 rn7 rc7) := Xr3.at_ 7 _ rfl
  have rz8 : w3.cell? ⟨w.heap.size, 8, none⟩ = some (.slice ra8 rn8 rc8) := Xr3.at_ 8 _ rfl
  have rz9 : w3.cell? ⟨w.heap.size, 9, none⟩ = some (.slice ra9 rn9 rc9) := Xr3.at_ 9 _ rfl
  have rz10 : w3.cell? ⟨w.heap.size, 10, none⟩ = some (.slice ra10 rn10 rc10) := Xr3.at_ 10 _ rfl
  have rz11 : w3.cell? ⟨w.heap.size, 11, none⟩ = some (.slice ra11 rn11 rc11) := Xr3.at_ 11 _ rfl
  have rz12 : w3.cell? ⟨w.heap.size, 12, none⟩ = some (.slice ra12 rn12 rc12) := Xr3.at_ 12 _ rfl
  have rz13 : w3.cell? ⟨w.heap.size, 13, none⟩ = some (.slice ra13 rn13 rc13) := Xr3.at_ 13 _ rfl
  have rz14 : w3.cell? ⟨w.heap.size, 14, none⟩ = some (.slice ra14 rn14 rc14) := Xr3.at_ 14 _ rfl
  go_wp2_with fail
  refine (period6_is _ ⟨ra6, rn6, rc6, ra7, rn7, rc7, ra8, rn8, rc8, ra9, rn9, rc9, ra10, rn10, rc10, ra11, rn11, rc11, ra12, rn12, rc12, ra13, rn13, rc13, ra14, rn14, rc14⟩ ⟨rfreq, ritv, rcnt, rtil, rwkst, rends, rmon, rweek, ryday, rmday, rday, rhour, rminu, rsec, rpos⟩ start t a b Rr3 F1.out).mono ?_
  rintro e w4 ⟨rfl, b4⟩
  clear rz0 rz1 rz2 rz3 rz4 rz5 rz6 rz7 rz8 rz9 rz10 rz11 rz12 rz13 rz14
  have B4 := B3.trans (b4.mono B3.size)
  have Xr4 := Xr3.below b4
  have Rr4 := Rr3.below b4
  clear B3 Xr3 Rr3
  clear b4
  have rz0 : w4.cell? ⟨w.heap.size, 0, none⟩ = some (.int .i64 rfreq) := Xr4.at_ 0 _ rfl
  have rz1 : w4.cell? ⟨w.heap.size, 1, none⟩ = some (.int .i64 ritv) := Xr4.at_ 1 _ rfl
  have rz2 : w4.cell? ⟨w.heap.size, 2, none⟩ = some (.int .i64 rcnt) := Xr4.at_ 2 _ rfl
  have rz3 : w4.cell? ⟨w.heap.size, 3, none⟩ = some (.int .i64 rtil) := Xr4.at_ 3 _ rfl
  have rz4 : w4.cell? ⟨w.heap.size, 4, none⟩ = some (.int .i64 rwkst) := Xr4.at_ 4 _ rfl
  have rz5 : w4.cell? ⟨w.heap.size, 5, none⟩ = some (.bool rends) := Xr4.at_ 5 _ rfl
  have rz6 : w4.cell? ⟨w.heap.size, 6, none⟩ = some (.slice ra6 rn6 rc6) := Xr4.at_ 6 _ rfl
  have rz7 : w4.cell? ⟨w.heap.size, 7, none⟩ = some (.slice ra7 rn7 rc7) := Xr4.at_ 7 _ rfl
  have rz8 : w4.cell? ⟨w.heap.size, 8, none⟩ = some (.slice ra8 rn8 rc8) := Xr4.at_ 8 _ rfl
  have rz9 : w4.cell? ⟨w.heap.size, 9, none⟩ = some (.slice ra9 rn9 rc9) := Xr4.at_ 9 _ rfl
  have rz10 : w4.cell? ⟨w.heap.size, 10, none⟩ = some (.slice ra10 rn10 rc10) := Xr4.at_ 10 _ rfl
  have rz11 : w4.cell? ⟨w.heap.size, 11, none⟩ = some (.slice ra11 rn11 rc11) := Xr4.at_ 11 _ rfl
  have rz12 : w4.cell? ⟨w.heap.size, 12, none⟩ = some (.slice ra12 rn12 rc12) := Xr4.at_ 12 _ rfl
  have rz13 : w4.cell? ⟨w.heap.size, 13, none⟩ = some (.slice ra13 rn13 rc13) := Xr4.at_ 13 _ rfl
  have rz14 : w4.cell? ⟨w.heap.size, 14, none⟩ = some (.slice ra14 rn14 rc14) := Xr4.at_ 14 _ rfl
  go_wp2_with fail
  refine (daysP_is _ ⟨ra6, rn6, rc6, ra7, rn7, rc7, ra8, rn8, rc8, ra9, rn9, rc9, ra10, rn10, rc10, ra11, rn11, rc11, ra12, rn12, rc12, ra13, rn13, rc13, ra14, rn14, rc14⟩ ⟨rfreq, ritv, rcnt, rtil, rwkst, rends, rmon, rweek, ryday, rmday, rday, rhour, rminu, rsec, rpos⟩ t lo hi Rr4 F2.out).mono ?_
  rintro e w5 ⟨rfl, b5⟩
  clear rz0 rz1 rz2 rz3 rz4 rz5 rz6 rz7 rz8 rz9 rz10 rz11 rz12 rz13 rz14
  have B5 := B4.trans (b5.mono B4.size)
  have Xr5 := Xr4.below b5
  have Rr5 := Rr4.below b5
  clear B4 Xr4 Rr4
  clear b5
  have rz0 : w5.cell? ⟨w.heap.size, 0, none⟩ = some (.int .i64 rfreq) := Xr5.at_ 0 _ rfl
  have rz1 : w5.cell? ⟨w.heap.size, 1, none⟩ = some (.int .i64 ritv) := Xr5.at_ 1 _ rfl
  have rz2 : w5.cell? ⟨w.heap.size, 2, none⟩ = some (.int .i64 rcnt) := Xr5.at_ 2 _ rfl
  have rz3 : w5.cell? ⟨w.heap.size, 3, none⟩ = some (.int .i64 rtil) := Xr5.at_ 3 _ rfl
  have rz4 : w5.cell? ⟨w.heap.size, 4, none⟩ = some (.int .i64 rwkst) := Xr5.at_ 4 _ rfl
  have rz5 : w5.cell? ⟨w.heap.size, 5, none⟩ = some (.bool rends) := Xr5.at_ 5 _ rfl
  have rz6 : w5.cell? ⟨w.heap.size, 6, none⟩ = some (.slice ra6 rn6 rc6) := Xr5.at_ 6 _ rfl
  have rz7 : w5.cell? ⟨w.heap.size, 7, none⟩ = some (.slice ra7 rn7 rc7) := Xr5.at_ 7 _ rfl
  have rz8 : w5.cell? ⟨w.heap.size, 8, none⟩ = some (.slice ra8 rn8 rc8) := Xr5.at_ 8 _ rfl
  have rz9 : w5.cell? ⟨w.heap.size, 9, none⟩ = some (.slice ra9 rn9 rc9) := Xr5.at_ 9 _ rfl
  have rz10 : w5.cell? ⟨w.heap.size, 10, none⟩ = some (.slice ra10 rn10 rc10) := Xr5.at_ 10 _ rfl
  have rz11 : w5.cell? ⟨w.heap.size, 11, none⟩ = some (.slice ra11 rn11 rc11) := Xr5.at_ 11 _ rfl
  have rz12 : w5.cell? ⟨w.heap.size, 12, none⟩ = some (.slice ra12 rn12 rc12) := Xr5.at_ 12 _ rfl
  have rz13 : w5.cell? ⟨w.heap.size, 13, none⟩ = some (.slice ra13 rn13 rc13) := Xr5.at_ 13 _ rfl
  have rz14 : w5.cell? ⟨w.heap.size, 14, none⟩ = some (.slice ra14 rn14 rc14) := Xr5.at_ 14 _ rfl
  go_wp2_with fail
  refine (days6_is _ ⟨ra6, rn6, rc6, ra7, rn7, rc7, ra8, rn8, rc8, ra9, rn9, rc9, ra10, rn10, rc10, ra11, rn11, rc11, ra12, rn12, rc12, ra13, rn13, rc13, ra14, rn14, rc14⟩ ⟨rfreq, ritv, rcnt, rtil, rwkst, rends, rmon, rweek, ryday, rmday, rday, rhour, rminu, rsec, rpos⟩ t lo hi Rr5 F2.out).mono ?_
  rintro e w6 ⟨rfl, b6⟩
  clear rz0 rz1 rz2 rz3 rz4 rz5 rz6 rz7 rz8 rz9 rz10 rz11 rz12 rz13 rz14
  have B6 := B5.trans (b6.mono B5.size)
  have Xr6 := Xr5.below b6
  have Rr6 := Rr5.below b6
  clear B5 Xr5 Rr5
  clear b6
  go_wp2_with fail
  refine (first_is _ (TT.out.on B6)).mono ?_
  rintro e w7 ⟨rfl, b7⟩
  have B7 := B6.trans (b7.mono B6.size)
  have Xr7 := Xr6.below b7
  have Rr7 := Rr6.below b7
  clear B6 Xr6 Rr6
  clear b7
  have e1 : ((a : Int) == a) = true := by rw [beq_iff_eq]
  have e2 : ((lo : Int) == lo) = true := by rw [beq_iff_eq]
  have e3 : ((hi : Int) == hi) = true := by rw [beq_iff_eq]
  have e4 : (b == b) = true := by rw [beq_iff_eq]
  go_wp2
  go_ret
  exact ⟨rfl, B7⟩
theorem periods_walk (w : World) (T : Tabs w) (S : RS) (r : Ru) (start t : Int) (h : RuIn w S r) :
    Calls Tryz.prog 3 #[S.val r, .int .i64 start, .int .i64 t] w fun e w' => e = .returned (.bool true) ∧ Below w.heap.size w w' := by
  cases hx : fewB S
  · exact periods_a w T S r start t h hx
  · exact periods_b w T S r start t h hx _ _ _ _ rfl rfl
end Go.Proofs.YtkkmhjplfpdhcaaGreatDoor.Dd
