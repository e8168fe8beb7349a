/- The walk of the document's own answer on texts as durations: vokref1's DurParse; and of voklaw2's law StampDurs. -/
import Derived.Test.YtbnncdfkmlfjhaaDoorStRef3
import Derived.Test.YtbnncdfkmlfjhaaDoorStMath4
import Derived.Test.YtbnncdfkmlfjhaaDoorStFirst
import Derived.WalkLawsBesides
import Derived.LoopTactic
namespace Go.Proofs.YtbnncdfkmlfjhaaDoor.St
open Go.RowKit Cv
set_option linter.unusedVariables false

theorem rdurText_is (n : Int) (W w : World) (x : ByteArray) (h1 : 1 ≤ n) (h2 : n ≤ 2147483648) (hx : ⟨(durText n).toArray⟩ = x) (h : At W w) :
    Calls Tryd.prog 27 #[.int .i64 n] w fun e w' => e = .returned (.tuple #[.string x, .int .i64 0]) ∧ At W w' := rdurText_yes n W w x h1 h2 hx h
def Sum (s : ByteArray) : Int := rsumL (s.data.toList.drop 1) 0 0
set_option maxHeartbeats 4000000 in
theorem rdurParse_yes (s t : ByteArray) (W w : World) (he : s.toList.isEmpty = false) (hs : s.size ≤ 30) (h1 : 1 ≤ Sum s) (h2 : Sum s ≤ 2147483648) (ht : ⟨(durText (Sum s)).toArray⟩ = s) (h : At W w) :
    Calls Tryd.prog 29 #[.string s] w fun e w' => e = .returned (.tuple #[.int .i64 (Sum s), .int .i64 0]) ∧ At W w' := by
  have hs' : (s.size : Int) ≤ 30 := by omega
  have T := Lib.hid ht; clear ht
  go_enter Tryd.func29, Tryd.ntmps29
  go_wp2
  go_loop [4, 5, 6] (fun a n i => ∃ (k : Nat) (x y : Int), 1 ≤ k ∧ k ≤ 31 ∧ i = .int .i64 k ∧ a = .int .i64 x ∧ n = .int .i64 y ∧ 0 ≤ x ∧ x ≤ 1152921504606846976 ∧ 0 ≤ y ∧ y ≤ 8589934592 ∧ RRest s k x y) (fun _ _ i => 31 - (intOf i).toNat)
  case atStart => exact ⟨1, 0, 0, by decide, by decide, rfl, rfl, rfl, by decide, by decide, by decide, by decide, rfl⟩
  case round =>
    obtain ⟨k, x, y, k1, k2, rfl, rfl, rfl, x1, x2, y1, y2, hr⟩ := hrel
    by_cases hlt : k < s.size
    · have hb0 : 0 ≤ (s[k].toNat : Int) := by omega
      have hb1 : (s[k].toNat : Int) ≤ 255 := by have := UInt8.toNat_lt s[k]; omega
      cases hc : isd s[k]
      · have C := of_decide_eq_false hc
        have C2 : (s[k].toNat : Int) < 48 ∨ 57 < (s[k].toNat : Int) := by omega
        by_cases hm : (s[k].toNat : Int) = 87 ∨ (s[k].toNat : Int) = 68 ∨ (s[k].toNat : Int) = 72 ∨ (s[k].toNat : Int) = 77 ∨ (s[k].toNat : Int) = 83
        · rcases hm with hm | hm | hm | hm | hm
          · have e1 : sec (s[k].toNat : Int) = 604800 := by rw [hm]; rfl
            have R0 := rrest_2 hlt hc (by rw [e1]; decide) hr
            rw [e1] at R0
            have R := Lib.hid R0
            have g0 : ¬ (s[k].toNat : Int) ≤ 57 := by omega
            have g87 : ((s[k].toNat : Int) == 87) = true := by rw [beq_iff_eq]; omega
            have g68 : ((s[k].toNat : Int) == 68) = false := by rw [beq_eq_false_iff_ne, ne_eq]; omega
            have g72 : ((s[k].toNat : Int) == 72) = false := by rw [beq_eq_false_iff_ne, ne_eq]; omega
            have g77 : ((s[k].toNat : Int) == 77) = false := by rw [beq_eq_false_iff_ne, ne_eq]; omega
            have g83 : ((s[k].toNat : Int) == 83) = false := by rw [beq_eq_false_iff_ne, ne_eq]; omega
            clear hm hc C C2 e1 hr R0
            go_wp2
            go_round
            case rel => exact ⟨k + 1, _, 0, by omega, by omega, by go_num, rfl, rfl, by omega, by omega, by decide, by decide, R.out⟩
            case measure => simp [intOf]; omega
          · have e1 : sec (s[k].toNat : Int) = 86400 := by rw [hm]; rfl
            have R0 := rrest_2 hlt hc (by rw [e1]; decide) hr
            rw [e1] at R0
            have R := Lib.hid R0
            have g0 : ¬ (s[k].toNat : Int) ≤ 57 := by omega
            have g87 : ((s[k].toNat : Int) == 87) = false := by rw [beq_eq_false_iff_ne, ne_eq]; omega
            have g68 : ((s[k].toNat : Int) == 68) = true := by rw [beq_iff_eq]; omega
            have g72 : ((s[k].toNat : Int) == 72) = false := by rw [beq_eq_false_iff_ne, ne_eq]; omega
            have g77 : ((s[k].toNat : Int) == 77) = false := by rw [beq_eq_false_iff_ne, ne_eq]; omega
            have g83 : ((s[k].toNat : Int) == 83) = false := by rw [beq_eq_false_iff_ne, ne_eq]; omega
            clear hm hc C C2 e1 hr R0
            go_wp2
            go_round
            case rel => exact ⟨k + 1, _, 0, by omega, by omega, by go_num, rfl, rfl, by omega, by omega, by decide, by decide, R.out⟩
            case measure => simp [intOf]; omega
          · have e1 : sec (s[k].toNat : Int) = 3600 := by rw [hm]; rfl
            have R0 := rrest_2 hlt hc (by rw [e1]; decide) hr
            rw [e1] at R0
            have R := Lib.hid R0
            have g0 : ¬ (s[k].toNat : Int) ≤ 57 := by omega
            have g87 : ((s[k].toNat : Int) == 87) = false := by rw [beq_eq_false_iff_ne, ne_eq]; omega
            have g68 : ((s[k].toNat : Int) == 68) = false := by rw [beq_eq_false_iff_ne, ne_eq]; omega
            have g72 : ((s[k].toNat : Int) == 72) = true := by rw [beq_iff_eq]; omega
            have g77 : ((s[k].toNat : Int) == 77) = false := by rw [beq_eq_false_iff_ne, ne_eq]; omega
            have g83 : ((s[k].toNat : Int) == 83) = false := by rw [beq_eq_false_iff_ne, ne_eq]; omega
            clear hm hc C C2 e1 hr R0
            go_wp2
            go_round
            case rel => exact ⟨k + 1, _, 0, by omega, by omega, by go_num, rfl, rfl, by omega, by omega, by decide, by decide, R.out⟩
            case measure => simp [intOf]; omega
          · have e1 : sec (s[k].toNat : Int) = 60 := by rw [hm]; rfl
            have R0 := rrest_2 hlt hc (by rw [e1]; decide) hr
            rw [e1] at R0
            have R := Lib.hid R0
            have g0 : ¬ (s[k].toNat : Int) ≤ 57 := by omega
            have g87 : ((s[k].toNat : Int) == 87) = false := by rw [beq_eq_false_iff_ne, ne_eq]; omega
            have g68 : ((s[k].toNat : Int) == 68) = false := by rw [beq_eq_false_iff_ne, ne_eq]; omega
            have g72 : ((s[k].toNat : Int) == 72) = false := by rw [beq_eq_false_iff_ne, ne_eq]; omega
            have g77 : ((s[k].toNat : Int) == 77) = true := by rw [beq_iff_eq]; omega
            have g83 : ((s[k].toNat : Int) == 83) = false := by rw [beq_eq_false_iff_ne, ne_eq]; omega
            clear hm hc C C2 e1 hr R0
            go_wp2
            go_round
            case rel => exact ⟨k + 1, _, 0, by omega, by omega, by go_num, rfl, rfl, by omega, by omega, by decide, by decide, R.out⟩
            case measure => simp [intOf]; omega
          · have e1 : sec (s[k].toNat : Int) = 1 := by rw [hm]; rfl
            have R0 := rrest_2 hlt hc (by rw [e1]; decide) hr
            rw [e1, Int.mul_one] at R0
            have R := Lib.hid R0
            have g0 : ¬ (s[k].toNat : Int) ≤ 57 := by omega
            have g87 : ((s[k].toNat : Int) == 87) = false := by rw [beq_eq_false_iff_ne, ne_eq]; omega
            have g68 : ((s[k].toNat : Int) == 68) = false := by rw [beq_eq_false_iff_ne, ne_eq]; omega
            have g72 : ((s[k].toNat : Int) == 72) = false := by rw [beq_eq_false_iff_ne, ne_eq]; omega
            have g77 : ((s[k].toNat : Int) == 77) = false := by rw [beq_eq_false_iff_ne, ne_eq]; omega
            have g83 : ((s[k].toNat : Int) == 83) = true := by rw [beq_iff_eq]; omega
            clear hm hc C C2 e1 hr R0
            go_wp2
            go_round
            case rel => exact ⟨k + 1, _, 0, by omega, by omega, by go_num, rfl, rfl, by omega, by omega, by decide, by decide, R.out⟩
            case measure => simp [intOf]; omega
        · have R := Lib.hid (rrest_3 hlt hc (by rw [sec_no hm]; decide) hr)
          have g87 : ((s[k].toNat : Int) == 87) = false := by rw [beq_eq_false_iff_ne, ne_eq]; omega
          have g68 : ((s[k].toNat : Int) == 68) = false := by rw [beq_eq_false_iff_ne, ne_eq]; omega
          have g72 : ((s[k].toNat : Int) == 72) = false := by rw [beq_eq_false_iff_ne, ne_eq]; omega
          have g77 : ((s[k].toNat : Int) == 77) = false := by rw [beq_eq_false_iff_ne, ne_eq]; omega
          have g83 : ((s[k].toNat : Int) == 83) = false := by rw [beq_eq_false_iff_ne, ne_eq]; omega
          clear hm hc C hr
          rcases C2 with C2 | C2
          all_goals
            go_wp2
            go_round
            case rel => exact ⟨k + 1, x, y, by omega, by omega, by go_num, rfl, rfl, by omega, by omega, by omega, by omega, R.out⟩
            case measure => simp [intOf]; omega
      · obtain ⟨c1, c2⟩ := of_decide_eq_true hc
        have R := Lib.hid (rrest_1 hlt hc hr)
        clear hc hr
        go_wp2
        go_round
        case rel => exact ⟨k + 1, x, _, by omega, by omega, by go_num, rfl, rfl, by omega, by omega, by omega, by omega, R.out⟩
        case measure => simp [intOf]; omega
    · have e : x = Sum s := rrest_end (by omega) hr
      subst e
      clear hr
      go_wp2_with fail
      refine (rdurText_is _ W _ s h1 h2 T.out h).mono ?_
      rintro e wd ⟨rfl, at1⟩
      go_wp2
      go_ret2
      exact ⟨rfl, at1⟩
set_option maxHeartbeats 4000000 in
theorem rdurParse_other (s t : ByteArray) (W w : World) (he : s.toList.isEmpty = false) (hs : s.size ≤ 30) (h1 : 1 ≤ Sum s) (h2 : Sum s ≤ 2147483648) (ht : ⟨(durText (Sum s)).toArray⟩ = t) (hn : (!t.toList == s.toList) = true) (h : At W w) :
    Calls Tryd.prog 29 #[.string s] w fun e w' => e = .returned (.tuple #[.int .i64 0, .int .i64 4]) ∧ At W w' := by
  have hs' : (s.size : Int) ≤ 30 := by omega
  have T := Lib.hid ht; clear ht
  go_enter Tryd.func29, Tryd.ntmps29
  go_wp2
  go_loop [4, 5, 6] (fun a n i => ∃ (k : Nat) (x y : Int), 1 ≤ k ∧ k ≤ 31 ∧ i = .int .i64 k ∧ a = .int .i64 x ∧ n = .int .i64 y ∧ 0 ≤ x ∧ x ≤ 1152921504606846976 ∧ 0 ≤ y ∧ y ≤ 8589934592 ∧ RRest s k x y) (fun _ _ i => 31 - (intOf i).toNat)
  case atStart => exact ⟨1, 0, 0, by decide, by decide, rfl, rfl, rfl, by decide, by decide, by decide, by decide, rfl⟩
  case round =>
    obtain ⟨k, x, y, k1, k2, rfl, rfl, rfl, x1, x2, y1, y2, hr⟩ := hrel
    by_cases hlt : k < s.size
    · have hb0 : 0 ≤ (s[k].toNat : Int) := by omega
      have hb1 : (s[k].toNat : Int) ≤ 255 := by have := UInt8.toNat_lt s[k]; omega
      cases hc : isd s[k]
      · have C := of_decide_eq_false hc
        have C2 : (s[k].toNat : Int) < 48 ∨ 57 < (s[k].toNat : Int) := by omega
        by_cases hm : (s[k].toNat : Int) = 87 ∨ (s[k].toNat : Int) = 68 ∨ (s[k].toNat : Int) = 72 ∨ (s[k].toNat : Int) = 77 ∨ (s[k].toNat : Int) = 83
        · rcases hm with hm | hm | hm | hm | hm
          · have e1 : sec (s[k].toNat : Int) = 604800 := by rw [hm]; rfl
            have R0 := rrest_2 hlt hc (by rw [e1]; decide) hr
            rw [e1] at R0
            have R := Lib.hid R0
            have g0 : ¬ (s[k].toNat : Int) ≤ 57 := by omega
            have g87 : ((s[k].toNat : Int) == 87) = true := by rw [beq_iff_eq]; omega
            have g68 : ((s[k].toNat : Int) == 68) = false := by rw [beq_eq_false_iff_ne, ne_eq]; omega
            have g72 : ((s[k].toNat : Int) == 72) = false := by rw [beq_eq_false_iff_ne, ne_eq]; omega
            have g77 : ((s[k].toNat : Int) == 77) = false := by rw [beq_eq_false_iff_ne, ne_eq]; omega
            have g83 : ((s[k].toNat : Int) == 83) = false := by rw [beq_eq_false_iff_ne, ne_eq]; omega
            clear hm hc C C2 e1 hr R0
            go_wp2
            go_round
            case rel => exact ⟨k + 1, _, 0, by omega, by omega, by go_num, rfl, rfl, by omega, by omega, by decide, by decide, R.out⟩
            case measure => simp [intOf]; omega
          · have e1 : sec (s[k].toNat : Int) = 86400 := by rw [hm]; rfl
            have R0 := rrest_2 hlt hc (by rw [e1]; decide) hr
            rw [e1] at R0
            have R := Lib.hid R0
            have g0 : ¬ (s[k].toNat : Int) ≤ 57 := by omega
            have g87 : ((s[k].toNat : Int) == 87) = false := by rw [beq_eq_false_iff_ne, ne_eq]; omega
            have g68 : ((s[k].toNat : Int) == 68) = true := by rw [beq_iff_eq]; omega
            have g72 : ((s[k].toNat : Int) == 72) = false := by rw [beq_eq_false_iff_ne, ne_eq]; omega
            have g77 : ((s[k].toNat : Int) == 77) = false := by rw [beq_eq_false_iff_ne, ne_eq]; omega
            have g83 : ((s[k].toNat : Int) == 83) = false := by rw [beq_eq_false_iff_ne, ne_eq]; omega
            clear hm hc C C2 e1 hr R0
            go_wp2
            go_round
            case rel => exact ⟨k + 1, _, 0, by omega, by omega, by go_num, rfl, rfl, by omega, by omega, by decide, by decide, R.out⟩
            case measure => simp [intOf]; omega
          · have e1 : sec (s[k].toNat : Int) = 3600 := by rw [hm]; rfl
            have R0 := rrest_2 hlt hc (by rw [e1]; decide) hr
            rw [e1] at R0
            have R := Lib.hid R0
            have g0 : ¬ (s[k].toNat : Int) ≤ 57 := by omega
            have g87 : ((s[k].toNat : Int) == 87) = false := by rw [beq_eq_false_iff_ne, ne_eq]; omega
            have g68 : ((s[k].toNat : Int) == 68) = false := by rw [beq_eq_false_iff_ne, ne_eq]; omega
            have g72 : ((s[k].toNat : Int) == 72) = true := by rw [beq_iff_eq]; omega
            have g77 : ((s[k].toNat : Int) == 77) = false := by rw [beq_eq_false_iff_ne, ne_eq]; omega
            have g83 : ((s[k].toNat : Int) == 83) = false := by rw [beq_eq_false_iff_ne, ne_eq]; omega
            clear hm hc C C2 e1 hr R0
            go_wp2
            go_round
            case rel => exact ⟨k + 1, _, 0, by omega, by omega, by go_num, rfl, rfl, by omega, by omega, by decide, by decide, R.out⟩
            case measure => simp [intOf]; omega
          · have e1 : sec (s[k].toNat : Int) = 60 := by rw [hm]; rfl
            have R0 := rrest_2 hlt hc (by rw [e1]; decide) hr
            rw [e1] at R0
            have R := Lib.hid R0
            have g0 : ¬ (s[k].toNat : Int) ≤ 57 := by omega
            have g87 : ((s[k].toNat : Int) == 87) = false := by rw [beq_eq_false_iff_ne, ne_eq]; omega
            have g68 : ((s[k].toNat : Int) == 68) = false := by rw [beq_eq_false_iff_ne, ne_eq]; omega
            have g72 : ((s[k].toNat : Int) == 72) = false := by rw [beq_eq_false_iff_ne, ne_eq]; omega
            have g77 : ((s[k].toNat : Int) == 77) = true := by rw [beq_iff_eq]; omega
            have g83 : ((s[k].toNat : Int) == 83) = false := by rw [beq_eq_false_iff_ne, ne_eq]; omega
            clear hm hc C C2 e1 hr R0
            go_wp2
            go_round
            case rel => exact ⟨k + 1, _, 0, by omega, by omega, by go_num, rfl, rfl, by omega, by omega, by decide, by decide, R.out⟩
            case measure => simp [intOf]; omega
          · have e1 : sec (s[k].toNat : Int) = 1 := by rw [hm]; rfl
            have R0 := rrest_2 hlt hc (by rw [e1]; decide) hr
            rw [e1, Int.mul_one] at R0
            have R := Lib.hid R0
            have g0 : ¬ (s[k].toNat : Int) ≤ 57 := by omega
            have g87 : ((s[k].toNat : Int) == 87) = false := by rw [beq_eq_false_iff_ne, ne_eq]; omega
            have g68 : ((s[k].toNat : Int) == 68) = false := by rw [beq_eq_false_iff_ne, ne_eq]; omega
            have g72 : ((s[k].toNat : Int) == 72) = false := by rw [beq_eq_false_iff_ne, ne_eq]; omega
            have g77 : ((s[k].toNat : Int) == 77) = false := by rw [beq_eq_false_iff_ne, ne_eq]; omega
            have g83 : ((s[k].toNat : Int) == 83) = true := by rw [beq_iff_eq]; omega
            clear hm hc C C2 e1 hr R0
            go_wp2
            go_round
            case rel => exact ⟨k + 1, _, 0, by omega, by omega, by go_num, rfl, rfl, by omega, by omega, by decide, by decide, R.out⟩
            case measure => simp [intOf]; omega
        · have R := Lib.hid (rrest_3 hlt hc (by rw [sec_no hm]; decide) hr)
          have g87 : ((s[k].toNat : Int) == 87) = false := by rw [beq_eq_false_iff_ne, ne_eq]; omega
          have g68 : ((s[k].toNat : Int) == 68) = false := by rw [beq_eq_false_iff_ne, ne_eq]; omega
          have g72 : ((s[k].toNat : Int) == 72) = false := by rw [beq_eq_false_iff_ne, ne_eq]; omega
          have g77 : ((s[k].toNat : Int) == 77) = false := by rw [beq_eq_false_iff_ne, ne_eq]; omega
          have g83 : ((s[k].toNat : Int) == 83) = false := by rw [beq_eq_false_iff_ne, ne_eq]; omega
          clear hm hc C hr
          rcases C2 with C2 | C2
          all_goals
            go_wp2
            go_round
            case rel => exact ⟨k + 1, x, y, by omega, by omega, by go_num, rfl, rfl, by omega, by omega, by omega, by omega, R.out⟩
            case measure => simp [intOf]; omega
      · obtain ⟨c1, c2⟩ := of_decide_eq_true hc
        have R := Lib.hid (rrest_1 hlt hc hr)
        clear hc hr
        go_wp2
        go_round
        case rel => exact ⟨k + 1, x, _, by omega, by omega, by go_num, rfl, rfl, by omega, by omega, by omega, by omega, R.out⟩
        case measure => simp [intOf]; omega
    · have e : x = Sum s := rrest_end (by omega) hr
      subst e
      clear hr
      go_wp2_with fail
      refine (rdurText_is _ W _ t h1 h2 T.out h).mono ?_
      rintro e wd ⟨rfl, at1⟩
      go_wp2
      go_ret2
      exact ⟨rfl, at1⟩
set_option maxHeartbeats 4000000 in
theorem rdurParse_out (s t : ByteArray) (W w : World) (he : s.toList.isEmpty = false) (hs : s.size ≤ 30) (h1 : ¬ (1 ≤ Sum s ∧ Sum s ≤ 2147483648)) (h : At W w) :
    Calls Tryd.prog 29 #[.string s] w fun e w' => e = .returned (.tuple #[.int .i64 0, .int .i64 4]) ∧ At W w' := by
  have hs' : (s.size : Int) ≤ 30 := by omega
  have T := Lib.hid h1; clear h1
  go_enter Tryd.func29, Tryd.ntmps29
  go_wp2
  go_loop [4, 5, 6] (fun a n i => ∃ (k : Nat) (x y : Int), 1 ≤ k ∧ k ≤ 31 ∧ i = .int .i64 k ∧ a = .int .i64 x ∧ n = .int .i64 y ∧ 0 ≤ x ∧ x ≤ 1152921504606846976 ∧ 0 ≤ y ∧ y ≤ 8589934592 ∧ RRest s k x y) (fun _ _ i => 31 - (intOf i).toNat)
  case atStart => exact ⟨1, 0, 0, by decide, by decide, rfl, rfl, rfl, by decide, by decide, by decide, by decide, rfl⟩
  case round =>
    obtain ⟨k, x, y, k1, k2, rfl, rfl, rfl, x1, x2, y1, y2, hr⟩ := hrel
    by_cases hlt : k < s.size
    · have hb0 : 0 ≤ (s[k].toNat : Int) := by omega
      have hb1 : (s[k].toNat : Int) ≤ 255 := by have := UInt8.toNat_lt s[k]; omega
      cases hc : isd s[k]
      · have C := of_decide_eq_false hc
        have C2 : (s[k].toNat : Int) < 48 ∨ 57 < (s[k].toNat : Int) := by omega
        by_cases hm : (s[k].toNat : Int) = 87 ∨ (s[k].toNat : Int) = 68 ∨ (s[k].toNat : Int) = 72 ∨ (s[k].toNat : Int) = 77 ∨ (s[k].toNat : Int) = 83
        · rcases hm with hm | hm | hm | hm | hm
          · have e1 : sec (s[k].toNat : Int) = 604800 := by rw [hm]; rfl
            have R0 := rrest_2 hlt hc (by rw [e1]; decide) hr
            rw [e1] at R0
            have R := Lib.hid R0
            have g0 : ¬ (s[k].toNat : Int) ≤ 57 := by omega
            have g87 : ((s[k].toNat : Int) == 87) = true := by rw [beq_iff_eq]; omega
            have g68 : ((s[k].toNat : Int) == 68) = false := by rw [beq_eq_false_iff_ne, ne_eq]; omega
            have g72 : ((s[k].toNat : Int) == 72) = false := by rw [beq_eq_false_iff_ne, ne_eq]; omega
            have g77 : ((s[k].toNat : Int) == 77) = false := by rw [beq_eq_false_iff_ne, ne_eq]; omega
            have g83 : ((s[k].toNat : Int) == 83) = false := by rw [beq_eq_false_iff_ne, ne_eq]; omega
            clear hm hc C C2 e1 hr R0
            go_wp2
            go_round
            case rel => exact ⟨k + 1, _, 0, by omega, by omega, by go_num, rfl, rfl, by omega, by omega, by decide, by decide, R.out⟩
            case measure => simp [intOf]; omega
          · have e1 : sec (s[k].toNat : Int) = 86400 := by rw [hm]; rfl
            have R0 := rrest_2 hlt hc (by rw [e1]; decide) hr
            rw [e1] at R0
            have R := Lib.hid R0
            have g0 : ¬ (s[k].toNat : Int) ≤ 57 := by omega
            have g87 : ((s[k].toNat : Int) == 87) = false := by rw [beq_eq_false_iff_ne, ne_eq]; omega
            have g68 : ((s[k].toNat : Int) == 68) = true := by rw [beq_iff_eq]; omega
            have g72 : ((s[k].toNat : Int) == 72) = false := by rw [beq_eq_false_iff_ne, ne_eq]; omega
            have g77 : ((s[k].toNat : Int) == 77) = false := by rw [beq_eq_false_iff_ne, ne_eq]; omega
            have g83 : ((s[k].toNat : Int) == 83) = false := by rw [beq_eq_false_iff_ne, ne_eq]; omega
            clear hm hc C C2 e1 hr R0
            go_wp2
            go_round
            case rel => exact ⟨k + 1, _, 0, by omega, by omega, by go_num, rfl, rfl, by omega, by omega, by decide, by decide, R.out⟩
            case measure => simp [intOf]; omega
          · have e1 : sec (s[k].toNat : Int) = 3600 := by rw [hm]; rfl
            have R0 := rrest_2 hlt hc (by rw [e1]; decide) hr
            rw [e1] at R0
            have R := Lib.hid R0
            have g0 : ¬ (s[k].toNat : Int) ≤ 57 := by omega
            have g87 : ((s[k].toNat : Int) == 87) = false := by rw [beq_eq_false_iff_ne, ne_eq]; omega
            have g68 : ((s[k].toNat : Int) == 68) = false := by rw [beq_eq_false_iff_ne, ne_eq]; omega
            have g72 : ((s[k].toNat : Int) == 72) = true := by rw [beq_iff_eq]; omega
            have g77 : ((s[k].toNat : Int) == 77) = false := by rw [beq_eq_false_iff_ne, ne_eq]; omega
            have g83 : ((s[k].toNat : Int) == 83) = false := by rw [beq_eq_false_iff_ne, ne_eq]; omega
            clear hm hc C C2 e1 hr R0
            go_wp2
            go_round
            case rel => exact ⟨k + 1, _, 0, by omega, by omega, by go_num, rfl, rfl, by omega, by omega, by decide, by decide, R.out⟩
            case measure => simp [intOf]; omega
          · have e1 : sec (s[k].toNat : Int) = 60 := by rw [hm]; rfl
            have R0 := rrest_2 hlt hc (by rw [e1]; decide) hr
            rw [e1] at R0
            have R := Lib.hid R0
            have g0 : ¬ (s[k].toNat : Int) ≤ 57 := by omega
            have g87 : ((s[k].toNat : Int) == 87) = false := by rw [beq_eq_false_iff_ne, ne_eq]; omega
            have g68 : ((s[k].toNat : Int) == 68) = false := by rw [beq_eq_false_iff_ne, ne_eq]; omega
            have g72 : ((s[k].toNat : Int) == 72) = false := by rw [beq_eq_false_iff_ne, ne_eq]; omega
            have g77 : ((s[k].toNat : Int) == 77) = true := by rw [beq_iff_eq]; omega
            have g83 : ((s[k].toNat : Int) == 83) = false := by rw [beq_eq_false_iff_ne, ne_eq]; omega
            clear hm hc C C2 e1 hr R0
            go_wp2
            go_round
            case rel => exact ⟨k + 1, _, 0, by omega, by omega, by go_num, rfl, rfl, by omega, by omega, by decide, by decide, R.out⟩
            case measure => simp [intOf]; omega
          · have e1 : sec (s[k].toNat : Int) = 1 := by rw [hm]; rfl
            have R0 := rrest_2 hlt hc (by rw [e1]; decide) hr
            rw [e1, Int.mul_one] at R0
            have R := Lib.hid R0
            have g0 : ¬ (s[k].toNat : Int) ≤ 57 := by omega
            have g87 : ((s[k].toNat : Int) == 87) = false := by rw [beq_eq_false_iff_ne, ne_eq]; omega
            have g68 : ((s[k].toNat : Int) == 68) = false := by rw [beq_eq_false_iff_ne, ne_eq]; omega
            have g72 : ((s[k].toNat : Int) == 72) = false := by rw [beq_eq_false_iff_ne, ne_eq]; omega
            have g77 : ((s[k].toNat : Int) == 77) = false := by rw [beq_eq_false_iff_ne, ne_eq]; omega
            have g83 : ((s[k].toNat : Int) == 83) = true := by rw [beq_iff_eq]; omega
            clear hm hc C C2 e1 hr R0
            go_wp2
            go_round
            case rel => exact ⟨k + 1, _, 0, by omega, by omega, by go_num, rfl, rfl, by omega, by omega, by decide, by decide, R.out⟩
            case measure => simp [intOf]; omega
        · have R := Lib.hid (rrest_3 hlt hc (by rw [sec_no hm]; decide) hr)
          have g87 : ((s[k].toNat : Int) == 87) = false := by rw [beq_eq_false_iff_ne, ne_eq]; omega
          have g68 : ((s[k].toNat : Int) == 68) = false := by rw [beq_eq_false_iff_ne, ne_eq]; omega
          have g72 : ((s[k].toNat : Int) == 72) = false := by rw [beq_eq_false_iff_ne, ne_eq]; omega
          have g77 : ((s[k].toNat : Int) == 77) = false := by rw [beq_eq_false_iff_ne, ne_eq]; omega
          have g83 : ((s[k].toNat : Int) == 83) = false := by rw [beq_eq_false_iff_ne, ne_eq]; omega
          clear hm hc C hr
          rcases C2 with C2 | C2
          all_goals
            go_wp2
            go_round
            case rel => exact ⟨k + 1, x, y, by omega, by omega, by go_num, rfl, rfl, by omega, by omega, by omega, by omega, R.out⟩
            case measure => simp [intOf]; omega
      · obtain ⟨c1, c2⟩ := of_decide_eq_true hc
        have R := Lib.hid (rrest_1 hlt hc hr)
        clear hc hr
        go_wp2
        go_round
        case rel => exact ⟨k + 1, x, _, by omega, by omega, by go_num, rfl, rfl, by omega, by omega, by omega, by omega, R.out⟩
        case measure => simp [intOf]; omega
    · have e : x = Sum s := rrest_end (by omega) hr
      subst e
      clear hr
      go_wp2_with fail
      refine (rdurText_no _ _ T.out).mono ?_
      rintro e wd ⟨rfl, rfl⟩
      go_wp2
      go_ret2
      exact ⟨rfl, h⟩
theorem rdurParse_empty (s : ByteArray) (w : World) (h : s.data.toList = []) :
    Calls Tryd.prog 29 #[.string s] w fun e w' => e = .returned (.tuple #[.int .i64 0, .int .i64 2]) ∧ w = w' := by
  obtain rfl : s = ⟨#[]⟩ := bytes_ext h
  go_enter Tryd.func29, Tryd.ntmps29
  go_wp2
  go_ret2
  exact ⟨rfl, rfl⟩
theorem rdurParse_long (s : ByteArray) (w : World) (he : s.toList.isEmpty = false) (h : 30 < s.size) (hs : s.size ≤ maxLen) :
    Calls Tryd.prog 29 #[.string s] w fun e w' => e = .returned (.tuple #[.int .i64 0, .int .i64 4]) ∧ w = w' := by
  unfold maxLen at hs
  go_enter Tryd.func29, Tryd.ntmps29
  go_wp2
  go_ret2
  exact ⟨rfl, rfl⟩
/-- vokref1.DurParse of any text. -/
theorem rdurParse_any (s : ByteArray) (W w : World) (hs : s.size ≤ maxLen) (ha : At W w) :
    Calls Tryd.prog 29 #[.string s] w fun e w' => e = .returned (.tuple #[.int .i64 (durParse s.data.toList).1, .int .i64 (durParse s.data.toList).2]) ∧ At W w' := by
  have hz : s.data.toList.length = s.size := by simp
  by_cases h : s.data.toList = []
  · rw [durParse_1 h]
    exact (rdurParse_empty s w h).mono fun _ _ g => ⟨g.1, g.2 ▸ ha⟩
  have he : s.toList.isEmpty = false := by rw [ByteArray.toList_eq]; simpa using h
  by_cases hl : 30 < s.size
  · rw [durParse_long (by omega)]
    exact (rdurParse_long s w he hl hs).mono fun _ _ g => ⟨g.1, g.2 ▸ ha⟩
  have es : Sum s = rsumL s.data.toList.tail 0 0 := by unfold Sum; rw [List.drop_one]
  by_cases h1 : 1 ≤ Sum s ∧ Sum s ≤ 2147483648
  case neg =>
    rw [durParse_none h (fun x => h1 (by rw [es]; exact ⟨x.1, x.2.1⟩))]
    exact rdurParse_out s s W w he (by omega) h1 ha
  by_cases h2 : durText (Sum s) = s.data.toList
  · rw [durParse_same (by rw [← es]; exact h1.1) (by rw [← es]; exact h1.2) (by rw [← es]; exact h2), ← es]
    exact rdurParse_yes s s W w he (by omega) h1.1 h1.2 (bytes_ext h2) ha
  · rw [durParse_none h (fun x => h2 (by rw [es]; exact x.2.2))]
    refine rdurParse_other s _ W w he (by omega) h1.1 h1.2 rfl ?_ ha
    rw [ByteArray.toList_eq, ByteArray.toList_eq, Bool.not_eq_true', beq_eq_false_iff_ne]
    simpa using h2
theorem rdurParse_is (s : ByteArray) (W w : World) (hs : s.size ≤ maxLen) (h : At W w) (a b : Int) (hp : durParse s.data.toList = (a, b)) :
    Calls Tryd.prog 29 #[.string s] w fun e w' => e = .returned (.tuple #[.int .i64 a, .int .i64 b]) ∧ At W w' := by
  have := rdurParse_any s W w hs h; rwa [hp] at this
set_option maxHeartbeats 1000000 in
theorem stampDurs_walk (n : Int) (s : ByteArray) (n1 : -9223372036854775808 ≤ n) (n2 : n ≤ 9223372036854775807) (hs : s.size ≤ maxLen) (W : World) (ha : At W W) :
    Calls Tryd.prog 5 #[.int .i64 n, .string s] W fun e w' => e = .returned (.bool true) ∧ At W w' := by
  by_cases h1 : 2000 < s.size
  · unfold maxLen at hs
    go_enter Tryd.func5, Tryd.ntmps5
    go_wp2_with fail
    refine (first_any W _ ha).mono ?_
    rintro e wd1 ⟨rfl, at1⟩
    go_wp2_with fail
    refine (first_any W _ at1).mono ?_
    rintro e wd2 ⟨rfl, at2⟩
    clear at1
    go_wp2
    go_ret
    exact ⟨rfl, at2⟩
  have h2 : s.size ≤ 2000 := by omega
  obtain ⟨p, q, hp⟩ : ∃ p q, durParse s.data.toList = (p, q) := ⟨_, _, rfl⟩
  have P := Lib.hid hp
  clear hp h1
  by_cases hm : 1 ≤ n ∧ n ≤ 2147483648
  case neg =>
    have M := Lib.hid hm; clear hm
    go_enter Tryd.func5, Tryd.ntmps5
    go_wp2_with fail
    refine (first_any W _ ha).mono ?_
    rintro e wd1 ⟨rfl, at1⟩
    go_wp2_with fail
    refine (durText_no _ _ M.out).mono ?_
    rintro e w' ⟨rfl, rfl⟩
    go_wp2_with fail
    refine (rdurText_no _ _ M.out).mono ?_
    rintro e w' ⟨rfl, rfl⟩
    go_wp2_with fail
    refine (durParse_is s W _ hs at1 _ _ P.out).mono ?_
    rintro e wd2 ⟨rfl, at2⟩
    clear at1
    go_wp2_with fail
    refine (rdurParse_is s W _ hs at2 _ _ P.out).mono ?_
    rintro e wd3 ⟨rfl, at3⟩
    clear at2
    go_wp2_with fail
    refine (first_any W _ at3).mono ?_
    rintro e wd4 ⟨rfl, at4⟩
    clear at3
    go_wp2
    go_ret
    exact ⟨rfl, at4⟩
  obtain ⟨x1, x2⟩ := hm
  obtain ⟨u, hu⟩ : ∃ u : ByteArray, (⟨(durText n).toArray⟩ : ByteArray) = u := ⟨_, rfl⟩
  have U := Lib.hid hu; clear hu
  go_enter Tryd.func5, Tryd.ntmps5
  go_wp2_with fail
  refine (first_any W _ ha).mono ?_
  rintro e wd1 ⟨rfl, at1⟩
  go_wp2_with fail
  refine (durText_is W _ _ _ x1 x2 at1 U.out).mono ?_
  rintro e wd2 ⟨rfl, at2⟩
  clear at1
  go_wp2_with fail
  refine (rdurText_is _ W _ u x1 x2 U.out at2).mono ?_
  rintro e wd3 ⟨rfl, at3⟩
  clear at2
  go_wp2_with fail
  refine (durParse_is s W _ hs at3 _ _ P.out).mono ?_
  rintro e wd4 ⟨rfl, at4⟩
  clear at3
  go_wp2_with fail
  refine (rdurParse_is s W _ hs at4 _ _ P.out).mono ?_
  rintro e wd5 ⟨rfl, at5⟩
  clear at4
  go_wp2_with fail
  refine (first_any W _ at5).mono ?_
  rintro e wd6 ⟨rfl, at6⟩
  clear at5
  go_wp2
  go_ret
  exact ⟨rfl, at6⟩
end Go.Proofs.YtbnncdfkmlfjhaaDoor.St
