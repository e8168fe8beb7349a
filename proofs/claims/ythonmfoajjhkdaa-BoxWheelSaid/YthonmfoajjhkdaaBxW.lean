/- The walk of voklaw12.BoxWheel. -/
import Derived.Test.YthonmfoajjhkdaaBxO
set_option linter.unusedVariables false
namespace Go.Proofs.Ythonmfoajjhkdaa.Bx
open Go.RowKit Iv

set_option maxRecDepth 100000 in
set_option maxHeartbeats 8000000 in
theorem wheel_walk (w : World) (a0 a1 : Int) (l1 : -9223372036854775808 ≤ a1) (u1 : a1 ≤ 9223372036854775807) :
    Calls Try.prog 6 #[.int .i64 a0, .int .i64 a1] w fun e w' => e = .returned (.bool true) ∧ Below w.heap.size w w' := by
  go_enter Try.func6, Try.ntmps6
  go_wp2_with fail
  refine (first12 w).mono ?_
  rintro e w0 ⟨rfl, b0⟩
  have B0 := Lib.hid b0
  clear b0
  by_cases hs : ¬ (1 ≤ a0 ∧ a0 ≤ 1000)
  · go_wp2_with fail
    refine (new_no w0 a0 hs).mono ?_
    rintro e w1 ⟨rfl, rfl⟩
    go_wp2_with fail
    refine (first12 w0).mono ?_
    rintro e w1 ⟨rfl, b1⟩
    have B1 := Lib.hid (B0.out.trans (b1.mono B0.out.size))
    clear b1
    go_wp2
    go_ret
    exact ⟨rfl, B1.out⟩
  obtain ⟨n, rfl⟩ : ∃ n : Nat, a0 = n := ⟨a0.toNat, by omega⟩
  have n1 : 1 ≤ n := by omega
  have n2 : n ≤ 1000 := by omega
  go_wp2_with fail
  refine (one_new B0.out n n1 n2).mono ?_
  rintro e w1 ⟨p, c, rfl, q1⟩
  have O1 := Lib.hid q1
  clear q1 B0
  by_cases ha : a1 < 0
  · have s1 : decide (a1 < 0) = true := decide_eq_true ha
    go_wp2_with fail
    refine O1.out.first.mono ?_
    rintro e w2 ⟨rfl, q2⟩
    have B2 := Lib.hid q2.at_
    clear q2
    go_wp2
    go_ret
    exact ⟨rfl, B2.out⟩
  by_cases hb : 2000 < a1
  · have s1 : decide (a1 < 0) = false := decide_eq_false ha
    have s2 : decide (2000 < a1) = true := decide_eq_true hb
    go_wp2_with fail
    refine O1.out.first.mono ?_
    rintro e w2 ⟨rfl, q2⟩
    have B2 := Lib.hid q2.at_
    clear q2
    go_wp2
    go_ret
    exact ⟨rfl, B2.out⟩
  obtain ⟨m, rfl⟩ : ∃ m : Nat, a1 = m := ⟨a1.toNat, by omega⟩
  have m2 : m ≤ 2000 := by omega
  have s1 : decide ((m : Int) < 0) = false := decide_eq_false ha
  have s2 : decide ((2000 : Int) < m) = false := decide_eq_false hb
  have s22 : decide (2000 < m) = false := decide_eq_false (by omega)
  clear ha hb hs
  have O2 := Lib.hid (show One w w1 p c n (whL n 0) by rw [show whL n 0 = [] by simp [whL]]; exact O1.out)
  clear O1
  go_wp2_with fail
  go_loopw [7] (fun i wr => ∃ t : Nat, i = .int .i64 t ∧ t ≤ m ∧ One w wr p c n (whL n t)) (fun i _ => m - (intOf i).toNat)
  case atStart => exact ⟨0, rfl, Nat.zero_le _, O2.out⟩
  case round =>
    obtain ⟨wo, rfl⟩ : ∃ wo : World, wo = wr := ⟨_, rfl⟩
    clear O2
    obtain ⟨t, rfl, ht, hO⟩ := hrel
    have OO := Lib.hid hO
    clear hO
    by_cases hlt : t < m
    · have s0 : decide ((t : Int) < m) = true := decide_eq_true (by omega)
      have s00 : decide (t < m) = true := decide_eq_true hlt
      have i5 : (t : Int) < m := by omega
      have W1 : IntKind.i64.wrap ((t : Int) + 1) = (t : Int) + 1 := IntWalk.i64_in _ (by omega)
      have pe := wh_room (t := t) n1
      go_wp2_with fail
      refine (OO.out.put t).mono ?_
      rintro e w2 ⟨rfl, q2⟩
      rw [pe]
      have O2 := Lib.hid q2
      clear q2 pe OO
      by_cases hn : t + 1 < n
      · have s3 : decide ((n : Int) ≤ (t : Int) + 1) = false := decide_eq_false (by omega)
        have s4 : ¬ (n : Int) ≤ (t : Int) + 1 := by omega
        have O3 := Lib.hid (show One w w2 p c n (whL n (t + 1)) by rw [← wh_less n1 hn]; exact O2.out)
        clear O2
        go_wp2
        go_roundw
        case rel => exact ⟨t + 1, by go_num, by omega, O3.out⟩
        case measure => simp [intOf]; omega
      · have s3 : decide ((n : Int) ≤ (t : Int) + 1) = true := decide_eq_true (by omega)
        have s4 : (n : Int) ≤ (t : Int) + 1 := by omega
        have W2 : IntKind.i64.wrap ((t : Int) + 1 - n) = (t : Int) + 1 - n := IntWalk.i64_in _ (by omega)
        obtain ⟨h1, h2, h3⟩ := wh_more (t := t) n1 hn
        go_wp2_with fail
        refine O2.out.take.mono ?_
        rintro e w3 ⟨rfl, q3⟩
        rw [h1, h2]
        rw [h3] at q3
        have O3 := Lib.hid q3
        clear q3 O2 h1 h2 h3
        go_wp2
        go_roundw
        case rel => exact ⟨t + 1, by go_num, by omega, O3.out⟩
        case measure => simp [intOf]; omega
    · obtain rfl : t = m := by omega
      have s0 : decide ((t : Int) < t) = false := decide_eq_false (by omega)
      have s00 : decide (t < t) = false := decide_eq_false (by omega)
      have wl := wh_len (t := t) n1
      have W3 : IntKind.i64.wrap ((n : Int) - 1) = ((n - 1 : Nat) : Int) := by rw [IntWalk.i64_in _ (by omega)]; omega
      have M3 : min (t : Int) ((n - 1 : Nat) : Int) = ((min t (n - 1) : Nat) : Int) := by omega
      go_wp2_with fail
      refine OO.out.first.mono ?_
      rintro e w2 ⟨rfl, q2⟩
      have O2 := Lib.hid q2
      clear q2 OO
      go_wp2_with fail
      refine O2.out.len.mono ?_
      rintro e w3 ⟨rfl, rfl⟩
      rw [wl]
      generalize hz : min t (n - 1) = z at *
      have ZE := Lib.hid hz
      clear hz M3
      have B2 := Lib.hid O2.out.at_
      clear O2
      go_wp2
      all_goals (go_ret; exact ⟨ret_bool (by have := ZE.out; rw [beq_iff_eq]; omega), B2.out⟩)
end Go.Proofs.Ythonmfoajjhkdaa.Bx
