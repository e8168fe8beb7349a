/- The walk of voklaw12.BoxTurns. -/
import Derived.Test.YthonmfoajjhkdaaBxT
set_option linter.unusedVariables false
namespace Go.Proofs.Ythonmfoajjhkdaa.Bx
open Go.RowKit Iv

set_option maxRecDepth 100000 in
set_option maxHeartbeats 8000000 in
theorem turns_walk (w : World) (A B : Option Addr) (j k d1 d2 : Nat) (l m : List Int) (hA : IsAt w A j l) (hB : IsAt w B k m) (hj : j ≤ 9223372036854775807) (hk : k ≤ 9223372036854775807) :
    Calls Try.prog 8 #[.slice A j d1, .slice B k d2] w fun e w' => e = .returned (.bool true) ∧ Below w.heap.size w w' := by
  have HA := Lib.hid hA
  have HB := Lib.hid hB
  have LJ := Lib.hid hA.1
  have LK := Lib.hid hB.1
  clear hA hB
  go_enter Try.func8, Try.ntmps8
  go_wp2_with fail
  refine (first12 w).mono ?_
  rintro e w0 ⟨rfl, b0⟩
  have B0 := Lib.hid b0
  clear b0
  by_cases ha : 100 < j
  · have s1 : decide (100 < j) = true := decide_eq_true ha
    have s2 : decide ((100 : Int) < j) = true := decide_eq_true (by omega)
    (go_wp2_with fail
     refine (first12 w0).mono ?_
     rintro e w1 ⟨rfl, b1⟩
     have B1 := Lib.hid (B0.out.trans (b1.mono B0.out.size))
     clear b1
     go_wp2
     go_ret
     exact ⟨rfl, B1.out⟩)
  have s1 : decide (100 < j) = false := decide_eq_false (by omega)
  have s2 : decide ((100 : Int) < j) = false := decide_eq_false (by omega)
  by_cases hb : 100 < k
  · have s3 : decide (100 < k) = true := decide_eq_true hb
    have s4 : decide ((100 : Int) < k) = true := decide_eq_true (by omega)
    (go_wp2_with fail
     refine (first12 w0).mono ?_
     rintro e w1 ⟨rfl, b1⟩
     have B1 := Lib.hid (B0.out.trans (b1.mono B0.out.size))
     clear b1
     go_wp2
     go_ret
     exact ⟨rfl, B1.out⟩)
  have s3 : decide (100 < k) = false := decide_eq_false (by omega)
  have s4 : decide ((100 : Int) < k) = false := decide_eq_false (by omega)
  have j2 : j ≤ 100 := by omega
  have k2 : k ≤ 100 := by omega
  clear ha hb hj hk
  go_wp2_with fail
  refine (one_new B0.out 101 (by omega) (by omega)).mono ?_
  rintro e w1 ⟨p, c, rfl, q1⟩
  have O1 := Lib.hid q1
  clear q1 B0 s1 s2 s3 s4
  go_wp2_with fail
  refine (two_new O1.out 101 (by omega) (by omega)).mono ?_
  rintro e w2 ⟨q, d, rfl, q2⟩
  have T2 := Lib.hid (show Two w w2 p c 101 [] q d 101 (m.take 0) from q2)
  clear q2 O1
  go_wp2_with fail
  go_loopw [9] (fun i wr => ∃ t : Nat, i = .int .i64 t ∧ t ≤ k ∧ Two w wr p c 101 [] q d 101 (m.take t)) (fun i _ => k - (intOf i).toNat)
  case atStart => exact ⟨0, rfl, Nat.zero_le _, T2.out⟩
  case round =>
    obtain ⟨wo, rfl⟩ : ∃ wo : World, wo = wr := ⟨_, rfl⟩
    clear T2
    obtain ⟨t, rfl, ht, hO⟩ := hrel
    have TO := Lib.hid hO
    clear hO
    by_cases hlt : t < k
    · have s0 : decide ((t : Int) < k) = true := decide_eq_true (by omega)
      have s00 : decide (t < k) = true := decide_eq_true hlt
      have i5 : (t : Int) < k := by omega
      have W1 : IntKind.i64.wrap ((t : Int) + 1) = (t : Int) + 1 := IntWalk.i64_in _ (by omega)
      obtain ⟨b, off, rfl, hc⟩ := is_cell HB.out hlt
      have x0 := hc wo TO.out.a.at_
      obtain ⟨pe, pl⟩ := put_take (n := 101) (l := m) (show t < 101 by omega) (by have := LK.out; omega)
      clear hc
      generalize gt m t = x at *
      go_wp2_with fail
      refine (TO.out.swap.put x).mono ?_
      rintro e w3 ⟨rfl, q3, -⟩
      rw [pl] at q3
      have T3 := Lib.hid q3.swap
      clear q3 pe pl TO
      generalize putE 101 (m.take t) = pe at *
      go_wp2
      go_roundw
      case rel => exact ⟨t + 1, by go_num, by omega, T3.out⟩
      case measure => simp [intOf]; omega
    · obtain rfl : t = k := by omega
      have s0 : decide ((t : Int) < t) = false := decide_eq_false (by omega)
      have s00 : decide (t < t) = false := decide_eq_false (by omega)
      have T2 := Lib.hid (show Two w wo p c 101 [] q d 101 m by have := TO.out; rwa [List.take_of_length_le (by have := LK.out; omega)] at this)
      clear TO
      go_wp2_with fail
      go_loopw [10] (fun i wr => ∃ u : Nat, i = .int .i64 u ∧ u ≤ j ∧ Two w wr p c 101 [] q d 101 m) (fun i _ => j - (intOf i).toNat)
      case atStart => exact ⟨0, rfl, Nat.zero_le _, T2.out⟩
      case round =>
        obtain ⟨wa, rfl⟩ : ∃ wa : World, wa = wr := ⟨_, rfl⟩
        clear T2 s0 s00
        obtain ⟨u, rfl, hu, hO⟩ := hrel
        have TO := Lib.hid hO
        clear hO
        by_cases hlt : u < j
        · have s0 : decide ((u : Int) < j) = true := decide_eq_true (by omega)
          have s00 : decide (u < j) = true := decide_eq_true hlt
          have i5 : (u : Int) < j := by omega
          have W1 : IntKind.i64.wrap ((u : Int) + 1) = (u : Int) + 1 := IntWalk.i64_in _ (by omega)
          obtain ⟨b, off, rfl, hc⟩ := is_cell HA.out hlt
          have x0 := hc wa TO.out.a.at_
          generalize gt l u = x at *
          go_wp2_with fail
          refine (TO.out.put x).mono ?_
          rintro e w3 ⟨rfl, q3, -⟩
          have T3 := Lib.hid (show Two w w3 p c 101 [x] q d 101 m from q3)
          clear q3 TO x0
          generalize putE 101 [] = pe at *
          go_wp2_with fail
          refine (T3.out.bfirst_a _ _).mono ?_
          rintro e w4 ⟨rfl, q4⟩
          have T4 := Lib.hid q4
          have x0 := hc w4 q4.a.at_
          clear q4 T3 hc
          go_wp2
          go_roundw
          case rel => exact ⟨u + 1, by go_num, by omega, T4.out⟩
          case measure => simp [intOf]; omega
        · obtain rfl : u = j := by omega
          have s0 : decide ((u : Int) < u) = false := decide_eq_false (by omega)
          have s00 : decide (u < u) = false := decide_eq_false (by omega)
          have T2 := Lib.hid (show Two w wa p c 101 [] q d 101 (m.drop 0) from TO.out)
          clear TO
          go_wp2_with fail
          go_loopw [14] (fun i wr => ∃ v : Nat, i = .int .i64 v ∧ v ≤ t ∧ Two w wr p c 101 [] q d 101 (m.drop v)) (fun i _ => t - (intOf i).toNat)
          case atStart => exact ⟨0, rfl, Nat.zero_le _, T2.out⟩
          case round =>
            obtain ⟨wb, rfl⟩ : ∃ wb : World, wb = wr := ⟨_, rfl⟩
            clear T2 s0 s00
            obtain ⟨v, rfl, hv, hO⟩ := hrel
            have TO := Lib.hid hO
            clear hO
            by_cases hlt : v < t
            · have s0 : decide ((v : Int) < t) = true := decide_eq_true (by omega)
              have s00 : decide (v < t) = true := decide_eq_true hlt
              have i5 : (v : Int) < t := by omega
              have W1 : IntKind.i64.wrap ((v : Int) + 1) = (v : Int) + 1 := IntWalk.i64_in _ (by omega)
              obtain ⟨b, off, rfl, hc⟩ := is_cell HB.out hlt
              have T1 := Lib.hid (show Two w wb p c 101 [] q d 101 (gt m v :: m.drop (v + 1)) by
                have := TO.out
                rwa [drop_cons (by have := LK.out; omega)] at this)
              clear TO
              generalize gt m v = x at *
              go_wp2_with fail
              refine (T1.out.bfirst_b _ _).mono ?_
              rintro e w4 ⟨rfl, q4⟩
              have T4 := Lib.hid q4
              have x0 := hc w4 q4.a.at_
              clear q4 T1 hc
              go_wp2
              go_roundw
              case rel => exact ⟨v + 1, by go_num, by omega, T4.out⟩
              case measure => simp [intOf]; omega
            · obtain rfl : v = t := by omega
              have s0 : decide ((v : Int) < v) = false := decide_eq_false (by omega)
              have s00 : decide (v < v) = false := decide_eq_false (by omega)
              have T1 := Lib.hid (show Two w wb p c 101 [] q d 101 [] by
                have := TO.out
                rwa [List.drop_eq_nil_of_le (by have := LK.out; omega)] at this)
              clear TO
              go_wp2_with fail
              refine (T1.out.bfirst_no _ _).mono ?_
              rintro e w3 ⟨rfl, q3⟩
              have T3 := Lib.hid q3
              clear q3 T1
              go_wp2_with fail
              refine T3.out.bfirst_nil.mono ?_
              rintro e w4 ⟨rfl, q4⟩
              have T4 := Lib.hid q4
              clear q4 T3
              go_wp2_with fail
              refine T4.out.first.mono ?_
              rintro e w5 ⟨rfl, q5, -⟩
              have B5 := Lib.hid q5.a.at_
              clear q5 T4
              go_wp2
              go_ret
              exact ⟨rfl, B5.out⟩
end Go.Proofs.Ythonmfoajjhkdaa.Bx
