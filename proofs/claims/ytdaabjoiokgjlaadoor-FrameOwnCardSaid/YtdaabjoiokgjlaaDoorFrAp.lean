/- The walk of voklaw13.FrameApart. -/
import Derived.Test.YtdaabjoiokgjlaaDoorFrPu
set_option linter.unusedVariables false
namespace Go.Proofs.YtdaabjoiokgjlaaDoor.Fr
open Go.RowKit

/-- .. with what room it has -/
theorem OwnB.atC {B : Nat} {w : World} {v : Value} {l : List UInt8} (h : OwnB B w v l) {n : Nat} (e : l.length = n) : ∃ A c, v = .slice A n c ∧ BsAt w A n l ∧ n ≤ c ∧ c ≤ 9223372036854775807 ∧ (A = none → c = 0) := by
  subst e
  have hc : ∀ A k c, v = .slice A k c → c ≤ 9223372036854775807 := fun A k c e => by
    rcases h.2 with ⟨rfl, -⟩ | ⟨g, cap, cur, rfl, -, -, -, hm, -⟩
    · injection e with _ _ e; omega
    · injection e with _ _ e; unfold maxLen at hm; omega
  obtain ⟨A, c, rfl, a, k, z⟩ := h.at_
  exact ⟨A, c, rfl, a, k, hc _ _ _ rfl, z⟩
theorem drop_front (a x : List UInt8) : (a ++ x).drop a.length = x := List.drop_left' rfl
theorem ap_E (a p b : List UInt8) (h : p.length ≤ 8192) : getE (a ++ (frameL p ++ b)) (a.length : Nat) = 0 := by
  rw [getE_at (by simp), drop_front]
  exact get1_frame b h
theorem ap_P (a p b : List UInt8) (h : p.length ≤ 8192) : getP (a ++ (frameL p ++ b)) (a.length : Nat) = p := by
  unfold getP
  rw [if_pos (ap_E a p b h), Int.toNat_natCast, drop_front]
  exact pay_frame b h
theorem ap_N (a p b : List UInt8) (h : p.length ≤ 8192) : getN (a ++ (frameL p ++ b)) (a.length : Nat) = a.length + 6 + p.length := by
  unfold getN
  rw [if_pos (ap_E a p b h), Int.toNat_natCast, drop_front, pay_frame b h]
theorem get_low (l : List UInt8) : getE l (-1) = 1 := by unfold getE; rw [if_neg (by omega)]
theorem get_high (l : List UInt8) {n : Nat} (h : l.length = n) : getE l ((n : Int) + 1) = 1 := by unfold getE; rw [if_neg (by omega)]
theorem get_end (l : List UInt8) {n : Nat} (h : l.length = n) : getE l (n : Int) = 2 := by
  rw [getE_at (by omega), List.drop_of_length_le (by omega)]; rfl
set_option maxRecDepth 100000 in
set_option maxHeartbeats 4000000 in
theorem apart_walk (W : World) (T : Tab W) (A B C : Option Addr) (n c m d k e : Nat) (a p b : List UInt8) (h0 : BsAt W A n a) (h1 : BsAt W B m p) (h2 : BsAt W C k b) (hA : A = none → c = 0) (hB : B = none → d = 0) (hC : C = none → e = 0) (hn : n ≤ 9223372036854775807) (hm : m ≤ 9223372036854775807) (hk : k ≤ 9223372036854775807) :
    Calls Tryd.prog 8 #[.slice A n c, .slice B m d, .slice C k e] W fun e w' => e = .returned (.bool true) ∧ Below W.heap.size W w' := by
  have H0 := Lib.hid h0
  have H1 := Lib.hid h1
  have H2 := Lib.hid h2
  have HA := Lib.hid hA
  have HB := Lib.hid hB
  have HC := Lib.hid hC
  have O := Lib.hid (Own.refl T)
  clear h0 h1 h2 hA hB hC T
  go_enter Tryd.func8, Tryd.ntmps8
  go_wp2_with fail
  refine O.out.first.mono ?_
  rintro e w0 ⟨rfl, o0, b0⟩
  have O0 := Lib.hid o0
  have I0 := Lib.hid (H0.out.below b0)
  have I1 := Lib.hid (H1.out.below b0)
  have I2 := Lib.hid (H2.out.below b0)
  clear o0 b0
  by_cases hle : n ≤ 6000 ∧ m ≤ 6000 ∧ k ≤ 6000
  · obtain ⟨hn6, hm6, hk6⟩ := hle
    have q0 : ¬ (6000 : Int) < n := by omega
    have q1 : ¬ (6000 : Int) < m := by omega
    have q2 : ¬ (6000 : Int) < k := by omega
    have C1 := put_is w0 B m d p O0.out.tab I1.out HB.out (by omega)
    have P8 := Lib.hid (show p.length ≤ 8192 by rw [← I1.out.1]; omega)
    have pe : putE p = 0 := by unfold putE; rw [if_pos P8.out]
    have pv : putV p = frameL p := by unfold putV; rw [if_pos P8.out]
    unfold PutR at C1
    rw [pe, pv] at C1
    clear pe pv
    go_wp2_with fail
    refine C1.mono ?_
    rintro e w1 ⟨v1, rfl, o1, b1⟩
    clear C1
    obtain ⟨A1, c1, rfl, a1, k1, z1⟩ := o1.atN (n := 6 + m) (by rw [frameL_len, ← I1.out.1])
    have O1 := Lib.hid (O0.out.on b1)
    have J0 := Lib.hid (I0.out.below b1)
    have J1 := Lib.hid (I1.out.below b1)
    have J2 := Lib.hid (I2.out.below b1)
    have F1 := Lib.hid a1
    clear o1 b1 a1
    have C2 := copy_is w1 A n c a J0.out HA.out (by omega)
    go_wp2_with fail
    refine C2.mono ?_
    rintro e w2 ⟨v2, rfl, o2, b2⟩
    clear C2
    have N0 := Lib.hid (show a.length = n from J0.out.1.symm)
    have F2 := Lib.hid (F1.out.below b2)
    have K1 := Lib.hid (J1.out.below b2)
    have K2 := Lib.hid (J2.out.below b2)
    have Q2 := Lib.hid o2
    have B2 := Lib.hid b2
    clear o2 b2
    go_wp2_with (at_builtin; refine append_bs rfl _ _ rfl _ _ rfl Q2.out B2.out.size _ _ _ _ rfl F2.out z1 (by rw [N0.out]; omega) ?_)
    intro v3 w3 o3 g3
    have b3 := B2.out.trans (grown_below Q2.out g3 B2.out.size)
    have Q3 := Lib.hid o3
    have B3 := Lib.hid b3
    have L2 := Lib.hid (J2.out.below b3)
    have L1 := Lib.hid (J1.out.below b3)
    clear o3 b3 g3
    go_wp2_with (at_builtin; refine append_bs rfl _ _ rfl _ _ rfl Q3.out B3.out.size _ _ _ _ rfl L2.out HC.out (by rw [List.length_append, frameL_len, N0.out, ← L1.out.1]; omega) ?_)
    intro v4 w4 o4 g4
    have b4 := B3.out.trans (grown_below Q3.out g4 B3.out.size)
    have hl : (a ++ (frameL p ++ b)).length = n + (6 + m) + k := by rw [List.length_append, List.length_append, frameL_len, N0.out, ← L1.out.1, ← L2.out.1]; omega
    obtain ⟨A4, c4, rfl, a4, k4, x4, z4⟩ := o4.atC hl
    have HL := Lib.hid hl
    have e0 := ap_E a p b P8.out
    have e1 := ap_P a p b P8.out
    have e2 := ap_N a p b P8.out
    rw [N0.out] at e0 e1 e2
    rw [← I1.out.1] at e2
    have e3 := get_low (a ++ (frameL p ++ b))
    have e4 := get_high (a ++ (frameL p ++ b)) HL.out
    have e5 := get_end (a ++ (frameL p ++ b)) HL.out
    generalize a ++ (frameL p ++ b) = all at *
    have O4 := Lib.hid (O1.out.on b4)
    have P4 := Lib.hid (J1.out.below b4)
    have R4 := Lib.hid a4
    clear o4 b4 a4 g4 hl
    have C5 := get_is w4 A4 _ c4 all n O4.out.tab R4.out k4 x4 (by omega) (by omega) (by omega)
    unfold GetR at C5
    rw [e0, e1, e2] at C5
    go_wp2_with fail
    refine C5.mono ?_
    rintro e w5 ⟨v5, rfl, o5, b5⟩
    clear C5
    obtain ⟨A5, c5, rfl, a5, k5, z5⟩ := o5.atN (n := m) P4.out.1.symm
    have O5 := Lib.hid (O4.out.on b5)
    have P5 := Lib.hid (P4.out.below b5)
    have R5 := Lib.hid (R4.out.below b5)
    have S5 := Lib.hid a5
    clear o5 b5 a5
    obtain ⟨N, hN⟩ : ∃ N, n + (6 + m) + k = N := ⟨_, rfl⟩
    have hN2 : (n : Int) + (6 + m) + k = N := by omega
    rw [hN] at R5 e4 e5 k4 ⊢
    have C6 := get_is w5 A4 N c4 all (N + 1) O5.out.tab R5.out k4 x4 (by omega) (by omega) (by omega)
    unfold GetR at C6
    rw [e4] at C6
    generalize getP all (N + 1) = P6 at C6
    generalize getN all (N + 1) = N6 at C6
    go_wp2_with fail
    refine C6.mono ?_
    rintro e w6 ⟨v6, rfl, o6, b6⟩
    clear C6 o6
    have O6 := Lib.hid (O5.out.on b6)
    have P6 := Lib.hid (P5.out.below b6)
    have R6 := Lib.hid (R5.out.below b6)
    have S6 := Lib.hid (S5.out.below b6)
    clear b6
    have C7 := get_is w6 A4 N c4 all (-1) O6.out.tab R6.out k4 x4 (by omega) (by omega) (by omega)
    unfold GetR at C7
    rw [e3] at C7
    generalize getP all (-1) = P7 at C7
    generalize getN all (-1) = N7 at C7
    go_wp2_with fail
    refine C7.mono ?_
    rintro e w7 ⟨v7, rfl, o7, b7⟩
    clear C7 o7
    have O7 := Lib.hid (O6.out.on b7)
    have P7 := Lib.hid (P6.out.below b7)
    have R7 := Lib.hid (R6.out.below b7)
    have S7 := Lib.hid (S6.out.below b7)
    clear b7
    have C8 := get_is w7 A4 N c4 all N O7.out.tab R7.out k4 x4 (by omega) (by omega) (by omega)
    unfold GetR at C8
    rw [e5] at C8
    generalize getP all N = P8 at C8
    generalize getN all N = N8 at C8
    go_wp2_with fail
    refine C8.mono ?_
    rintro e w8 ⟨v8, rfl, o8, b8⟩
    clear C8 o8
    have O8 := Lib.hid (O7.out.on b8)
    have P8 := Lib.hid (P7.out.below b8)
    have S8 := Lib.hid (S7.out.below b8)
    clear b8
    go_wp2_with fail
    refine O8.out.first.mono ?_
    rintro e w9 ⟨rfl, o9, b9⟩
    have O9 := Lib.hid o9
    have C10 := bytes_is w9 A5 B m c5 m d p p (S8.out.below b9) (P8.out.below b9)
    rw [show decide (p = p) = true from decide_eq_true rfl] at C10
    clear o9 b9
    go_wp2_with fail
    refine C10.mono ?_
    rintro e w10 ⟨rfl, rfl⟩
    clear C10
    go_wp2
    go_ret
    exact ⟨rfl, O9.out.at_⟩
  · by_cases hn6 : 6000 < n
    · have q0 : (6000 : Int) < n := by omega
      go_wp2_with fail
      refine O0.out.first.mono ?_
      rintro e w1 ⟨rfl, o1, b1⟩
      have G := Lib.hid o1.at_
      clear o1 b1
      go_wp2
      go_ret
      exact ⟨rfl, G.out⟩
    · by_cases hm6 : 6000 < m
      · have q0 : ¬ (6000 : Int) < n := by omega
        have q1 : (6000 : Int) < m := by omega
        go_wp2_with fail
        refine O0.out.first.mono ?_
        rintro e w1 ⟨rfl, o1, b1⟩
        have G := Lib.hid o1.at_
        clear o1 b1
        go_wp2
        go_ret
        exact ⟨rfl, G.out⟩
      · have q0 : ¬ (6000 : Int) < n := by omega
        have q1 : ¬ (6000 : Int) < m := by omega
        have q2 : (6000 : Int) < k := by omega
        go_wp2_with fail
        refine O0.out.first.mono ?_
        rintro e w1 ⟨rfl, o1, b1⟩
        have G := Lib.hid o1.at_
        clear o1 b1
        go_wp2
        go_ret
        exact ⟨rfl, G.out⟩
end Go.Proofs.YtdaabjoiokgjlaaDoor.Fr
