/- The walks of voklaw13.FramePuts and FrameGets. -/
import Derived.Test.YtdaabjoiokgjlaaDoorFrG
set_option linter.unusedVariables false
namespace Go.Proofs.YtdaabjoiokgjlaaDoor.Fr
open Go.RowKit

theorem OwnL.few {B : Nat} {w : World} {v : Value} {S : List SlB} (h : OwnL B w v S) : S.length ≤ 9223372036854775807 := by
  rcases h.row.2 with ⟨-, e⟩ | ⟨g, cap, cur, -, -, -, hn, hm, -⟩
  · omega
  · unfold maxLen at hm; omega
/-- a law's own memory: of what W held nothing has turned, and the table stands -/
structure Own (W w : World) : Prop where
  at_ : Below W.heap.size W w
  tab : Tab w
theorem Own.refl {W : World} (T : Tab W) : Own W W := ⟨Below.refl _ _, T⟩
theorem Own.on {W w w' : World} (h : Own W w) (hb : Below w.heap.size w w') : Own W w' := ⟨h.at_.trans (hb.mono h.at_.size), h.tab.on hb⟩
theorem Own.first {W w : World} (h : Own W w) : Calls Tryd.prog 10 #[] w fun e w' => e = .returned (.bool true) ∧ Own W w' ∧ Below w.heap.size w w' := by
  refine (first_is w h.tab).mono ?_
  rintro e w' ⟨he, b⟩
  exact ⟨he, h.on b, b⟩
set_option maxRecDepth 100000 in
set_option maxHeartbeats 4000000 in
theorem puts_walk (W : World) (T : Tab W) (A : Option Addr) (n c : Nat) (l : List UInt8) (h : BsAt W A n l) (hA : A = none → c = 0) (hn : n ≤ 9223372036854775807) :
    Calls Tryd.prog 3 #[.slice A n c] W fun e w' => e = .returned (.bool true) ∧ Below W.heap.size W w' := by
  have H := Lib.hid h
  have HA := Lib.hid hA
  have O := Lib.hid (Own.refl T)
  clear h hA T
  go_enter Tryd.func3, Tryd.ntmps3
  go_wp2_with fail
  refine O.out.first.mono ?_
  rintro e w0 ⟨rfl, o0, b0⟩
  have O0 := Lib.hid o0
  have H0 := Lib.hid (H.out.below b0)
  clear o0 b0
  by_cases hle : n ≤ 20000
  · have q0 : ¬ (20000 : Int) < n := by omega
    have C1 := copy_is w0 A n c l H0.out HA.out (by omega)
    go_wp2_with fail
    refine C1.mono ?_
    rintro e w1 ⟨v1, rfl, o1, b1⟩
    clear C1
    obtain ⟨A1, c1, rfl, a1, k1, z1⟩ := o1.atN H0.out.1.symm
    have O1 := Lib.hid (O0.out.on b1)
    have H1 := Lib.hid (H0.out.below b1)
    have I1 := Lib.hid a1
    have C2 := put_is w1 A1 n c1 l O1.out.tab a1 z1 (by omega)
    unfold PutR at C2
    clear o1 b1 a1
    go_wp2_with fail
    refine C2.mono ?_
    rintro e w2 ⟨v2, rfl, o2, b2⟩
    clear C2
    obtain ⟨A2, c2, rfl, a2, k2, z2⟩ := o2.atN (n := (putV l).length) rfl
    have O2 := Lib.hid (O1.out.on b2)
    have H2 := Lib.hid (H1.out.below b2)
    have I2 := Lib.hid (I1.out.below b2)
    have J2 := Lib.hid a2
    clear o2 b2 a2
    have C3 := rput_is w2 A n c l H2.out HA.out (by omega)
    unfold PutR at C3
    generalize hpl : (putV l).length = p at *
    generalize putE l = pe at *
    go_wp2_with fail
    refine C3.mono ?_
    rintro e w3 ⟨v3, rfl, o3, b3⟩
    clear C3
    obtain ⟨A3, c3, rfl, a3, k3, z3⟩ := o3.atN hpl
    have O3 := Lib.hid (O2.out.on b3)
    have H3 := Lib.hid (H2.out.below b3)
    have I3 := Lib.hid (I2.out.below b3)
    have J3 := Lib.hid (J2.out.below b3)
    have K3 := Lib.hid a3
    clear o3 b3 a3 hpl
    go_wp2_with fail
    refine O3.out.first.mono ?_
    rintro e w4 ⟨rfl, o4, b4⟩
    have O4 := Lib.hid o4
    have H4 := Lib.hid (H3.out.below b4)
    have I4 := Lib.hid (I3.out.below b4)
    have C5 := bytes_is w4 A2 A3 p c2 p c3 _ _ (J3.out.below b4) (K3.out.below b4)
    rw [show decide (putV l = putV l) = true from decide_eq_true rfl] at C5
    clear o4 b4
    go_wp2_with fail
    refine C5.mono ?_
    rintro e w5 ⟨rfl, rfl⟩
    clear C5
    have C6 := sum_is w5 A1 n c1 l O4.out.tab I4.out (by omega)
    have C7 := rsum_is w5 A n c l H4.out (by omega)
    have C8 := bytes_is w5 A1 A n c1 n c _ _ I4.out H4.out
    rw [show decide (l = l) = true from decide_eq_true rfl] at C8
    generalize sumL l = s at *
    go_wp2_with fail
    refine C6.mono ?_
    rintro e w6 ⟨rfl, rfl⟩
    clear C6
    go_wp2_with fail
    refine C7.mono ?_
    rintro e w7 ⟨rfl, rfl⟩
    clear C7
    go_wp2_with fail
    refine C8.mono ?_
    rintro e w8 ⟨rfl, rfl⟩
    clear C8
    go_wp2
    go_ret
    exact ⟨rfl, O4.out.at_⟩
  · have q0 : (20000 : Int) < n := by omega
    go_wp2_with fail
    refine O0.out.first.mono ?_
    rintro e w1 ⟨rfl, o1, b1⟩
    have G := Lib.hid o1.at_
    clear o1 b1
    go_wp2
    go_ret
    exact ⟨rfl, G.out⟩
set_option maxRecDepth 100000 in
set_option maxHeartbeats 4000000 in
theorem gets_walk (W : World) (T : Tab W) (A : Option Addr) (n c : Nat) (l : List UInt8) (x : Int) (h : BsAt W A n l) (hnc : n ≤ c) (hc : c ≤ 9223372036854775807) (l1 : -9223372036854775808 ≤ x) (u1 : x ≤ 9223372036854775807) :
    Calls Tryd.prog 4 #[.slice A n c, .int .i64 x] W fun e w' => e = .returned (.bool true) ∧ Below W.heap.size W w' := by
  have H := Lib.hid h
  have O := Lib.hid (Own.refl T)
  clear h T
  go_enter Tryd.func4, Tryd.ntmps4
  go_wp2_with fail
  refine O.out.first.mono ?_
  rintro e w0 ⟨rfl, o0, b0⟩
  have O0 := Lib.hid o0
  have H0 := Lib.hid (H.out.below b0)
  clear o0 b0
  by_cases hle : n ≤ 20000
  · have q0 : ¬ (20000 : Int) < n := by omega
    have C1 := get_is w0 A n c l x O0.out.tab H0.out hnc hc (by omega) l1 u1
    unfold GetR at C1
    obtain ⟨P, hP⟩ : ∃ P, getP l x = P := ⟨_, rfl⟩
    obtain ⟨N, hN⟩ : ∃ N, getN l x = N := ⟨_, rfl⟩
    obtain ⟨E, hE⟩ : ∃ E, getE l x = E := ⟨_, rfl⟩
    rw [hP, hN, hE] at C1
    go_wp2_with fail
    refine C1.mono ?_
    rintro e w1 ⟨v1, rfl, o1, b1⟩
    clear C1
    obtain ⟨A1, c1, rfl, a1, k1, z1⟩ := o1.at_
    have O1 := Lib.hid (O0.out.on b1)
    have H1 := Lib.hid (H0.out.below b1)
    have I1 := Lib.hid a1
    clear o1 b1 a1
    have C2 := rget_is w1 A n c l x H1.out hnc hc (by omega) l1 u1
    unfold GetR at C2
    rw [hP, hN, hE] at C2
    clear hP hN hE
    go_wp2_with fail
    refine C2.mono ?_
    rintro e w2 ⟨v2, rfl, o2, b2⟩
    clear C2
    obtain ⟨A2, c2, rfl, a2, k2, z2⟩ := o2.at_
    have O2 := Lib.hid (O1.out.on b2)
    have H2 := Lib.hid (H1.out.below b2)
    have I2 := Lib.hid (I1.out.below b2)
    have J2 := Lib.hid a2
    clear o2 b2 a2
    have C3 := scan_is w2 A n c l O2.out.tab H2.out hnc hc (by omega)
    unfold ScanR at C3
    obtain ⟨s, hs⟩ : ∃ s, (scanL l).2 = s := ⟨_, rfl⟩
    obtain ⟨L, hL⟩ : ∃ L, (scanL l).1 = L := ⟨_, rfl⟩
    rw [hs, hL] at C3
    have hsl := scan_le l.length l (Nat.le_refl _)
    rw [hs, ← H2.out.1] at hsl
    go_wp2_with fail
    refine C3.mono ?_
    rintro e w3 ⟨v3, S3, rfl, o3, e3, b3⟩
    clear C3
    obtain ⟨A3, c3, rfl, a3, k3, z3⟩ := o3.at_
    have O3 := Lib.hid (O2.out.on b3)
    have H3 := Lib.hid (H2.out.below b3)
    have I3 := Lib.hid (I2.out.below b3)
    have J3 := Lib.hid (J2.out.below b3)
    have K3 := Lib.hid a3
    have f3 := o3.few
    clear o3 b3 a3
    have C4 := rscan_is w3 A n c l H3.out hnc hc (by omega)
    unfold ScanR at C4
    rw [hs, hL] at C4
    clear hs hL
    go_wp2_with fail
    refine C4.mono ?_
    rintro e w4 ⟨v4, S4, rfl, o4, e4, b4⟩
    clear C4
    obtain ⟨A4, c4, rfl, a4, k4, z4⟩ := o4.at_
    have O4 := Lib.hid (O3.out.on b4)
    have I4 := Lib.hid (I3.out.below b4)
    have J4 := Lib.hid (J3.out.below b4)
    have K4 := Lib.hid (K3.out.below b4)
    have L4 := Lib.hid a4
    have f4 := o4.few
    clear o4 b4 a4
    go_wp2_with fail
    refine O4.out.first.mono ?_
    rintro e w5 ⟨rfl, o5, b5⟩
    have O5 := Lib.hid o5
    have C6 := bytes_is w5 A1 A2 _ c1 _ c2 _ _ (I4.out.below b5) (J4.out.below b5)
    rw [show decide (P = P) = true from decide_eq_true rfl] at C6
    have K5 := Lib.hid (K4.out.below b5)
    have L5 := Lib.hid (L4.out.below b5)
    clear o5 b5
    go_wp2_with fail
    refine C6.mono ?_
    rintro e w6 ⟨rfl, rfl⟩
    clear C6
    have C7 := lists_is w6 A3 A4 _ c3 _ c4 S3 S4 K5.out L5.out f3 f4
    rw [e3, e4, show decide (L = L) = true from decide_eq_true rfl] at C7
    go_wp2_with fail
    refine C7.mono ?_
    rintro e w7 ⟨rfl, b7⟩
    have G := Lib.hid (O5.out.on b7).at_
    clear C7 b7
    go_wp2
    go_ret
    exact ⟨rfl, G.out⟩
  · have q0 : (20000 : Int) < n := by omega
    go_wp2_with fail
    refine O0.out.first.mono ?_
    rintro e w1 ⟨rfl, o1, b1⟩
    have G := Lib.hid o1.at_
    clear o1 b1
    go_wp2
    go_ret
    exact ⟨rfl, G.out⟩
end Go.Proofs.YtdaabjoiokgjlaaDoor.Fr
