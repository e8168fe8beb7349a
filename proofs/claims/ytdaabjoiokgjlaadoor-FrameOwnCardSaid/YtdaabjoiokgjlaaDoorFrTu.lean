/- The walk of voklaw13.FrameTurned. -/
import Derived.Test.YtdaabjoiokgjlaaDoorFrAp
set_option linter.unusedVariables false
namespace Go.Proofs.YtdaabjoiokgjlaaDoor.Fr
open Go.RowKit

theorem getE_zero (l : List UInt8) : getE l 0 = get1 l := by
  have := getE_at (l := l) (t := 0) (Nat.zero_le _)
  simpa using this
/-- memory of the law's own is turned -/
theorem Own.turn {W w w' : World} {B : Nat} (h : Own W w) (T : Tab W) (hB : W.heap.size ≤ B) (b : Below B w w') : Own W w' := ⟨h.at_.trans (b.mono hB), T.on (h.at_.trans (b.mono hB))⟩
theorem pow_lt {k : Nat} : 2 ^ (k % 8) < 256 := Nat.lt_of_le_of_lt (Nat.pow_le_pow_right (by decide) (show k % 8 ≤ 7 by omega)) (by decide)
/-- one bit of a byte turned -/
theorem bit_turned {v k : Nat} (hv : v < 256) : bits .xor .u8 (v : Int) (2 ^ (k % 8) % 256) = ((UInt8.ofNat (v ^^^ 2 ^ (k % 8))).toNat : Nat) ∧ ∀ c : UInt8, c.toNat = v → c ≠ UInt8.ofNat (v ^^^ 2 ^ (k % 8)) := by
  have hp := pow_lt (k := k)
  have h1 : v ^^^ 2 ^ (k % 8) < 256 := Nat.xor_lt_two_pow (n := 8) hv hp
  have hn : (UInt8.ofNat (v ^^^ 2 ^ (k % 8))).toNat = v ^^^ 2 ^ (k % 8) := by rw [UInt8.toNat_ofNat']; omega
  have hz : 0 < 2 ^ (k % 8) := Nat.two_pow_pos _
  refine ⟨?_, fun c hc e => ?_⟩
  · rw [hn, show (2 : Int) ^ (k % 8) % 256 = ((2 ^ (k % 8) : Nat) : Int) by rw [show (2 : Int) ^ (k % 8) = ((2 ^ (k % 8) : Nat) : Int) by simp]; omega]
    exact u8_xor_nat v _ hv hp
  · have := congrArg UInt8.toNat e
    rw [hc, hn] at this
    have q := congrArg (v ^^^ ·) this
    simp only [← Nat.xor_assoc, Nat.xor_self, Nat.zero_xor] at q
    omega
set_option maxRecDepth 100000 in
set_option maxHeartbeats 4000000 in
theorem turned_walk (W : World) (T : Tab W) (A : Option Addr) (n c : Nat) (p : List UInt8) (x : Int) (h : BsAt W A n p) (hA : A = none → c = 0) (hn : n ≤ 9223372036854775807) (l1 : -9223372036854775808 ≤ x) (u1 : x ≤ 9223372036854775807) :
    Calls Tryd.prog 6 #[.slice A n c, .int .i64 x] W fun e w' => e = .returned (.bool true) ∧ Below W.heap.size W w' := by
  have H := Lib.hid h
  have HA := Lib.hid hA
  have O := Lib.hid (Own.refl T)
  have TW := Lib.hid T
  clear h hA T
  go_enter Tryd.func6, Tryd.ntmps6
  go_wp2_with fail
  refine O.out.first.mono ?_
  rintro e w0 ⟨rfl, o0, b0⟩
  have O0 := Lib.hid o0
  have H0 := Lib.hid (H.out.below b0)
  clear o0 b0
  by_cases hle : n ≤ 20000
  · have q0 : ¬ (20000 : Int) < n := by omega
    by_cases hx : x < 0
    · go_wp2_with fail
      refine O0.out.first.mono ?_
      rintro e w1 ⟨rfl, o1, b1⟩
      have G := Lib.hid o1.at_
      clear o1 b1
      go_wp2
      go_ret
      exact ⟨rfl, G.out⟩
    · obtain ⟨x, rfl⟩ := Int.eq_ofNat_of_zero_le (show 0 ≤ x by omega)
      have C1 := put_is w0 A n c p O0.out.tab H0.out HA.out (by omega)
      unfold PutR at C1
      by_cases h8 : n ≤ 8192
      · have P8 := Lib.hid (show p.length ≤ 8192 by rw [← H0.out.1]; omega)
        rw [show putE p = 0 by unfold putE; rw [if_pos P8.out], show putV p = frameL p by unfold putV; rw [if_pos P8.out]] at C1
        go_wp2_with fail
        refine C1.mono ?_
        rintro e w1 ⟨v1, rfl, o1, b1⟩
        clear C1
        have hl : (frameL p).length = 6 + n := by rw [frameL_len, ← H0.out.1]
        rcases o1.form with ⟨-, q⟩ | ⟨g, c1, rfl, a1, hg, hgw, hc1⟩
        · rw [q, List.length_nil] at hl; omega
        · have O1 := Lib.hid (O0.out.on b1)
          have Q1 := Lib.hid o1
          have cc : ∀ j, j < 6 + n → w1.cell? ⟨g, j, none⟩ = some (.int .u8 (bv (frameL p) j : Nat)) := fun j hj => by
            obtain ⟨b', off', e, hlt, q⟩ := a1.2 (by omega)
            injection e with e; injection e with e1 e2; subst e1; subst e2
            have := q j (by omega)
            rwa [Nat.zero_add] at this
          have hm : x % (8 * (4 + n)) < 8 * (4 + n) := Nat.mod_lt _ (by omega)
          have em : (x : Int) % (8 * (6 + (n : Int) - 2)) = ((x % (8 * (4 + n)) : Nat) : Int) := by
            rw [show 8 * (6 + (n : Int) - 2) = ((8 * (4 + n) : Nat) : Int) by omega, Int.natCast_emod]
          rw [hl] at hc1 a1 ⊢
          generalize x % (8 * (4 + n)) = k at *
          have c0 := cc (2 + k / 8) (by omega)
          have h256 := bv_256 (frameL p) (2 + k / 8)
          generalize hv : bv (frameL p) (2 + k / 8) = v at *
          have fz := World.ownsRow.frozenAt (hl ▸ Q1.out : w1.ownsRow w0.heap.size 5 1 (.slice (some ⟨g, 0, none⟩) (6 + n) c1) (6 + n) (Lib.byteCells (frameL p))) (2 + k / 8)
          clear cc a1 o1 b1
          obtain ⟨hb1, hb2⟩ := bit_turned (k := k) h256
          have hold : (frameL p)[2 + k / 8]'(by omega) ≠ UInt8.ofNat (v ^^^ 2 ^ (k % 8)) := hb2 _ (by rw [← hv, bv_lt (by omega)])
          have hE := get1_turned P8.out (j := 2 + k / 8) (by omega) (by omega) hold
          obtain ⟨Q2, g2⟩ := (hl ▸ Q1.out : OwnB w0.heap.size w1 (.slice (some ⟨g, 0, none⟩) (frameL p).length c1) (frameL p)).store (2 + k / 8) (UInt8.ofNat (v ^^^ 2 ^ (k % 8))) _ hb1
          have hO : W.heap.size ≤ w0.heap.size := O0.out.at_.size
          have O2 := O1.out.turn TW.out hO (grown_below Q1.out (by exact g2) (by omega))
          have hl2 : ((frameL p).set (2 + k / 8) (UInt8.ofNat (v ^^^ 2 ^ (k % 8)))).length = 6 + n := by rw [List.length_set, hl]
          have S0 := scan_stop (r := (frameL p).set (2 + k / 8) (UInt8.ofNat (v ^^^ 2 ^ (k % 8)))) (by rw [hE]; decide)
          have HE := Lib.hid hE
          have HS := Lib.hid S0
          have HQ := Lib.hid Q2
          have HO2 := Lib.hid O2
          clear hb1 hb2 hE S0 Q2 O2 hold
          go_wp2_with fail
          generalize w1.setCell ⟨g, 2 + k / 8, none⟩ (.int .u8 (bits .xor .u8 (v : Int) (2 ^ (k % 8) % 256))) = w2 at *
          generalize (frameL p).set (2 + k / 8) (UInt8.ofNat (v ^^^ 2 ^ (k % 8))) = fr at *
          obtain ⟨A3, c3, e3, a3, k3, x3, z3⟩ := HQ.out.atC hl2
          injection e3 with e3 e4 e5
          subst e3; subst e5
          have R3 := Lib.hid a3
          have C3 := get_is w2 _ (6 + n) c1 fr 0 HO2.out.tab R3.out k3 x3 (by omega) (by decide) (by decide)
          unfold GetR at C3
          have eE : getE fr 0 = 5 := (getE_zero fr).trans HE.out
          have eP : getP fr 0 = [] := by unfold getP; rw [eE]; rfl
          have eN : getN fr 0 = 0 := by unfold getN; rw [eE]; rfl
          rw [eE, eP, eN] at C3
          clear e4 a3 eE eP eN
          refine C3.mono ?_
          rintro e w3 ⟨v3, rfl, o3, b3⟩
          clear C3
          obtain ⟨A3, c3, rfl, -, -, -⟩ := o3.atN (n := 0) rfl
          have O3 := Lib.hid (HO2.out.on b3)
          have R4 := Lib.hid (R3.out.below b3)
          clear o3 b3
          have C4 := scan_is w3 _ (6 + n) c1 fr O3.out.tab R4.out k3 x3 (by omega)
          unfold ScanR at C4
          rw [HS.out] at C4
          go_wp2_with fail
          refine C4.mono ?_
          rintro e w4 ⟨v4, S4, rfl, o4, e4, b4⟩
          clear C4
          have sl : S4.length = 0 := by rw [← bytesS_len, e4]; rfl
          obtain ⟨A4, c4, rfl, -, -, -⟩ := o4.at_
          rw [sl]
          have O4 := Lib.hid (O3.out.on b4)
          clear o4 b4 sl e4
          go_wp2_with fail
          refine O4.out.first.mono ?_
          rintro e w5 ⟨rfl, o5, b5⟩
          have G := Lib.hid o5.at_
          clear o5 b5
          go_wp2
          go_ret
          exact ⟨rfl, G.out⟩
      · rw [show putE p = 3 by unfold putE; rw [if_neg (by rw [← H0.out.1]; omega)]] at C1
        go_wp2_with fail
        refine C1.mono ?_
        rintro e w1 ⟨v1, rfl, o1, b1⟩
        have O1 := Lib.hid (O0.out.on b1)
        clear C1 o1 b1
        go_wp2_with fail
        refine O1.out.first.mono ?_
        rintro e w2 ⟨rfl, o2, b2⟩
        have G := Lib.hid o2.at_
        clear o2 b2
        go_wp2
        go_ret
        exact ⟨rfl, G.out⟩
  · have q0 : (20000 : Int) < n := by omega
    go_wp2_with fail
    refine O0.out.first.mono ?_
    rintro e w1 ⟨rfl, o1, b1⟩
    have G := Lib.hid o1.at_
    clear o1 b1
    go_wp2
    go_ret
    exact ⟨rfl, G.out⟩
end Go.Proofs.YtdaabjoiokgjlaaDoor.Fr
