/- container/heap's down, at the program's heap. -/
import Derived.Test.YtjodhfehfpmfaaaTiUp
set_option linter.unusedVariables false
namespace Go.Proofs.Ytjodhfehfpmfaaa.Ti
open Go.RowKit Iv

/-- down's invariant, at place t -/
structure DnAt (W : World) (g cap : Nat) (h : List It) (n i0 t : Nat) (k : List It) (w : World) : Prop where
  len : k.length = h.length
  perm : k.Perm h
  inv : DnInv k n i0 t
  rest : ∀ c, n ≤ c → gt k c = gt h c
  its : Its w g cap k
  kp : Kp (· = g) W w
def DnGood (h : List It) (n i0 : Nat) (k : List It) : Prop := k.Perm h ∧ HeapFrom k n i0 ∧ ∀ c, n ≤ c → gt k c = gt h c
theorem DnAt.on {W : World} {g cap : Nat} {h : List It} {n i0 t : Nat} {k : List It} {w w' : World} (a : DnAt W g cap h n i0 t k w) (b : Below w.heap.size w w') : DnAt W g cap h n i0 t k w' := ⟨a.len, a.perm, a.inv, a.rest, a.its.below b, a.kp.trans (Kp.of b)⟩
theorem DnAt.fin {W : World} {g cap : Nat} {h : List It} {n i0 t : Nat} {k : List It} {w : World} (a : DnAt W g cap h n i0 t k w) (hi : ∀ c, 0 < c → c < n → (c - 1) / 2 = t → ltB (gt k c) (gt k t) = false) : Sifted W g cap h (DnGood h n i0) w :=
  ⟨k, a.its, a.len, ⟨a.perm, a.inv.done hi, a.rest⟩, a.kp⟩
theorem DnAt.swap {W : World} {g cap : Nat} {h : List It} {n i0 t j : Nat} {k : List It} {w w' : World} (a : DnAt W g cap h n i0 t k w) (hn : n ≤ h.length) (hj : j < n) (ge : i0 ≤ t) (pj : (j - 1) / 2 = t) (j0 : 0 < j)
    (least : ∀ c, 0 < c → c < n → (c - 1) / 2 = t → ltB (gt k c) (gt k j) = false) (lt : ltB (gt k j) (gt k t) = true) (r : Its w' g cap (swp k t j)) (kp : Kp (· = g) w w') : DnAt W g cap h n i0 j (swp k t j) w' := by
  have e := a.len
  have tj : t < j := by omega
  exact ⟨by rw [swp_len, e], (swp_perm (by omega) (by omega)).trans a.perm, a.inv.step (by omega) hj ge pj j0 least lt, fun c hc => by rw [swp_k (by omega) (by omega)]; exact a.rest c hc, r, a.kp.trans kp⟩
theorem kids {c t : Nat} (c0 : 0 < c) (h : (c - 1) / 2 = t) : c = 2 * t + 1 ∨ c = 2 * t + 2 := by omega
set_option maxRecDepth 100000 in
set_option maxHeartbeats 8000000 in
theorem down_is (W : World) (q g cap : Nat) (h : List It) (i0 n : Nat) (bx : Bx W q g h.length cap) (qg : q ≠ g) (ql : q < W.heap.size) (r : Its W g cap h) (di : DnInv h n i0 i0) (hn : n ≤ h.length) (hi : i0 ≤ 1000000) (hl : h.length ≤ 1000000) :
    Calls Try.prog 97 #[.iface 110 (.pointer (some ⟨q, 0, none⟩)), .int .i64 i0, .int .i64 n] W fun e w' => (∃ b, e = .returned (.bool b)) ∧ Sifted W g cap h (DnGood h n i0) w' := by
  have D0 := Lib.hid (show DnAt W g cap h n i0 i0 h W from ⟨rfl, List.Perm.refl _, di, fun _ _ => rfl, r, Kp.refl _ _⟩)
  have BX := Lib.hid bx
  clear r di bx
  generalize hm : h.length = m at *
  have HM := Lib.hid hm
  clear hm
  go_enter Try.func97, Try.ntmps97
  go_wp2_with fail
  go_loopw [7] (fun iv wr => ∃ (t : Nat) (k : List It), iv = .int .i64 t ∧ i0 ≤ t ∧ t ≤ 1000000 ∧ Hid (DnAt W g cap h n i0 t k wr)) (fun iv _ => n - (intOf iv).toNat)
  case atStart => exact ⟨i0, h, rfl, Nat.le_refl _, hi, D0⟩
  case round =>
    obtain ⟨wo, rfl⟩ : ∃ wo : World, wo = wr := ⟨_, rfl⟩
    obtain ⟨t, k, rfl, ge, tb, HH⟩ := hrel
    have ek := HH.out.len
    rw [HM.out] at ek
    have EK := Lib.hid ek
    have b0 : Bx wo q g m cap := (HH.out.kp.cell (o := 0) ql qg).trans BX.out
    have mL := m_less b0 (195 + 100)
    simp only [Nat.reduceAdd] at mL
    have Wa : IntKind.i64.wrap (2 * (t : Int)) = 2 * (t : Int) := IntWalk.i64_in _ (by omega)
    have Wb : IntKind.i64.wrap (2 * (t : Int) + 1) = ((2 * t + 1 : Nat) : Int) := by rw [IntWalk.i64_in _ (by omega)]; omega
    have Wc : IntKind.i64.wrap (((2 * t + 1 : Nat) : Int) + 1) = ((2 * t + 2 : Nat) : Int) := by rw [IntWalk.i64_in _ (by omega)]; omega
    have LS := Lib.hid (fun (i j : Nat) (hi : i < n) (hj : j < n) (w1 : World) (b : Below wo.heap.size wo w1) => show Calls Try.prog 164 #[.slice (some ⟨g, 0, none⟩) m cap, .int .i64 i, .int .i64 j] w1 fun e w' => e = .returned (.bool (ltB (gt k i) (gt k j))) ∧ Below w1.heap.size w1 w' from by
      have := less_m w1 g cap k i j (HH.out.its.below b) (by omega) (by omega) (by omega)
      rwa [EK.out] at this)
    by_cases h1 : n ≤ 2 * t + 1
    · have s1 : decide (((2 * t + 1 : Nat) : Int) ≥ n) = true := decide_eq_true (by omega)
      have s2 : decide (((n : Nat) : Int) ≤ ((2 * t + 1 : Nat) : Int)) = true := decide_eq_true (by omega)
      have FN := Lib.hid (HH.out.fin fun c c0 cn hc => by have := kids c0 hc; omega)
      generalize 2 * t + 1 = j1 at *
      generalize 2 * t + 2 = j2 at *
      go_wp2_with fail
      go_ret
      exact ⟨⟨_, rfl⟩, FN.out⟩
    · have s1 : decide (((2 * t + 1 : Nat) : Int) ≥ n) = false := decide_eq_false (by omega)
      have s2 : decide (((n : Nat) : Int) ≤ ((2 * t + 1 : Nat) : Int)) = false := decide_eq_false (by omega)
      have s3 : decide (((2 * t + 1 : Nat) : Int) < 0) = false := decide_eq_false (by omega)
      have KD := Lib.hid (fun (c : Nat) (c0 : 0 < c) (hc : (c - 1) / 2 = t) => kids c0 hc)
      have P1 := Lib.hid (show (2 * t + 1 - 1) / 2 = t by omega)
      have P2 := Lib.hid (show (2 * t + 2 - 1) / 2 = t by omega)
      obtain ⟨j1, e1⟩ : ∃ j1, 2 * t + 1 = j1 := ⟨_, rfl⟩
      obtain ⟨j2, e2⟩ : ∃ j2, 2 * t + 2 = j2 := ⟨_, rfl⟩
      rw [e1] at Wb Wc s1 s2 s3 P1
      rw [e2] at Wc P2
      have KD := Lib.hid (show ∀ c, 0 < c → (c - 1) / 2 = t → c = j1 ∨ c = j2 by rw [← e1, ← e2]; exact KD.out)
      have lim : t < j1 ∧ j1 + 1 = j2 ∧ j1 < n := by omega
      have J0 : 0 < j1 := by omega
      have I1 := Lib.hid lim
      clear e1 e2
      by_cases h2 : j2 < n
      · have s4 : decide ((j2 : Int) < n) = true := decide_eq_true (by omega)
        have s5 : (j2 : Int) < n := by omega
        have LS0 := Lib.hid (LS.out j2 j1 h2 lim.2.2 wo (Below.refl _ _))
        cases ha : ltB (gt k j2) (gt k j1) with
        | true =>
          rw [ha] at LS0
          have HA := Lib.hid ha
          have LE := Lib.hid (show ∀ c, 0 < c → c < n → (c - 1) / 2 = t → ltB (gt k c) (gt k j2) = false from fun c c0 cn hc => by
            rcases KD.out c c0 hc with rfl | rfl
            · exact lt_asym HA.out
            · exact lt_irr _)
          have PJ := P2
          clear ha KD
          go_wp2_with fail
          refine LS0.out.mono ?_
          rintro e w6 ⟨rfl, b6⟩
          have B6 := Lib.hid b6
          clear b6 LS0
          have A1 := Lib.hid (HH.out.on B6.out)
          have b1 : Bx w6 q g m cap := (A1.out.kp.cell (o := 0) ql qg).trans BX.out
          have mL1 := m_less b1 (195 + 100)
          simp only [Nat.reduceAdd] at mL1
          have LS1 := Lib.hid (LS.out j2 t (by omega) (by omega) w6 B6.out)
          cases hb : ltB (gt k j2) (gt k t) with
          | false =>
            rw [hb] at LS1
            have HB := Lib.hid hb
            clear hb
            go_wp2_with fail
            refine LS1.out.mono ?_
            rintro e w7 ⟨rfl, b7⟩
            have FN := Lib.hid ((A1.out.on b7).fin fun c c0 cn hc => ge_trans HB.out (LE.out c c0 cn hc))
            clear b7
            go_wp2_with fail
            go_ret
            exact ⟨⟨_, rfl⟩, FN.out⟩
          | true =>
            rw [hb] at LS1
            have HB := Lib.hid hb
            clear hb
            go_wp2_with fail
            refine LS1.out.mono ?_
            rintro e w7 ⟨rfl, b7⟩
            have A7 := Lib.hid (A1.out.on b7)
            have b7' : Bx w7 q g m cap := (A7.out.kp.cell (o := 0) ql qg).trans BX.out
            have mS := m_swap b7' (195 + 100)
            simp only [Nat.reduceAdd] at mS
            have SM := Lib.hid (swap_m w7 g cap k t j2 A7.out.its (by rw [EK.out]; omega) (by rw [EK.out]; omega) (by rw [EK.out]; exact hl))
            rw [EK.out] at SM
            clear b7 LS1 LS mL mL1 b0 b1 A1
            go_wp2_with fail
            refine SM.out.mono ?_
            rintro e w8 ⟨rfl, r8, k8⟩
            have A8 := Lib.hid (A7.out.swap (by rw [HM.out]; exact hn) (by omega) ge PJ.out (by omega) LE.out HB.out r8 k8)
            clear r8 k8 SM
            go_wp2_with fail
            go_roundw
            case rel => exact ⟨j2, swp k t j2, rfl, by omega, by omega, A8⟩
            case measure => simp [intOf]; omega
        | false =>
          rw [ha] at LS0
          have HA := Lib.hid ha
          have LE := Lib.hid (show ∀ c, 0 < c → c < n → (c - 1) / 2 = t → ltB (gt k c) (gt k j1) = false from fun c c0 cn hc => by
            rcases KD.out c c0 hc with rfl | rfl
            · exact lt_irr _
            · exact HA.out)
          have PJ := P1
          clear ha KD
          go_wp2_with fail
          refine LS0.out.mono ?_
          rintro e w6 ⟨rfl, b6⟩
          have B6 := Lib.hid b6
          clear b6 LS0
          have A1 := Lib.hid (HH.out.on B6.out)
          have b1 : Bx w6 q g m cap := (A1.out.kp.cell (o := 0) ql qg).trans BX.out
          have mL1 := m_less b1 (195 + 100)
          simp only [Nat.reduceAdd] at mL1
          have LS1 := Lib.hid (LS.out j1 t (by omega) (by omega) w6 B6.out)
          cases hb : ltB (gt k j1) (gt k t) with
          | false =>
            rw [hb] at LS1
            have HB := Lib.hid hb
            clear hb
            go_wp2_with fail
            refine LS1.out.mono ?_
            rintro e w7 ⟨rfl, b7⟩
            have FN := Lib.hid ((A1.out.on b7).fin fun c c0 cn hc => ge_trans HB.out (LE.out c c0 cn hc))
            clear b7
            go_wp2_with fail
            go_ret
            exact ⟨⟨_, rfl⟩, FN.out⟩
          | true =>
            rw [hb] at LS1
            have HB := Lib.hid hb
            clear hb
            go_wp2_with fail
            refine LS1.out.mono ?_
            rintro e w7 ⟨rfl, b7⟩
            have A7 := Lib.hid (A1.out.on b7)
            have b7' : Bx w7 q g m cap := (A7.out.kp.cell (o := 0) ql qg).trans BX.out
            have mS := m_swap b7' (195 + 100)
            simp only [Nat.reduceAdd] at mS
            have SM := Lib.hid (swap_m w7 g cap k t j1 A7.out.its (by rw [EK.out]; omega) (by rw [EK.out]; omega) (by rw [EK.out]; exact hl))
            rw [EK.out] at SM
            clear b7 LS1 LS mL mL1 b0 b1 A1
            go_wp2_with fail
            refine SM.out.mono ?_
            rintro e w8 ⟨rfl, r8, k8⟩
            have A8 := Lib.hid (A7.out.swap (by rw [HM.out]; exact hn) (by omega) ge PJ.out (by omega) LE.out HB.out r8 k8)
            clear r8 k8 SM
            go_wp2_with fail
            go_roundw
            case rel => exact ⟨j1, swp k t j1, rfl, by omega, by omega, A8⟩
            case measure => simp [intOf]; omega
      · have s4 : decide ((j2 : Int) < n) = false := decide_eq_false (by omega)
        have s5 : ¬ (j2 : Int) < n := by omega
        have LE := Lib.hid (show ∀ c, 0 < c → c < n → (c - 1) / 2 = t → ltB (gt k c) (gt k j1) = false from fun c c0 cn hc => by
          rcases KD.out c c0 hc with rfl | rfl
          · exact lt_irr _
          · exact absurd cn h2)
        have PJ := P1
        have B6 := Lib.hid (Below.refl wo.heap.size wo)
        clear KD
        have A1 := Lib.hid (HH.out.on B6.out)
        have b1 : Bx wo q g m cap := (A1.out.kp.cell (o := 0) ql qg).trans BX.out
        have mL1 := m_less b1 (195 + 100)
        simp only [Nat.reduceAdd] at mL1
        have LS1 := Lib.hid (LS.out j1 t (by omega) (by omega) wo B6.out)
        cases hb : ltB (gt k j1) (gt k t) with
        | false =>
          rw [hb] at LS1
          have HB := Lib.hid hb
          clear hb
          go_wp2_with fail
          refine LS1.out.mono ?_
          rintro e w7 ⟨rfl, b7⟩
          have FN := Lib.hid ((A1.out.on b7).fin fun c c0 cn hc => ge_trans HB.out (LE.out c c0 cn hc))
          clear b7
          go_wp2_with fail
          go_ret
          exact ⟨⟨_, rfl⟩, FN.out⟩
        | true =>
          rw [hb] at LS1
          have HB := Lib.hid hb
          clear hb
          go_wp2_with fail
          refine LS1.out.mono ?_
          rintro e w7 ⟨rfl, b7⟩
          have A7 := Lib.hid (A1.out.on b7)
          have b7' : Bx w7 q g m cap := (A7.out.kp.cell (o := 0) ql qg).trans BX.out
          have mS := m_swap b7' (195 + 100)
          simp only [Nat.reduceAdd] at mS
          have SM := Lib.hid (swap_m w7 g cap k t j1 A7.out.its (by rw [EK.out]; omega) (by rw [EK.out]; omega) (by rw [EK.out]; exact hl))
          rw [EK.out] at SM
          clear b7 LS1 LS mL mL1 b0 b1 A1
          go_wp2_with fail
          refine SM.out.mono ?_
          rintro e w8 ⟨rfl, r8, k8⟩
          have A8 := Lib.hid (A7.out.swap (by rw [HM.out]; exact hn) (by omega) ge PJ.out (by omega) LE.out HB.out r8 k8)
          clear r8 k8 SM
          go_wp2_with fail
          go_roundw
          case rel => exact ⟨j1, swp k t j1, rfl, by omega, by omega, A8⟩
          case measure => simp [intOf]; omega
end Go.Proofs.Ytjodhfehfpmfaaa.Ti
