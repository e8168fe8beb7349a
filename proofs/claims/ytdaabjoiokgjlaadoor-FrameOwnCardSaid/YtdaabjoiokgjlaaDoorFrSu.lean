/- The walk of voklaw13.FrameSums. -/
import Derived.Test.YtdaabjoiokgjlaaDoorFrTu
import Derived.StillTailTactics
set_option linter.unusedVariables false
namespace Go.Proofs.YtdaabjoiokgjlaaDoor.Fr
open Go.RowKit

/-- a byte turned -/
theorem byte_turned {v z : Nat} (hv : v < 256) (hz : z < 256) (h0 : z ≠ 0) : bits .xor .u8 (v : Int) (z : Int) = ((UInt8.ofNat (v ^^^ z)).toNat : Nat) ∧ ∀ c : UInt8, c.toNat = v → c ≠ UInt8.ofNat (v ^^^ z) := by
  have h1 : v ^^^ z < 256 := Nat.xor_lt_two_pow (n := 8) hv hz
  have hn : (UInt8.ofNat (v ^^^ z)).toNat = v ^^^ z := by rw [UInt8.toNat_ofNat']; omega
  refine ⟨by rw [hn]; exact u8_xor_nat v z hv hz, fun c hc e => ?_⟩
  have := congrArg UInt8.toNat e
  rw [hc, hn] at this
  have q := congrArg (v ^^^ ·) this
  simp only [← Nat.xor_assoc, Nat.xor_self, Nat.zero_xor] at q
  exact h0 q.symm
/-- the first t bytes are taken together, the others as they were -/
def mixL (a b c : List UInt8) (t : Nat) : List UInt8 := xorL (xorL (a.take t) (b.take t)) (c.take t) ++ a.drop t
theorem mixL_zero (a b c : List UInt8) : mixL a b c 0 = a := by simp [mixL, xorL]
theorem mixL_len {a b c : List UInt8} {n t : Nat} (ha : a.length = n) (hb : b.length = n) (hc : c.length = n) (ht : t ≤ n) : (mixL a b c t).length = n := by
  unfold mixL
  rw [List.length_append, xorL_len, xorL_len, List.length_take, List.length_take, List.length_take, List.length_drop]; omega
theorem mixL_all {a b c : List UInt8} {n : Nat} (ha : a.length = n) (hb : b.length = n) (hc : c.length = n) : mixL a b c n = xorL (xorL a b) c := by
  unfold mixL
  rw [List.take_of_length_le (by omega), List.take_of_length_le (by omega), List.take_of_length_le (by omega), List.drop_of_length_le (by omega), List.append_nil]
theorem xorL_app {a b x y : List UInt8} (h : a.length = b.length) : xorL (a ++ x) (b ++ y) = xorL a b ++ xorL x y := by
  unfold xorL; rw [List.zipWith_append h]
theorem mixL_next {a b c : List UInt8} {n t : Nat} (ha : a.length = n) (hb : b.length = n) (hc : c.length = n) (ht : t < n) : (mixL a b c t).set t (a[t]'(by omega) ^^^ b[t]'(by omega) ^^^ c[t]'(by omega)) = mixL a b c (t + 1) := by
  have hl : (xorL (xorL (a.take t) (b.take t)) (c.take t)).length = t := by rw [xorL_len, xorL_len, List.length_take, List.length_take, List.length_take]; omega
  unfold mixL
  rw [List.set_append_right _ _ (by omega), hl, Nat.sub_self, List.drop_eq_getElem_cons (show t < a.length by omega), List.set_cons_zero]
  rw [take_snoc a t (by omega), take_snoc b t (by omega), take_snoc c t (by omega), xorL_app (by rw [List.length_take, List.length_take]; omega), xorL_app (by rw [xorL_len, List.length_take, List.length_take, List.length_take]; omega), List.append_assoc]
  rfl
theorem xor8 (a b : Nat) (ha : a < 256) (hb : b < 256) : bits .xor .u8 (a : Int) (b : Int) = ((a ^^^ b : Nat) : Int) := u8_xor_nat a b ha hb
theorem bv_mix {a b c : List UInt8} {t : Nat} (ha : t < a.length) (hb : t < b.length) (hc : t < c.length) : bv a t ^^^ bv b t ^^^ bv c t = (a[t] ^^^ b[t] ^^^ c[t]).toNat := by
  rw [bv_lt ha, bv_lt hb, bv_lt hc, UInt8.toNat_xor, UInt8.toNat_xor]
set_option maxRecDepth 100000 in
set_option maxHeartbeats 4000000 in
theorem sums_walk (W : World) (T : Tab W) (A B C : Option Addr) (n ca m cb k cc : Nat) (a b c : List UInt8) (x y : Int) (h0 : BsAt W A n a) (h1 : BsAt W B m b) (h2 : BsAt W C k c) (hA : A = none → ca = 0) (hn : n ≤ 9223372036854775807) (hm : m ≤ 9223372036854775807) (hk : k ≤ 9223372036854775807) (l1 : -9223372036854775808 ≤ x) (u1 : x ≤ 9223372036854775807) (l2 : 0 ≤ y) (u2 : y ≤ 255) :
    Calls Tryd.prog 7 #[.slice A n ca, .slice B m cb, .slice C k cc, .int .i64 x, .int .u8 y] W fun e w' => e = .returned (.bool true) ∧ Below W.heap.size W w' := by
  have H0 := Lib.hid h0
  have H1 := Lib.hid h1
  have H2 := Lib.hid h2
  have HA := Lib.hid hA
  have O := Lib.hid (Own.refl T)
  have TW := Lib.hid T
  clear h0 h1 h2 hA T
  go_enter Tryd.func7, Tryd.ntmps7
  go_wp2_with fail
  refine O.out.first.mono ?_
  rintro e w0 ⟨rfl, o0, b0⟩
  have O0 := Lib.hid o0
  have I0 := Lib.hid (H0.out.below b0)
  have I1 := Lib.hid (H1.out.below b0)
  have I2 := Lib.hid (H2.out.below b0)
  clear o0 b0
  by_cases hle : n ≤ 20000
  · have q0 : ¬ (20000 : Int) < n := by omega
    by_cases hmn : m = n
    · subst hmn
      by_cases hkn : k = m
      · subst hkn
        have NA := Lib.hid (show a.length = k from I0.out.1.symm)
        have NB := Lib.hid (show b.length = k from I1.out.1.symm)
        have NC := Lib.hid (show c.length = k from I2.out.1.symm)
        have C1 := copy_is w0 A k ca a I0.out HA.out (by omega)
        go_wp2_with fail
        refine C1.mono ?_
        rintro e w1 ⟨v1, rfl, o1, b1⟩
        clear C1
        have O1 := Lib.hid (O0.out.on b1)
        have sz0 : W.heap.size ≤ w0.heap.size := O0.out.at_.size
        obtain ⟨A1, c1, rfl, -, k1, x1, z1⟩ := o1.atC NA.out
        have J0 := Lib.hid (I0.out.below b1)
        have J1 := Lib.hid (I1.out.below b1)
        have J2 := Lib.hid (I2.out.below b1)
        have Q1 := Lib.hid o1
        have B1 := Lib.hid b1
        clear o1 b1
        go_wp2
        go_loopw [12] (fun i wr => ∃ t : Nat, t ≤ k ∧ i = .int .i64 t ∧ OwnB w0.heap.size wr (.slice A1 k c1) (mixL a b c t) ∧ Below w0.heap.size w0 wr) (fun i _ => k - (intOf i).toNat)
        case atStart => exact ⟨0, Nat.zero_le _, rfl, by rw [mixL_zero]; exact Q1.out, B1.out⟩
        case round =>
          obtain ⟨t, ht, rfl, hq, hb⟩ := hrel
          have HQ := Lib.hid hq
          have HB := Lib.hid hb
          clear hq hb
          by_cases hlt : t < k
          · have G0 := Lib.hid (I0.out.below HB.out)
            have G1 := Lib.hid (I1.out.below HB.out)
            have G2 := Lib.hid (I2.out.below HB.out)
            obtain ⟨ba, oa, rfl, hba, sa⟩ := G0.out.2 (by omega)
            obtain ⟨bb, ob, rfl, hbb, sb⟩ := G1.out.2 (by omega)
            obtain ⟨bc, oc, rfl, hbc, sc⟩ := G2.out.2 (by omega)
            have d0 := sa t hlt
            have d1 := sb t hlt
            have d2 := sc t hlt
            have hl := mixL_len NA.out NB.out NC.out ht
            rcases HQ.out.form with ⟨q, e⟩ | ⟨g, cg, q, a1, hg, hgw, hcg⟩
            · rw [e, List.length_nil] at hl; omega
            · rw [hl] at q
              injection q with q1 q2 q3
              subst q1; subst q3
              have fz := World.ownsRow.frozenAt (hl ▸ HQ.out : wr.ownsRow w0.heap.size 5 1 (.slice (some ⟨g, 0, none⟩) k c1) k (Lib.byteCells (mixL a b c t))) t
              have dd : wr.cell? ⟨g, t, none⟩ = some (.int .u8 (bv (mixL a b c t) t : Nat)) := by
                obtain ⟨b', off', e, hlt', q⟩ := a1.2 (by omega)
                injection e with e; injection e with e1 e2; subst e1; subst e2
                have := q t (by omega)
                rwa [Nat.zero_add] at this
              have f0 := bv_256 a t
              have f1 := bv_256 b t
              have f2 := bv_256 c t
              have hmix := bv_mix (a := a) (b := b) (c := c) (t := t) (by rw [NA.out]; exact hlt) (by rw [NB.out]; exact hlt) (by rw [NC.out]; exact hlt)
              have hnx := mixL_next NA.out NB.out NC.out hlt
              have e1 := xor8 (bv a t) (bv b t) f0 f1
              have f3 : bv a t ^^^ bv b t < 256 := Nat.xor_lt_two_pow (n := 8) f0 f1
              have e2 := xor8 (bv a t ^^^ bv b t) (bv c t) f3 f2
              rw [hmix] at e2
              generalize a[t]'(by rw [NA.out]; exact hlt) ^^^ b[t]'(by rw [NB.out]; exact hlt) ^^^ c[t]'(by rw [NC.out]; exact hlt) = d at e2 hnx
              have hd : d.toNat < 256 := u8_lt d
              have D := (Below.refl wr.heap.size wr).drew
              obtain ⟨S1, S2⟩ := ((hl ▸ HQ.out : OwnB w0.heap.size wr (.slice (some ⟨g, 0, none⟩) (mixL a b c t).length c1) (mixL a b c t)).on D).store t d _ rfl
              rw [hl, hnx] at S1
              have hO : w0.heap.size ≤ wr.drew.heap.size := HB.out.size
              have BS := Lib.hid ((HB.out.trans (D.mono HB.out.size)).trans (grown_below (HQ.out.on D) (by exact S2) hO))
              have SS := Lib.hid S1
              generalize bv (mixL a b c t) t = vo at dd
              clear sa sb sc a1 hmix hnx D S1 S2
              generalize d.toNat = dn at *
              generalize bv a t = va at *
              generalize bv b t = vb at *
              generalize bv c t = vc at *
              go_wp2
              go_still_tail 17, (by kernel_rfl)
              change wpList _ _ _ _ _ wr.drew
              go_wp2
              go_roundw
              case rel => exact ⟨t + 1, by omega, by go_num, SS.out, BS.out⟩
              case measure => simp [intOf]; omega
          · obtain rfl : t = k := by omega
            have hq := HQ.out
            rw [mixL_all NA.out NB.out NC.out] at hq
            have hs := sum_xor (a := a) (b := b) (c := c) (by rw [NB.out, NA.out]) (by rw [NC.out, NA.out])
            obtain ⟨A2, c2, q, a2, k2, x2, z2⟩ := hq.atC (n := t) (by rw [xorL_len, xorL_len, NA.out, NB.out, NC.out]; omega)
            injection q with q1 q2 q3
            subst q1; subst q3
            have OW := Lib.hid (O0.out.on HB.out)
            have G0 := Lib.hid (I0.out.below HB.out)
            have G1 := Lib.hid (I1.out.below HB.out)
            have G2 := Lib.hid (I2.out.below HB.out)
            have C2 := sum_is wr _ t c1 _ OW.out.tab a2 (by omega)
            have C3 := sum_is wr _ t ca _ OW.out.tab G0.out (by omega)
            have C4 := sum_is wr _ t cb _ OW.out.tab G1.out (by omega)
            have C5 := sum_is wr _ t cc _ OW.out.tab G2.out (by omega)
            have la := sumL_lt a
            have lb := sumL_lt b
            have lc := sumL_lt c
            rw [hs] at C2
            have e1 := xor32 (sumL a) (sumL b) la lb
            have e2 := xor32 (sumL a ^^^ sumL b) (sumL c) (xor_lt32 la lb) lc
            have SA := Lib.hid (show sumL a = sumL a from rfl)
            clear hq a2 hs
            generalize hsa : sumL a = va at *
            generalize sumL b = vb at *
            generalize sumL c = vc at *
            generalize va ^^^ vb ^^^ vc = vd at *
            go_wp2_with fail
            refine C2.mono ?_
            rintro e w2 ⟨rfl, rfl⟩
            clear C2
            go_wp2_with fail
            refine C3.mono ?_
            rintro e w3 ⟨rfl, rfl⟩
            clear C3
            go_wp2_with fail
            refine C4.mono ?_
            rintro e w4 ⟨rfl, rfl⟩
            clear C4
            go_wp2_with fail
            refine C5.mono ?_
            rintro e w5 ⟨rfl, rfl⟩
            clear C5
            by_cases hx0 : x < 0
            · have q3 : x < 0 := hx0
              go_wp2_with fail
              refine OW.out.first.mono ?_
              rintro e w6 ⟨rfl, o6, b6⟩
              have G := Lib.hid o6.at_
              clear o6 b6
              go_wp2
              go_ret
              exact ⟨rfl, G.out⟩
            · by_cases hxt : (t : Int) ≤ x
              · have q3 : ¬ x < 0 := hx0
                go_wp2_with fail
                refine OW.out.first.mono ?_
                rintro e w6 ⟨rfl, o6, b6⟩
                have G := Lib.hid o6.at_
                clear o6 b6
                go_wp2
                go_ret
                exact ⟨rfl, G.out⟩
              · obtain ⟨j, rfl⟩ := Int.eq_ofNat_of_zero_le (show 0 ≤ x by omega)
                obtain ⟨z, rfl⟩ := Int.eq_ofNat_of_zero_le l2
                by_cases hz : z = 0
                · subst hz
                  go_wp2_with fail
                  refine OW.out.first.mono ?_
                  rintro e w6 ⟨rfl, o6, b6⟩
                  have G := Lib.hid o6.at_
                  clear o6 b6
                  go_wp2
                  go_ret
                  exact ⟨rfl, G.out⟩
                · have qz : ((z : Int) == 0) = false := by rw [beq_eq_false_iff_ne]; omega
                  have D6 := copy_is w5 A t ca a G0.out HA.out (by omega)
                  go_wp2_with fail
                  refine D6.mono ?_
                  rintro e w6 ⟨v6, rfl, o6, b6⟩
                  clear D6
                  have O6 := Lib.hid (OW.out.on b6)
                  have G6 := Lib.hid (G0.out.below b6)
                  have hjt : j < t := by omega
                  have hl := NA.out
                  rcases o6.form with ⟨-, q⟩ | ⟨g, c6, rfl, a6, hg, hgw, hc6⟩
                  · rw [q, List.length_nil] at hl; omega
                  · have Q6 := Lib.hid o6
                    have c0 : w6.cell? ⟨g, j, none⟩ = some (.int .u8 (bv a j : Nat)) := by
                      obtain ⟨b', off', e, hlt, q⟩ := a6.2 (by omega)
                      injection e with e; injection e with e1 e2; subst e1; subst e2
                      have := q j (by omega)
                      rwa [Nat.zero_add] at this
                    rw [hl] at hc6 a6 ⊢
                    have h256 := bv_256 a j
                    have fz := World.ownsRow.frozenAt (hl ▸ Q6.out : w6.ownsRow w5.heap.size 5 1 (.slice (some ⟨g, 0, none⟩) t c6) t (Lib.byteCells a)) j
                    obtain ⟨hb1, hb2⟩ := byte_turned (v := bv a j) (z := z) h256 (by omega) hz
                    have hold : a[j]'(by omega) ≠ UInt8.ofNat (bv a j ^^^ z) := hb2 _ (by rw [bv_lt (by omega)])
                    have hS := sum_set a j (UInt8.ofNat (bv a j ^^^ z)) (by omega) hold
                    obtain ⟨Q7, g7⟩ := (hl ▸ Q6.out : OwnB w5.heap.size w6 (.slice (some ⟨g, 0, none⟩) a.length c6) a).store j (UInt8.ofNat (bv a j ^^^ z)) _ hb1
                    have hO : W.heap.size ≤ w5.heap.size := OW.out.at_.size
                    have hb7 : Below w5.heap.size w6 (w6.setCell ⟨g, j, none⟩ (.int .u8 (bits .xor .u8 (bv a j : Int) (z : Int)))) := grown_below Q6.out (by exact g7) (by omega)
                    have O7 := O6.out.turn TW.out hO hb7
                    have hl2 : (a.set j (UInt8.ofNat (bv a j ^^^ z))).length = t := by rw [List.length_set, hl]
                    have HS := Lib.hid hS
                    have HQ7 := Lib.hid Q7
                    have HO7 := Lib.hid O7
                    have G7 := Lib.hid (G0.out.below ((b6.trans (hb7.mono (Nat.le_refl _)))))
                    clear hb1 hb2 hS Q7 O7 hold a6 o6 b6
                    go_wp2_with fail
                    generalize w6.setCell ⟨g, j, none⟩ (.int .u8 (bits .xor .u8 (bv a j : Int) (z : Int))) = w7 at *
                    generalize a.set j (UInt8.ofNat (bv a j ^^^ z)) = d at *
                    obtain ⟨A8, c8, e8, a8, k8, x8, z8⟩ := HQ7.out.atC hl2
                    have el : a.length = t := hl
                    rw [el] at e8
                    injection e8 with f1 f2 f3
                    subst f1; subst f3
                    have R8 := Lib.hid a8
                    clear a8 hb7 g7
                    refine HO7.out.first.mono ?_
                    rintro e w8 ⟨rfl, o8, b8⟩
                    have O8 := Lib.hid o8
                    have D1 := sum_is w8 _ t c6 d O8.out.tab (R8.out.below b8) (by omega)
                    have D2 := sum_is w8 _ t ca a O8.out.tab (G7.out.below b8) (by omega)
                    have qs := HS.out
                    rw [hsa] at D2 qs
                    have qn : ((sumL d : Int) != (va : Int)) = true := by rw [bne_iff_ne]; omega
                    generalize sumL d = sd at *
                    clear o8 b8
                    go_wp2_with fail
                    refine D1.mono ?_
                    rintro e w9 ⟨rfl, rfl⟩
                    clear D1
                    go_wp2_with fail
                    refine D2.mono ?_
                    rintro e w10 ⟨rfl, rfl⟩
                    clear D2
                    go_wp2
                    go_ret
                    exact ⟨by first | rfl | exact ret_bool qn, O8.out.at_⟩
      · have q2 : ((k : Int) != m) = true := by rw [bne_iff_ne]; omega
        go_wp2_with fail
        refine O0.out.first.mono ?_
        rintro e w1 ⟨rfl, o1, b1⟩
        have G := Lib.hid o1.at_
        clear o1 b1
        go_wp2
        go_ret
        exact ⟨rfl, G.out⟩
    · have q1 : ((m : Int) != n) = true := by rw [bne_iff_ne]; omega
      go_wp2_with fail
      refine O0.out.first.mono ?_
      rintro e w1 ⟨rfl, o1, b1⟩
      have G := Lib.hid o1.at_
      clear o1 b1
      go_wp2
      go_ret
      exact ⟨rfl, G.out⟩
  · have q0 : (20000 : Int) < n := by omega
    go_wp2_with fail
    refine O0.out.first.mono ?_
    rintro e w1 ⟨rfl, o1, b1⟩
    have G := Lib.hid o1.at_
    clear o1 b1
    go_wp2
    go_ret
    exact ⟨rfl, G.out⟩
end Go.Proofs.YtdaabjoiokgjlaaDoor.Fr
