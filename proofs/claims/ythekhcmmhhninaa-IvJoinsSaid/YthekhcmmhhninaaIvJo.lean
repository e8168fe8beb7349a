/- The walk of voklaw10.IvJoins. -/
import Derived.Test.YthekhcmmhhninaaIvApp
set_option linter.unusedVariables false
namespace Go.Proofs.Ythekhcmmhhninaa.Iv
open Go.RowKit

theorem rev_step {l : List (Int × Int)} {t : Nat} (h : t < l.length) : l.reverse.take (t + 1) = l.reverse.take t ++ [gt l (l.length - 1 - t)] := by
  rw [List.take_succ_eq_append_getElem (by simpa using h), List.getElem_reverse, gt_lt (by omega)]
theorem norms_next {r : List (Int × Int)} (h : Norms r) {t : Nat} (ht : t + 1 < r.length) : (gt r t).2 < (gt r (t + 1)).1 := by
  rw [gt_lt ht, gt_lt (by omega)]
  exact List.pairwise_iff_getElem.1 h.apart t (t + 1) (by omega) ht (by omega)
set_option maxRecDepth 100000 in
set_option maxHeartbeats 8000000 in
theorem joins_walk (w : World) (A : Option Addr) (n c : Nat) (l : List (Int × Int)) (i : Int) (hA : SpAt w A n l) (hz : A = none → n = 0) (hm : n ≤ 9223372036854775807) (li : -9223372036854775808 ≤ i) (ui : i ≤ 9223372036854775807) :
    Calls Try.prog 8 #[.slice A n c, .int .i64 i] w fun e w' => e = .returned (.bool true) ∧ Below w.heap.size w w' := by
  have HA := Lib.hid hA
  have HZ := Lib.hid hz
  clear hA hz
  go_enter Try.func8, Try.ntmps8
  go_wp2_with fail
  refine (firstV _).mono ?_
  rintro e w1 ⟨rfl, b1⟩
  have B1 := Lib.hid b1
  clear b1
  by_cases hb : 1000 < n
  · have s1 : decide (1000 < n) = true := decide_eq_true hb
    have s2 : decide ((1000 : Int) < n) = true := decide_eq_true (by omega)
    go_wp2_with fail
    refine (firstV _).mono ?_
    rintro e w2 ⟨rfl, b2⟩
    have B2 := Lib.hid (B1.out.trans (b2.mono B1.out.size))
    clear b2
    go_wp2_with fail
    go_ret
    exact ⟨rfl, B2.out⟩
  · have s1 : decide (1000 < n) = false := decide_eq_false hb
    have s2 : decide ((1000 : Int) < n) = false := decide_eq_false (by omega)
    go_wp2_with fail
    refine (norm_any w1 A n c l (HA.out.below B1.out) HZ.out (by omega)).mono ?_
    rintro e w2 ⟨A2, c2, rfl, h2, f2, l2, b2⟩
    have B2 := Lib.hid (B1.out.trans (b2.mono B1.out.size))
    have H2 := Lib.hid h2
    have Z2 := Lib.hid (own_new f2)
    have NL : (normL l).length ≤ 1000 := by have := norm_len l; have := HA.out.1; omega
    have NS := Lib.hid (norm_is l).norms
    have N1 := Lib.hid (norm_norm l)
    have N2 := Lib.hid (norm_rev l)
    have N3 := Lib.hid (fun a (h : a ∈ l) => norm_again (l := l) h)
    have HA2 := Lib.hid (HA.out.below B2.out)
    generalize hr : normL l = r at *
    have HR := Lib.hid hr
    clear h2 f2 b2 hr
    have W0 : IntKind.i64.wrap ((n : Int) - 1) = (n : Int) - 1 := IntWalk.i64_in _ (by omega)
    go_wp2_with fail
    go_loopw [6, 7] (fun v i wr => ∃ t : Nat, i = .int .i64 ((n : Int) - 1 - t) ∧ t ≤ n ∧ Hid (OwnP w2.heap.size wr v (l.reverse.take t)) ∧ Below w2.heap.size w2 wr) (fun v i _ => (intOf i + 1).toNat)
    case atStart => exact ⟨0, by simp, Nat.zero_le _, Lib.hid (OwnP.nil _ _), Below.refl _ _⟩
    case round =>
      obtain ⟨wo, rfl⟩ : ∃ wo : World, wo = wr := ⟨_, rfl⟩
      obtain ⟨t, rfl, ht, OV, hB⟩ := hrel
      by_cases hlt : t < n
      · obtain ⟨b1, o1, rfl, hl1, hc1⟩ := HA2.out.2 (by omega)
        obtain ⟨c0, c1⟩ := hc1 (n - 1 - t) (by omega)
        replace c0 := (hB.cell (p := ⟨b1, _, none⟩) hl1).trans c0
        replace c1 := (hB.cell (p := ⟨b1, _, none⟩) hl1).trans c1
        have LN := HA2.out.1
        have ST := Lib.hid (rev_step (l := l) (t := t) (by omega))
        have LA := Lib.hid (show (l.reverse.take t).length = t by rw [List.length_take, List.length_reverse]; omega)
        rw [← LN] at ST
        clear hc1 LN
        generalize l.reverse.take t = acc at *
        obtain ⟨j, hj⟩ : ∃ j : Nat, j = n - 1 - t := ⟨_, rfl⟩
        have ej : ((n : Int) - 1 - t) = (j : Int) := by omega
        rw [← hj] at c0 c1 ST
        rw [ej]
        generalize gt l j = x at *
        have s0 : decide ((0 : Int) ≤ (j : Int)) = true := decide_eq_true (by omega)
        have i5 : (j : Int) < n := by omega
        have i6 : j < n := by omega
        have W2 : IntKind.i64.wrap ((j : Int) - 1) = (j : Int) - 1 := IntWalk.i64_in _ (by omega)
        have HJ := Lib.hid ej
        clear hj ej
        have SZ := hB.size
        have OVH := Lib.hid OV.out
        rcases OV.out.form with ⟨rfl, -⟩ | ⟨g3, cap3, rfl, -⟩
        all_goals
          clear OV
          go_wp2_with (at_builtin; refine append_sp rfl _ _ rfl _ acc rfl OVH.out SZ x _ rfl _ _ rfl (by have := LA.out; omega) ?_)
          intro v4 w4 ow4 hb4
          rw [← ST.out] at ow4
          have OW := Lib.hid ow4
          have B4 := Lib.hid (hB.trans hb4)
          clear ow4 hb4
          go_wp2
          go_roundw
          case rel => exact ⟨t + 1, by have := HJ.out; rw [show (j : Int) - 1 = (n : Int) - 1 - (t + 1 : Nat) by omega], by omega, OW, B4.out⟩
          case measure => simp [intOf]
      · obtain rfl : n = t := by omega
        have s0 : decide ((0 : Int) ≤ (n : Int) - 1 - n) = false := decide_eq_false (by omega)
        have e0 : l.reverse.take n = l.reverse := List.take_of_length_le (by rw [List.length_reverse, ← HA2.out.1]; exact Nat.le_refl _)
        rw [e0] at OV
        have SZ := hB.size
        have BO := Lib.hid (B2.out.trans (hB.mono B2.out.size))
        have H2O := Lib.hid (H2.out.below hB)
        have HAO := Lib.hid (HA2.out.below hB)
        have OV := Lib.hid OV.out
        clear hB H2 HA2
        go_upto_region 11 with fail
        go_cut [8] from 32 to 34 (fun v wx => Hid (OwnP wo.heap.size wx v r ∧ Below wo.heap.size wo wx))
        case first =>
          have OE := Lib.hid (own_empty wo wo.heap.size (Nat.le_refl _))
          have BE := below_alloc wo (.cells #[] 40)
          have HE := Lib.hid (H2O.out.below BE)
          have BEH := Lib.hid BE
          have sE := BE.size
          clear BE
          cases A2 with
          | none =>
            obtain rfl : r = [] := List.length_eq_zero_iff.1 (Z2.out rfl)
            go_wp2
            go_meet
            exact Lib.hid ⟨OE.out, BEH.out⟩
          | some ad =>
            go_wp2_with (at_builtin; refine append_sps rfl _ _ rfl _ [] rfl OE.out sE ad r.length c2 r HE.out rfl (by simp; omega) ?_)
            intro v4 w4 ow4 hb4
            have OW := Lib.hid (show OwnP wo.heap.size w4 v4 r from ow4)
            have B4 := Lib.hid (BEH.out.trans hb4)
            clear ow4 hb4
            go_wp2
            go_meet
            exact Lib.hid ⟨OW.out, B4.out⟩
        case rest =>
          obtain ⟨w4, rfl⟩ : ∃ w4 : World, w4 = wc := ⟨_, rfl⟩
          have B4 := Lib.hid hcut.out.2
          have O4 := Lib.hid hcut.out.1
          have HA4 := Lib.hid (HAO.out.below B4.out)
          have SZ4 := B4.out.size
          clear hcut HAO
          go_upto_region 12 with fail
          have YES := Lib.hid (fun (h : 0 ≤ i ∧ i < n) => show true = decide (0 ≤ i ∧ i < n) from (decide_eq_true h).symm)
          have NO := Lib.hid (fun (h : ¬ (0 ≤ i ∧ i < n)) => show false = decide (0 ≤ i ∧ i < n) from (decide_eq_false h).symm)
          go_cut [42] from 35 to 42 (fun v wx => Hid (v = .bool (decide (0 ≤ i ∧ i < n)) ∧ wx = w4))
          case first =>
            by_cases i0 : 0 ≤ i
            · have s3 : decide (0 ≤ i) = true := decide_eq_true i0
              by_cases i1 : i < n
              · have s4 : decide (i < (n : Int)) = true := decide_eq_true i1
                have Y := Lib.hid (YES.out ⟨i0, i1⟩)
                clear YES NO
                go_wp2
                go_meet
                exact Lib.hid ⟨by rw [← Y.out], rfl⟩
              · have s4 : decide (i < (n : Int)) = false := decide_eq_false i1
                have Y := Lib.hid (NO.out fun h => i1 h.2)
                clear YES NO
                go_wp2
                go_meet
                exact Lib.hid ⟨by rw [← Y.out], rfl⟩
            · have s3 : decide (0 ≤ i) = false := decide_eq_false i0
              have Y := Lib.hid (NO.out fun h => i0 h.1)
              clear YES NO
              go_wp2
              go_meet
              exact Lib.hid ⟨by rw [← Y.out], rfl⟩
          case rest =>
            obtain ⟨rfl, rfl⟩ := hcut.out
            clear hcut YES NO
            generalize hq : decide (0 ≤ i ∧ i < (n : Int)) = qb
            have HQ := Lib.hid hq
            clear hq
            go_upto_if 42 with fail
            go_cut [8] from 43 to 49 (fun v wx => Hid (∃ m : List (Int × Int), OwnP wo.heap.size wx v m ∧ normL m = r ∧ m.length ≤ 2000 ∧ Below wo.heap.size wo wx))
            case first =>
              obtain ⟨w4, rfl⟩ : ∃ w4 : World, w4 = wc := ⟨_, rfl⟩
              cases qb with
              | true =>
                obtain ⟨i0, i1⟩ := of_decide_eq_true HQ.out
                obtain ⟨j, rfl⟩ : ∃ j : Nat, i = j := ⟨i.toNat, by omega⟩
                have jn : j < n := by omega
                obtain ⟨b1, o1, rfl, hl1, hc1⟩ := HA4.out.2 (by omega)
                obtain ⟨c0, c1⟩ := hc1 j jn
                have GM := Lib.hid (N3.out (gt l j) (gt_mem (by rw [← HA4.out.1]; exact jn)))
                clear hc1
                generalize gt l j = x at *
                rcases O4.out.form with ⟨rfl, -⟩ | ⟨g3, cap3, rfl, -⟩
                all_goals
                  go_wp2_with (at_builtin; refine append_sp rfl _ _ rfl _ r rfl O4.out SZ4 x _ rfl _ _ rfl (by omega) ?_)
                  intro v5 w5 ow5 hb5
                  have OW := Lib.hid (show ∃ m : List (Int × Int), OwnP wo.heap.size w5 v5 m ∧ normL m = r ∧ m.length ≤ 2000 ∧ Below wo.heap.size wo w5 from ⟨_, ow5, GM.out, by rw [List.length_append, List.length_singleton]; omega, B4.out.trans hb5⟩)
                  clear ow5 hb5
                  go_wp2
                  go_meet
                  exact OW
              | false =>
                go_wp2
                go_meet
                exact Lib.hid ⟨r, O4.out, N1.out, by omega, B4.out⟩
            case rest =>
              obtain ⟨w5, rfl⟩ : ∃ w5 : World, w5 = wc := ⟨_, rfl⟩
              obtain ⟨m, OM, nm, ml, hb5⟩ := hcut.out
              have B5 := Lib.hid hb5
              have OMH := Lib.hid OM
              have NM := Lib.hid nm
              have H25 := Lib.hid (H2O.out.below hb5)
              have OV5 := Lib.hid (OV.out.on hb5)
              have SZ5 := hb5.size
              clear hcut OM nm hb5 O4 B4 HA4 H2O OV
              go_wp2_with fail
              go_loopw [9] (fun i wr => ∃ t : Nat, i = .int .i64 t ∧ t ≤ r.length ∧ Below w5.heap.size w5 wr) (fun i _ => r.length - (intOf i).toNat)
              case atStart => exact ⟨0, rfl, Nat.zero_le _, Below.refl _ _⟩
              case round =>
                obtain ⟨wp, rfl⟩ : ∃ wp : World, wp = wr := ⟨_, rfl⟩
                obtain ⟨t, rfl, ht, hB⟩ := hrel
                by_cases hlt : t < r.length
                · obtain ⟨b2, o2, rfl, hl2, hc2⟩ := H25.out.2 (by omega)
                  obtain ⟨c0, c1⟩ := hc2 t hlt
                  replace c0 := (hB.cell (p := ⟨b2, _, none⟩) hl2).trans c0
                  replace c1 := (hB.cell (p := ⟨b2, _, none⟩) hl2).trans c1
                  have xs := NS.out.some_ (gt r t) (gt_mem hlt)
                  have W2 : IntKind.i64.wrap ((t : Int) + 1) = (t : Int) + 1 := IntWalk.i64_in _ (by omega)
                  rcases Nat.eq_zero_or_pos t with rfl | tp
                  · clear hc2
                    simp only [Nat.zero_mul, Nat.add_zero] at c0 c1
                    generalize gt r 0 = x at *
                    generalize hrl : r.length = k at *
                    have s5 : decide (x.2 ≤ x.1) = false := decide_eq_false (by omega)
                    go_wp2
                    go_big_quiet (fail)
                    go_wp2
                    go_roundw
                    case rel => exact ⟨1, rfl, by omega, hB.trans (below_drewN _ _ _)⟩
                    case measure => simp [intOf]; omega
                  · obtain ⟨t0, ht0⟩ : ∃ t', t = t' + 1 := ⟨t - 1, by omega⟩
                    obtain ⟨d0, d1⟩ := hc2 t0 (by omega)
                    replace d1 := (hB.cell (p := ⟨b2, _, none⟩) hl2).trans d1
                    have xp := norms_next NS.out (t := t0) (by rw [← ht0]; exact hlt)
                    rw [← ht0] at xp
                    have W3 : IntKind.i64.wrap ((t : Int) - 1) = (t0 : Int) := by rw [show (t : Int) - 1 = (t0 : Int) from by omega]; exact IntWalk.i64_in _ (by omega)
                    clear hc2 d0
                    generalize gt r t = x at *
                    generalize gt r t0 = y at *
                    generalize hrl : r.length = k at *
                    have s5 : decide (x.2 ≤ x.1) = false := decide_eq_false (by omega)
                    have s6 : decide (x.1 ≤ y.2) = false := decide_eq_false (by omega)
                    have j1 : (t0 : Int) < k := by omega
                    have j2 : (t : Int) < k := by omega
                    have j4 : t0 < k := by omega
                    have j5 : decide ((0 : Int) < (t : Int)) = true := decide_eq_true (by omega)
                    have j6 : decide (0 < t) = true := decide_eq_true (by omega)
                    have HT := Lib.hid ht0
                    clear ht0
                    go_wp2
                    go_big_quiet (fail)
                    go_wp2
                    go_roundw
                    case rel => exact ⟨t + 1, by go_num, by omega, hB.trans (below_drewN _ _ _)⟩
                    case measure => simp [intOf]; omega
                · obtain rfl : t = r.length := by omega
                  have B6 := Lib.hid hB
                  clear hB
                  go_wp2_with fail
                  refine (firstV _).mono ?_
                  rintro e w6 ⟨rfl, b6⟩
                  have BB := Lib.hid (B6.out.trans (b6.mono B6.out.size))
                  clear b6 B6
                  go_wp2_with fail
                  refine (norm_any w6 A2 r.length c2 r (H25.out.below BB.out) Z2.out (by omega)).mono ?_
                  rintro e w7 ⟨A7, c7, rfl, h7, -, -, b7⟩
                  have B7 := Lib.hid (BB.out.trans (b7.mono BB.out.size))
                  have H7 := Lib.hid h7
                  clear h7 b7 BB
                  rw [N1.out] at H7 ⊢
                  go_wp2_with fail
                  refine (spans_any w7 A7 A2 r.length c7 r.length c2 r r H7.out (H25.out.below B7.out) (by omega) (by omega)).mono ?_
                  rintro e w8 ⟨rfl, b8⟩
                  have B8 := Lib.hid (B7.out.trans (b8.mono B7.out.size))
                  rw [decide_eq_true (rfl : r = r)]
                  clear b8 B7 H7
                  obtain ⟨A9, c9, q9, i9, z9⟩ := own_any OV5.out
                  obtain ⟨A10, c10, q10, i10, z10⟩ := own_any OMH.out
                  have I9 := Lib.hid i9
                  have I10 := Lib.hid i10
                  have bl : l.reverse.length ≤ 2000 := by rw [List.length_reverse, ← HA.out.1]; omega
                  subst q9
                  subst q10
                  clear i9 i10
                  generalize l.reverse = lr at *
                  go_wp2_with fail
                  refine (norm_any w8 A9 lr.length c9 lr (I9.out.below B8.out) z9 (by omega)).mono ?_
                  rintro e w9 ⟨A11, c11, rfl, h11, -, -, b11⟩
                  rw [N2.out] at h11 ⊢
                  have B9 := Lib.hid (B8.out.trans (b11.mono B8.out.size))
                  have H11 := Lib.hid h11
                  clear h11 b11 B8
                  go_wp2_with fail
                  refine (spans_any w9 A11 A2 r.length c11 r.length c2 r r H11.out (H25.out.below B9.out) (by omega) (by omega)).mono ?_
                  rintro e w10 ⟨rfl, b10⟩
                  have B10 := Lib.hid (B9.out.trans (b10.mono B9.out.size))
                  rw [decide_eq_true (rfl : r = r)]
                  clear b10 B9 H11
                  go_wp2_with fail
                  refine (norm_any w10 A10 m.length c10 m (I10.out.below B10.out) z10 (by omega)).mono ?_
                  rintro e w11 ⟨A12, c12, rfl, h12, -, -, b12⟩
                  rw [NM.out] at h12 ⊢
                  have B11 := Lib.hid (B10.out.trans (b12.mono B10.out.size))
                  have H12 := Lib.hid h12
                  clear h12 b12 B10
                  go_wp2_with fail
                  refine (spans_any w11 A12 A2 r.length c12 r.length c2 r r H12.out (H25.out.below B11.out) (by omega) (by omega)).mono ?_
                  rintro e w12 ⟨rfl, b13⟩
                  have B12 := Lib.hid (B11.out.trans (b13.mono B11.out.size))
                  rw [decide_eq_true (rfl : r = r)]
                  clear b13 B11 H12
                  go_wp2_with fail
                  go_ret
                  exact ⟨rfl, BO.out.trans (((Below.refl wo.heap.size wo).trans B5.out |>.mono BO.out.size).trans (B12.out.mono (Nat.le_trans BO.out.size SZ5)))⟩
end Go.Proofs.Ythekhcmmhhninaa.Iv
