/- The walk of voklaw10.IvCuts. -/
import Derived.Test.YthekhcmmhhninaaIvPl
import Derived.Test.YthekhcmmhhninaaIvFi
import Derived.Test.YthekhcmmhhninaaIvCuM
import Derived.Test.YthekhcmmhhninaaIvOp
set_option linter.unusedVariables false
namespace Go.Proofs.Ythekhcmmhhninaa.Iv
open Go.RowKit

theorem pair_gt {r : List (Int × Int)} (h : Norms r) {t : Nat} (ht : t + 1 < r.length) : (gt r t).2 < (gt r (t + 1)).1 := by
  rw [gt_lt ht, gt_lt (by omega)]
  exact List.pairwise_iff_getElem.1 h.apart t (t + 1) (by omega) ht (by omega)
set_option maxRecDepth 100000 in
set_option maxHeartbeats 8000000 in
theorem cuts_walk (w : World) (A : Option Addr) (n c : Nat) (ops : List OpR) (lo hi : Int) (hA : OpAt w A n ops) (hm : n ≤ 9223372036854775807) (l1 : -9223372036854775808 ≤ lo) (u1 : lo ≤ 9223372036854775807) (l2 : -9223372036854775808 ≤ hi) (u2 : hi ≤ 9223372036854775807) :
    Calls Try.prog 7 #[.slice A n c, .int .i64 lo, .int .i64 hi] w fun e w' => e = .returned (.bool true) ∧ Below w.heap.size w w' := by
  have HA := Lib.hid hA
  clear hA
  go_enter Try.func7, Try.ntmps7
  go_wp2_with fail
  refine (firstV _).mono ?_
  rintro e w1 ⟨rfl, b1⟩
  have B1 := Lib.hid b1
  clear b1
  go_wp2_with fail
  refine (played_is w1 A n c ops (HA.out.below B1.out) hm).mono ?_
  rintro e w2 ⟨b2, ⟨hf, p, rfl, hp, S2, l1', l2'⟩ | ⟨hf, rfl⟩⟩
  · have B2 := Lib.hid (B1.out.trans (b2.mono B1.out.size))
    have S2H := Lib.hid S2
    generalize (playN ops ops.length).1 = all at *
    generalize (playN ops ops.length).2 = ow at *
    clear hf S2 b2 B1
    by_cases g1 : lo < -1000000
    · have s1 : decide (lo < -1000000) = true := decide_eq_true g1
      go_wp2_with fail
      refine (firstV _).mono ?_
      rintro e w5 ⟨rfl, b5⟩
      have B5 := Lib.hid (B2.out.trans (b5.mono B2.out.size))
      clear b5
      go_wp2_with fail
      go_ret
      exact ⟨rfl, B5.out⟩
    have s1 : decide (lo < -1000000) = false := decide_eq_false g1
    by_cases g2 : 1000000 < hi
    · have s2 : decide (1000000 < hi) = true := decide_eq_true g2
      go_wp2_with fail
      refine (firstV _).mono ?_
      rintro e w5 ⟨rfl, b5⟩
      have B5 := Lib.hid (B2.out.trans (b5.mono B2.out.size))
      clear b5
      go_wp2_with fail
      go_ret
      exact ⟨rfl, B5.out⟩
    have s2 : decide (1000000 < hi) = false := decide_eq_false g2
    by_cases g3 : hi < lo
    · have s3 : decide (hi < lo) = true := decide_eq_true g3
      go_wp2_with fail
      refine (firstV _).mono ?_
      rintro e w5 ⟨rfl, b5⟩
      have B5 := Lib.hid (B2.out.trans (b5.mono B2.out.size))
      clear b5
      go_wp2_with fail
      go_ret
      exact ⟨rfl, B5.out⟩
    have s3 : decide (hi < lo) = false := decide_eq_false g3
    have W0 : IntKind.i64.wrap (hi - lo) = hi - lo := IntWalk.i64_in _ (by omega)
    by_cases g4 : 300 < hi - lo
    · have s4 : decide (300 < hi - lo) = true := decide_eq_true g4
      go_wp2_with fail
      refine (firstV _).mono ?_
      rintro e w5 ⟨rfl, b5⟩
      have B5 := Lib.hid (B2.out.trans (b5.mono B2.out.size))
      clear b5
      go_wp2_with fail
      go_ret
      exact ⟨rfl, B5.out⟩
    have s4 : decide (300 < hi - lo) = false := decide_eq_false g4
    go_wp2_with fail
    refine (list_is w2 p all ow S2H.out (by omega)).mono ?_
    rintro e w3 ⟨A3, c3, rfl, T3, -, -, b3⟩
    have B3 := Lib.hid b3
    have T3H := Lib.hid T3
    clear T3 b3
    go_wp2_with fail
    refine (cut_is w3 p all ow lo hi (S2H.out.below B3.out) (by omega)).mono ?_
    rintro e w4 ⟨A4, c4, rfl, P4, -, -, b4⟩
    have B4 := Lib.hid (B3.out.trans (b4.mono B3.out.size))
    have T4 := Lib.hid (T3H.out.below b4)
    have P4H := Lib.hid P4
    have S4 := Lib.hid (S2H.out.below B4.out)
    have B24 := Lib.hid (B2.out.trans (B4.out.mono B2.out.size))
    have OK := Lib.hid S2H.out.ok
    have CI := Lib.hid (fun (t : Int) (a : lo ≤ t) (b : t < hi) => cut_in (all := all) a b)
    have CW := Lib.hid (fun a (h : a ∈ cutL lo hi all) => cut_within h)
    have CN := Lib.hid (show Norms (cutL lo hi all) from (norm_is _).norms)
    have CL : (cutL lo hi all).length ≤ 900000 := by have := norm_len (all.map (cutT lo hi)); rw [List.length_map] at this; unfold cutL; omega
    generalize cutL lo hi all = cs at *
    clear P4 b4 T3H B3 S2H B4 B2
    generalize hk : all.length = k at *
    have HK := Lib.hid hk
    generalize hm2 : cs.length = m at *
    have HM := Lib.hid hm2
    clear hk hm2
    go_wp2_with fail
    go_loopw [10] (fun i wr => ∃ t : Int, i = .int .i64 t ∧ lo ≤ t ∧ t ≤ hi ∧ Below w4.heap.size w4 wr) (fun i _ => (hi - intOf i).toNat)
    case atStart => exact ⟨lo, rfl, by omega, by omega, Below.refl _ _⟩
    case round =>
      obtain ⟨wo, rfl⟩ : ∃ wo : World, wo = wr := ⟨_, rfl⟩
      obtain ⟨t, rfl, h1, h2, hB⟩ := hrel
      have BO := Lib.hid hB
      have TO := Lib.hid (T4.out.below hB)
      have PO := Lib.hid (P4H.out.below hB)
      clear hB
      by_cases hlt : t < hi
      · have s5 : decide (t < hi) = true := decide_eq_true hlt
        have W1 : IntKind.i64.wrap (t + 1) = t + 1 := IntWalk.i64_in _ (by omega)
        have CT := Lib.hid (CI.out t h1 hlt)
        have KT := Lib.hid (clash_in (t := t) OK.out)
        go_wp2_with fail
        go_loopw [11, 13] (fun b i wr => ∃ j : Nat, i = .int .i64 j ∧ j ≤ k ∧ (∃ q : Bool, b = .bool q ∧ Hid (q = inT (all.take j) t)) ∧ Below wo.heap.size wo wr) (fun b i _ => k - (intOf i).toNat)
        case atStart => exact ⟨0, rfl, Nat.zero_le _, ⟨false, rfl, Lib.hid rfl⟩, Below.refl _ _⟩
        case round =>
          obtain ⟨wi, rfl⟩ : ∃ wi : World, wi = wr := ⟨_, rfl⟩
          obtain ⟨j, rfl, hj, ⟨q, rfl, hq⟩, hI⟩ := hrel
          by_cases hlj : j < k
          · obtain ⟨b1, o1, rfl, hl1, hc1⟩ := TO.out.2 (by omega)
            obtain ⟨c0, c1, -⟩ := hc1 j hlj
            replace c0 := (hI.cell (p := ⟨b1, _, none⟩) hl1).trans c0
            replace c1 := (hI.cell (p := ⟨b1, _, none⟩) hl1).trans c1
            have ST := Lib.hid (inT_take (t := t) (show j < all.length by rw [HK.out]; exact hlj))
            clear hc1
            generalize gt all j = x at *
            have i5 : (j : Int) < k := by omega
            have s6 : decide ((j : Int) < k) = true := decide_eq_true (by omega)
            have s66 : decide (j < k) = true := decide_eq_true hlj
            have W2 : IntKind.i64.wrap ((j : Int) + 1) = (j : Int) + 1 := IntWalk.i64_in _ (by omega)
            cases q with
            | true =>
              have Q2 := Lib.hid (show true = inT (all.take (j + 1)) t by rw [ST.out, ← hq.out]; rfl)
              go_wp2_with fail
              go_roundw
              case rel => exact ⟨j + 1, by go_num, by omega, ⟨_, rfl, Q2⟩, hI⟩
              case measure => simp [intOf]; omega
            | false =>
              by_cases e1 : x.1.1 ≤ t
              · have s7 : decide (x.1.1 ≤ t) = true := decide_eq_true e1
                by_cases e2 : t < x.1.2
                · have s8 : decide (t < x.1.2) = true := decide_eq_true e2
                  have Q2 := Lib.hid (show true = inT (all.take (j + 1)) t by rw [ST.out, ← hq.out, s7, s8]; rfl)
                  go_wp2_with fail
                  go_roundw
                  case rel => exact ⟨j + 1, by go_num, by omega, ⟨_, rfl, Q2⟩, hI⟩
                  case measure => simp [intOf]; omega
                · have s8 : decide (t < x.1.2) = false := decide_eq_false e2
                  have Q2 := Lib.hid (show false = inT (all.take (j + 1)) t by rw [ST.out, ← hq.out, s7, s8]; rfl)
                  go_wp2_with fail
                  go_roundw
                  case rel => exact ⟨j + 1, by go_num, by omega, ⟨_, rfl, Q2⟩, hI⟩
                  case measure => simp [intOf]; omega
              · have s7 : decide (x.1.1 ≤ t) = false := decide_eq_false e1
                have Q2 := Lib.hid (show false = inT (all.take (j + 1)) t by rw [ST.out, ← hq.out, s7]; rfl)
                go_wp2_with fail
                go_roundw
                case rel => exact ⟨j + 1, by go_num, by omega, ⟨_, rfl, Q2⟩, hI⟩
                case measure => simp [intOf]; omega
          · obtain rfl : k = j := by omega
            have s6 : decide ((k : Int) < k) = false := decide_eq_false (by omega)
            have s66 : decide (k < k) = false := decide_eq_false (by omega)
            have Q1 := Lib.hid (show q = inT all t by have := hq.out; rwa [List.take_of_length_le (by rw [HK.out]; exact Nat.le_refl _)] at this)
            have BI := Lib.hid hI
            have PI := Lib.hid (PO.out.below hI)
            clear hI hq
            go_wp2_with fail
            go_loopw [12, 14] (fun b i wr => ∃ j : Nat, i = .int .i64 j ∧ j ≤ m ∧ (∃ q : Bool, b = .bool q ∧ Hid (q = inS (cs.take j) t)) ∧ Below wi.heap.size wi wr) (fun b i _ => m - (intOf i).toNat)
            case atStart => exact ⟨0, rfl, Nat.zero_le _, ⟨false, rfl, Lib.hid rfl⟩, Below.refl _ _⟩
            case round =>
              obtain ⟨wj, rfl⟩ : ∃ wj : World, wj = wr := ⟨_, rfl⟩
              obtain ⟨j, rfl, hj, ⟨q2, rfl, hq⟩, hI⟩ := hrel
              by_cases hlj : j < m
              · obtain ⟨b1, o1, rfl, hl1, hc1⟩ := PI.out.2 (by omega)
                obtain ⟨c0, c1⟩ := hc1 j hlj
                replace c0 := (hI.cell (p := ⟨b1, _, none⟩) hl1).trans c0
                replace c1 := (hI.cell (p := ⟨b1, _, none⟩) hl1).trans c1
                have ST := Lib.hid (inS_take (t := t) (show j < cs.length by rw [HM.out]; exact hlj))
                clear hc1
                generalize gt cs j = x at *
                have i5 : (j : Int) < m := by omega
                have s6 : decide ((j : Int) < m) = true := decide_eq_true (by omega)
                have s66 : decide (j < m) = true := decide_eq_true hlj
                have W2 : IntKind.i64.wrap ((j : Int) + 1) = (j : Int) + 1 := IntWalk.i64_in _ (by omega)
                cases q2 with
                | true =>
                  have Q2 := Lib.hid (show true = inS (cs.take (j + 1)) t by rw [ST.out, ← hq.out]; rfl)
                  go_wp2_with fail
                  go_roundw
                  case rel => exact ⟨j + 1, by go_num, by omega, ⟨_, rfl, Q2⟩, hI⟩
                  case measure => simp [intOf]; omega
                | false =>
                  by_cases e1 : x.1 ≤ t
                  · have s7 : decide (x.1 ≤ t) = true := decide_eq_true e1
                    by_cases e2 : t < x.2
                    · have s8 : decide (t < x.2) = true := decide_eq_true e2
                      have Q2 := Lib.hid (show true = inS (cs.take (j + 1)) t by rw [ST.out, ← hq.out, s7, s8]; rfl)
                      go_wp2_with fail
                      go_roundw
                      case rel => exact ⟨j + 1, by go_num, by omega, ⟨_, rfl, Q2⟩, hI⟩
                      case measure => simp [intOf]; omega
                    · have s8 : decide (t < x.2) = false := decide_eq_false e2
                      have Q2 := Lib.hid (show false = inS (cs.take (j + 1)) t by rw [ST.out, ← hq.out, s7, s8]; rfl)
                      go_wp2_with fail
                      go_roundw
                      case rel => exact ⟨j + 1, by go_num, by omega, ⟨_, rfl, Q2⟩, hI⟩
                      case measure => simp [intOf]; omega
                  · have s7 : decide (x.1 ≤ t) = false := decide_eq_false e1
                    have Q2 := Lib.hid (show false = inS (cs.take (j + 1)) t by rw [ST.out, ← hq.out, s7]; rfl)
                    go_wp2_with fail
                    go_roundw
                    case rel => exact ⟨j + 1, by go_num, by omega, ⟨_, rfl, Q2⟩, hI⟩
                    case measure => simp [intOf]; omega
              · obtain rfl : m = j := by omega
                have s6 : decide ((m : Int) < m) = false := decide_eq_false (by omega)
                have s66 : decide (m < m) = false := decide_eq_false (by omega)
                have Q2 : q2 = q := by
                  have := hq.out
                  rw [List.take_of_length_le (by rw [HM.out]; exact Nat.le_refl _), CT.out, ← Q1.out] at this
                  exact this
                subst Q2
                have BJ := Lib.hid (BO.out.trans ((BI.out.trans (hI.mono BI.out.size)).mono BO.out.size))
                clear hI hq
                have szj := BJ.out.size
                go_wp2_with fail
                have b2 := below_alloc wj (.cells #[.int .i64 t, .int .i64 (t + 1)] 40)
                refine (clash_is _ p all ow (some ⟨wj.heap.size, 0, none⟩) 1 1 [(t, t + 1)] 0 (S4.out.below (BJ.out.trans (b2.mono szj))) (sp1 wj _ (t, t + 1)) (fun h => by cases h) (by omega) (by have := HK.out; omega)).mono ?_
                rintro e w7 ⟨rfl, b7⟩
                rw [norm_one]
                have B7 := Lib.hid (BJ.out.trans ((b2.trans (b7.mono b2.size)).mono szj))
                clear b2 b7
                cases hcl : clashL 0 [(t, t + 1)] all with
                | none =>
                  obtain rfl : q2 = false := by rw [Q1.out, ← KT.out, hcl]; rfl
                  clear hcl
                  unfold tgV
                  go_wp2_with fail
                  go_roundw
                  case rel => exact ⟨t + 1, rfl, by omega, by omega, B7.out.alloc B7.out.size _⟩
                  case measure => simp [intOf]; omega
                | some z =>
                  obtain rfl : q2 = true := by rw [Q1.out, ← KT.out, hcl]; rfl
                  clear hcl
                  unfold tgV
                  go_wp2_with fail
                  go_roundw
                  case rel => exact ⟨t + 1, rfl, by omega, by omega, B7.out.alloc B7.out.size _⟩
                  case measure => simp [intOf]; omega
      · have s5 : decide (t < hi) = false := decide_eq_false hlt
        have BX := Lib.hid (B24.out.trans (BO.out.mono B24.out.size))
        go_wp2_with fail
        go_loopw [17] (fun i wr => ∃ j : Nat, i = .int .i64 j ∧ j ≤ m ∧ Below wo.heap.size wo wr) (fun i _ => m - (intOf i).toNat)
        case atStart => exact ⟨0, rfl, Nat.zero_le _, Below.refl _ _⟩
        case round =>
          obtain ⟨wi, rfl⟩ : ∃ wi : World, wi = wr := ⟨_, rfl⟩
          obtain ⟨j, rfl, hj, hI⟩ := hrel
          by_cases hlj : j < m
          · obtain ⟨b1, o1, rfl, hl1, hc1⟩ := PO.out.2 (by omega)
            obtain ⟨c0, c1⟩ := hc1 j hlj
            replace c0 := (hI.cell (p := ⟨b1, _, none⟩) hl1).trans c0
            replace c1 := (hI.cell (p := ⟨b1, _, none⟩) hl1).trans c1
            have i5 : (j : Int) < m := by omega
            have s6 : decide ((j : Int) < m) = true := decide_eq_true (by omega)
            have s66 : decide (j < m) = true := decide_eq_true hlj
            have W2 : IntKind.i64.wrap ((j : Int) + 1) = (j : Int) + 1 := IntWalk.i64_in _ (by omega)
            obtain ⟨x1, x2, x3⟩ := CW.out (gt cs j) (gt_mem (by rw [HM.out]; exact hlj))
            rcases Nat.eq_zero_or_pos j with rfl | tp
            · clear hc1
              simp only [Nat.zero_mul, Nat.add_zero] at c0 c1
              generalize gt cs 0 = x at *
              have s7 : decide (x.1 < lo) = false := decide_eq_false (by omega)
              have s8 : decide (hi < x.2) = false := decide_eq_false (by omega)
              go_wp2
              go_big_quiet (fail)
              go_wp2
              go_roundw
              case rel => exact ⟨1, rfl, by omega, hI.trans (below_drewN _ _ _)⟩
              case measure => simp [intOf]; omega
            · obtain ⟨t0, ht0⟩ : ∃ t', j = t' + 1 := ⟨j - 1, by omega⟩
              obtain ⟨d0, d1⟩ := hc1 t0 (by omega)
              replace d1 := (hI.cell (p := ⟨b1, _, none⟩) hl1).trans d1
              have xp := pair_gt CN.out (t := t0) (by rw [← ht0, HM.out]; exact hlj)
              rw [← ht0] at xp
              have W3 : IntKind.i64.wrap ((j : Int) - 1) = (t0 : Int) := by rw [show (j : Int) - 1 = (t0 : Int) from by omega]; exact IntWalk.i64_in _ (by omega)
              have j1 : (t0 : Int) < m := by omega
              have j4 : t0 < m := by omega
              have j5 : decide ((0 : Int) < (j : Int)) = true := decide_eq_true (by omega)
              have j6 : decide (0 < j) = true := decide_eq_true (by omega)
              have HT := Lib.hid ht0
              clear hc1 d0 ht0
              generalize gt cs j = x at *
              generalize gt cs t0 = y at *
              have s7 : decide (x.1 < lo) = false := decide_eq_false (by omega)
              have s8 : decide (hi < x.2) = false := decide_eq_false (by omega)
              have s9 : decide (x.1 ≤ y.2) = false := decide_eq_false (by omega)
              go_wp2
              go_big_quiet (fail)
              go_wp2
              go_roundw
              case rel => exact ⟨j + 1, by go_num, by omega, hI.trans (below_drewN _ _ _)⟩
              case measure => simp [intOf]; omega
          · obtain rfl : m = j := by omega
            have s6 : decide ((m : Int) < m) = false := decide_eq_false (by omega)
            have s66 : decide (m < m) = false := decide_eq_false (by omega)
            have BY := Lib.hid (BX.out.trans (hI.mono BX.out.size))
            clear hI
            go_wp2_with fail
            refine (firstV _).mono ?_
            rintro e w12 ⟨rfl, b12⟩
            have B12 := Lib.hid (BY.out.trans (b12.mono BY.out.size))
            clear b12
            go_wp2_with fail
            go_ret
            exact ⟨rfl, B12.out⟩
  · have B2 := Lib.hid (B1.out.trans (b2.mono B1.out.size))
    clear b2
    go_wp2_with fail
    refine (firstV _).mono ?_
    rintro e w5 ⟨rfl, b5⟩
    have B5 := Lib.hid (B2.out.trans (b5.mono B2.out.size))
    clear b5
    go_wp2_with fail
    go_ret
    exact ⟨rfl, B5.out⟩
end Go.Proofs.Ythekhcmmhhninaa.Iv
