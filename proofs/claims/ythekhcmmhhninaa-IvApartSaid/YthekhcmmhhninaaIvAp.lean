/- The walk of voklaw10.IvApart. -/
import Derived.Test.YthekhcmmhhninaaIvPl
import Derived.Test.YthekhcmmhhninaaIvFi
set_option linter.unusedVariables false
namespace Go.Proofs.Ythekhcmmhhninaa.Iv
open Go.RowKit

theorem pair_at {α : Type} [Inhabited α] {R : α → α → Prop} {l : List α} (h : l.Pairwise R) {i j : Nat} (hij : i < j) (hj : j < l.length) : R (gt l i) (gt l j) := by
  rw [gt_lt hj, gt_lt (by omega)]
  exact List.pairwise_iff_getElem.1 h i j (by omega) hj hij
set_option maxRecDepth 100000 in
set_option maxHeartbeats 8000000 in
theorem apart_walk (w : World) (A : Option Addr) (n c : Nat) (ops : List OpR) (hA : OpAt w A n ops) (hm : n ≤ 9223372036854775807) :
    Calls Try.prog 5 #[.slice A n c] w fun e w' => e = .returned (.bool true) ∧ Below w.heap.size w w' := by
  have HA := Lib.hid hA
  clear hA
  go_enter Try.func5, Try.ntmps5
  go_wp2_with fail
  refine (firstV _).mono ?_
  rintro e w1 ⟨rfl, b1⟩
  have B1 := Lib.hid b1
  clear b1
  go_wp2_with fail
  refine (played_is w1 A n c ops (HA.out.below B1.out) hm).mono ?_
  rintro e w2 ⟨b2, ⟨hf, p, rfl, hp, S2, l1, l2⟩ | ⟨hf, rfl⟩⟩
  · have B2 := Lib.hid (B1.out.trans (b2.mono B1.out.size))
    have S2H := Lib.hid S2
    generalize (playN ops ops.length).1 = all at *
    generalize (playN ops ops.length).2 = ow at *
    clear hf S2 b2 B1
    go_wp2_with fail
    refine (list_is w2 p all ow S2H.out (by omega)).mono ?_
    rintro e w3 ⟨A3, c3, rfl, T3, -, -, b3⟩
    have OK := Lib.hid S2H.out.ok
    have T3H := Lib.hid T3
    have B3 := Lib.hid (B2.out.trans (b3.mono B2.out.size))
    clear T3 b3 B2 S2H
    generalize hk : all.length = k at *
    have HK := Lib.hid hk
    clear hk
    go_wp2_with fail
    go_loopw [5] (fun i wr => ∃ t : Nat, i = .int .i64 t ∧ t ≤ k ∧ Below w3.heap.size w3 wr) (fun i _ => k - (intOf i).toNat)
    case atStart => exact ⟨0, rfl, Nat.zero_le _, Below.refl _ _⟩
    case round =>
      obtain ⟨wo, rfl⟩ : ∃ wo : World, wo = wr := ⟨_, rfl⟩
      obtain ⟨t, rfl, ht, hB⟩ := hrel
      by_cases hlt : t < k
      · obtain ⟨b1, o1, rfl, hl1, hc1⟩ := T3H.out.2 (by omega)
        obtain ⟨c0, c1, c2⟩ := hc1 t hlt
        replace c0 := (hB.cell (p := ⟨b1, _, none⟩) hl1).trans c0
        replace c1 := (hB.cell (p := ⟨b1, _, none⟩) hl1).trans c1
        replace c2 := (hB.cell (p := ⟨b1, _, none⟩) hl1).trans c2
        have gm : gt all t ∈ all := gt_mem (by rw [HK.out]; exact hlt)
        have f1 := OK.out.some_ _ gm
        have f2 := OK.out.low _ gm
        have i5 : (t : Int) < k := by omega
        have s0 : decide ((t : Int) < k) = true := decide_eq_true (by omega)
        have s00 : decide (t < k) = true := decide_eq_true hlt
        have W2 : IntKind.i64.wrap ((t : Int) + 1) = (t : Int) + 1 := IntWalk.i64_in _ (by omega)
        rcases Nat.eq_zero_or_pos t with rfl | tp
        · clear hc1 gm
          simp only [Nat.zero_mul, Nat.add_zero] at c0 c1 c2
          generalize gt all 0 = x at *
          have s5 : decide (x.1.2 ≤ x.1.1) = false := decide_eq_false (by omega)
          have s6 : decide (x.2 < 1) = false := decide_eq_false (by omega)
          go_wp2
          refine wp_region_quiet_lit (by kernel_rfl) (by kernel_rfl) ?_
          simp only [List.append]
          repeat (go_big_quiet_step (fail))
          refine wpQuiet_nil ?_
          intro _ hw'
          obtain ⟨nq, hw''⟩ := hw'
          subst hw''
          go_wp2
          go_roundw
          case rel => exact ⟨1, rfl, by omega, hB.trans (below_drewN _ _ _)⟩
          case measure => simp [intOf]; omega
        · obtain ⟨t0, ht0⟩ : ∃ t', t = t' + 1 := ⟨t - 1, by omega⟩
          obtain ⟨d0, d1, d2⟩ := hc1 t0 (by omega)
          replace d1 := (hB.cell (p := ⟨b1, _, none⟩) hl1).trans d1
          replace d2 := (hB.cell (p := ⟨b1, _, none⟩) hl1).trans d2
          have f3 := pair_at OK.out.apart (i := t0) (j := t) (by omega) (by rw [HK.out]; exact hlt)
          have f4 := pair_at OK.out.same (i := t0) (j := t) (by omega) (by rw [HK.out]; exact hlt)
          have W3 : IntKind.i64.wrap ((t : Int) - 1) = (t0 : Int) := by rw [show (t : Int) - 1 = (t0 : Int) from by omega]; exact IntWalk.i64_in _ (by omega)
          have j1 : (t0 : Int) < k := by omega
          have j4 : t0 < k := by omega
          have j5 : decide ((0 : Int) < (t : Int)) = true := decide_eq_true (by omega)
          have j6 : decide (0 < t) = true := decide_eq_true (by omega)
          have HT := Lib.hid ht0
          clear hc1 gm d0 ht0
          generalize gt all t = x at *
          generalize gt all t0 = y at *
          have s5 : decide (x.1.2 ≤ x.1.1) = false := decide_eq_false (by omega)
          have s6 : decide (x.2 < 1) = false := decide_eq_false (by omega)
          have s7 : decide (x.1.1 < y.1.2) = false := decide_eq_false (by omega)
          by_cases ho : x.2 = y.2
          · have s8 : ((x.2 : Int) == y.2) = true := by rw [beq_iff_eq]; exact ho
            have f5 := f4 ho.symm
            have s9 : ((x.1.1 : Int) == y.1.2) = false := by rw [beq_eq_false_iff_ne]; omega
            generalize x.2 = x2 at *
            generalize y.2 = y2 at *
            clear ho f4
            go_wp2
            refine wp_region_quiet_lit (by kernel_rfl) (by kernel_rfl) ?_
            simp only [List.append]
            repeat (go_big_quiet_step (fail))
            refine wpQuiet_nil ?_
            intro _ hw'
            obtain ⟨nq, hw''⟩ := hw'
            subst hw''
            go_wp2
            go_roundw
            case rel => exact ⟨t + 1, by go_num, by omega, hB.trans (below_drewN _ _ _)⟩
            case measure => simp [intOf]; omega
          · have s8 : ((x.2 : Int) == y.2) = false := by rw [beq_eq_false_iff_ne]; exact ho
            clear ho f4
            go_wp2
            refine wp_region_quiet_lit (by kernel_rfl) (by kernel_rfl) ?_
            simp only [List.append]
            repeat (go_big_quiet_step (fail))
            refine wpQuiet_nil ?_
            intro _ hw'
            obtain ⟨nq, hw''⟩ := hw'
            subst hw''
            go_wp2
            go_roundw
            case rel => exact ⟨t + 1, by go_num, by omega, hB.trans (below_drewN _ _ _)⟩
            case measure => simp [intOf]; omega
      · obtain rfl : k = t := by omega
        have s0 : decide ((k : Int) < k) = false := decide_eq_false (by omega)
        have s00 : decide (k < k) = false := decide_eq_false (by omega)
        have BB := Lib.hid (B3.out.trans (hB.mono B3.out.size))
        clear hB
        go_wp2_with fail
        refine (firstV _).mono ?_
        rintro e w5 ⟨rfl, b5⟩
        have B5 := Lib.hid (BB.out.trans (b5.mono BB.out.size))
        clear b5
        go_wp2_with fail
        go_ret
        exact ⟨rfl, B5.out⟩
  · have B2 := Lib.hid (B1.out.trans (b2.mono B1.out.size))
    clear b2
    go_wp2_with fail
    refine (firstV _).mono ?_
    rintro e w5 ⟨rfl, b5⟩
    have B5 := Lib.hid (B2.out.trans (b5.mono B2.out.size))
    clear b5
    go_wp2_with fail
    go_ret
    exact ⟨rfl, B5.out⟩
end Go.Proofs.Ythekhcmmhhninaa.Iv
