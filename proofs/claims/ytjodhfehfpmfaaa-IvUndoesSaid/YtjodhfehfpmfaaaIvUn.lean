/- The walk of voklaw10.IvUndoes. -/
import Derived.Test.YtjodhfehfpmfaaaIvPl
import Derived.Test.YtjodhfehfpmfaaaIvFi
import Derived.Test.YtjodhfehfpmfaaaIvHas
import Derived.Test.YtjodhfehfpmfaaaIvOp
set_option linter.unusedVariables false
namespace Go.Proofs.Ytjodhfehfpmfaaa.Iv
open Go.RowKit

set_option maxRecDepth 100000 in
set_option maxHeartbeats 8000000 in
theorem undoes_walk (w : World) (A : Option Addr) (n c : Nat) (ops : List OpR) (A2 : Option Addr) (n2 c2 : Nat) (more : List (Int × Int)) (owner : Int) (hA : OpAt w A n ops) (hm : n ≤ 9223372036854775807) (hB : SpAt w A2 n2 more) (hz : A2 = none → n2 = 0) (hm2 : n2 ≤ 9223372036854775807) :
    Calls Try.prog 5 #[.slice A n c, .slice A2 n2 c2, .int .i64 owner] w fun e w' => e = .returned (.bool true) ∧ Below w.heap.size w w' := by
  have HA := Lib.hid hA
  have HB := Lib.hid hB
  have HZ := Lib.hid hz
  clear hA hB hz
  go_enter Try.func5, Try.ntmps5
  go_wp2_with fail
  refine (firstV _).mono ?_
  rintro e w1 ⟨rfl, b1⟩
  have B1 := Lib.hid b1
  clear b1
  go_wp2_with fail
  refine (played_is w1 A n c ops (HA.out.below B1.out) hm).mono ?_
  rintro e w2 ⟨b2, ⟨hf, p, rfl, hp, S2, l1, l2⟩ | ⟨hf, rfl⟩⟩
  · have B2 := Lib.hid (B1.out.trans (b2.mono B1.out.size))
    have S2H := Lib.hid S2
    have sz1 := B1.out.size
    generalize (playN ops ops.length).1 = all at *
    generalize (playN ops ops.length).2 = ow at *
    clear hf S2 b2 B1
    by_cases hb : 3000 < n2
    · have s1 : decide (3000 < n2) = true := decide_eq_true hb
      have s2 : decide ((3000 : Int) < n2) = true := decide_eq_true (by omega)
      go_wp2_with fail
      refine (firstV _).mono ?_
      rintro e w5 ⟨rfl, b5⟩
      have B5 := Lib.hid (B2.out.trans (b5.mono B2.out.size))
      clear b5
      go_wp2_with fail
      go_ret
      exact ⟨rfl, B5.out⟩
    · have s1 : decide (3000 < n2) = false := decide_eq_false hb
      have s2 : decide ((3000 : Int) < n2) = false := decide_eq_false (by omega)
      go_wp2_with fail
      refine (list_is w2 p all ow S2H.out (by omega)).mono ?_
      rintro e w3 ⟨A3, c3, rfl, T3, N3, -, b3⟩
      have B3 := Lib.hid b3
      have T3H := Lib.hid T3
      have N3H := Lib.hid N3
      clear T3 N3 b3
      go_wp2_with fail
      refine (owners_is w3 p all ow (S2H.out.below B3.out) (by omega)).mono ?_
      rintro e w4 ⟨A4, c4, rfl, I4, N4, -, b4⟩
      have B4 := Lib.hid (B3.out.trans (b4.mono B3.out.size))
      have T4 := Lib.hid (T3H.out.below b4)
      have I4H := Lib.hid I4
      have N4H := Lib.hid N4
      have sz3 := B3.out.size
      clear I4 N4 b4 T3H B3
      go_wp2_with fail
      refine (clash_is w4 p all ow A2 n2 c2 more 0 (S2H.out.below B4.out) (HB.out.below (B2.out.trans (B4.out.mono B2.out.size))) HZ.out (by omega) (by omega)).mono ?_
      rintro e w5 ⟨rfl, b5⟩
      have B5 := Lib.hid (B4.out.trans (b5.mono B4.out.size))
      have T5 := Lib.hid (T4.out.below b5)
      have I5 := Lib.hid (I4H.out.below b5)
      have sz4 := B4.out.size
      clear b5 T4 I4H B4
      have OK := Lib.hid S2H.out.ok
      have NS := Lib.hid (norm_is more).norms
      have NL := Lib.hid (norm_len more)
      have HM := Lib.hid HB.out.1
      have sz2 := B2.out.size
      have sz5 := B5.out.size
      have AS := Lib.hid (fun (w6 : World) (b6 : Below w5.heap.size w5 w6) => add_is (F := fun k => (w.heap.size ≤ k ∧ k < w2.heap.size) ∨ w5.heap.size ≤ k) w6 p all ow A2 n2 c2 more owner ((S2H.out.mono fun k h1 h2 => .inl ⟨by omega, h2⟩).below (B5.out.trans (b6.mono sz5))) (fun k h => .inr (Nat.le_trans b6.size h)) (HB.out.below ((B2.out.trans (B5.out.mono sz2)).trans (b6.mono (Nat.le_trans sz2 sz5)))) HZ.out (by omega) (by omega))
      have OFF3 : Hid (Off (fun k => (w.heap.size ≤ k ∧ k < w2.heap.size) ∨ w5.heap.size ≤ k) A3 all.length) := Lib.hid (fun h a e => by
        obtain ⟨b', o', ea, hlt, -⟩ := T5.out.2 h
        obtain ⟨g, eg, hg⟩ := N3H.out h
        rw [eg] at e
        injection e with e
        subst e
        rw [eg] at ea
        injection ea with ea
        injection ea with e1 e2
        subst e1
        simp only
        omega)
      have OFF4 : Hid (Off (fun k => (w.heap.size ≤ k ∧ k < w2.heap.size) ∨ w5.heap.size ≤ k) A4 ow.length) := Lib.hid (fun h a e => by
        obtain ⟨b', o', ea, hlt, -⟩ := I5.out.2 h
        obtain ⟨g, eg, hg⟩ := N4H.out h
        rw [eg] at e
        injection e with e
        subst e
        rw [eg] at ea
        injection ea with ea
        injection ea with e1 e2
        subst e1
        simp only
        omega)
      cases hcl : clashL 0 (normL more) all with
      | some t =>
        have AB := Lib.hid (show addB (normL more) owner all ow = false by unfold addB; rw [hcl]; simp)
        clear hcl
        unfold tgV
        go_wp2_with fail
        have b6 := below_alloc w5 (.cells #[.int .i64 t.1.1, .int .i64 t.1.2, .int .i64 t.2] 42)
        have B6 := Lib.hid b6
        generalize w5.alloc (.cells #[.int .i64 t.1.1, .int .i64 t.1.2, .int .i64 t.2] 42) = w6 at *
        clear b6
        refine (AS.out w6 B6.out).mono ?_
        rintro e w7 ⟨rfl, S7, K7⟩
        rw [AB.out]
        rw [addR_no AB.out] at S7
        have S7H := Lib.hid S7
        have T7 := Lib.hid ((T5.out.below B6.out).kp K7 OFF3.out)
        have I7 := Lib.hid ((I5.out.below B6.out).kp K7 OFF4.out)
        have sz6 := B6.out.size
        have B7 := Lib.hid (((B2.out.trans (B5.out.mono sz2)).trans (B6.out.mono (Nat.le_trans sz2 sz5))).trans (K7.below (Nat.le_trans sz2 (Nat.le_trans sz5 sz6)) fun k h => by omega))
        have sz7 := K7.size
        clear S7 K7 AS T5 I5 OFF3 OFF4 B5 B6
        by_cases o1 : 1 ≤ owner
        · have s3 : decide (1 ≤ owner) = true := decide_eq_true o1
          by_cases o2 : owner ∈ ow
          · have O2 := Lib.hid o2
            clear o2
            go_wp2_with fail
            refine (has_any w7 A4 ow.length c4 ow owner I7.out (by omega)).mono ?_
            rintro e w8 ⟨rfl, b8⟩
            rw [decide_eq_true O2.out]
            have S9 : Hid (∃ o, SetIn _ w8 p all o) := Lib.hid ⟨_, S7H.out.below b8⟩
            have T9 := Lib.hid (T7.out.below b8)
            have B9 := Lib.hid (B7.out.trans (b8.mono B7.out.size))
            obtain ⟨w9, rfl⟩ : ∃ w9 : World, w9 = w8 := ⟨_, rfl⟩
            clear b8 S7H T7 I7 B7
            go_wp2_with fail
            (obtain ⟨ow9, S9'⟩ := S9.out
             refine (list_is w9 p all ow9 S9' (by omega)).mono ?_
             clear S9'
             rintro e w10 ⟨A10, c10, rfl, T10, -, -, b10⟩
             have B10 := Lib.hid (B9.out.trans (b10.mono B9.out.size))
             have T9' := Lib.hid (T9.out.below b10)
             have T10' := Lib.hid T10
             clear T10 b10 B9 T9 S9
             generalize all.length = k at *
             go_wp2_with fail
             go_loopw [14] (fun i wr => ∃ t : Nat, i = .int .i64 t ∧ t ≤ k ∧ Below w10.heap.size w10 wr) (fun i _ => k - (intOf i).toNat)
             case atStart => exact ⟨0, rfl, Nat.zero_le _, Below.refl _ _⟩
             case round =>
               obtain ⟨wo, rfl⟩ : ∃ wo : World, wo = wr := ⟨_, rfl⟩
               obtain ⟨t, rfl, ht, hB⟩ := hrel
               by_cases hlt : t < k
               · obtain ⟨b1, o1, rfl, hl1, hc1⟩ := T9'.out.2 (by omega)
                 obtain ⟨b2, o2, rfl, hl2, hc2⟩ := T10'.out.2 (by omega)
                 obtain ⟨c0, c1, c2⟩ := hc1 t hlt
                 obtain ⟨d0, d1, d2⟩ := hc2 t hlt
                 replace c0 := (hB.cell (p := ⟨b1, _, none⟩) hl1).trans c0
                 replace c1 := (hB.cell (p := ⟨b1, _, none⟩) hl1).trans c1
                 replace c2 := (hB.cell (p := ⟨b1, _, none⟩) hl1).trans c2
                 replace d0 := (hB.cell (p := ⟨b2, _, none⟩) hl2).trans d0
                 replace d1 := (hB.cell (p := ⟨b2, _, none⟩) hl2).trans d1
                 replace d2 := (hB.cell (p := ⟨b2, _, none⟩) hl2).trans d2
                 clear hc1 hc2
                 generalize gt all t = x at *
                 have i5 : (t : Int) < k := by omega
                 have s0 : decide ((t : Int) < k) = true := decide_eq_true (by omega)
                 have s00 : decide (t < k) = true := decide_eq_true hlt
                 have W2 : IntKind.i64.wrap ((t : Int) + 1) = (t : Int) + 1 := IntWalk.i64_in _ (by omega)
                 go_wp2
                 go_big_quiet (fail)
                 go_wp2
                 go_roundw
                 case rel => exact ⟨t + 1, by go_num, by omega, hB.trans (below_drewN _ _ _)⟩
                 case measure => simp [intOf]; omega
               · obtain rfl : k = t := by omega
                 have s0 : decide ((k : Int) < k) = false := decide_eq_false (by omega)
                 have s00 : decide (k < k) = false := decide_eq_false (by omega)
                 have BB := Lib.hid (B10.out.trans (hB.mono B10.out.size))
                 clear hB
                 go_wp2_with fail
                 refine (firstV _).mono ?_
                 rintro e w12 ⟨rfl, b12⟩
                 have B12 := Lib.hid (BB.out.trans (b12.mono BB.out.size))
                 clear b12
                 go_wp2_with fail
                 go_ret
                 exact ⟨rfl, B12.out⟩)
          · have O2 := Lib.hid o2
            clear o2
            go_wp2_with fail
            refine (has_any w7 A4 ow.length c4 ow owner I7.out (by omega)).mono ?_
            rintro e w8 ⟨rfl, b8⟩
            rw [decide_eq_false O2.out]
            have S9 : Hid (∃ o, SetIn _ w8 p all o) := Lib.hid ⟨_, S7H.out.below b8⟩
            have T9 := Lib.hid (T7.out.below b8)
            have B9 := Lib.hid (B7.out.trans (b8.mono B7.out.size))
            obtain ⟨w9, rfl⟩ : ∃ w9 : World, w9 = w8 := ⟨_, rfl⟩
            clear b8 S7H T7 I7 B7
            go_wp2_with fail
            (obtain ⟨ow9, S9'⟩ := S9.out
             refine (list_is w9 p all ow9 S9' (by omega)).mono ?_
             clear S9'
             rintro e w10 ⟨A10, c10, rfl, T10, -, -, b10⟩
             have B10 := Lib.hid (B9.out.trans (b10.mono B9.out.size))
             have T9' := Lib.hid (T9.out.below b10)
             have T10' := Lib.hid T10
             clear T10 b10 B9 T9 S9
             generalize all.length = k at *
             go_wp2_with fail
             go_loopw [14] (fun i wr => ∃ t : Nat, i = .int .i64 t ∧ t ≤ k ∧ Below w10.heap.size w10 wr) (fun i _ => k - (intOf i).toNat)
             case atStart => exact ⟨0, rfl, Nat.zero_le _, Below.refl _ _⟩
             case round =>
               obtain ⟨wo, rfl⟩ : ∃ wo : World, wo = wr := ⟨_, rfl⟩
               obtain ⟨t, rfl, ht, hB⟩ := hrel
               by_cases hlt : t < k
               · obtain ⟨b1, o1, rfl, hl1, hc1⟩ := T9'.out.2 (by omega)
                 obtain ⟨b2, o2, rfl, hl2, hc2⟩ := T10'.out.2 (by omega)
                 obtain ⟨c0, c1, c2⟩ := hc1 t hlt
                 obtain ⟨d0, d1, d2⟩ := hc2 t hlt
                 replace c0 := (hB.cell (p := ⟨b1, _, none⟩) hl1).trans c0
                 replace c1 := (hB.cell (p := ⟨b1, _, none⟩) hl1).trans c1
                 replace c2 := (hB.cell (p := ⟨b1, _, none⟩) hl1).trans c2
                 replace d0 := (hB.cell (p := ⟨b2, _, none⟩) hl2).trans d0
                 replace d1 := (hB.cell (p := ⟨b2, _, none⟩) hl2).trans d1
                 replace d2 := (hB.cell (p := ⟨b2, _, none⟩) hl2).trans d2
                 clear hc1 hc2
                 generalize gt all t = x at *
                 have i5 : (t : Int) < k := by omega
                 have s0 : decide ((t : Int) < k) = true := decide_eq_true (by omega)
                 have s00 : decide (t < k) = true := decide_eq_true hlt
                 have W2 : IntKind.i64.wrap ((t : Int) + 1) = (t : Int) + 1 := IntWalk.i64_in _ (by omega)
                 go_wp2
                 go_big_quiet (fail)
                 go_wp2
                 go_roundw
                 case rel => exact ⟨t + 1, by go_num, by omega, hB.trans (below_drewN _ _ _)⟩
                 case measure => simp [intOf]; omega
               · obtain rfl : k = t := by omega
                 have s0 : decide ((k : Int) < k) = false := decide_eq_false (by omega)
                 have s00 : decide (k < k) = false := decide_eq_false (by omega)
                 have BB := Lib.hid (B10.out.trans (hB.mono B10.out.size))
                 clear hB
                 go_wp2_with fail
                 refine (firstV _).mono ?_
                 rintro e w12 ⟨rfl, b12⟩
                 have B12 := Lib.hid (BB.out.trans (b12.mono BB.out.size))
                 clear b12
                 go_wp2_with fail
                 go_ret
                 exact ⟨rfl, B12.out⟩)
        · have s3 : decide (1 ≤ owner) = false := decide_eq_false o1
          have S9 : Hid (∃ o, SetIn _ w7 p all o) := Lib.hid ⟨_, S7H.out⟩
          have T9 := T7
          have B9 := B7
          obtain ⟨w9, rfl⟩ : ∃ w9 : World, w9 = w7 := ⟨_, rfl⟩
          clear S7H T7 I7 B7
          go_wp2_with fail
          (obtain ⟨ow9, S9'⟩ := S9.out
           refine (list_is w9 p all ow9 S9' (by omega)).mono ?_
           clear S9'
           rintro e w10 ⟨A10, c10, rfl, T10, -, -, b10⟩
           have B10 := Lib.hid (B9.out.trans (b10.mono B9.out.size))
           have T9' := Lib.hid (T9.out.below b10)
           have T10' := Lib.hid T10
           clear T10 b10 B9 T9 S9
           generalize all.length = k at *
           go_wp2_with fail
           go_loopw [14] (fun i wr => ∃ t : Nat, i = .int .i64 t ∧ t ≤ k ∧ Below w10.heap.size w10 wr) (fun i _ => k - (intOf i).toNat)
           case atStart => exact ⟨0, rfl, Nat.zero_le _, Below.refl _ _⟩
           case round =>
             obtain ⟨wo, rfl⟩ : ∃ wo : World, wo = wr := ⟨_, rfl⟩
             obtain ⟨t, rfl, ht, hB⟩ := hrel
             by_cases hlt : t < k
             · obtain ⟨b1, o1, rfl, hl1, hc1⟩ := T9'.out.2 (by omega)
               obtain ⟨b2, o2, rfl, hl2, hc2⟩ := T10'.out.2 (by omega)
               obtain ⟨c0, c1, c2⟩ := hc1 t hlt
               obtain ⟨d0, d1, d2⟩ := hc2 t hlt
               replace c0 := (hB.cell (p := ⟨b1, _, none⟩) hl1).trans c0
               replace c1 := (hB.cell (p := ⟨b1, _, none⟩) hl1).trans c1
               replace c2 := (hB.cell (p := ⟨b1, _, none⟩) hl1).trans c2
               replace d0 := (hB.cell (p := ⟨b2, _, none⟩) hl2).trans d0
               replace d1 := (hB.cell (p := ⟨b2, _, none⟩) hl2).trans d1
               replace d2 := (hB.cell (p := ⟨b2, _, none⟩) hl2).trans d2
               clear hc1 hc2
               generalize gt all t = x at *
               have i5 : (t : Int) < k := by omega
               have s0 : decide ((t : Int) < k) = true := decide_eq_true (by omega)
               have s00 : decide (t < k) = true := decide_eq_true hlt
               have W2 : IntKind.i64.wrap ((t : Int) + 1) = (t : Int) + 1 := IntWalk.i64_in _ (by omega)
               go_wp2
               go_big_quiet (fail)
               go_wp2
               go_roundw
               case rel => exact ⟨t + 1, by go_num, by omega, hB.trans (below_drewN _ _ _)⟩
               case measure => simp [intOf]; omega
             · obtain rfl : k = t := by omega
               have s0 : decide ((k : Int) < k) = false := decide_eq_false (by omega)
               have s00 : decide (k < k) = false := decide_eq_false (by omega)
               have BB := Lib.hid (B10.out.trans (hB.mono B10.out.size))
               clear hB
               go_wp2_with fail
               refine (firstV _).mono ?_
               rintro e w12 ⟨rfl, b12⟩
               have B12 := Lib.hid (BB.out.trans (b12.mono BB.out.size))
               clear b12
               go_wp2_with fail
               go_ret
               exact ⟨rfl, B12.out⟩)
      | none =>
        have HCL := Lib.hid hcl
        clear hcl
        unfold tgV
        go_wp2_with fail
        have b6 := below_alloc w5 (.cells #[.int .i64 0, .int .i64 0, .int .i64 0] 42)
        have B6 := Lib.hid b6
        generalize w5.alloc (.cells #[.int .i64 0, .int .i64 0, .int .i64 0] 42) = w6 at *
        clear b6
        refine (AS.out w6 B6.out).mono ?_
        rintro e w7 ⟨rfl, S7, K7⟩
        by_cases o1 : 1 ≤ owner
        · have s3 : decide (1 ≤ owner) = true := decide_eq_true o1
          by_cases o2 : owner ∈ ow
          · have AB := Lib.hid (addB_low (sp := normL more) (all := all) (.inr o2))
            rw [AB.out]
            rw [addR_no AB.out] at S7
            have O2 := Lib.hid o2
            clear o2
            have S7H := Lib.hid S7
            have T7 := Lib.hid ((T5.out.below B6.out).kp K7 OFF3.out)
            have I7 := Lib.hid ((I5.out.below B6.out).kp K7 OFF4.out)
            have sz6 := B6.out.size
            have B7 := Lib.hid (((B2.out.trans (B5.out.mono sz2)).trans (B6.out.mono (Nat.le_trans sz2 sz5))).trans (K7.below (Nat.le_trans sz2 (Nat.le_trans sz5 sz6)) fun k h => by omega))
            have sz7 := K7.size
            clear S7 K7 AS T5 I5 OFF3 OFF4 B5 B6
            go_wp2_with fail
            refine (has_any w7 A4 ow.length c4 ow owner I7.out (by omega)).mono ?_
            rintro e w8 ⟨rfl, b8⟩
            rw [decide_eq_true O2.out]
            have S9 : Hid (∃ o, SetIn _ w8 p all o) := Lib.hid ⟨_, S7H.out.below b8⟩
            have T9 := Lib.hid (T7.out.below b8)
            have B9 := Lib.hid (B7.out.trans (b8.mono B7.out.size))
            obtain ⟨w9, rfl⟩ : ∃ w9 : World, w9 = w8 := ⟨_, rfl⟩
            clear b8 S7H T7 I7 B7
            go_wp2_with fail
            (obtain ⟨ow9, S9'⟩ := S9.out
             refine (list_is w9 p all ow9 S9' (by omega)).mono ?_
             clear S9'
             rintro e w10 ⟨A10, c10, rfl, T10, -, -, b10⟩
             have B10 := Lib.hid (B9.out.trans (b10.mono B9.out.size))
             have T9' := Lib.hid (T9.out.below b10)
             have T10' := Lib.hid T10
             clear T10 b10 B9 T9 S9
             generalize all.length = k at *
             go_wp2_with fail
             go_loopw [14] (fun i wr => ∃ t : Nat, i = .int .i64 t ∧ t ≤ k ∧ Below w10.heap.size w10 wr) (fun i _ => k - (intOf i).toNat)
             case atStart => exact ⟨0, rfl, Nat.zero_le _, Below.refl _ _⟩
             case round =>
               obtain ⟨wo, rfl⟩ : ∃ wo : World, wo = wr := ⟨_, rfl⟩
               obtain ⟨t, rfl, ht, hB⟩ := hrel
               by_cases hlt : t < k
               · obtain ⟨b1, o1, rfl, hl1, hc1⟩ := T9'.out.2 (by omega)
                 obtain ⟨b2, o2, rfl, hl2, hc2⟩ := T10'.out.2 (by omega)
                 obtain ⟨c0, c1, c2⟩ := hc1 t hlt
                 obtain ⟨d0, d1, d2⟩ := hc2 t hlt
                 replace c0 := (hB.cell (p := ⟨b1, _, none⟩) hl1).trans c0
                 replace c1 := (hB.cell (p := ⟨b1, _, none⟩) hl1).trans c1
                 replace c2 := (hB.cell (p := ⟨b1, _, none⟩) hl1).trans c2
                 replace d0 := (hB.cell (p := ⟨b2, _, none⟩) hl2).trans d0
                 replace d1 := (hB.cell (p := ⟨b2, _, none⟩) hl2).trans d1
                 replace d2 := (hB.cell (p := ⟨b2, _, none⟩) hl2).trans d2
                 clear hc1 hc2
                 generalize gt all t = x at *
                 have i5 : (t : Int) < k := by omega
                 have s0 : decide ((t : Int) < k) = true := decide_eq_true (by omega)
                 have s00 : decide (t < k) = true := decide_eq_true hlt
                 have W2 : IntKind.i64.wrap ((t : Int) + 1) = (t : Int) + 1 := IntWalk.i64_in _ (by omega)
                 go_wp2
                 go_big_quiet (fail)
                 go_wp2
                 go_roundw
                 case rel => exact ⟨t + 1, by go_num, by omega, hB.trans (below_drewN _ _ _)⟩
                 case measure => simp [intOf]; omega
               · obtain rfl : k = t := by omega
                 have s0 : decide ((k : Int) < k) = false := decide_eq_false (by omega)
                 have s00 : decide (k < k) = false := decide_eq_false (by omega)
                 have BB := Lib.hid (B10.out.trans (hB.mono B10.out.size))
                 clear hB
                 go_wp2_with fail
                 refine (firstV _).mono ?_
                 rintro e w12 ⟨rfl, b12⟩
                 have B12 := Lib.hid (BB.out.trans (b12.mono BB.out.size))
                 clear b12
                 go_wp2_with fail
                 go_ret
                 exact ⟨rfl, B12.out⟩)
          · have AB := Lib.hid (show addB (normL more) owner all ow = true by unfold addB; rw [HCL.out, decide_eq_true o1, decide_eq_true o2]; rfl)
            rw [AB.out]
            rw [addR_yes AB.out] at S7
            have S7H := Lib.hid S7
            have T7 := Lib.hid ((T5.out.below B6.out).kp K7 OFF3.out)
            have I7 := Lib.hid ((I5.out.below B6.out).kp K7 OFF4.out)
            have sz6 := B6.out.size
            have B7 := Lib.hid (((B2.out.trans (B5.out.mono sz2)).trans (B6.out.mono (Nat.le_trans sz2 sz5))).trans (K7.below (Nat.le_trans sz2 (Nat.le_trans sz5 sz6)) fun k h => by omega))
            have sz7 := K7.size
            clear S7 K7 AS T5 I5 B5 B6
            go_wp2_with fail
            refine (has_any w7 A4 ow.length c4 ow owner I7.out (by omega)).mono ?_
            rintro e w8 ⟨rfl, b8⟩
            rw [decide_eq_false o2]
            have S8 := Lib.hid (S7H.out.below b8)
            have sz8 := b8.size
            have T8 := Lib.hid (T7.out.below b8)
            have B8 := Lib.hid (B7.out.trans (b8.mono B7.out.size))
            have LA := Lib.hid (add_len (normL more) owner all)
            have LO := Lib.hid (addO_len (normL more) owner ow)
            have FR := Lib.hid (free_of OK.out HCL.out)
            clear b8 S7H T7 I7 B7
            go_wp2_with fail
            refine (rem_is (F := fun k => (w.heap.size ≤ k ∧ k < w2.heap.size) ∨ w5.heap.size ≤ k) w8 p (addL (normL more) owner all) (addO (normL more) owner ow) owner S8.out (fun k h => .inr (by omega)) (by have := LA.out; have := NL.out; have := HM.out; omega) (by have := LO.out; omega)).mono ?_
            rintro e w9 ⟨rfl, S9', K9⟩
            rw [rem_add OK.out NS.out FR.out o2] at S9'
            rw [had_add OK.out NS.out FR.out o2]
            have S9 : Hid (∃ o, SetIn _ w9 p all o) := Lib.hid ⟨_, S9'⟩
            have T9 := Lib.hid (T8.out.kp K9 OFF3.out)
            have B9 := Lib.hid (B8.out.trans (K9.below (by omega) fun k h => by omega))
            clear S9' K9 T8 B8 S8 OFF3 OFF4
            go_wp2_with fail
            refine (norm_any w9 A2 n2 c2 more (HB.out.below B9.out) HZ.out (by omega)).mono ?_
            rintro e w10 ⟨A10, c10, rfl, -, -, -, b10⟩
            have S9 : Hid (∃ o, SetIn _ w10 p all o) := Lib.hid (by obtain ⟨o, h⟩ := S9.out; exact ⟨o, h.below b10⟩)
            have T9 := Lib.hid (T9.out.below b10)
            have B9 := Lib.hid (B9.out.trans (b10.mono B9.out.size))
            clear b10
            obtain ⟨w9, rfl⟩ : ∃ w9 : World, w9 = w10 := ⟨_, rfl⟩
            generalize (normL more).length = nm at *
            go_wp2_with fail
            (obtain ⟨ow9, S9'⟩ := S9.out
             refine (list_is w9 p all ow9 S9' (by omega)).mono ?_
             clear S9'
             rintro e w10 ⟨A10, c10, rfl, T10, -, -, b10⟩
             have B10 := Lib.hid (B9.out.trans (b10.mono B9.out.size))
             have T9' := Lib.hid (T9.out.below b10)
             have T10' := Lib.hid T10
             clear T10 b10 B9 T9 S9
             generalize all.length = k at *
             go_wp2_with fail
             go_loopw [14] (fun i wr => ∃ t : Nat, i = .int .i64 t ∧ t ≤ k ∧ Below w10.heap.size w10 wr) (fun i _ => k - (intOf i).toNat)
             case atStart => exact ⟨0, rfl, Nat.zero_le _, Below.refl _ _⟩
             case round =>
               obtain ⟨wo, rfl⟩ : ∃ wo : World, wo = wr := ⟨_, rfl⟩
               obtain ⟨t, rfl, ht, hB⟩ := hrel
               by_cases hlt : t < k
               · obtain ⟨b1, o1, rfl, hl1, hc1⟩ := T9'.out.2 (by omega)
                 obtain ⟨b2, o2, rfl, hl2, hc2⟩ := T10'.out.2 (by omega)
                 obtain ⟨c0, c1, c2⟩ := hc1 t hlt
                 obtain ⟨d0, d1, d2⟩ := hc2 t hlt
                 replace c0 := (hB.cell (p := ⟨b1, _, none⟩) hl1).trans c0
                 replace c1 := (hB.cell (p := ⟨b1, _, none⟩) hl1).trans c1
                 replace c2 := (hB.cell (p := ⟨b1, _, none⟩) hl1).trans c2
                 replace d0 := (hB.cell (p := ⟨b2, _, none⟩) hl2).trans d0
                 replace d1 := (hB.cell (p := ⟨b2, _, none⟩) hl2).trans d1
                 replace d2 := (hB.cell (p := ⟨b2, _, none⟩) hl2).trans d2
                 clear hc1 hc2
                 generalize gt all t = x at *
                 have i5 : (t : Int) < k := by omega
                 have s0 : decide ((t : Int) < k) = true := decide_eq_true (by omega)
                 have s00 : decide (t < k) = true := decide_eq_true hlt
                 have W2 : IntKind.i64.wrap ((t : Int) + 1) = (t : Int) + 1 := IntWalk.i64_in _ (by omega)
                 go_wp2
                 go_big_quiet (fail)
                 go_wp2
                 go_roundw
                 case rel => exact ⟨t + 1, by go_num, by omega, hB.trans (below_drewN _ _ _)⟩
                 case measure => simp [intOf]; omega
               · obtain rfl : k = t := by omega
                 have s0 : decide ((k : Int) < k) = false := decide_eq_false (by omega)
                 have s00 : decide (k < k) = false := decide_eq_false (by omega)
                 have BB := Lib.hid (B10.out.trans (hB.mono B10.out.size))
                 clear hB
                 go_wp2_with fail
                 refine (firstV _).mono ?_
                 rintro e w12 ⟨rfl, b12⟩
                 have B12 := Lib.hid (BB.out.trans (b12.mono BB.out.size))
                 clear b12
                 go_wp2_with fail
                 go_ret
                 exact ⟨rfl, B12.out⟩)
        · have AB := Lib.hid (addB_low (sp := normL more) (all := all) (ow := ow) (.inl o1))
          rw [AB.out]
          rw [addR_no AB.out] at S7
          have s3 : decide (1 ≤ owner) = false := decide_eq_false o1
          have S7H := Lib.hid S7
          have T7 := Lib.hid ((T5.out.below B6.out).kp K7 OFF3.out)
          have I7 := Lib.hid ((I5.out.below B6.out).kp K7 OFF4.out)
          have sz6 := B6.out.size
          have B7 := Lib.hid (((B2.out.trans (B5.out.mono sz2)).trans (B6.out.mono (Nat.le_trans sz2 sz5))).trans (K7.below (Nat.le_trans sz2 (Nat.le_trans sz5 sz6)) fun k h => by omega))
          have sz7 := K7.size
          clear S7 K7 AS T5 I5 OFF3 OFF4 B5 B6
          have S9 : Hid (∃ o, SetIn _ w7 p all o) := Lib.hid ⟨_, S7H.out⟩
          have T9 := T7
          have B9 := B7
          obtain ⟨w9, rfl⟩ : ∃ w9 : World, w9 = w7 := ⟨_, rfl⟩
          clear S7H T7 I7 B7
          go_wp2_with fail
          (obtain ⟨ow9, S9'⟩ := S9.out
           refine (list_is w9 p all ow9 S9' (by omega)).mono ?_
           clear S9'
           rintro e w10 ⟨A10, c10, rfl, T10, -, -, b10⟩
           have B10 := Lib.hid (B9.out.trans (b10.mono B9.out.size))
           have T9' := Lib.hid (T9.out.below b10)
           have T10' := Lib.hid T10
           clear T10 b10 B9 T9 S9
           generalize all.length = k at *
           go_wp2_with fail
           go_loopw [14] (fun i wr => ∃ t : Nat, i = .int .i64 t ∧ t ≤ k ∧ Below w10.heap.size w10 wr) (fun i _ => k - (intOf i).toNat)
           case atStart => exact ⟨0, rfl, Nat.zero_le _, Below.refl _ _⟩
           case round =>
             obtain ⟨wo, rfl⟩ : ∃ wo : World, wo = wr := ⟨_, rfl⟩
             obtain ⟨t, rfl, ht, hB⟩ := hrel
             by_cases hlt : t < k
             · obtain ⟨b1, o1, rfl, hl1, hc1⟩ := T9'.out.2 (by omega)
               obtain ⟨b2, o2, rfl, hl2, hc2⟩ := T10'.out.2 (by omega)
               obtain ⟨c0, c1, c2⟩ := hc1 t hlt
               obtain ⟨d0, d1, d2⟩ := hc2 t hlt
               replace c0 := (hB.cell (p := ⟨b1, _, none⟩) hl1).trans c0
               replace c1 := (hB.cell (p := ⟨b1, _, none⟩) hl1).trans c1
               replace c2 := (hB.cell (p := ⟨b1, _, none⟩) hl1).trans c2
               replace d0 := (hB.cell (p := ⟨b2, _, none⟩) hl2).trans d0
               replace d1 := (hB.cell (p := ⟨b2, _, none⟩) hl2).trans d1
               replace d2 := (hB.cell (p := ⟨b2, _, none⟩) hl2).trans d2
               clear hc1 hc2
               generalize gt all t = x at *
               have i5 : (t : Int) < k := by omega
               have s0 : decide ((t : Int) < k) = true := decide_eq_true (by omega)
               have s00 : decide (t < k) = true := decide_eq_true hlt
               have W2 : IntKind.i64.wrap ((t : Int) + 1) = (t : Int) + 1 := IntWalk.i64_in _ (by omega)
               go_wp2
               go_big_quiet (fail)
               go_wp2
               go_roundw
               case rel => exact ⟨t + 1, by go_num, by omega, hB.trans (below_drewN _ _ _)⟩
               case measure => simp [intOf]; omega
             · obtain rfl : k = t := by omega
               have s0 : decide ((k : Int) < k) = false := decide_eq_false (by omega)
               have s00 : decide (k < k) = false := decide_eq_false (by omega)
               have BB := Lib.hid (B10.out.trans (hB.mono B10.out.size))
               clear hB
               go_wp2_with fail
               refine (firstV _).mono ?_
               rintro e w12 ⟨rfl, b12⟩
               have B12 := Lib.hid (BB.out.trans (b12.mono BB.out.size))
               clear b12
               go_wp2_with fail
               go_ret
               exact ⟨rfl, B12.out⟩)
  · have B2 := Lib.hid (B1.out.trans (b2.mono B1.out.size))
    clear b2
    go_wp2_with fail
    refine (firstV _).mono ?_
    rintro e w5 ⟨rfl, b5⟩
    have B5 := Lib.hid (B2.out.trans (b5.mono B2.out.size))
    clear b5
    go_wp2_with fail
    go_ret
    exact ⟨rfl, B5.out⟩
end Go.Proofs.Ytjodhfehfpmfaaa.Iv
