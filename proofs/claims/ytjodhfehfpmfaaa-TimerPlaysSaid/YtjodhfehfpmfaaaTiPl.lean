/- The walk of voklaw11.TimerPlays. -/
import Derived.Test.YtjodhfehfpmfaaaTiTw
set_option linter.unusedVariables false
namespace Go.Proofs.Ytjodhfehfpmfaaa.Ti
open Go.RowKit Iv

set_option maxRecDepth 100000 in
set_option maxHeartbeats 16000000 in
theorem tplays_walk (w : World) (A : Option Addr) (n c : Nat) (ops : List Tg) (hA : TgAt w A n ops) (hm : n ≤ 9223372036854775807) :
    Calls Try.prog 6 #[.slice A n c] w fun e w' => e = .returned (.bool true) ∧ Below w.heap.size w w' := by
  have HA := Lib.hid hA
  have LN := Lib.hid hA.1
  clear hA
  go_enter Try.func6, Try.ntmps6
  go_wp2_with fail
  refine (first11 _).mono ?_
  rintro e w0 ⟨rfl, b0⟩
  have B0 := Lib.hid b0
  have sz0 := b0.size
  clear b0
  go_wp2_with fail
  refine (newB w0 w.heap.size sz0).mono ?_
  rintro e w1 ⟨rfl, q1, b1⟩
  generalize w0.heap.size = q at *
  have Q1 := Lib.hid q1
  have B1 := Lib.hid (B0.out.trans (b1.mono sz0))
  clear q1 b1 B0
  by_cases hb : 300 < n
  · have s1 : decide (300 < n) = true := decide_eq_true hb
    have s2 : decide ((300 : Int) < n) = true := decide_eq_true (by omega)
    go_wp2_with fail
    refine (first11 _).mono ?_
    rintro e wz ⟨rfl, bz⟩
    have BZ := Lib.hid (B1.out.trans (bz.mono B1.out.size))
    clear bz
    go_wp2_with fail
    go_ret
    exact ⟨rfl, BZ.out⟩
  have s1 : decide (300 < n) = false := decide_eq_false hb
  have s2 : decide ((300 : Int) < n) = false := decide_eq_false (by omega)
  have T0 := Lib.hid Q1.out
  have T1 := Lib.hid (TwoQ.new Q1.out)
  have B2 := Lib.hid (B1.out.trans ((below_alloc w1 (.cells #[.slice none 0 0] 65)).mono B1.out.size))
  obtain ⟨w2, hw2⟩ : ∃ w2 : World, w2 = w1.alloc (.cells #[.slice none 0 0] 65) := ⟨_, rfl⟩
  rw [← hw2] at T1 B2
  clear T0 Q1 B1
  go_upto_region 7 with fail
  rw [← hw2]
  clear hw2
  generalize w1.heap.size = r at *
  go_wp2_with fail
  go_loopw [3, 5] (fun qv i wr => ∃ (t q : Nat) (L : List It), qv = .pointer (some ⟨q, 0, none⟩) ∧ i = .int .i64 t ∧ t ≤ n ∧ L.length ≤ t ∧ TwoQ wr q r L L w.heap.size ∧ Below w.heap.size w wr) (fun _ i _ => n - (intOf i).toNat)
  case atStart => exact ⟨0, q, [], rfl, rfl, Nat.zero_le _, Nat.le_refl _, T1.out, B2.out⟩
  case round =>
    obtain ⟨wo, rfl⟩ : ∃ wo : World, wo = wr := ⟨_, rfl⟩
    clear T1 B2
    obtain ⟨t, q, L, rfl, rfl, ht, hL, hT, hB⟩ := hrel
    have TO := Lib.hid hT
    have BO := Lib.hid hB
    have LL := Lib.hid hL
    have szo := hB.size
    clear hT hB hL
    by_cases hlt : t < n
    · have s0 : decide ((t : Int) < n) = true := decide_eq_true (by omega)
      have s00 : decide (t < n) = true := decide_eq_true hlt
      have i5 : (t : Int) < n := by omega
      have W1 : IntKind.i64.wrap ((t : Int) + 1) = (t : Int) + 1 := IntWalk.i64_in _ (by omega)
      obtain ⟨bq, oq, rfl, hlq, hcq⟩ := HA.out.2 (by omega)
      obtain ⟨d0, d1, d2⟩ := hcq t (by omega)
      have Z := Lib.hid (show ∀ v, Below w.heap.size w v → v.cell? ⟨bq, oq + t * 3, none⟩ = some (.int .i64 (gt ops t).1.1) ∧ v.cell? ⟨bq, oq + t * 3 + 1, none⟩ = some (.int .i64 (gt ops t).1.2) ∧ v.cell? ⟨bq, oq + t * 3 + 2, none⟩ = some (.int .i64 (gt ops t).2) from fun v hv =>
        ⟨(hv.cell (p := ⟨bq, _, none⟩) hlq).trans d0, (hv.cell (p := ⟨bq, _, none⟩) hlq).trans d1, (hv.cell (p := ⟨bq, _, none⟩) hlq).trans d2⟩)
      clear hcq d0 d1 d2
      generalize (gt ops t).1.1 = kd at *
      generalize (gt ops t).1.2 = va at *
      generalize (gt ops t).2 = vb at *
      obtain ⟨d0, d1, d2⟩ := Z.out wo BO.out
      by_cases h0 : kd = 0
      · have e0 : ((kd : Int) == 0) = true := by rw [beq_iff_eq]; exact h0
        have BD := Lib.hid (BO.out.trans ((Below.refl wo.heap.size wo).drew.mono szo))
        have TD := Lib.hid (TO.out.below ((Below.refl wo.heap.size wo).drew))
        have IL := Lib.hid (ins_len (va, vb) L)
        go_wp2_with fail
        go_still_tail 11, (by kernel_rfl)
        change wpList _ _ _ _ _ wo.drew
        generalize wo.drew = wd at *
        go_wp2_with fail
        refine (pushT TD.out va vb (by have := LL.out; omega)).mono ?_
        rintro e w3 ⟨rfl, t3, b3⟩
        have b3' := BD.out.trans b3
        have BD2 := Lib.hid (b3'.trans ((Below.refl w3.heap.size w3).drew.mono b3'.size))
        have TD2 := Lib.hid (t3.below ((Below.refl w3.heap.size w3).drew))
        obtain ⟨d0', d1', d2'⟩ := Z.out w3 b3'
        clear t3 b3 b3' d0 d1 d2 BD TD
        go_wp2_with fail
        go_still_tail 11, (by kernel_rfl)
        change wpList _ _ _ _ _ w3.drew
        generalize w3.drew = wd2 at *
        go_wp2_with fail
        refine (rpushT TD2.out va vb (by have := LL.out; omega)).mono ?_
        rintro e w4 ⟨rfl, t4, b4, -⟩
        have T4 := Lib.hid t4
        have B4 := Lib.hid (BD2.out.trans b4)
        clear t4 b4 TD2 BD2
        (go_wp2_with fail
         refine (sameT T4.out (by have := LL.out; have := IL.out; omega)).mono ?_
         rintro e w5 ⟨rfl, t5, b5⟩
         have T5 := Lib.hid t5
         have B5 := Lib.hid (B4.out.trans b5)
         clear t5 b5
         go_wp2
         go_roundw
         case rel => exact ⟨t + 1, q, (insL (va, vb) L), rfl, by go_num, by omega, by have := LL.out; have := IL.out; omega, T5.out, B5.out⟩
         case measure => simp [intOf]; omega)
      · have e0 : ((kd : Int) == 0) = false := by rw [beq_eq_false_iff_ne]; exact h0
        by_cases h1 : kd = 1
        · have e1 : ((kd : Int) == 1) = true := by rw [beq_iff_eq]; exact h1
          have IL := Lib.hid (popL_len va L)
          obtain ⟨xa, xb, bb, hf⟩ := pop_form va L
          have HV := Lib.hid hf
          clear hf
          go_wp2_with fail
          refine (popT TO.out va (by have := LL.out; omega)).mono ?_
          rintro e w3 ⟨rfl, t3, b3⟩
          rw [HV.out]
          have T3 := Lib.hid t3
          have B3 := Lib.hid (BO.out.trans b3)
          have sz3 := B3.out.size
          clear t3 b3
          go_upto_region 22 with fail
          obtain ⟨w6, hw6⟩ : ∃ w6 : World, w6 = w3.alloc (.cells #[.int .i64 xa, .int .i64 xb] 70) := ⟨_, rfl⟩
          have b6 : Below w3.heap.size w3 w6 := hw6 ▸ below_alloc _ _
          have x0 : w6.cell? ⟨w3.heap.size, 0, none⟩ = some (.int .i64 xa) := by rw [hw6]; simp
          have x1 : w6.cell? ⟨w3.heap.size, 1, none⟩ = some (.int .i64 xb) := by rw [hw6]; simp
          have y6 : w3.heap.size < w6.heap.size := by rw [hw6]; simp
          have ny : ¬ w3.heap.size = r := by have := T3.out.lt; omega
          have T6 := Lib.hid (T3.out.below b6)
          have B6 := Lib.hid (B3.out.trans (b6.mono sz3))
          obtain ⟨g0, g1, g2⟩ := Z.out w6 B6.out
          rw [← hw6]
          clear hw6 b6 T3 B3 d0 d1 d2
          generalize w3.heap.size = p at *
          go_wp2_with fail
          refine (rpopT T6.out va (by have := LL.out; omega)).mono ?_
          rintro e w7 ⟨rfl, t7, b7, k7⟩
          rw [HV.out]
          have T7 := Lib.hid t7
          have B7 := Lib.hid (B6.out.trans b7)
          have sz7 := B7.out.size
          replace x0 := (k7.cell (o := 0) y6 ny).trans x0
          replace x1 := (k7.cell (o := 1) y6 ny).trans x1
          have y7 : p < w7.heap.size := Nat.lt_of_lt_of_le y6 k7.size
          clear t7 b7 k7 T6 B6 g0 g1 g2
          go_upto_region 23 with fail
          obtain ⟨w8, hw8⟩ : ∃ w8 : World, w8 = w7.alloc (.cells #[.int .i64 xa, .int .i64 xb] 73) := ⟨_, rfl⟩
          have b8 : Below w7.heap.size w7 w8 := hw8 ▸ below_alloc _ _
          have v0 : w8.cell? ⟨w7.heap.size, 0, none⟩ = some (.int .i64 xa) := by rw [hw8]; simp
          have v1 : w8.cell? ⟨w7.heap.size, 1, none⟩ = some (.int .i64 xb) := by rw [hw8]; simp
          replace x0 := (b8.cell (p := ⟨p, 0, none⟩) y7).trans x0
          replace x1 := (b8.cell (p := ⟨p, 1, none⟩) y7).trans x1
          have T4 := Lib.hid (T7.out.below b8)
          have B4 := Lib.hid (B7.out.trans (b8.mono sz7))
          rw [← hw8]
          clear hw8 b8 T7 B7
          generalize w7.heap.size = p2 at *
          (go_wp2_with fail
           refine (sameT T4.out (by have := LL.out; have := IL.out; omega)).mono ?_
           rintro e w5 ⟨rfl, t5, b5⟩
           have T5 := Lib.hid t5
           have B5 := Lib.hid (B4.out.trans b5)
           clear t5 b5
           go_wp2
           go_roundw
           case rel => exact ⟨t + 1, q, (popL va L), rfl, by go_num, by omega, by have := LL.out; have := IL.out; omega, T5.out, B5.out⟩
           case measure => simp [intOf]; omega)
        · have e1 : ((kd : Int) == 1) = false := by rw [beq_eq_false_iff_ne]; exact h1
          by_cases h2 : kd = 2
          · have e2 : ((kd : Int) == 2) = true := by rw [beq_iff_eq]; exact h2
            have IL := Lib.hid (dropL_len vb L)
            have BD := Lib.hid (BO.out.trans ((Below.refl wo.heap.size wo).drew.mono szo))
            have TD := Lib.hid (TO.out.below ((Below.refl wo.heap.size wo).drew))
            go_upto_region 25 with fail
            refine wp_region_late (fun _ => false) (fun v => Below w.heap.size w v) (by kernel_rfl) ?_
            have D0 : Below w.heap.size w wo.drew := BD.out
            refine tk 0 rfl (.pointer (some ⟨q, 0, none⟩)) (.inl ⟨by kernel_rfl, fun w' hs => ?_⟩) D0 ?_
            · go_simp
            refine tk 1 rfl (.slice (some ⟨bq, oq, none⟩) n c) (.inl ⟨by kernel_rfl, fun w' hs => ?_⟩) D0 ?_
            · go_simp
            refine tk 2 rfl (.int .i64 (t : Nat)) (.inl ⟨by kernel_rfl, fun w' hs => ?_⟩) D0 ?_
            · go_simp
            refine tk 3 rfl (.pointer (some ⟨bq, oq + t * 3, none⟩)) (.inl ⟨by kernel_rfl, fun w' hs => ?_⟩) D0 ?_
            · go_simp
            refine tk 4 rfl (.pointer (some ⟨bq, oq + t * 3 + 2, none⟩)) (.inl ⟨by kernel_rfl, fun w' hs => ?_⟩) D0 ?_
            · go_simp
            refine tk 5 rfl (.int .i64 vb) (.inl ⟨by kernel_rfl, fun w' hs => ?_⟩) D0 ?_
            · obtain ⟨z0, z1, z2⟩ := Z.out _ hs
              go_simp
            refine tk 7 rfl (.pointer (some ⟨r, 0, none⟩)) (.inl ⟨by kernel_rfl, fun w' hs => ?_⟩) D0 ?_
            · go_simp
            refine tk 8 rfl (.slice (some ⟨bq, oq, none⟩) n c) (.inl ⟨by kernel_rfl, fun w' hs => ?_⟩) D0 ?_
            · go_simp
            refine tk 9 rfl (.int .i64 (t : Nat)) (.inl ⟨by kernel_rfl, fun w' hs => ?_⟩) D0 ?_
            · go_simp
            refine tk 10 rfl (.pointer (some ⟨bq, oq + t * 3, none⟩)) (.inl ⟨by kernel_rfl, fun w' hs => ?_⟩) D0 ?_
            · go_simp
            refine tk 11 rfl (.pointer (some ⟨bq, oq + t * 3 + 2, none⟩)) (.inl ⟨by kernel_rfl, fun w' hs => ?_⟩) D0 ?_
            · go_simp
            refine tk 12 rfl (.int .i64 vb) (.inl ⟨by kernel_rfl, fun w' hs => ?_⟩) D0 ?_
            · obtain ⟨z0, z1, z2⟩ := Z.out _ hs
              go_simp
            refine late_oneG 6 rfl (by kernel_rfl) (by kernel_rfl) ?_
            go_simp
            refine (dropT TD.out vb (by have := LL.out; omega)).mono ?_
            rintro e w3 ⟨rfl, t3, b3⟩
            have D3 := D0.trans b3
            (first | refine ⟨D3, ?_⟩ | refine ⟨.inr D3, ?_⟩)
            refine late_oneG 13 rfl (by kernel_rfl) (by kernel_rfl) ?_
            go_simp
            refine (rdropT t3 vb (by have := LL.out; omega)).mono ?_
            rintro e w4 ⟨rfl, t4, b4, -⟩
            have D4 := D3.trans b4
            (first | refine ⟨D4, ?_⟩ | refine ⟨.inr D4, ?_⟩)
            generalize L.length - (dropL vb L).length = nd at *
            refine tk 14 rfl (.bool true) (.inl ⟨by kernel_rfl, fun w' hs => ?_⟩) D4 ?_
            · go_simp
            refine tk 15 rfl (.bool true) (.inl ⟨by kernel_rfl, fun w' hs => ?_⟩) D4 ?_
            · go_simp
            refine Late.done (by kernel_rfl) ?_
            have T4 := Lib.hid t4
            have B4 := Lib.hid D4
            clear t3 t4 b3 b4 D0 D3 D4 d0 d1 d2 BD TD
            (go_wp2_with fail
             refine (sameT T4.out (by have := LL.out; have := IL.out; omega)).mono ?_
             rintro e w5 ⟨rfl, t5, b5⟩
             have T5 := Lib.hid t5
             have B5 := Lib.hid (B4.out.trans b5)
             clear t5 b5
             go_wp2
             go_roundw
             case rel => exact ⟨t + 1, q, (dropL vb L), rfl, by go_num, by omega, by have := LL.out; have := IL.out; omega, T5.out, B5.out⟩
             case measure => simp [intOf]; omega)
          · have e2 : ((kd : Int) == 2) = false := by rw [beq_eq_false_iff_ne]; exact h2
            have IL := Lib.hid (ins_len (-9, 9) L)
            go_wp2_with fail
            refine (copyT TO.out (by have := LL.out; omega)).mono ?_
            rintro e w3 ⟨p, rfl, t3, b3⟩
            have T3 := Lib.hid t3
            have B3 := Lib.hid (BO.out.trans b3)
            clear t3 b3
            go_wp2_with fail
            refine (pushC T3.out (-9) 9 (by have := LL.out; omega)).mono ?_
            rintro e w6 ⟨rfl, t6, b6⟩
            have T6 := Lib.hid t6
            have B6 := Lib.hid (B3.out.trans b6)
            clear t6 b6 T3 B3
            go_wp2_with fail
            refine (dropC T6.out 1 (by have := LL.out; have := IL.out; omega)).mono ?_
            rintro e w7 ⟨rfl, t7, b7⟩
            have T4 := Lib.hid t7.over
            have B4 := Lib.hid (B6.out.trans b7)
            have LZ := Lib.hid (Nat.le_refl L.length)
            clear t7 b7 T6 B6 d0 d1 d2
            (go_wp2_with fail
             refine (sameT T4.out (by have := LL.out; have := LZ.out; omega)).mono ?_
             rintro e w5 ⟨rfl, t5, b5⟩
             have T5 := Lib.hid t5
             have B5 := Lib.hid (B4.out.trans b5)
             clear t5 b5
             go_wp2
             go_roundw
             case rel => exact ⟨t + 1, p, L, rfl, by go_num, by omega, by have := LL.out; have := LZ.out; omega, T5.out, B5.out⟩
             case measure => simp [intOf]; omega)
    · obtain rfl : n = t := by omega
      have s0 : decide ((n : Int) < n) = false := decide_eq_false (by omega)
      have s00 : decide (n < n) = false := decide_eq_false (by omega)
      go_wp2_with fail
      refine (first11 _).mono ?_
      rintro e wz ⟨rfl, bz⟩
      have BZ := Lib.hid (BO.out.trans (bz.mono szo))
      clear bz
      go_wp2_with fail
      go_ret
      exact ⟨rfl, BZ.out⟩
end Go.Proofs.Ytjodhfehfpmfaaa.Ti
