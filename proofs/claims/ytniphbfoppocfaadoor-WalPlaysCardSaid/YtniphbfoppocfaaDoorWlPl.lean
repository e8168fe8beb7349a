/- The walk of voklaw15.WalPlays: the program's log beside the document's. -/
import Derived.Test.YtniphbfoppocfaaDoorWlPa
import Derived.Deep.CutRange
set_option linter.unusedVariables false
namespace Go.Proofs.YtniphbfoppocfaaDoor.Wl
open Go.RowKit Fr Dk

set_option maxRecDepth 100000 in
set_option maxHeartbeats 16000000 in
theorem plays_walk (W : World) (T : Tab W) (A1 : Option Addr) (m c1 : Nat) (b : List UInt8) (size : Int) (A : Option Addr) (n cc : Nat) (Os : List OpW) (hb : BsAt W A1 m b) (hA : A1 = none → c1 = 0) (hm : m ≤ 9223372036854775807) (h : OsW W A n Os) (hn : n ≤ 9223372036854775807) (l1 : -9223372036854775808 ≤ size) (u1 : size ≤ 9223372036854775807) :
    Calls Tryd.prog 3 #[.slice A1 m c1, .int .i64 size, .slice A n cc] W fun e w' => e = .returned (.bool true) ∧ Below W.heap.size W w' := by
  have H := Lib.hid h
  have HB := Lib.hid hb
  have HA := Lib.hid hA
  have TT := Lib.hid T
  clear h T hb hA
  by_cases hs : 0 ≤ size ∧ size ≤ 1073741824
  · obtain ⟨h0, h1⟩ := hs
    go_enter Tryd.func3, Tryd.ntmps3
    go_wp2_with fail
    refine (first_is W TT.out).mono ?_
    rintro e w0 ⟨rfl, b0⟩
    have B0 := Lib.hid b0
    clear b0
    have C1 := new_yes w0 size h0 h1
    go_wp2_with fail
    refine C1.mono ?_
    rintro e w1 ⟨q, dv1, rfl, d1, b1, g1⟩
    clear C1
    have B1 := Lib.hid (B0.out.trans (b1.mono B0.out.size))
    have DD := Lib.hid d1
    have G1 := Lib.hid (show ∀ k, Ft q dv1 k → W.heap.size ≤ k from fun k hk => Nat.le_trans B0.out.size (g1 k hk))
    have C2 := feww_is w1 A n cc Os (H.out.below B1.out) hn
    clear d1 b1 g1
    go_wp2_with fail
    all_goals try (exfalso; omega)
    refine C2.mono ?_
    rintro e w2 ⟨rfl, rfl⟩
    clear C2
    cases hf : fewW Os n with
    | false =>
      clear hf
      go_wp2_with fail
      refine (first_is w2 (TT.out.on B1.out)).mono ?_
      rintro e w3 ⟨rfl, b3⟩
      have G := Lib.hid (B1.out.trans (b3.mono B1.out.size))
      clear b3
      go_wp2
      go_ret
      exact ⟨rfl, G.out⟩
    | true =>
      have HF := Lib.hid hf
      clear hf
      by_cases hm2 : m ≤ 20000
      rotate_left
      · have m1 : (20000 : Int) < (m : Int) := by omega
        go_wp2_with fail
        refine (first_is w2 (TT.out.on B1.out)).mono ?_
        rintro e w3 ⟨rfl, b3⟩
        have G := Lib.hid (B1.out.trans (b3.mono B1.out.size))
        clear b3
        go_wp2
        go_ret
        exact ⟨rfl, G.out⟩
      have m1 : ¬ (20000 : Int) < (m : Int) := by omega
      have al := below_alloc w2 (.cells #[.int .i64 size, .int .i64 0, .slice none 0 0] 32)
      obtain ⟨z, hz⟩ : ∃ z, w2.heap.size = z := ⟨_, rfl⟩
      have T0 := Lib.hid (show TwoD W (w2.alloc (.cells #[.int .i64 size, .int .i64 0, .slice none 0 0] 32)) q size 0 [] dv1 z size 0 [] (.slice none 0 0) from
        ⟨DD.out.below al, ⟨by rw [← hz]; exact Array.getElem?_push_size, OwnB.nil _ _⟩, G1.out, fun k hk => by
          rcases hk with rfl | hk
          · rw [← hz]; exact B1.out.size
          · simp [Value.ownBlock] at hk, fun k hk hk2 => by
          rcases hk2 with rfl | hk2
          · have := dk_all DD.out _ hk; omega
          · simp [Value.ownBlock] at hk2, B1.out.trans (al.mono B1.out.size)⟩)
      have AL := Lib.hid (show (appL size [] b).length ≤ 20000 by
        have := HB.out.1
        unfold appL
        split
        · rw [List.nil_append]; omega
        · exact Nat.zero_le _)
      have C3 := app_is (w2.alloc (.cells #[.int .i64 size, .int .i64 0, .slice none 0 0] 32)) q size 0 [] dv1 A1 m c1 b T0.out.d (HB.out.below T0.out.at_) HA.out (by decide) (by omega) h0 (by omega)
      clear al
      generalize appE size [] b = ea at *
      go_wp2_with fail
      refine C3.mono ?_
      rintro e w3 ⟨rfl, v3, d3, k3, n3⟩
      clear C3
      have T3 := Lib.hid (T0.out.nextP d3 k3 n3)
      clear d3 k3 n3 DD G1
      have C4 := rapp_is w3 z size 0 [] _ A1 m c1 b T3.out.e (HB.out.below T3.out.at_) HA.out (by decide) (by omega) h0 (by omega)
      go_wp2_with fail
      refine C4.mono ?_
      rintro e w4 ⟨rfl, v4, d4, k4, n4⟩
      clear C4
      have T4 := Lib.hid (T3.out.nextX d4 k4 n4)
      clear d4 k4 n4
      generalize appL size [] b = l0 at *
      obtain ⟨L0, hL0⟩ : ∃ L0, l0.length = L0 := ⟨_, rfl⟩
      have HL0 := Lib.hid hL0
      clear hL0
      have C5 := open_is w4 q size 0 l0 v3 (TT.out.on T4.out.at_) T4.out.d (by have := AL.out; omega)
      go_wp2_with fail
      refine C5.mono ?_
      intro e w5 o5
      obtain ⟨p, v5, S5, dv5, rfl, t5, s5⟩ := T4.out.openA o5
      have T5 := Lib.hid t5
      have E5 := Lib.hid s5
      clear C5 o5 t5 s5
      have C6 := ropen_is w5 z size 0 l0 v4 T5.out.e (by have := AL.out; omega)
      go_wp2_with fail
      refine C6.mono ?_
      intro e w6 o6
      obtain ⟨x, v6, S6, du6, rfl, t6, s6⟩ := T5.out.openB o6
      have P6 := Lib.hid (show PlR W q z Os 0 w6 p x from ⟨size, 0, l0.take (openN l0), dv5, v5, S5, du6, v6, S6, 0, by
        have e : min (0 : Int) (openN l0 : Int) = 0 := by omega
        rw [e] at t6
        exact t6, by rw [s6, E5.out], by rw [E5.out]; exact Kg.first l0, h0, h1, by rw [List.length_take]; have := AL.out; omega⟩)
      clear C6 o6 t6 s6 T5 E5 T4 T3 T0
      generalize ((l0.length : Int) - (openN l0 : Nat)) = dn at *
      clear HL0 AL
      go_wp2
      go_loopw [10, 12, 14] (fun pw yw i wr => ∃ (t p x : Nat), t ≤ n ∧ i = .int .i64 (t : Nat) ∧ pw = .pointer (some ⟨p, 0, none⟩) ∧ yw = .pointer (some ⟨x, 0, none⟩) ∧ PlR W q z Os t wr p x) (fun _ _ i _ => n - (intOf i).toNat)
      case atStart => exact ⟨0, p, x, Nat.zero_le _, rfl, rfl, rfl, P6.out⟩
      case round =>
        obtain ⟨t, p, x, ht, rfl, rfl, rfl, hP⟩ := hrel
        have PP := Lib.hid hP
        clear hP P6
        by_cases hlt : t < n
        · have i5 : (t : Int) < n := by omega
          obtain ⟨b2, off, rfl, hc⟩ := ow_cell H.out hlt
          obtain ⟨R, Y, l, dv, v, S, du, u, U, s, th, eu, kg, h0, h1, L0⟩ := PP.out
          obtain ⟨f1, f2, f3, f4, f5, f6, f7, f8, f9⟩ := few_op HF.out hlt (hc W (Below.refl _ _)).2.2.2.2
          have TH := Lib.hid th
          have EU := Lib.hid eu
          have KG := Lib.hid kg
          have OI := Lib.hid (hc W (Below.refl _ _)).2.2.2.2
          have HC := Lib.hid hc
          have fm := frames_many (bytesS S)
          rw [← kg.is, bytesS_len] at fm
          have lb : l.length ≤ 90000 := by omega
          have sb : S.length ≤ 100000 := by omega
          have ll := wlL_len R l (gt Os t).b
          have LA := Lib.hid (show (wlL R l (gt Os t).b).length ≤ 21800 + 6 * (t + 1) + sumW Os (t + 1) by omega)
          have LC := Lib.hid (show (ckL R l (bytesS (gt Os t).P)).length ≤ 21800 + 6 * (t + 1) + sumW Os (t + 1) from ckL_max _ _ _ (by omega) (by omega))
          have LS := Lib.hid (show l.length ≤ 21800 + 6 * (t + 1) + sumW Os (t + 1) by omega)
          have LIM := Lib.hid (show 6 * (t + 1) ≤ 600 ∧ sumW Os (t + 1) ≤ 20000 by omega)
          have mb : (gt Os t).m ≤ 1000000 := by omega
          have Nb : (gt Os t).N ≤ 1000 := by omega
          have Fb : (framesL (bytesS (gt Os t).P)).length ≤ 90000 := by omega
          have AT := Lib.hid th.at_
          obtain ⟨c0, c1, c2, c3, -⟩ := hc wr AT.out
          clear hc th eu kg fm ll f1 f2 f3 f4 f5 f6 f7 f8 f9 PP L0
          generalize gt Os t = o at *
          obtain ⟨kd, nd, az, mz, cz, bz, aB, N, C, P⟩ := o
          simp only at c0 c1 c2 c3 HC LA LC mb Nb Fb
          have OI := Lib.hid (show BsAt W az mz bz ∧ mz ≤ cz ∧ (az = none → cz = 0) ∧ cz ≤ 9223372036854775807 ∧ LsAt W aB N P ∧ N ≤ 9223372036854775807 ∧ (∀ s ∈ P, s.c ≤ 9223372036854775807) ∧ -9223372036854775808 ≤ nd ∧ nd ≤ 9223372036854775807 from OI.out)
          go_upto_region 17 with fail
          go_cut [83] from 79 to 83 (fun v wx => Hid (v = .int .i64 kd ∧ wx = wr))
          case first =>
            go_wp2
            go_meet
            exact Lib.hid ⟨rfl, rfl⟩
          case rest =>
          obtain ⟨rfl, hwx⟩ := hcut.out
          subst hwx
          obtain ⟨wr, rfl⟩ : ∃ wr : World, wr = wc := ⟨_, rfl⟩
          clear hcut
          rename_i hK
          apply hK
          go_cut [10, 11, 12, 13, 15] from 84 to 193 (fun pw nw yw mw ok wx => Hid (∃ p' x', pw = .pointer (some ⟨p', 0, none⟩) ∧ yw = .pointer (some ⟨x', 0, none⟩) ∧ ok = .bool true ∧ PlR W q z Os (t + 1) wx p' x'))
          case first =>
            by_cases k0 : kd = 0
            · subst k0
              go_upto_region 19 with fail
              refine wp_region_late (fun _ => false) (fun v => Below W.heap.size W v) (by kernel_rfl) ?_
              have D0 := Lib.hid (TH.out.below (Below.refl wr.heap.size wr).drew)
              have S0 : Below W.heap.size W wr.drew := D0.out.at_
              clear c0 c1 c2 c3
              refine tk 0 rfl (.pointer (some ⟨p, 0, none⟩)) (.inl ⟨by kernel_rfl, fun w' hs => ?_⟩) S0 ?_
              · go_simp
              refine tk 1 rfl (.slice (some ⟨b2, off, none⟩) n cc) (.inl ⟨by kernel_rfl, fun w' hs => ?_⟩) S0 ?_
              · go_simp
              refine tk 2 rfl (.int .i64 (t : Nat)) (.inl ⟨by kernel_rfl, fun w' hs => ?_⟩) S0 ?_
              · go_simp
              refine tk 3 rfl (.pointer (some ⟨b2, off + t * 4, none⟩)) (.inl ⟨by kernel_rfl, fun w' hs => ?_⟩) S0 ?_
              · go_simp
              refine tk 4 rfl (.pointer (some ⟨b2, off + t * 4 + 2, none⟩)) (.inl ⟨by kernel_rfl, fun w' hs => ?_⟩) S0 ?_
              · go_simp
              refine tk 5 rfl (.slice az mz cz) (.inl ⟨by kernel_rfl, fun w' hs => ?_⟩) S0 ?_
              · have q2 := (HC.out _ hs).2.2.1
                go_simp
              refine tk 7 rfl (.pointer (some ⟨x, 0, none⟩)) (.inl ⟨by kernel_rfl, fun w' hs => ?_⟩) S0 ?_
              · go_simp
              refine tk 8 rfl (.slice (some ⟨b2, off, none⟩) n cc) (.inl ⟨by kernel_rfl, fun w' hs => ?_⟩) S0 ?_
              · go_simp
              refine tk 9 rfl (.int .i64 (t : Nat)) (.inl ⟨by kernel_rfl, fun w' hs => ?_⟩) S0 ?_
              · go_simp
              refine tk 10 rfl (.pointer (some ⟨b2, off + t * 4, none⟩)) (.inl ⟨by kernel_rfl, fun w' hs => ?_⟩) S0 ?_
              · go_simp
              refine tk 11 rfl (.pointer (some ⟨b2, off + t * 4 + 2, none⟩)) (.inl ⟨by kernel_rfl, fun w' hs => ?_⟩) S0 ?_
              · go_simp
              refine tk 12 rfl (.slice az mz cz) (.inl ⟨by kernel_rfl, fun w' hs => ?_⟩) S0 ?_
              · have q2 := (HC.out _ hs).2.2.1
                go_simp
              refine late_oneG 6 rfl (by kernel_rfl) (by kernel_rfl) ?_
              go_simp
              refine (two_app (D0.out) TT.out OI.out.1 OI.out.2.2.1 (by omega) (by omega) (by omega) h0 (by omega)).mono ?_
              rintro e wa ⟨dva, va, Sa, rfl, Ta, Ea⟩
              have SA : Below W.heap.size W wa := Ta.at_
              have TA := Lib.hid Ta
              have EA := Lib.hid Ea
              clear Ta Ea
              (first | refine ⟨SA, ?_⟩ | refine ⟨.inr SA, ?_⟩)
              refine late_oneG 13 rfl (by kernel_rfl) (by kernel_rfl) ?_
              go_simp
              refine (two_rapp (TA.out) OI.out.1 OI.out.2.2.1 (by omega) (by omega) (by have e := congrArg List.length EU.out; rw [bytesS_len, bytesS_len] at e; omega) h0 (by omega)).mono ?_
              rintro e wb ⟨dub, ub, Ub, rfl, Tb, Eb⟩
              have SB : Below W.heap.size W wb := Tb.at_
              have TB := Lib.hid Tb
              have EB := Lib.hid Eb
              clear Tb Eb
              (first | refine ⟨SB, ?_⟩ | refine ⟨.inr SB, ?_⟩)
              refine tk 14 rfl (.bool true) (.inl ⟨by kernel_rfl, fun w' hs => ?_⟩) SB ?_
              · go_simp
              refine tk 15 rfl (.bool true) (.inl ⟨by kernel_rfl, fun w' hs => ?_⟩) SB ?_
              · go_simp
              refine Late.done (by kernel_rfl) ?_
              go_wp2
              go_meet
              exact Lib.hid ⟨p, x, rfl, rfl, rfl, ⟨R, Y, _, dva, va, Sa, dub, ub, Ub, s, TB.out, by rw [EB.out, EA.out, EU.out], by rw [EA.out]; exact KG.out.app R _, h0, h1, LA.out⟩⟩
            have s0 : (kd == 0) = false := by rw [beq_eq_false_iff_ne]; exact k0
            by_cases k1 : kd = 1
            · subst k1
              go_wp2_with fail
              refine (two_sync TH.out (by omega)).mono ?_
              rintro e wa ⟨dva, va, Sa, rfl, Ta, Ea⟩
              have TA := Lib.hid Ta
              have EA := Lib.hid Ea
              have cx := Ta.b.c0
              clear Ta Ea c0 c1 c2 c3
              go_wp2_with fail
              refine (two_rsync TA.out (by omega)).mono ?_
              rintro e wb ⟨dub, rfl, Tb⟩
              have TB := Lib.hid Tb
              clear Tb cx
              go_wp2
              go_meet
              exact Lib.hid ⟨p, x, rfl, rfl, rfl, ⟨R, _, l, dva, va, Sa, dub, u, U, _, TB.out, by rw [EA.out, EU.out], by rw [EA.out]; exact KG.out.sync, h0, h1, LS.out⟩⟩
            have s1 : (kd == 1) = false := by rw [beq_eq_false_iff_ne]; exact k1
            by_cases k2 : kd = 2
            · subst k2
              go_upto_region 24 with fail
              refine wp_region_late (fun _ => false) (fun v => Below W.heap.size W v) (by kernel_rfl) ?_
              have D0 := Lib.hid (TH.out.below (Below.refl wr.heap.size wr).drew)
              have S0 : Below W.heap.size W wr.drew := D0.out.at_
              clear c0 c1 c2 c3
              refine tk 0 rfl (.pointer (some ⟨p, 0, none⟩)) (.inl ⟨by kernel_rfl, fun w' hs => ?_⟩) S0 ?_
              · go_simp
              refine tk 1 rfl (.slice (some ⟨b2, off, none⟩) n cc) (.inl ⟨by kernel_rfl, fun w' hs => ?_⟩) S0 ?_
              · go_simp
              refine tk 2 rfl (.int .i64 (t : Nat)) (.inl ⟨by kernel_rfl, fun w' hs => ?_⟩) S0 ?_
              · go_simp
              refine tk 3 rfl (.pointer (some ⟨b2, off + t * 4, none⟩)) (.inl ⟨by kernel_rfl, fun w' hs => ?_⟩) S0 ?_
              · go_simp
              refine tk 4 rfl (.pointer (some ⟨b2, off + t * 4 + 2, none⟩)) (.inl ⟨by kernel_rfl, fun w' hs => ?_⟩) S0 ?_
              · go_simp
              refine tk 5 rfl (.slice az mz cz) (.inl ⟨by kernel_rfl, fun w' hs => ?_⟩) S0 ?_
              · have q2 := (HC.out _ hs).2.2.1
                go_simp
              refine tk 7 rfl (.pointer (some ⟨x, 0, none⟩)) (.inl ⟨by kernel_rfl, fun w' hs => ?_⟩) S0 ?_
              · go_simp
              refine tk 8 rfl (.slice (some ⟨b2, off, none⟩) n cc) (.inl ⟨by kernel_rfl, fun w' hs => ?_⟩) S0 ?_
              · go_simp
              refine tk 9 rfl (.int .i64 (t : Nat)) (.inl ⟨by kernel_rfl, fun w' hs => ?_⟩) S0 ?_
              · go_simp
              refine tk 10 rfl (.pointer (some ⟨b2, off + t * 4, none⟩)) (.inl ⟨by kernel_rfl, fun w' hs => ?_⟩) S0 ?_
              · go_simp
              refine tk 11 rfl (.pointer (some ⟨b2, off + t * 4 + 2, none⟩)) (.inl ⟨by kernel_rfl, fun w' hs => ?_⟩) S0 ?_
              · go_simp
              refine tk 12 rfl (.slice az mz cz) (.inl ⟨by kernel_rfl, fun w' hs => ?_⟩) S0 ?_
              · have q2 := (HC.out _ hs).2.2.1
                go_simp
              refine late_oneG 6 rfl (by kernel_rfl) (by kernel_rfl) ?_
              go_simp
              refine (two_put (D0.out) TT.out OI.out.1 OI.out.2.2.1 (by omega) (by omega) (by omega) h0 (by omega)).mono ?_
              rintro e wa ⟨dva, va, Sa, rfl, Ta, Ea⟩
              have SA : Below W.heap.size W wa := Ta.at_
              have TA := Lib.hid Ta
              have EA := Lib.hid Ea
              clear Ta Ea
              (first | refine ⟨SA, ?_⟩ | refine ⟨.inr SA, ?_⟩)
              refine late_oneG 13 rfl (by kernel_rfl) (by kernel_rfl) ?_
              go_simp
              refine (two_rput (TA.out) OI.out.1 OI.out.2.2.1 (by omega) (by omega) (by have e := congrArg List.length EU.out; rw [bytesS_len, bytesS_len] at e; omega) h0 (by omega)).mono ?_
              rintro e wb ⟨dub, ub, Ub, rfl, Tb, Eb⟩
              have SB : Below W.heap.size W wb := Tb.at_
              have TB := Lib.hid Tb
              have EB := Lib.hid Eb
              clear Tb Eb
              (first | refine ⟨SB, ?_⟩ | refine ⟨.inr SB, ?_⟩)
              refine tk 14 rfl (.bool true) (.inl ⟨by kernel_rfl, fun w' hs => ?_⟩) SB ?_
              · go_simp
              refine tk 15 rfl (.bool true) (.inl ⟨by kernel_rfl, fun w' hs => ?_⟩) SB ?_
              · go_simp
              refine Late.done (by kernel_rfl) ?_
              go_wp2
              go_meet
              exact Lib.hid ⟨p, x, rfl, rfl, rfl, ⟨R, _, _, dva, va, Sa, dub, ub, Ub, _, TB.out, by rw [EB.out, EA.out, EU.out], by rw [EA.out]; exact KG.out.put R _, h0, h1, LA.out⟩⟩
            have s2 : (kd == 2) = false := by rw [beq_eq_false_iff_ne]; exact k2
            by_cases k3 : kd = 3
            · subst k3
              go_upto_region 26 with fail
              refine wp_region_late (fun _ => false) (fun v => Below W.heap.size W v) (by kernel_rfl) ?_
              have D0 := Lib.hid (TH.out.below (Below.refl wr.heap.size wr).drew)
              have S0 : Below W.heap.size W wr.drew := D0.out.at_
              clear c0 c1 c2 c3
              refine tk 0 rfl (.pointer (some ⟨p, 0, none⟩)) (.inl ⟨by kernel_rfl, fun w' hs => ?_⟩) S0 ?_
              · go_simp
              refine tk 1 rfl (.slice (some ⟨b2, off, none⟩) n cc) (.inl ⟨by kernel_rfl, fun w' hs => ?_⟩) S0 ?_
              · go_simp
              refine tk 2 rfl (.int .i64 (t : Nat)) (.inl ⟨by kernel_rfl, fun w' hs => ?_⟩) S0 ?_
              · go_simp
              refine tk 3 rfl (.pointer (some ⟨b2, off + t * 4, none⟩)) (.inl ⟨by kernel_rfl, fun w' hs => ?_⟩) S0 ?_
              · go_simp
              refine tk 4 rfl (.pointer (some ⟨b2, off + t * 4 + 3, none⟩)) (.inl ⟨by kernel_rfl, fun w' hs => ?_⟩) S0 ?_
              · go_simp
              refine tk 5 rfl (.slice aB N C) (.inl ⟨by kernel_rfl, fun w' hs => ?_⟩) S0 ?_
              · have q3 := (HC.out _ hs).2.2.2.1
                go_simp
              refine tk 7 rfl (.pointer (some ⟨x, 0, none⟩)) (.inl ⟨by kernel_rfl, fun w' hs => ?_⟩) S0 ?_
              · go_simp
              refine tk 8 rfl (.slice (some ⟨b2, off, none⟩) n cc) (.inl ⟨by kernel_rfl, fun w' hs => ?_⟩) S0 ?_
              · go_simp
              refine tk 9 rfl (.int .i64 (t : Nat)) (.inl ⟨by kernel_rfl, fun w' hs => ?_⟩) S0 ?_
              · go_simp
              refine tk 10 rfl (.pointer (some ⟨b2, off + t * 4, none⟩)) (.inl ⟨by kernel_rfl, fun w' hs => ?_⟩) S0 ?_
              · go_simp
              refine tk 11 rfl (.pointer (some ⟨b2, off + t * 4 + 3, none⟩)) (.inl ⟨by kernel_rfl, fun w' hs => ?_⟩) S0 ?_
              · go_simp
              refine tk 12 rfl (.slice aB N C) (.inl ⟨by kernel_rfl, fun w' hs => ?_⟩) S0 ?_
              · have q3 := (HC.out _ hs).2.2.2.1
                go_simp
              refine late_oneG 6 rfl (by kernel_rfl) (by kernel_rfl) ?_
              go_simp
              refine (two_check (D0.out) TT.out OI.out.2.2.2.2.1 (by omega) (by omega)).mono ?_
              rintro e wa ⟨dva, va, Sa, rfl, Ta, Ea⟩
              have SA : Below W.heap.size W wa := Ta.at_
              have TA := Lib.hid Ta
              have EA := Lib.hid Ea
              clear Ta Ea
              (first | refine ⟨SA, ?_⟩ | refine ⟨.inr SA, ?_⟩)
              refine late_oneG 13 rfl (by kernel_rfl) (by kernel_rfl) ?_
              go_simp
              refine (two_rcheck (TA.out) OI.out.2.2.2.2.1 (by omega) (by omega)).mono ?_
              rintro e wb ⟨dub, ub, Ub, rfl, Tb, Eb⟩
              have SB : Below W.heap.size W wb := Tb.at_
              have TB := Lib.hid Tb
              have EB := Lib.hid Eb
              clear Tb Eb
              (first | refine ⟨SB, ?_⟩ | refine ⟨.inr SB, ?_⟩)
              refine tk 14 rfl (.bool true) (.inl ⟨by kernel_rfl, fun w' hs => ?_⟩) SB ?_
              · go_simp
              refine tk 15 rfl (.bool true) (.inl ⟨by kernel_rfl, fun w' hs => ?_⟩) SB ?_
              · go_simp
              refine Late.done (by kernel_rfl) ?_
              go_wp2
              go_meet
              exact Lib.hid ⟨p, x, rfl, rfl, rfl, ⟨R, _, _, dva, va, Sa, dub, ub, Ub, _, TB.out, by rw [EB.out, EA.out, EU.out], by rw [EA.out]; exact KG.out.check R _, h0, h1, LC.out⟩⟩
            have s3 : (kd == 3) = false := by rw [beq_eq_false_iff_ne]; exact k3
            by_cases k4 : kd = 4
            · subst k4
              have YB := KG.out.y0
              have NW := Lib.hid (KG.out.anew nd)
              have TK := Lib.hid (show (l.take (crN Y l nd).toNat).length ≤ l.length by rw [List.length_take]; omega)
              go_wp2_with fail
              refine (two_crash TH.out nd OI.out.2.2.2.2.2.2.2.1 OI.out.2.2.2.2.2.2.2.2 (by omega) YB.1 YB.2).mono ?_
              rintro e wa ⟨dva, rfl, Ta⟩
              have TA := Lib.hid Ta
              have ca := (HC.out wa Ta.at_).2.1
              clear Ta c0 c1 c2 c3
              go_wp2_with fail
              refine (two_rcrash TA.out nd OI.out.2.2.2.2.2.2.2.1 OI.out.2.2.2.2.2.2.2.2 (by omega) YB.1 YB.2).mono ?_
              rintro e wb ⟨dub, rfl, Tb⟩
              have TB := Lib.hid Tb
              clear Tb ca YB
              generalize l.take (crN Y l nd).toNat = l3 at *
              generalize crN Y l nd = Y3 at *
              go_wp2_with fail
              refine (two_open TB.out TT.out (by have := TK.out; omega)).mono ?_
              rintro e wc ⟨pc, vc, Sc, dvc, rfl, Tc, Ec⟩
              have TC := Lib.hid Tc
              have EC := Lib.hid Ec
              clear Tc Ec
              go_wp2_with fail
              refine (two_ropen TC.out (by have := TK.out; omega)).mono ?_
              rintro e wd ⟨xd, ud, Ud, dud, rfl, Td, Ed⟩
              have TD := Lib.hid Td
              have ED := Lib.hid Ed
              have LD := Lib.hid (show (l3.take (openN l3)).length ≤ 21800 + 6 * (t + 1) + sumW Os (t + 1) by rw [List.length_take]; have := TK.out; have := LS.out; omega)
              clear Td Ed
              obtain ⟨ns, hns⟩ := NW.out
              rw [← EC.out] at hns
              have KD := Lib.hid hns
              clear hns NW
              generalize hdn : ((l3.length : Int) - (openN l3 : Nat)) = dn at *
              clear hdn
              go_wp2
              go_meet
              exact Lib.hid ⟨pc, xd, rfl, rfl, by simp, ⟨R, _, _, dvc, vc, Sc, dud, ud, Ud, ns, TD.out, by rw [ED.out, EC.out], KD.out, h0, h1, LD.out⟩⟩
            have s4 : (kd == 4) = false := by rw [beq_eq_false_iff_ne]; exact k4
            by_cases k5 : kd = 5
            · subst k5
              go_upto_region 34 with fail
              refine wp_region_late (fun _ => false) (fun v => Below W.heap.size W v) (by kernel_rfl) ?_
              have D0 := Lib.hid (TH.out.below (Below.refl wr.heap.size wr).drew)
              have S0 : Below W.heap.size W wr.drew := D0.out.at_
              clear c0 c1 c2 c3
              refine tk 0 rfl (.pointer (some ⟨q, 0, none⟩)) (.inl ⟨by kernel_rfl, fun w' hs => ?_⟩) S0 ?_
              · go_simp
              refine tk 1 rfl (.slice (some ⟨b2, off, none⟩) n cc) (.inl ⟨by kernel_rfl, fun w' hs => ?_⟩) S0 ?_
              · go_simp
              refine tk 2 rfl (.int .i64 (t : Nat)) (.inl ⟨by kernel_rfl, fun w' hs => ?_⟩) S0 ?_
              · go_simp
              refine tk 3 rfl (.pointer (some ⟨b2, off + t * 4, none⟩)) (.inl ⟨by kernel_rfl, fun w' hs => ?_⟩) S0 ?_
              · go_simp
              refine tk 4 rfl (.pointer (some ⟨b2, off + t * 4 + 1, none⟩)) (.inl ⟨by kernel_rfl, fun w' hs => ?_⟩) S0 ?_
              · go_simp
              refine tk 5 rfl (.int .i64 nd) (.inl ⟨by kernel_rfl, fun w' hs => ?_⟩) S0 ?_
              · have q1 := (HC.out _ hs).2.1
                go_simp
              refine tk 7 rfl (.pointer (some ⟨z, 0, none⟩)) (.inl ⟨by kernel_rfl, fun w' hs => ?_⟩) S0 ?_
              · go_simp
              refine tk 8 rfl (.slice (some ⟨b2, off, none⟩) n cc) (.inl ⟨by kernel_rfl, fun w' hs => ?_⟩) S0 ?_
              · go_simp
              refine tk 9 rfl (.int .i64 (t : Nat)) (.inl ⟨by kernel_rfl, fun w' hs => ?_⟩) S0 ?_
              · go_simp
              refine tk 10 rfl (.pointer (some ⟨b2, off + t * 4, none⟩)) (.inl ⟨by kernel_rfl, fun w' hs => ?_⟩) S0 ?_
              · go_simp
              refine tk 11 rfl (.pointer (some ⟨b2, off + t * 4 + 1, none⟩)) (.inl ⟨by kernel_rfl, fun w' hs => ?_⟩) S0 ?_
              · go_simp
              refine tk 12 rfl (.int .i64 nd) (.inl ⟨by kernel_rfl, fun w' hs => ?_⟩) S0 ?_
              · have q1 := (HC.out _ hs).2.1
                go_simp
              refine late_oneG 6 rfl (by kernel_rfl) (by kernel_rfl) ?_
              go_simp
              refine (two_res (D0.out) nd OI.out.2.2.2.2.2.2.2.1 OI.out.2.2.2.2.2.2.2.2).mono ?_
              rintro e wa ⟨dva, rfl, Ta⟩
              have SA : Below W.heap.size W wa := Ta.at_
              have TA := Lib.hid Ta
              clear Ta
              (first | refine ⟨SA, ?_⟩ | refine ⟨.inr SA, ?_⟩)
              refine late_oneG 13 rfl (by kernel_rfl) (by kernel_rfl) ?_
              go_simp
              refine (two_rres (TA.out) nd OI.out.2.2.2.2.2.2.2.1 OI.out.2.2.2.2.2.2.2.2).mono ?_
              rintro e wb ⟨dub, rfl, Tb⟩
              have SB : Below W.heap.size W wb := Tb.at_
              have TB := Lib.hid Tb
              clear Tb
              (first | refine ⟨SB, ?_⟩ | refine ⟨.inr SB, ?_⟩)
              refine tk 14 rfl (.bool true) (.inl ⟨by kernel_rfl, fun w' hs => ?_⟩) SB ?_
              · go_simp
              refine tk 15 rfl (.bool true) (.inl ⟨by kernel_rfl, fun w' hs => ?_⟩) SB ?_
              · go_simp
              refine Late.done (by kernel_rfl) ?_
              go_wp2
              go_meet
              exact Lib.hid ⟨p, x, rfl, rfl, rfl, ⟨_, Y, l, dva, v, S, dub, u, U, s, TB.out, EU.out, KG.out, (resR_in h0 h1).1, (resR_in h0 h1).2, LS.out⟩⟩
            have s5 : (kd == 5) = false := by rw [beq_eq_false_iff_ne]; exact k5
            go_wp2
            go_meet
            exact Lib.hid ⟨p, x, rfl, rfl, rfl, ⟨R, Y, l, dv, v, S, du, u, U, s, TH.out, EU.out, KG.out, h0, h1, LS.out⟩⟩
          case rest =>
            obtain ⟨wc, rfl⟩ : ∃ wr : World, wr = wc := ⟨_, rfl⟩
            clear c0 c1 c2 c3
            obtain ⟨p2, x2, rfl, rfl, rfl, hR⟩ := hcut.out
            clear hcut TH EU KG LA LC LS OI HC L0
            obtain ⟨R, Y, l, dv, v, S, du, u, U, s, tc, eu, kc, h0, h1, lb⟩ := hR
            have TC := Lib.hid tc
            have EU := Lib.hid eu
            have KG := Lib.hid kc
            have PN := Lib.hid (show PlR W q z Os (t + 1) wc p2 x2 from ⟨R, Y, l, dv, v, S, du, u, U, s, tc, eu, kc, h0, h1, lb⟩)
            have lb2 : l.length ≤ 90000 := by have := LIM.out; omega
            have fm := frames_many (bytesS S)
            rw [← kc.is, bytesS_len] at fm
            obtain ⟨nS, hnS⟩ : ∃ nS, S.length = nS := ⟨_, rfl⟩
            have HN := Lib.hid hnS
            obtain ⟨Au, cu, rfl, -, -, -⟩ := ownl_at tc.b.own (show U.length = nS by rw [← bytesS_len, eu, bytesS_len, hnS])
            obtain ⟨L, hL⟩ : ∃ L, l.length = L := ⟨_, rfl⟩
            have HL := Lib.hid hL
            obtain ⟨Ad, cd, rfl, -, -, -⟩ := own_atN tc.b.d.own hL
            have nb : nS ≤ 90000 := by omega
            rw [hL] at lb2
            clear tc eu kc lb fm hnS hL
            go_upto_region 35 with fail
            refine wp_region_late (fun _ => false) (fun v => Below wc.heap.size wc v) (by kernel_rfl) ?_
            have DA : Below wc.heap.size wc wc.drew := (Below.refl _ _).drew
            refine tk 0 rfl (.bool true) (.inl ⟨by kernel_rfl, fun w' hs => ?_⟩) DA ?_
            · go_simp
            refine tk 1 rfl (.bool false) (.inl ⟨by kernel_rfl, fun w' hs => ?_⟩) DA ?_
            · go_simp
            refine tk 2 rfl (.bool false) (.inl ⟨by kernel_rfl, fun w' hs => ?_⟩) DA ?_
            · go_simp
            refine tk 3 rfl (.pointer (some ⟨p2, 0, none⟩)) (.inl ⟨by kernel_rfl, fun w' hs => ?_⟩) DA ?_
            · go_simp
            refine late_oneG 4 rfl (by kernel_rfl) (by kernel_rfl) ?_
            go_simp
            refine (ldisk_is _ p2 q R Y l dv v S (TC.out.below DA).a).mono ?_
            rintro e y4 ⟨rfl, bb⟩
            have D4 : Below wc.heap.size wc y4 := DA.trans (bb.mono DA.size)
            clear bb
            (first | refine ⟨D4, ?_⟩ | refine ⟨.inr D4, ?_⟩)
            refine tk 5 rfl (.bool false) (.inl ⟨by kernel_rfl, fun w' hs => ?_⟩) D4 ?_
            · go_simp
            refine tk 6 rfl (.bool false) (.inl ⟨by kernel_rfl, fun w' hs => ?_⟩) D4 ?_
            · go_simp
            refine tk 7 rfl (.bool false) (.inl ⟨by kernel_rfl, fun w' hs => ?_⟩) D4 ?_
            · go_simp
            refine tk 8 rfl (.pointer (some ⟨p2, 0, none⟩)) (.inl ⟨by kernel_rfl, fun w' hs => ?_⟩) D4 ?_
            · go_simp
            refine tk 10 rfl (.pointer (some ⟨x2, 0, none⟩)) (.inl ⟨by kernel_rfl, fun w' hs => ?_⟩) D4 ?_
            · go_simp
            refine tk 11 rfl (.pointer (some ⟨x2, 0, none⟩)) (.inl ⟨by kernel_rfl, fun w' hs => ?_⟩) D4 ?_
            · go_simp
            refine tk 12 rfl (.pointer (some ⟨x2, 1, none⟩)) (.inl ⟨by kernel_rfl, fun w' hs => ?_⟩) D4 ?_
            · go_simp
            refine tk 13 rfl (.slice Au nS cu) (.inl ⟨by kernel_rfl, fun w' hs => ?_⟩) D4 ?_
            · have q1 := ((TC.out.below hs).b).c1
              go_simp
            refine late_oneG 9 rfl (by kernel_rfl) (by kernel_rfl) ?_
            go_simp
            refine (recs_is _ p2 q R Y l dv v S (TC.out.below D4).a (by have := HN.out; omega) (fun a ha => by have := KG.out.ok a ha; omega)).mono ?_
            rintro e y9 ⟨u9, S9, rfl, o9, e9, b9⟩
            have D9 : Below wc.heap.size wc y9 := D4.trans (b9.mono D4.size)
            have n9 : S9.length = nS := by rw [← bytesS_len, e9, bytesS_len, HN.out]
            obtain ⟨Ar, cr, rfl, ar, -, -⟩ := ownl_at o9 n9
            have AR := Lib.hid ar
            have ER := Lib.hid e9
            clear ar o9 e9 b9 n9
            (first | refine ⟨D9, ?_⟩ | refine ⟨.inr D9, ?_⟩)
            refine late_oneG 14 rfl (by kernel_rfl) (by kernel_rfl) ?_
            go_simp
            obtain ⟨Au', cu', eu', au, -, -⟩ := ownl_at (TC.out.below D9).b.own (show U.length = nS by rw [← bytesS_len, EU.out, bytesS_len, HN.out])
            injection eu' with eu1 eu2 eu3
            subst eu1
            have VL := lists_is _ Ar Au nS cr nS cu S9 U AR.out au (by omega) (by omega)
            rw [show decide (bytesS S9 = bytesS U) = true from decide_eq_true (by rw [ER.out, EU.out])] at VL
            clear au eu2 eu3
            refine VL.mono ?_
            rintro e y14 ⟨rfl, b14⟩
            have D14 : Below wc.heap.size wc y14 := D9.trans (b14.mono D9.size)
            clear b14 VL
            (first | refine ⟨D14, ?_⟩ | refine ⟨.inr D14, ?_⟩)
            refine tk 15 rfl (.bool false) (.inl ⟨by kernel_rfl, fun w' hs => ?_⟩) D14 ?_
            · go_simp
            refine tk 16 rfl (.bool false) (.inl ⟨by kernel_rfl, fun w' hs => ?_⟩) D14 ?_
            · go_simp
            refine tk 17 rfl (.bool false) (.inl ⟨by kernel_rfl, fun w' hs => ?_⟩) D14 ?_
            · go_simp
            refine tk 18 rfl (.pointer (some ⟨p2, 0, none⟩)) (.inl ⟨by kernel_rfl, fun w' hs => ?_⟩) D14 ?_
            · go_simp
            refine tk 21 rfl (.pointer (some ⟨z, 0, none⟩)) (.inl ⟨by kernel_rfl, fun w' hs => ?_⟩) D14 ?_
            · go_simp
            refine tk 22 rfl (.pointer (some ⟨z, 0, none⟩)) (.inl ⟨by kernel_rfl, fun w' hs => ?_⟩) D14 ?_
            · go_simp
            refine tk 23 rfl (.pointer (some ⟨z, 2, none⟩)) (.inl ⟨by kernel_rfl, fun w' hs => ?_⟩) D14 ?_
            · go_simp
            refine tk 24 rfl (.slice Ad L cd) (.inl ⟨by kernel_rfl, fun w' hs => ?_⟩) D14 ?_
            · have q1 := ((TC.out.below hs).b.d).c2
              go_simp
            refine late_oneG 19 rfl (by kernel_rfl) (by kernel_rfl) ?_
            go_simp
            refine (ldisk_is _ p2 q R Y l dv v S (TC.out.below D14).a).mono ?_
            rintro e y19 ⟨rfl, bb⟩
            have D19 : Below wc.heap.size wc y19 := D14.trans (bb.mono D14.size)
            clear bb
            (first | refine ⟨D19, ?_⟩ | refine ⟨.inr D19, ?_⟩)
            refine late_oneG 20 rfl (by kernel_rfl) (by kernel_rfl) ?_
            go_simp
            refine (bytes_is _ q R Y l dv (TC.out.below D19).a.d (by have := HL.out; omega)).mono ?_
            rintro e y20 ⟨u20, rfl, o20, b20⟩
            have D20 : Below wc.heap.size wc y20 := D19.trans (b20.mono D19.size)
            obtain ⟨Ab, cb, rfl, ab, -, -⟩ := own_atN o20 HL.out
            have AB := Lib.hid ab
            clear ab o20 b20
            (first | refine ⟨D20, ?_⟩ | refine ⟨.inr D20, ?_⟩)
            refine late_oneG 25 rfl (by kernel_rfl) (by kernel_rfl) ?_
            go_simp
            obtain ⟨Ad', cd', ed', ad, -, -⟩ := own_atN (TC.out.below D20).b.d.own HL.out
            injection ed' with ed1 ed2 ed3
            subst ed1
            have VB := Fr.bytes_is _ Ab Ad L cb L cd l l AB.out ad
            rw [show decide (l = l) = true from decide_eq_true rfl] at VB
            clear ad ed2 ed3
            refine VB.mono ?_
            rintro e y25 ⟨rfl, rfl⟩
            clear VB
            (first | refine ⟨D20, ?_⟩ | refine ⟨.inr D20, ?_⟩)
            refine tk 26 rfl (.bool false) (.inl ⟨by kernel_rfl, fun w' hs => ?_⟩) D20 ?_
            · go_simp
            refine tk 27 rfl (.bool false) (.inl ⟨by kernel_rfl, fun w' hs => ?_⟩) D20 ?_
            · go_simp
            refine tk 28 rfl (.bool false) (.inl ⟨by kernel_rfl, fun w' hs => ?_⟩) D20 ?_
            · go_simp
            refine tk 29 rfl (.pointer (some ⟨p2, 0, none⟩)) (.inl ⟨by kernel_rfl, fun w' hs => ?_⟩) D20 ?_
            · go_simp
            refine tk 32 rfl (.pointer (some ⟨z, 0, none⟩)) (.inl ⟨by kernel_rfl, fun w' hs => ?_⟩) D20 ?_
            · go_simp
            refine tk 33 rfl (.pointer (some ⟨z, 0, none⟩)) (.inl ⟨by kernel_rfl, fun w' hs => ?_⟩) D20 ?_
            · go_simp
            refine tk 34 rfl (.pointer (some ⟨z, 1, none⟩)) (.inl ⟨by kernel_rfl, fun w' hs => ?_⟩) D20 ?_
            · go_simp
            refine tk 35 rfl (.int .i64 Y) (.inl ⟨by kernel_rfl, fun w' hs => ?_⟩) D20 ?_
            · have q1 := ((TC.out.below hs).b.d).c1
              go_simp
            refine late_oneG 30 rfl (by kernel_rfl) (by kernel_rfl) ?_
            go_simp
            refine (ldisk_is _ p2 q R Y l dv v S (TC.out.below D20).a).mono ?_
            rintro e y30 ⟨rfl, bb⟩
            have D30 : Below wc.heap.size wc y30 := D20.trans (bb.mono D20.size)
            clear bb
            (first | refine ⟨D30, ?_⟩ | refine ⟨.inr D30, ?_⟩)
            refine late_oneG 31 rfl (by kernel_rfl) (by kernel_rfl) ?_
            go_simp
            refine (synced_is _ q R Y l dv (TC.out.below D30).a.d).mono ?_
            rintro e y31 ⟨rfl, b31⟩
            have D31 : Below wc.heap.size wc y31 := D30.trans (b31.mono D30.size)
            clear b31
            (first | refine ⟨D31, ?_⟩ | refine ⟨.inr D31, ?_⟩)
            refine tk 36 rfl (.bool false) (.inl ⟨by kernel_rfl, fun w' hs => ?_⟩) D31 ?_
            · go_simp
            refine tk 37 rfl (.bool false) (.inl ⟨by kernel_rfl, fun w' hs => ?_⟩) D31 ?_
            · go_simp
            refine Late.done (by kernel_rfl) ?_
            have PX := Lib.hid (show PlR W q z Os (t + 1) _ p2 x2 by obtain ⟨R, Y, l, dv, v, S, du, u, U, s, tc, rest⟩ := PN.out; exact ⟨R, Y, l, dv, v, S, du, u, U, s, tc.below D31, rest⟩)
            go_simp
            go_wp2
            go_roundw
            case rel => exact ⟨t + 1, p2, x2, by omega, by go_num, rfl, rfl, PX.out⟩
            case measure => simp [intOf]; omega
        · obtain rfl : n = t := by omega
          have AT := Lib.hid (show Below W.heap.size W wr by obtain ⟨R, Y, l, dv, v, S, du, u, U, s, T0, -⟩ := PP.out; exact T0.at_)
          go_wp2_with fail
          refine (first_is wr (TT.out.on AT.out)).mono ?_
          rintro e w7 ⟨rfl, b7⟩
          have G := Lib.hid (AT.out.trans (b7.mono AT.out.size))
          clear b7
          go_wp2
          go_ret
          exact ⟨rfl, G.out⟩
  · have C1 := fun w => new_no w size hs l1 u1
    go_enter Tryd.func3, Tryd.ntmps3
    go_wp2_with fail
    refine (first_is W TT.out).mono ?_
    rintro e w0 ⟨rfl, b0⟩
    have B0 := Lib.hid b0
    clear b0
    go_wp2_with fail
    refine (C1 w0).mono ?_
    rintro e w1 ⟨rfl, b1⟩
    clear C1
    have B1 := Lib.hid (B0.out.trans (b1.mono B0.out.size))
    clear b1 hs
    go_wp2_with fail
    refine (first_is w1 (TT.out.on B1.out)).mono ?_
    rintro e w3 ⟨rfl, b3⟩
    have G := Lib.hid (B1.out.trans (b3.mono B1.out.size))
    clear b3
    go_wp2
    go_ret
    exact ⟨rfl, G.out⟩
end Go.Proofs.YtniphbfoppocfaaDoor.Wl
