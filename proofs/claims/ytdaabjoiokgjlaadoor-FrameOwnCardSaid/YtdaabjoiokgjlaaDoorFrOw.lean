/- The walk of voklaw13.FrameOwn. -/
import Derived.Test.YtdaabjoiokgjlaaDoorFrFt
set_option linter.unusedVariables false
namespace Go.Proofs.YtdaabjoiokgjlaaDoor.Fr
open Go.RowKit

theorem cells7 : (#[Value.int .u8 7]).toList = Lib.byteCells [7] := rfl
theorem byte_up (c : UInt8) : (((c.toNat : Int) + 1) % 256) = ((c + 1).toNat : Nat) := by
  rw [UInt8.toNat_add]
  have := u8_lt c
  show ((c.toNat : Int) + 1) % 256 = (((c.toNat + 1) % 256 : Nat) : Int)
  omega
/-- from q on none is long -/
def brief (q N : Nat) (R : List SlB) : Prop := ∀ j, q ≤ j → j < N → (gt R j).l.length ≤ 8192
set_option maxRecDepth 100000 in
set_option maxHeartbeats 8000000 in
theorem own_walk (W : World) (T : Tab W) (A : Option Addr) (n c : Nat) (S : List SlB) (h : LsAt W A n S) (hn : n ≤ 9223372036854775807) (hS : ∀ s ∈ S, s.c ≤ 9223372036854775807) :
    Calls Tryd.prog 9 #[.slice A n c] W fun e w' => e = .returned (.bool true) ∧ Below W.heap.size W w' := by
  have SL := Lib.hid h.1
  have SM := Lib.hid hS
  have H := Lib.hid h
  have O := Lib.hid (Own.refl T)
  have TW := Lib.hid T
  clear h hS T
  go_enter Tryd.func9, Tryd.ntmps9
  go_wp2_with fail
  refine O.out.first.mono ?_
  rintro e w0 ⟨rfl, o0, b0⟩
  have O0 := Lib.hid o0
  have C1 := few_is w0 A n c S (H.out.below b0) hn SM.out
  clear o0 b0
  cases hf : fewB S n with
  | false =>
    rw [hf] at C1
    go_wp2_with fail
    refine C1.mono ?_
    rintro e w1 ⟨rfl, rfl⟩
    clear C1
    go_wp2_with fail
    refine O0.out.first.mono ?_
    rintro e w2 ⟨rfl, o2, b2⟩
    have G := Lib.hid o2.at_
    clear o2 b2
    go_wp2
    go_ret
    exact ⟨rfl, G.out⟩
  | true =>
    rw [hf] at C1
    have hf2 := of_decide_eq_true (show decide (n ≤ 300 ∧ sumK S (min n 300) ≤ 20000) = true from hf)
    obtain ⟨hn3, hs2⟩ := hf2
    rw [Nat.min_eq_left hn3] at hs2
    have HS := Lib.hid hs2
    clear hf hs2
    go_wp2_with fail
    refine C1.mono ?_
    rintro e w1 ⟨rfl, rfl⟩
    clear C1
    go_wp2
    go_loopw [3, 4] (fun vb i wr => ∃ t : Nat, t ≤ n ∧ i = .int .i64 t ∧ OwnB W.heap.size wr vb (framesL (bytesS (keepS S t))) ∧ Own W wr) (fun _ i _ => n - (intOf i).toNat)
    case atStart => exact ⟨0, Nat.zero_le _, rfl, OwnB.nil _ _, O0.out⟩
    case round =>
      obtain ⟨t, ht, rfl, hB, hO⟩ := hrel
      have HB := Lib.hid hB
      have HO := Lib.hid hO
      clear hB hO
      have FL := frames_len (S := S) (n := n) (by rw [← SL.out]; exact Nat.le_refl _) (fun j hj => by obtain ⟨b', off', e, q⟩ := ls_cell H.out hj; exact (q W (Below.refl _ _)).2.1.1) HS.out t ht
      have FK := sumK_mono S (a := t) (b := n) ht
      have hfl : (framesL (bytesS (keepS S t))).length ≤ 30000 := by have := HS.out; omega
      clear FL FK
      by_cases hlt : t < n
      · have htS : t < S.length := by rw [← SL.out]; exact hlt
        obtain ⟨b, off, rfl, hc⟩ := ls_cell H.out hlt
        obtain ⟨d0, s1, s2, s3⟩ := hc _ HO.out.at_
        have hk8 := (sumK_has S hlt HS.out).1
        have NX : framesL (bytesS (keepS S t)) ++ putV (gt S t).l = framesL (bytesS (keepS S (t + 1))) := by
          unfold putV
          by_cases q : (gt S t).l.length ≤ 8192
          · rw [if_pos q, keepS_yes htS q, bytesS_app, show bytesS [gt S t] = [(gt S t).l] from rfl, framesL_snoc]
          · rw [if_neg q, keepS_no htS q, List.append_nil]
        have NX' := Lib.hid NX
        clear hc NX
        generalize gt S t = s at *
        obtain ⟨sA, sk, sc, sl⟩ := s
        simp only at d0 s1 s2 s3 hk8
        have C2 := put_is wr sA sk sc sl HO.out.tab s1 s3 (by omega)
        have SK := Lib.hid s1.1
        have pl : (putV sl).length ≤ 20006 := by
          unfold putV
          split
          · rw [frameL_len, ← SK.out]; omega
          · exact Nat.zero_le _
        clear s1
        unfold PutR at C2
        generalize putE sl = pe at *
        go_wp2_with fail
        refine C2.mono ?_
        rintro e w2 ⟨v2, rfl, o2, b2⟩
        clear C2
        obtain ⟨PL, hPL⟩ : ∃ PL, (putV sl).length = PL := ⟨_, rfl⟩
        obtain ⟨A2, c2, rfl, a2, k2, z2⟩ := o2.atN hPL
        have HB2 := Lib.hid (HB.out.on b2)
        have HO2 := Lib.hid (HO.out.on b2)
        have A2' := Lib.hid a2
        rw [hPL] at pl
        clear o2 b2 a2 hPL
        go_wp2_with (at_builtin; refine append_bs rfl _ _ rfl _ _ rfl HB2.out HO2.out.at_.size _ _ _ _ rfl A2'.out z2 (by omega) ?_)
        intro v3 w3 o3 g3
        have bb := grown_below HB2.out g3 HO2.out.at_.size
        have O3 := Lib.hid (HO2.out.turn TW.out (Nat.le_refl _) bb)
        have B3 := Lib.hid (show OwnB W.heap.size w3 v3 (framesL (bytesS (keepS S (t + 1)))) by rw [← NX'.out]; exact o3)
        clear o3 g3 bb
        go_wp2
        go_roundw
        case rel => exact ⟨t + 1, by omega, by go_num, B3.out, O3.out⟩
        case measure => simp [intOf]; omega
      · obtain rfl : t = n := by omega
        obtain ⟨L, hL⟩ : ∃ L, (framesL (bytesS (keepS S t))).length = L := ⟨_, rfl⟩
        obtain ⟨A1, c1, rfl, a1, k1, x1, z1⟩ := HB.out.atC hL
        have A1' := Lib.hid a1
        rw [hL] at hfl
        have SH := Lib.hid (show ∀ p ∈ bytesS (keepS S t), p.length ≤ 8192 from fun p q => by
          obtain ⟨s, hs, rfl⟩ := List.mem_map.1 q
          exact (keepS_mem hs).2)
        have SA := scan_all SH.out
        rw [hL] at SA
        have C2 := copy_is wr A1 L c1 _ A1'.out z1 (by omega)
        clear a1
        go_wp2_with fail
        refine C2.mono ?_
        rintro e w2 ⟨v7, rfl, o7, b7⟩
        clear C2
        obtain ⟨A7, c7, rfl, a7, -, -⟩ := o7.atN hL
        have O2 := Lib.hid (HO.out.on b7)
        have A2 := Lib.hid (A1'.out.below b7)
        have W2 := Lib.hid a7
        clear o7 b7 a7
        have C3 := scan_is w2 A1 L c1 _ O2.out.tab A2.out k1 x1 (by omega)
        unfold ScanR at C3
        rw [SA] at C3
        go_wp2_with fail
        refine C3.mono ?_
        rintro e w3 ⟨v3, S3, rfl, o3, e3, b3⟩
        clear C3
        obtain ⟨N, hN⟩ : ∃ N, S3.length = N := ⟨_, rfl⟩
        have hNS : (bytesS (keepS S t)).length = N := by rw [← e3, bytesS_len, hN]
        have hN3 : N ≤ 300 := by have := keepS_len S t; rw [bytesS_len] at hNS; omega
        obtain ⟨A3, c3, rfl, -, -, -⟩ := o3.at_
        rw [hN]
        have O3 := Lib.hid (O2.out.on b3)
        have F3 := Lib.hid (show OwnF 0 w2.heap.size w3 (.slice A3 N c3) S3 from by have := o3.from; rw [hN] at this; exact this)
        have hO2 : W.heap.size ≤ w2.heap.size := O2.out.at_.size
        have B23 := Lib.hid b3
        have HN := Lib.hid hN
        have BR := Lib.hid (show brief 0 N S3 from fun j _ hj => SH.out _ (by rw [← e3]; exact List.mem_map.2 ⟨gt S3 j, gt_mem (by omega), rfl⟩))
        clear o3 b3 e3 hN
        go_wp2
        go_loopw [10] (fun i wq => ∃ (q : Nat) (R : List SlB), q ≤ N ∧ i = .int .i64 q ∧ R.length = N ∧ Hid (brief q N R) ∧ OwnF q w2.heap.size wq (.slice A3 N c3) R ∧ Below w2.heap.size w2 wq) (fun i _ => N - (intOf i).toNat)
        case atStart => exact ⟨0, S3, Nat.zero_le _, rfl, HN.out, BR, F3.out, B23.out⟩
        case round =>
          obtain ⟨q, R, hq, rfl, hR, hbr, hF, hBq⟩ := hrel
          by_cases hlt : q < N
          · have hqR : q < R.length := by omega
            obtain ⟨g, cap, hv, hBg, hgw, hcell, hfz⟩ := hF.cell hqR
            rw [hR] at hv
            injection hv with h1 h2 h3
            subst h1
            obtain ⟨Lk, hLk⟩ : ∃ Lk, (gt R q).l.length = Lk := ⟨_, rfl⟩
            have HF := Lib.hid hF
            have HBq := Lib.hid hBq
            have HLk := Lib.hid hLk
            have HR := Lib.hid hR
            have hLk4 : Lk ≤ 8192 := by rw [← hLk]; exact hbr.out q (Nat.le_refl _) hlt
            clear hF hBq hcell hfz hLk h3 hqR hR
            go_wp2
            go_loopw [11] (fun k wq => ∃ (kk : Nat) (Z : List SlB), kk ≤ Lk ∧ k = .int .i64 kk ∧ Z.length = N ∧ (gt Z q).l.length = Lk ∧ Hid (brief (q + 1) N Z) ∧ OwnF q w2.heap.size wq (.slice (some ⟨g, 0, none⟩) N c3) Z ∧ Below w2.heap.size w2 wq) (fun k _ => Lk - (intOf k).toNat)
            case atStart => exact ⟨0, R, Nat.zero_le _, rfl, HR.out, HLk.out, Lib.hid (fun j h1 h2 => hbr.out j (by omega) h2), HF.out, HBq.out⟩
            case round =>
              obtain ⟨kk, Z, hkk, rfl, hZ, hZl, hbz, hG, hB'⟩ := hrel
              have hqZ : q < Z.length := by omega
              have i5 : (q : Int) < N := by omega
              obtain ⟨g', cap', hv', -, hgw', hc', hf'⟩ := hG.cell hqZ
              rw [hZ] at hv'
              injection hv' with h1 h2 h3
              injection h1 with h1
              injection h1 with h1 h4 h5
              subst h1
              subst h3
              have oq := hG.each q (Nat.le_refl _) hqZ
              by_cases hk : kk < Lk
              · rcases oq.form with ⟨-, e⟩ | ⟨gg, cc, hval, a5, hBg5, hgw5, hcc5⟩
                · rw [e] at hZl; simp at hZl; omega
                · have c0 : wr.cell? ⟨gg, kk, none⟩ = some (.int .u8 (bv (gt Z q).l kk : Nat)) := by
                    obtain ⟨b', off', e, hlt', z⟩ := a5.2 (by omega)
                    injection e with e; injection e with e1 e2; subst e1; subst e2
                    have := z kk (by omega)
                    rwa [Nat.zero_add] at this
                  have h256 := bv_256 (gt Z q).l kk
                  have oq' := oq
                  rw [hval] at oq' hc'
                  have fz := World.ownsRow.frozenAt oq' kk
                  have hbu : ((bv (gt Z q).l kk : Nat) + 1 : Int) % 256 = (((gt Z q).l[kk]'(by omega) + 1 : UInt8).toNat : Nat) := by rw [bv_lt (by omega)]; exact byte_up _
                  obtain ⟨S1, S2⟩ := oq'.store kk ((gt Z q).l[kk]'(by omega) + 1) _ hbu
                  obtain ⟨l', hl'⟩ : ∃ l', (gt Z q).l.set kk ((gt Z q).l[kk]'(by omega) + 1) = l' := ⟨_, rfl⟩
                  have hl2 : l'.length = Lk := by rw [← hl', List.length_set, hZl]
                  rw [hl'] at S1
                  have hpo := hG.poke hqZ (l' := l') (by rw [hval]; exact S1) (by rw [hval]; exact S2)
                  have PO := Lib.hid hpo
                  have PB := Lib.hid (hB'.trans (grown_below oq' S2 hB'.size))
                  have PL := Lib.hid (show (gt (Z.set q { gt Z q with l := l' }) q).l.length = Lk by rw [gt_same hqZ]; exact hl2)
                  have PZ := Lib.hid (show (Z.set q { gt Z q with l := l' }).length = N by rw [List.length_set, hZ])
                  have PR := Lib.hid (show brief (q + 1) N (Z.set q { gt Z q with l := l' }) from fun j h1 h2 => by rw [gt_other hqZ _ (by omega)]; exact hbz.out j h1 h2)
                  rw [hZl] at hc'
                  clear oq oq' S1 S2 hpo hbu a5 hG hB' hval hl' hl2
                  generalize bv (gt Z q).l kk = vv at *
                  go_wp2
                  go_roundw
                  case rel => exact ⟨kk + 1, _, by omega, by go_num, PZ.out, PL.out, PR, PO.out, PB.out⟩
                  case measure => simp [intOf]; omega
              · obtain rfl : kk = Lk := by omega
                obtain ⟨A5, c5, hval, a5, k5, x5, z5⟩ := oq.atC hZl
                have hG2 : OwnF q w2.heap.size wr (.slice (some ⟨g, 0, none⟩) Z.length c3) Z := by rw [hZ]; exact hG
                have oq' := oq
                rw [hval] at oq' hc'
                have HO7 := Lib.hid oq'
                have HG2 := Lib.hid hG2
                have HB7 := Lib.hid hB'
                have HV := Lib.hid hval
                clear oq oq' hG hG2 hB' a5 hval
                go_wp2_with (at_builtin; refine append_few rfl _ _ rfl _ _ rfl HO7.out HB7.out.size _ _ 1 1 rfl [7] cells7 rfl (by omega) ?_)
                intro v8 w8 o8 g8
                obtain ⟨A8, c8, rfl, a8, k8, z8⟩ := o8.atN (n := kk + 1) (by rw [List.length_append, hZl]; rfl)
                have al := below_alloc wr (.cells #[.int .u8 7] 5)
                obtain ⟨f9, g9, ⟨u, hu⟩, hfz9, hBg9⟩ := (HG2.out.on al).next hqZ (by rw [HV.out]; exact g8) ⟨A8, kk + 1, c8, (gt Z q).l ++ [7]⟩
                have b8 : Below w2.heap.size w2 w8 := (HB7.out.trans (al.mono HB7.out.size)).trans (grown_below (HO7.out.on al) g8 (by have := HB7.out.size; simp; omega))
                have PB := Lib.hid (show Below w2.heap.size w2 (w8.setCell ⟨g, q, none⟩ (.slice A8 (kk + 1) c8)) from b8.trans ((Below.refl _ _).grown g9 b8.size fun k e => by injection e with e; subst e; exact hBg9))
                have PO := Lib.hid f9
                have PZ := Lib.hid (show (Z.set q ⟨A8, kk + 1, c8, (gt Z q).l ++ [7]⟩).length = N by rw [List.length_set, hZ])
                have PR := Lib.hid (show brief (q + 1) N (Z.set q ⟨A8, kk + 1, c8, (gt Z q).l ++ [7]⟩) from fun j h1 h2 => by rw [gt_other hqZ _ (by omega)]; exact hbz.out j h1 h2)
                clear o8 g8 a8 f9 g9 b8 al
                go_wp2
                go_roundw
                case rel => exact ⟨q + 1, _, by omega, by go_num, PZ.out, PR, by have := PO.out; rw [hZ] at this; exact this, PB.out⟩
                case measure => simp [intOf]; omega
          · obtain rfl : q = N := by omega
            have HB8 := Lib.hid hBq
            have O8 := Lib.hid (O2.out.turn TW.out hO2 hBq)
            have AB := Lib.hid (A2.out.below hBq)
            have AW := Lib.hid (W2.out.below hBq)
            clear hF hBq hR hbr
            obtain ⟨N, rfl⟩ : ∃ N, N = q := ⟨_, rfl⟩
            have C6 := scan_is wr A1 L c1 _ O8.out.tab AB.out k1 x1 (by omega)
            unfold ScanR at C6
            rw [SA] at C6
            go_wp2_with fail
            refine C6.mono ?_
            rintro e w5 ⟨v5, S5, rfl, o5, e5, b5⟩
            clear C6
            have hN5 : S5.length = N := by rw [← hNS, ← e5, bytesS_len]
            obtain ⟨A5, c5, rfl, l5, k5, z5⟩ := o5.at_
            rw [hN5] at l5 ⊢
            have LN := Lib.hid l5
            have O5 := Lib.hid (O8.out.on b5)
            have BB := Lib.hid (AB.out.below b5)
            have BW := Lib.hid (AW.out.below b5)
            have FRO := Lib.hid (show 0 < N → (gt S5 0).l = frontL S t from fun h0 => by
              unfold frontL
              rw [← e5, bytesS_at (by omega)]
              rfl)
            clear o5 b5 l5 e5 SA
            go_wp2
            refine wp_region_late (fun _ => false) (fun v => Below w5.heap.size w5 v) (by kernel_rfl) ?_
            have D0 : Below w5.heap.size w5 w5.drew := (Below.refl _ _).drew
            have OD := O5.out.on D0
            refine late_oneG 0 rfl (by kernel_rfl) (by kernel_rfl) ?_
            go_simp
            refine (first_is _ OD.tab).mono ?_
            rintro e w6 ⟨rfl, b6⟩
            have S6 : Below w5.heap.size w5 w6 := D0.trans b6
            (first | refine ⟨S6, ?_⟩ | refine ⟨.inr S6, ?_⟩)
            refine tk 1 rfl (.bool true) (.inl ⟨by kernel_rfl, fun w' hs => ?_⟩) S6 ?_
            · go_simp
            refine tk 2 rfl (.slice A1 L c1) (.inl ⟨by kernel_rfl, fun w' hs => ?_⟩) S6 ?_
            · go_simp
            refine tk 3 rfl (.slice A7 L c7) (.inl ⟨by kernel_rfl, fun w' hs => ?_⟩) S6 ?_
            · go_simp
            refine late_oneG 4 rfl (by kernel_rfl) (by kernel_rfl) ?_
            go_simp
            refine (bytes_is w6 A1 A7 L c1 L c7 _ _ (BB.out.below S6) (BW.out.below S6)).mono ?_
            rw [show decide (framesL (bytesS (keepS S t)) = framesL (bytesS (keepS S t))) = true from decide_eq_true rfl]
            rintro e w7 ⟨rfl, rfl⟩
            (first | refine ⟨S6, ?_⟩ | refine ⟨.inr S6, ?_⟩ | skip)
            refine tk 5 rfl (.bool true) (.inl ⟨by kernel_rfl, fun w' hs => ?_⟩) S6 ?_
            · go_simp
            refine tk 6 rfl (.bool true) (.inl ⟨by kernel_rfl, fun w' hs => ?_⟩) S6 ?_
            · go_simp
            refine tk 7 rfl (.int .i64 (L : Int)) (.inl ⟨by kernel_rfl, fun w' hs => ?_⟩) S6 ?_
            · go_simp
            refine tk 8 rfl (.slice A1 L c1) (.inl ⟨by kernel_rfl, fun w' hs => ?_⟩) S6 ?_
            · go_simp
            refine tk 9 rfl (.int .i64 (L : Int)) (.inl ⟨by kernel_rfl, fun w' hs => ?_⟩) S6 ?_
            · go_simp
            refine tk 10 rfl (.bool true) (.inl ⟨by kernel_rfl, fun w' hs => ?_⟩) S6 ?_
            · go_simp
            refine tk 11 rfl (.bool true) (.inl ⟨by kernel_rfl, fun w' hs => ?_⟩) S6 ?_
            · go_simp
            refine tk 12 rfl (.bool true) (.inl ⟨by kernel_rfl, fun w' hs => ?_⟩) S6 ?_
            · go_simp
            refine tk 13 rfl (.slice A5 N c5) (.inl ⟨by kernel_rfl, fun w' hs => ?_⟩) S6 ?_
            · go_simp
            refine tk 14 rfl (.int .i64 (N : Int)) (.inl ⟨by kernel_rfl, fun w' hs => ?_⟩) S6 ?_
            · go_simp
            refine tk 15 rfl (.slice A3 N c3) (.inl ⟨by kernel_rfl, fun w' hs => ?_⟩) S6 ?_
            · go_simp
            refine tk 16 rfl (.int .i64 (N : Int)) (.inl ⟨by kernel_rfl, fun w' hs => ?_⟩) S6 ?_
            · go_simp
            refine tk 17 rfl (.bool true) (.inl ⟨by kernel_rfl, fun w' hs => ?_⟩) S6 ?_
            · go_simp
            refine tk 18 rfl (.bool true) (.inl ⟨by kernel_rfl, fun w' hs => ?_⟩) S6 ?_
            · go_simp
            refine tk 19 rfl (.bool true) (.inl ⟨by kernel_rfl, fun w' hs => ?_⟩) S6 ?_
            · go_simp
            refine tk 20 rfl (.slice A5 N c5) (.inl ⟨by kernel_rfl, fun w' hs => ?_⟩) S6 ?_
            · go_simp
            refine tk 21 rfl (.int .i64 (N : Int)) (.inl ⟨by kernel_rfl, fun w' hs => ?_⟩) S6 ?_
            · go_simp
            rcases Nat.eq_zero_or_pos N with hN0 | hN0
            · have z0 : ((N : Int) == 0) = true := by rw [beq_iff_eq]; omega
              refine tk 22 rfl (.bool true) (.inl ⟨by kernel_rfl, fun w' hs => ?_⟩) S6 ?_
              · go_simp
              refine tk 23 rfl (.bool true) (.inl ⟨by kernel_rfl, fun w' hs => ?_⟩) S6 ?_
              · go_simp
              refine tk 24 rfl undef (.inr ⟨by kernel_rfl, rfl⟩) S6 ?_
              refine tk 25 rfl undef (.inr ⟨by kernel_rfl, rfl⟩) S6 ?_
              refine tk 26 rfl undef (.inr ⟨by kernel_rfl, rfl⟩) S6 ?_
              refine tk 27 rfl undef (.inr ⟨by kernel_rfl, rfl⟩) S6 ?_
              refine tk 28 rfl undef (.inr ⟨by kernel_rfl, rfl⟩) S6 ?_
              refine tk 29 rfl undef (.inr ⟨by kernel_rfl, rfl⟩) S6 ?_
              refine tk 30 rfl (.bool true) (.inl ⟨by kernel_rfl, fun w' hs => ?_⟩) S6 ?_
              · go_simp
              refine tk 31 rfl (.bool true) (.inl ⟨by kernel_rfl, fun w' hs => ?_⟩) S6 ?_
              · go_simp
              refine Late.one 32 rfl (by kernel_rfl) rfl ?_
              go_simp
              (first | refine ⟨by kernel_rfl, ?_⟩ | refine ⟨S6, by kernel_rfl, ?_⟩ | skip)
              have G := Lib.hid (O5.out.on S6).at_
              go_wp2
              go_ret
              exact ⟨rfl, G.out⟩
            · have z0 : ((N : Int) == 0) = false := by rw [beq_eq_false_iff_ne]; omega
              have i0 : (0 : Int) < N := by omega
              obtain ⟨g5, o5', rfl, hg5, hc5⟩ := LN.out.2 (by omega)
              refine tk 22 rfl (.bool false) (.inl ⟨by kernel_rfl, fun w' hs => ?_⟩) S6 ?_
              · go_simp
              refine tk 23 rfl (.bool false) (.inl ⟨by kernel_rfl, fun w' hs => ?_⟩) S6 ?_
              · go_simp
              refine tk 24 rfl (.slice (some ⟨g5, o5', none⟩) N c5) (.inl ⟨by kernel_rfl, fun w' hs => ?_⟩) S6 ?_
              · go_simp
              refine tk 25 rfl (.pointer (some ⟨g5, o5', none⟩)) (.inl ⟨by kernel_rfl, fun w' hs => ?_⟩) S6 ?_
              · go_simp
              refine tk 26 rfl (.slice (gt S5 0).A (gt S5 0).k (gt S5 0).c) (.inl ⟨by kernel_rfl, fun w' hs => ?_⟩) S6 ?_
              · have z9 := (hs.cell (p := ⟨g5, o5' + 0, none⟩) hg5).trans (hc5 0 (by omega)).1
                rw [Nat.add_zero] at z9
                unfold SlB.val at z9
                go_simp
              refine tk 27 rfl (.slice A t c) (.inl ⟨by kernel_rfl, fun w' hs => ?_⟩) S6 ?_
              · go_simp
              refine late_oneG 28 rfl (by kernel_rfl) (by kernel_rfl) ?_
              go_simp
              refine (front_is w7 A t c S (H.out.below (O5.out.at_.trans (S6.mono O5.out.at_.size))) hn SM.out).mono ?_
              rintro e w8 ⟨v8, rfl, ⟨A8, k8, c8, rfl, f8⟩, rfl⟩
              (first | refine ⟨S6, ?_⟩ | refine ⟨.inr S6, ?_⟩ | skip)
              refine late_oneG 29 rfl (by kernel_rfl) (by kernel_rfl) ?_
              go_simp
              refine (bytes_is w8 _ A8 _ _ k8 c8 _ _ ((hc5 0 (by omega)).2.1.below S6) f8).mono ?_
              rw [show decide ((gt S5 0).l = frontL S t) = true from decide_eq_true (FRO.out (by omega))]
              rintro e w9 ⟨rfl, rfl⟩
              (first | refine ⟨S6, ?_⟩ | refine ⟨.inr S6, ?_⟩ | skip)
              refine tk 30 rfl (.bool true) (.inl ⟨by kernel_rfl, fun w' hs => ?_⟩) S6 ?_
              · go_simp
              refine tk 31 rfl (.bool true) (.inl ⟨by kernel_rfl, fun w' hs => ?_⟩) S6 ?_
              · go_simp
              refine Late.one 32 rfl (by kernel_rfl) rfl ?_
              go_simp
              (first | refine ⟨by kernel_rfl, ?_⟩ | refine ⟨S6, by kernel_rfl, ?_⟩ | skip)
              have G := Lib.hid (O5.out.on S6).at_
              go_wp2
              go_ret
              exact ⟨rfl, G.out⟩
end Go.Proofs.YtdaabjoiokgjlaaDoor.Fr
