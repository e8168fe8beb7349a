/- The walk of voklaw15.WalFile. -/
import Derived.Test.YtniphbfoppocfaaDoorWlK
set_option linter.unusedVariables false
namespace Go.Proofs.YtniphbfoppocfaaDoor.Wl
open Go.RowKit Fr Dk

set_option maxRecDepth 100000 in
set_option maxHeartbeats 8000000 in
theorem file_walk (W : World) (T : Tab W) (size : Int) (A : Option Addr) (n cc : Nat) (O : List OpW) (B : Option Addr) (m cb : Nat) (b : List UInt8) (h : OsW W A n O) (hn : n ≤ 9223372036854775807) (l1 : -9223372036854775808 ≤ size) (u1 : size ≤ 9223372036854775807) (hb : BsAt W B m b) (hB : B = none → cb = 0) (hm : m ≤ 9223372036854775807) :
    Calls Tryd.prog 5 #[.int .i64 size, .slice A n cc, .slice B m cb] W fun e w' => e = .returned (.bool true) ∧ Below W.heap.size W w' := by
  have H := Lib.hid h
  have TT := Lib.hid T
  have HB := Lib.hid hb
  have ZB := Lib.hid hB
  clear h T hb hB
  by_cases hs : 0 ≤ size ∧ size ≤ 1073741824
  · obtain ⟨h0, h1⟩ := hs
    go_enter Tryd.func5, Tryd.ntmps5
    go_wp2_with fail
    refine (first_is W TT.out).mono ?_
    rintro e w0 ⟨rfl, b0⟩
    have B0 := Lib.hid b0
    clear b0
    have C1 := new_yes w0 size h0 h1
    go_wp2_with fail
    refine C1.mono ?_
    rintro e w1 ⟨q, dv1, rfl, d1, b1, g1⟩
    clear C1
    have B1 := Lib.hid (B0.out.trans (b1.mono B0.out.size))
    have DD := Lib.hid d1
    have G1 := Lib.hid (show ∀ k, Ft q dv1 k → W.heap.size ≤ k from fun k hk => Nat.le_trans B0.out.size (g1 k hk))
    have C2 := feww_is w1 A n cc O (H.out.below B1.out) hn
    clear d1 b1 g1
    go_wp2_with fail
    all_goals try (exfalso; omega)
    refine C2.mono ?_
    rintro e w2 ⟨rfl, rfl⟩
    clear C2
    cases hf : fewW O n with
    | false =>
      clear hf
      go_wp2_with fail
      refine (first_is w2 (TT.out.on B1.out)).mono ?_
      rintro e w3 ⟨rfl, b3⟩
      have G := Lib.hid (B1.out.trans (b3.mono B1.out.size))
      clear b3
      go_wp2
      go_ret
      exact ⟨rfl, G.out⟩
    | true =>
      have HF := Lib.hid hf
      clear hf
      by_cases hm2 : m ≤ 20000
      rotate_left
      · have m1 : (20000 : Int) < (m : Int) := by omega
        go_wp2_with fail
        refine (first_is w2 (TT.out.on B1.out)).mono ?_
        rintro e w3 ⟨rfl, b3⟩
        have G := Lib.hid (B1.out.trans (b3.mono B1.out.size))
        clear b3
        go_wp2
        go_ret
        exact ⟨rfl, G.out⟩
      have m1 : ¬ (20000 : Int) < (m : Int) := by omega
      have C3 := open_is w2 q size 0 [] dv1 (TT.out.on B1.out) DD.out (by decide)
      go_wp2_with fail
      refine C3.mono ?_
      intro e w3 o3
      obtain ⟨p, v3, S3, dv3, rfl, g3, s3⟩ := Lsk.open_ DD.out G1.out B1.out o3
      clear C3 o3
      have K3 := Lib.hid (show KpR W size q p O 0 0 w3 0 [] dv3 v3 S3 from ⟨g3, by rw [s3]; exact Kg.start, Nat.zero_le _, by rw [s3]; exact Nat.zero_le _⟩)
      clear g3 s3
      go_wp2
      go_loopw [11] (fun i wr => ∃ (t k : Nat) (Y : Int) (l : List UInt8) (dv v : Value) (S : List SlB), t ≤ n ∧ i = .int .i64 (t : Nat) ∧ KpR W size q p O t k wr Y l dv v S) (fun i _ => n - (intOf i).toNat)
      case atStart => exact ⟨0, 0, 0, [], dv3, v3, S3, Nat.zero_le _, rfl, K3.out⟩
      case round =>
        obtain ⟨t, k, Y, l, dv, v, S, ht, rfl, hK⟩ := hrel
        have KK := Lib.hid hK
        obtain ⟨hG, hk, hl, hr⟩ := hK
        have G := Lib.hid hG
        have KG := Lib.hid hk
        clear hG hk
        by_cases hlt : t < n
        · have i5 : (t : Int) < n := by omega
          obtain ⟨b, off, rfl, hc⟩ := ow_cell H.out hlt
          obtain ⟨c0, c1, c2, c3, oi⟩ := hc wr G.out.at_
          have OI := Lib.hid oi
          obtain ⟨f1, f2, f3, f4, f5, f6, f7, f8, f9⟩ := few_op HF.out hlt oi
          have LIM := Lib.hid (show t + 1 ≤ 100 by omega)
          have SL : S.length ≤ 400 := by rw [← bytesS_len]; omega
          have far := Lib.hid (show 0 < (gt O t).m → ∀ g off, (gt O t).A = some ⟨g, off, none⟩ → ¬ Al p q dv v S g from fun h0 g off e => by
            have := (hc W (Below.refl _ _)).2.2.2.2.1.2 h0
            obtain ⟨b', off', e', hb', -⟩ := this
            rw [e] at e'
            injection e' with e'
            injection e' with e'
            exact G.out.far (e' ▸ hb'))
          have TW := Lib.hid (TT.out.on G.out.at_)
          have CA := Lib.hid (lapp_is wr p q size Y l dv v S (gt O t).A (gt O t).m (gt O t).c (gt O t).b TW.out G.out.g OI.out.1 OI.out.2.2.1 (by omega) (by omega) (by omega) h0 (by omega) far.out)
          have CP := Lib.hid (lput_is wr p q size Y l dv v S (gt O t).A (gt O t).m (gt O t).c (gt O t).b TW.out G.out.g OI.out.1 OI.out.2.2.1 (by omega) (by omega) (by omega) h0 (by omega) far.out)
          have CS := Lib.hid (lsync_is wr p q size Y l dv v S G.out.g (by omega))
          have CC := Lib.hid (lcheck_is W wr p q size Y l dv v S (gt O t).B (gt O t).N (gt O t).C (gt O t).P TW.out G.out.g (hc W (Below.refl _ _)).2.2.2.2.2.2.2.2.1 G.out.at_ (fun k hk => G.out.hi k (.inr (.inr hk))) (by omega) (by omega))
          have ll := wlL_len size l (gt O t).b
          have lr := wlR_len size l (gt O t).b (bytesS S)
          have NA := Lib.hid (show ∀ w' dv' v' S', LgV 67 62 w' p q size Y (wlL size l (gt O t).b) dv' v' S' → bytesS S' = wlR size l (gt O t).b (bytesS S) → Kp (Al p q dv v S) wr w' → (∀ g, Al p q dv' v' S' g → Al p q dv v S g ∨ wr.heap.size ≤ g) → KpR W size q p O (t + 1) k w' Y (wlL size l (gt O t).b) dv' v' S' from fun w' dv' v' S' g e kp nn =>
            ⟨G.out.next g kp nn, e ▸ KG.out.app size _, by omega, by rw [e]; omega⟩)
          have NP := Lib.hid (show ∀ w' dv' v' S', LgV 67 62 w' p q size (wrY size Y l (gt O t).b) (wlL size l (gt O t).b) dv' v' S' → bytesS S' = wlR size l (gt O t).b (bytesS S) → Kp (Al p q dv v S) wr w' → (∀ g, Al p q dv' v' S' g → Al p q dv v S g ∨ wr.heap.size ≤ g) → KpR W size q p O (t + 1) (if wlE size l (gt O t).b = 0 then (bytesS S').length else k) w' (wrY size Y l (gt O t).b) (wlL size l (gt O t).b) dv' v' S' from fun w' dv' v' S' g e kp nn =>
            ⟨G.out.next g kp nn, by rw [e]; exact KG.out.put size _, by omega, by rw [e]; omega⟩)
          have NC := Lib.hid (show ∀ w' dv' v' S', LgV 67 62 w' p q size (ckY size Y (bytesS (gt O t).P)) (ckL size l (bytesS (gt O t).P)) dv' v' S' → bytesS S' = ckR size (bytesS S) (bytesS (gt O t).P) → Kp (Al p q dv v S) wr w' → (∀ g, Al p q dv' v' S' g → Al p q dv v S g ∨ wr.heap.size ≤ g) → KpR W size q p O (t + 1) (if ckE size (bytesS (gt O t).P) = 0 then (bytesS S').length else k) w' (ckY size Y (bytesS (gt O t).P)) (ckL size l (bytesS (gt O t).P)) dv' v' S' from fun w' dv' v' S' g e kp nn =>
            ⟨G.out.next g kp nn, by rw [e]; exact KG.out.check size _, ckL_max _ _ _ (by omega) (by omega), by rw [e]; exact ckR_max _ _ _ (by omega) (by omega)⟩)
          have NS := Lib.hid (show ∀ w' dv' v' S', LgV 67 62 w' p q size (l.length : Nat) l dv' v' S' → bytesS S' = bytesS S → Kp (Al p q dv v S) wr w' → (∀ g, Al p q dv' v' S' g → Al p q dv v S g ∨ wr.heap.size ≤ g) → KpR W size q p O (t + 1) (bytesS S').length w' (l.length : Nat) l dv' v' S' from fun w' dv' v' S' g e kp nn =>
            ⟨G.out.next g kp nn, by rw [e]; exact KG.out.sync, by omega, by rw [e]; omega⟩)
          have N0 := Lib.hid (show KpR W size q p O (t + 1) k wr Y l dv v S from ⟨G.out, KG.out, by omega, by omega⟩)
          clear hc oi c1 ll lr hl hr f1 f2 f3 f4 f5 f6 f7 f8 f9 far
          generalize gt O t = o at *
          obtain ⟨kd, nd, az, mz, cz, bz, aB, N, C, P⟩ := o
          simp only at c0 c2 c3 CA CP CC NA NP NC
          by_cases k0 : kd = 0
          · subst k0
            go_wp2_with fail
            refine CA.out.mono ?_
            rintro e w4 ⟨rfl, dv4, v4, S4, g4, e4, kp4, n4⟩
            have F := Lib.hid (NA.out w4 dv4 v4 S4 g4 e4 kp4 n4)
            clear g4 e4 kp4 n4
            go_wp2
            go_roundw
            case rel => exact ⟨t + 1, k, _, _, _, _, _, by omega, by go_num, F.out⟩
            case measure => simp [intOf]; omega
          have s0 : (kd == 0) = false := by rw [beq_eq_false_iff_ne]; exact k0
          by_cases k2 : kd = 2
          · subst k2
            go_wp2_with fail
            refine CA.out.mono ?_
            rintro e w4 ⟨rfl, dv4, v4, S4, g4, e4, kp4, n4⟩
            have F := Lib.hid (NA.out w4 dv4 v4 S4 g4 e4 kp4 n4)
            clear g4 e4 kp4 n4
            go_wp2
            go_roundw
            case rel => exact ⟨t + 1, k, _, _, _, _, _, by omega, by go_num, F.out⟩
            case measure => simp [intOf]; omega
          have s2 : (kd == 2) = false := by rw [beq_eq_false_iff_ne]; exact k2
          by_cases k3 : kd = 3
          · subst k3
            go_wp2_with fail
            refine CC.out.mono ?_
            rintro e w4 ⟨rfl, dv4, v4, S4, g4, e4, kp4, n4⟩
            have F := Lib.hid (NC.out w4 dv4 v4 S4 g4 e4 kp4 n4)
            clear g4 e4 kp4 n4
            go_wp2
            go_roundw
            case rel => exact ⟨t + 1, _, _, _, _, _, _, by omega, by go_num, F.out⟩
            case measure => simp [intOf]; omega
          have s3 : (kd == 3) = false := by rw [beq_eq_false_iff_ne]; exact k3
          go_wp2
          go_roundw
          case rel => exact ⟨t + 1, k, _, _, _, _, _, by omega, by go_num, N0.out⟩
          case measure => simp [intOf]; omega
        · obtain rfl : n = t := by omega
          have HK := Lib.hid (few_all HF.out)
          have lb : l.length ≤ 90000 := by have := HK.out; omega
          have rb : (bytesS S).length ≤ 400 := by have := HK.out; omega
          have C5 := recs_is wr p q _ _ _ dv v S G.out.g (by rw [← bytesS_len]; omega) (fun x hx => by have := KG.out.ok x hx; omega)
          obtain ⟨nr, hnr⟩ : ∃ nr, (bytesS S).length = nr := ⟨_, rfl⟩
          have HNR := Lib.hid hnr
          rw [hnr] at rb
          have IS := Lib.hid KG.out.is
          obtain ⟨L, hL⟩ : ∃ L, l.length = L := ⟨_, rfl⟩
          have HL := Lib.hid hL
          rw [hL] at lb
          clear hl hr KK hnr hL
          go_wp2_with fail
          refine C5.mono ?_
          rintro e w5 ⟨u5, S5, rfl, o5, e5, b5⟩
          have h5 : S5.length = nr := by rw [← bytesS_len, e5, HNR.out]
          obtain ⟨A5, c5, rfl, a5, k5, -⟩ := ownl_at o5 h5
          have LS := Lib.hid a5
          have O5 := Lib.hid o5
          have AW := Lib.hid (show ∀ g, Rs (.slice A5 nr c5) S5 g → ¬ Al p q dv v S g from fun g hg z => by have := (ownl_lt o5 g hg).1; have := G.out.g.all g z; omega)
          have LT5 := Lib.hid (show ∀ g, Al p q dv v S g → g < w5.heap.size from fun g z => Nat.lt_of_lt_of_le (G.out.g.all g z) b5.size)
          have E5 := Lib.hid e5
          have H5 := Lib.hid h5
          have G5 := Lib.hid (G.out.below b5)
          clear C5 o5 e5 a5 b5 h5
          go_wp2
          go_loopw [13, 14] (fun vb i wq => ∃ t2 : Nat, t2 ≤ nr ∧ i = .int .i64 (t2 : Nat) ∧ OwnB w5.heap.size wq vb (framesL ((bytesS S5).take t2)) ∧ Below w5.heap.size w5 wq) (fun _ i _ => nr - (intOf i).toNat)
          case atStart => exact ⟨0, Nat.zero_le _, rfl, OwnB.nil _ _, Below.refl _ _⟩
          case round =>
            obtain ⟨t2, ht2, rfl, hO, hB5⟩ := hrel
            have fp := frames_pre (bytesS S5) t2
            rw [E5.out, ← IS.out, HL.out, ← E5.out] at fp
            obtain ⟨nb, hnb⟩ : ∃ nb, (framesL ((bytesS S5).take t2)).length = nb := ⟨_, rfl⟩
            rw [hnb] at fp
            obtain ⟨Ab, cb2, rfl, ab, -, -⟩ := own_atN hO hnb
            have OB := Lib.hid hO
            have AB := Lib.hid ab
            have NB := Lib.hid hnb
            have BQ := Lib.hid hB5
            clear hO ab hnb hB5
            by_cases hlt2 : t2 < nr
            · obtain ⟨bb, off, rfl, hbb, hcc⟩ := LS.out.2 (by omega)
              obtain ⟨x0, x1, x2, x3⟩ := hcc t2 hlt2
              have TP := Lib.hid (show t2 < S5.length by rw [H5.out]; exact hlt2)
              unfold SlB.val at x0
              have hmem : (gt S5 t2).l ∈ bytesS S := by rw [← E5.out]; exact List.mem_of_getElem? (bytesS_at TP.out)
              have h8 := KG.out.ok _ hmem
              have KM := Lib.hid (show (gt S5 t2).k = (gt S5 t2).l.length from x1.1)
              have e1 : putE (gt S5 t2).l = 0 := by unfold putE; rw [if_pos h8]
              have e2 : putV (gt S5 t2).l = frameL (gt S5 t2).l := by unfold putV; rw [if_pos h8]
              have E12 := Lib.hid (And.intro e1 e2)
              have NX := Lib.hid (take_snocB (P := S5) TP.out)
              have cw := (BQ.out.cell (p := ⟨bb, _, none⟩) hbb).trans x0
              have i5 : (t2 : Int) < nr := by omega
              have C6 := Lib.hid (put_is wr (gt S5 t2).A (gt S5 t2).k (gt S5 t2).c (gt S5 t2).l (TT.out.on (G5.out.below BQ.out).at_) (x1.below BQ.out) x3 (by have := KM.out; omega))
              have kl : (gt S5 t2).k ≤ 8192 := by have := KM.out; omega
              clear hcc x0 x1 x2 x3 hmem e1 e2 h8
              generalize gt S5 t2 = o at *
              obtain ⟨am, km, cm, lm⟩ := o
              simp only at cw C6 KM kl E12 NX
              go_wp2_with fail
              refine C6.out.mono ?_
              rintro e w6 ⟨v6, rfl, o6, b6⟩
              rw [E12.out.1]
              rw [E12.out.2] at o6
              obtain ⟨A6, c6, rfl, a6, -, z6⟩ := own_atN o6 (n := 6 + km) (by rw [frameL_len, KM.out])
              have OB6 := Lib.hid (OB.out.on b6)
              have A6H := Lib.hid a6
              have Z6 := Lib.hid z6
              have BQ6 := Lib.hid (BQ.out.trans (b6.mono BQ.out.size))
              clear o6 a6 b6 z6 C6
              go_wp2_with (at_builtin; refine append_bs rfl _ _ rfl _ _ rfl OB6.out BQ6.out.size _ _ _ _ rfl A6H.out Z6.out (by have := NB.out; omega) ?_)
              intro v7 w7 o7 g7
              have B7 := Lib.hid (BQ6.out.trans ((Below.refl _ _).grown g7 BQ6.out.size fun _ hk => (World.ownsRow.lt OB6.out _ hk).1))
              have O7 := Lib.hid (show OwnB w5.heap.size w7 v7 (framesL ((bytesS S5).take (t2 + 1))) by rw [NX.out, framesL_app, framesL_one]; exact o7)
              clear o7 g7
              go_wp2
              go_roundw
              case rel => exact ⟨t2 + 1, by omega, by go_num, O7.out, B7.out⟩
              case measure => simp [intOf]; omega
            · obtain rfl : nr = t2 := by omega
              have ALL := Lib.hid (show framesL ((bytesS S5).take nr) = l by rw [List.take_of_length_le (by rw [bytesS_len, H5.out]; exact Nat.le_refl _), E5.out, IS.out])
              have hnL : nb = L := by rw [← NB.out, ALL.out, HL.out]
              subst hnL
              have AL := Lib.hid (show BsAt wr Ab nb l by rw [← ALL.out]; exact AB.out)
              have OL := Lib.hid (show OwnB w5.heap.size wr (.slice Ab nb cb2) l by rw [← ALL.out]; exact OB.out)
              have OS := Lib.hid (O5.out.on BQ.out)
              have G6 := Lib.hid (G5.out.below BQ.out)
              have LS6 := Lib.hid (LS.out.below BQ.out)
              clear OB AB fp
              have C7 := bytes_is wr q size Y l dv G6.out.g.d (by rw [HL.out]; omega)
              go_wp2_with fail
              refine C7.mono ?_
              rintro e w7 ⟨u7, rfl, o7, b7⟩
              obtain ⟨A7, c7, rfl, a7, -, -⟩ := own_atN o7 HL.out
              have G7 := Lib.hid (G6.out.below b7)
              have AL7 := Lib.hid (AL.out.below b7)
              have OL7 := Lib.hid (OL.out.on b7)
              have OS7 := Lib.hid (OS.out.on b7)
              have LS7 := Lib.hid (LS6.out.below b7)
              have C8 := Fr.bytes_is w7 A7 Ab nb c7 nb cb2 l l a7 AL7.out
              rw [show decide (l = l) = true from decide_eq_true rfl] at C8
              clear C7 o7 a7 b7
              go_wp2_with fail
              refine C8.mono ?_
              rintro e w8 ⟨rfl, rfl⟩
              clear C8
              have NB2 := Lib.hid (HB.out.1 : m = b.length)
              have C9 := lput_is w8 p q size Y l dv v S B m cb b (TT.out.on G7.out.at_) G7.out.g (HB.out.below G7.out.at_) ZB.out (by rw [HL.out]; exact lb) (by omega) (by rw [← bytesS_len]; have := HNR.out; omega) h0 (by omega) (fun z0 g off e => by
                obtain ⟨b', off', e', hb', -⟩ := HB.out.2 z0
                rw [e] at e'
                injection e' with e'
                injection e' with e'
                exact G7.out.far (e' ▸ hb'))
              obtain ⟨FB, hFB⟩ : ∃ FB, (frameL b).length = FB := ⟨_, rfl⟩
              have fb : FB = 6 + m := by rw [← hFB, frameL_len, NB2.out]
              by_cases f1 : m ≤ 8192
              · by_cases f2 : (nb : Int) ≤ size
                · have W1 : IntKind.i64.wrap (size - (nb : Int)) = size - nb := IntWalk.i64_in _ (by omega)
                  by_cases f3 : (m : Int) + 6 ≤ size - nb
                  · have EE : wlE size l b = 0 := by
                      unfold wlE appE
                      rw [if_pos (by rw [← NB2.out]; exact f1), hFB, HL.out, if_pos (by omega)]
                    have x1 : wlL size l b = l ++ frameL b := by unfold wlL; rw [if_pos EE]
                    have x2 : wlR size l b (bytesS S) = bytesS S ++ [b] := by unfold wlR; rw [if_pos EE]
                    have x3 : wrY size Y l b = ((nb + FB : Nat) : Int) := by unfold wrY; rw [if_pos EE, x1, List.length_append, HL.out, hFB]
                    rw [EE, x1, x2, x3] at C9
                    have q1 : (m : Int) ≤ 8192 := by omega
                    have q2 : (nb : Int) ≤ size := by omega
                    have q3 : (m : Int) + 6 ≤ size - nb := by omega
                    clear EE x1 x2 x3
                    go_wp2_with fail
                    refine C9.mono ?_
                    rintro e w9 ⟨rfl, dv9, v9, S9, g9, e9, kp9, n9⟩
                    clear C9
                    have G9 := Lib.hid (G7.out.next g9 kp9 n9)
                    have E9 := Lib.hid e9
                    have L9 := Lib.hid (show S9.length = nr + 1 by rw [← bytesS_len, e9, List.length_append, HNR.out]; rfl)
                    clear g9 e9 kp9 n9
                    have C10 := recs_is w9 p q _ _ _ dv9 v9 S9 G9.out.g (by rw [L9.out]; omega) (fun x hx => by
                      rw [E9.out] at hx
                      rcases List.mem_append.1 hx with hx | hx
                      · have := KG.out.ok x hx; omega
                      · rw [List.mem_singleton.1 hx]; have := NB2.out; omega)
                    go_wp2_with fail
                    all_goals try (exfalso; omega)
                    refine C10.mono ?_
                    rintro e w10 ⟨u10, S10, rfl, o10, e10, b10⟩
                    have h10 : S10.length = nr + 1 := by rw [← bytesS_len, e10, bytesS_len, L9.out]
                    obtain ⟨A10, c10, rfl, a10, k10, -⟩ := ownl_at o10 h10
                    have G10 := Lib.hid (G9.out.below b10)
                    obtain ⟨bb, off, rfl, hbb, hcc⟩ := a10.2 (by omega)
                    obtain ⟨x0, x1, x2, x3⟩ := hcc nr (by omega)
                    have lst : (gt S10 nr).l = b := by
                      have t0 := bytesS_at (S := S10) (j := nr) (by rw [h10]; omega)
                      rw [e10, E9.out, List.getElem?_append_right (by rw [HNR.out]; exact Nat.le_refl _), HNR.out, Nat.sub_self] at t0
                      simpa using t0.symm
                    rw [lst] at x1
                    unfold SlB.val at x0
                    have km : (gt S10 nr).k = m := by rw [x1.1, NB2.out]
                    rw [km] at x0 x1
                    have X1 := Lib.hid x1
                    have X0 := Lib.hid x0
                    have hbb2 := hbb
                    clear C10 o10 e10 a10 b10 h10 hcc x0 x1 x2 x3 lst km
                    generalize (gt S10 nr).A = al at *
                    generalize (gt S10 nr).c = cl2 at *
                    go_wp2_with fail
                    refine (first_is w10 (TT.out.on G10.out.at_)).mono ?_
                    rintro e w11 ⟨rfl, b11⟩
                    have G11 := Lib.hid (G10.out.below b11)
                    have cw := (b11.cell (p := ⟨bb, _, none⟩) hbb2).trans X0.out
                    have C12 := Fr.bytes_is w11 al B m cl2 m cb b b (X1.out.below b11) (HB.out.below G11.out.at_)
                    rw [show decide (b = b) = true from decide_eq_true rfl] at C12
                    have k1 : (nr : Int) < ((nr + 1 : Nat) : Int) := by omega
                    have k2 : (0 : Int) ≤ (nr : Int) := by omega
                    clear b11
                    go_wp2_with fail
                    refine C12.mono ?_
                    rintro e w12 ⟨rfl, rfl⟩
                    clear C12
                    have C13 := synced_is w12 q _ _ _ dv9 G11.out.g.d
                    go_wp2_with fail
                    refine C13.mono ?_
                    rintro e w13 ⟨rfl, b13⟩
                    have F := Lib.hid (G11.out.below b13).at_
                    have z9 : ((nb + FB : Nat) : Int) = (nb : Int) + 6 + m := by omega
                    clear C13 b13
                    go_wp2
                    go_ret
                    exact ⟨ret_bool (by rw [beq_iff_eq]; omega), F.out⟩
                  · have EE : wlE size l b = 9 := by
                      unfold wlE appE
                      rw [if_pos (by rw [← NB2.out]; exact f1), hFB, HL.out, if_neg (by omega)]
                    have x1 : wlL size l b = l := by unfold wlL; rw [if_neg (by rw [EE]; decide)]
                    have x2 : wlR size l b (bytesS S) = bytesS S := by unfold wlR; rw [if_neg (by rw [EE]; decide)]
                    have x3 : wrY size Y l b = Y := by unfold wrY; rw [if_neg (by rw [EE]; decide)]
                    rw [EE, x1, x2, x3] at C9
                    clear EE x1 x2 x3
                    have q1 : (m : Int) ≤ 8192 := by omega
                    have q2 : (nb : Int) ≤ size := by omega
                    have q3 : ¬ (m : Int) + 6 ≤ size - nb := by omega
                    have q33 : decide ((m : Int) + 6 ≤ size - nb) = false := decide_eq_false q3
                    go_wp2_with fail
                    refine C9.mono ?_
                    rintro e w9 ⟨rfl, dv9, v9, S9, g9, e9, kp9, n9⟩
                    clear C9
                    have O9 := Lib.hid (ownl_kp OS7.out kp9 AW.out)
                    have B9 := Lib.hid (own_kp OL7.out kp9 fun g hg z => by have := (World.ownsRow.lt OL7.out g hg).1; have := LT5.out g z; omega)
                    have G9 := Lib.hid (G7.out.next g9 kp9 n9)
                    have E9 := Lib.hid e9
                    clear g9 e9 kp9 n9
                    go_wp2_with fail
                    all_goals try (exfalso; omega)
                    refine (first_is w9 (TT.out.on G9.out.at_)).mono ?_
                    rintro e w10 ⟨rfl, b10⟩
                    have G10 := Lib.hid (G9.out.below b10)
                    have O10 := Lib.hid (O9.out.on b10)
                    have B10 := Lib.hid (B9.out.on b10)
                    clear b10
                    have C10 := bytes_is w10 q size Y l dv9 G10.out.g.d (by rw [HL.out]; omega)
                    go_wp2_with fail
                    refine C10.mono ?_
                    rintro e w11 ⟨u11, rfl, o11, b11⟩
                    obtain ⟨A11, c11, rfl, a11, -, -⟩ := own_atN o11 HL.out
                    have G11 := Lib.hid (G10.out.below b11)
                    have O11 := Lib.hid (O10.out.on b11)
                    obtain ⟨A', c', x', a', -, -⟩ := own_atN (B10.out.on b11) HL.out
                    injection x' with x1 x2 x3
                    subst x1; subst x3
                    have C11 := Fr.bytes_is w11 A11 Ab nb c11 nb cb2 l l a11 a'
                    rw [show decide (l = l) = true from decide_eq_true rfl] at C11
                    clear C10 o11 a11 b11 a' x2
                    go_wp2_with fail
                    refine C11.mono ?_
                    rintro e w12 ⟨rfl, rfl⟩
                    clear C11
                    have C12 := recs_is w12 p q _ _ _ dv9 v9 S9 G11.out.g (by rw [← bytesS_len, E9.out, HNR.out]; omega) (fun x hx => by rw [E9.out] at hx; have := KG.out.ok x hx; omega)
                    go_wp2_with fail
                    refine C12.mono ?_
                    rintro e w13 ⟨u13, S13, rfl, o13, e13, b13⟩
                    have h13 : S13.length = nr := by rw [← bytesS_len, e13, E9.out, HNR.out]
                    obtain ⟨A13, c13, rfl, a13, -, -⟩ := ownl_at o13 h13
                    have G13 := Lib.hid (G11.out.below b13)
                    obtain ⟨A', c', x', a', -, -⟩ := ownl_at (O11.out.on b13) H5.out
                    injection x' with x1 x2 x3
                    subst x1; subst x3
                    have C13 := lists_is w13 A13 A5 nr c13 nr c5 S13 S5 a13 a' (by omega) (by omega)
                    rw [show decide (bytesS S13 = bytesS S5) = true from decide_eq_true (by rw [e13, E9.out, E5.out])] at C13
                    clear C12 o13 a13 b13 h13 e13 a' x2
                    go_wp2_with fail
                    refine C13.mono ?_
                    rintro e w14 ⟨rfl, b14⟩
                    have F := Lib.hid (G13.out.below b14).at_
                    clear C13 b14
                    go_wp2
                    go_ret
                    exact ⟨rfl, F.out⟩
                · have EE : wlE size l b = 9 := by
                    unfold wlE appE
                    rw [if_pos (by rw [← NB2.out]; exact f1), hFB, HL.out, if_neg (by omega)]
                  have x1 : wlL size l b = l := by unfold wlL; rw [if_neg (by rw [EE]; decide)]
                  have x2 : wlR size l b (bytesS S) = bytesS S := by unfold wlR; rw [if_neg (by rw [EE]; decide)]
                  have x3 : wrY size Y l b = Y := by unfold wrY; rw [if_neg (by rw [EE]; decide)]
                  rw [EE, x1, x2, x3] at C9
                  clear EE x1 x2 x3
                  have q1 : (m : Int) ≤ 8192 := by omega
                  have q2 : ¬ (nb : Int) ≤ size := by omega
                  have q22 : decide ((nb : Int) ≤ size) = false := decide_eq_false q2
                  go_wp2_with fail
                  refine C9.mono ?_
                  rintro e w9 ⟨rfl, dv9, v9, S9, g9, e9, kp9, n9⟩
                  clear C9
                  have O9 := Lib.hid (ownl_kp OS7.out kp9 AW.out)
                  have B9 := Lib.hid (own_kp OL7.out kp9 fun g hg z => by have := (World.ownsRow.lt OL7.out g hg).1; have := LT5.out g z; omega)
                  have G9 := Lib.hid (G7.out.next g9 kp9 n9)
                  have E9 := Lib.hid e9
                  clear g9 e9 kp9 n9
                  go_wp2_with fail
                  all_goals try (exfalso; omega)
                  refine (first_is w9 (TT.out.on G9.out.at_)).mono ?_
                  rintro e w10 ⟨rfl, b10⟩
                  have G10 := Lib.hid (G9.out.below b10)
                  have O10 := Lib.hid (O9.out.on b10)
                  have B10 := Lib.hid (B9.out.on b10)
                  clear b10
                  have C10 := bytes_is w10 q size Y l dv9 G10.out.g.d (by rw [HL.out]; omega)
                  go_wp2_with fail
                  refine C10.mono ?_
                  rintro e w11 ⟨u11, rfl, o11, b11⟩
                  obtain ⟨A11, c11, rfl, a11, -, -⟩ := own_atN o11 HL.out
                  have G11 := Lib.hid (G10.out.below b11)
                  have O11 := Lib.hid (O10.out.on b11)
                  obtain ⟨A', c', x', a', -, -⟩ := own_atN (B10.out.on b11) HL.out
                  injection x' with x1 x2 x3
                  subst x1; subst x3
                  have C11 := Fr.bytes_is w11 A11 Ab nb c11 nb cb2 l l a11 a'
                  rw [show decide (l = l) = true from decide_eq_true rfl] at C11
                  clear C10 o11 a11 b11 a' x2
                  go_wp2_with fail
                  refine C11.mono ?_
                  rintro e w12 ⟨rfl, rfl⟩
                  clear C11
                  have C12 := recs_is w12 p q _ _ _ dv9 v9 S9 G11.out.g (by rw [← bytesS_len, E9.out, HNR.out]; omega) (fun x hx => by rw [E9.out] at hx; have := KG.out.ok x hx; omega)
                  go_wp2_with fail
                  refine C12.mono ?_
                  rintro e w13 ⟨u13, S13, rfl, o13, e13, b13⟩
                  have h13 : S13.length = nr := by rw [← bytesS_len, e13, E9.out, HNR.out]
                  obtain ⟨A13, c13, rfl, a13, -, -⟩ := ownl_at o13 h13
                  have G13 := Lib.hid (G11.out.below b13)
                  obtain ⟨A', c', x', a', -, -⟩ := ownl_at (O11.out.on b13) H5.out
                  injection x' with x1 x2 x3
                  subst x1; subst x3
                  have C13 := lists_is w13 A13 A5 nr c13 nr c5 S13 S5 a13 a' (by omega) (by omega)
                  rw [show decide (bytesS S13 = bytesS S5) = true from decide_eq_true (by rw [e13, E9.out, E5.out])] at C13
                  clear C12 o13 a13 b13 h13 e13 a' x2
                  go_wp2_with fail
                  refine C13.mono ?_
                  rintro e w14 ⟨rfl, b14⟩
                  have F := Lib.hid (G13.out.below b14).at_
                  clear C13 b14
                  go_wp2
                  go_ret
                  exact ⟨rfl, F.out⟩
              · have EE : wlE size l b = 3 := by
                  unfold wlE
                  rw [if_neg (by rw [← NB2.out]; exact f1)]
                have x1 : wlL size l b = l := by unfold wlL; rw [if_neg (by rw [EE]; decide)]
                have x2 : wlR size l b (bytesS S) = bytesS S := by unfold wlR; rw [if_neg (by rw [EE]; decide)]
                have x3 : wrY size Y l b = Y := by unfold wrY; rw [if_neg (by rw [EE]; decide)]
                rw [EE, x1, x2, x3] at C9
                clear EE x1 x2 x3
                have q1 : ¬ (m : Int) ≤ 8192 := by omega
                have q11 : decide ((m : Int) ≤ 8192) = false := decide_eq_false q1
                go_wp2_with fail
                refine C9.mono ?_
                rintro e w9 ⟨rfl, dv9, v9, S9, g9, e9, kp9, n9⟩
                clear C9
                have O9 := Lib.hid (ownl_kp OS7.out kp9 AW.out)
                have B9 := Lib.hid (own_kp OL7.out kp9 fun g hg z => by have := (World.ownsRow.lt OL7.out g hg).1; have := LT5.out g z; omega)
                have G9 := Lib.hid (G7.out.next g9 kp9 n9)
                have E9 := Lib.hid e9
                clear g9 e9 kp9 n9
                go_wp2_with fail
                all_goals try (exfalso; omega)
                refine (first_is w9 (TT.out.on G9.out.at_)).mono ?_
                rintro e w10 ⟨rfl, b10⟩
                have G10 := Lib.hid (G9.out.below b10)
                have O10 := Lib.hid (O9.out.on b10)
                have B10 := Lib.hid (B9.out.on b10)
                clear b10
                have C10 := bytes_is w10 q size Y l dv9 G10.out.g.d (by rw [HL.out]; omega)
                go_wp2_with fail
                refine C10.mono ?_
                rintro e w11 ⟨u11, rfl, o11, b11⟩
                obtain ⟨A11, c11, rfl, a11, -, -⟩ := own_atN o11 HL.out
                have G11 := Lib.hid (G10.out.below b11)
                have O11 := Lib.hid (O10.out.on b11)
                obtain ⟨A', c', x', a', -, -⟩ := own_atN (B10.out.on b11) HL.out
                injection x' with x1 x2 x3
                subst x1; subst x3
                have C11 := Fr.bytes_is w11 A11 Ab nb c11 nb cb2 l l a11 a'
                rw [show decide (l = l) = true from decide_eq_true rfl] at C11
                clear C10 o11 a11 b11 a' x2
                go_wp2_with fail
                refine C11.mono ?_
                rintro e w12 ⟨rfl, rfl⟩
                clear C11
                have C12 := recs_is w12 p q _ _ _ dv9 v9 S9 G11.out.g (by rw [← bytesS_len, E9.out, HNR.out]; omega) (fun x hx => by rw [E9.out] at hx; have := KG.out.ok x hx; omega)
                go_wp2_with fail
                refine C12.mono ?_
                rintro e w13 ⟨u13, S13, rfl, o13, e13, b13⟩
                have h13 : S13.length = nr := by rw [← bytesS_len, e13, E9.out, HNR.out]
                obtain ⟨A13, c13, rfl, a13, -, -⟩ := ownl_at o13 h13
                have G13 := Lib.hid (G11.out.below b13)
                obtain ⟨A', c', x', a', -, -⟩ := ownl_at (O11.out.on b13) H5.out
                injection x' with x1 x2 x3
                subst x1; subst x3
                have C13 := lists_is w13 A13 A5 nr c13 nr c5 S13 S5 a13 a' (by omega) (by omega)
                rw [show decide (bytesS S13 = bytesS S5) = true from decide_eq_true (by rw [e13, E9.out, E5.out])] at C13
                clear C12 o13 a13 b13 h13 e13 a' x2
                go_wp2_with fail
                refine C13.mono ?_
                rintro e w14 ⟨rfl, b14⟩
                have F := Lib.hid (G13.out.below b14).at_
                clear C13 b14
                go_wp2
                go_ret
                exact ⟨rfl, F.out⟩
  · have C1 := fun w => new_no w size hs l1 u1
    go_enter Tryd.func5, Tryd.ntmps5
    go_wp2_with fail
    refine (first_is W TT.out).mono ?_
    rintro e w0 ⟨rfl, b0⟩
    have B0 := Lib.hid b0
    clear b0
    go_wp2_with fail
    refine (C1 w0).mono ?_
    rintro e w1 ⟨rfl, b1⟩
    clear C1
    have B1 := Lib.hid (B0.out.trans (b1.mono B0.out.size))
    clear b1
    go_wp2_with fail
    refine (first_is w1 (TT.out.on B1.out)).mono ?_
    rintro e w3 ⟨rfl, b3⟩
    have G := Lib.hid (B1.out.trans (b3.mono B1.out.size))
    clear b3
    go_wp2
    go_ret
    exact ⟨rfl, G.out⟩
end Go.Proofs.YtniphbfoppocfaaDoor.Wl
