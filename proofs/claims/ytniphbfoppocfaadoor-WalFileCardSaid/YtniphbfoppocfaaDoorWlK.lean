/- The walk of voklaw15.WalKeeps. -/
import Derived.Test.YtniphbfoppocfaaDoorWlKM
set_option linter.unusedVariables false
namespace Go.Proofs.YtniphbfoppocfaaDoor.Wl
open Go.RowKit Fr Dk

/-- behind t operations -/
def KpR (W : World) (size : Int) (q : Nat) (p : Nat) (O : List OpW) (t s : Nat) (wr : World) (Y : Int) (l : List UInt8) (dv v : Value) (S : List SlB) : Prop :=
  Lsk W wr p q size Y l dv v S ∧ Kg Y l (bytesS S) s ∧ l.length ≤ 1800 + 6 * t + sumW O t ∧ (bytesS S).length ≤ 300 + t
set_option maxRecDepth 100000 in
set_option maxHeartbeats 8000000 in
theorem keeps_walk (W : World) (T : Tab W) (size : Int) (A : Option Addr) (n cc : Nat) (O : List OpW) (keep : Int) (h : OsW W A n O) (hn : n ≤ 9223372036854775807) (l1 : -9223372036854775808 ≤ size) (u1 : size ≤ 9223372036854775807) (l2 : -9223372036854775808 ≤ keep) (u2 : keep ≤ 9223372036854775807) :
    Calls Tryd.prog 4 #[.int .i64 size, .slice A n cc, .int .i64 keep] W fun e w' => e = .returned (.bool true) ∧ Below W.heap.size W w' := by
  have H := Lib.hid h
  have TT := Lib.hid T
  clear h T
  by_cases hs : 0 ≤ size ∧ size ≤ 1073741824
  · obtain ⟨h0, h1⟩ := hs
    go_enter Tryd.func4, Tryd.ntmps4
    go_wp2_with fail
    refine (first_is W TT.out).mono ?_
    rintro e w0 ⟨rfl, b0⟩
    have B0 := Lib.hid b0
    clear b0
    have C1 := new_yes w0 size h0 h1
    go_wp2_with fail
    refine C1.mono ?_
    rintro e w1 ⟨q, dv1, rfl, d1, b1, g1⟩
    clear C1
    have B1 := Lib.hid (B0.out.trans (b1.mono B0.out.size))
    have DD := Lib.hid d1
    have G1 := Lib.hid (show ∀ k, Ft q dv1 k → W.heap.size ≤ k from fun k hk => Nat.le_trans B0.out.size (g1 k hk))
    have C2 := feww_is w1 A n cc O (H.out.below B1.out) hn
    clear d1 b1 g1
    go_wp2_with fail
    all_goals try (exfalso; omega)
    refine C2.mono ?_
    rintro e w2 ⟨rfl, rfl⟩
    clear C2
    cases hf : fewW O n with
    | false =>
      clear hf
      go_wp2_with fail
      refine (first_is w2 (TT.out.on B1.out)).mono ?_
      rintro e w3 ⟨rfl, b3⟩
      have G := Lib.hid (B1.out.trans (b3.mono B1.out.size))
      clear b3
      go_wp2
      go_ret
      exact ⟨rfl, G.out⟩
    | true =>
      have HF := Lib.hid hf
      clear hf
      have C3 := open_is w2 q size 0 [] dv1 (TT.out.on B1.out) DD.out (by decide)
      go_wp2_with fail
      refine C3.mono ?_
      intro e w3 o3
      obtain ⟨p, v3, S3, dv3, rfl, g3, s3⟩ := Lsk.open_ DD.out G1.out B1.out o3
      clear C3 o3
      have K3 := Lib.hid (show KpR W size q p O 0 0 w3 0 [] dv3 v3 S3 from ⟨g3, by rw [s3]; exact Kg.start, Nat.zero_le _, by rw [s3]; exact Nat.zero_le _⟩)
      clear g3 s3
      go_wp2
      go_loopw [11, 12] (fun s i wr => ∃ (t k : Nat) (Y : Int) (l : List UInt8) (dv v : Value) (S : List SlB), t ≤ n ∧ i = .int .i64 (t : Nat) ∧ s = .int .i64 (k : Nat) ∧ KpR W size q p O t k wr Y l dv v S) (fun _ i _ => n - (intOf i).toNat)
      case atStart => exact ⟨0, 0, 0, [], dv3, v3, S3, Nat.zero_le _, rfl, rfl, K3.out⟩
      case round =>
        obtain ⟨t, k, Y, l, dv, v, S, ht, rfl, rfl, hK⟩ := hrel
        have KK := Lib.hid hK
        obtain ⟨hG, hk, hl, hr⟩ := hK
        have G := Lib.hid hG
        have KG := Lib.hid hk
        clear hG hk
        by_cases hlt : t < n
        · have i5 : (t : Int) < n := by omega
          obtain ⟨b, off, rfl, hc⟩ := ow_cell H.out hlt
          obtain ⟨c0, c1, c2, c3, oi⟩ := hc wr G.out.at_
          have OI := Lib.hid oi
          obtain ⟨f1, f2, f3, f4, f5, f6, f7, f8, f9⟩ := few_op HF.out hlt oi
          have LIM := Lib.hid (show t + 1 ≤ 100 by omega)
          have SL : S.length ≤ 400 := by rw [← bytesS_len]; omega
          have far := Lib.hid (show 0 < (gt O t).m → ∀ g off, (gt O t).A = some ⟨g, off, none⟩ → ¬ Al p q dv v S g from fun h0 g off e => by
            have := (hc W (Below.refl _ _)).2.2.2.2.1.2 h0
            obtain ⟨b', off', e', hb', -⟩ := this
            rw [e] at e'
            injection e' with e'
            injection e' with e'
            exact G.out.far (e' ▸ hb'))
          have TW := Lib.hid (TT.out.on G.out.at_)
          have CA := Lib.hid (lapp_is wr p q size Y l dv v S (gt O t).A (gt O t).m (gt O t).c (gt O t).b TW.out G.out.g OI.out.1 OI.out.2.2.1 (by omega) (by omega) (by omega) h0 (by omega) far.out)
          have CP := Lib.hid (lput_is wr p q size Y l dv v S (gt O t).A (gt O t).m (gt O t).c (gt O t).b TW.out G.out.g OI.out.1 OI.out.2.2.1 (by omega) (by omega) (by omega) h0 (by omega) far.out)
          have CS := Lib.hid (lsync_is wr p q size Y l dv v S G.out.g (by omega))
          have CC := Lib.hid (lcheck_is W wr p q size Y l dv v S (gt O t).B (gt O t).N (gt O t).C (gt O t).P TW.out G.out.g (hc W (Below.refl _ _)).2.2.2.2.2.2.2.2.1 G.out.at_ (fun k hk => G.out.hi k (.inr (.inr hk))) (by omega) (by omega))
          have ll := wlL_len size l (gt O t).b
          have lr := wlR_len size l (gt O t).b (bytesS S)
          have NA := Lib.hid (show ∀ w' dv' v' S', LgV 67 62 w' p q size Y (wlL size l (gt O t).b) dv' v' S' → bytesS S' = wlR size l (gt O t).b (bytesS S) → Kp (Al p q dv v S) wr w' → (∀ g, Al p q dv' v' S' g → Al p q dv v S g ∨ wr.heap.size ≤ g) → KpR W size q p O (t + 1) k w' Y (wlL size l (gt O t).b) dv' v' S' from fun w' dv' v' S' g e kp nn =>
            ⟨G.out.next g kp nn, e ▸ KG.out.app size _, by omega, by rw [e]; omega⟩)
          have NP := Lib.hid (show ∀ w' dv' v' S', LgV 67 62 w' p q size (wrY size Y l (gt O t).b) (wlL size l (gt O t).b) dv' v' S' → bytesS S' = wlR size l (gt O t).b (bytesS S) → Kp (Al p q dv v S) wr w' → (∀ g, Al p q dv' v' S' g → Al p q dv v S g ∨ wr.heap.size ≤ g) → KpR W size q p O (t + 1) (if wlE size l (gt O t).b = 0 then (bytesS S').length else k) w' (wrY size Y l (gt O t).b) (wlL size l (gt O t).b) dv' v' S' from fun w' dv' v' S' g e kp nn =>
            ⟨G.out.next g kp nn, by rw [e]; exact KG.out.put size _, by omega, by rw [e]; omega⟩)
          have NC := Lib.hid (show ∀ w' dv' v' S', LgV 67 62 w' p q size (ckY size Y (bytesS (gt O t).P)) (ckL size l (bytesS (gt O t).P)) dv' v' S' → bytesS S' = ckR size (bytesS S) (bytesS (gt O t).P) → Kp (Al p q dv v S) wr w' → (∀ g, Al p q dv' v' S' g → Al p q dv v S g ∨ wr.heap.size ≤ g) → KpR W size q p O (t + 1) (if ckE size (bytesS (gt O t).P) = 0 then (bytesS S').length else k) w' (ckY size Y (bytesS (gt O t).P)) (ckL size l (bytesS (gt O t).P)) dv' v' S' from fun w' dv' v' S' g e kp nn =>
            ⟨G.out.next g kp nn, by rw [e]; exact KG.out.check size _, ckL_max _ _ _ (by omega) (by omega), by rw [e]; exact ckR_max _ _ _ (by omega) (by omega)⟩)
          have NS := Lib.hid (show ∀ w' dv' v' S', LgV 67 62 w' p q size (l.length : Nat) l dv' v' S' → bytesS S' = bytesS S → Kp (Al p q dv v S) wr w' → (∀ g, Al p q dv' v' S' g → Al p q dv v S g ∨ wr.heap.size ≤ g) → KpR W size q p O (t + 1) (bytesS S').length w' (l.length : Nat) l dv' v' S' from fun w' dv' v' S' g e kp nn =>
            ⟨G.out.next g kp nn, by rw [e]; exact KG.out.sync, by omega, by rw [e]; omega⟩)
          have N0 := Lib.hid (show KpR W size q p O (t + 1) k wr Y l dv v S from ⟨G.out, KG.out, by omega, by omega⟩)
          clear hc oi c1 ll lr hl hr f1 f2 f3 f4 f5 f6 f7 f8 f9 far
          generalize gt O t = o at *
          obtain ⟨kd, nd, az, mz, cz, bz, aB, N, C, P⟩ := o
          simp only at c0 c2 c3 CA CP CC NA NP NC
          by_cases k0 : kd = 0
          · subst k0
            go_wp2_with fail
            refine CA.out.mono ?_
            rintro e w4 ⟨rfl, dv4, v4, S4, g4, e4, kp4, n4⟩
            have F := Lib.hid (NA.out w4 dv4 v4 S4 g4 e4 kp4 n4)
            clear g4 e4 kp4 n4
            go_wp2
            go_roundw
            case rel => exact ⟨t + 1, k, _, _, _, _, _, by omega, by go_num, rfl, F.out⟩
            case measure => simp [intOf]; omega
          by_cases k1 : kd = 1
          · subst k1
            go_wp2_with fail
            refine CS.out.mono ?_
            rintro e w4 ⟨rfl, dv4, v4, S4, g4, e4, kp4, n4⟩
            have F := Lib.hid (NS.out w4 dv4 v4 S4 g4 e4 kp4 n4)
            clear g4 e4 kp4 n4
            have C5 := recs_is w4 p q _ _ _ dv4 v4 S4 F.out.1.g (by rw [← bytesS_len]; have := F.out.2.2.2; have := LIM.out; omega) (fun x hx => by have := F.out.2.1.ok x hx; omega)
            go_wp2_with fail
            refine C5.mono ?_
            rintro e w5 ⟨u5, S5, rfl, o5, e5, b5⟩
            obtain ⟨n5, h5⟩ : ∃ n5, S5.length = n5 := ⟨_, rfl⟩
            obtain ⟨A5, c5, x5, -, -, -⟩ := o5.at_
            rw [h5] at x5
            subst x5
            have LL := Lib.hid (show (bytesS S4).length = n5 by rw [← e5, bytesS_len]; exact h5)
            have F5 := Lib.hid (show KpR W size q p O (t + 1) _ w5 _ _ dv4 v4 S4 from ⟨F.out.1.below b5, F.out.2⟩)
            clear C5 o5 e5 b5 h5
            go_wp2
            go_roundw
            case rel => exact ⟨t + 1, n5, _, _, _, _, _, by omega, by go_num, rfl, by rw [← LL.out]; exact F5.out⟩
            case measure => simp [intOf]; omega
          by_cases k2 : kd = 2
          · subst k2
            obtain ⟨E, hE⟩ : ∃ E, wlE size l bz = E := ⟨_, rfl⟩
            by_cases e0 : E = 0
            · have EE := Lib.hid (hE.trans e0)
              clear hE e0
              have C4 := CP.out
              rw [EE.out] at C4
              go_wp2_with fail
              refine C4.mono ?_
              rintro e w4 ⟨rfl, dv4, v4, S4, g4, e4, kp4, n4⟩
              have F := Lib.hid (show KpR W size q p O (t + 1) (bytesS S4).length w4 _ _ dv4 v4 S4 from by have := NP.out w4 dv4 v4 S4 g4 e4 kp4 n4; rwa [if_pos EE.out] at this)
              clear g4 e4 kp4 n4 C4
              have C5 := recs_is w4 p q _ _ _ dv4 v4 S4 F.out.1.g (by rw [← bytesS_len]; have := F.out.2.2.2; have := LIM.out; omega) (fun x hx => by have := F.out.2.1.ok x hx; omega)
              go_wp2_with fail
              refine C5.mono ?_
              rintro e w5 ⟨u5, S5, rfl, o5, e5, b5⟩
              obtain ⟨n5, h5⟩ : ∃ n5, S5.length = n5 := ⟨_, rfl⟩
              obtain ⟨A5, c5, x5, -, -, -⟩ := o5.at_
              rw [h5] at x5
              subst x5
              have LL := Lib.hid (show (bytesS S4).length = n5 by rw [← e5, bytesS_len]; exact h5)
              have F5 := Lib.hid (show KpR W size q p O (t + 1) _ w5 _ _ dv4 v4 S4 from ⟨F.out.1.below b5, F.out.2⟩)
              clear C5 o5 e5 b5 h5
              go_wp2
              go_roundw
              case rel => exact ⟨t + 1, n5, _, _, _, _, _, by omega, by go_num, rfl, by rw [← LL.out]; exact F5.out⟩
              case measure => simp [intOf]; omega
            · have EE := Lib.hid hE
              have e1 : (((E : Nat) : Int) == 0) = false := wrap_e E e0
              have e2 : (E == 0) = false := by rw [beq_eq_false_iff_ne]; exact e0
              have C4 := CP.out
              rw [EE.out] at C4
              clear hE
              go_wp2_with fail
              refine C4.mono ?_
              rintro e w4 ⟨rfl, dv4, v4, S4, g4, e4, kp4, n4⟩
              have F := Lib.hid (show KpR W size q p O (t + 1) k w4 _ _ dv4 v4 S4 from by have := NP.out w4 dv4 v4 S4 g4 e4 kp4 n4; rwa [if_neg (by rw [EE.out]; exact e0)] at this)
              clear g4 e4 kp4 n4 C4
              go_wp2
              go_roundw
              case rel => exact ⟨t + 1, k, _, _, _, _, _, by omega, by go_num, rfl, F.out⟩
              case measure => simp [intOf]; omega
          by_cases k3 : kd = 3
          · subst k3
            obtain ⟨E, hE⟩ : ∃ E, ckE size (bytesS P) = E := ⟨_, rfl⟩
            by_cases e0 : E = 0
            · have EE := Lib.hid (hE.trans e0)
              clear hE e0
              have C4 := CC.out
              rw [EE.out] at C4
              go_wp2_with fail
              refine C4.mono ?_
              rintro e w4 ⟨rfl, dv4, v4, S4, g4, e4, kp4, n4⟩
              have F := Lib.hid (show KpR W size q p O (t + 1) (bytesS S4).length w4 _ _ dv4 v4 S4 from by have := NC.out w4 dv4 v4 S4 g4 e4 kp4 n4; rwa [if_pos EE.out] at this)
              clear g4 e4 kp4 n4 C4
              have C5 := recs_is w4 p q _ _ _ dv4 v4 S4 F.out.1.g (by rw [← bytesS_len]; have := F.out.2.2.2; have := LIM.out; omega) (fun x hx => by have := F.out.2.1.ok x hx; omega)
              go_wp2_with fail
              refine C5.mono ?_
              rintro e w5 ⟨u5, S5, rfl, o5, e5, b5⟩
              obtain ⟨n5, h5⟩ : ∃ n5, S5.length = n5 := ⟨_, rfl⟩
              obtain ⟨A5, c5, x5, -, -, -⟩ := o5.at_
              rw [h5] at x5
              subst x5
              have LL := Lib.hid (show (bytesS S4).length = n5 by rw [← e5, bytesS_len]; exact h5)
              have F5 := Lib.hid (show KpR W size q p O (t + 1) _ w5 _ _ dv4 v4 S4 from ⟨F.out.1.below b5, F.out.2⟩)
              clear C5 o5 e5 b5 h5
              go_wp2
              go_roundw
              case rel => exact ⟨t + 1, n5, _, _, _, _, _, by omega, by go_num, rfl, by rw [← LL.out]; exact F5.out⟩
              case measure => simp [intOf]; omega
            · have EE := Lib.hid hE
              have e1 : (((E : Nat) : Int) == 0) = false := wrap_e E e0
              have e2 : (E == 0) = false := by rw [beq_eq_false_iff_ne]; exact e0
              have C4 := CC.out
              rw [EE.out] at C4
              clear hE
              go_wp2_with fail
              refine C4.mono ?_
              rintro e w4 ⟨rfl, dv4, v4, S4, g4, e4, kp4, n4⟩
              have F := Lib.hid (show KpR W size q p O (t + 1) k w4 _ _ dv4 v4 S4 from by have := NC.out w4 dv4 v4 S4 g4 e4 kp4 n4; rwa [if_neg (by rw [EE.out]; exact e0)] at this)
              clear g4 e4 kp4 n4 C4
              go_wp2
              go_roundw
              case rel => exact ⟨t + 1, k, _, _, _, _, _, by omega, by go_num, rfl, F.out⟩
              case measure => simp [intOf]; omega
          have s0 : (kd == 0) = false := by rw [beq_eq_false_iff_ne]; exact k0
          have s1 : (kd == 1) = false := by rw [beq_eq_false_iff_ne]; exact k1
          have s2 : (kd == 2) = false := by rw [beq_eq_false_iff_ne]; exact k2
          have s3 : (kd == 3) = false := by rw [beq_eq_false_iff_ne]; exact k3
          go_wp2
          go_roundw
          case rel => exact ⟨t + 1, k, _, _, _, _, _, by omega, by go_num, rfl, N0.out⟩
          case measure => simp [intOf]; omega
        · obtain rfl : n = t := by omega
          have HK := Lib.hid (few_all HF.out)
          have lb : l.length ≤ 90000 := by have := HK.out; omega
          have rb : (bytesS S).length ≤ 400 := by have := HK.out; omega
          obtain ⟨N, n1, n2, n3, n4, cr0, cr1⟩ := KG.out.crash keep
          obtain ⟨y0, y1⟩ := KG.out.y0
          have C5 := recs_is wr p q _ _ _ dv v S G.out.g (by rw [← bytesS_len]; omega) (fun x hx => by have := KG.out.ok x hx; omega)
          obtain ⟨nr, hnr⟩ : ∃ nr, (bytesS S).length = nr := ⟨_, rfl⟩
          have HNR := Lib.hid hnr
          rw [hnr] at n2 rb
          have IS := Lib.hid KG.out.is
          have N3 := Lib.hid n3
          have N4 := Lib.hid n4
          clear hl hr KK n3 n4 hnr
          go_wp2_with fail
          refine C5.mono ?_
          rintro e w5 ⟨u5, S5, rfl, o5, e5, b5⟩
          have h5 : S5.length = nr := by rw [← bytesS_len, e5, HNR.out]
          obtain ⟨A5, c5, rfl, -, -, -⟩ := ownl_at o5 h5
          have AW := Lib.hid (AwayL.of G.out.g.d o5)
          have O5 := Lib.hid o5
          have E5 := Lib.hid e5
          have H5 := Lib.hid h5
          have G5 := Lib.hid (G.out.below b5)
          clear C5 o5 e5 b5 h5
          have C6 := crash_is w5 q size Y l dv keep G5.out.g.d (by omega) y0 y1 l2 u2
          go_wp2_with fail
          refine C6.mono ?_
          rintro e w6 ⟨rfl, dv6, d6, k6, n6⟩
          clear C6
          have G6 := Lib.hid (G5.out.disk d6 k6 n6)
          have O6 := Lib.hid (away_own AW.out O5.out k6)
          have AW6 := Lib.hid (AW.out.next k6 (ft_of_new n6))
          clear d6 k6 n6
          generalize crN Y l keep = cr at *
          obtain ⟨l6, hl6⟩ : ∃ l6, l.take cr.toNat = l6 := ⟨_, rfl⟩
          have L6 := Lib.hid (show l6.length ≤ 100000 by rw [← hl6, List.length_take]; omega)
          have X6 := Lib.hid (show l6.take (framesL ((bytesS S).take N)).length = framesL ((bytesS S).take N) by rw [← hl6, IS.out]; exact file_cut N4.out)
          rw [hl6] at G6 N3
          clear hl6
          have C7 := open_is w6 q size cr l6 dv6 (TT.out.on G6.out.at_) G6.out.g.d L6.out
          go_wp2_with fail
          refine C7.mono ?_
          intro e w7 o7
          obtain ⟨p7, v7, S7, dv7, rfl, g7, s7, k7, n7⟩ := G6.out.again2 o7
          have O7 := Lib.hid (away_own AW6.out O6.out k7)
          have AW7 := Lib.hid (AW6.out.next k7 n7)
          have ON := Lib.hid (show openN l6 = (framesL ((bytesS S).take N)).length by unfold openN; rw [N3.out])
          rw [ON.out, X6.out] at g7
          rw [N3.out] at s7
          have G7 := Lib.hid g7
          have E7 := Lib.hid (show bytesS S7 = (bytesS S).take N from s7)
          obtain ⟨Y7, hY7⟩ : ∃ Y7, min cr ((framesL ((bytesS S).take N)).length : Int) = Y7 := ⟨_, rfl⟩
          rw [hY7] at G7
          have OKN := Lib.hid (fun x (hx : x ∈ (bytesS S).take N) => KG.out.ok x (List.mem_of_mem_take hx))
          clear C7 o7 g7 s7 k7 n7 hY7
          generalize ((l6.length : Int) - (openN l6 : Nat)) = cut6 at *
          have C8 := recs_is w7 p7 q _ _ _ dv7 v7 S7 G7.out.g (by rw [← bytesS_len, E7.out, List.length_take, HNR.out]; omega) (fun x hx => by rw [E7.out] at hx; have := OKN.out x hx; omega)
          go_wp2_with fail
          refine C8.mono ?_
          rintro e w8 ⟨u8, S8, rfl, o8, e8, b8⟩
          have h8 : S8.length = N := by rw [← bytesS_len, e8, E7.out, List.length_take, HNR.out]; omega
          obtain ⟨A8, c8, rfl, -, -, -⟩ := ownl_at o8 h8
          have BW8 := Lib.hid (AwayL.of G7.out.g.d o8)
          have P8 := Lib.hid o8
          have E8 := Lib.hid (show bytesS S8 = (bytesS S).take N from e8.trans E7.out)
          have H8 := Lib.hid h8
          have G8 := Lib.hid (G7.out.below b8)
          have O8 := Lib.hid (O7.out.on b8)
          have AW8 := Lib.hid (AW7.out.below b8)
          clear C8 o8 e8 b8 h8
          have C9 := open_is w8 q size Y7 _ dv7 (TT.out.on G8.out.at_) G8.out.g.d (by rw [← X6.out, List.length_take]; have := L6.out; omega)
          go_wp2_with fail
          refine C9.mono ?_
          intro e w9 o9
          obtain ⟨p9, v9, S9, dv9, rfl, g9, s9, k9, n9⟩ := G8.out.again2 o9
          have O9 := Lib.hid (away_own AW8.out O8.out k9)
          have P9 := Lib.hid (away_own BW8.out P8.out k9)
          have SC := open_again KG.out.ok N
          rw [SC] at s9
          have G9 := Lib.hid g9
          have E9 := Lib.hid (show bytesS S9 = (bytesS S).take N from s9)
          have Z9 : ((framesL ((bytesS S).take N)).length : Int) - (openN (framesL ((bytesS S).take N)) : Nat) = 0 := by unfold openN; rw [SC]; omega
          rw [Z9]
          clear C9 o9 g9 s9 k9 n9 Z9 SC
          go_wp2_with fail
          refine (first_is w9 (TT.out.on G9.out.at_)).mono ?_
          rintro e w10 ⟨rfl, b10⟩
          have G10 := Lib.hid (G9.out.below b10)
          obtain ⟨A5', c5', x5, a5, kc5, -⟩ := ownl_at (O9.out.on b10) H5.out
          obtain ⟨A8', c8', x8, a8, -, -⟩ := ownl_at (P9.out.on b10) H8.out
          injection x5 with x1 x2 x3
          injection x8 with x4 x5 x6
          subst x1; subst x3; subst x4; subst x6
          have LA := Lib.hid a5
          have LB := Lib.hid a8
          have kc : N ≤ c5 := by omega
          have C11 := lists_is w10 A8 A5 N c8 N c5 S8 (S5.take N) a8 (ls_take a5 n2) (by omega) (by omega)
          rw [show decide (bytesS S8 = bytesS (S5.take N)) = true from decide_eq_true (by rw [bytesS_take, E5.out, E8.out])] at C11
          clear b10 a5 a8 x2 x5 kc5
          have kn : (k : Int) ≤ (N : Int) := by omega
          have kr : (N : Int) ≤ (nr : Int) := by omega
          go_wp2_with fail
          refine C11.mono ?_
          rintro e w11 ⟨rfl, b11⟩
          clear C11
          have G11 := Lib.hid (G10.out.below b11)
          have LB11 := Lib.hid (LB.out.below b11)
          clear b11
          have C12 := recs_is w11 p9 q _ _ _ dv9 v9 S9 G11.out.g (by rw [← bytesS_len, E9.out, List.length_take, HNR.out]; omega) (fun x hx => by rw [E9.out] at hx; have := OKN.out x hx; omega)
          go_wp2_with fail
          refine C12.mono ?_
          rintro e w12 ⟨u12, S12, rfl, o12, e12, b12⟩
          have h12 : S12.length = N := by rw [← bytesS_len, e12, E9.out, List.length_take, HNR.out]; omega
          obtain ⟨A12, c12, rfl, a12, -, -⟩ := ownl_at o12 h12
          have G12 := Lib.hid (G11.out.below b12)
          have C13 := lists_is w12 A12 A8 N c12 N c8 S12 S8 a12 (LB11.out.below b12) (by omega) (by omega)
          rw [show decide (bytesS S12 = bytesS S8) = true from decide_eq_true (by rw [e12, E9.out, E8.out])] at C13
          clear C12 o12 a12 e12 b12 h12
          go_wp2_with fail
          refine C13.mono ?_
          rintro e w13 ⟨rfl, b13⟩
          have F := Lib.hid (G12.out.below b13).at_
          clear C13 b13
          go_wp2
          go_ret
          exact ⟨rfl, F.out⟩
  · have C1 := fun w => new_no w size hs l1 u1
    go_enter Tryd.func4, Tryd.ntmps4
    go_wp2_with fail
    refine (first_is W TT.out).mono ?_
    rintro e w0 ⟨rfl, b0⟩
    have B0 := Lib.hid b0
    clear b0
    go_wp2_with fail
    refine (C1 w0).mono ?_
    rintro e w1 ⟨rfl, b1⟩
    clear C1
    have B1 := Lib.hid (B0.out.trans (b1.mono B0.out.size))
    clear b1
    go_wp2_with fail
    refine (first_is w1 (TT.out.on B1.out)).mono ?_
    rintro e w3 ⟨rfl, b3⟩
    have G := Lib.hid (B1.out.trans (b3.mono B1.out.size))
    clear b3
    go_wp2
    go_ret
    exact ⟨rfl, G.out⟩
end Go.Proofs.YtniphbfoppocfaaDoor.Wl
