/- The walks of package wal: Open, Append, Put, Sync, Disk. -/
import Derived.Test.YtniphbfoppocfaaDoorWlB
set_option linter.unusedVariables false
namespace Go.Proofs.YtniphbfoppocfaaDoor.Wl
open Go.RowKit Fr Dk

set_option maxRecDepth 100000 in
set_option maxHeartbeats 4000000 in
theorem lapp_is (w : World) (p q : Nat) (R Y : Int) (l : List UInt8) (dv v : Value) (S : List SlB) (A : Option Addr) (n c : Nat) (b : List UInt8) (T : Tab w) (h : LgV 67 62 w p q R Y l dv v S) (hb : BsAt w A n b) (hA : A = none → c = 0) (hl : l.length ≤ 90000) (hn : n ≤ 1000000) (hS : S.length ≤ 100000) (hR0 : 0 ≤ R) (hR : R ≤ 2000000000) (hX : 0 < n → ∀ g off, A = some ⟨g, off, none⟩ → ¬ Al p q dv v S g) :
    Calls Tryd.prog 15 #[.pointer (some ⟨p, 0, none⟩), .slice A n c] w (LgT 67 62 w p q dv v S R Y (wlL R l b) (wlR R l b (bytesS S)) (.int .i64 (wlE R l b : Nat))) := by
  obtain rfl : n = b.length := hb.1
  obtain ⟨n, hN⟩ : ∃ n, b.length = n := ⟨_, rfl⟩
  rw [hN] at hb hn hX ⊢
  have HG := Lib.hid h
  have HB := Lib.hid hb
  have HA := Lib.hid hA
  have HN := Lib.hid hN
  have HSL := Lib.hid hS
  have XB := Lib.hid hX
  have C1 := Lib.hid (put_is w A n c b T hb hA hn)
  clear h hb hA hX
  by_cases h8 : n ≤ 8192
  · have e1 : putE b = 0 := by unfold putE; rw [if_pos (by rw [hN]; exact h8)]
    have e2 : putV b = frameL b := by unfold putV; rw [if_pos (by rw [hN]; exact h8)]
    have fl : (frameL b).length = 6 + n := by rw [frameL_len, hN]
    have C2 := Lib.hid (fun w1 (b1 : Below w.heap.size w w1) A1 c1 (a1 : BsAt w1 A1 (6 + n) (frameL b)) (z1 : A1 = none → c1 = 0) => app_is w1 q R Y l dv A1 (6 + n) c1 (frameL b) (HG.out.d.below b1) a1 z1 (by omega) (by omega) hR0 hR)
    have E3 := Lib.hid (show wlE R l b = appE R l (frameL b) from by unfold wlE; rw [if_pos (by rw [HN.out]; exact h8)])
    clear hN
    go_enter Tryd.func15, Tryd.ntmps15
    go_wp2_with fail
    refine C1.out.mono ?_
    rintro e w1 ⟨v1, rfl, o1, b1⟩
    rw [e1]
    rw [e2] at o1
    obtain ⟨A1, c1, rfl, a1, -, z1⟩ := own_atN o1 fl
    have B1 := Lib.hid b1
    have c0 := (HG.out.below b1).c0
    have D2 := C2.out w1 b1 A1 c1 a1 z1
    clear o1 a1 b1 C1 C2
    by_cases hf : (l.length : Int) + (6 + n : Nat) ≤ R
    · have x1 : appE R l (frameL b) = 0 := by unfold appE; rw [fl]; exact if_pos hf
      have x2 : appL R l (frameL b) = l ++ frameL b := by unfold appL; rw [fl]; exact if_pos hf
      have EE := Lib.hid (show wlE R l b = 0 by rw [E3.out, x1])
      rw [x1, x2] at D2
      go_wp2_with fail
      refine D2.mono ?_
      rintro e w2 ⟨rfl, v2, d2, k2, n2⟩
      clear D2
      have G2 := Lib.hid ((HG.out.below B1.out).disk d2 k2 n2)
      have K2 := Lib.hid (show Kp (Al p q dv v S) w w2 from (Kp.of B1.out).trans (k2.mono fun g _ hg => .inr (.inr hg)))
      have N2 := Lib.hid (show ∀ g, Al p q v2 v S g → Al p q dv v S g ∨ w.heap.size ≤ g from fun g hg => by
        rcases hg with hg | hg | hg | hg
        · exact .inl (.inl hg)
        · exact .inl (.inr (.inl hg))
        · exact .inl (.inr (.inr (.inl hg)))
        · rcases n2 with n2 | n2
          · exact .inl (.inr (.inr (.inr (n2 ▸ hg))))
          · exact .inr (Nat.le_trans B1.out.size (n2 g hg)))
      have HB2 := Lib.hid (show BsAt w2 A n b from bs_kp (HB.out.below B1.out) k2 fun h0 a ea => by
        obtain ⟨bb, off, e, hlt, -⟩ := HB.out.2 h0
        rw [ea] at e
        injection e with e
        subst e
        exact fun z => XB.out h0 bb off ea (.inr (.inr z)))
      clear d2 k2 n2
      go_wp2
      obtain ⟨NV, hNV⟩ : ∃ NV, S.length = NV := ⟨_, rfl⟩
      obtain ⟨Av, cv, ev, -, -, -⟩ := G2.out.own.at_
      rw [hNV] at ev
      subst ev
      clear hNV
      refine wp_region_late (fun k => k == 11) (fun y => y.cell? ⟨p, 1, none⟩ = some (.slice Av NV cv)) (by kernel_rfl) ?_
      have D0 : Below w2.heap.size w2 w2.drew := (Below.refl _ _).drew
      have S0 := (G2.out.below D0).c1
      refine tk 0 rfl (.pointer (some ⟨p, 0, none⟩)) (.inl ⟨by kernel_rfl, fun w' hs => ?_⟩) S0 ?_
      · go_simp
      refine tk 1 rfl (.pointer (some ⟨p, 0, none⟩)) (.inl ⟨by kernel_rfl, fun w' hs => ?_⟩) S0 ?_
      · go_simp
      refine tk 2 rfl (.pointer (some ⟨p, 0, none⟩)) (.inl ⟨by kernel_rfl, fun w' hs => ?_⟩) S0 ?_
      · go_simp
      refine tk 3 rfl (.pointer (some ⟨p, 1, none⟩)) (.inl ⟨by kernel_rfl, fun w' hs => ?_⟩) S0 ?_
      · go_simp
      refine tk 4 rfl (.slice Av NV cv) (.inl ⟨by kernel_rfl, fun w' hs => ?_⟩) S0 ?_
      · go_simp
      refine tk 5 rfl (.slice A n c) (.inl ⟨by kernel_rfl, fun w' hs => ?_⟩) S0 ?_
      · go_simp
      refine late_oneG 6 rfl (by kernel_rfl) (by kernel_rfl) ?_
      go_simp
      refine (Dk.clone_is w2.drew A n c b (HB2.out.below D0) HA.out hn).mono ?_
      rintro e w3 ⟨v3, rfl, o3, b3⟩
      obtain ⟨A3, c3, rfl, -, -, -⟩ := own_atN o3 HN.out
      have B3 : Below w2.heap.size w2 w3 := D0.trans b3
      have S3 := (G2.out.below B3).c1
      have O3 := Lib.hid (show OwnB w2.heap.size w3 (.slice A3 n c3) b from o3)
      clear o3 b3
      (first | refine ⟨S3, ?_⟩ | refine ⟨.inr S3, ?_⟩ | skip)
      refine late_oneG 7 rfl (by kernel_rfl) (by kernel_rfl) ?_
      go_simp
      have al := below_alloc w3 (.cells #[.slice A3 n c3] 22)
      have B4 := B3.trans (al.mono B3.size)
      have S4 := (G2.out.below B4).c1
      have O4 := Lib.hid (O3.out.on al)
      (first | refine ⟨S4, ?_⟩ | refine ⟨.inr S4, ?_⟩ | skip)
      refine late_oneG 8 rfl (by kernel_rfl) (by kernel_rfl) ?_
      refine wp_sl _ _ rfl (.slice Av NV cv) S (by go_simp) (G2.out.below B4).own (Nat.zero_le _) ⟨A3, n, c3, b⟩ (own_low O4.out (Nat.zero_le _)) (fun j hj => ?_) w3.heap.size 1 (by go_simp) (by rw [World.cell?_alloc_new]; rfl) (by have := HSL.out; omega) ?_
      · rcases hz : (gt S j).val.ownBlock with _ | k
        · exact .inl rfl
        · refine .inr fun z => ?_
          have h1 := (ownl_lt G2.out.own k (.inr ⟨j, hj, hz⟩)).2
          have h2 := (World.ownsRow.lt O3.out k z.symm).1
          omega
      intro v5 w5 o5 g5 q5
      obtain ⟨⟨z1, z2⟩, FIN⟩ := G2.out.put (by decide) (by decide) ((Kp.of B4).trans (Kp.grown g5 fun k e => .inl e)) o5 (fun g hg => by
        rcases rs_snoc hg with hg | hg | hg
        · rcases q5 with q5 | q5
          · exact .inl (.inl (q5 ▸ hg))
          · rw [q5] at hg
            injection hg with hg
            have := B4.size
            exact .inr (by omega)
        · exact .inl hg
        · exact .inr (World.ownsRow.lt O3.out g hg).1)
      obtain ⟨N5, hN5⟩ : ∃ N5, (S ++ [(⟨A3, n, c3, b⟩ : SlB)]).length = N5 := ⟨_, rfl⟩
      obtain ⟨A5, c5, e5, -, -, -⟩ := o5.at_
      rw [hN5] at e5
      subst e5
      have FIN2 := Lib.hid (LgT.next K2.out N2.out ⟨rfl, v2, _, _, FIN.out.1, bytesS_snoc S _, FIN.out.2.1, FIN.out.2.2⟩ : LgT 67 62 w p q dv (.slice Av NV cv) S R Y (l ++ frameL b) (bytesS S ++ [b]) (.int .i64 0) (.returned (.int .i64 0)) (w5.setCell ⟨p, 1, none⟩ (.slice A5 N5 c5)))
      clear FIN o5 g5 q5 hN5 al
      (first | refine ⟨z1, ?_⟩ | refine ⟨.inr z1, ?_⟩ | skip)
      refine late_oneG 9 rfl (by kernel_rfl) (by kernel_rfl) ?_
      go_simp
      (first | refine ⟨z1, ?_⟩ | refine ⟨.inr z1, ?_⟩ | skip)
      refine tk 10 rfl (.pointer (some ⟨p, 1, none⟩)) (.inl ⟨by kernel_rfl, fun w' hs => ?_⟩) z1 ?_
      · go_simp
      refine late_oneG 11 rfl (by kernel_rfl) (by kernel_rfl) ?_
      go_simp
      (first | refine ⟨.inl rfl, ?_⟩ | refine ⟨by kernel_rfl, ?_⟩ | skip)
      (first | refine Late.done (by kernel_rfl) ?_ | skip)
      go_wp2
      go_ret
      have F := FIN2.out
      unfold wlL wlR
      rw [EE.out, if_pos rfl, if_pos rfl]
      exact F
    · have x1 : appE R l (frameL b) = 9 := by unfold appE; rw [fl]; exact if_neg hf
      have x2 : appL R l (frameL b) = l := by unfold appL; rw [fl]; exact if_neg hf
      have EE := Lib.hid (show wlE R l b = 9 by rw [E3.out, x1])
      rw [x1, x2] at D2
      go_wp2_with fail
      refine D2.mono ?_
      intro e w2 t2
      obtain ⟨rfl, t3⟩ := LgT.disk (ans := .int .i64 9) (HG.out.below B1.out) t2
      have t4 := LgT.next (S := S) (Kp.of B1.out) (fun _ hk => .inl hk) t3
      have F := Lib.hid (show LgT 67 62 w p q dv v S R Y (wlL R l b) (wlR R l b (bytesS S)) (.int .i64 (wlE R l b : Nat)) (.returned (.int .i64 9)) w2 by
        unfold wlL wlR
        rw [EE.out, if_neg (by decide), if_neg (by decide)]
        exact t4)
      clear t2 t3 t4 D2
      go_wp2
      go_ret
      exact F.out
  · have e1 : putE b = 3 := by unfold putE; rw [if_neg (by rw [hN]; exact h8)]
    have e2 : putV b = [] := by unfold putV; rw [if_neg (by rw [hN]; exact h8)]
    have EE := Lib.hid (show wlE R l b = 3 from by unfold wlE; rw [if_neg (by rw [hN]; exact h8)])
    clear hN
    go_enter Tryd.func15, Tryd.ntmps15
    go_wp2_with fail
    refine C1.out.mono ?_
    rintro e w1 ⟨v1, rfl, o1, b1⟩
    rw [e1]
    rw [e2] at o1
    obtain ⟨A1, c1, rfl, -, -, -⟩ := own_atN o1 (n := 0) rfl
    have F := Lib.hid (show LgT 67 62 w p q dv v S R Y (wlL R l b) (wlR R l b (bytesS S)) (.int .i64 (wlE R l b : Nat)) (.returned (.int .i64 3)) w1 by
      unfold wlL wlR
      rw [EE.out, if_neg (by decide), if_neg (by decide)]
      exact lgt_same HG.out b1 _)
    clear o1 b1 C1
    go_wp2
    go_ret
    exact F.out
set_option maxRecDepth 100000 in
set_option maxHeartbeats 4000000 in
theorem open_is (w : World) (q : Nat) (R Y : Int) (l : List UInt8) (dv : Value) (T : Tab w) (h : DkV 62 w q R Y l dv) (hl : l.length ≤ 100000) : Calls Tryd.prog 13 #[.pointer (some ⟨q, 0, none⟩)] w (OpenR 67 62 w q R Y l dv) := by
  obtain ⟨L, hL⟩ : ∃ L, l.length = L := ⟨_, rfl⟩
  have HD := Lib.hid h
  have HL := Lib.hid hL
  obtain ⟨V, c, rfl, av, kv, cv, zv⟩ := own_atC h.own hL
  have n0 : openN l ≤ L := by rw [← hL]; exact scan_le _ _ (Nat.le_refl _)
  have c2 := h.c2D
  have C0 := Lib.hid (bytes_is w q R Y l (.slice V L c) h hl)
  clear h av
  rw [hL] at hl
  have cc : (0 : Int) ≤ (openN l : Nat) ∧ ((openN l : Nat) : Int) ≤ l.length := by rw [hL]; omega
  have C2 := Lib.hid (fun w1 (b : Below w.heap.size w w1) => show Calls Tryd.prog 37 #[.pointer (some ⟨q, 0, none⟩), .int .i64 (openN l : Nat)] w1 (DkT 62 w1 q (.slice V L c) R (min Y (openN l : Int)) (l.take (openN l)) (.bool true)) by
    have := cut_is w1 q R Y l (.slice V L c) (openN l : Nat) (HD.out.below b) (by rw [HL.out]; exact hl) (by omega) (by omega)
    rwa [show cutY Y l (openN l : Nat) = min Y (openN l : Int) from if_pos cc, show cutL l (openN l : Nat) = l.take (openN l) from by unfold cutL; rw [if_pos cc, Int.toNat_natCast], show cutB l (openN l : Nat) = true from decide_eq_true cc] at this)
  have W1 : IntKind.i64.wrap ((L : Int) - (openN l : Nat)) = L - (openN l : Nat) := IntWalk.i64_in _ (by omega)
  have TT := Lib.hid T
  clear cc
  go_enter Tryd.func13, Tryd.ntmps13
  go_wp2_with fail
  refine C0.out.mono ?_
  rintro e w0 ⟨u0, rfl, o0, b0⟩
  obtain ⟨A0, k0, rfl, a0, kk0, kc0, -⟩ := own_atC o0 HL.out
  have B0 := Lib.hid b0
  have C1 := Lib.hid (scan_is w0 A0 L k0 l (TT.out.on b0) a0 kk0 kc0 (by omega))
  clear C0 o0 b0 a0
  go_wp2_with fail
  refine C1.out.mono ?_
  rintro e w1 ⟨v1, S1, rfl, o1, s1, b1⟩
  obtain ⟨NS, hNS⟩ : ∃ NS, S1.length = NS := ⟨_, rfl⟩
  obtain ⟨A1, c1, e1, -, -, -⟩ := o1.at_
  rw [hNS] at e1
  subst e1
  have HO := Lib.hid (o1.low B0.out.size)
  have HS := Lib.hid s1
  have B1 := Lib.hid (B0.out.trans (b1.mono B0.out.size))
  clear o1 s1 b1 C1 hNS
  rw [show (scanL l).2 = openN l from rfl]
  generalize hn : openN l = n at *
  have HN := Lib.hid hn
  clear hn
  go_wp2_with fail
  refine (C2.out w1 B1.out).mono ?_
  rintro e w2 ⟨rfl, v2, d2, k2, n2⟩
  have F := open_mk (T := 67) HD.out HO.out B1.out d2 k2 n2
  clear d2 k2 n2
  go_wp2
  exact bodyPost_ret (v := .tuple #[.pointer (some ⟨w2.heap.size, 0, none⟩), .int .i64 ((L : Int) - (n : Nat))]) (by simp [results, Tryd.results13, go_sem]) rfl ⟨_, _, S1, v2, by rw [HN.out, HL.out], by rw [HN.out]; exact F.out.1, HS.out, F.out.2⟩
set_option maxRecDepth 100000 in
theorem lsync_is (w : World) (p q : Nat) (R Y : Int) (l : List UInt8) (dv v : Value) (S : List SlB) (h : LgV 67 62 w p q R Y l dv v S) (hl : l.length ≤ 100000) : Calls Tryd.prog 17 #[.pointer (some ⟨p, 0, none⟩)] w (LgT 67 62 w p q dv v S R l.length l (bytesS S) (.tuple #[])) := by
  have C2 := sync_is w q R Y l dv h.d hl
  have c0 := h.c0
  have HG := Lib.hid h
  clear h
  go_enter Tryd.func17, Tryd.ntmps17
  go_wp2_with fail
  refine C2.mono ?_
  intro e w2 t2
  obtain ⟨rfl, t3⟩ := LgT.disk (ans := .tuple #[]) HG.out t2
  have F := Lib.hid t3
  clear t2 t3 C2
  go_wp2
  exact bodyPost_ret (v := .tuple #[]) (by simp [results, Tryd.results17, go_sem]) rfl F.out
set_option maxRecDepth 100000 in
set_option maxHeartbeats 4000000 in
theorem lput_is (w : World) (p q : Nat) (R Y : Int) (l : List UInt8) (dv v : Value) (S : List SlB) (A : Option Addr) (n c : Nat) (b : List UInt8) (T : Tab w) (h : LgV 67 62 w p q R Y l dv v S) (hb : BsAt w A n b) (hA : A = none → c = 0) (hl : l.length ≤ 90000) (hn : n ≤ 1000000) (hS : S.length ≤ 100000) (hR0 : 0 ≤ R) (hR : R ≤ 2000000000) (hX : 0 < n → ∀ g off, A = some ⟨g, off, none⟩ → ¬ Al p q dv v S g) :
    Calls Tryd.prog 19 #[.pointer (some ⟨p, 0, none⟩), .slice A n c] w (LgT 67 62 w p q dv v S R (wrY R Y l b) (wlL R l b) (wlR R l b (bytesS S)) (.int .i64 (wlE R l b : Nat))) := by
  have C1 := Lib.hid (lapp_is w p q R Y l dv v S A n c b T h hb hA hl hn hS hR0 hR hX)
  have LL := Lib.hid (show 0 < wlE R l b ∨ (wlL R l b).length ≤ 100000 from by
    by_cases e : wlE R l b = 0
    · right
      have h8 : b.length ≤ 8192 := by
        unfold wlE at e
        split at e
        · assumption
        · cases e
      have := wlL_len R l b
      omega
    · left; omega)
  clear h hb hA hX
  generalize hL : wlL R l b = l' at *
  generalize hR' : wlR R l b (bytesS S) = r' at *
  have HY := Lib.hid (show wrY R Y l b = if wlE R l b = 0 then ((l'.length : Nat) : Int) else Y by unfold wrY; rw [hL])
  generalize wlE R l b = E at *
  rw [HY.out]
  clear hL hR'
  by_cases hE : E = 0
  · subst hE
    rw [if_pos rfl]
    have ll : l'.length ≤ 100000 := by rcases LL.out with h | h <;> omega
    go_enter Tryd.func19, Tryd.ntmps19
    go_wp2_with fail
    refine C1.out.mono ?_
    rintro e w1 ⟨rfl, dv1, v1, S1, g1, hr, k1, n1⟩
    have G1 := Lib.hid g1
    have K1 := Lib.hid k1
    have N1 := Lib.hid n1
    have HR := Lib.hid hr
    clear g1 k1 n1 hr C1
    have C2 := lsync_is w1 p q R Y l' dv1 v1 S1 G1.out ll
    go_wp2_with fail
    refine C2.mono ?_
    rintro e w2 ⟨rfl, t3⟩
    have t4 := LgT.next K1.out N1.out (⟨rfl, t3⟩ : LgT 67 62 w1 p q dv1 v1 S1 R l'.length l' (bytesS S1) (.int .i64 0) (.returned (.int .i64 0)) w2)
    rw [HR.out] at t4
    have F := Lib.hid t4
    clear t3 t4 C2
    go_wp2
    go_ret
    exact F.out
  · rw [if_neg hE]
    have e0 := wrap_e E hE
    have e1 : (E == 0) = false := by rw [beq_eq_false_iff_ne]; exact hE
    go_enter Tryd.func19, Tryd.ntmps19
    go_wp2_with fail
    refine C1.out.mono ?_
    rintro e w1 ⟨rfl, dv1, v1, S1, g1, hr, k1, n1⟩
    have F := Lib.hid (LgT.next k1 n1 (hr ▸ lgt_same g1 (Below.refl _ _) (.int .i64 (E : Nat))))
    clear g1 k1 n1 hr C1
    go_wp2
    go_ret
    exact F.out
set_option maxRecDepth 100000 in
theorem ldisk_is (w : World) (p q : Nat) (R Y : Int) (l : List UInt8) (dv v : Value) (S : List SlB) (h : LgV 67 62 w p q R Y l dv v S) : Calls Tryd.prog 27 #[.pointer (some ⟨p, 0, none⟩)] w fun e w' => e = .returned (.pointer (some ⟨q, 0, none⟩)) ∧ Below w.heap.size w w' := by
  have c0 := h.c0
  clear h
  go_enter Tryd.func27, Tryd.ntmps27
  go_wp2
  go_ret
  exact ⟨rfl, Below.refl _ _⟩
end Go.Proofs.YtniphbfoppocfaaDoor.Wl
