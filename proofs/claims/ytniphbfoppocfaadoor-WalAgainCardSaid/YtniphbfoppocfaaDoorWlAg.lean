/- The walk of voklaw15.WalAgain. -/
import Derived.Test.YtniphbfoppocfaaDoorWlKM
set_option linter.unusedVariables false
namespace Go.Proofs.YtniphbfoppocfaaDoor.Wl
open Go.RowKit Fr Dk

/-- another log over the same disk stays, whatever the disk's bytes are -/
theorem LgV.disk2 {T D : TypeId} {w w' : World} {p q : Nat} {R Y R' Y' : Int} {l l' : List UInt8} {dv dv' v : Value} {S : List SlB} (h : LgV T D w p q R Y l dv v S) (d : DkV D w' q R' Y' l' dv') (k : Kp (Ft q dv) w w') (n : ∀ g, Ft q dv' g → Ft q dv g ∨ w.heap.size ≤ g) : LgV T D w' p q R' Y' l' dv' v S := by
  refine ⟨(k.block p h.lt fun z => (h.ap p z).1 rfl).trans h.blk, d, ownl_kp h.own k fun g hg z => (h.ap g z).2 hg, fun g hg => ?_⟩
  rcases n g hg with y | y
  · exact h.ap g y
  · exact ⟨by have := h.lt; omega, fun z => by have := (ownl_lt h.own g z).2; omega⟩
theorem frames_all {w : World} {A : Option Addr} {N : Nat} {P : List SlB} (h : LsAt w A N P) (hs : sumB P N ≤ 20000) (hN : N ≤ 300) : (framesL (bytesS P)).length ≤ 21800 := by
  have := frames_sum h hs N (Nat.le_refl _)
  rw [List.take_of_length_le (by rw [bytesS_len, ← h.1]; exact Nat.le_refl _)] at this
  omega
set_option maxRecDepth 100000 in
set_option maxHeartbeats 8000000 in
theorem again_walk (W : World) (T : Tab W) (A : Option Addr) (m c : Nat) (f : List UInt8) (B : Option Addr) (N C : Nat) (P : List SlB) (ha : BsAt W A m f) (hA : A = none → c = 0) (hm : m ≤ 9223372036854775807) (hP : LsAt W B N P) (hN : N ≤ 9223372036854775807) (hC : ∀ s ∈ P, s.c ≤ 9223372036854775807) :
    Calls Tryd.prog 6 #[.slice A m c, .slice B N C] W fun e w' => e = .returned (.bool true) ∧ Below W.heap.size W w' := by
  have TT := Lib.hid T
  have HA := Lib.hid ha
  have ZA := Lib.hid hA
  have HP := Lib.hid hP
  have HC := Lib.hid hC
  clear T ha hA hP hC
  go_enter Tryd.func6, Tryd.ntmps6
  go_wp2_with fail
  refine (first_is W TT.out).mono ?_
  rintro e w0 ⟨rfl, b0⟩
  have B0 := Lib.hid b0
  clear b0
  have C1 := new_yes w0 1048576 (by decide) (by decide)
  go_wp2_with fail
  refine C1.mono ?_
  rintro e w1 ⟨q, dv1, rfl, d1, b1, g1⟩
  clear C1
  have B1 := Lib.hid (B0.out.trans (b1.mono B0.out.size))
  have DD := Lib.hid d1
  have G1 := Lib.hid (show ∀ k, Ft q dv1 k → W.heap.size ≤ k from fun k hk => Nat.le_trans B0.out.size (g1 k hk))
  have FI := Lib.hid (fun v (b : Below W.heap.size W v) => first_is v (TT.out.on b))
  clear d1 b1 g1
  by_cases hm2 : m ≤ 20000
  rotate_left
  · have m1 : (20000 : Int) < (m : Int) := by omega
    go_wp2_with fail
    refine (FI.out w1 B1.out).mono ?_
    rintro e w3 ⟨rfl, b3⟩
    have G := Lib.hid (B1.out.trans (b3.mono B1.out.size))
    clear b3
    go_wp2
    go_ret
    exact ⟨rfl, G.out⟩
  have m1 : ¬ (20000 : Int) < (m : Int) := by omega
  by_cases hN2 : N ≤ 300
  rotate_left
  · have m2 : (300 : Int) < (N : Int) := by omega
    go_wp2_with fail
    refine (FI.out w1 B1.out).mono ?_
    rintro e w3 ⟨rfl, b3⟩
    have G := Lib.hid (B1.out.trans (b3.mono B1.out.size))
    clear b3
    go_wp2
    go_ret
    exact ⟨rfl, G.out⟩
  have m2 : ¬ (300 : Int) < (N : Int) := by omega
  have PL := Lib.hid (HP.out.below B1.out)
  go_wp2
  go_loop [7, 8] (fun s i => ∃ t : Nat, t ≤ N ∧ s = .int .i64 (sumB P t : Nat) ∧ i = .int .i64 t ∧ Hid (∀ j, j < t → (gt P j).k ≤ 8192)) (fun _ i => N - (intOf i).toNat)
  case atStart => exact ⟨0, Nat.zero_le _, rfl, rfl, Lib.hid (fun j h => absurd h (by omega))⟩
  case round =>
    obtain ⟨t, ht, rfl, rfl, hsh⟩ := hrel
    have sb := sumB_le P t
    by_cases hlt : t < N
    · obtain ⟨bb, off, rfl, hbb, hcc⟩ := PL.out.2 (by omega)
      obtain ⟨x0, x1, x2, -⟩ := hcc t hlt
      have kz := Nat.le_trans x2 (HC.out (gt P t) (gt_mem (by have := PL.out.1; omega)))
      have SE := Lib.hid (show sumB P (t + 1) = sumB P t + min (gt P t).k 20001 from rfl)
      have SH := Lib.hid (fun (h : (gt P t).k ≤ 8192) => show ∀ j, j < t + 1 → (gt P j).k ≤ 8192 from fun j hj => by
        by_cases e : j = t
        · subst e; exact h
        · exact hsh.out j (by omega))
      have i5 : (t : Int) < N := by omega
      unfold SlB.val at x0
      clear hcc x1 x2 hsh
      generalize (gt P t).k = z at *
      generalize (gt P t).A = az at *
      generalize (gt P t).c = cz at *
      generalize sumB P t = y at *
      by_cases h8 : z ≤ 8192
      · have h9 : ¬ (8192 : Int) < (z : Int) := by omega
        have SH2 := Lib.hid (SH.out h8)
        go_wp2
        all_goals first
          | (exfalso; omega)
          | (go_round
             case rel => exact ⟨t + 1, by omega, by rw [SE.out]; first | rfl | (congr 1; omega), by go_num, SH2⟩
             case measure => simp [intOf]; omega)
      · have h9 : (8192 : Int) < (z : Int) := by omega
        by_cases hz : 20001 < z
        all_goals
          go_wp2_with fail
          all_goals try (exfalso; omega)
          refine (FI.out w1 B1.out).mono ?_
          rintro e w3 ⟨rfl, b3⟩
          have G := Lib.hid (B1.out.trans (b3.mono B1.out.size))
          clear b3
          go_wp2
          go_ret
          exact ⟨rfl, G.out⟩
    · obtain rfl : N = t := by omega
      have HS := Lib.hid (show sumB P N = sumB P N from rfl)
      obtain ⟨y, hy⟩ : ∃ y, sumB P N = y := ⟨_, rfl⟩
      have HY := Lib.hid hy
      rw [hy] at sb ⊢
      clear hy HS
      by_cases hys : y ≤ 20000
      rotate_left
      · have s4 : (20000 : Int) < (y : Int) := by omega
        go_wp2_with fail
        refine (FI.out w1 B1.out).mono ?_
        rintro e w3 ⟨rfl, b3⟩
        have G := Lib.hid (B1.out.trans (b3.mono B1.out.size))
        clear b3
        go_wp2
        go_ret
        exact ⟨rfl, G.out⟩
      have s4 : ¬ (20000 : Int) < (y : Int) := by omega
      have FL := Lib.hid (frames_all HP.out (by rw [HY.out]; exact hys) hN2)
      have OK := Lib.hid (show ∀ x ∈ bytesS P, x.length ≤ 8192 from fun x hx => by
        obtain ⟨j, hj, e⟩ := List.mem_iff_getElem.1 hx
        have hj2 : j < P.length := by rwa [bytesS_len] at hj
        have t0 := bytesS_at hj2
        rw [List.getElem?_eq_getElem hj] at t0
        injection t0 with t0
        have e0 := HP.out.1
        obtain ⟨b', off', -, -, hcc⟩ := HP.out.2 (by omega)
        have k1 := (hcc j (by omega)).2.1.1
        have k2 := hsh.out j (by omega)
        rw [← e, t0]; omega)
      clear hsh sb
      have FM := Lib.hid (show f.length = m from HA.out.1.symm)
      have C2 := app_is w1 q 1048576 0 [] dv1 A m c f DD.out (HA.out.below B1.out) ZA.out (by decide) (by omega) (by decide) (by decide)
      have aa : (([] : List UInt8).length : Int) + f.length ≤ 1048576 := by rw [FM.out]; show (0 : Int) + m ≤ _; omega
      rw [show appL 1048576 [] f = f from by unfold appL; rw [if_pos aa]; rfl, show appE 1048576 [] f = 0 from if_pos aa] at C2
      clear aa
      go_wp2_with fail
      refine C2.mono ?_
      rintro e w2 ⟨rfl, dv2, d2, k2, n2⟩
      clear C2
      have D2 := Lib.hid d2
      have H2 := Lib.hid (show ∀ g, Ft q dv2 g → W.heap.size ≤ g from fun g hg => (ft_of_new n2 g hg).elim (G1.out g) (Nat.le_trans B1.out.size))
      have B2 := Lib.hid (B1.out.trans (k2.below B1.out.size G1.out))
      clear d2 k2 n2
      have C3 := open_is w2 q 1048576 0 f dv2 (TT.out.on B2.out) D2.out (by rw [FM.out]; omega)
      go_wp2_with fail
      refine C3.mono ?_
      intro e w3 o3
      obtain ⟨p3, v3, S3, dv3, rfl, g3, s3⟩ := Lsk.open_ D2.out H2.out B2.out o3
      clear C3 o3
      obtain ⟨sf1, sf2⟩ := scan_is_frames f.length f (Nat.le_refl _)
      have n0 := scan_le f.length f (Nat.le_refl _)
      rw [FM.out] at n0
      obtain ⟨r, hr⟩ : ∃ r, (scanL f).1 = r := ⟨_, rfl⟩
      obtain ⟨cn, hcn⟩ : ∃ cn, openN f = cn := ⟨_, rfl⟩
      have e1 : (scanL f).2 = cn := hcn
      rw [e1] at n0 sf1
      rw [hr] at sf1 sf2 s3
      rw [hcn, sf1] at g3
      rw [hcn, FM.out]
      have LR := Lib.hid (show (framesL r).length = cn by rw [← sf1, List.length_take, FM.out]; omega)
      have OKR := Lib.hid sf2
      have G3 := Lib.hid g3
      have E3 := Lib.hid s3
      clear sf1 sf2 hr hcn e1 g3 s3
      have RL := Lib.hid (show 6 * r.length ≤ cn from by
        have : ∀ ps : List (List UInt8), 6 * ps.length ≤ (framesL ps).length := fun ps => by
          induction ps with
          | nil => exact Nat.le_refl _
          | cons x ps ih => rw [framesL_cons, List.length_append, frameL_len, List.length_cons]; omega
        have := this r
        rw [LR.out] at this
        exact this)
      generalize hy0 : min (0 : Int) (cn : Int) = y3 at *
      clear hy0
      have W1 : IntKind.i64.wrap ((m : Int) - ((m : Int) - cn)) = cn := by rw [IntWalk.i64_in _ (by omega)]; omega
      have f1 : ¬ (m : Int) - cn < 0 := by omega
      have f2 : ¬ (m : Int) < (m : Int) - cn := by omega
      have C4 := bytes_is w3 q 1048576 _ _ dv3 G3.out.g.d (by rw [LR.out]; omega)
      go_wp2_with fail
      all_goals try (exfalso; omega)
      refine C4.mono ?_
      rintro e w4 ⟨u4, rfl, o4, b4⟩
      obtain ⟨A4, c4, rfl, -, -, -⟩ := own_atN o4 LR.out
      have G4 := Lib.hid (G3.out.below b4)
      clear C4 o4 b4
      have C5 := open_is w4 q 1048576 y3 (framesL r) dv3 (TT.out.on G4.out.at_) G4.out.g.d (by rw [LR.out]; omega)
      go_wp2_with fail
      refine C5.mono ?_
      intro e w5 o5
      obtain ⟨p5, v5, S5, dv5, rfl, g5, s5, k5, n5⟩ := G4.out.again2 o5
      have SC := scan_all OKR.out
      have ON : openN (framesL r) = cn := by unfold openN; rw [SC]; exact LR.out
      rw [SC] at s5
      rw [ON, show (framesL r).take cn = framesL r from List.take_of_length_le (by rw [LR.out]; exact Nat.le_refl _)] at g5
      have GA := Lib.hid (G4.out.g.disk2 g5.g.d k5 n5)
      have G5 := Lib.hid g5
      have E5 := Lib.hid (show bytesS S5 = r from s5)
      have z5 : (((framesL r).length : Nat) : Int) - (openN (framesL r) : Nat) = 0 := by rw [ON, LR.out]; omega
      rw [z5]
      clear C5 o5 g5 s5 k5 n5 SC ON z5
      generalize min y3 (cn : Int) = y5 at *
      have rl : r.length ≤ 20000 := by have := RL.out; omega
      have C6 := recs_is w5 p3 q _ _ _ dv5 v3 S3 GA.out (by rw [← bytesS_len, E3.out]; omega) (fun x hx => by rw [E3.out] at hx; have := OKR.out x hx; omega)
      obtain ⟨nr, hnr⟩ : ∃ nr, r.length = nr := ⟨_, rfl⟩
      have NR := Lib.hid hnr
      rw [hnr] at rl
      clear hnr
      go_wp2_with fail
      refine C6.mono ?_
      rintro e w6 ⟨u6, S6, rfl, o6, e6, b6⟩
      have h6 : S6.length = nr := by rw [← bytesS_len, e6, E3.out, NR.out]
      obtain ⟨A6, c6, rfl, a6, -, -⟩ := ownl_at o6 h6
      have LS6 := Lib.hid a6
      have G6 := Lib.hid (G5.out.below b6)
      have E6 := Lib.hid (e6.trans E3.out)
      clear C6 o6 a6 e6 b6 h6
      have C7 := recs_is w6 p5 q _ _ _ dv5 v5 S5 G6.out.g (by rw [← bytesS_len, E5.out, NR.out]; omega) (fun x hx => by rw [E5.out] at hx; have := OKR.out x hx; omega)
      go_wp2_with fail
      refine C7.mono ?_
      rintro e w7 ⟨u7, S7, rfl, o7, e7, b7⟩
      have h7 : S7.length = nr := by rw [← bytesS_len, e7, E5.out, NR.out]
      obtain ⟨A7, c7, rfl, a7, -, -⟩ := ownl_at o7 h7
      have G7 := Lib.hid (G6.out.below b7)
      have C8 := lists_is w7 A6 A7 nr c6 nr c7 S6 S7 (LS6.out.below b7) a7 (by omega) (by omega)
      rw [show decide (bytesS S6 = bytesS S7) = true from decide_eq_true (by rw [E6.out, e7, E5.out])] at C8
      clear C7 o7 a7 e7 b7 h7
      go_wp2_with fail
      refine C8.mono ?_
      rintro e w8 ⟨rfl, b8⟩
      have G8 := Lib.hid (G7.out.below b8)
      clear C8 b8
      have C9 := lcheck_is W w8 p5 q 1048576 y5 (framesL r) dv5 v5 S5 B N C P (TT.out.on G8.out.at_) G8.out.g HP.out G8.out.at_ (fun k hk => G8.out.hi k (.inr (.inr hk))) (by omega) (by have := FL.out; omega)
      obtain ⟨LP, hLP⟩ : ∃ LP, (framesL (bytesS P)).length = LP := ⟨_, rfl⟩
      have flp := FL.out
      rw [hLP] at flp
      have EE : ckE 1048576 (bytesS P) = 0 := by
        unfold ckE swE
        rw [if_pos (show okP (bytesS P) = true from decide_eq_true OK.out), if_pos (by rw [hLP]; omega)]
      rw [EE, show ckY 1048576 y5 (bytesS P) = (LP : Nat) from by unfold ckY; rw [if_pos EE, hLP], show ckL 1048576 (framesL r) (bytesS P) = framesL (bytesS P) from by unfold ckL; rw [if_pos EE], show ckR 1048576 (bytesS S5) (bytesS P) = bytesS P from by unfold ckR; rw [if_pos EE]] at C9
      have HLP := Lib.hid hLP
      have NP := Lib.hid (show (bytesS P).length = N by rw [bytesS_len]; exact HP.out.1.symm)
      clear EE hLP
      go_wp2_with fail
      refine C9.mono ?_
      rintro e w9 ⟨rfl, dv9, v9, S9, g9, e9, kp9, n9⟩
      have G9 := Lib.hid (G8.out.next g9 kp9 n9)
      have E9 := Lib.hid e9
      clear C9 g9 e9 kp9 n9
      have C10 := recs_is w9 p5 q _ _ _ dv9 v9 S9 G9.out.g (by rw [← bytesS_len, E9.out, NP.out]; omega) (fun x hx => by rw [E9.out] at hx; have := OK.out x hx; omega)
      go_wp2_with fail
      refine C10.mono ?_
      rintro e w10 ⟨u10, S10, rfl, o10, e10, b10⟩
      have h10 : S10.length = N := by rw [← bytesS_len, e10, E9.out, NP.out]
      obtain ⟨A10, c10, rfl, a10, -, -⟩ := ownl_at o10 h10
      have G10 := Lib.hid (G9.out.below b10)
      have C11 := lists_is w10 A10 B N c10 N C S10 P a10 (HP.out.below G10.out.at_) (by omega) (by omega)
      rw [show decide (bytesS S10 = bytesS P) = true from decide_eq_true (by rw [e10, E9.out])] at C11
      clear C10 o10 a10 e10 b10 h10
      go_wp2_with fail
      refine C11.mono ?_
      rintro e w11 ⟨rfl, b11⟩
      have G11 := Lib.hid (G10.out.below b11)
      clear C11 b11
      have C12 := crash_is w11 q 1048576 (LP : Nat) (framesL (bytesS P)) dv9 0 G11.out.g.d (by rw [HLP.out]; omega) (by omega) (by rw [HLP.out]; exact Int.le_refl _) (by decide) (by decide)
      rw [show crN (LP : Nat) (framesL (bytesS P)) 0 = (LP : Nat) from by unfold crN; rw [HLP.out]; omega, Int.toNat_natCast, show (framesL (bytesS P)).take LP = framesL (bytesS P) from List.take_of_length_le (by rw [HLP.out]; exact Nat.le_refl _)] at C12
      go_wp2_with fail
      refine C12.mono ?_
      rintro e w12 ⟨rfl, dv12, d12, k12, n12⟩
      have G12 := Lib.hid (G11.out.disk d12 k12 n12)
      clear C12 d12 k12 n12
      have C13 := open_is w12 q 1048576 (LP : Nat) (framesL (bytesS P)) dv12 (TT.out.on G12.out.at_) G12.out.g.d (by rw [HLP.out]; omega)
      go_wp2_with fail
      refine C13.mono ?_
      intro e w13 o13
      obtain ⟨p13, v13, S13, dv13, rfl, g13, s13⟩ := G12.out.again o13
      have SC := scan_all OK.out
      have ON : openN (framesL (bytesS P)) = LP := by unfold openN; rw [SC]; exact HLP.out
      rw [SC] at s13
      have G13 := Lib.hid g13
      have E13 := Lib.hid (show bytesS S13 = bytesS P from s13)
      have z13 : (((framesL (bytesS P)).length : Nat) : Int) - (openN (framesL (bytesS P)) : Nat) = 0 := by rw [ON, HLP.out]; omega
      rw [z13]
      clear C13 o13 g13 s13 SC ON z13
      go_wp2_with fail
      refine (FI.out w13 G13.out.at_).mono ?_
      rintro e w14 ⟨rfl, b14⟩
      have G14 := Lib.hid (G13.out.below b14)
      clear b14
      have C15 := recs_is w14 p13 q _ _ _ dv13 v13 S13 G14.out.g (by rw [← bytesS_len, E13.out, NP.out]; omega) (fun x hx => by rw [E13.out] at hx; have := OK.out x hx; omega)
      go_wp2_with fail
      refine C15.mono ?_
      rintro e w15 ⟨u15, S15, rfl, o15, e15, b15⟩
      have h15 : S15.length = N := by rw [← bytesS_len, e15, E13.out, NP.out]
      obtain ⟨A15, c15, rfl, a15, -, -⟩ := ownl_at o15 h15
      have G15 := Lib.hid (G14.out.below b15)
      have C16 := lists_is w15 A15 B N c15 N C S15 P a15 (HP.out.below G15.out.at_) (by omega) (by omega)
      rw [show decide (bytesS S15 = bytesS P) = true from decide_eq_true (by rw [e15, E13.out])] at C16
      clear C15 o15 a15 e15 b15 h15
      go_wp2_with fail
      refine C16.mono ?_
      rintro e w16 ⟨rfl, b16⟩
      have F := Lib.hid (G15.out.below b16).at_
      clear C16 b16
      go_wp2
      go_ret
      exact ⟨rfl, F.out⟩
end Go.Proofs.YtniphbfoppocfaaDoor.Wl
