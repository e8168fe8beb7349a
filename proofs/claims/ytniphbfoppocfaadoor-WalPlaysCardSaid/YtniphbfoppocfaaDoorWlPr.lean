/- The walks of package wal: copies, frames, Records, Checkpoint. -/
import Derived.Test.YtniphbfoppocfaaDoorWlPq
set_option linter.unusedVariables false
namespace Go.Proofs.YtniphbfoppocfaaDoor.Wl
open Go.RowKit Fr Dk

set_option maxRecDepth 100000 in
set_option maxHeartbeats 4000000 in
theorem copies_is (w : World) (A : Option Addr) (N c : Nat) (S : List SlB) (h : LsAt w A N S) (hS : N ≤ 100000) (hB : ∀ b ∈ bytesS S, b.length ≤ 1000000) : Calls Tryd.prog 45 #[.slice A N c] w fun e w' => ∃ u S', e = .returned u ∧ OwnL w.heap.size w' u S' ∧ bytesS S' = bytesS S ∧ Below w.heap.size w w' := by
  have HN := Lib.hid (show S.length = N from h.1.symm)
  have LS := Lib.hid h
  have HB := Lib.hid hB
  obtain ⟨i0, hi, hz0, hz1, hz2⟩ := info_parts info_bs
  clear h hB
  go_enter Tryd.func45, Tryd.ntmps45
  go_wp2_with (at_make; refine wpList_make_own _ rfl _ _ 40 rfl w.heap.size 22 i0 (.slice none 0 0) 1 Tryd.underlying40 hi hz0 hz1 .i64 .i64 _ N rfl rfl rfl (by rw [hz2]; omega) (by unfold maxLen; omega) (Nat.le_refl _) ?_)
  intro w1 o1 g1
  have b1 : Below w.heap.size w w1 := (Below.refl _ _).grown g1 (Nat.le_refl _) (fun k hk => by cases hk)
  have O1 := Lib.hid (show OwnL w.heap.size w1 (.slice (some ⟨w.heap.size, 0, none⟩) 0 N) [] from ⟨o1, fun j hj => by simp at hj, fun i j hi => by simp at hi⟩)
  have B1 := Lib.hid b1
  clear o1 g1 b1 hi hz0 hz1 hz2
  go_wp2
  go_loopw [3, 11] (fun vo i wr => ∃ (t : Nat) (S' : List SlB), t ≤ N ∧ i = .int .i64 (t : Nat) ∧ S'.length = t ∧ OwnL w.heap.size wr vo S' ∧ bytesS S' = (bytesS S).take t ∧ Below w.heap.size w wr) (fun _ i _ => N - (intOf i).toNat)
  case atStart => exact ⟨0, [], Nat.zero_le _, rfl, rfl, O1.out, rfl, B1.out⟩
  case round =>
    obtain ⟨t, S', ht, rfl, hl', hO, hE, hBw⟩ := hrel
    obtain ⟨Ao, co, eo, -, -, -⟩ := hO.at_
    rw [hl'] at eo
    subst eo
    have OL := Lib.hid hO
    have EE := Lib.hid hE
    have BW := Lib.hid hBw
    have HL := Lib.hid hl'
    clear hO hE hBw hl'
    by_cases hlt : t < N
    · obtain ⟨bb, off, rfl, hbb, hcc⟩ := LS.out.2 (by omega)
      obtain ⟨x0, x1, x2, x3⟩ := hcc t hlt
      have TP := Lib.hid (show t < S.length by rw [HN.out]; exact hlt)
      have KL := Lib.hid (HB.out _ (List.mem_of_getElem? (bytesS_at TP.out)))
      have NX := Lib.hid (take_snocB (P := S) TP.out)
      unfold SlB.val at x0
      have cw := (BW.out.cell (p := ⟨bb, _, none⟩) hbb).trans x0
      have X1 := Lib.hid (x1.below BW.out)
      have X3 := Lib.hid x3
      have i5 : (t : Int) < N := by omega
      clear hcc x0 x1 x2 x3
      generalize gt S t = o at *
      obtain ⟨am, km, cm, lm⟩ := o
      simp only at cw X1 X3 KL NX
      have C3 := Dk.clone_is wr am km cm lm X1.out X3.out (by have := X1.out.1; have := KL.out; omega)
      go_wp2_with fail
      refine C3.mono ?_
      rintro e w4 ⟨v4, rfl, o4, b4⟩
      obtain ⟨A4, c4, rfl, -, -, -⟩ := own_atN o4 (X1.out.1.symm : lm.length = km)
      have O4 := Lib.hid (own_low o4 BW.out.size)
      have NE := Lib.hid (show ∀ j, j < S'.length → (gt S' j).val.ownBlock = none ∨ (gt S' j).val.ownBlock ≠ (SlB.val ⟨A4, km, c4, lm⟩).ownBlock from fun j hj => by
        rcases hz : (gt S' j).val.ownBlock with _ | k
        · exact .inl rfl
        · refine .inr fun z => ?_
          have h1 := (World.ownsRow.lt (OL.out.each j hj) k hz).2
          have h2 := (World.ownsRow.lt o4 k z.symm).1
          omega)
      have OL4 := Lib.hid (OL.out.on b4)
      have B4 := Lib.hid (BW.out.trans (b4.mono BW.out.size))
      clear o4 b4 C3
      go_wp2_with (at_builtin; refine append_sl rfl _ _ rfl _ S' rfl OL4.out B4.out.size ⟨A4, km, c4, lm⟩ O4.out NE.out _ 1 rfl (by have := HL.out; omega) ?_)
      intro v5 w5 o5 b5
      have O5 := Lib.hid o5
      have B5 := Lib.hid (B4.out.trans b5)
      have E5 := Lib.hid (show bytesS (S' ++ [(⟨A4, km, c4, lm⟩ : SlB)]) = (bytesS S).take (t + 1) by rw [bytesS_snoc, EE.out, NX.out])
      have L5 := Lib.hid (show (S' ++ [(⟨A4, km, c4, lm⟩ : SlB)]).length = t + 1 by rw [List.length_append, HL.out]; rfl)
      clear o5 b5
      go_wp2
      go_roundw
      case rel => exact ⟨t + 1, _, by omega, by go_num, L5.out, O5.out, E5.out, B5.out⟩
      case measure => simp [intOf]; omega
    · obtain rfl : N = t := by omega
      have F := Lib.hid (show bytesS S' = bytesS S by rw [EE.out, List.take_of_length_le (by rw [bytesS_len, HN.out]; exact Nat.le_refl _)])
      go_wp2
      go_ret
      exact ⟨_, S', rfl, OL.out, F.out, BW.out⟩
set_option maxRecDepth 100000 in
set_option maxHeartbeats 4000000 in
theorem recs_is (w : World) (p q : Nat) (R Y : Int) (l : List UInt8) (dv v : Value) (S : List SlB) (h : LgV 67 62 w p q R Y l dv v S) (hS : S.length ≤ 100000) (hB : ∀ b ∈ bytesS S, b.length ≤ 1000000) : Calls Tryd.prog 29 #[.pointer (some ⟨p, 0, none⟩)] w fun e w' => ∃ u S', e = .returned u ∧ OwnL w.heap.size w' u S' ∧ bytesS S' = bytesS S ∧ Below w.heap.size w w' := by
  obtain ⟨N, hN⟩ : ∃ N, S.length = N := ⟨_, rfl⟩
  obtain ⟨Av, cv, ev, av, -, -⟩ := h.own.at_
  rw [hN] at ev av hS
  subst ev
  have c1 := h.c1
  have C1 := copies_is w Av N cv S av hS hB
  clear h av hN hB
  go_enter Tryd.func29, Tryd.ntmps29
  go_wp2_with fail
  refine C1.mono ?_
  rintro e w1 ⟨u, S', rfl, o, s, b⟩
  have F := Lib.hid (show ∃ u' S'', Ending.returned u = .returned u' ∧ OwnL w.heap.size w1 u' S'' ∧ bytesS S'' = bytesS S ∧ Below w.heap.size w w1 from ⟨u, S', rfl, o, s, b⟩)
  obtain ⟨A1, k1, e1, -, -, -⟩ := o.at_
  obtain ⟨N1, hN1⟩ : ∃ N1, S'.length = N1 := ⟨_, rfl⟩
  rw [hN1] at e1
  subst e1
  clear o s b C1 hN1
  go_wp2
  go_ret
  exact F.out
/-- the frames of the first t are put -/
structure FkI (w : World) (P : List SlB) (wr : World) (va : Value) (t : Nat) : Prop where
  all : OwnB w.heap.size wr va (framesL ((bytesS P).take t))
  ok : ∀ p ∈ (bytesS P).take t, p.length ≤ 8192
  at_ : Below w.heap.size w wr
theorem FkI.start (w : World) (P : List SlB) : FkI w P w (.slice none 0 0) 0 := ⟨OwnB.nil _ _, fun p h => by simp at h, Below.refl _ _⟩
theorem FkI.on {w wr w' : World} {P : List SlB} {va : Value} {t : Nat} (h : FkI w P wr va t) (b : Below wr.heap.size wr w') : FkI w P w' va t := ⟨h.all.on b, h.ok, h.at_.trans (b.mono h.at_.size)⟩
theorem FkI.next {w wr w' : World} {P : List SlB} {va va' : Value} {t : Nat} (h : FkI w P wr va t) (ht : t < P.length) (h8 : (gt P t).l.length ≤ 8192) (o : OwnB w.heap.size w' va' (framesL ((bytesS P).take t) ++ frameL (gt P t).l)) (g : wr.grownBy w' va.ownBlock) : FkI w P w' va' (t + 1) := by
  refine ⟨by rw [take_snocB ht, framesL_app, framesL_one]; exact o, fun p hp => ?_, h.at_.trans (grown_below h.all g h.at_.size)⟩
  rw [take_snocB ht] at hp
  rcases List.mem_append.1 hp with hp | hp
  · exact h.ok p hp
  · rw [List.mem_singleton.1 hp]; exact h8
def frE (ps : List (List UInt8)) : Nat := if okP ps then 0 else 3
def frV (ps : List (List UInt8)) : List UInt8 := if okP ps then framesL ps else []
def FrmR (w : World) (P : List SlB) (e : Ending) (w' : World) : Prop := ∃ v, e = .returned (.tuple #[v, .int .i64 (frE (bytesS P) : Nat)]) ∧ OwnB w.heap.size w' v (frV (bytesS P)) ∧ Below w.heap.size w w'
set_option maxRecDepth 100000 in
set_option maxHeartbeats 4000000 in
theorem frames_is (w : World) (A : Option Addr) (N c : Nat) (P : List SlB) (T : Tab w) (h : LsAt w A N P) (hN : N ≤ 1000) (hF : (framesL (bytesS P)).length ≤ 90000) : Calls Tryd.prog 43 #[.slice A N c] w (FrmR w P) := by
  have TT := Lib.hid T
  have HP := Lib.hid h
  have NP := Lib.hid (bytesS_k h)
  have LN := Lib.hid (fun t => show (framesL ((bytesS P).take t)).length ≤ 90000 from Nat.le_trans (frames_pre _ _) hF)
  clear h
  go_enter Tryd.func43, Tryd.ntmps43
  go_wp2
  go_loopw [4, 11] (fun va i wr => ∃ (t : Nat), t ≤ N ∧ i = .int .i64 (t : Nat) ∧ FkI w P wr va t) (fun _ i _ => N - (intOf i).toNat)
  case atStart => exact ⟨0, Nat.zero_le _, rfl, FkI.start w P⟩
  case round =>
    obtain ⟨t, ht, rfl, hC⟩ := hrel
    obtain ⟨na, hna⟩ : ∃ na, (framesL ((bytesS P).take t)).length = na := ⟨_, rfl⟩
    obtain ⟨Aa, ca, rfl, aa, -, za⟩ := own_atN hC.all hna
    have CK := Lib.hid hC
    have NA := Lib.hid hna
    have nal : na ≤ 90000 := by rw [← hna]; exact LN.out t
    clear hC hna aa za
    by_cases hlt : t < N
    · obtain ⟨bb, off, rfl, hlt2, hcc⟩ := HP.out.2 (by omega)
      obtain ⟨x0, x1, x2, x3⟩ := hcc t hlt
      have TP := Lib.hid (show t < P.length by rw [← NP.out]; exact hlt)
      have i5 : (t : Int) < N := by omega
      unfold SlB.val at x0
      generalize hgt : gt P t = o at *
      obtain ⟨am, km, cm, lm⟩ := o
      simp only at x0 x1 x2 x3
      have GL := Lib.hid (show (gt P t).l = lm by rw [hgt])
      have KM := Lib.hid (show lm.length = km from x1.1.symm)
      have hlt := hlt2
      have cw := (CK.out.at_.cell (p := ⟨bb, _, none⟩) hlt2).trans x0
      have fe := LN.out (t + 1)
      rw [take_snocB TP.out, framesL_app, framesL_one, List.length_append, GL.out, frameL_len, KM.out, NA.out] at fe
      have C3 := Lib.hid (put_is wr am km cm lm (TT.out.on CK.out.at_) (x1.below CK.out.at_) x3 (by omega))
      clear hcc x0 x1 x3 hgt hlt2
      by_cases h8 : km ≤ 8192
      · have e1 : putE lm = 0 := by unfold putE; rw [if_pos (by rw [KM.out]; exact h8)]
        have e2 : putV lm = frameL lm := by unfold putV; rw [if_pos (by rw [KM.out]; exact h8)]
        go_wp2_with fail
        refine C3.out.mono ?_
        rintro e w4 ⟨v4, rfl, o4, b4⟩
        rw [e1]
        rw [e2] at o4
        obtain ⟨Af, cf, rfl, af, -, zf⟩ := own_atN o4 (n := 6 + km) (by rw [frameL_len, KM.out])
        have FA := Lib.hid af
        have ZF := Lib.hid zf
        have CK4 := Lib.hid (CK.out.on b4)
        clear o4 af b4 C3 e1 e2 zf
        go_wp2_with (at_builtin; refine append_at rfl _ _ rfl (.slice Aa na ca) _ rfl CK4.out.all CK4.out.at_.size Af (6 + km) cf (frameL lm) rfl FA.out ZF.out (by have := NA.out; omega) ?_)
        intro v5 w5 o5 g5 q5
        have CA := Lib.hid (CK4.out.next TP.out (by rw [GL.out, KM.out]; exact h8) (by rw [GL.out]; exact o5) g5)
        clear o5 g5 q5
        go_wp2
        go_roundw
        case rel => exact ⟨t + 1, by omega, by go_num, CA.out⟩
        case measure => simp [intOf]; omega
      · have e1 : putE lm = 3 := by unfold putE; rw [if_neg (by rw [KM.out]; exact h8)]
        have e2 : putV lm = [] := by unfold putV; rw [if_neg (by rw [KM.out]; exact h8)]
        go_wp2_with fail
        refine C3.out.mono ?_
        rintro e w4 ⟨v4, rfl, o4, b4⟩
        rw [e1]
        rw [e2] at o4
        obtain ⟨Af, cf, rfl, -, -, -⟩ := own_atN o4 (n := 0) rfl
        have OK : ¬ okP (bytesS P) = true := by
          unfold okP
          rw [decide_eq_true_eq]
          intro hh
          have hm : lm ∈ bytesS P := by
            have := List.mem_of_getElem? (bytesS_at TP.out)
            rwa [GL.out] at this
          have := hh lm hm
          rw [KM.out] at this
          exact h8 this
        have F := Lib.hid (show FrmR w P (.returned (.tuple #[.slice none 0 0, .int .i64 3])) w4 from ⟨.slice none 0 0, by unfold frE; rw [if_neg OK]; rfl, by unfold frV; rw [if_neg OK]; exact OwnB.nil _ _, (CK.out.on b4).at_⟩)
        clear o4 b4 C3 e1 e2 OK
        go_wp2
        exact bodyPost_ret (v := .tuple #[.slice none 0 0, .int .i64 3]) (by simp [results, Tryd.results43, go_sem]) rfl F.out
    · obtain rfl : t = N := by omega
      have OK : okP (bytesS P) = true := decide_eq_true (by
        have := CK.out.ok
        rwa [List.take_of_length_le (by rw [bytesS_len, NP.out]; exact Nat.le_refl _)] at this)
      have F := Lib.hid (show FrmR w P (.returned (.tuple #[.slice Aa na ca, .int .i64 0])) wr from ⟨.slice Aa na ca, by unfold frE; rw [if_pos OK]; rfl, by
        unfold frV
        rw [if_pos OK]
        have := CK.out.all
        rwa [List.take_of_length_le (by rw [bytesS_len, NP.out]; exact Nat.le_refl _)] at this, CK.out.at_⟩)
      clear OK
      go_wp2
      exact bodyPost_ret (v := .tuple #[.slice Aa na ca, .int .i64 0]) (by simp [results, Tryd.results43, go_sem]) rfl F.out
set_option maxRecDepth 100000 in
set_option maxHeartbeats 8000000 in
/-- Checkpoint with a record that is too long -/
theorem lcheck_no (w : World) (p q : Nat) (R Y : Int) (l : List UInt8) (dv v : Value) (S0 : List SlB) (A : Option Addr) (N c : Nat) (P : List SlB) (T : Tab w) (h : LgV 67 62 w p q R Y l dv v S0) (hP : LsAt w A N P) (hN : N ≤ 1000) (hF : (framesL (bytesS P)).length ≤ 90000) (ok : ¬ okP (bytesS P) = true) :
    Calls Tryd.prog 21 #[.pointer (some ⟨p, 0, none⟩), .slice A N c] w (LgT 67 62 w p q dv v S0 R (ckY R Y (bytesS P)) (ckL R l (bytesS P)) (ckR R (bytesS S0) (bytesS P)) (.int .i64 (ckE R (bytesS P) : Nat))) := by
  have HG := Lib.hid h
  have C1 := Lib.hid (frames_is w A N c P T hP hN hF)
  clear h hP
  have e1 : frE (bytesS P) = 3 := if_neg ok
  have e2 : frV (bytesS P) = [] := if_neg ok
  have EE := Lib.hid (show ckE R (bytesS P) = 3 by unfold ckE; rw [if_neg ok])
  clear ok
  go_enter Tryd.func21, Tryd.ntmps21
  go_wp2_with fail
  refine C1.out.mono ?_
  rintro e w1 ⟨va, rfl, o1, b1⟩
  rw [e1]
  rw [e2] at o1
  obtain ⟨Aa, ca, rfl, -, -, -⟩ := own_atN o1 (n := 0) rfl
  have F := Lib.hid (show LgT 67 62 w p q dv v S0 R (ckY R Y (bytesS P)) (ckL R l (bytesS P)) (ckR R (bytesS S0) (bytesS P)) (.int .i64 (ckE R (bytesS P) : Nat)) (.returned (.int .i64 3)) w1 by
    unfold ckY ckL ckR
    rw [EE.out, if_neg (by decide), if_neg (by decide), if_neg (by decide)]
    exact lgt_same HG.out b1 _)
  clear o1 b1 C1 e1 e2
  go_wp2
  go_ret
  exact F.out
set_option maxRecDepth 100000 in
set_option maxHeartbeats 8000000 in
theorem lcheck_is (W w : World) (p q : Nat) (R Y : Int) (l : List UInt8) (dv v : Value) (S0 : List SlB) (A : Option Addr) (N c : Nat) (P : List SlB) (T : Tab w) (h : LgV 67 62 w p q R Y l dv v S0) (hP : LsAt W A N P) (hW : Below W.heap.size W w) (hX : ∀ k, Ft q dv k → W.heap.size ≤ k) (hN : N ≤ 1000) (hF : (framesL (bytesS P)).length ≤ 90000) :
    Calls Tryd.prog 21 #[.pointer (some ⟨p, 0, none⟩), .slice A N c] w (LgT 67 62 w p q dv v S0 R (ckY R Y (bytesS P)) (ckL R l (bytesS P)) (ckR R (bytesS S0) (bytesS P)) (.int .i64 (ckE R (bytesS P) : Nat))) := by
  have HG := Lib.hid h
  have TT := Lib.hid T
  have HP := Lib.hid hP
  have HW := Lib.hid hW
  have HX := Lib.hid hX
  have C1 := Lib.hid (frames_is w A N c P T (hP.below hW) hN hF)
  have FM := Lib.hid (show ∀ b ∈ bytesS P, b.length ≤ 1000000 from fun b hb => by
    obtain ⟨s, t, e⟩ := List.append_of_mem hb
    rw [e, framesL_app, framesL_cons, List.length_append, List.length_append, frameL_len] at hF
    omega)
  clear h hP hW hX
  by_cases ok : okP (bytesS P) = true
  · have e1 : frE (bytesS P) = 0 := if_pos ok
    have e2 : frV (bytesS P) = framesL (bytesS P) := if_pos ok
    have EQ := Lib.hid (show ckE R (bytesS P) = swE R (framesL (bytesS P)) by unfold ckE; rw [if_pos ok])
    obtain ⟨na, hna⟩ : ∃ na, (framesL (bytesS P)).length = na := ⟨_, rfl⟩
    have FL := Lib.hid hna
    rw [hna] at hF
    clear ok hna
    go_enter Tryd.func21, Tryd.ntmps21
    go_wp2_with fail
    refine C1.out.mono ?_
    rintro e w1 ⟨va, rfl, o1, b1⟩
    rw [e1]
    rw [e2] at o1
    obtain ⟨Aa, ca, rfl, aa, -, za⟩ := own_atN o1 FL.out
    have B1 := Lib.hid b1
    have G1 := Lib.hid (HG.out.below b1)
    have c0 := G1.out.c0
    have C4 := swap_is w1 q R Y l dv Aa na ca (framesL (bytesS P)) G1.out.d aa za (by omega)
    clear o1 b1 aa za C1
    by_cases hR : (na : Int) ≤ R
    · have y1 : swE R (framesL (bytesS P)) = 0 := by unfold swE; rw [FL.out]; exact if_pos hR
      have y2 : swL R l (framesL (bytesS P)) = framesL (bytesS P) := by unfold swL; rw [FL.out]; exact if_pos hR
      have y3 : swY R Y (framesL (bytesS P)) = (na : Nat) := by unfold swY; rw [FL.out]; exact if_pos hR
      rw [y1, y2, y3] at C4
      have EE := Lib.hid (EQ.out.trans y1)
      clear y1 y2 y3
      go_wp2_with fail
      refine C4.mono ?_
      rintro e w2 ⟨rfl, v2, d2, k2, n2⟩
      have G2 := Lib.hid (G1.out.disk d2 k2 n2)
      have D2 := HW.out.trans (B1.out.mono HW.out.size)
      have C5 := copies_is w2 A N c P (HP.out.below (D2.trans (k2.below D2.size HX.out))) (by omega) FM.out
      have K2 := Lib.hid k2
      have N2 := Lib.hid n2
      clear C4 D2 d2 k2 n2
      go_wp2_with fail
      refine C5.mono ?_
      rintro e w3 ⟨u, S', rfl, o3, s3, b3⟩
      have G3 := Lib.hid (G2.out.below b3)
      obtain ⟨N3, hN3⟩ : ∃ N3, S'.length = N3 := ⟨_, rfl⟩
      obtain ⟨A3, c3, e3, -, -, -⟩ := o3.at_
      rw [hN3] at e3
      subst e3
      obtain ⟨⟨z1, z2⟩, FIN⟩ := G3.out.put2 (by decide) (by decide) (o3.low (Nat.zero_le _)) (fun g hg z => by
        have h1 := (ownl_lt o3 g hg).1
        have h2 := G2.out.all g (.inr (.inr z))
        omega)
      have lo := (Nat.le_trans B1.out.size K2.out.size)
      have F := Lib.hid (show LgT 67 62 w p q dv v S0 R (ckY R Y (bytesS P)) (ckL R l (bytesS P)) (ckR R (bytesS S0) (bytesS P)) (.int .i64 (ckE R (bytesS P) : Nat)) (.returned (.int .i64 0)) (w3.setCell ⟨p, 1, none⟩ (.slice A3 N3 c3)) by
        unfold ckY ckL ckR
        rw [EE.out, if_pos rfl, if_pos rfl, if_pos rfl]
        refine ⟨rfl, v2, .slice A3 N3 c3, S', ?_, s3, (((Kp.of B1.out).trans (K2.out.mono fun g _ hg => .inr (.inr hg))).trans (Kp.of b3)).trans (FIN.out.2.mono fun g _ hg => .inl hg), fun g hg => ?_⟩
        · rw [FL.out]; exact FIN.out.1
        · rcases hg with hg | hg | hg | hg
          · exact .inl (.inl hg)
          · exact .inr (Nat.le_trans lo (ownl_lt o3 g hg).1)
          · exact .inl (.inr (.inr (.inl hg)))
          · rcases N2.out with n2 | n2
            · exact .inl (.inr (.inr (.inr (n2 ▸ hg))))
            · exact .inr (Nat.le_trans B1.out.size (n2 g hg)))
      clear FIN lo o3 s3 b3 C5 hN3
      go_wp2
      go_ret
      exact F.out
    · have y1 : swE R (framesL (bytesS P)) = 9 := by unfold swE; rw [FL.out]; exact if_neg hR
      have y2 : swL R l (framesL (bytesS P)) = l := by unfold swL; rw [FL.out]; exact if_neg hR
      have y3 : swY R Y (framesL (bytesS P)) = Y := by unfold swY; rw [FL.out]; exact if_neg hR
      rw [y1, y2, y3] at C4
      have EE := Lib.hid (EQ.out.trans y1)
      clear y1 y2 y3
      go_wp2_with fail
      refine C4.mono ?_
      intro e w2 t2
      obtain ⟨rfl, t3⟩ := LgT.disk (ans := .int .i64 9) G1.out t2
      have t4 := LgT.next (S := S0) (Kp.of B1.out) (fun _ hk => .inl hk) t3
      have F := Lib.hid (show LgT 67 62 w p q dv v S0 R (ckY R Y (bytesS P)) (ckL R l (bytesS P)) (ckR R (bytesS S0) (bytesS P)) (.int .i64 (ckE R (bytesS P) : Nat)) (.returned (.int .i64 9)) w2 by
        unfold ckY ckL ckR
        rw [EE.out, if_neg (by decide), if_neg (by decide), if_neg (by decide)]
        exact t4)
      clear t2 t3 t4 C4
      go_wp2
      go_ret
      exact F.out
  · exact lcheck_no w p q R Y l dv v S0 A N c P TT.out HG.out (HP.out.below HW.out) hN hF ok
end Go.Proofs.YtniphbfoppocfaaDoor.Wl
