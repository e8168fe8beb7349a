/- The walks of the document's Put and Get. -/
import Derived.Test.YtniphbfoppocfaaDoorFrD
set_option linter.unusedVariables false
namespace Go.Proofs.YtniphbfoppocfaaDoor.Fr
open Go.RowKit

theorem OwnB.low {B C : Nat} {w : World} {v : Value} {l : List UInt8} (h : OwnB B w v l) (hb : C ≤ B) : OwnB C w v l := row_low h hb
/-- .. whose length has a name -/
theorem OwnB.atN {B : Nat} {w : World} {v : Value} {l : List UInt8} (h : OwnB B w v l) {n : Nat} (e : l.length = n) : ∃ A c, v = .slice A n c ∧ BsAt w A n l ∧ n ≤ c ∧ (A = none → c = 0) := by
  subst e; exact h.at_
set_option maxRecDepth 100000 in
set_option maxHeartbeats 4000000 in
theorem rput_is (w : World) (A : Option Addr) (n c : Nat) (p : List UInt8) (h : BsAt w A n p) (hA : A = none → c = 0) (hn : n ≤ 1000000) :
    Calls Tryd.prog 41 #[.slice A n c] w (PutR w p) := by
  obtain rfl : n = p.length := h.1
  have H := Lib.hid h
  have HA := Lib.hid hA
  clear h hA
  by_cases h8 : p.length ≤ 8192
  · have q0 : ¬ (8192 : Int) < p.length := by omega
    have P8 := Lib.hid h8
    obtain ⟨n, en⟩ : ∃ n, p.length = n := ⟨_, rfl⟩
    have EN := Lib.hid en
    rw [en] at q0 h8 hn ⊢
    rw [en] at H
    clear en
    have C1 := be_is w 2 n (by decide) (by omega)
    rw [beN_2] at C1
    go_enter Tryd.func41, Tryd.ntmps41
    go_wp2_with fail
    refine C1.mono ?_
    rintro e w1 ⟨v1, rfl, o1, b1⟩
    clear C1
    obtain ⟨A1, c1, rfl, a1, k1, z1⟩ := o1.atN (n := 2) rfl
    have O1 := Lib.hid o1
    have B1 := Lib.hid b1
    have C2 := copy_is w1 A1 2 c1 (be2 n) a1 z1 (by decide)
    clear o1 b1 a1
    go_wp2_with fail
    refine C2.mono ?_
    rintro e w2 ⟨v2, rfl, o2, b2⟩
    clear C2
    have O2 := Lib.hid o2
    have B2 := Lib.hid b2
    have H2 := Lib.hid (H.out.below (B1.out.trans (b2.mono B1.out.size)))
    clear o2 b2
    go_wp2_with (at_builtin; refine append_bs rfl _ _ rfl _ _ rfl O2.out B2.out.size _ _ _ _ rfl H2.out HA.out (by simp [be2]; omega) ?_)
    intro v3 w3 o3 g3
    have b3 : Below w1.heap.size w1 w3 := B2.out.trans (grown_below O2.out g3 B2.out.size)
    obtain ⟨A3, c3, rfl, a3, k3, z3⟩ := o3.atN (n := 2 + n) (by rw [List.length_append, EN.out]; rfl)
    have C3 := rsum_is w3 A3 (2 + n) c3 (be2 n ++ p) a3 (by omega)
    have hs := sumL_lt (be2 n ++ p)
    obtain ⟨s, S1⟩ : ∃ s, sumL (be2 n ++ p) = s := ⟨_, rfl⟩
    rw [S1] at C3 hs
    have O4 := Lib.hid (O1.out.on b3)
    have B4 := Lib.hid (B1.out.trans (b3.mono B1.out.size))
    clear o3 g3 b3 a3
    go_wp2_with fail
    refine C3.mono ?_
    rintro e w' ⟨rfl, rfl⟩
    clear C3
    have C4 := be_is w' 4 s (by decide) (by omega)
    rw [beN_4] at C4
    go_wp2_with fail
    refine C4.mono ?_
    rintro e w5 ⟨v5, rfl, o5, b5⟩
    clear C4
    obtain ⟨A5, c5, rfl, a5, k5, z5⟩ := o5.atN (n := 4) rfl
    have O5 := Lib.hid (O4.out.on b5)
    have B5 := Lib.hid (B4.out.trans (b5.mono B4.out.size))
    have A5' := Lib.hid a5
    clear o5 b5 a5
    go_wp2_with (at_builtin; refine append_bs rfl _ _ rfl _ _ rfl O5.out B5.out.size _ _ _ _ rfl A5'.out z5 (by simp [be2]) ?_)
    intro v6 w6 o6 g6
    have b6 : Below w.heap.size w w6 := B5.out.trans (grown_below O5.out g6 B5.out.size)
    have O6 := Lib.hid o6
    have B6 := Lib.hid b6
    have H6 := Lib.hid (H.out.below b6)
    clear o6 g6 b6
    go_wp2_with (at_builtin; refine append_bs rfl _ _ rfl _ _ rfl O6.out B6.out.size _ _ _ _ rfl H6.out HA.out (by simp [be2, be4]; omega) ?_)
    intro v7 w7 o7 g7
    have b7 : Below w.heap.size w w7 := B6.out.trans (grown_below O6.out g7 B6.out.size)
    have e7 : be2 n ++ be4 s ++ p = frameL p := by unfold frameL; rw [EN.out, S1, List.append_assoc]
    have o8 : OwnB w.heap.size w7 v7 (frameL p) := by rw [← e7]; exact o7
    have G := Lib.hid (put_fine P8.out o8 b7)
    clear o7 g7 b7 e7 o8
    go_wp2
    exact bodyPost_ret (v := .tuple #[v7, .int .i64 0]) (by simp [results, Tryd.results41, go_sem]) rfl G.out
  · have q0 : (8192 : Int) < p.length := by omega
    have G := Lib.hid (put_err (w := w) (p := p) (by omega))
    go_enter Tryd.func41, Tryd.ntmps41
    go_wp2
    exact bodyPost_ret (v := .tuple #[.slice none 0 0, .int .i64 3]) (by simp [results, Tryd.results41, go_sem]) rfl G.out
/-- the record there is as it is put, just if its sum is right -/
theorem same_frame {r : List UInt8} {m : Nat} (hm : numL (r.take 2) = m) (h8 : m ≤ 8192) (hl : 6 + m ≤ r.length) : frameL (pay r) = r.take (6 + m) ↔ sumL (r.take 2 ++ pay r) = numL ((r.drop 2).take 4) := by
  have hp : (pay r).length = m := by unfold pay; rw [List.length_take, List.length_drop, hm]; omega
  have l2 : (r.take 2).length = 2 := by rw [List.length_take]; omega
  have l4 : ((r.drop 2).take 4).length = 4 := by rw [List.length_take, List.length_drop]; omega
  have e2 : be2 (pay r).length = r.take 2 := by rw [hp, ← hm]; exact be2_numL l2
  have er : r.take (6 + m) = r.take 2 ++ ((r.drop 2).take 4 ++ pay r) := by
    unfold pay
    rw [hm, show 6 + m = 2 + (4 + m) by omega, List.take_add, List.take_add, List.drop_drop]
  unfold frameL
  rw [e2, er]
  constructor
  · intro h
    have h1 := List.append_cancel_left h
    have h2 := List.append_cancel_right h1
    rw [← h2, numL_be4 (sumL_lt _)]
  · intro h
    rw [h, be4_numL l4]
theorem part_at {w : World} {b off n k m : Nat} {l : List UInt8} (h : BsAt w (some ⟨b, off, none⟩) n l) (hk : k + m ≤ n) (B : Option Addr) (hB : 0 < m → B = some ⟨b, off + k, none⟩) : BsAt w B m ((l.drop k).take m) := h.part hk hB
set_option maxRecDepth 100000 in
set_option maxHeartbeats 4000000 in
theorem rget_is (w : World) (A : Option Addr) (n c : Nat) (l : List UInt8) (x : Int) (h : BsAt w A n l) (hnc : n ≤ c) (hc63 : c ≤ 9223372036854775807) (hn : n ≤ 1000000) (l1 : -9223372036854775808 ≤ x) (u1 : x ≤ 9223372036854775807) :
    Calls Tryd.prog 49 #[.slice A n c, .int .i64 x] w (GetR w l x) := by
  obtain rfl : n = l.length := h.1
  obtain ⟨n, en⟩ : ∃ n, l.length = n := ⟨_, rfl⟩
  have EN := Lib.hid en
  rw [en] at h hnc hn ⊢
  have H := Lib.hid h
  by_cases hx : 0 ≤ x ∧ x ≤ n
  · obtain ⟨hx0, hxn⟩ := hx
    obtain ⟨t, rfl⟩ := Int.eq_ofNat_of_zero_le hx0
    have q0 : ¬ (t : Int) < 0 := by omega
    have q1 : ¬ (n : Int) < t := by omega
    have hE : getE l t = get1 (l.drop t) := by unfold getE; rw [if_pos ⟨hx0, by omega⟩]; rfl
    have HE := Lib.hid hE
    have rl : (l.drop t).length = n - t := by rw [List.length_drop]; omega
    clear hE h
    by_cases h6 : n - t < 6
    · have G := Lib.hid (get_err (w := w) (k := 2) (HE.out.trans (by unfold get1; rw [if_pos (by omega)])) (by decide))
      have q2 : ((n : Int) - t) < 6 := by omega
      clear rl en
      go_enter Tryd.func49, Tryd.ntmps49
      go_wp2
      all_goals
        exact bodyPost_ret (v := .tuple #[.slice none 0 0, .int .i64 0, .int .i64 2]) (by simp [results, Tryd.results49, go_sem]) rfl G.out
    · have hct : ¬ c = t := by omega
      obtain ⟨b, off, rfl, hb, hcc⟩ := H.out.2 (by omega)
      have H2 := Lib.hid (H.out.part (k := t) (m := 2) (B := some ⟨b, off + t, none⟩) (by omega) (fun _ => rfl))
      clear hcc
      have n2 := numL_lt2 (l := (l.drop t).take 2) (by rw [List.length_take]; omega)
      have q2 : ¬ ((n : Int) - t) < 6 := by omega
      have C2 := fun cc => rnum_is w (some ⟨b, off + t, none⟩) 2 cc _ H2.out (by decide)
      generalize hm : numL ((l.drop t).take 2) = m at *
      clear en
      go_enter Tryd.func49, Tryd.ntmps49
      go_wp2_with fail
      refine (C2 _).mono ?_
      rintro e w' ⟨rfl, rfl⟩
      clear C2
      by_cases h8 : 8192 < m
      · have G := Lib.hid (get_err (w := w') (k := 3) (HE.out.trans (by unfold get1; rw [if_neg (by omega), hm, if_pos h8])) (by decide))
        have q4 : (8192 : Int) < m := by omega
        go_wp2
        exact bodyPost_ret (v := .tuple #[.slice none 0 0, .int .i64 0, .int .i64 3]) (by simp [results, Tryd.results49, go_sem]) rfl G.out
      · by_cases h9 : n - t < 6 + m
        · have G := Lib.hid (get_err (w := w') (k := 2) (HE.out.trans (by unfold get1; rw [if_neg (by omega), hm, if_neg h8, if_pos (by omega)])) (by decide))
          have q4 : ¬ (8192 : Int) < m := by omega
          have q5 : (n : Int) - t - 6 < m := by omega
          go_wp2
          exact bodyPost_ret (v := .tuple #[.slice none 0 0, .int .i64 0, .int .i64 2]) (by simp [results, Tryd.results49, go_sem]) rfl G.out
        · have q4 : ¬ (8192 : Int) < m := by omega
          have q5 : ¬ (n : Int) - t - 6 < m := by omega
          have hp : (l.drop (t + 6)).take m = pay (l.drop t) := by unfold pay; rw [hm, List.drop_drop]
          have PL := Lib.hid (show (pay (l.drop t)).length = m by rw [← hp, List.length_take, List.length_drop, EN.out]; omega)
          have C5 := fun (B : Option Addr) (cc : Nat) (hB : 0 < m → B = some ⟨b, off + (t + 6), none⟩) (hB0 : B = none → cc = 0) => copy_is w' B m cc (pay (l.drop t)) (hp ▸ part_at H.out (k := t + 6) (m := m) (by omega) B hB) hB0 (by omega)
          have HF := Lib.hid (part_at H.out (k := t) (m := 6 + m) (by omega) (some ⟨b, off + t, none⟩) (fun _ => rfl))
          have SF := Lib.hid (same_frame (r := l.drop t) hm (by omega) (by omega))
          have E0 := Lib.hid (fun (q : sumL ((l.drop t).take 2 ++ pay (l.drop t)) = numL (((l.drop t).drop 2).take 4)) => HE.out.trans (show get1 (l.drop t) = 0 by unfold get1; rw [if_neg (by omega), hm, if_neg h8, if_neg (by omega), if_neg (fun z => z q)]))
          have E5 := Lib.hid (fun (q : ¬ sumL ((l.drop t).take 2 ++ pay (l.drop t)) = numL (((l.drop t).drop 2).take 4)) => HE.out.trans (show get1 (l.drop t) = 5 by unfold get1; rw [if_neg (by omega), hm, if_neg h8, if_neg (by omega), if_pos q]))
          rw [← SF.out] at E0 E5
          generalize hrp : pay (l.drop t) = rp at C5 E0 E5
          generalize hr6 : (l.drop t).take (6 + m) = r6 at HF E0 E5
          have PQ := Lib.hid hrp
          clear hrp hr6 hp hm rl SF H2
          by_cases hz : c = t + 6
          · go_wp2_with fail
            try rw [show t + 6 + m - (t + 6) = m by omega]
            refine (C5 _ _ (fun q => by omega) (fun q => by cases q)).mono ?_
            rintro e w2 ⟨v2, rfl, o2, b2⟩
            clear C5
            obtain ⟨A2, c2, rfl, a2, k2, z2⟩ := o2.atN (n := m) (PQ.out ▸ PL.out)
            have C6 := rput_is w2 A2 m c2 rp a2 z2 (by omega)
            have E6 : putE rp = 0 := by unfold putE; rw [if_pos (by rw [← PQ.out, PL.out]; omega)]
            have V6 : putV rp = frameL rp := by unfold putV; rw [if_pos (by rw [← PQ.out, PL.out]; omega)]
            unfold PutR at C6
            rw [E6, V6] at C6
            have O2 := Lib.hid o2
            have B2 := Lib.hid b2
            clear o2 b2 a2
            go_wp2_with fail
            refine C6.mono ?_
            rintro e w3 ⟨v3, rfl, o3, b3⟩
            clear C6
            obtain ⟨A3, c3, rfl, a3, k3, z3⟩ := o3.atN (n := 6 + m) (by rw [frameL_len, ← PQ.out, PL.out])
            have B3 := Lib.hid (B2.out.trans (b3.mono B2.out.size))
            have O3 := Lib.hid (O2.out.on b3)
            have C7 := fun cc => bytes_is w3 A3 (some ⟨b, off + t, none⟩) (6 + m) c3 (6 + m) cc (frameL rp) r6 a3 (HF.out.below B3.out)
            clear o3 b3 a3
            go_wp2_with fail
            try rw [show t + 6 + m - t = 6 + m by omega]
            refine (C7 _).mono ?_
            rintro e w4 ⟨rfl, rfl⟩
            clear C7
            by_cases hs : frameL rp = r6
            · have d6 : decide (frameL rp = r6) = true := decide_eq_true hs
              have G := Lib.hid (get_fine (E0.out hs) (show (t : Int) + 6 + m = t + 6 + (pay (l.drop t)).length by rw [PL.out]) (by show OwnB _ _ _ (pay (l.drop t)); rw [PQ.out]; exact O3.out) B3.out)
              clear hs
              go_wp2
              exact bodyPost_ret (v := .tuple #[.slice A2 m c2, .int .i64 (t + 6 + m), .int .i64 0]) (by simp [results, Tryd.results49, go_sem]) rfl G.out
            · have d6 : decide (frameL rp = r6) = false := decide_eq_false hs
              have G := Lib.hid (get_err' (E5.out hs) (by decide) B3.out)
              clear hs
              go_wp2
              exact bodyPost_ret (v := .tuple #[.slice none 0 0, .int .i64 0, .int .i64 5]) (by simp [results, Tryd.results49, go_sem]) rfl G.out
          · go_wp2_with fail
            try rw [show t + 6 + m - (t + 6) = m by omega]
            refine (C5 _ _ (fun q => rfl) (fun q => by cases q)).mono ?_
            rintro e w2 ⟨v2, rfl, o2, b2⟩
            clear C5
            obtain ⟨A2, c2, rfl, a2, k2, z2⟩ := o2.atN (n := m) (PQ.out ▸ PL.out)
            have C6 := rput_is w2 A2 m c2 rp a2 z2 (by omega)
            have E6 : putE rp = 0 := by unfold putE; rw [if_pos (by rw [← PQ.out, PL.out]; omega)]
            have V6 : putV rp = frameL rp := by unfold putV; rw [if_pos (by rw [← PQ.out, PL.out]; omega)]
            unfold PutR at C6
            rw [E6, V6] at C6
            have O2 := Lib.hid o2
            have B2 := Lib.hid b2
            clear o2 b2 a2
            go_wp2_with fail
            refine C6.mono ?_
            rintro e w3 ⟨v3, rfl, o3, b3⟩
            clear C6
            obtain ⟨A3, c3, rfl, a3, k3, z3⟩ := o3.atN (n := 6 + m) (by rw [frameL_len, ← PQ.out, PL.out])
            have B3 := Lib.hid (B2.out.trans (b3.mono B2.out.size))
            have O3 := Lib.hid (O2.out.on b3)
            have C7 := fun cc => bytes_is w3 A3 (some ⟨b, off + t, none⟩) (6 + m) c3 (6 + m) cc (frameL rp) r6 a3 (HF.out.below B3.out)
            clear o3 b3 a3
            go_wp2_with fail
            try rw [show t + 6 + m - t = 6 + m by omega]
            refine (C7 _).mono ?_
            rintro e w4 ⟨rfl, rfl⟩
            clear C7
            by_cases hs : frameL rp = r6
            · have d6 : decide (frameL rp = r6) = true := decide_eq_true hs
              have G := Lib.hid (get_fine (E0.out hs) (show (t : Int) + 6 + m = t + 6 + (pay (l.drop t)).length by rw [PL.out]) (by show OwnB _ _ _ (pay (l.drop t)); rw [PQ.out]; exact O3.out) B3.out)
              clear hs
              go_wp2
              exact bodyPost_ret (v := .tuple #[.slice A2 m c2, .int .i64 (t + 6 + m), .int .i64 0]) (by simp [results, Tryd.results49, go_sem]) rfl G.out
            · have d6 : decide (frameL rp = r6) = false := decide_eq_false hs
              have G := Lib.hid (get_err' (E5.out hs) (by decide) B3.out)
              clear hs
              go_wp2
              exact bodyPost_ret (v := .tuple #[.slice none 0 0, .int .i64 0, .int .i64 5]) (by simp [results, Tryd.results49, go_sem]) rfl G.out
  · have hE : getE l x = 1 := by unfold getE; rw [if_neg (by omega)]
    have G := Lib.hid (get_err (w := w) hE (by decide))
    clear h
    by_cases h0 : x < 0
    · clear en
      go_enter Tryd.func49, Tryd.ntmps49
      go_wp2
      exact bodyPost_ret (v := .tuple #[.slice none 0 0, .int .i64 0, .int .i64 1]) (by simp [results, Tryd.results49, go_sem]) rfl G.out
    · have h1 : (n : Int) < x := by omega
      clear en
      go_enter Tryd.func49, Tryd.ntmps49
      go_wp2
      exact bodyPost_ret (v := .tuple #[.slice none 0 0, .int .i64 0, .int .i64 1]) (by simp [results, Tryd.results49, go_sem]) rfl G.out
end Go.Proofs.YtniphbfoppocfaaDoor.Fr
