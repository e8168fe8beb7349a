/- The walks of package frame: Clone, Get, Put. -/
import Derived.Test.YtniphbfoppocfaaDoorFrA
set_option linter.unusedVariables false
namespace Go.Proofs.YtniphbfoppocfaaDoor.Fr
open Go.RowKit

set_option maxRecDepth 100000 in
theorem clone_is (w : World) (A : Option Addr) (n c : Nat) (l : List UInt8) (h : BsAt w A n l) (hA : A = none → c = 0) (hn : n ≤ 1000000) :
    Calls Tryd.prog 40 #[.slice A n c] w fun e w' => ∃ v, e = .returned v ∧ OwnB w.heap.size w' v l ∧ Below w.heap.size w w' := by
  have EQ := fun w => Lib.run_eql_slice_nil (P := Tryd.prog) w 22 5 A n c 0 0 Tryd.underlying22
  cases A with
  | none =>
    obtain rfl := hA rfl
    obtain ⟨e, hc⟩ := h
    have hn0 : n = 0 := by
      by_cases h0 : 0 < n
      · obtain ⟨b, off, q, _⟩ := hc h0; cases q
      · omega
    subst hn0
    obtain rfl : l = [] := List.length_eq_zero_iff.1 e.symm
    clear hc hA e
    go_enter Tryd.func40, Tryd.ntmps40
    go_wp2
    go_ret
    exact ⟨_, rfl, OwnB.nil _ _, Below.refl _ _⟩
  | some ad =>
    have o0 := lit_own (B := w.heap.size) w [] #[] (Nat.le_refl _) rfl (by decide)
    have b0 := below_alloc w (.cells #[] 5)
    have HO := Lib.hid o0
    have H := Lib.hid (h.below b0)
    have BB := Lib.hid b0
    clear o0 b0 h
    go_enter Tryd.func40, Tryd.ntmps40
    go_wp2_with (at_builtin; refine append_bs rfl _ _ rfl _ [] rfl HO.out (by simp) _ _ _ _ rfl H.out (fun q => by cases q) (by simpa using hn) ?_)
    intro v1 w1 o1 b1
    go_wp2
    go_ret
    exact ⟨v1, rfl, by simpa using o1, BB.out.trans (grown_below HO.out b1 (by simp))⟩
/-- what Get answers -/
def getE (l : List UInt8) (x : Int) : Nat := if 0 ≤ x ∧ x ≤ l.length then get1 (l.drop x.toNat) else 1
def getP (l : List UInt8) (x : Int) : List UInt8 := if getE l x = 0 then pay (l.drop x.toNat) else []
def getN (l : List UInt8) (x : Int) : Int := if getE l x = 0 then x + 6 + (pay (l.drop x.toNat)).length else 0
def GetR (w : World) (l : List UInt8) (x : Int) (e : Ending) (w' : World) : Prop :=
  ∃ v, e = .returned (.tuple #[v, .int .i64 (getN l x), .int .i64 (getE l x : Nat)]) ∧ OwnB w.heap.size w' v (getP l x) ∧ Below w.heap.size w w'
theorem get_err' {w w' : World} {l : List UInt8} {x : Int} {k : Nat} (h : getE l x = k) (hk : k ≠ 0) (hb : Below w.heap.size w w') : GetR w l x (.returned (.tuple #[.slice none 0 0, .int .i64 0, .int .i64 (k : Nat)])) w' :=
  ⟨.slice none 0 0, by unfold getN; rw [h, if_neg hk], by unfold getP; rw [h, if_neg hk]; exact OwnB.nil _ _, hb⟩
theorem get_err {w : World} {l : List UInt8} {x : Int} {k : Nat} (h : getE l x = k) (hk : k ≠ 0) : GetR w l x (.returned (.tuple #[.slice none 0 0, .int .i64 0, .int .i64 (k : Nat)])) w := get_err' h hk (Below.refl _ _)
theorem get_fine {w w' : World} {l : List UInt8} {x : Int} {v : Value} {n : Int} (h : getE l x = 0) (hn : n = x + 6 + (pay (l.drop x.toNat)).length) (ho : OwnB w.heap.size w' v (pay (l.drop x.toNat))) (hb : Below w.heap.size w w') : GetR w l x (.returned (.tuple #[v, .int .i64 n, .int .i64 0])) w' :=
  ⟨v, by unfold getN; rw [h, if_pos rfl, hn]; rfl, by unfold getP; rw [if_pos h]; exact ho, hb⟩
set_option maxRecDepth 100000 in
set_option maxHeartbeats 4000000 in
theorem get_is (w : World) (A : Option Addr) (n c : Nat) (l : List UInt8) (x : Int) (T : Tab w) (h : BsAt w A n l) (hnc : n ≤ c) (hc63 : c ≤ 9223372036854775807) (hn : n ≤ 1000000) (l1 : -9223372036854775808 ≤ x) (u1 : x ≤ 9223372036854775807) :
    Calls Tryd.prog 48 #[.slice A n c, .int .i64 x] w (GetR w l x) := by
  have en := h.1
  have H := Lib.hid h
  have TB := Lib.hid T
  by_cases hx : 0 ≤ x ∧ x ≤ n
  · obtain ⟨hx0, hxn⟩ := hx
    obtain ⟨t, rfl⟩ := Int.eq_ofNat_of_zero_le hx0
    have q0 : decide ((t : Int) < 0) = false := decide_eq_false (by omega)
    have q1 : decide ((n : Int) < t) = false := decide_eq_false (by omega)
    have hE : getE l t = get1 (l.drop t) := by unfold getE; rw [if_pos ⟨hx0, by omega⟩]; rfl
    have HE := Lib.hid hE
    clear hE h T
    by_cases h6 : n - t < 6
    · have G := Lib.hid (get_err (w := w) (k := 2) (HE.out.trans (by unfold get1; rw [if_pos (by rw [List.length_drop]; omega)])) (by decide))
      have q2 : ((n : Int) - t) < 6 := by omega
      have q3 : n - t < 6 := h6
      go_enter Tryd.func48, Tryd.ntmps48
      go_wp2
      all_goals
        exact bodyPost_ret (v := .tuple #[.slice none 0 0, .int .i64 0, .int .i64 2]) (by simp [results, Tryd.results48, go_sem]) rfl G.out
    · have hct : ¬ c = t := by omega
      obtain ⟨b, off, rfl, hb, hcc⟩ := H.out.2 (by omega)
      have hR : BsAt w (some ⟨b, off + t, none⟩) (n - t) (l.drop t) := by
        have := H.out.part (k := t) (m := n - t) (B := some ⟨b, off + t, none⟩) (by omega) (fun _ => rfl)
        rwa [List.take_of_length_le (by rw [List.length_drop]; omega)] at this
      have h2 : BsAt w (some ⟨b, off + t, none⟩) 2 ((l.drop t).take 2) := hR.take (by omega)
      have HR := Lib.hid hR
      have H2 := Lib.hid h2
      clear hcc hR h2
      have rl : (l.drop t).length = n - t := by rw [List.length_drop]; omega
      have n2 := numL_lt2 (l := (l.drop t).take 2) (by rw [List.length_take]; omega)
      have q2 : ¬ ((n : Int) - t) < 6 := by omega
      have q3 : ¬ n - t < 6 := h6
      have C2 := number_is w (some ⟨b, off + t, none⟩) 2 (c - t) _ H2.out (by decide)
      generalize hm : numL ((l.drop t).take 2) = m at *
      go_enter Tryd.func48, Tryd.ntmps48
      go_wp2_with fail
      refine C2.mono ?_
      rintro e w' ⟨rfl, rfl⟩
      clear C2
      by_cases h8 : 8192 < m
      · have G := Lib.hid (get_err (w := w') (k := 3) (HE.out.trans (by unfold get1; rw [if_neg (by omega), hm, if_pos h8])) (by decide))
        have q4 : (8192 : Int) < m := by omega
        go_wp2
        exact bodyPost_ret (v := .tuple #[.slice none 0 0, .int .i64 0, .int .i64 3]) (by simp [results, Tryd.results48, go_sem]) rfl G.out
      · by_cases h9 : n - t < 6 + m
        · have G := Lib.hid (get_err (w := w') (k := 2) (HE.out.trans (by unfold get1; rw [if_neg (by omega), hm, if_neg h8, if_pos (by omega)])) (by decide))
          have q4 : ¬ (8192 : Int) < m := by omega
          have q5 : ((n - t : Nat) : Int) < 6 + m := by omega
          go_wp2
          exact bodyPost_ret (v := .tuple #[.slice none 0 0, .int .i64 0, .int .i64 2]) (by simp [results, Tryd.results48, go_sem]) rfl G.out
        · have q4 : ¬ (8192 : Int) < m := by omega
          have q5 : ¬ ((n - t : Nat) : Int) < 6 + m := by omega
          have hp : ((l.drop t).drop 6).take m = pay (l.drop t) := by unfold pay; rw [hm]
          have PL := Lib.hid (show (pay (l.drop t)).length = m by rw [← hp, List.length_take, List.length_drop]; omega)
          have H6 := Lib.hid (fun (B : Option Addr) (hB : 0 < m → B = some ⟨b, off + t + 6, none⟩) => hp ▸ HR.out.part (k := 6) (m := m) (B := B) (by omega) hB)
          have H4 := Lib.hid (HR.out.part (k := 2) (m := 4) (B := some ⟨b, off + t + 2, none⟩) (by omega) (fun _ => rfl))
          have E0 := Lib.hid (fun (q : sumL ((l.drop t).take 2 ++ pay (l.drop t)) = numL (((l.drop t).drop 2).take 4)) => HE.out.trans (show get1 (l.drop t) = 0 by unfold get1; rw [if_neg (by omega), hm, if_neg h8, if_neg (by omega), if_neg (fun z => z q)]))
          have E5 := Lib.hid (fun (q : ¬ sumL ((l.drop t).take 2 ++ pay (l.drop t)) = numL (((l.drop t).drop 2).take 4)) => HE.out.trans (show get1 (l.drop t) = 5 by unfold get1; rw [if_neg (by omega), hm, if_neg h8, if_neg (by omega), if_pos q]))
          generalize hrp : pay (l.drop t) = rp at H6 E0 E5
          generalize hr4 : ((l.drop t).drop 2).take 4 = r4 at H4 E0 E5
          generalize hr2 : (l.drop t).take 2 = r2 at H2 E0 E5
          have PQ := Lib.hid hrp
          clear hr4 hr2 hrp hp hm rl
          obtain ⟨s, S1⟩ : ∃ s, sumL (r2 ++ rp) = s := ⟨_, rfl⟩
          obtain ⟨u, S2⟩ : ∃ u, numL r4 = u := ⟨_, rfl⟩
          rw [S1, S2] at E0 E5
          by_cases hz : c - t = 6
          · have HP := Lib.hid (H6.out (some ⟨b, off + t, none⟩) (fun q => by omega))
            go_wp2
            simp only [Nat.add_sub_cancel_left]
            go_quiet (first
              | (go_at_call 47; exact Calls.quiet_of_same (sum2_is _ _ _ _ _ _ _ _ _ (TB.out.on (below_drewN _ _ _)) (H2.out.below (below_drewN _ _ _)) (by decide) (HP.out.below (below_drewN _ _ _)) (by omega)))
              | (go_at_call 53; exact Calls.quiet_of_same (number_is _ _ _ _ _ (H4.out.below (below_drewN _ _ _)) (by decide))))
            rw [S1, S2]
            by_cases hsu : s = u
            · have q6 : ((s : Int) != (u : Int)) = false := by rw [bne_eq_false_iff_eq]; omega
              have C3 := fun cc => clone_is (w'.drewN nq) _ m cc _ (HP.out.below (below_drewN _ _ _)) (fun q => by cases q) (by omega)
              go_wp2_with (go_at_call 40; refine (C3 _).mono ?_)
              rintro e w1 ⟨v1, rfl, o1, b1⟩
              go_wp2
              have b2 := (below_drewN w'.heap.size w' nq).trans b1
              exact bodyPost_ret (v := .tuple #[v1, .int .i64 (t + 6 + m), .int .i64 0]) (by simp [results, Tryd.results48, go_sem]) rfl (get_fine (E0.out hsu) (by show (t : Int) + 6 + m = t + 6 + (pay (l.drop t)).length; rw [PL.out]) (by show OwnB _ _ _ (pay (l.drop t)); rw [PQ.out]; exact o1) b2)
            · have q6 : ((s : Int) != (u : Int)) = true := by rw [bne_iff_ne]; omega
              have G := Lib.hid (get_err' (w := w') (E5.out hsu) (by decide) (below_drewN w'.heap.size w' nq))
              go_wp2
              exact bodyPost_ret (v := .tuple #[.slice none 0 0, .int .i64 0, .int .i64 5]) (by simp [results, Tryd.results48, go_sem]) rfl G.out
          · have HP := Lib.hid (H6.out (some ⟨b, off + t + 6, none⟩) (fun _ => rfl))
            go_wp2
            simp only [Nat.add_sub_cancel_left]
            go_quiet (first
              | (go_at_call 47; exact Calls.quiet_of_same (sum2_is _ _ _ _ _ _ _ _ _ (TB.out.on (below_drewN _ _ _)) (H2.out.below (below_drewN _ _ _)) (by decide) (HP.out.below (below_drewN _ _ _)) (by omega)))
              | (go_at_call 53; exact Calls.quiet_of_same (number_is _ _ _ _ _ (H4.out.below (below_drewN _ _ _)) (by decide))))
            rw [S1, S2]
            by_cases hsu : s = u
            · have q6 : ((s : Int) != (u : Int)) = false := by rw [bne_eq_false_iff_eq]; omega
              have C3 := fun cc => clone_is (w'.drewN nq) _ m cc _ (HP.out.below (below_drewN _ _ _)) (fun q => by cases q) (by omega)
              go_wp2_with (go_at_call 40; refine (C3 _).mono ?_)
              rintro e w1 ⟨v1, rfl, o1, b1⟩
              go_wp2
              have b2 := (below_drewN w'.heap.size w' nq).trans b1
              exact bodyPost_ret (v := .tuple #[v1, .int .i64 (t + 6 + m), .int .i64 0]) (by simp [results, Tryd.results48, go_sem]) rfl (get_fine (E0.out hsu) (by show (t : Int) + 6 + m = t + 6 + (pay (l.drop t)).length; rw [PL.out]) (by show OwnB _ _ _ (pay (l.drop t)); rw [PQ.out]; exact o1) b2)
            · have q6 : ((s : Int) != (u : Int)) = true := by rw [bne_iff_ne]; omega
              have G := Lib.hid (get_err' (w := w') (E5.out hsu) (by decide) (below_drewN w'.heap.size w' nq))
              go_wp2
              exact bodyPost_ret (v := .tuple #[.slice none 0 0, .int .i64 0, .int .i64 5]) (by simp [results, Tryd.results48, go_sem]) rfl G.out
  · have hE : getE l x = 1 := by unfold getE; rw [if_neg (by omega)]
    have G := Lib.hid (get_err (w := w) hE (by decide))
    clear h T
    by_cases h0 : x < 0
    · go_enter Tryd.func48, Tryd.ntmps48
      go_wp2
      exact bodyPost_ret (v := .tuple #[.slice none 0 0, .int .i64 0, .int .i64 1]) (by simp [results, Tryd.results48, go_sem]) rfl G.out
    · have h1 : (n : Int) < x := by omega
      go_enter Tryd.func48, Tryd.ntmps48
      go_wp2
      exact bodyPost_ret (v := .tuple #[.slice none 0 0, .int .i64 0, .int .i64 1]) (by simp [results, Tryd.results48, go_sem]) rfl G.out
end Go.Proofs.YtniphbfoppocfaaDoor.Fr
