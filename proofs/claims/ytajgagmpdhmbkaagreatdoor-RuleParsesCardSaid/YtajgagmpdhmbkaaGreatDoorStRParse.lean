/- What vokref1.Parse answers. -/
import Derived.Test.YtajgagmpdhmbkaaGreatDoorStRText
import Derived.Test.YtajgagmpdhmbkaaGreatDoorStX
import Derived.StillTailTactics
import Derived.Outline
set_option linter.unusedVariables false
namespace Go.Proofs.YtajgagmpdhmbkaaGreatDoor.St
open Go.RowKit Cv

set_option linter.unusedVariables false

set_option maxHeartbeats 800000 in
theorem rmake_is (y mo d h mi s a b : Int) (w : World) (hr : makeR y mo d h mi s = (a, b)) :
    Calls Tryz.prog 142 #[.int .i64 y, .int .i64 mo, .int .i64 d, .int .i64 h, .int .i64 mi, .int .i64 s] w fun e w' => e = .returned (.tuple #[.int .i64 a, .int .i64 b]) ∧ w = w' := by
  unfold makeR at hr
  cases hv : valid y mo d
  · rw [if_neg (by simp [hv])] at hr
    injection hr with h1 h2; subst h1 h2
    have V := Lib.hid hv; clear hv
    go_enter Tryz.func142, Tryz.ntmps142
    go_wp2_with (go_at_call 178; refine (rdays_no _ _ _ _ V.out).mono ?_; rintro e w' ⟨rfl, rfl⟩)
    go_ret2
    exact ⟨rfl, rfl⟩
  · cases ht : time h mi s
    · rw [if_neg (by simp [ht])] at hr
      injection hr with h1 h2; subst h1 h2
      have V := Lib.hid hv; clear hv
      rcases time_no ht with h1 | ⟨h1, h2⟩ | ⟨h1, h2, h3 | ⟨h3, h4⟩ | ⟨h3, h4, h5 | ⟨h5, h6⟩⟩⟩
      all_goals
        clear ht
        go_enter Tryz.func142, Tryz.ntmps142
        go_wp2_with (go_at_call 178; refine (rdays_yes _ _ _ _ V.out).mono ?_; rintro e w' ⟨rfl, rfl⟩)
        go_ret2
        exact ⟨rfl, rfl⟩
    · rw [if_pos ⟨hv, ht⟩] at hr
      injection hr with e1 e2; subst e1 e2
      obtain ⟨h1, h2, h3, h4, h5, h6⟩ := of_decide_eq_true ht; clear ht
      obtain ⟨b1, b2⟩ := num_bd hv
      have V := Lib.hid hv; clear hv
      go_enter Tryz.func142, Tryz.ntmps142
      go_wp2_with (go_at_call 178; refine (rdays_yes _ _ _ _ V.out).mono ?_; rintro e w' ⟨rfl, rfl⟩)
      go_ret2
      exact ⟨rfl, rfl⟩
def addR (t n : Int) : Int × Int := if may t = true ∧ may (t + n) = true then (t + n, 0) else (0, 1)
set_option linter.unusedVariables false

theorem rnumber_is (s : ByteArray) (w : World) (z : Int) (hs : s.size ≤ 15) (hz : rnmb s.data.toList = z) :
    Calls Tryz.prog 141 #[.string s] w fun e w' => e = .returned (.int .i64 z) ∧ w' = w := by
  subst hz; exact (rnumber_any s w hs).mono fun _ _ h => ⟨h.1, h.2.symm⟩
/-- The numbers of a text's six cuts, each 0 or above. -/
def Six (zs : List Int) : Prop := ∀ j, j < 6 → 0 ≤ zs.getD j 0
theorem six_cell (w : World) (z0 z1 z2 z3 z4 z5 : Int) (T : TypeId) (j : Nat) (h : j < 6) :
    (w.alloc (.cells #[.int .i64 z0, .int .i64 z1, .int .i64 z2, .int .i64 z3, .int .i64 z4, .int .i64 z5] T)).cell? ⟨w.heap.size, j, none⟩ = some (.int .i64 ([z0, z1, z2, z3, z4, z5].getD j 0)) := by
  rw [World.cell?_alloc_new]
  match j, h with
  | 0, _ => rfl
  | 1, _ => rfl
  | 2, _ => rfl
  | 3, _ => rfl
  | 4, _ => rfl
  | 5, _ => rfl
theorem rmake_quiet (y mo d h mi s a b : Int) (w : World) (hr : makeR y mo d h mi s = (a, b)) :
    Calls Tryz.prog 142 #[.int .i64 y, .int .i64 mo, .int .i64 d, .int .i64 h, .int .i64 mi, .int .i64 s] w fun e w' => e = .returned (.tuple #[.int .i64 a, .int .i64 b]) ∧ w' = w :=
  (rmake_is y mo d h mi s a b w hr).mono fun _ _ h => ⟨h.1, h.2.symm⟩
set_option maxRecDepth 100000 in
set_option maxHeartbeats 2000000 in
theorem rparse_yes (s : ByteArray) (z0 z1 z2 z3 z4 z5 : Int) (a b : Int) (W w : World) (h1 : 15 ≤ s.size) (h2 : s.size ≤ 15) (h : s[8].toNat = 84) (hat : At W w) (hsix : Six [z0, z1, z2, z3, z4, z5]) (hr : makeR z0 z1 z2 z3 z4 z5 = (a, b))
    (e0 : rnmb (s.extract 0 4).data.toList = z0) (e1 : rnmb (s.extract 4 6).data.toList = z1) (e2 : rnmb (s.extract 6 8).data.toList = z2) (e3 : rnmb (s.extract 9 11).data.toList = z3) (e4 : rnmb (s.extract 11 13).data.toList = z4) (e5 : rnmb (s.extract 13 15).data.toList = z5) :
    Calls Tryz.prog 98 #[.string s] w fun e w' => e = .returned (.tuple #[.int .i64 a, .int .i64 b]) ∧ At W w' := by
  have hb : ((s[8].toNat : Int) != 84) = false := by rw [bne_eq_false_iff_eq]; omega
  have E0 := Lib.hid e0; have E1 := Lib.hid e1; have E2 := Lib.hid e2; have E3 := Lib.hid e3; have E4 := Lib.hid e4; have E5 := Lib.hid e5
  have i4 : (4 : Int) ≤ (s.size : Int) := by omega
  have i6 : (6 : Int) ≤ (s.size : Int) := by omega
  have i8 : (8 : Int) ≤ (s.size : Int) := by omega
  have i11 : (11 : Int) ≤ (s.size : Int) := by omega
  have i13 : (13 : Int) ≤ (s.size : Int) := by omega
  have i15 : (15 : Int) ≤ (s.size : Int) := by omega
  have SX := Lib.hid hsix; have R := Lib.hid hr
  clear hsix hr e0 e1 e2 e3 e4 e5 h
  go_enter Tryz.func98, Tryz.ntmps98
  go_wp2_with fail
  refine wp_region_still_tail 18 (by kernel_rfl) (by kernel_rfl) ?_
  simp only [List.take_succ_cons, List.take_zero, List.drop_succ_cons, List.drop_zero]
  still_step
  still_step
  still_call (rnumber_is (s.extract 0 4) _ z0 (ext_15 _ _ _ h2) E0.out)
  still_step
  still_step
  still_call (rnumber_is (s.extract 4 6) _ z1 (ext_15 _ _ _ h2) E1.out)
  still_step
  still_step
  still_call (rnumber_is (s.extract 6 8) _ z2 (ext_15 _ _ _ h2) E2.out)
  still_step
  still_step
  still_call (rnumber_is (s.extract 9 11) _ z3 (ext_15 _ _ _ h2) E3.out)
  still_step
  still_step
  still_call (rnumber_is (s.extract 11 13) _ z4 (ext_15 _ _ _ h2) E4.out)
  still_step
  still_step
  still_call (rnumber_is (s.extract 13 15) _ z5 (ext_15 _ _ _ h2) E5.out)
  refine wpStill_nil ?_
  change wpList _ _ _ _ _ w.drew
  have hat1 := hat.drew
  obtain ⟨w2, hw2⟩ : ∃ w2, w2 = w.drew := ⟨_, rfl⟩
  rw [← hw2] at hat1 ⊢
  clear hw2
  go_wp2
  go_loop [5] (fun i => ∃ j : Nat, j ≤ 6 ∧ i = .int .i64 j) (fun i => 6 - (intOf i).toNat)
  case atStart => exact ⟨0, by omega, rfl⟩
  case round =>
    obtain ⟨j, hj, rfl⟩ := hrel
    by_cases hlt : j < 6
    · have hc := six_cell w2 z0 z1 z2 z3 z4 z5 3 j hlt
      have hz := SX.out j hlt
      obtain ⟨q, hq⟩ : ∃ q, q = [z0, z1, z2, z3, z4, z5].getD j 0 := ⟨_, rfl⟩
      rw [← hq] at hc hz
      clear hq
      go_wp2
      go_round
      case rel => exact ⟨j + 1, by omega, by go_num⟩
      case measure => simp [intOf]; omega
    · go_wp2_with fail
      go_quiet ((go_at_call 142; exact Calls.quiet_of_same (rmake_quiet _ _ _ _ _ _ a b _ R.out)))
      go_wp2
      go_ret2
      exact ⟨rfl, (hat1.alloc _).drewN _⟩
set_option maxRecDepth 100000 in
set_option maxHeartbeats 2000000 in
theorem rparse_bad (s : ByteArray) (z0 z1 z2 z3 z4 z5 : Int) (W w : World) (h1 : 15 ≤ s.size) (h2 : s.size ≤ 15) (h : s[8].toNat = 84) (hat : At W w) (k0 : Nat) (hk0 : k0 < 6) (hbad : [z0, z1, z2, z3, z4, z5].getD k0 0 < 0)
    (e0 : rnmb (s.extract 0 4).data.toList = z0) (e1 : rnmb (s.extract 4 6).data.toList = z1) (e2 : rnmb (s.extract 6 8).data.toList = z2) (e3 : rnmb (s.extract 9 11).data.toList = z3) (e4 : rnmb (s.extract 11 13).data.toList = z4) (e5 : rnmb (s.extract 13 15).data.toList = z5) :
    Calls Tryz.prog 98 #[.string s] w fun e w' => e = .returned (.tuple #[.int .i64 0, .int .i64 4]) ∧ At W w' := by
  have hb : ((s[8].toNat : Int) != 84) = false := by rw [bne_eq_false_iff_eq]; omega
  have E0 := Lib.hid e0; have E1 := Lib.hid e1; have E2 := Lib.hid e2; have E3 := Lib.hid e3; have E4 := Lib.hid e4; have E5 := Lib.hid e5
  have i4 : (4 : Int) ≤ (s.size : Int) := by omega
  have i6 : (6 : Int) ≤ (s.size : Int) := by omega
  have i8 : (8 : Int) ≤ (s.size : Int) := by omega
  have i11 : (11 : Int) ≤ (s.size : Int) := by omega
  have i13 : (13 : Int) ≤ (s.size : Int) := by omega
  have i15 : (15 : Int) ≤ (s.size : Int) := by omega
  have BD := Lib.hid hbad
  clear hbad e0 e1 e2 e3 e4 e5 h
  go_enter Tryz.func98, Tryz.ntmps98
  go_wp2_with fail
  refine wp_region_still_tail 18 (by kernel_rfl) (by kernel_rfl) ?_
  simp only [List.take_succ_cons, List.take_zero, List.drop_succ_cons, List.drop_zero]
  still_step
  still_step
  still_call (rnumber_is (s.extract 0 4) _ z0 (ext_15 _ _ _ h2) E0.out)
  still_step
  still_step
  still_call (rnumber_is (s.extract 4 6) _ z1 (ext_15 _ _ _ h2) E1.out)
  still_step
  still_step
  still_call (rnumber_is (s.extract 6 8) _ z2 (ext_15 _ _ _ h2) E2.out)
  still_step
  still_step
  still_call (rnumber_is (s.extract 9 11) _ z3 (ext_15 _ _ _ h2) E3.out)
  still_step
  still_step
  still_call (rnumber_is (s.extract 11 13) _ z4 (ext_15 _ _ _ h2) E4.out)
  still_step
  still_step
  still_call (rnumber_is (s.extract 13 15) _ z5 (ext_15 _ _ _ h2) E5.out)
  refine wpStill_nil ?_
  change wpList _ _ _ _ _ w.drew
  have hat1 := hat.drew
  obtain ⟨w2, hw2⟩ : ∃ w2, w2 = w.drew := ⟨_, rfl⟩
  rw [← hw2] at hat1 ⊢
  clear hw2
  go_wp2
  go_loop [5] (fun i => ∃ j : Nat, j ≤ k0 ∧ i = .int .i64 j) (fun i => 6 - (intOf i).toNat)
  case atStart => exact ⟨0, by omega, rfl⟩
  case round =>
    obtain ⟨j, hj, rfl⟩ := hrel
    have hlt : j < 6 := by omega
    have hc := six_cell w2 z0 z1 z2 z3 z4 z5 3 j hlt
    by_cases hz : [z0, z1, z2, z3, z4, z5].getD j 0 < 0
    · obtain ⟨q, hq⟩ : ∃ q, q = [z0, z1, z2, z3, z4, z5].getD j 0 := ⟨_, rfl⟩
      rw [← hq] at hc hz
      clear hq
      go_wp2
      go_ret2
      exact ⟨rfl, hat1.alloc _⟩
    · have hne : j ≠ k0 := fun e => hz (by rw [e]; exact BD.out)
      have hz2 : 0 ≤ [z0, z1, z2, z3, z4, z5].getD j 0 := by omega
      obtain ⟨q, hq⟩ : ∃ q, q = [z0, z1, z2, z3, z4, z5].getD j 0 := ⟨_, rfl⟩
      rw [← hq] at hc hz2
      clear hq hz
      have hj2 : j + 1 ≤ k0 := by omega
      clear hne
      go_wp2
      go_round
      case rel => exact ⟨j + 1, hj2, by go_num⟩
      case measure => simp [intOf]; omega
set_option linter.unusedVariables false

theorem rparse_short (s : ByteArray) (w : World) (h : s.size < 15) :
    Calls Tryz.prog 98 #[.string s] w fun e w' => e = .returned (.tuple #[.int .i64 0, .int .i64 2]) ∧ w = w' := by
  go_enter Tryz.func98, Tryz.ntmps98
  go_wp2
  go_ret2
  exact ⟨rfl, rfl⟩
theorem rparse_long (s : ByteArray) (w : World) (h : 15 < s.size) (hs : s.size ≤ maxLen) :
    Calls Tryz.prog 98 #[.string s] w fun e w' => e = .returned (.tuple #[.int .i64 0, .int .i64 4]) ∧ w = w' := by
  unfold maxLen at hs
  go_enter Tryz.func98, Tryz.ntmps98
  go_wp2
  go_ret2
  exact ⟨rfl, rfl⟩
theorem rparse_t (s : ByteArray) (w : World) (h1 : 15 ≤ s.size) (h2 : s.size ≤ 15) (h : s[8].toNat ≠ 84) :
    Calls Tryz.prog 98 #[.string s] w fun e w' => e = .returned (.tuple #[.int .i64 0, .int .i64 4]) ∧ w = w' := by
  have hb : ((s[8].toNat : Int) != 84) = true := by rw [bne_iff_ne]; omega
  clear h
  go_enter Tryz.func98, Tryz.ntmps98
  go_wp2
  go_ret2
  exact ⟨rfl, rfl⟩
theorem rnmb_pos {l : List UInt8} (h : 0 ≤ rnmb l) : digs l = true ∧ rnmb l = nmb l := by
  unfold rnmb at *
  split at h
  · rename_i g; exact ⟨g, if_pos g⟩
  · omega
theorem rnmb_neg {l : List UInt8} (h : rnmb l < 0) : digs l = false := by
  cases g : digs l
  · rfl
  · have := (nmb_bd l g).1
    unfold rnmb at h; rw [if_pos g] at h; omega
theorem digs_or {a b : List UInt8} (h : digs a = false ∨ digs b = false) : digs (a ++ b) = false := by
  unfold digs at *; rw [List.all_append]; rcases h with h | h <;> rw [h] <;> simp
/-- vokref1.Parse of any bytes. -/
theorem rparse_any (s : ByteArray) (W w : World) (hs : s.size ≤ maxLen) (h : At W w) :
    Calls Tryz.prog 98 #[.string s] w fun e w' => e = .returned (.tuple #[.int .i64 (parse s.data.toList).1, .int .i64 (parse s.data.toList).2]) ∧ At W w' := by
  have hl : s.data.toList.length = s.size := by simp
  by_cases h1 : s.size < 15
  · rw [parse_1 (by omega)]
    exact (rparse_short s w h1).mono fun _ _ g => ⟨g.1, g.2 ▸ h⟩
  by_cases h2 : 15 < s.size
  · rw [parse_2 (by omega)]
    exact (rparse_long s w h2 hs).mono fun _ _ g => ⟨g.1, g.2 ▸ h⟩
  have h8 : s.data.toList.getD 8 0 = s[8] := by
    rw [List.getD_eq_getElem?_getD, List.getElem?_eq_getElem (by omega)]; rfl
  by_cases h3 : s[8].toNat = 84
  case neg =>
    rw [parse_3 (by omega) (by rw [h8]; exact h3)]
    exact (rparse_t s w (by omega) (by omega) h3).mono fun _ _ g => ⟨g.1, g.2 ▸ h⟩
  have hT : (s.data.toList.getD 8 0).toNat = 84 := by rw [h8]; exact h3
  obtain ⟨b0, b1, b2, b3, b4, b5, b6, b7, b8, b9, b10, b11, b12, b13, b14, e⟩ := list15 (l := s.data.toList) (by omega)
  have x0 : (s.extract 0 4).data.toList = [b0, b1, b2, b3] := by rw [ext_list, e]; rfl
  have x1 : (s.extract 4 6).data.toList = [b4, b5] := by rw [ext_list, e]; rfl
  have x2 : (s.extract 6 8).data.toList = [b6, b7] := by rw [ext_list, e]; rfl
  have x3 : (s.extract 9 11).data.toList = [b9, b10] := by rw [ext_list, e]; rfl
  have x4 : (s.extract 11 13).data.toList = [b11, b12] := by rw [ext_list, e]; rfl
  have x5 : (s.extract 13 15).data.toList = [b13, b14] := by rw [ext_list, e]; rfl
  by_cases hsix : Six [rnmb [b0, b1, b2, b3], rnmb [b4, b5], rnmb [b6, b7], rnmb [b9, b10], rnmb [b11, b12], rnmb [b13, b14]]
  · obtain ⟨d0, n0⟩ := rnmb_pos (hsix 0 (by decide))
    obtain ⟨d1, n1⟩ := rnmb_pos (hsix 1 (by decide))
    obtain ⟨d2, n2⟩ := rnmb_pos (hsix 2 (by decide))
    obtain ⟨d3, n3⟩ := rnmb_pos (hsix 3 (by decide))
    obtain ⟨d4, n4⟩ := rnmb_pos (hsix 4 (by decide))
    obtain ⟨d5, n5⟩ := rnmb_pos (hsix 5 (by decide))
    rw [parse_6 (by omega) hT (by rw [e]; exact digs_app (digs_app d0 d1) d2) (by rw [e]; exact digs_app (digs_app d3 d4) d5)]
    refine rparse_yes s _ _ _ _ _ _ _ _ W w (by omega) (by omega) h3 h hsix ?_ (by rw [x0]) (by rw [x1]) (by rw [x2]) (by rw [x3]) (by rw [x4]) (by rw [x5])
    rw [n0, n1, n2, n3, n4, n5, e]; rfl
  · have hb : parse s.data.toList = (0, 4) := by
      refine parse_bad (by omega) ?_
      rw [e]
      refine .inr (Classical.byContradiction fun no => hsix ?_)
      have no1 : ¬ digs ([b0, b1, b2, b3] ++ [b4, b5] ++ [b6, b7]) = false := fun x => no (.inl x)
      have no2 : ¬ digs ([b9, b10] ++ [b11, b12] ++ [b13, b14]) = false := fun x => no (.inr x)
      have g0 : digs [b0, b1, b2, b3] = true := by cases x : digs [b0, b1, b2, b3]; exact absurd (digs_or (.inl (digs_or (.inl x)))) no1; rfl
      have g1 : digs [b4, b5] = true := by cases x : digs [b4, b5]; exact absurd (digs_or (.inl (digs_or (.inr x)))) no1; rfl
      have g2 : digs [b6, b7] = true := by cases x : digs [b6, b7]; exact absurd (digs_or (.inr x)) no1; rfl
      have g3 : digs [b9, b10] = true := by cases x : digs [b9, b10]; exact absurd (digs_or (.inl (digs_or (.inl x)))) no2; rfl
      have g4 : digs [b11, b12] = true := by cases x : digs [b11, b12]; exact absurd (digs_or (.inl (digs_or (.inr x)))) no2; rfl
      have g5 : digs [b13, b14] = true := by cases x : digs [b13, b14]; exact absurd (digs_or (.inr x)) no2; rfl
      have p : ∀ l, digs l = true → 0 ≤ rnmb l := fun l g => by unfold rnmb; rw [if_pos g]; exact (nmb_bd l g).1
      intro j hj
      match j, hj with
      | 0, _ => exact p _ g0
      | 1, _ => exact p _ g1
      | 2, _ => exact p _ g2
      | 3, _ => exact p _ g3
      | 4, _ => exact p _ g4
      | 5, _ => exact p _ g5
    rw [hb]
    obtain ⟨k, hk⟩ := Classical.not_forall.1 hsix
    obtain ⟨hk1, hk2⟩ := Classical.not_imp.1 hk
    exact rparse_bad s (rnmb [b0, b1, b2, b3]) (rnmb [b4, b5]) (rnmb [b6, b7]) (rnmb [b9, b10]) (rnmb [b11, b12]) (rnmb [b13, b14]) W w (by omega) (by omega) h3 h k hk1 (Int.not_le.1 hk2) (by rw [x0]) (by rw [x1]) (by rw [x2]) (by rw [x3]) (by rw [x4]) (by rw [x5])
theorem rparse_is (s : ByteArray) (W w : World) (hs : s.size ≤ maxLen) (h : At W w) (a b : Int) (hp : parse s.data.toList = (a, b)) :
    Calls Tryz.prog 98 #[.string s] w fun e w' => e = .returned (.tuple #[.int .i64 a, .int .i64 b]) ∧ At W w' := by
  have := rparse_any s W w hs h; rwa [hp] at this
end Go.Proofs.YtajgagmpdhmbkaaGreatDoor.St
