/- What the document's Parse answers is what the program's does; and the walk of voklaw2's law StampTexts. -/
import Derived.Test.YtbnncdfkmlfjhaaDoorStRef2
import Derived.Test.YtbnncdfkmlfjhaaDoorStFirst
namespace Go.Proofs.YtbnncdfkmlfjhaaDoor.St
open Go.RowKit Cv
set_option linter.unusedVariables false

theorem rparse_short (s : ByteArray) (w : World) (h : s.size < 15) :
    Calls Tryd.prog 25 #[.string s] w fun e w' => e = .returned (.tuple #[.int .i64 0, .int .i64 2]) ∧ w = w' := by
  go_enter Tryd.func25, Tryd.ntmps25
  go_wp2
  go_ret2
  exact ⟨rfl, rfl⟩
theorem rparse_long (s : ByteArray) (w : World) (h : 15 < s.size) (hs : s.size ≤ maxLen) :
    Calls Tryd.prog 25 #[.string s] w fun e w' => e = .returned (.tuple #[.int .i64 0, .int .i64 4]) ∧ w = w' := by
  unfold maxLen at hs
  go_enter Tryd.func25, Tryd.ntmps25
  go_wp2
  go_ret2
  exact ⟨rfl, rfl⟩
theorem rparse_t (s : ByteArray) (w : World) (h1 : 15 ≤ s.size) (h2 : s.size ≤ 15) (h : s[8].toNat ≠ 84) :
    Calls Tryd.prog 25 #[.string s] w fun e w' => e = .returned (.tuple #[.int .i64 0, .int .i64 4]) ∧ w = w' := by
  have hb : ((s[8].toNat : Int) != 84) = true := by rw [bne_iff_ne]; omega
  clear h
  go_enter Tryd.func25, Tryd.ntmps25
  go_wp2
  go_ret2
  exact ⟨rfl, rfl⟩
theorem rnmb_pos {l : List UInt8} (h : 0 ≤ rnmb l) : digs l = true ∧ rnmb l = nmb l := by
  unfold rnmb at *
  split at h
  · rename_i g; exact ⟨g, if_pos g⟩
  · omega
theorem rnmb_neg {l : List UInt8} (h : rnmb l < 0) : digs l = false := by
  cases g : digs l
  · rfl
  · have := (nmb_bd l g).1
    unfold rnmb at h; rw [if_pos g] at h; omega
theorem digs_or {a b : List UInt8} (h : digs a = false ∨ digs b = false) : digs (a ++ b) = false := by
  unfold digs at *; rw [List.all_append]; rcases h with h | h <;> rw [h] <;> simp
/-- vokref1.Parse of any bytes. -/
theorem rparse_any (s : ByteArray) (W w : World) (hs : s.size ≤ maxLen) (h : At W w) :
    Calls Tryd.prog 25 #[.string s] w fun e w' => e = .returned (.tuple #[.int .i64 (parse s.data.toList).1, .int .i64 (parse s.data.toList).2]) ∧ At W w' := by
  have hl : s.data.toList.length = s.size := by simp
  by_cases h1 : s.size < 15
  · rw [parse_1 (by omega)]
    exact (rparse_short s w h1).mono fun _ _ g => ⟨g.1, g.2 ▸ h⟩
  by_cases h2 : 15 < s.size
  · rw [parse_2 (by omega)]
    exact (rparse_long s w h2 hs).mono fun _ _ g => ⟨g.1, g.2 ▸ h⟩
  have h8 : s.data.toList.getD 8 0 = s[8] := by
    rw [List.getD_eq_getElem?_getD, List.getElem?_eq_getElem (by omega)]; rfl
  by_cases h3 : s[8].toNat = 84
  case neg =>
    rw [parse_3 (by omega) (by rw [h8]; exact h3)]
    exact (rparse_t s w (by omega) (by omega) h3).mono fun _ _ g => ⟨g.1, g.2 ▸ h⟩
  have hT : (s.data.toList.getD 8 0).toNat = 84 := by rw [h8]; exact h3
  obtain ⟨b0, b1, b2, b3, b4, b5, b6, b7, b8, b9, b10, b11, b12, b13, b14, e⟩ := list15 (l := s.data.toList) (by omega)
  have x0 : (s.extract 0 4).data.toList = [b0, b1, b2, b3] := by rw [ext_list, e]; rfl
  have x1 : (s.extract 4 6).data.toList = [b4, b5] := by rw [ext_list, e]; rfl
  have x2 : (s.extract 6 8).data.toList = [b6, b7] := by rw [ext_list, e]; rfl
  have x3 : (s.extract 9 11).data.toList = [b9, b10] := by rw [ext_list, e]; rfl
  have x4 : (s.extract 11 13).data.toList = [b11, b12] := by rw [ext_list, e]; rfl
  have x5 : (s.extract 13 15).data.toList = [b13, b14] := by rw [ext_list, e]; rfl
  by_cases hsix : Six [rnmb [b0, b1, b2, b3], rnmb [b4, b5], rnmb [b6, b7], rnmb [b9, b10], rnmb [b11, b12], rnmb [b13, b14]]
  · obtain ⟨d0, n0⟩ := rnmb_pos (hsix 0 (by decide))
    obtain ⟨d1, n1⟩ := rnmb_pos (hsix 1 (by decide))
    obtain ⟨d2, n2⟩ := rnmb_pos (hsix 2 (by decide))
    obtain ⟨d3, n3⟩ := rnmb_pos (hsix 3 (by decide))
    obtain ⟨d4, n4⟩ := rnmb_pos (hsix 4 (by decide))
    obtain ⟨d5, n5⟩ := rnmb_pos (hsix 5 (by decide))
    rw [parse_6 (by omega) hT (by rw [e]; exact digs_app (digs_app d0 d1) d2) (by rw [e]; exact digs_app (digs_app d3 d4) d5)]
    refine rparse_yes s _ _ _ _ _ _ _ _ W w (by omega) (by omega) h3 h hsix ?_ (by rw [x0]) (by rw [x1]) (by rw [x2]) (by rw [x3]) (by rw [x4]) (by rw [x5])
    rw [n0, n1, n2, n3, n4, n5, e]; rfl
  · have hb : parse s.data.toList = (0, 4) := by
      refine parse_bad (by omega) ?_
      rw [e]
      refine .inr (Classical.byContradiction fun no => hsix ?_)
      have no1 : ¬ digs ([b0, b1, b2, b3] ++ [b4, b5] ++ [b6, b7]) = false := fun x => no (.inl x)
      have no2 : ¬ digs ([b9, b10] ++ [b11, b12] ++ [b13, b14]) = false := fun x => no (.inr x)
      have g0 : digs [b0, b1, b2, b3] = true := by cases x : digs [b0, b1, b2, b3]; exact absurd (digs_or (.inl (digs_or (.inl x)))) no1; rfl
      have g1 : digs [b4, b5] = true := by cases x : digs [b4, b5]; exact absurd (digs_or (.inl (digs_or (.inr x)))) no1; rfl
      have g2 : digs [b6, b7] = true := by cases x : digs [b6, b7]; exact absurd (digs_or (.inr x)) no1; rfl
      have g3 : digs [b9, b10] = true := by cases x : digs [b9, b10]; exact absurd (digs_or (.inl (digs_or (.inl x)))) no2; rfl
      have g4 : digs [b11, b12] = true := by cases x : digs [b11, b12]; exact absurd (digs_or (.inl (digs_or (.inr x)))) no2; rfl
      have g5 : digs [b13, b14] = true := by cases x : digs [b13, b14]; exact absurd (digs_or (.inr x)) no2; rfl
      have p : ∀ l, digs l = true → 0 ≤ rnmb l := fun l g => by unfold rnmb; rw [if_pos g]; exact (nmb_bd l g).1
      intro j hj
      match j, hj with
      | 0, _ => exact p _ g0
      | 1, _ => exact p _ g1
      | 2, _ => exact p _ g2
      | 3, _ => exact p _ g3
      | 4, _ => exact p _ g4
      | 5, _ => exact p _ g5
    rw [hb]
    obtain ⟨k, hk⟩ := Classical.not_forall.1 hsix
    obtain ⟨hk1, hk2⟩ := Classical.not_imp.1 hk
    exact rparse_bad s (rnmb [b0, b1, b2, b3]) (rnmb [b4, b5]) (rnmb [b6, b7]) (rnmb [b9, b10]) (rnmb [b11, b12]) (rnmb [b13, b14]) W w (by omega) (by omega) h3 h k hk1 (Int.not_le.1 hk2) (by rw [x0]) (by rw [x1]) (by rw [x2]) (by rw [x3]) (by rw [x4]) (by rw [x5])
theorem rparse_is (s : ByteArray) (W w : World) (hs : s.size ≤ maxLen) (h : At W w) (a b : Int) (hp : parse s.data.toList = (a, b)) :
    Calls Tryd.prog 25 #[.string s] w fun e w' => e = .returned (.tuple #[.int .i64 a, .int .i64 b]) ∧ At W w' := by
  have := rparse_any s W w hs h; rwa [hp] at this
set_option maxHeartbeats 1000000 in
theorem stampTexts_walk (t : Int) (s : ByteArray) (t1 : -9223372036854775808 ≤ t) (t2 : t ≤ 9223372036854775807) (hs : s.size ≤ maxLen) (W : World) (ha : At W W) :
    Calls Tryd.prog 4 #[.int .i64 t, .string s] W fun e w' => e = .returned (.bool true) ∧ At W w' := by
  by_cases h1 : 2000 < s.size
  · unfold maxLen at hs
    go_enter Tryd.func4, Tryd.ntmps4
    go_wp2_with fail
    refine (first_any W _ ha).mono ?_
    rintro e wd1 ⟨rfl, at1⟩
    go_wp2_with fail
    refine (first_any W _ at1).mono ?_
    rintro e wd2 ⟨rfl, at2⟩
    clear at1
    go_wp2
    go_ret
    exact ⟨rfl, at2⟩
  have h2 : s.size ≤ 2000 := by omega
  obtain ⟨p, q, hp⟩ : ∃ p q, parse s.data.toList = (p, q) := ⟨_, _, rfl⟩
  have P := Lib.hid hp
  clear hp h1
  cases hm : may t
  · have M := Lib.hid hm; clear hm
    go_enter Tryd.func4, Tryd.ntmps4
    go_wp2_with fail
    refine (first_any W _ ha).mono ?_
    rintro e wd1 ⟨rfl, at1⟩
    go_wp2_with fail
    refine (text_no _ _ M.out).mono ?_
    rintro e w' ⟨rfl, rfl⟩
    go_wp2_with fail
    refine (rtext_no _ _ M.out).mono ?_
    rintro e w' ⟨rfl, rfl⟩
    go_wp2_with fail
    refine (parse_is s W _ hs at1 _ _ P.out).mono ?_
    rintro e wd2 ⟨rfl, at2⟩
    clear at1
    go_wp2_with fail
    refine (rparse_is s W _ hs at2 _ _ P.out).mono ?_
    rintro e wd3 ⟨rfl, at3⟩
    clear at2
    go_wp2_with fail
    refine (first_any W _ at3).mono ?_
    rintro e wd4 ⟨rfl, at4⟩
    clear at3
    go_wp2
    go_ret
    exact ⟨rfl, at4⟩
  · obtain ⟨x1, x2⟩ := of_decide_eq_true hm
    obtain ⟨u, hu⟩ : ∃ u : ByteArray, (⟨(text t).toArray⟩ : ByteArray) = u := ⟨_, rfl⟩
    have U := Lib.hid hu; clear hm hu
    go_enter Tryd.func4, Tryd.ntmps4
    go_wp2_with fail
    refine (first_any W _ ha).mono ?_
    rintro e wd1 ⟨rfl, at1⟩
    go_wp2_with fail
    refine (text_is W _ _ _ x1 x2 at1 U.out).mono ?_
    rintro e wd2 ⟨rfl, at2⟩
    clear at1
    go_wp2_with fail
    refine (rtext_yes W _ _ _ x1 x2 at2 U.out).mono ?_
    rintro e wd3 ⟨rfl, at3⟩
    clear at2
    go_wp2_with fail
    refine (parse_is s W _ hs at3 _ _ P.out).mono ?_
    rintro e wd4 ⟨rfl, at4⟩
    clear at3
    go_wp2_with fail
    refine (rparse_is s W _ hs at4 _ _ P.out).mono ?_
    rintro e wd5 ⟨rfl, at5⟩
    clear at4
    go_wp2_with fail
    refine (first_any W _ at5).mono ?_
    rintro e wd6 ⟨rfl, at6⟩
    clear at5
    go_wp2
    go_ret
    exact ⟨rfl, at6⟩
end Go.Proofs.YtbnncdfkmlfjhaaDoor.St
