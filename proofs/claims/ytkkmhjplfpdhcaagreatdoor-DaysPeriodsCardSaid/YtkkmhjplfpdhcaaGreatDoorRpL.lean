/- The walks of package rule's list of numbers and numbers. -/
import Derived.Test.YtkkmhjplfpdhcaaGreatDoorRuComp
import Derived.Test.YtkkmhjplfpdhcaaGreatDoorRpN
set_option linter.unusedVariables false
namespace Go.Proofs.YtkkmhjplfpdhcaaGreatDoor.Ru
open Go.RowKit Cv St

section
variable {α β : Type} {f : α → Option β}
theorem allSome_snoc : ∀ {l : List α} {acc : List β} {x : α} {y : β}, allSome f l = some acc → f x = some y → allSome f (l ++ [x]) = some (acc ++ [y])
  | [], acc, x, y, h, hx => by
    injection h with h; subst h
    show allSome f [x] = _
    unfold allSome; rw [hx]; rfl
  | a :: l, acc, x, y, h, hx => by
    unfold allSome at h
    split at h
    · rename_i y1 m h1 h2
      injection h with h; subst h
      have := allSome_snoc h2 hx
      show allSome f (a :: (l ++ [x])) = _
      unfold allSome; rw [h1, this]; rfl
    · cases h
theorem allSome_none : ∀ {l : List α} {x : α}, x ∈ l → f x = none → allSome f l = none
  | a :: l, x, h, hx => by
    unfold allSome
    rcases List.mem_cons.1 h with rfl | h
    · rw [hx]
    · rw [allSome_none h hx]
      cases f a <;> rfl
end
theorem cut_len (c : UInt8) : ∀ (l : List UInt8), ∀ p ∈ cutAt c l, p.length ≤ l.length
  | [], p, h => by obtain rfl : p = [] := by simpa [cutAt] using h
                   simp
  | x :: r, p, h => by
    have ih := cut_len c r
    unfold cutAt at h
    split at h
    · rcases List.mem_cons.1 h with rfl | h
      · simp
      · have := ih p h; simp; omega
    · cases e : cutAt c r with
      | nil => exact absurd e (cutAt_ne c r)
      | cons q ps =>
        rw [e] at h ih
        simp only at h
        rcases List.mem_cons.1 h with rfl | h
        · have := ih q (by simp); simp; omega
        · have := ih p (by simp [h]); simp; omega
/-- the pieces, one by one -/
def pat (ps : List (List UInt8)) (j : Nat) : List UInt8 := ps.getD j []
theorem pat_lt {ps : List (List UInt8)} {j : Nat} (h : j < ps.length) : pat ps j = ps[j] := by
  unfold pat; rw [List.getD_eq_getElem?_getD, List.getElem?_eq_getElem h]; rfl
theorem sat_map {ps : List (List UInt8)} {j : Nat} (h : j < ps.length) : sat (ps.map str) j = str (pat ps j) := by
  rw [sat_lt (by simpa using h), pat_lt h]; simp
theorem take_pat {ps : List (List UInt8)} {t : Nat} (h : t < ps.length) : ps.take (t + 1) = ps.take t ++ [pat ps t] := by
  rw [pat_lt h, List.take_succ_eq_append_getElem h]
theorem numsOf_some {l : List UInt8} {acc : List Int} (h : (cutAt 44 l).length ≤ 60) (hs : allSome numOf (cutAt 44 l) = some acc) : numsOf l = some (sortU iltB acc) := by
  unfold numsOf; rw [if_neg (by omega), hs]; rfl
theorem numsOf_no {l : List UInt8} (hs : allSome numOf (cutAt 44 l) = none) : numsOf l = none := by
  unfold numsOf; split
  · rfl
  · rw [hs]; rfl
theorem numsOf_long {l : List UInt8} (h : 60 < (cutAt 44 l).length) : numsOf l = none := by unfold numsOf; rw [if_pos h]
/-- what a list of numbers answers -/
def ListI (o : Option (List Int)) (w : World) (e : Ending) (w' : World) : Prop :=
  Below w.heap.size w w' ∧ ((o = none ∧ e = .returned (.tuple #[.slice none 0 0, .bool false])) ∨ ∃ m A c, o = some m ∧ e = .returned (.tuple #[.slice A m.length c, .bool true]) ∧ IsAt w' A m.length m ∧ Fresh w.heap.size A)
set_option maxRecDepth 100000 in
set_option maxHeartbeats 4000000 in
theorem list_any (s : ByteArray) (w : World) (T : Tabs w) (hs : s.size ≤ 1000000) :
    Calls Tryz.prog 145 #[.string s, .func (.func 118) #[] #[], .func (.func 146) #[] #[]] w (ListI (numsOf s.data.toList) w) := by
  obtain ⟨ps, hps⟩ : ∃ ps, cutAt 44 s.data.toList = ps := ⟨_, rfl⟩
  have C1 := Lib.hid (fun h => numsOf_long (l := s.data.toList) h)
  have C2 := Lib.hid (fun h => numsOf_no (l := s.data.toList) h)
  have C3 := Lib.hid (fun (acc : List Int) h g => numsOf_some (l := s.data.toList) (acc := acc) h g)
  have PL := Lib.hid (fun (p : List UInt8) (hp : p ∈ cutAt 44 s.data.toList) => show (str p).size ≤ 1000000 by
    rw [str_size]; have := cut_len 44 s.data.toList p hp; rw [size_list] at this; omega)
  rw [hps] at C1 C2 C3 PL
  have TT := Lib.hid T
  have HP := Lib.hid hps
  clear T hps
  generalize numsOf s.data.toList = o at *
  go_enter Tryz.func145, Tryz.ntmps145
  go_wp2_with fail
  refine (split_is s 44 _ TT.out hs).mono ?_
  rintro e w1 ⟨A, k, cap, rfl, hA, -, b1⟩
  rw [HP.out] at hA
  have hk := hA.1
  rw [List.length_map] at hk
  have T1 := Lib.hid (TT.out.on b1)
  have HK := Lib.hid hk
  have HS := Lib.hid hA
  clear TT hk hA
  by_cases h60 : k ≤ 60
  · have K1 := Lib.hid (show ps.length ≤ 60 by rw [← HK.out]; exact h60)
    go_wp2
    go_loopw [9, 21] (fun ov i wr => ∃ (v : Value) (t : Nat) (acc : List Int), t ≤ k ∧ v = ov ∧ i = .int .i64 t ∧ OwnI w1 wr v acc ∧ Hid (allSome numOf (ps.take t) = some acc) ∧ acc.length ≤ 1000 ∧ Below w1.heap.size w1 wr) (fun _ i _ => k - (intOf i).toNat)
    case atStart => exact ⟨_, 0, [], Nat.zero_le _, rfl, rfl, OwnI.nil _ _, Lib.hid rfl, by simp, Below.refl _ _⟩
    case round =>
      rename_i wr
      obtain ⟨v0, t, acc, ht, rfl, rfl, ov, D, hl, hB⟩ := hrel
      by_cases hlt : t < k
      · obtain ⟨b, off, rfl, hb, hcc⟩ := HS.out.2 (by omega)
        have c0 := hcc t hlt
        rw [sat_map (by rw [← HK.out]; exact hlt)] at c0
        replace c0 := (hB.cell (p := ⟨b, _, none⟩) hb).trans c0
        have TP := Lib.hid (take_pat (ps := ps) (t := t) (by rw [← HK.out]; exact hlt))
        have MM := Lib.hid (show pat ps t ∈ ps by rw [pat_lt (by rw [← HK.out]; exact hlt)]; exact List.getElem_mem _)
        have SZ := PL.out _ MM.out
        have T2 := Lib.hid (T1.out.on hB)
        clear hcc
        obtain ⟨z, hz⟩ : ∃ z, pat ps t = z := ⟨_, rfl⟩
        rw [hz] at c0 SZ
        have HZ := Lib.hid hz
        clear hz
        cases hn : numOf z with
        | none =>
          have N := Lib.hid (show numOf (str z).data.toList = none by rw [list_str]; exact hn)
          have G := Lib.hid (C2.out (allSome_none MM.out (by rw [HZ.out]; exact hn)))
          clear hn
          go_wp2_with fail
          refine (number_none (str z) _ T2.out SZ N.out).mono ?_
          rintro e w2 ⟨rfl, b2⟩
          go_wp2
          go_ret2
          exact ⟨b1.trans ((hB.trans (b2.mono hB.size)).mono b1.size), .inl ⟨G.out, rfl⟩⟩
        | some n =>
          have N := Lib.hid (show numOf (str z).data.toList = some n by rw [list_str]; exact hn)
          have Y := Lib.hid (show allSome numOf (ps.take (t + 1)) = some (acc ++ [n]) by rw [TP.out, HZ.out]; exact allSome_snoc D.out hn)
          clear hn
          go_wp2_with fail
          refine (number_some (str z) n _ T2.out SZ N.out).mono ?_
          rintro e w2 ⟨rfl, b2⟩
          have hB2 := hB.trans (b2.mono hB.size)
          have ov2 := ov.on b2
          go_wp2_with (at_builtin; refine append_num rfl _ _ rfl v0 acc rfl ov2 hB2 n 3 1 rfl (by omega) ?_)
          intro v5 w5 ov5 hB5
          go_wp2
          go_roundw
          case rel => exact ⟨_, t + 1, acc ++ [n], by omega, rfl, by go_num, ov5, Y, by
            have := allSome_len Y.out
            rw [this, List.length_take]; have := K1.out; omega, hB5⟩
          case measure => simp [intOf]; omega
      · obtain rfl : k = t := by omega
        have DA := Lib.hid (show allSome numOf ps = some acc by have := D.out; rwa [List.take_of_length_le (by rw [HK.out]; exact Nat.le_refl _)] at this)
        have G := Lib.hid (C3.out acc K1.out DA.out)
        have SC := Lib.hid (sort_comp ilt_irr ilt_tri ilt_tr acc)
        clear D
        go_wp2_with fail
        refine (sortI_is w1 _ v0 acc ov hB (by omega)).mono ?_
        rintro e w2 ⟨rfl, o2, hB2⟩
        go_wp2_with fail
        refine (compactI_is w1 _ v0 _ o2 hB2 (by simp; omega)).mono ?_
        rintro e w3 ⟨A3, c3, rfl, hA3, hF3, hB3⟩
        rw [SC.out] at hA3 ⊢
        go_wp2
        go_ret2
        exact ⟨b1.trans (hB3.mono b1.size), .inr ⟨_, A3, c3, G.out, rfl, hA3, hF3.mono b1.size⟩⟩
  · have K1 := Lib.hid (C1.out (show 60 < ps.length by rw [← HK.out]; omega))
    have i60 : (60 : Int) < (k : Int) := by omega
    clear h60
    go_wp2
    go_ret2
    exact ⟨b1, .inl ⟨K1.out, rfl⟩⟩
/-- rule.numbers -/
theorem numbers_any (s : ByteArray) (w : World) (T : Tabs w) (hs : s.size ≤ 1000000) : Calls Tryz.prog 120 #[.string s] w (ListI (numsOf s.data.toList) w) := by
  have TT := Lib.hid T
  clear T
  generalize ho : numsOf s.data.toList = o
  have HO := Lib.hid ho
  clear ho
  go_enter Tryz.func120, Tryz.ntmps120
  go_wp2_with fail
  refine (list_any s _ TT.out hs).mono ?_
  rintro e w1 ⟨b1, h⟩
  rw [HO.out] at h
  rcases h with ⟨rfl, rfl⟩ | ⟨m, A, c, rfl, rfl, hA, hF⟩
  · go_wp2
    go_ret2
    exact ⟨b1, .inl ⟨rfl, rfl⟩⟩
  · go_wp2
    go_ret2
    exact ⟨b1, .inr ⟨m, A, c, rfl, rfl, hA, hF⟩⟩
end Go.Proofs.YtkkmhjplfpdhcaaGreatDoor.Ru
