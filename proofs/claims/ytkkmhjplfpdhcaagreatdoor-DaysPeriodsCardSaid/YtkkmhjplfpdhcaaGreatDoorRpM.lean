/- The walks of package rule's day and list of days. -/
import Derived.Test.YtkkmhjplfpdhcaaGreatDoorRuComp
import Derived.Test.YtkkmhjplfpdhcaaGreatDoorRpL
set_option linter.unusedVariables false
namespace Go.Proofs.YtkkmhjplfpdhcaaGreatDoor.Ru
open Go.RowKit Cv St

theorem daysOf_some {l : List UInt8} {acc : List Dy} (h : (cutAt 44 l).length ≤ 60) (hs : allSome dayOf (cutAt 44 l) = some acc) : daysOf l = some (sortU dltB acc) := by
  unfold daysOf; rw [if_neg (by omega), hs]; rfl
theorem daysOf_no {l : List UInt8} (hs : allSome dayOf (cutAt 44 l) = none) : daysOf l = none := by
  unfold daysOf; split
  · rfl
  · rw [hs]; rfl
theorem daysOf_long {l : List UInt8} (h : 60 < (cutAt 44 l).length) : daysOf l = none := by unfold daysOf; rw [if_pos h]
/-- what a list of days answers -/
def ListD (o : Option (List Dy)) (w : World) (e : Ending) (w' : World) : Prop :=
  Below w.heap.size w w' ∧ ((o = none ∧ e = .returned (.tuple #[.slice none 0 0, .bool false])) ∨ ∃ m A c, o = some m ∧ e = .returned (.tuple #[.slice A m.length c, .bool true]) ∧ DyAt w' A m.length m ∧ Fresh w.heap.size A)
theorem wdays0 {w : World} (T : Tabs w) : w.cell? ⟨1, 0, none⟩ = some (.string ⟨#[77, 79]⟩) := T.wdays 0 (by decide)
theorem drop_ext (s : ByteArray) (k : Nat) : (s.extract k s.size).data.toList = s.data.toList.drop k := by
  rw [ext_str, list_str, List.take_of_length_le (by rw [List.length_drop, size_list]; omega)]
theorem take_ext (s : ByteArray) (k : Nat) (h : k ≤ s.size) : (s.extract 0 k).data.toList = s.data.toList.take k := by
  rw [ext_str, list_str, List.drop_zero, Nat.sub_zero]
/-- the cases of a day's text -/
theorem dayOf_cases (l : List UInt8) : (l.length < 2 ∧ dayOf l = none) ∨ (2 ≤ l.length ∧ wdayOf (l.drop (l.length - 2)) = none ∧ dayOf l = none) ∨ (∃ k, wdayOf (l.drop (l.length - 2)) = some k ∧ l.length = 2 ∧ dayOf l = some ⟨0, k⟩) ∨
    (∃ k, 2 < l.length ∧ wdayOf (l.drop (l.length - 2)) = some k ∧ numOf (l.take (l.length - 2)) = none ∧ dayOf l = none) ∨ (∃ k, 2 < l.length ∧ wdayOf (l.drop (l.length - 2)) = some k ∧ numOf (l.take (l.length - 2)) = some 0 ∧ dayOf l = none) ∨
    (∃ k n, 2 < l.length ∧ wdayOf (l.drop (l.length - 2)) = some k ∧ numOf (l.take (l.length - 2)) = some n ∧ n ≠ 0 ∧ dayOf l = some ⟨n, k⟩) := by
  by_cases h : l.length < 2
  · left; exact ⟨h, by unfold dayOf; rw [if_pos h]⟩
  · right
    have hd : dayOf l = match wdayOf (l.drop (l.length - 2)) with | none => none | some w => if l.length = 2 then some ⟨0, w⟩ else match numOf (l.take (l.length - 2)) with | none => none | some n => if n = 0 then none else some ⟨n, w⟩ := by
      conv => lhs; unfold dayOf
      rw [if_neg h]
      rfl
    cases hw : wdayOf (l.drop (l.length - 2)) with
    | none => left; exact ⟨by omega, rfl, by rw [hd, hw]⟩
    | some k =>
      right
      rw [hw] at hd
      simp only at hd
      by_cases h2 : l.length = 2
      · left; exact ⟨k, rfl, h2, by rw [hd, if_pos h2]⟩
      · right
        rw [if_neg h2] at hd
        cases hn : numOf (l.take (l.length - 2)) with
        | none => left; exact ⟨k, by omega, rfl, rfl, by rw [hd, hn]⟩
        | some n =>
          right
          rw [hn] at hd
          simp only at hd
          by_cases h0 : n = 0
          · left; subst h0; exact ⟨k, by omega, rfl, rfl, by rw [hd, if_pos rfl]⟩
          · right; exact ⟨k, n, by omega, rfl, rfl, h0, by rw [hd, if_neg h0]⟩
theorem wday_no (s : ByteArray) (w : World) (T : Tabs w) (h : wdayOf s.data.toList = none) : Calls Tryz.prog 124 #[.string s] w fun e w' => e = .returned (.tuple #[.int .i64 0, .bool false]) ∧ w = w' := wday_any s w T none h
theorem wday_yes (s : ByteArray) (w : World) (T : Tabs w) (k : Nat) (h : wdayOf s.data.toList = some k) : Calls Tryz.prog 124 #[.string s] w fun e w' => e = .returned (.tuple #[.int .i64 k, .bool true]) ∧ w = w' := wday_any s w T (some k) h
theorem set2_0 {w : World} {g : Nat} {v x : Value} (z : w.cell? ⟨g, 0, none⟩ = some x) : (w.setCell ⟨g, 0, none⟩ v).cell? ⟨g, 0, none⟩ = some v := World.cell?_setCell_same _ _ _ z
theorem set2_1 {w : World} {g : Nat} {v u x : Value} (z : w.cell? ⟨g, 1, none⟩ = some x) : ((w.setCell ⟨g, 0, none⟩ v).setCell ⟨g, 1, none⟩ u).cell? ⟨g, 1, none⟩ = some u :=
  World.cell?_setCell_same _ _ _ ((World.cell?_setCell_other _ _ _ _ (by simp)).trans z)
def DayR (o : Option Dy) (w : World) (e : Ending) (w' : World) : Prop :=
  Below w.heap.size w w' ∧ ((o = none ∧ e = .returned (.tuple #[.agg #[.int .i64 0, .int .i64 0], .bool false])) ∨ ∃ d, o = some d ∧ e = .returned (.tuple #[.agg #[.int .i64 d.n, .int .i64 d.w], .bool true]))
set_option maxRecDepth 100000 in
set_option maxHeartbeats 4000000 in
/-- rule.day -/
theorem day_any (s : ByteArray) (w : World) (T : Tabs w) (hs : s.size ≤ 1000000) : Calls Tryz.prog 122 #[.string s] w (DayR (dayOf s.data.toList) w) := by
  have hC := dayOf_cases s.data.toList
  rw [size_list, ← drop_ext, ← take_ext s (s.size - 2) (by omega)] at hC
  generalize dayOf s.data.toList = o at *
  have zc := wdays0 T
  have TT := Lib.hid T
  have BA := alloc_below w (.cells #[.int .i64 0, .int .i64 0] 48)
  have low := Nat.lt_of_le_of_lt (show 1 ≤ 8 by decide) T.low
  have zc2 := wdays0 (T.on BA)
  have hz : (⟨#[77, 79]⟩ : ByteArray).size = 2 := rfl
  clear T
  have X0 := Lib.hid (Box.new w #[.int .i64 0, .int .i64 0] 48)
  rcases hC with ⟨c, rfl⟩ | ⟨c, cw, rfl⟩ | ⟨k, cw, c, rfl⟩ | ⟨k, c, cw, cn, rfl⟩ | ⟨k, c, cw, cn, rfl⟩ | ⟨k, n, c, cw, cn, c0, rfl⟩
  · skip
    go_enter Tryz.func122, Tryz.ntmps122
    go_wp2
    exact bodyPost_ret (v := .tuple #[.agg #[.int .i64 0, .int .i64 0], .bool false]) (by simp [results, Tryz.results122, go_sem]) rfl ⟨BA, .inl ⟨rfl, rfl⟩⟩
  · have CW := Lib.hid cw
    clear cw
    have w3 : (2 : Int) ≤ (s.size : Int) := by omega
    have w4 : (0 : Int) ≤ (s.size : Int) - 2 := by omega
    have w5 : (s.size : Int) - 2 ≤ (s.size : Int) := by omega
    have w2 : ((s.size : Int) - 2).toNat = s.size - 2 := by omega
    have w6 : s.size - 2 ≤ s.size := by omega
    go_enter Tryz.func122, Tryz.ntmps122
    go_wp2_with fail
    refine (wday_no (s.extract (s.size - 2) s.size) _ (TT.out.on BA) CW.out).mono ?_
    rintro e w1 ⟨rfl, rfl⟩
    go_wp2
    exact bodyPost_ret (v := .tuple #[.agg #[.int .i64 0, .int .i64 0], .bool false]) (by simp [results, Tryz.results122, go_sem]) rfl ⟨BA, .inl ⟨rfl, rfl⟩⟩
  · have CW := Lib.hid cw
    clear cw
    have w3 : (2 : Int) ≤ (s.size : Int) := by omega
    have w4 : (0 : Int) ≤ (s.size : Int) - 2 := by omega
    have w5 : (s.size : Int) - 2 ≤ (s.size : Int) := by omega
    have w2 : ((s.size : Int) - 2).toNat = s.size - 2 := by omega
    have w6 : s.size - 2 ≤ s.size := by omega
    have t0 : ((s.size : Int) - 2 == 0) = true := by rw [beq_iff_eq]; omega
    clear c
    go_enter Tryz.func122, Tryz.ntmps122
    go_wp2_with fail
    refine (wday_yes (s.extract (s.size - 2) s.size) _ (TT.out.on BA) k CW.out).mono ?_
    rintro e w1 ⟨rfl, rfl⟩
    go_wp2
    exact bodyPost_ret (v := .tuple #[.agg #[.int .i64 0, .int .i64 k], .bool true]) (by simp [results, Tryz.results122, go_sem]) rfl ⟨alloc_below _ _, .inr ⟨⟨0, k⟩, rfl, rfl⟩⟩
  · have CW := Lib.hid cw
    have CN := Lib.hid cn
    clear cw cn
    have w3 : (2 : Int) ≤ (s.size : Int) := by omega
    have w4 : (0 : Int) ≤ (s.size : Int) - 2 := by omega
    have w5 : (s.size : Int) - 2 ≤ (s.size : Int) := by omega
    have w2 : ((s.size : Int) - 2).toNat = s.size - 2 := by omega
    have w6 : s.size - 2 ≤ s.size := by omega
    have t0 : ((s.size : Int) - 2 == 0) = false := by rw [beq_eq_false_iff_ne]; omega
    go_enter Tryz.func122, Tryz.ntmps122
    go_wp2_with fail
    refine (wday_yes (s.extract (s.size - 2) s.size) _ (TT.out.on BA) k CW.out).mono ?_
    rintro e w1 ⟨rfl, rfl⟩
    go_wp2_with fail
    refine (number_none (s.extract 0 (s.size - 2)) _ (TT.out.on BA) (by rw [ByteArray.size_extract]; omega) CN.out).mono ?_
    rintro e w2 ⟨rfl, b2⟩
    have X2 := X0.out.below b2
    have z0 := X2.at_ 0 _ rfl
    have z1 := X2.at_ 1 _ rfl
    have y0 : w2.frozen? ⟨w.heap.size, 0, none⟩ = false := (b2.frozen (p := ⟨w.heap.size, 0, none⟩) (by simp)).trans (by simp [go_sem])
    have y1 : w2.frozen? ⟨w.heap.size, 1, none⟩ = false := (b2.frozen (p := ⟨w.heap.size, 1, none⟩) (by simp)).trans (by simp [go_sem])
    have B2 := BA.trans (b2.mono (by simp))
    clear X2 b2
    go_wp2
    exact bodyPost_ret (v := .tuple #[.agg #[.int .i64 0, .int .i64 0], .bool false]) (by simp [results, Tryz.results122, go_sem, set2_0 z0, set2_1 z1]) rfl ⟨(B2.setCell (p := ⟨w.heap.size, 0, none⟩) (Nat.le_refl _) _).setCell (p := ⟨w.heap.size, 1, none⟩) (Nat.le_refl _) _, .inl ⟨rfl, rfl⟩⟩
  · have CW := Lib.hid cw
    have CN := Lib.hid cn
    clear cw cn
    have w3 : (2 : Int) ≤ (s.size : Int) := by omega
    have w4 : (0 : Int) ≤ (s.size : Int) - 2 := by omega
    have w5 : (s.size : Int) - 2 ≤ (s.size : Int) := by omega
    have w2 : ((s.size : Int) - 2).toNat = s.size - 2 := by omega
    have w6 : s.size - 2 ≤ s.size := by omega
    have t0 : ((s.size : Int) - 2 == 0) = false := by rw [beq_eq_false_iff_ne]; omega
    go_enter Tryz.func122, Tryz.ntmps122
    go_wp2_with fail
    refine (wday_yes (s.extract (s.size - 2) s.size) _ (TT.out.on BA) k CW.out).mono ?_
    rintro e w1 ⟨rfl, rfl⟩
    go_wp2_with fail
    refine (number_some (s.extract 0 (s.size - 2)) 0 _ (TT.out.on BA) (by rw [ByteArray.size_extract]; omega) CN.out).mono ?_
    rintro e w2 ⟨rfl, b2⟩
    have X2 := X0.out.below b2
    have z0 := X2.at_ 0 _ rfl
    have z1 := X2.at_ 1 _ rfl
    have y0 : w2.frozen? ⟨w.heap.size, 0, none⟩ = false := (b2.frozen (p := ⟨w.heap.size, 0, none⟩) (by simp)).trans (by simp [go_sem])
    have y1 : w2.frozen? ⟨w.heap.size, 1, none⟩ = false := (b2.frozen (p := ⟨w.heap.size, 1, none⟩) (by simp)).trans (by simp [go_sem])
    have B2 := BA.trans (b2.mono (by simp))
    clear X2 b2
    go_wp2
    exact bodyPost_ret (v := .tuple #[.agg #[.int .i64 0, .int .i64 0], .bool false]) (by simp [results, Tryz.results122, go_sem, set2_0 z0, set2_1 z1]) rfl ⟨(B2.setCell (p := ⟨w.heap.size, 0, none⟩) (Nat.le_refl _) _).setCell (p := ⟨w.heap.size, 1, none⟩) (Nat.le_refl _) _, .inl ⟨rfl, rfl⟩⟩
  · have CW := Lib.hid cw
    have CN := Lib.hid cn
    have t1 : ((n : Int) == 0) = false := by rw [beq_eq_false_iff_ne]; exact c0
    clear cw cn c0
    have w3 : (2 : Int) ≤ (s.size : Int) := by omega
    have w4 : (0 : Int) ≤ (s.size : Int) - 2 := by omega
    have w5 : (s.size : Int) - 2 ≤ (s.size : Int) := by omega
    have w2 : ((s.size : Int) - 2).toNat = s.size - 2 := by omega
    have w6 : s.size - 2 ≤ s.size := by omega
    have t0 : ((s.size : Int) - 2 == 0) = false := by rw [beq_eq_false_iff_ne]; omega
    go_enter Tryz.func122, Tryz.ntmps122
    go_wp2_with fail
    refine (wday_yes (s.extract (s.size - 2) s.size) _ (TT.out.on BA) k CW.out).mono ?_
    rintro e w1 ⟨rfl, rfl⟩
    go_wp2_with fail
    refine (number_some (s.extract 0 (s.size - 2)) n _ (TT.out.on BA) (by rw [ByteArray.size_extract]; omega) CN.out).mono ?_
    rintro e w2 ⟨rfl, b2⟩
    have X2 := X0.out.below b2
    have z0 := X2.at_ 0 _ rfl
    have z1 := X2.at_ 1 _ rfl
    have y0 : w2.frozen? ⟨w.heap.size, 0, none⟩ = false := (b2.frozen (p := ⟨w.heap.size, 0, none⟩) (by simp)).trans (by simp [go_sem])
    have y1 : w2.frozen? ⟨w.heap.size, 1, none⟩ = false := (b2.frozen (p := ⟨w.heap.size, 1, none⟩) (by simp)).trans (by simp [go_sem])
    have B2 := BA.trans (b2.mono (by simp))
    clear X2 b2
    go_wp2
    exact bodyPost_ret (v := .tuple #[.agg #[.int .i64 n, .int .i64 k], .bool true]) (by simp [results, Tryz.results122, go_sem, set2_0 z0, set2_1 z1]) rfl ⟨(B2.setCell (p := ⟨w.heap.size, 0, none⟩) (Nat.le_refl _) _).setCell (p := ⟨w.heap.size, 1, none⟩) (Nat.le_refl _) _, .inr ⟨⟨n, k⟩, rfl, rfl⟩⟩
theorem day_some (s : ByteArray) (d : Dy) (w : World) (T : Tabs w) (hs : s.size ≤ 1000000) (h : dayOf s.data.toList = some d) :
    Calls Tryz.prog 122 #[.string s] w fun e w' => e = .returned (.tuple #[.agg #[.int .i64 d.n, .int .i64 d.w], .bool true]) ∧ Below w.heap.size w w' := by
  refine (day_any s w T hs).mono ?_
  rintro e w' ⟨b, ⟨h1, -⟩ | ⟨x, h1, rfl⟩⟩
  · rw [h] at h1; cases h1
  · rw [h] at h1; injection h1 with h1; subst h1; exact ⟨rfl, b⟩
theorem day_none (s : ByteArray) (w : World) (T : Tabs w) (hs : s.size ≤ 1000000) (h : dayOf s.data.toList = none) :
    Calls Tryz.prog 122 #[.string s] w fun e w' => e = .returned (.tuple #[.agg #[.int .i64 0, .int .i64 0], .bool false]) ∧ Below w.heap.size w w' := by
  refine (day_any s w T hs).mono ?_
  rintro e w' ⟨b, ⟨-, rfl⟩ | ⟨x, h1, rfl⟩⟩
  · exact ⟨rfl, b⟩
  · rw [h] at h1; cases h1
set_option maxRecDepth 100000 in
set_option maxHeartbeats 4000000 in
theorem listD_any (s : ByteArray) (w : World) (T : Tabs w) (hs : s.size ≤ 1000000) :
    Calls Tryz.prog 121 #[.string s, .func (.func 122) #[] #[], .func (.func 123) #[] #[]] w (ListD (daysOf s.data.toList) w) := by
  obtain ⟨ps, hps⟩ : ∃ ps, cutAt 44 s.data.toList = ps := ⟨_, rfl⟩
  have C1 := Lib.hid (fun h => daysOf_long (l := s.data.toList) h)
  have C2 := Lib.hid (fun h => daysOf_no (l := s.data.toList) h)
  have C3 := Lib.hid (fun (acc : List Dy) h g => daysOf_some (l := s.data.toList) (acc := acc) h g)
  have PL := Lib.hid (fun (p : List UInt8) (hp : p ∈ cutAt 44 s.data.toList) => show (str p).size ≤ 1000000 by
    rw [str_size]; have := cut_len 44 s.data.toList p hp; rw [size_list] at this; omega)
  rw [hps] at C1 C2 C3 PL
  have TT := Lib.hid T
  have HP := Lib.hid hps
  clear T hps
  generalize daysOf s.data.toList = o at *
  go_enter Tryz.func121, Tryz.ntmps121
  go_wp2_with fail
  refine (split_is s 44 _ TT.out hs).mono ?_
  rintro e w1 ⟨A, k, cap, rfl, hA, -, b1⟩
  rw [HP.out] at hA
  have hk := hA.1
  rw [List.length_map] at hk
  have T1 := Lib.hid (TT.out.on b1)
  have HK := Lib.hid hk
  have HS := Lib.hid hA
  clear TT hk hA
  by_cases h60 : k ≤ 60
  · have K1 := Lib.hid (show ps.length ≤ 60 by rw [← HK.out]; exact h60)
    go_wp2
    go_loopw [9, 21] (fun ov i wr => ∃ (v : Value) (t : Nat) (acc : List Dy), t ≤ k ∧ v = ov ∧ i = .int .i64 t ∧ OwnD w1 wr v acc ∧ Hid (allSome dayOf (ps.take t) = some acc) ∧ acc.length ≤ 1000 ∧ Below w1.heap.size w1 wr) (fun _ i _ => k - (intOf i).toNat)
    case atStart => exact ⟨_, 0, [], Nat.zero_le _, rfl, rfl, OwnD.nil _ _, Lib.hid rfl, by simp, Below.refl _ _⟩
    case round =>
      rename_i wr
      obtain ⟨v0, t, acc, ht, rfl, rfl, ov, D, hl, hB⟩ := hrel
      by_cases hlt : t < k
      · obtain ⟨b, off, rfl, hb, hcc⟩ := HS.out.2 (by omega)
        have c0 := hcc t hlt
        rw [sat_map (by rw [← HK.out]; exact hlt)] at c0
        replace c0 := (hB.cell (p := ⟨b, _, none⟩) hb).trans c0
        have TP := Lib.hid (take_pat (ps := ps) (t := t) (by rw [← HK.out]; exact hlt))
        have MM := Lib.hid (show pat ps t ∈ ps by rw [pat_lt (by rw [← HK.out]; exact hlt)]; exact List.getElem_mem _)
        have SZ := PL.out _ MM.out
        have T2 := Lib.hid (T1.out.on hB)
        clear hcc
        obtain ⟨z, hz⟩ : ∃ z, pat ps t = z := ⟨_, rfl⟩
        rw [hz] at c0 SZ
        have HZ := Lib.hid hz
        clear hz
        cases hn : dayOf z with
        | none =>
          have N := Lib.hid (show dayOf (str z).data.toList = none by rw [list_str]; exact hn)
          have G := Lib.hid (C2.out (allSome_none MM.out (by rw [HZ.out]; exact hn)))
          clear hn
          go_wp2_with fail
          refine (day_none (str z) _ T2.out SZ N.out).mono ?_
          rintro e w2 ⟨rfl, b2⟩
          go_wp2
          go_ret2
          have hB3 := hB.trans (b2.mono hB.size)
          exact ⟨b1.trans ((hB3.trans ((alloc_below _ _).mono hB3.size)).mono b1.size), .inl ⟨G.out, rfl⟩⟩
        | some n =>
          have N := Lib.hid (show dayOf (str z).data.toList = some n by rw [list_str]; exact hn)
          have Y := Lib.hid (show allSome dayOf (ps.take (t + 1)) = some (acc ++ [n]) by rw [TP.out, HZ.out]; exact allSome_snoc D.out hn)
          clear hn
          go_wp2_with fail
          refine (day_some (str z) n _ T2.out SZ N.out).mono ?_
          rintro e w2 ⟨rfl, b2⟩
          have hB2 := hB.trans (b2.mono hB.size)
          have ov2 := (ov.on b2).on (alloc_below w2 (.cells #[.int .i64 n.n, .int .i64 n.w] 48))
          have hB2b := hB2.trans ((alloc_below w2 (.cells #[.int .i64 n.n, .int .i64 n.w] 48)).mono hB2.size)
          go_wp2_with (at_builtin; refine append_day rfl _ _ rfl v0 acc rfl ov2 hB2b n 48 1 (by show Value.slice (some ⟨w2.heap.size + 1, 0, none⟩) 1 1 = _; simp) (by omega) ?_)
          intro v5 w5 ov5 hB5
          go_wp2
          go_roundw
          case rel => exact ⟨_, t + 1, acc ++ [n], by omega, rfl, by go_num, ov5, Y, by
            have := allSome_len Y.out
            rw [this, List.length_take]; have := K1.out; omega, hB5⟩
          case measure => simp [intOf]; omega
      · obtain rfl : k = t := by omega
        have DA := Lib.hid (show allSome dayOf ps = some acc by have := D.out; rwa [List.take_of_length_le (by rw [HK.out]; exact Nat.le_refl _)] at this)
        have G := Lib.hid (C3.out acc K1.out DA.out)
        have SC := Lib.hid (sort_comp dlt_irr dlt_tri dlt_tr acc)
        have ne : acc ≠ [] := fun e => by
          have h1 := allSome_len DA.out
          have h2 := cutAt_ne 44 s.data.toList
          rw [HP.out] at h2
          rw [e] at h1
          exact h2 (List.length_eq_zero_iff.1 h1.symm)
        obtain ⟨g, cp, rfl, hg1, hg2, hsort⟩ := sortD_is w1 _ v0 acc ov ne hB (by omega)
        have HSO := Lib.hid hsort
        clear D hsort
        go_wp2_with fail
        refine HSO.out.mono ?_
        rintro e w2 ⟨rfl, hR2, hg3, hB2⟩
        have hlen : (acc.mergeSort fun x y => !dltB y x).length = acc.length := by simp
        have cD := compactD_is w1.heap.size w1 w2 g cp (acc.mergeSort fun x y => !dltB y x) hR2 hg3 hg1 hB2 (by rw [hlen]; omega) (by rw [hlen]; exact hg2)
        rw [hlen] at cD
        unfold CompD at cD
        rw [SC.out] at cD
        have CD := Lib.hid cD
        clear cD hlen hR2
        go_wp2_with fail
        refine CD.out.mono ?_
        rintro e w3 ⟨A3, c3, rfl, hA3, hF3, hB3⟩
        go_wp2
        go_ret2
        exact ⟨b1.trans (hB3.mono b1.size), .inr ⟨_, A3, c3, G.out, rfl, hA3, hF3.mono b1.size⟩⟩
  · have K1 := Lib.hid (C1.out (show 60 < ps.length by rw [← HK.out]; omega))
    have i60 : (60 : Int) < (k : Int) := by omega
    clear h60
    go_wp2
    go_ret2
    exact ⟨b1, .inl ⟨K1.out, rfl⟩⟩
end Go.Proofs.YtkkmhjplfpdhcaaGreatDoor.Ru
