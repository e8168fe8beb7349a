/- What rule.dayText and rule.part answer. What rule.part answers of numbers. What rule.part answers of days. Plain mathematics of a rule's text, part by part; and the three texts that the chapter's first examples read. What rule.Print answers. -/
import Derived.Test.YtajgagmpdhmbkaaGreatDoorRuTab
import Derived.Test.YtajgagmpdhmbkaaGreatDoorRpE
import Derived.Test.YtajgagmpdhmbkaaGreatDoorMaA
import Derived.Test.YtajgagmpdhmbkaaGreatDoorRpFG
set_option linter.unusedVariables false
namespace Go.Proofs.YtajgagmpdhmbkaaGreatDoor.Ru
open Go.RowKit Cv St

theorem quiet_itoa {n : Int} {W : World} {v : In (Past W)} {s : ByteArray} (T : Tabs W) (h0 : -9223372036854775808 ≤ n) (h1 : n ≤ 9223372036854775807) (hs : str (Lib.itoa n) = s) :
    Calls Tryz.prog 31 #[.int .i64 n] v.w fun e w'' => e = .returned (.string s) ∧ ∃ m : In (Past W), w'' = m.w :=
  quiet_cl Past.on (itoa_is n v.w s (T.past v) h0 h1 hs)
theorem itoa_size {n : Int} {s : ByteArray} (h : str (Lib.itoa n) = s) (h0 : -999999999 ≤ n) (h1 : n ≤ 999999999) : s.size ≤ 10 := by
  rw [← h, str_size]; exact itoa_len9 h0 h1
theorem wdayW_two : ∀ k : Fin 7, (wdayW k.val).length = 2 := by decide
set_option maxRecDepth 100000 in
/-- rule.dayText -/
theorem dayText_is (w : World) (T : Tabs w) (d : Dy) (s : ByteArray) (h0 : -53 ≤ d.n) (h1 : d.n ≤ 53) (h2 : 0 ≤ d.w) (h3 : d.w ≤ 6) (hs : str (dayT d) = s) :
    Calls Tryz.prog 35 #[.agg #[.int .i64 d.n, .int .i64 d.w]] w fun e w' => e = .returned (.string s) ∧ Below w.heap.size w w' := by
  obtain ⟨n, x⟩ := d
  obtain ⟨k, rfl⟩ : ∃ k : Nat, x = k := ⟨x.toNat, by simp only at h2; omega⟩
  simp only at h0 h1 h2 h3
  have hk : k < 7 := by omega
  have z := T.wdays k hk
  have hsz := str_size (wdayW k)
  rw [wdayW_two ⟨k, hk⟩] at hsz
  obtain ⟨u, hu⟩ : ∃ u, str (wdayW k) = u := ⟨_, rfl⟩
  rw [hu] at z hsz
  have w1 : (0 : Int) ≤ (k : Int) := by omega
  have w2 : (k : Int) < 7 := by omega
  have w3 : k < 7 := hk
  have w4 : (k : Int).toNat = k := by omega
  have low := T.low
  by_cases hn : n = 0
  · have G := Lib.hid (show s = u by rw [← hs, ← hu]; unfold dayT; rw [if_pos hn]; rfl)
    have t0 : (n == 0) = true := beq_iff_eq.2 hn
    have za := ((alloc_below w (.cells #[.int .i64 n, .int .i64 (k : Int)] 47)).cell (p := ⟨1, k, none⟩) (Nat.lt_of_le_of_lt (show 1 ≤ 8 by decide) low)).trans z
    clear hs hu hn z
    go_enter Tryz.func35, Tryz.ntmps35
    go_wp2
    go_ret
    exact ⟨by rw [G.out]; rfl, alloc_below _ _⟩
  · obtain ⟨v, hv⟩ : ∃ v, str (Lib.itoa n) = v := ⟨_, rfl⟩
    have G := Lib.hid (show s = v ++ u by rw [← hs, ← hu, ← hv, str_app]; unfold dayT; rw [if_neg hn]; rfl)
    have t0 : (n == 0) = false := beq_eq_false_iff_ne.2 hn
    have vs := itoa_size hv (by omega) (by omega)
    have TH := Lib.hid T
    have HV := Lib.hid hv
    clear hs hu hn T hv
    go_enter Tryz.func35, Tryz.ntmps35
    go_wp2
    generalize hw1 : w.alloc (.cells #[.int .i64 n, .int .i64 k] 47) = w1
    have z1 : Below w.heap.size w w1 := hw1 ▸ alloc_below w _
    have y0 : w1.cell? ⟨w.heap.size, 0, none⟩ = some (.int .i64 n) := by rw [← hw1]; simp [go_sem]
    have y1 : w1.cell? ⟨w.heap.size, 1, none⟩ = some (.int .i64 k) := by rw [← hw1]; simp [go_sem]
    have ys : w.heap.size < w1.heap.size := by rw [← hw1]; simp
    have T1 := Lib.hid (TH.out.on z1)
    clear hw1
    have q0 := Past.at_ ys y0
    have q1 := Past.at_ ys y1
    have q2 := Past.at_ (Nat.lt_of_le_of_lt (show 1 ≤ 8 by decide) T1.out.low) ((z1.cell (p := ⟨1, k, none⟩) (Nat.lt_of_le_of_lt (show 1 ≤ 8 by decide) low)).trans z)
    clear y0 y1 z
    have p9 : Past w1 w1 := Below.refl _ _
    have hne : Nonempty (In (Past w1)) := ⟨⟨_, p9⟩⟩
    have r1 : -9223372036854775808 ≤ n := by omega
    have r2 : n ≤ 9223372036854775807 := by omega
    have sz : v.size + u.size ≤ 281474976710656 := by omega
    refine wp_region_class (Past w1) (by kernel_rfl) (by kernel_rfl) (Past.drew' p9) ?_
    repeat (any_goals (first | go_big_quiet_step ((with_reducible refine quiet_itoa T1.out r1 r2 HV.out)) | quiet_step ((with_reducible refine quiet_itoa T1.out r1 r2 HV.out))))
    refine wpQuiet_nil ?_
    rintro _ ⟨⟨w3, hb3⟩, rfl⟩
    replace hb3 : Below _ _ _ := hb3
    have z3 := z1.trans (hb3.mono z1.size)
    clear q0 q1 q2 hne p9
    go_wp2
    go_ret
    exact ⟨by rw [G.out]; rfl, z3⟩
end Go.Proofs.YtajgagmpdhmbkaaGreatDoor.Ru
set_option linter.unusedVariables false
namespace Go.Proofs.YtajgagmpdhmbkaaGreatDoor.Ru
open Go.RowKit Cv St

/-- the part of a list of numbers, its sign ahead -/
def partI (nm : List UInt8) (l : List Int) : List UInt8 := if l = [] then [] else 59 :: nm ++ 61 :: commaL l
theorem take_itoa {l : List Int} {t : Nat} (h : t < l.length) : ((l.take (t + 1)).map Lib.itoa).map str = ((l.take t).map Lib.itoa).map str ++ [str (Lib.itoa (iat l t))] := by
  rw [iat_lt h, List.take_succ_eq_append_getElem h, List.map_append, List.map_append]; rfl
set_option maxRecDepth 100000 in
set_option maxHeartbeats 2000000 in
theorem partI_is (w : World) (T : Tabs w) (nm : ByteArray) (A : Option Addr) (n c : Nat) (l : List Int) (s : ByteArray) (hA : IsAt w A n l) (h60 : n ≤ 60) (hl : ∀ x ∈ l, -999999999 ≤ x ∧ x ≤ 999999999) (hn : nm.size ≤ 20) (hs : str (partI nm.data.toList l) = s) :
    Calls Tryz.prog 33 #[.string nm, .slice A n c, .func (.func 31) #[] #[]] w fun e w' => e = .returned (.string s) ∧ Below w.heap.size w w' := by
  have hk := hA.1
  by_cases h0 : l = []
  · subst h0
    obtain rfl : n = 0 := hk
    have G := Lib.hid (show s = ⟨#[]⟩ by rw [← hs]; rfl)
    clear hs hA hl
    go_enter Tryz.func33, Tryz.ntmps33
    go_wp2
    go_ret
    exact ⟨by rw [G.out]; rfl, Below.refl _ _⟩
  · obtain ⟨j, hj⟩ : ∃ j, str (sep 44 (l.map Lib.itoa)) = j := ⟨_, rfl⟩
    have e0 : partI nm.data.toList l = [59] ++ nm.data.toList ++ [61] ++ sep 44 (l.map Lib.itoa) := by unfold partI; rw [if_neg h0]; simp [commaL]
    have G := Lib.hid (show s = str [59] ++ nm ++ str [61] ++ j by rw [← hs, e0, ← str_app, ← str_app, ← str_app, hj, str_list])
    have hp : 0 < n := by rw [hk]; exact List.length_pos_iff.2 h0
    have jl : (sep 44 (l.map Lib.itoa)).length ≤ l.length * 11 := comma_len fun x hx => itoa_len9 (hl x hx).1 (hl x hx).2
    have js : j.size ≤ 660 := by rw [← hj, str_size]; omega
    obtain ⟨b, off, rfl, hb, hc⟩ := hA.2 hp
    have JL := Lib.hid jl
    have HJ := Lib.hid hj
    have HK := Lib.hid hk
    have HC := Lib.hid hc
    have HL := Lib.hid hl
    have TT := Lib.hid T
    have n0 : ((n : Int) == 0) = false := beq_eq_false_iff_ne.2 (by omega)
    obtain ⟨N, hN⟩ : ∃ N : Nat → List ByteArray, ∀ t, ((l.take t).map Lib.itoa).map str = N t := ⟨_, fun _ => rfl⟩
    have HN := Lib.hid hN
    have N0 := Lib.hid (show N 0 = [] by rw [← hN]; rfl)
    clear hs hA hl hk e0 jl hj hc T h0 hN
    go_enter Tryz.func33, Tryz.ntmps33
    go_wp2
    go_loopw [7, 15] (fun ov i wr => ∃ (v : Value) (t : Nat), t ≤ n ∧ v = ov ∧ i = .int .i64 t ∧ OwnT w wr v (N t) ∧ Below w.heap.size w wr) (fun _ i _ => n - (intOf i).toNat)
    case atStart => exact ⟨_, 0, Nat.zero_le _, rfl, rfl, N0.out ▸ OwnT.nil _ _, Below.refl _ _⟩
    case round =>
      rename_i wr
      obtain ⟨v0, t, ht, rfl, rfl, ov, hB⟩ := hrel
      by_cases hlt : t < n
      · have c0 := (hB.cell (p := ⟨b, off + t, none⟩) hb).trans (HC.out t hlt)
        have hl2 : t < l.length := by rw [← HK.out]; exact hlt
        have HT := Lib.hid (show N (t + 1) = N t ++ [str (Lib.itoa (iat l t))] by rw [← HN.out, ← HN.out]; exact take_itoa hl2)
        have hm := HL.out (iat l t) (by rw [iat_lt hl2]; exact List.getElem_mem _)
        have nl : (N t).length ≤ 1000000 := by rw [← HN.out]; simp; omega
        clear hl2
        obtain ⟨x, hx⟩ : ∃ x, iat l t = x := ⟨_, rfl⟩
        rw [hx] at c0 HT hm
        clear hx
        have T2 := Lib.hid (TT.out.on hB)
        go_wp2_with fail
        refine (itoa_is x _ (str (Lib.itoa x)) T2.out (by omega) (by omega) rfl).mono ?_
        rintro e w2 ⟨rfl, b2⟩
        have ov2 := ov.on b2
        have hB2 := hB.trans (b2.mono hB.size)
        go_wp2_with (at_builtin; refine append_line rfl _ _ rfl v0 _ rfl ov2 hB2 (str (Lib.itoa x)) 9 1 rfl nl ?_)
        intro v5 w5 ov5 hB5
        rw [← HT.out] at ov5
        go_wp2
        go_roundw
        case rel => exact ⟨_, t + 1, by omega, rfl, by go_num, ov5, hB5⟩
        case measure => simp [intOf]; omega
      · obtain rfl : n = t := by omega
        have ov3 : OwnT w wr v0 ((l.map Lib.itoa).map str) := by have q := HN.out n; rw [List.take_of_length_le (by rw [HK.out]; exact Nat.le_refl _)] at q; rw [q]; exact ov
        have k1 := HK.out
        have k2 := JL.out
        go_wp2_with fail
        refine (join_is 44 (l.map Lib.itoa) v0 w wr j ov3 (by rw [List.length_map]; omega) (by omega) HJ.out).mono ?_
        rintro e w2 ⟨rfl, b2⟩
        go_wp2
        go_ret
        exact ⟨by rw [G.out]; rfl, hB.trans (b2.mono hB.size)⟩
end Go.Proofs.YtajgagmpdhmbkaaGreatDoor.Ru
set_option linter.unusedVariables false
namespace Go.Proofs.YtajgagmpdhmbkaaGreatDoor.Ru
open Go.RowKit Cv St

/-- the part of a list of days, its sign ahead -/
def partDy (nm : List UInt8) (l : List Dy) : List UInt8 := if l = [] then [] else 59 :: nm ++ 61 :: sep 44 (l.map dayT)
theorem take_dayT {l : List Dy} {t : Nat} (h : t < l.length) : ((l.take (t + 1)).map dayT).map str = ((l.take t).map dayT).map str ++ [str (dayT (dat l t))] := by
  rw [dat_lt h, List.take_succ_eq_append_getElem h, List.map_append, List.map_append]; rfl
theorem days_len11 {l : List Dy} (h : ∀ x ∈ l, -53 ≤ x.n ∧ x.n ≤ 53 ∧ 0 ≤ x.w ∧ x.w ≤ 6) : (sep 44 (l.map dayT)).length ≤ l.length * 11 := by
  have := len_sep (c := 44) (ps := l.map dayT) (k := 6) (fun p hp => by
    obtain ⟨d, hd, rfl⟩ := List.mem_map.1 hp
    have := h d hd
    have w := wday_len ⟨d.w.toNat, by omega⟩
    simp only at w
    have i := itoa_len4 (n := d.n) (by omega) (by omega)
    unfold dayT
    rw [List.length_append, w]
    split
    · simp
    · omega)
  rw [List.length_map] at this
  omega
set_option maxRecDepth 100000 in
set_option maxHeartbeats 2000000 in
theorem partD_is (w : World) (T : Tabs w) (nm : ByteArray) (A : Option Addr) (n c : Nat) (l : List Dy) (s : ByteArray) (hA : DyAt w A n l) (h60 : n ≤ 60) (hl : ∀ x ∈ l, -53 ≤ x.n ∧ x.n ≤ 53 ∧ 0 ≤ x.w ∧ x.w ≤ 6) (hn : nm.size ≤ 20) (hs : str (partDy nm.data.toList l) = s) :
    Calls Tryz.prog 34 #[.string nm, .slice A n c, .func (.func 35) #[] #[]] w fun e w' => e = .returned (.string s) ∧ Below w.heap.size w w' := by
  have hk := hA.1
  by_cases h0 : l = []
  · subst h0
    obtain rfl : n = 0 := hk
    have G := Lib.hid (show s = ⟨#[]⟩ by rw [← hs]; rfl)
    clear hs hA hl
    go_enter Tryz.func34, Tryz.ntmps34
    go_wp2
    go_ret
    exact ⟨by rw [G.out]; rfl, Below.refl _ _⟩
  · obtain ⟨j, hj⟩ : ∃ j, str (sep 44 (l.map dayT)) = j := ⟨_, rfl⟩
    have e0 : partDy nm.data.toList l = [59] ++ nm.data.toList ++ [61] ++ sep 44 (l.map dayT) := by unfold partDy; rw [if_neg h0]; simp
    have G := Lib.hid (show s = str [59] ++ nm ++ str [61] ++ j by rw [← hs, e0, ← str_app, ← str_app, ← str_app, hj, str_list])
    have hp : 0 < n := by rw [hk]; exact List.length_pos_iff.2 h0
    have jl : (sep 44 (l.map dayT)).length ≤ l.length * 11 := days_len11 fun x hx => hl x hx
    have js : j.size ≤ 660 := by rw [← hj, str_size]; omega
    obtain ⟨b, off, rfl, hb, hc⟩ := hA.2 hp
    have JL := Lib.hid jl
    have HJ := Lib.hid hj
    have HK := Lib.hid hk
    have HC := Lib.hid hc
    have HL := Lib.hid hl
    have TT := Lib.hid T
    have n0 : ((n : Int) == 0) = false := beq_eq_false_iff_ne.2 (by omega)
    obtain ⟨N, hN⟩ : ∃ N : Nat → List ByteArray, ∀ t, ((l.take t).map dayT).map str = N t := ⟨_, fun _ => rfl⟩
    have HN := Lib.hid hN
    have N0 := Lib.hid (show N 0 = [] by rw [← hN]; rfl)
    clear hs hA hl hk e0 jl hj hc T h0 hN
    go_enter Tryz.func34, Tryz.ntmps34
    go_wp2
    go_loopw [7, 15] (fun ov i wr => ∃ (v : Value) (t : Nat), t ≤ n ∧ v = ov ∧ i = .int .i64 t ∧ OwnT w wr v (N t) ∧ Below w.heap.size w wr) (fun _ i _ => n - (intOf i).toNat)
    case atStart => exact ⟨_, 0, Nat.zero_le _, rfl, rfl, N0.out ▸ OwnT.nil _ _, Below.refl _ _⟩
    case round =>
      rename_i wr
      obtain ⟨v0, t, ht, rfl, rfl, ov, hB⟩ := hrel
      by_cases hlt : t < n
      · have c0 := (hB.cell (p := ⟨b, off + t * 2, none⟩) hb).trans (HC.out t hlt).1
        have c1 := (hB.cell (p := ⟨b, off + t * 2 + 1, none⟩) hb).trans (HC.out t hlt).2
        have hl2 : t < l.length := by rw [← HK.out]; exact hlt
        have HT := Lib.hid (show N (t + 1) = N t ++ [str (dayT (dat l t))] by rw [← HN.out, ← HN.out]; exact take_dayT hl2)
        have hm := HL.out (dat l t) (by rw [dat_lt hl2]; exact List.getElem_mem _)
        have nl : (N t).length ≤ 1000000 := by rw [← HN.out]; simp; omega
        clear hl2
        obtain ⟨x, hx⟩ : ∃ x, dat l t = x := ⟨_, rfl⟩
        rw [hx] at c0 c1 HT hm
        clear hx
        have T2 := Lib.hid (TT.out.on hB)
        go_wp2_with fail
        refine (dayText_is _ (T2.out.on (alloc_below wr _)) x (str (dayT x)) hm.1 hm.2.1 hm.2.2.1 hm.2.2.2 rfl).mono ?_
        rintro e w2 ⟨rfl, b2⟩
        have bx := alloc_below wr (.cells #[.int .i64 x.n, .int .i64 x.w] 47)
        have ov2 := (ov.on bx).on b2
        have hB2 := (hB.trans (bx.mono hB.size)).trans (b2.mono (Nat.le_trans hB.size bx.size))
        go_wp2_with (at_builtin; refine append_line rfl _ _ rfl v0 _ rfl ov2 hB2 (str (dayT x)) 9 1 rfl nl ?_)
        intro v5 w5 ov5 hB5
        rw [← HT.out] at ov5
        go_wp2
        go_roundw
        case rel => exact ⟨_, t + 1, by omega, rfl, by go_num, ov5, hB5⟩
        case measure => simp [intOf]; omega
      · obtain rfl : n = t := by omega
        have ov3 : OwnT w wr v0 ((l.map dayT).map str) := by have q := HN.out n; rw [List.take_of_length_le (by rw [HK.out]; exact Nat.le_refl _)] at q; rw [q]; exact ov
        have k1 := HK.out
        have k2 := JL.out
        go_wp2_with fail
        refine (join_is 44 (l.map dayT) v0 w wr j ov3 (by rw [List.length_map]; omega) (by omega) HJ.out).mono ?_
        rintro e w2 ⟨rfl, b2⟩
        go_wp2
        go_ret
        exact ⟨by rw [G.out]; rfl, hB.trans (b2.mono hB.size)⟩
end Go.Proofs.YtajgagmpdhmbkaaGreatDoor.Ru
set_option linter.unusedVariables false
namespace Go.Proofs.YtajgagmpdhmbkaaGreatDoor.Ru
open Go.RowKit Cv St Go.Proofs.YtajgagmpdhmbkaaGreatDoor.Fd

/-- the parts of a rule's text, each with its sign ahead -/
def pc (r : Ru) : Nat → List UInt8
  | 0 => partT (0, freqW r.freq.toNat)
  | 1 => if r.itv = 1 then [] else 59 :: partT (1, Lib.itoa r.itv)
  | 2 => if r.cnt = 0 then [] else 59 :: partT (2, Lib.itoa r.cnt)
  | 3 => if r.ends = true then 59 :: partT (3, St.text r.til) else []
  | 4 => partI (nameK 4) r.mon
  | 5 => partI (nameK 5) r.week
  | 6 => partI (nameK 6) r.yday
  | 7 => partI (nameK 7) r.mday
  | 8 => partDy (nameK 8) r.day
  | 9 => partI (nameK 9) r.hour
  | 10 => partI (nameK 10) r.minu
  | 11 => partI (nameK 11) r.sec
  | 12 => partI (nameK 12) r.pos
  | _ => if r.wkst = 0 then [] else 59 :: partT (13, wdayW r.wkst.toNat)
def pre (r : Ru) : Nat → List UInt8
  | 0 => pc r 0
  | n + 1 => pre r n ++ pc r (n + 1)
theorem fl_opt {c : Prop} [Decidable c] (x : Nat × List UInt8) : ((if c then [] else [x]).map partT).flatMap (fun q => (59 : UInt8) :: q) = if c then [] else 59 :: partT x := by split <;> simp
theorem fl_opt2 {b : Bool} (x : Nat × List UInt8) : ((if b = true then [x] else []).map partT).flatMap (fun q => (59 : UInt8) :: q) = if b = true then 59 :: partT x else [] := by split <;> simp
theorem fl_list (k : Nat) (l : List Int) : ((listP k l).map partT).flatMap (fun q => (59 : UInt8) :: q) = partI (nameK k) l := by unfold listP partI partT; split <;> simp
theorem fl_days (l : List Dy) : (if l = [] then [] else 59 :: partT (8, sep 44 (l.map dayT))) = partDy (nameK 8) l := by unfold partDy partT; split <;> simp
theorem pre_13 (r : Ru) : pre r 13 = ruText r := by
  unfold ruText fieldsP
  have key : ∀ (x : Nat × List UInt8) (L : List (Nat × List UInt8)), sep 59 (([x] ++ L).map partT) = partT x ++ (L.map partT).flatMap (fun q => (59 : UInt8) :: q) := fun x L => rfl
  rw [key]
  simp only [List.map_append, List.flatMap_append, fl_opt, fl_opt2, fl_list, fl_days]
  simp only [pre, pc, List.append_assoc]
theorem pre_le (r : Ru) (n : Nat) : ∀ k, (pre r n).length ≤ (pre r (n + k)).length
  | 0 => Nat.le_refl _
  | k + 1 => by
    refine Nat.le_trans (pre_le r n k) ?_
    show _ ≤ (pre r (n + k) ++ pc r (n + k + 1)).length
    rw [List.length_append]; omega
theorem pre_len {r : Ru} (h : mayR r = true) {n : Nat} (hn : n ≤ 13) : (pre r n).length ≤ 4096 := by
  have := pre_le r n (13 - n)
  rw [show n + (13 - n) = 13 from by omega, pre_13] at this
  exact Nat.le_trans this (ruText_len h)
theorem pc_len {r : Ru} (h : mayR r = true) {n : Nat} (hn : n ≤ 13) : (pc r n).length ≤ 4096 := by
  have := pre_len h hn
  cases n with
  | zero => exact this
  | succ n => unfold pre at this; rw [List.length_append] at this; omega
-- the first examples
theorem itoa_3 : Lib.itoa 3 = [51] := by rw [itoa_nat (by decide), show (3 : Int).toNat = 3 from rfl, Lib.decDigits_one (by decide)]; rfl
theorem itoa_1 : Lib.itoa 1 = [49] := by rw [itoa_nat (by decide), show (1 : Int).toNat = 1 from rfl, Lib.decDigits_one (by decide)]; rfl
theorem itoa_m1 : Lib.itoa (-1) = [45, 49] := by rw [itoa_neg (m := 1) (by decide), show (1 : Int).toNat = 1 from rfl, Lib.decDigits_one (by decide)]; rfl
def firstA : List UInt8 := [70, 82, 69, 81, 61, 77, 79, 78, 84, 72, 76, 89, 59, 66, 89, 68, 65, 89, 61, 70, 82, 44, 45, 49, 77, 79, 59, 67, 79, 85, 78, 84, 61, 51]
def firstB : List UInt8 := [70, 82, 69, 81, 61, 87, 69, 69, 75, 76, 89, 59, 66, 89, 87, 69, 69, 75, 78, 79, 61, 49]
def firstC : List UInt8 := [70, 82, 69, 81, 61, 68, 65, 73, 76, 89, 59, 88]
def ruleA : Ru := { startR with freq := 2, cnt := 3, day := [⟨-1, 0⟩, ⟨0, 4⟩] }
theorem part_freq {k : Nat} (h1 : 1 ≤ k) (h : k < 8) : partOf (partT (0, freqW k)) = some (0, .num (k : Int)) := partOf_T (by decide) (by rw [valOf_0, freqOf_word ⟨k, h⟩ h1]; rfl)
theorem days_A : daysOf [70, 82, 44, 45, 49, 77, 79] = some [⟨-1, 0⟩, ⟨0, 4⟩] := by
  have c : cutAt 44 [70, 82, 44, 45, 49, 77, 79] = [[70, 82], [45, 49, 77, 79]] := by decide
  have d1 : dayOf [70, 82] = some ⟨0, 4⟩ := dayOf_T (d := ⟨0, 4⟩) (by decide) (by decide) (by decide) (by decide)
  have d2 : dayOf [45, 49, 77, 79] = some ⟨-1, 0⟩ := by
    have := dayOf_T (d := ⟨-1, 0⟩) (by decide) (by decide) (by decide) (by decide)
    unfold dayT at this
    rw [if_neg (by decide), itoa_m1] at this
    exact this
  unfold daysOf
  rw [c, if_neg (by decide), allSome, allSome, allSome, d1, d2]
  have : sortU dltB [⟨0, 4⟩, ⟨-1, 0⟩] = [⟨-1, 0⟩, ⟨0, 4⟩] := by decide
  simp only [Option.map_some, this]
theorem first_a : ruParse firstA = (ruleA, 0, 0) := by
  have c : cutAt 59 firstA = [partT (0, freqW 2), partT (8, [70, 82, 44, 45, 49, 77, 79]), partT (2, [51])] := by decide
  have p1 : partOf (partT (8, [70, 82, 44, 45, 49, 77, 79])) = some (8, .days [⟨-1, 0⟩, ⟨0, 4⟩]) := partOf_T (by decide) (by rw [valOf_8, days_A]; rfl)
  have p2 : partOf (partT (2, [51])) = some (2, .num 3) := partOf_T (by decide) (by rw [valOf_2, ← itoa_3, numOf_itoa (by decide) (by decide)]; rfl)
  unfold ruParse
  rw [if_neg (by decide), c, parseL, part_freq (by decide) (by decide)]
  simp only
  rw [if_neg (by simp), parseL, p1]
  simp only
  rw [if_neg (by simp), parseL, p2]
  simp only
  rw [if_neg (by simp), parseL]
  show endP ruleA = _
  unfold endP
  rw [if_neg (by decide), if_pos (by decide +kernel)]
theorem first_b : ruParse firstB = (zeroR, 0, 1) := by
  have c : cutAt 59 firstB = [partT (0, freqW 3), partT (5, [49])] := by decide
  have p1 : partOf (partT (5, [49])) = some (5, .list [1]) := partOf_T (by decide) (by
    have h : numsOf [49] = some [1] := by
      have bd : ∀ x ∈ [(1 : Int)], -999999999 ≤ x ∧ x ≤ 999999999 := by intro x hx; obtain rfl : x = 1 := (by simpa using hx); omega
      have := numsOf_comma (l := [1]) (by simp) (by decide) bd
      have e : commaL [1] = [49] := by show sep 44 [Lib.itoa 1] = _; rw [itoa_1]; rfl
      rw [e] at this
      exact this
    show (numsOf [49]).map Fl.list = _
    rw [h]; rfl)
  unfold ruParse
  rw [if_neg (by decide), c, parseL, part_freq (by decide) (by decide)]
  simp only
  rw [if_neg (by simp), parseL, p1]
  simp only
  rw [if_neg (by simp), parseL]
  show endP { startR with freq := 3, week := [1] } = _
  unfold endP
  rw [if_neg (by decide), if_neg (by decide +kernel)]
theorem first_c : ruParse firstC = (zeroR, 1, 4) := by
  have c : cutAt 59 firstC = [partT (0, freqW 4), [88]] := by decide
  have p1 : partOf [88] = none := by unfold partOf; rw [if_neg (by decide)]
  unfold ruParse
  rw [if_neg (by decide), c, parseL, part_freq (by decide) (by decide)]
  simp only
  rw [if_neg (by simp), parseL, p1]
  rfl
theorem parseL_at : ∀ {ps : List (List UInt8)} {i : Nat} {seen : List Nat} {r : Ru}, 0 ≤ (parseL i seen r ps).2.1
  | [], _, _, r => by
    show 0 ≤ (endP r).2.1
    unfold endP
    split
    · exact Int.le_refl _
    · split <;> exact Int.le_refl _
  | p :: ps, i, seen, r => by
    unfold parseL
    split
    · exact Int.natCast_nonneg _
    · split
      · exact Int.natCast_nonneg _
      · exact parseL_at
/-- the place that Parse tells is none below 0 -/
theorem ruParse_at (l : List UInt8) : 0 ≤ (ruParse l).2.1 := by
  unfold ruParse
  split
  · exact Int.le_refl _
  · exact parseL_at
end Go.Proofs.YtajgagmpdhmbkaaGreatDoor.Ru
set_option linter.unusedVariables false
namespace Go.Proofs.YtajgagmpdhmbkaaGreatDoor.Ru
open Go.RowKit Cv St Go.Proofs.YtajgagmpdhmbkaaGreatDoor.Fd

set_option maxRecDepth 100000 in
theorem print_no (w : World) (S : RS) (r : Ru) (h : RuAt w S r) (hm : mayR r = false) :
    Calls Tryz.prog 14 #[S.val r] w fun e w' => e = .returned (.tuple #[.string ⟨#[]⟩, .int .i64 1]) ∧ Below w.heap.size w w' := by
  have RA := Lib.hid h
  have HM := Lib.hid hm
  clear h hm
  obtain ⟨a6, n6, c6, a7, n7, c7, a8, n8, c8, a9, n9, c9, a10, n10, c10, a11, n11, c11, a12, n12, c12, a13, n13, c13, a14, n14, c14⟩ := S
  obtain ⟨freq, itv, cnt, til, wkst, ends, mon, week, yday, mday, day, hour, minu, sec, pos⟩ := r
  show Calls Tryz.prog 14 #[.agg #[.int .i64 freq, .int .i64 itv, .int .i64 cnt, .int .i64 til, .int .i64 wkst, .bool ends, .slice a6 n6 c6, .slice a7 n7 c7, .slice a8 n8 c8, .slice a9 n9 c9, .slice a10 n10 c10, .slice a11 n11 c11, .slice a12 n12 c12, .slice a13 n13 c13, .slice a14 n14 c14]] w _
  go_enter Tryz.func14, Tryz.ntmps14
  go_wp2_with fail
  refine (may_r _ ⟨a6, n6, c6, a7, n7, c7, a8, n8, c8, a9, n9, c9, a10, n10, c10, a11, n11, c11, a12, n12, c12, a13, n13, c13, a14, n14, c14⟩ ⟨freq, itv, cnt, til, wkst, ends, mon, week, yday, mday, day, hour, minu, sec, pos⟩ false (RA.out.below (alloc_below _ _)) HM.out).mono ?_
  rintro e w1 ⟨rfl, b1⟩
  go_wp2
  go_ret2
  exact ⟨rfl, (alloc_below _ _).trans (b1.mono (by simp))⟩
theorem text_take (t : Int) (h : mayT t = true) (s : ByteArray) (hs : str (St.text t) = s) (w : World) : Calls Tryz.prog 32 #[.int .i64 t] w fun e w' => e = .returned (.tuple #[.string s, .int .i64 0]) ∧ Below w.heap.size w w' := by
  have h := of_decide_eq_true h
  refine (text_is w w t s h.1 h.2 (At.refl trivial) hs).mono ?_
  rintro e w' ⟨rfl, b⟩
  exact ⟨rfl, b.below⟩
theorem opt_no {c : Prop} [Decidable c] {a : List UInt8} {o q : ByteArray} (h : c) (e : o ++ str (if c then [] else a) = q) : o = q := by
  rw [if_pos h] at e
  rw [← e]
  show o = o ++ ByteArray.empty
  simp
theorem opt_no2 {b : Bool} {a : List UInt8} {o q : ByteArray} (h : b = false) (e : o ++ str (if b = true then a else []) = q) : o = q := by
  subst h
  rw [← e]
  show o = o ++ ByteArray.empty
  simp
theorem two_str (a b : List UInt8) : str a ++ str b = str (a ++ b) := str_app a b
set_option maxRecDepth 100000 in
set_option maxHeartbeats 8000000 in
theorem print_yes (w : World) (T : Tabs w) (S : RS) (r : Ru) (h : RuAt w S r) (hm : mayR r = true) (s : ByteArray) (hs : str (ruText r) = s) :
    Calls Tryz.prog 14 #[S.val r] w fun e w' => e = .returned (.tuple #[.string s, .int .i64 0]) ∧ Below w.heap.size w w' := by
  have RA := Lib.hid h
  have HM := Lib.hid hm
  have TT := Lib.hid T
  obtain ⟨m1, m2, m3, -, -, -, -⟩ := mayR_of hm
  obtain ⟨f1, f2, i1, i2, k1, k2, wk1, wk2⟩ := of_decide_eq_true m1
  obtain ⟨l1, l2, l3, l4, l5, l6, l7, l8, l9⟩ := listB_of m3
  have E3 := Lib.hid (endB_of m2).1
  clear m1 m2 m3
  have PL := Lib.hid (fun (n : Nat) (hn : n ≤ 13) => pre_len hm hn)
  have CL := Lib.hid (fun (n : Nat) (hn : n ≤ 13) => pc_len hm hn)
  obtain ⟨o0, g0⟩ : ∃ o, str (pre r 0) = o := ⟨_, rfl⟩
  obtain ⟨o1, g1⟩ : ∃ o, str (pre r 1) = o := ⟨_, rfl⟩
  obtain ⟨o2, g2⟩ : ∃ o, str (pre r 2) = o := ⟨_, rfl⟩
  obtain ⟨o3, g3⟩ : ∃ o, str (pre r 3) = o := ⟨_, rfl⟩
  obtain ⟨o4, g4⟩ : ∃ o, str (pre r 4) = o := ⟨_, rfl⟩
  obtain ⟨o5, g5⟩ : ∃ o, str (pre r 5) = o := ⟨_, rfl⟩
  obtain ⟨o6, g6⟩ : ∃ o, str (pre r 6) = o := ⟨_, rfl⟩
  obtain ⟨o7, g7⟩ : ∃ o, str (pre r 7) = o := ⟨_, rfl⟩
  obtain ⟨o8, g8⟩ : ∃ o, str (pre r 8) = o := ⟨_, rfl⟩
  obtain ⟨o9, g9⟩ : ∃ o, str (pre r 9) = o := ⟨_, rfl⟩
  obtain ⟨o10, g10⟩ : ∃ o, str (pre r 10) = o := ⟨_, rfl⟩
  obtain ⟨o11, g11⟩ : ∃ o, str (pre r 11) = o := ⟨_, rfl⟩
  obtain ⟨o12, g12⟩ : ∃ o, str (pre r 12) = o := ⟨_, rfl⟩
  obtain ⟨o13, g13⟩ : ∃ o, str (pre r 13) = o := ⟨_, rfl⟩
  obtain rfl : o13 = s := by rw [← g13, ← hs, pre_13]
  have so0 : o0.size ≤ 4096 := by rw [← g0, str_size]; exact PL.out 0 (by decide)
  have so1 : o1.size ≤ 4096 := by rw [← g1, str_size]; exact PL.out 1 (by decide)
  have so2 : o2.size ≤ 4096 := by rw [← g2, str_size]; exact PL.out 2 (by decide)
  have so3 : o3.size ≤ 4096 := by rw [← g3, str_size]; exact PL.out 3 (by decide)
  have so4 : o4.size ≤ 4096 := by rw [← g4, str_size]; exact PL.out 4 (by decide)
  have so5 : o5.size ≤ 4096 := by rw [← g5, str_size]; exact PL.out 5 (by decide)
  have so6 : o6.size ≤ 4096 := by rw [← g6, str_size]; exact PL.out 6 (by decide)
  have so7 : o7.size ≤ 4096 := by rw [← g7, str_size]; exact PL.out 7 (by decide)
  have so8 : o8.size ≤ 4096 := by rw [← g8, str_size]; exact PL.out 8 (by decide)
  have so9 : o9.size ≤ 4096 := by rw [← g9, str_size]; exact PL.out 9 (by decide)
  have so10 : o10.size ≤ 4096 := by rw [← g10, str_size]; exact PL.out 10 (by decide)
  have so11 : o11.size ≤ 4096 := by rw [← g11, str_size]; exact PL.out 11 (by decide)
  have so12 : o12.size ≤ 4096 := by rw [← g12, str_size]; exact PL.out 12 (by decide)
  have so13 : o13.size ≤ 4096 := by rw [← g13, str_size]; exact PL.out 13 (by decide)
  obtain ⟨x1, y1⟩ : ∃ o, str (pc r 1) = o := ⟨_, rfl⟩
  have sx1 : x1.size ≤ 4096 := by rw [← y1, str_size]; exact CL.out 1 (by decide)
  have H1 := Lib.hid (show o0 ++ x1 = o1 by rw [← g0, ← y1, ← g1, str_app]; rfl)
  have Y1 := Lib.hid y1
  obtain ⟨x2, y2⟩ : ∃ o, str (pc r 2) = o := ⟨_, rfl⟩
  have sx2 : x2.size ≤ 4096 := by rw [← y2, str_size]; exact CL.out 2 (by decide)
  have H2 := Lib.hid (show o1 ++ x2 = o2 by rw [← g1, ← y2, ← g2, str_app]; rfl)
  have Y2 := Lib.hid y2
  obtain ⟨x3, y3⟩ : ∃ o, str (pc r 3) = o := ⟨_, rfl⟩
  have sx3 : x3.size ≤ 4096 := by rw [← y3, str_size]; exact CL.out 3 (by decide)
  have H3 := Lib.hid (show o2 ++ x3 = o3 by rw [← g2, ← y3, ← g3, str_app]; rfl)
  have Y3 := Lib.hid y3
  obtain ⟨x4, y4⟩ : ∃ o, str (pc r 4) = o := ⟨_, rfl⟩
  have sx4 : x4.size ≤ 4096 := by rw [← y4, str_size]; exact CL.out 4 (by decide)
  have H4 := Lib.hid (show o3 ++ x4 = o4 by rw [← g3, ← y4, ← g4, str_app]; rfl)
  have Y4 := Lib.hid y4
  obtain ⟨x5, y5⟩ : ∃ o, str (pc r 5) = o := ⟨_, rfl⟩
  have sx5 : x5.size ≤ 4096 := by rw [← y5, str_size]; exact CL.out 5 (by decide)
  have H5 := Lib.hid (show o4 ++ x5 = o5 by rw [← g4, ← y5, ← g5, str_app]; rfl)
  have Y5 := Lib.hid y5
  obtain ⟨x6, y6⟩ : ∃ o, str (pc r 6) = o := ⟨_, rfl⟩
  have sx6 : x6.size ≤ 4096 := by rw [← y6, str_size]; exact CL.out 6 (by decide)
  have H6 := Lib.hid (show o5 ++ x6 = o6 by rw [← g5, ← y6, ← g6, str_app]; rfl)
  have Y6 := Lib.hid y6
  obtain ⟨x7, y7⟩ : ∃ o, str (pc r 7) = o := ⟨_, rfl⟩
  have sx7 : x7.size ≤ 4096 := by rw [← y7, str_size]; exact CL.out 7 (by decide)
  have H7 := Lib.hid (show o6 ++ x7 = o7 by rw [← g6, ← y7, ← g7, str_app]; rfl)
  have Y7 := Lib.hid y7
  obtain ⟨x8, y8⟩ : ∃ o, str (pc r 8) = o := ⟨_, rfl⟩
  have sx8 : x8.size ≤ 4096 := by rw [← y8, str_size]; exact CL.out 8 (by decide)
  have H8 := Lib.hid (show o7 ++ x8 = o8 by rw [← g7, ← y8, ← g8, str_app]; rfl)
  have Y8 := Lib.hid y8
  obtain ⟨x9, y9⟩ : ∃ o, str (pc r 9) = o := ⟨_, rfl⟩
  have sx9 : x9.size ≤ 4096 := by rw [← y9, str_size]; exact CL.out 9 (by decide)
  have H9 := Lib.hid (show o8 ++ x9 = o9 by rw [← g8, ← y9, ← g9, str_app]; rfl)
  have Y9 := Lib.hid y9
  obtain ⟨x10, y10⟩ : ∃ o, str (pc r 10) = o := ⟨_, rfl⟩
  have sx10 : x10.size ≤ 4096 := by rw [← y10, str_size]; exact CL.out 10 (by decide)
  have H10 := Lib.hid (show o9 ++ x10 = o10 by rw [← g9, ← y10, ← g10, str_app]; rfl)
  have Y10 := Lib.hid y10
  obtain ⟨x11, y11⟩ : ∃ o, str (pc r 11) = o := ⟨_, rfl⟩
  have sx11 : x11.size ≤ 4096 := by rw [← y11, str_size]; exact CL.out 11 (by decide)
  have H11 := Lib.hid (show o10 ++ x11 = o11 by rw [← g10, ← y11, ← g11, str_app]; rfl)
  have Y11 := Lib.hid y11
  obtain ⟨x12, y12⟩ : ∃ o, str (pc r 12) = o := ⟨_, rfl⟩
  have sx12 : x12.size ≤ 4096 := by rw [← y12, str_size]; exact CL.out 12 (by decide)
  have H12 := Lib.hid (show o11 ++ x12 = o12 by rw [← g11, ← y12, ← g12, str_app]; rfl)
  have Y12 := Lib.hid y12
  obtain ⟨x13, y13⟩ : ∃ o, str (pc r 13) = o := ⟨_, rfl⟩
  have sx13 : x13.size ≤ 4096 := by rw [← y13, str_size]; exact CL.out 13 (by decide)
  have H13 := Lib.hid (show o12 ++ x13 = o13 by rw [← g12, ← y13, ← g13, str_app]; rfl)
  have Y13 := Lib.hid y13
  have G0 := Lib.hid (show str (partT (0, freqW r.freq.toNat)) = o0 from g0)
  clear hs h hm T g0 g1 g2 g3 g4 g5 g6 g7 g8 g9 g10 g11 g12 y1 y2 y3 y4 y5 y6 y7 y8 y9 y10 y11 y12 y13 PL CL
  obtain ⟨a6, n6, c6, a7, n7, c7, a8, n8, c8, a9, n9, c9, a10, n10, c10, a11, n11, c11, a12, n12, c12, a13, n13, c13, a14, n14, c14⟩ := S
  obtain ⟨freq, itv, cnt, til, wkst, ends, mon, week, yday, mday, day, hour, minu, sec, pos⟩ := r
  simp only at f1 f2 i1 i2 k1 k2 wk1 wk2 l1 l2 l3 l4 l5 l6 l7 l8 l9
  obtain ⟨fk, rfl⟩ : ∃ k : Nat, freq = (k : Int) + 1 := ⟨(freq - 1).toNat, by omega⟩
  obtain ⟨wj, rfl⟩ : ∃ k : Nat, wkst = (k : Int) := ⟨wkst.toNat, by omega⟩
  have fk7 : fk < 7 := by omega
  have wj7 : wj < 7 := by omega
  have M4 := Lib.hid (inB_of l1)
  have N4 : n6 ≤ 60 := by have a := RA.out.h6.1; have b := M4.out.2.1; simp only at a; omega
  have M5 := Lib.hid (inB_of l2)
  have N5 : n7 ≤ 60 := by have a := RA.out.h7.1; have b := M5.out.2.1; simp only at a; omega
  have M6 := Lib.hid (inB_of l3)
  have N6 : n8 ≤ 60 := by have a := RA.out.h8.1; have b := M6.out.2.1; simp only at a; omega
  have M7 := Lib.hid (inB_of l4)
  have N7 : n9 ≤ 60 := by have a := RA.out.h9.1; have b := M7.out.2.1; simp only at a; omega
  have M8 := Lib.hid (dayB_of l9)
  have N8 : n10 ≤ 60 := by have a := RA.out.h10.1; have b := M8.out.2.1; simp only at a; omega
  have M9 := Lib.hid (inB_of l6)
  have N9 : n11 ≤ 60 := by have a := RA.out.h11.1; have b := M9.out.2.1; simp only at a; omega
  have M10 := Lib.hid (inB_of l7)
  have N10 : n12 ≤ 60 := by have a := RA.out.h12.1; have b := M10.out.2.1; simp only at a; omega
  have M11 := Lib.hid (inB_of l8)
  have N11 : n13 ≤ 60 := by have a := RA.out.h13.1; have b := M11.out.2.1; simp only at a; omega
  have M12 := Lib.hid (inB_of l5)
  have N12 : n14 ≤ 60 := by have a := RA.out.h14.1; have b := M12.out.2.1; simp only at a; omega
  clear l1 l2 l3 l4 l5 l6 l7 l8 l9
  obtain ⟨u0, e0⟩ : ∃ u, str (freqW (fk + 1)) = u := ⟨_, rfl⟩
  have su0 : u0.size ≤ 8 := by rw [← e0, str_size]; exact freq_len ⟨fk + 1, by omega⟩
  have Z0 := Lib.hid (fun (v : World) (h : Tabs v) => show v.cell? ⟨0, fk, none⟩ = some (.string u0) by rw [← e0]; exact h.words fk fk7)
  have P0 := Lib.hid (show (⟨#[70, 82, 69, 81, 61]⟩ : ByteArray) ++ u0 = o0 by
    rw [← G0.out, ← e0]
    have e : ((fk : Int) + 1).toNat = fk + 1 := by omega
    simp only [e]
    show str [70, 82, 69, 81, 61] ++ str _ = _
    rw [str_app]; rfl)
  clear e0 G0
  show Calls Tryz.prog 14 #[.agg #[.int .i64 ((fk : Int) + 1), .int .i64 itv, .int .i64 cnt, .int .i64 til, .int .i64 (wj : Int), .bool ends, .slice a6 n6 c6, .slice a7 n7 c7, .slice a8 n8 c8, .slice a9 n9 c9, .slice a10 n10 c10, .slice a11 n11 c11, .slice a12 n12 c12, .slice a13 n13 c13, .slice a14 n14 c14]] w _
  go_enter Tryz.func14, Tryz.ntmps14
  go_wp2_with fail
  refine (may_r _ ⟨a6, n6, c6, a7, n7, c7, a8, n8, c8, a9, n9, c9, a10, n10, c10, a11, n11, c11, a12, n12, c12, a13, n13, c13, a14, n14, c14⟩ ⟨(fk : Int) + 1, itv, cnt, til, (wj : Int), ends, mon, week, yday, mday, day, hour, minu, sec, pos⟩ true (RA.out.below (alloc_below _ _)) HM.out).mono ?_
  rintro e w1 ⟨rfl, b1⟩
  have B1 := (alloc_below w (.cells #[.int .i64 ((fk : Int) + 1), .int .i64 itv, .int .i64 cnt, .int .i64 til, .int .i64 (wj : Int), .bool ends, .slice a6 n6 c6, .slice a7 n7 c7, .slice a8 n8 c8, .slice a9 n9 c9, .slice a10 n10 c10, .slice a11 n11 c11, .slice a12 n12 c12, .slice a13 n13 c13, .slice a14 n14 c14] 25)).trans (b1.mono (by simp))
  have X1 := (Box.new w #[.int .i64 ((fk : Int) + 1), .int .i64 itv, .int .i64 cnt, .int .i64 til, .int .i64 (wj : Int), .bool ends, .slice a6 n6 c6, .slice a7 n7 c7, .slice a8 n8 c8, .slice a9 n9 c9, .slice a10 n10 c10, .slice a11 n11 c11, .slice a12 n12 c12, .slice a13 n13 c13, .slice a14 n14 c14] 25).below b1
  clear b1
  have z0 := X1.at_ 0 _ rfl
  have zw := Z0.out _ (TT.out.on B1)
  have r1 : (0 : Int) ≤ (fk : Int) := by omega
  have r2 : (fk : Int) < 7 := by omega
  have r3 : ((fk : Int)).toNat = fk := by omega
  have r4 : (0 : Int) ≤ (fk : Int) + 1 - 1 := by omega
  have r5 : (fk : Int) + 1 - 1 = (fk : Int) := by omega
  have p0 := P0.out
  have z1 := X1.at_ 1 _ rfl
  go_upto_if 18 with fail
  clear z0 zw r1 r2 r3 r4 r5 p0 P0 Z0
  go_cut [4] (fun s wx => s = .string o1 ∧ Below w1.heap.size w1 wx)
  case first =>
    by_cases hc : itv = 1
    · have t0 : ((itv : Int) != 1) = false := by rw [bne_eq_false_iff_eq]; exact hc
      have G := Lib.hid (show o0 = o1 from opt_no hc (by have a := H1.out; rw [← Y1.out] at a; exact a))
      clear hc
      go_wp2
      go_meet
      exact ⟨by rw [G.out], Below.refl _ _⟩
    · have t0 : ((itv : Int) != 1) = true := by rw [bne_iff_ne]; exact hc
      obtain ⟨v, hv⟩ : ∃ v, str (Lib.itoa itv) = v := ⟨_, rfl⟩
      have sv := itoa_size hv (by omega) (by omega)
      have p1 : (⟨#[59, 73, 78, 84, 69, 82, 86, 65, 76, 61]⟩ : ByteArray) ++ v = x1 := by
        rw [← hv, ← Y1.out]
        show str [59, 73, 78, 84, 69, 82, 86, 65, 76, 61] ++ str _ = str (if itv = 1 then [] else _)
        rw [if_neg hc, str_app]; rfl
      have p2 := H1.out
      have HV := Lib.hid hv
      have z := X1.at_ 1 _ rfl
      have TW := Lib.hid (TT.out.on B1)
      clear hc hv
      go_wp2_with fail
      refine (itoa_is _ _ v TW.out (by omega) (by omega) HV.out).mono ?_
      rintro e w2 ⟨rfl, b2⟩
      go_wp2
      go_meet
      exact ⟨rfl, b2⟩
  case rest =>
    obtain ⟨rfl, b2⟩ := hcut
    generalize wc = w2 at *
    have B2 := B1.trans (b2.mono B1.size)
    have X2 := X1.below b2
    clear b2 X1
    have z2 := X2.at_ 2 _ rfl
    go_upto_if 27 with fail
    go_cut [4] (fun s wx => s = .string o2 ∧ Below w2.heap.size w2 wx)
    case first =>
      by_cases hc : cnt = 0
      · have t0 : ((cnt : Int) != 0) = false := by rw [bne_eq_false_iff_eq]; exact hc
        have G := Lib.hid (show o1 = o2 from opt_no hc (by have a := H2.out; rw [← Y2.out] at a; exact a))
        clear hc
        go_wp2
        go_meet
        exact ⟨by rw [G.out], Below.refl _ _⟩
      · have t0 : ((cnt : Int) != 0) = true := by rw [bne_iff_ne]; exact hc
        obtain ⟨v, hv⟩ : ∃ v, str (Lib.itoa cnt) = v := ⟨_, rfl⟩
        have sv := itoa_size hv (by omega) (by omega)
        have p1 : (⟨#[59, 67, 79, 85, 78, 84, 61]⟩ : ByteArray) ++ v = x2 := by
          rw [← hv, ← Y2.out]
          show str [59, 67, 79, 85, 78, 84, 61] ++ str _ = str (if cnt = 0 then [] else _)
          rw [if_neg hc, str_app]; rfl
        have p2 := H2.out
        have HV := Lib.hid hv
        have z := X2.at_ 2 _ rfl
        have TW := Lib.hid (TT.out.on B2)
        clear hc hv
        go_wp2_with fail
        refine (itoa_is _ _ v TW.out (by omega) (by omega) HV.out).mono ?_
        rintro e w2 ⟨rfl, b2⟩
        go_wp2
        go_meet
        exact ⟨rfl, b2⟩
    case rest =>
      obtain ⟨rfl, b2⟩ := hcut
      generalize wc = w3 at *
      have B3 := B2.trans (b2.mono B2.size)
      have X3 := X2.below b2
      clear b2 X2
      have z2 := X3.at_ 5 _ rfl
      go_upto_if 35 with fail
      go_cut [4] (fun s wx => s = .string o3 ∧ Below w3.heap.size w3 wx)
      case first =>
        cases hc : ends
        · have G := Lib.hid (show o2 = o3 from opt_no2 hc (by have a := H3.out; rw [← Y3.out] at a; exact a))
          subst hc
          go_wp2
          go_meet
          exact ⟨by rw [G.out], Below.refl _ _⟩
        · obtain ⟨v, hv⟩ : ∃ v, str (St.text til) = v := ⟨_, rfl⟩
          have sv : v.size = 15 := by rw [← hv, str_size, text_len15]
          have sv2 : v.size ≤ 15 := by omega
          have p1 : (⟨#[59, 85, 78, 84, 73, 76, 61]⟩ : ByteArray) ++ v = x3 := by
            rw [← hv, ← Y3.out]
            show str [59, 85, 78, 84, 73, 76, 61] ++ str _ = str (if ends = true then _ else [])
            rw [if_pos hc, str_app]; rfl
          have p2 := H3.out
          have HV := Lib.hid hv
          have MT := Lib.hid (E3.out hc).1
          have z := X3.at_ 3 _ rfl
          subst hc
          clear sv hv
          go_wp2_with fail
          refine (text_take til MT.out v HV.out _).mono ?_
          rintro e w2 ⟨rfl, b2⟩
          go_wp2
          go_meet
          exact ⟨rfl, b2⟩
      case rest =>
        obtain ⟨rfl, b2⟩ := hcut
        generalize wc = w4 at *
        have B4 := B3.trans (b2.mono B3.size)
        have X4 := X3.below b2
        clear b2 X3
        have z := X4.at_ 6 _ rfl
        have TW := Lib.hid (TT.out.on B4)
        have p2 := H4.out
        go_wp2_with fail
        refine (partI_is _ TW.out ⟨#[66, 89, 77, 79, 78, 84, 72]⟩ a6 n6 c6 mon x4 (RA.out.h6.below B4) N4 (fun x hx => by have := M4.out.1 x hx; omega) (by decide) Y4.out).mono ?_
        rintro e w5 ⟨rfl, b2⟩
        have B5 := B4.trans (b2.mono B4.size)
        have X5 := X4.below b2
        clear b2 X4
        clear z TW
        have z := X5.at_ 7 _ rfl
        have TW := Lib.hid (TT.out.on B5)
        have p2 := H5.out
        go_wp2_with fail
        refine (partI_is _ TW.out ⟨#[66, 89, 87, 69, 69, 75, 78, 79]⟩ a7 n7 c7 week x5 (RA.out.h7.below B5) N5 (fun x hx => by have := M5.out.1 x hx; omega) (by decide) Y5.out).mono ?_
        rintro e w6 ⟨rfl, b2⟩
        have B6 := B5.trans (b2.mono B5.size)
        have X6 := X5.below b2
        clear b2 X5
        clear z TW
        have z := X6.at_ 8 _ rfl
        have TW := Lib.hid (TT.out.on B6)
        have p2 := H6.out
        go_wp2_with fail
        refine (partI_is _ TW.out ⟨#[66, 89, 89, 69, 65, 82, 68, 65, 89]⟩ a8 n8 c8 yday x6 (RA.out.h8.below B6) N6 (fun x hx => by have := M6.out.1 x hx; omega) (by decide) Y6.out).mono ?_
        rintro e w7 ⟨rfl, b2⟩
        have B7 := B6.trans (b2.mono B6.size)
        have X7 := X6.below b2
        clear b2 X6
        clear z TW
        have z := X7.at_ 9 _ rfl
        have TW := Lib.hid (TT.out.on B7)
        have p2 := H7.out
        go_wp2_with fail
        refine (partI_is _ TW.out ⟨#[66, 89, 77, 79, 78, 84, 72, 68, 65, 89]⟩ a9 n9 c9 mday x7 (RA.out.h9.below B7) N7 (fun x hx => by have := M7.out.1 x hx; omega) (by decide) Y7.out).mono ?_
        rintro e w8 ⟨rfl, b2⟩
        have B8 := B7.trans (b2.mono B7.size)
        have X8 := X7.below b2
        clear b2 X7
        clear z TW
        have z := X8.at_ 10 _ rfl
        have TW := Lib.hid (TT.out.on B8)
        have p2 := H8.out
        go_wp2_with fail
        refine (partD_is _ TW.out ⟨#[66, 89, 68, 65, 89]⟩ a10 n10 c10 day x8 (RA.out.h10.below B8) N8 M8.out.1 (by decide) Y8.out).mono ?_
        rintro e w9 ⟨rfl, b2⟩
        have B9 := B8.trans (b2.mono B8.size)
        have X9 := X8.below b2
        clear b2 X8
        clear z TW
        have z := X9.at_ 11 _ rfl
        have TW := Lib.hid (TT.out.on B9)
        have p2 := H9.out
        go_wp2_with fail
        refine (partI_is _ TW.out ⟨#[66, 89, 72, 79, 85, 82]⟩ a11 n11 c11 hour x9 (RA.out.h11.below B9) N9 (fun x hx => by have := M9.out.1 x hx; omega) (by decide) Y9.out).mono ?_
        rintro e w10 ⟨rfl, b2⟩
        have B10 := B9.trans (b2.mono B9.size)
        have X10 := X9.below b2
        clear b2 X9
        clear z TW
        have z := X10.at_ 12 _ rfl
        have TW := Lib.hid (TT.out.on B10)
        have p2 := H10.out
        go_wp2_with fail
        refine (partI_is _ TW.out ⟨#[66, 89, 77, 73, 78, 85, 84, 69]⟩ a12 n12 c12 minu x10 (RA.out.h12.below B10) N10 (fun x hx => by have := M10.out.1 x hx; omega) (by decide) Y10.out).mono ?_
        rintro e w11 ⟨rfl, b2⟩
        have B11 := B10.trans (b2.mono B10.size)
        have X11 := X10.below b2
        clear b2 X10
        clear z TW
        have z := X11.at_ 13 _ rfl
        have TW := Lib.hid (TT.out.on B11)
        have p2 := H11.out
        go_wp2_with fail
        refine (partI_is _ TW.out ⟨#[66, 89, 83, 69, 67, 79, 78, 68]⟩ a13 n13 c13 sec x11 (RA.out.h13.below B11) N11 (fun x hx => by have := M11.out.1 x hx; omega) (by decide) Y11.out).mono ?_
        rintro e w12 ⟨rfl, b2⟩
        have B12 := B11.trans (b2.mono B11.size)
        have X12 := X11.below b2
        clear b2 X11
        clear z TW
        have z := X12.at_ 14 _ rfl
        have TW := Lib.hid (TT.out.on B12)
        have p2 := H12.out
        go_wp2_with fail
        refine (partI_is _ TW.out ⟨#[66, 89, 83, 69, 84, 80, 79, 83]⟩ a14 n14 c14 pos x12 (RA.out.h14.below B12) N12 (fun x hx => by have := M12.out.1 x hx; omega) (by decide) Y12.out).mono ?_
        rintro e w13 ⟨rfl, b2⟩
        have B13 := B12.trans (b2.mono B12.size)
        have X13 := X12.below b2
        clear b2 X12
        clear z TW
        have z := X13.at_ 4 _ rfl
        go_upto_if 96 with fail
        clear p2
        go_cut [4] (fun s wx => s = .string o13 ∧ Below w13.heap.size w13 wx)
        case first =>
          by_cases hc : (wj : Int) = 0
          · have t0 : ((wj : Int) != 0) = false := by rw [bne_eq_false_iff_eq]; exact hc
            have G := Lib.hid (show o12 = o13 from opt_no hc (by have a := H13.out; rw [← Y13.out] at a; exact a))
            clear hc
            go_wp2
            go_meet
            exact ⟨by rw [G.out], Below.refl _ _⟩
          · have t0 : ((wj : Int) != 0) = true := by rw [bne_iff_ne]; exact hc
            obtain ⟨v, hv⟩ : ∃ v, str (wdayW wj) = v := ⟨_, rfl⟩
            have sv : v.size ≤ 2 := by rw [← hv, str_size, wdayW_two ⟨wj, wj7⟩]; exact Nat.le_refl _
            have zw : w13.cell? ⟨1, wj, none⟩ = some (.string v) := by rw [← hv]; exact (TT.out.on B13).wdays wj wj7
            have p1 : (⟨#[59, 87, 75, 83, 84, 61]⟩ : ByteArray) ++ v = x13 := by
              rw [← hv, ← Y13.out]
              show str [59, 87, 75, 83, 84, 61] ++ str _ = str (if (wj : Int) = 0 then [] else _)
              rw [if_neg hc, str_app]; rfl
            have p2 := H13.out
            have r1 : (0 : Int) ≤ (wj : Int) := by omega
            have r2 : (wj : Int) < 7 := by omega
            have r3 : ((wj : Int)).toNat = wj := by omega
            clear hc hv
            go_wp2
            go_meet
            exact ⟨rfl, Below.refl _ _⟩
        case rest =>
          obtain ⟨rfl, b2⟩ := hcut
          go_wp2
          go_ret2
          exact ⟨rfl, B13.trans (b2.mono B13.size)⟩
end Go.Proofs.YtajgagmpdhmbkaaGreatDoor.Ru
