/- The walk of vokref4.days. -/
import Derived.Test.YtajgagmpdhmbkaaGreatDoorRuRDy
set_option linter.unusedVariables false
namespace Go.Proofs.YtajgagmpdhmbkaaGreatDoor.Ru
open Go.RowKit Cv St

theorem wordV_wday (z : List UInt8) : (∀ k, wdayOf z = some k → wordV ((List.range 7).map fun k => str (wdayW k)) (str z) = (k : Int) ∧ k < 7) ∧ (wdayOf z = none → wordV ((List.range 7).map fun k => str (wdayW k)) (str z) = -1) := by
  constructor
  · intro k h
    have hk : k < 7 := by
      unfold wdayOf at h
      split at h
      · cases h
      · exact List.mem_range.1 (List.mem_of_find?_eq_some h)
    exact ⟨(wword_yes (v := str z) (by rw [list_str]; exact h)).1, hk⟩
  · intro h; exact wword_no (v := str z) (by rw [list_str]; exact h)
theorem take_key {l : List Dy} {t : Nat} (h : t < l.length) : iat (l.map keyD) t = keyD (dat l t) := by
  rw [iat_lt (by simpa using h), dat_lt h]; simp
theorem take_dat {l : List Dy} {t : Nat} (h : t < l.length) : l.take (t + 1) = l.take t ++ [dat l t] := by
  rw [dat_lt h, List.take_succ_eq_append_getElem h]
theorem key_rem {n k x : Int} (hx : x = 7 * n + k) (k0 : 0 ≤ k) (k6 : k ≤ 6) : -6 ≤ x.tmod 7 ∧ x.tmod 7 ≤ 6 ∧ (x.tmod 7 + 7).tmod 7 = k := by
  have e : x.tmod 7 = x % 7 ∨ (x.tmod 7 = x % 7 - 7 ∧ 1 ≤ x % 7) := by
    by_cases c : 0 ≤ x
    · left; exact Int.tmod_eq_emod_of_nonneg c
    · have h : x.tmod 7 = -((-x) % 7) := by
        rw [show x = -(-x) from by omega, Int.neg_tmod, Int.tmod_eq_emod_of_nonneg (by omega)]; simp
      omega
  have b : x % 7 = k := by rw [hx, Int.mul_add_emod_self_left]; exact Int.emod_eq_of_lt k0 (by omega)
  clear hx
  have b0 := Int.emod_nonneg x (show (7 : Int) ≠ 0 by decide)
  have b1 := Int.emod_lt_of_pos x (show (0 : Int) < 7 by decide)
  rw [b] at e
  rcases e with e | ⟨e, e2⟩ <;> rw [e]
  · exact ⟨by omega, by omega, by rw [Int.tmod_eq_emod_of_nonneg (by omega)]; omega⟩
  · exact ⟨by omega, by omega, by rw [show k - 7 + 7 = k from by omega, Int.tmod_eq_emod_of_nonneg k0]; omega⟩
theorem key_quo (n : Int) : (7 * n).tdiv 7 = n := Int.mul_tdiv_cancel_left _ (by decide)
theorem sortU_len2 {α : Type} (lt : α → α → Bool) (l : List α) : (sortU lt l).length ≤ l.length := by
  have : ∀ (l a : List α), (l.foldl (fun a x => ins lt x a) a).length ≤ a.length + l.length := by
    intro l
    induction l with
    | nil => intro a; simp
    | cons x l ih =>
      intro a
      have h1 := ih (ins lt x a)
      have h2 := len_ins (lt := lt) (x := x) (l := a)
      rw [List.foldl_cons, List.length_cons]; omega
  simpa [sortU] using this l []
theorem OwnD.any {W w : World} {v : Value} {l : List Dy} (h : OwnD W w v l) : ∃ A c, v = .slice A l.length c ∧ DyAt w A l.length l ∧ Fresh W.heap.size A := by
  by_cases h0 : l = []
  · subst h0
    rcases h.2 with ⟨rfl, e⟩ | ⟨g, cap, cur, rfl, hB, hg, hn, hm, hs, ht⟩
    · exact ⟨none, 0, rfl, DyAt.nil _ _, fun b off e => by cases e⟩
    · exact ⟨_, cap, rfl, ⟨rfl, fun z => absurd z (by simp)⟩, fun b off e => by cases e; exact ⟨hB, rfl⟩⟩
  · obtain ⟨g, cp, rfl, hB, hg, hn, -, hR⟩ := h.row h0
    exact ⟨_, cp, rfl, hR.at_ hg (by simp) (fun j hj => by rw [getElem!_pos l.toArray j (by simpa using hj), dat_lt hj]; simp), fun b off e => by cases e; exact ⟨hB, rfl⟩⟩
set_option maxRecDepth 100000 in
set_option maxHeartbeats 8000000 in
/-- vokref4.days -/
theorem rdays_any (s : ByteArray) (w : World) (hs : s.size ≤ 100000) : Calls Tryz.prog 100 #[.string s] w (ListD (daysOf s.data.toList) w) := by
  obtain ⟨ps, hps⟩ : ∃ ps, cutAt 44 s.data.toList = ps := ⟨_, rfl⟩
  have C1 := Lib.hid (fun h => daysOf_long (l := s.data.toList) h)
  have C2 := Lib.hid (fun h => daysOf_no (l := s.data.toList) h)
  have C3 := Lib.hid (fun (acc : List Dy) h g => daysOf_some (l := s.data.toList) (acc := acc) h g)
  have PL := Lib.hid (fun (p : List UInt8) (hp : p ∈ cutAt 44 s.data.toList) => show (str p).size ≤ 1000000 by
    rw [str_size]; have := cut_len 44 s.data.toList p hp; rw [size_list] at this; omega)
  rw [hps] at C1 C2 C3 PL
  have HP := Lib.hid hps
  clear hps
  generalize daysOf s.data.toList = o at *
  go_enter Tryz.func100, Tryz.ntmps100
  go_wp2_with fail
  refine (rsplit_any _ s 44 44 rfl hs).mono ?_
  rintro e w1 ⟨v, rfl, hv, b1⟩
  rw [HP.out] at hv
  obtain ⟨A, cap, rfl, hA, -, -⟩ := hv.at_
  clear hv
  have HK := Lib.hid (show (ps.map str).length = ps.length by simp)
  obtain ⟨k, hk⟩ : ∃ k, (ps.map str).length = k := ⟨_, rfl⟩
  rw [hk] at hA HK ⊢
  have HS := Lib.hid hA
  clear hA hk
  by_cases h60 : k ≤ 60
  rotate_left
  · have K1 := Lib.hid (C1.out (show 60 < ps.length by rw [← HK.out]; omega))
    have u1 : decide ((60 : Int) < (k : Int)) = true := decide_eq_true (by omega)
    have u2 : decide (60 < k) = true := decide_eq_true (by omega)
    clear h60
    go_wp2
    go_ret2
    exact ⟨b1, .inl ⟨K1.out, rfl⟩⟩
  have K1 := Lib.hid (show ps.length ≤ 60 by rw [← HK.out]; exact h60)
  have u1 : decide ((60 : Int) < (k : Int)) = false := decide_eq_false (by omega)
  have u2 : decide (60 < k) = false := decide_eq_false (by omega)
  go_wp2
  go_loopw [5, 6] (fun ov i wr => ∃ (v : Value) (t : Nat) (acc : List Dy), t ≤ k ∧ v = ov ∧ i = .int .i64 t ∧ OwnI w1 wr v (acc.map keyD) ∧ Hid (allSome dayOf (ps.take t) = some acc) ∧ Hid (∀ d ∈ acc, DOK d) ∧ acc.length ≤ 1000 ∧ Below w1.heap.size w1 wr) (fun _ i _ => k - (intOf i).toNat)
  case atStart => exact ⟨_, 0, [], Nat.zero_le _, rfl, rfl, OwnI.nil _ _, Lib.hid rfl, Lib.hid (fun d hd => by cases hd), by simp, Below.refl _ _⟩
  case round =>
    obtain ⟨wo, rfl⟩ : ∃ wo : World, wo = wr := ⟨_, rfl⟩
    obtain ⟨v0, t, acc, ht, rfl, rfl, ov, D, OK, hl, hB⟩ := hrel
    have OV := Lib.hid ov
    clear ov
    by_cases hlt : t < k
    · obtain ⟨b, off, rfl, hb, hcc⟩ := HS.out.2 (by omega)
      have c0 := hcc t hlt
      rw [sat_map (by rw [← HK.out]; exact hlt)] at c0
      replace c0 := (hB.cell (p := ⟨b, _, none⟩) hb).trans c0
      have hbo := Nat.lt_of_lt_of_le hb hB.size
      have TP := Lib.hid (take_pat (ps := ps) (t := t) (by rw [← HK.out]; exact hlt))
      have MM := Lib.hid (show pat ps t ∈ ps by rw [pat_lt (by rw [← HK.out]; exact hlt)]; exact List.getElem_mem _)
      have SZ := PL.out _ MM.out
      clear hcc
      obtain ⟨zl, hzl⟩ : ∃ z, pat ps t = z := ⟨_, rfl⟩
      rw [hzl] at c0 SZ
      have HZ := Lib.hid hzl
      clear hzl
      have NONE := Lib.hid (fun (h : dayOf zl = none) => show o = none from C2.out (allSome_none MM.out (by rw [HZ.out]; exact h)))
      have SOME := Lib.hid (fun (d : Dy) (h : dayOf zl = some d) => show allSome dayOf (ps.take (t + 1)) = some (acc ++ [d]) by rw [TP.out, HZ.out]; exact allSome_snoc D.out h)
      have CASES := Lib.hid (dayOf_cases zl)
      have WV := Lib.hid (wordV_wday (zl.drop (zl.length - 2)))
      obtain ⟨z, hz⟩ : ∃ z, str zl = z := ⟨_, rfl⟩
      have ZS := Lib.hid (show z.size = zl.length by rw [← hz, str_size])
      have ZD := Lib.hid (show z.extract (zl.length - 2) z.size = str (zl.drop (zl.length - 2)) by rw [← str_list (z.extract (zl.length - 2) z.size), drop_ext, ← hz, list_str])
      have ZT := Lib.hid (show 2 ≤ zl.length → (z.extract 0 (zl.length - 2)).data.toList = zl.take (zl.length - 2) by intro h; rw [take_ext _ _ (by rw [← hz, str_size]; omega), ← hz, list_str])
      rw [hz] at c0 SZ
      clear hz
      obtain ⟨n, hn⟩ : ∃ n, zl.length = n := ⟨_, rfl⟩
      rw [hn] at ZS ZD ZT WV
      have CASES := Lib.hid (by have := CASES.out; rw [hn] at this; exact this)
      clear hn
      have zs := ZS.out
      have i4 : IntKind.i64.wrap ((t : Int) + 1) = (t : Int) + 1 := IntWalk.i64_in _ (by omega)
      by_cases h2 : n < 2
      · have t0 : decide ((z.size : Int) < 2) = true := decide_eq_true (by omega)
        have t9 : decide (z.size < 2) = true := decide_eq_true (by omega)
        have G := Lib.hid (NONE.out (by
          rcases CASES.out with ⟨-, e⟩ | ⟨a, -⟩ | ⟨j, -, a, -⟩ | ⟨j, a, -⟩ | ⟨j, a, -⟩ | ⟨j, m, a, -⟩
          · exact e
          all_goals omega))
        clear zs
        go_wp2
        go_ret2
        exact ⟨b1.trans (hB.mono b1.size), .inl ⟨G.out, rfl⟩⟩
      · have t0 : decide ((z.size : Int) < 2) = false := decide_eq_false (by omega)
        have t9 : decide (z.size < 2) = false := decide_eq_false (by omega)
        have i5 : IntKind.i64.wrap ((z.size : Int) - 2) = (z.size : Int) - 2 := IntWalk.i64_in _ (by omega)
        have i6 : ((z.size : Int) - 2).toNat = n - 2 := by omega
        have i7 : (z.size : Int) - 2 = ((n - 2 : Nat) : Int) := by omega
        obtain ⟨p, hp⟩ : ∃ p, wordV ((List.range 7).map fun k => str (wdayW k)) (str (zl.drop (n - 2))) = p := ⟨_, rfl⟩
        have WP := Lib.hid hp
        clear hp
        go_upto_region 11 with fail
        refine wp_region_late (fun _ => false) (fun w' => w'.cell? ⟨b, off + t, none⟩ = some (.string z)) (by kernel_rfl) ?_
        have hS : wo.drew.cell? ⟨b, off + t, none⟩ = some (.string z) := c0
        have sx := ZD.out
        rw [zs] at sx
        have j1 : (0 : Int) ≤ (n : Int) - 2 := by omega
        have j2 : ((n : Int) - 2).toNat = n - 2 := by omega
        have j3 : (n : Int) - 2 ≤ (n : Int) := by omega
        refine Late.take 1 (.slice (some ⟨b, off, none⟩) k cap) rfl (by kernel_rfl) (by kernel_rfl) (by kernel_rfl) (by kernel_rfl) (fun _ _ _ h => h) (.inl ⟨rfl, fun w' hs => ?_⟩) hS ?_
        · go_simp
        refine Late.take 2 (.int .i64 t) rfl (by kernel_rfl) (by kernel_rfl) (by kernel_rfl) (by kernel_rfl) (fun _ _ _ h => h) (.inl ⟨rfl, fun w' hs => ?_⟩) hS ?_
        · go_simp
        refine Late.take 3 (.pointer (some ⟨b, off + t, none⟩)) rfl (by kernel_rfl) (by kernel_rfl) (by kernel_rfl) (by kernel_rfl) (fun _ _ _ h => h) (.inl ⟨rfl, fun w' hs => ?_⟩) hS ?_
        · go_simp
        refine Late.take 4 (.string z) rfl (by kernel_rfl) (by kernel_rfl) (by kernel_rfl) (by kernel_rfl) (fun _ _ _ h => h) (.inl ⟨rfl, fun w' hs => ?_⟩) hS ?_
        · go_simp
        refine Late.take 5 (.int .i64 ((n : Int) - 2)) rfl (by kernel_rfl) (by kernel_rfl) (by kernel_rfl) (by kernel_rfl) (fun _ _ _ h => h) (.inl ⟨rfl, fun w' hs => ?_⟩) hS ?_
        · go_simp
        refine Late.take 6 (.string (str (zl.drop (n - 2)))) rfl (by kernel_rfl) (by kernel_rfl) (by kernel_rfl) (by kernel_rfl) (fun _ _ _ h => h) (.inl ⟨rfl, fun w' hs => ?_⟩) hS ?_
        · go_simp
        refine Late.one 0 rfl (by kernel_rfl) rfl ?_
        go_simp
        refine (wdays_is _).mono ?_
        rintro e x1 ⟨g, rfl, hg, hc, y1⟩
        refine ⟨(y1.cell (p := ⟨b, _, none⟩) hbo).trans hS, ?_⟩
        have SS := Lib.hid (words_at (f := wdayW) hg hc)
        clear hg hc
        refine Late.one 7 rfl (by kernel_rfl) rfl ?_
        go_simp
        refine (word_is _ (some ⟨g, 0, none⟩) 7 7 _ (str (zl.drop (n - 2))) SS.out (by decide) p WP.out).mono ?_
        rintro e x2 ⟨rfl, y2⟩
        have y3 : Below wo.heap.size wo x2 := ((Below.refl _ _).drew).trans (y1.trans (y2.mono y1.size))
        have c1 : x2.cell? ⟨b, off + t, none⟩ = some (.string z) := (y3.cell (p := ⟨b, _, none⟩) hbo).trans c0
        refine ⟨c1, ?_⟩
        refine Late.one 8 rfl (by kernel_rfl) rfl ?_
        go_simp
        refine Late.one 9 rfl (by kernel_rfl) rfl ?_
        go_simp
        refine Late.one 10 rfl (by kernel_rfl) rfl ?_
        go_simp
        refine Late.done (by kernel_rfl) ?_
        have hB2 := hB.trans (y3.mono hB.size)
        have OV2 := Lib.hid (OV.out.on y3)
        clear y1 y2 y3 c0 hB OV SS
        have WV2 := Lib.hid (by have := WV.out; rw [WP.out] at this; exact this)
        by_cases n2 : n = 2
        · have f1 : decide ((0 : Int) < (n : Int) - 2) = false := decide_eq_false (by omega)
          have f2 : decide (2 < n) = false := decide_eq_false (by omega)
          have f3 : decide ((2 : Int) < (n : Int)) = false := decide_eq_false (by omega)
          have hB3 := hB2
          have OV3 := OV2
          have CS := CASES.out
          clear n2
          rcases CS with ⟨a, -⟩ | ⟨-, wd, dy⟩ | ⟨j, wd, a, dy⟩ | ⟨j, a, -⟩ | ⟨j, a, -⟩ | ⟨j, m, a, -⟩
          · exact absurd a h2
          · obtain rfl := WV2.out.2 wd
            clear wd
            have G := Lib.hid (NONE.out dy)
            clear dy
            go_wp2
            go_ret2
            exact ⟨b1.trans (hB3.mono b1.size), .inl ⟨G.out, rfl⟩⟩
          · obtain ⟨pj, j7⟩ := WV2.out.1 j wd
            rw [← pj] at dy
            have p0 : 0 ≤ p := by omega
            have p6 : p ≤ 6 := by omega
            have DK := Lib.hid (dayOf_ok dy)
            clear pj j7 wd a WV2 WP WV
            have g1 : decide (p < 0) = false := decide_eq_false (by omega)
            have g2 : wrap64 p = p := IntWalk.wrap64_in _ (by omega)
            have Y := Lib.hid (SOME.out ⟨0, p⟩ dy)
            clear dy
            go_wp2_with (at_builtin; refine append_num rfl _ _ rfl v0 (acc.map keyD) rfl OV3.out hB3 p 3 1 rfl (by simp; omega) ?_)
            intro v5 w5 ov5 hB5
            have OV5 := Lib.hid (show OwnI w1 w5 v5 ((acc ++ [(⟨0, p⟩ : Dy)]).map keyD) by rw [List.map_append, List.map_cons, List.map_nil, show keyD ⟨0, p⟩ = p from by show 7 * 0 + p = p; omega]; exact ov5)
            clear ov5
            go_wp2
            go_roundw
            case rel => exact ⟨_, t + 1, acc ++ [⟨0, p⟩], by omega, rfl, by go_num, OV5.out, Y, Lib.hid (fun y hy => by
              rcases List.mem_append.1 hy with hy | hy
              · exact OK.out y hy
              · rw [List.mem_singleton.1 hy]; exact DK.out), by
              have := allSome_len Y.out
              rw [this, List.length_take]; have := K1.out; omega, hB5⟩
            case measure => simp [intOf]; omega
          all_goals exact absurd a (by simpa using f2)
        · have f1 : decide ((0 : Int) < (n : Int) - 2) = true := decide_eq_true (by omega)
          have f2 : decide (2 < n) = true := decide_eq_true (by omega)
          have f3 : decide ((2 : Int) < (n : Int)) = true := decide_eq_true (by omega)
          have SZ2 := Lib.hid (show (z.extract 0 (n - 2)).size ≤ 1000000 by rw [ByteArray.size_extract]; omega)
          have ZT2 := Lib.hid (ZT.out (by omega))
          clear n2
          go_wp2_with fail
          refine (number_is _ (z.extract 0 (n - 2)) SZ2.out).mono ?_
          rintro e x3 ⟨⟨m, ok, rfl, na, nb, m1, m2⟩, y4⟩
          rw [ZT2.out] at na nb
          have NA := Lib.hid na
          have NB := Lib.hid nb
          have hB3 := hB2.trans (y4.mono hB2.size)
          have OV3 := Lib.hid (OV2.out.on y4)
          have CS := CASES.out
          clear na nb hB2 OV2 y4
          rcases CS with ⟨a, -⟩ | ⟨-, wd, dy⟩ | ⟨j, wd, a, dy⟩ | ⟨j, a, wd, nn, dy⟩ | ⟨j, a, wd, nn, dy⟩ | ⟨j, m', a, wd, nn, m0, dy⟩
          · exact absurd a h2
          · obtain rfl := WV2.out.2 wd
            clear wd
            have G := Lib.hid (NONE.out dy)
            clear dy
            go_wp2
            go_ret2
            exact ⟨b1.trans (hB3.mono b1.size), .inl ⟨G.out, rfl⟩⟩
          · exact absurd f2 (by simp [a])
          · obtain ⟨pj, j7⟩ := WV2.out.1 j wd
            subst pj
            have g1 : decide ((j : Int) < 0) = false := decide_eq_false (by omega)
            obtain rfl : ok = false := by
              cases ok
              · rfl
              · have := NA.out rfl; rw [nn] at this; cases this
            clear wd nn a
            have G := Lib.hid (NONE.out dy)
            clear dy
            go_wp2
            go_ret2
            exact ⟨b1.trans (hB3.mono b1.size), .inl ⟨G.out, rfl⟩⟩
          · obtain ⟨pj, j7⟩ := WV2.out.1 j wd
            subst pj
            have g1 : decide ((j : Int) < 0) = false := decide_eq_false (by omega)
            obtain rfl : ok = true := by
              cases ok
              · have := NB.out rfl; rw [nn] at this; cases this
              · rfl
            obtain rfl : m = 0 := by
              have := NA.out rfl; rw [nn] at this; injection this with this; exact this.symm
            clear wd nn a
            have G := Lib.hid (NONE.out dy)
            clear dy
            go_wp2
            go_ret2
            exact ⟨b1.trans (hB3.mono b1.size), .inl ⟨G.out, rfl⟩⟩
          · obtain ⟨pj, j7⟩ := WV2.out.1 j wd
            have DK := Lib.hid (dayOf_ok dy)
            subst pj
            have g1 : decide ((j : Int) < 0) = false := decide_eq_false (by omega)
            obtain rfl : ok = true := by
              cases ok
              · have := NB.out rfl; rw [nn] at this; cases this
              · rfl
            obtain rfl : m = m' := by
              have := NA.out rfl; rw [nn] at this; injection this with this; exact this.symm
            have me : ((m : Int) == 0) = false := by rw [beq_eq_false_iff_ne]; exact m0
            have mb := DK.out.2
            have mb1 : -999999999 ≤ m := mb.1
            have mb2 : m ≤ 999999999 := mb.2
            clear wd nn a mb
            have g2 : wrap64 (7 * m) = 7 * m := IntWalk.wrap64_in _ (by omega)
            have g3 : IntKind.i64.wrap (7 * m) = 7 * m := IntWalk.i64_in _ (by omega)
            have g4 : wrap64 (7 * m + (j : Int)) = 7 * m + (j : Int) := IntWalk.wrap64_in _ (by omega)
            have g5 : IntKind.i64.wrap (7 * m + (j : Int)) = 7 * m + (j : Int) := IntWalk.i64_in _ (by omega)
            have Y := Lib.hid (SOME.out ⟨m, (j : Int)⟩ dy)
            clear dy
            go_wp2_with (at_builtin; refine append_num rfl _ _ rfl v0 (acc.map keyD) rfl OV3.out hB3 (7 * m + (j : Int)) 3 1 rfl (by simp; omega) ?_)
            intro v5 w5 ov5 hB5
            have OV5 := Lib.hid (show OwnI w1 w5 v5 ((acc ++ [(⟨m, (j : Int)⟩ : Dy)]).map keyD) by rw [List.map_append]; exact ov5)
            clear ov5
            go_wp2
            go_roundw
            case rel => exact ⟨_, t + 1, acc ++ [⟨m, (j : Int)⟩], by omega, rfl, by go_num, OV5.out, Y, Lib.hid (fun y hy => by
              rcases List.mem_append.1 hy with hy | hy
              · exact OK.out y hy
              · rw [List.mem_singleton.1 hy]; exact DK.out), by
              have := allSome_len Y.out
              rw [this, List.length_take]; have := K1.out; omega, hB5⟩
            case measure => simp [intOf]; omega
    · obtain rfl : k = t := by omega
      have DA := Lib.hid (show allSome dayOf ps = some acc by have := D.out; rwa [List.take_of_length_le (by rw [HK.out]; exact Nat.le_refl _)] at this)
      have G := Lib.hid (C3.out acc K1.out DA.out)
      have SK := Lib.hid (sortU_key OK.out)
      have SL := Lib.hid (sortU_len2 dltB acc)
      obtain ⟨L, hL⟩ : ∃ L, acc.map keyD = L := ⟨_, rfl⟩
      have LL := Lib.hid (show L.length ≤ 1000 by rw [← hL]; simpa using hl)
      rw [hL] at OV SK
      clear hL
      obtain ⟨A2, c2, rfl, ia, -, -⟩ := OV.out.at_
      have IA := Lib.hid ia
      clear D ia OV
      go_wp2_with fail
      refine (sorted_is _ A2 L.length c2 L IA.out LL.out).mono ?_
      rintro e w2 ⟨v2, rfl, o2, b2⟩
      rw [SK.out.1] at o2
      obtain ⟨M, hM⟩ : ∃ M, sortU dltB acc = M := ⟨_, rfl⟩
      rw [hM] at o2 SK SL G
      clear hM
      have MK := Lib.hid SK.out.2
      obtain ⟨A3, c3, rfl, i3, -, -⟩ := o2.at_
      have QL := Lib.hid (show (M.map keyD).length = M.length by simp)
      obtain ⟨q, hq⟩ : ∃ q, (M.map keyD).length = q := ⟨_, rfl⟩
      rw [hq] at i3 QL ⊢
      have q1 : q ≤ 1000 := by have := SL.out; have := QL.out; omega
      have I3 := Lib.hid i3
      have hB2 := hB.trans (b2.mono hB.size)
      clear o2 i3 hq SK
      go_wp2
      go_loopw [11, 12] (fun ov i wr => ∃ (v : Value) (t : Nat), t ≤ q ∧ v = ov ∧ i = .int .i64 t ∧ OwnD w2 wr v (M.take t) ∧ Below w2.heap.size w2 wr) (fun _ i _ => q - (intOf i).toNat)
      case atStart => exact ⟨_, 0, Nat.zero_le _, rfl, rfl, OwnD.nil _ _, Below.refl _ _⟩
      case round =>
        obtain ⟨wo, rfl⟩ : ∃ wo : World, wo = wr := ⟨_, rfl⟩
        obtain ⟨v0, t, ht, rfl, rfl, od, hB5⟩ := hrel
        by_cases hlt : t < q
        · obtain ⟨b, off, rfl, hb, hcc⟩ := I3.out.2 (by omega)
          have tm : t < M.length := by rw [← QL.out]; exact hlt
          have c0 := hcc t hlt
          rw [take_key tm] at c0
          replace c0 := (hB5.cell (p := ⟨b, _, none⟩) hb).trans c0
          clear hcc
          have TD := Lib.hid (take_dat tm)
          have dk := MK.out (dat M t) (by rw [dat_lt tm]; exact List.getElem_mem _)
          obtain ⟨⟨dn, dw⟩, hd⟩ : ∃ d, dat M t = d := ⟨_, rfl⟩
          rw [hd] at c0 TD dk
          obtain ⟨⟨d0, d6⟩, dn1, dn2⟩ := dk
          replace d0 : 0 ≤ dw := d0
          replace d6 : dw ≤ 6 := d6
          replace dn1 : -999999999 ≤ dn := dn1
          replace dn2 : dn ≤ 999999999 := dn2
          obtain ⟨x, hx⟩ : ∃ x, keyD ⟨dn, dw⟩ = x := ⟨_, rfl⟩
          have ex : x = 7 * dn + dw := hx.symm
          rw [hx] at c0
          obtain ⟨k1, k2, k3⟩ := key_rem ex d0 d6
          have k4 : (x - dw).tdiv 7 = dn := by rw [show x - dw = 7 * dn from by omega]; exact key_quo dn
          have e1 : IntKind.i64.wrap (x.tmod 7) = x.tmod 7 := IntWalk.i64_in _ (by omega)
          have e2 : IntKind.i64.wrap (x.tmod 7 + 7) = x.tmod 7 + 7 := IntWalk.i64_in _ (by omega)
          have e3 : IntKind.i64.wrap dw = dw := IntWalk.i64_in _ (by omega)
          have e4 : IntKind.i64.wrap (x - dw) = x - dw := IntWalk.i64_in _ (by omega)
          have e5 : IntKind.i64.wrap dn = dn := IntWalk.i64_in _ (by omega)
          have e6 : IntKind.i64.wrap ((t : Int) + 1) = (t : Int) + 1 := IntWalk.i64_in _ (by omega)
          have tq : decide ((t : Int) < (q : Int)) = true := decide_eq_true (by omega)
          clear hd hx ex k1 k2
          have od2 := Lib.hid (od.on (alloc_below wo (.cells #[.int .i64 dn, .int .i64 dw] 47)))
          have tl : (M.take t).length ≤ 1000000 := by rw [List.length_take]; omega
          have TL := Lib.hid tl
          have OD := Lib.hid od
          clear od tl
          go_wp2_with (at_builtin; refine append_day rfl _ _ rfl v0 (M.take t) rfl OD.out hB5 ⟨dn, dw⟩ 47 1 rfl TL.out ?_)
          intro v5 w5 ov5 hB6
          have OV5 := Lib.hid (show OwnD w2 w5 v5 (M.take (t + 1)) by rw [TD.out]; exact ov5)
          clear ov5
          go_wp2
          go_roundw
          case rel => exact ⟨_, t + 1, by omega, rfl, by go_num, OV5.out, hB6⟩
          case measure => simp [intOf]; omega
        · obtain rfl : q = t := by omega
          rw [List.take_of_length_le (by rw [QL.out]; exact Nat.le_refl _)] at od
          obtain ⟨A5, c5, rfl, da, df⟩ := od.any
          have DA := Lib.hid da
          have DF := Lib.hid df
          clear da df od
          have hB7 := hB2.trans (hB5.mono hB2.size)
          go_wp2
          go_ret2
          exact ⟨b1.trans (hB7.mono b1.size), .inr ⟨_, A5, c5, G.out, rfl, DA.out, DF.out.mono (by have := b1.size; have := hB2.size; omega)⟩⟩
theorem rdays_is (s : ByteArray) (w : World) (hs : s.size ≤ 100000) (o : Option (List Dy)) (ho : daysOf s.data.toList = o) : Calls Tryz.prog 100 #[.string s] w (ListD o w) := ho ▸ rdays_any s w hs
end Go.Proofs.YtajgagmpdhmbkaaGreatDoor.Ru
