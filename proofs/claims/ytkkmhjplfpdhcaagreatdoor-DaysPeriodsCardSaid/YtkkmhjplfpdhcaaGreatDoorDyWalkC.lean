/- The walks of package days' fitsDay, fitsStart and Fits. -/
import Derived.Test.YtkkmhjplfpdhcaaGreatDoorDyWalkB
import Derived.Test.YtkkmhjplfpdhcaaGreatDoorRpG
set_option linter.unusedVariables false
namespace Go.Proofs.YtkkmhjplfpdhcaaGreatDoor.Dd
open Go.RowKit Cv St Ru

def dmP (v f b : Int) (d : Dy) : Prop := d.w = v ∧ (d.n = 0 ∨ d.n = f ∨ d.n = b)
def dhTo (l : List Dy) (v f b : Int) (k : Nat) : Prop := ∀ j, j < k → ¬ dmP v f b (dat l j)
theorem dhTo.succ {l : List Dy} {v f b : Int} {k : Nat} (h : dhTo l v f b k) (e : ¬ dmP v f b (dat l k)) : dhTo l v f b (k + 1) := fun j hj => by
  by_cases c : j = k
  · subst c; exact e
  · exact h j (by omega)
theorem dhas_yes {l : List Dy} {v f b : Int} {k : Nat} (hk : k < l.length) (h : dmP v f b (dat l k)) : true = dhasB l v f b := by
  refine (decide_eq_true (.inr ⟨dat l k, ?_, h⟩)).symm
  rw [dat_lt hk]; exact List.getElem_mem hk
theorem dhas_no {l : List Dy} {v f b : Int} (h0 : l ≠ []) (h : dhTo l v f b l.length) : false = dhasB l v f b := by
  refine (decide_eq_false ?_).symm
  rintro (g | ⟨d, g, hd⟩)
  · exact h0 g
  · obtain ⟨j, hj, rfl⟩ := List.getElem_of_mem g
    exact h j hj (by rw [dat_lt hj]; exact hd)
theorem dpl_bd (r : Ru) (d : Int) : 1 ≤ dpl r d ∧ dpl r d ≤ dln r d ∧ dln r d ≤ 366 := by
  have a := dom_len d; have b := yd_bd d; have c := ylen_bd (yr d); have e := len_bd (yr d) (Cv.mon d)
  unfold dpl dln
  split <;> omega
theorem neg7 (x : Int) : (-x).tdiv 7 = -(x.tdiv 7) := Int.neg_tdiv x 7

set_option maxRecDepth 100000 in
set_option maxHeartbeats 8000000 in
/-- days.fitsDay -/
theorem fitsDay_any (w : World) (S : RS) (r : Ru) (d : Int) (h : RuAt w S r) :
    Calls Tryz.prog 56 #[S.val r, .agg (dcells d)] w fun e w' => e = .returned (.bool (dayFB r d)) ∧ Below w.heap.size w w' := by
  obtain ⟨x, hx⟩ : ∃ x, dayFB r d = x := ⟨_, rfl⟩
  rw [hx]
  have H10 := Lib.hid h.h10
  have H6 := Lib.hid h.h6
  have L10 := h.l10
  have L6 := h.l6
  clear h
  have pb := dpl_bd r d
  have PD := Lib.hid (show (if r.freq = 1 ∧ r.mon = [] then yd d else dom d) = dpl r d from rfl)
  have LD := Lib.hid (show (if r.freq = 1 ∧ r.mon = [] then ylen (yr d) else len (yr d) (Cv.mon d)) = dln r d from rfl)
  unfold dayFB at hx
  generalize dpl r d = p at *
  generalize dln r d = l at *
  have HX := Lib.hid hx
  clear hx
  have n1 : (-(l - p)).tdiv 7 = -((l - p) / 7) := by rw [neg7, Int.tdiv_eq_ediv_of_nonneg (by omega)]
  obtain ⟨a6, n6, c6, a7, n7, c7, a8, n8, c8, a9, n9, c9, a10, n10, c10, a11, n11, c11, a12, n12, c12, a13, n13, c13, a14, n14, c14⟩ := S
  obtain ⟨freq, itv, cnt, til, wkst, ends, mon, week, yday, mday, day, hour, minu, sec, pos⟩ := r
  replace L10 : n10 ≤ 140737488355328 := L10
  replace L6 : n6 ≤ 140737488355328 := L6
  have E6 := Lib.hid (show n6 = mon.length from H6.out.1)
  show Calls Tryz.prog 56 #[.agg #[.int .i64 freq, .int .i64 itv, .int .i64 cnt, .int .i64 til, .int .i64 wkst, .bool ends, .slice a6 n6 c6, .slice a7 n7 c7, .slice a8 n8 c8, .slice a9 n9 c9, .slice a10 n10 c10, .slice a11 n11 c11, .slice a12 n12 c12, .slice a13 n13 c13, .slice a14 n14 c14], .agg #[.int .i64 (yr d), .int .i64 (Cv.mon d), .int .i64 (dom d), .int .i64 (yd d), .int .i64 (wd d)]] w _
  go_enter Tryz.func56, Tryz.ntmps56
  go_upto_region 1 with fail
  have B0 := two_belowB w (.cells #[.int .i64 freq, .int .i64 itv, .int .i64 cnt, .int .i64 til, .int .i64 wkst, .bool ends, .slice a6 n6 c6, .slice a7 n7 c7, .slice a8 n8 c8, .slice a9 n9 c9, .slice a10 n10 c10, .slice a11 n11 c11, .slice a12 n12 c12, .slice a13 n13 c13, .slice a14 n14 c14] 25) (.cells #[.int .i64 (yr d), .int .i64 (Cv.mon d), .int .i64 (dom d), .int .i64 (yd d), .int .i64 (wd d)] 65)
  have XR0 := two_boxA w #[.int .i64 freq, .int .i64 itv, .int .i64 cnt, .int .i64 til, .int .i64 wkst, .bool ends, .slice a6 n6 c6, .slice a7 n7 c7, .slice a8 n8 c8, .slice a9 n9 c9, .slice a10 n10 c10, .slice a11 n11 c11, .slice a12 n12 c12, .slice a13 n13 c13, .slice a14 n14 c14] #[.int .i64 (yr d), .int .i64 (Cv.mon d), .int .i64 (dom d), .int .i64 (yd d), .int .i64 (wd d)] 25 65
  have XD0 := two_boxB w #[.int .i64 freq, .int .i64 itv, .int .i64 cnt, .int .i64 til, .int .i64 wkst, .bool ends, .slice a6 n6 c6, .slice a7 n7 c7, .slice a8 n8 c8, .slice a9 n9 c9, .slice a10 n10 c10, .slice a11 n11 c11, .slice a12 n12 c12, .slice a13 n13 c13, .slice a14 n14 c14] #[.int .i64 (yr d), .int .i64 (Cv.mon d), .int .i64 (dom d), .int .i64 (yd d), .int .i64 (wd d)] 25 65
  have SR0 := two_size w (.cells #[.int .i64 freq, .int .i64 itv, .int .i64 cnt, .int .i64 til, .int .i64 wkst, .bool ends, .slice a6 n6 c6, .slice a7 n7 c7, .slice a8 n8 c8, .slice a9 n9 c9, .slice a10 n10 c10, .slice a11 n11 c11, .slice a12 n12 c12, .slice a13 n13 c13, .slice a14 n14 c14] 25) (.cells #[.int .i64 (yr d), .int .i64 (Cv.mon d), .int .i64 (dom d), .int .i64 (yd d), .int .i64 (wd d)] 65)
  generalize (w.alloc (.cells #[.int .i64 freq, .int .i64 itv, .int .i64 cnt, .int .i64 til, .int .i64 wkst, .bool ends, .slice a6 n6 c6, .slice a7 n7 c7, .slice a8 n8 c8, .slice a9 n9 c9, .slice a10 n10 c10, .slice a11 n11 c11, .slice a12 n12 c12, .slice a13 n13 c13, .slice a14 n14 c14] 25)).alloc (.cells #[.int .i64 (yr d), .int .i64 (Cv.mon d), .int .i64 (dom d), .int .i64 (yd d), .int .i64 (wd d)] 65) = w0 at *
  replace SR0 : w.heap.size + 2 ≤ w0.heap.size := by omega
  have q20 := Past.at_ (W := w0) (by omega) (show w0.cell? ⟨w.heap.size + 1, 0, none⟩ = some (.int .i64 (yr d)) from XD0.at_ 0 _ rfl)
  have q21 := Past.at_ (W := w0) (by omega) (show w0.cell? ⟨w.heap.size + 1, 1, none⟩ = some (.int .i64 (Cv.mon d)) from XD0.at_ 1 _ rfl)
  have q22 := Past.at_ (W := w0) (by omega) (show w0.cell? ⟨w.heap.size + 1, 2, none⟩ = some (.int .i64 (dom d)) from XD0.at_ 2 _ rfl)
  have p9 : Past w0 w0 := Below.refl _ _
  have hne : Nonempty (In (Past w0)) := ⟨⟨_, p9⟩⟩
  refine wp_region_class (Past w0) (by kernel_rfl) (by kernel_rfl) (Past.drew' p9) ?_
  try simp only [List.append]
  repeat (any_goals (first | go_big_quiet_step ((first | (with_reducible refine quiet_eq (length_any (yr d) (Cv.mon d) _)))) | quiet_step ((first | (with_reducible refine quiet_eq (length_any (yr d) (Cv.mon d) _))))))
  refine wpQuiet_nil ?_
  rintro w1 ⟨n9, hq⟩
  have hb : Below w0.heap.size w0 w1 := by rw [hq]; exact n9.h
  clear hne p9 hq n9
  clear q20 q21 q22
  have B1 := B0.trans (hb.mono B0.size)
  have XR1 := XR0.below hb
  have XD1 := XD0.below hb
  have SR1 : w.heap.size + 2 ≤ w1.heap.size := by have := hb.size; omega
  clear B0 XR0 XD0 SR0
  clear hb
  have z0 : w1.cell? ⟨w.heap.size, 0, none⟩ = some (.int .i64 freq) := XR1.at_ 0 _ rfl
  have z6 : w1.cell? ⟨w.heap.size, 6, none⟩ = some (.slice a6 n6 c6) := XR1.at_ 6 _ rfl
  go_upto_region 2 with fail
  go_cut [26] (fun s wx => s = .bool (decide (freq = 1 ∧ n6 = 0)) ∧ Below w1.heap.size w1 wx)
  case first =>
    by_cases a1 : freq = 1
    · have t1 : ((freq : Int) == 1) = true := by rw [beq_iff_eq]; exact a1
      by_cases a2 : n6 = 0
      · have t2 : ((n6 : Int) == 0) = true := by rw [beq_iff_eq]; omega
        have G := Lib.hid (show true = decide (freq = 1 ∧ n6 = 0) from (decide_eq_true ⟨a1, a2⟩).symm)
        clear a1 a2
        go_wp2
        go_meet
        exact ⟨by rw [← G.out], Below.refl _ _⟩
      · have t2 : ((n6 : Int) == 0) = false := by rw [beq_eq_false_iff_ne]; omega
        have G := Lib.hid (show false = decide (freq = 1 ∧ n6 = 0) from (decide_eq_false (fun g => a2 g.2)).symm)
        clear a1 a2
        go_wp2
        go_meet
        exact ⟨by rw [← G.out], Below.refl _ _⟩
    · have t1 : ((freq : Int) == 1) = false := by rw [beq_eq_false_iff_ne]; exact a1
      have G := Lib.hid (show false = decide (freq = 1 ∧ n6 = 0) from (decide_eq_false (fun g => a1 g.1)).symm)
      clear a1
      go_wp2
      go_meet
      exact ⟨by rw [← G.out], Below.refl _ _⟩
  case rest =>
    obtain ⟨rfl, b2⟩ := hcut
    generalize wc = w2 at *
    clear z0 z6
    have B2 := B1.trans (b2.mono B1.size)
    have XR2 := XR1.below b2
    have XD2 := XD1.below b2
    have SR2 : w.heap.size + 2 ≤ w2.heap.size := by have := b2.size; omega
    clear B1 XR1 XD1 SR1
    clear b2
    have PD2 := Lib.hid (show (if decide (freq = 1 ∧ n6 = 0) = true then yd d else dom d) = p by rw [← PD.out, E6.out]; simp only [decide_eq_true_eq, List.length_eq_zero_iff])
    have LD2 := Lib.hid (show (if decide (freq = 1 ∧ n6 = 0) = true then ylen (yr d) else len (yr d) (Cv.mon d)) = l by rw [← LD.out, E6.out]; simp only [decide_eq_true_eq, List.length_eq_zero_iff])
    clear PD LD
    generalize decide (freq = 1 ∧ n6 = 0) = q at *
    go_upto_if 26 with fail
    go_cut [5, 6] (fun a b wx => a = .int .i64 p ∧ b = .int .i64 l ∧ Below w2.heap.size w2 wx)
    case first =>
      cases q
      · go_wp2
        go_meet
        exact ⟨by rw [show p = dom d from PD2.out.symm], by rw [show l = len (yr d) (Cv.mon d) from LD2.out.symm], Below.refl _ _⟩
      · have q20 := Past.at_ (W := w2) (by omega) (show w2.cell? ⟨w.heap.size + 1, 0, none⟩ = some (.int .i64 (yr d)) from XD2.at_ 0 _ rfl)
        have q23 := Past.at_ (W := w2) (by omega) (show w2.cell? ⟨w.heap.size + 1, 3, none⟩ = some (.int .i64 (yd d)) from XD2.at_ 3 _ rfl)
        go_upto_region 3 with fail
        have p9 : Past w2 w2 := Below.refl _ _
        have hne : Nonempty (In (Past w2)) := ⟨⟨_, p9⟩⟩
        refine wp_region_class (Past w2) (by kernel_rfl) (by kernel_rfl) (Past.drew' p9) ?_
        try simp only [List.append]
        repeat (any_goals (first | go_big_quiet_step ((first | (with_reducible refine quiet_eq (ylen_any (yr d) _)))) | quiet_step ((first | (with_reducible refine quiet_eq (ylen_any (yr d) _))))))
        refine wpQuiet_nil ?_
        rintro w3 ⟨n9, hq⟩
        have hb : Below w2.heap.size w2 w3 := by rw [hq]; exact n9.h
        clear hne p9 hq n9
        clear q20 q23
        go_wp2
        go_meet
        exact ⟨by rw [show p = yd d from PD2.out.symm], by rw [show l = ylen (yr d) from LD2.out.symm], hb⟩
    case rest =>
      obtain ⟨rfl, rfl, b3⟩ := hcut
      generalize wc = w3 at *
      have B3 := B2.trans (b3.mono B2.size)
      have XR3 := XR2.below b3
      have XD3 := XD2.below b3
      have SR3 : w.heap.size + 2 ≤ w3.heap.size := by have := b3.size; omega
      clear B2 XR2 XD2 SR2
      clear b3 PD2 LD2 H6 E6
      have HD := Lib.hid (H10.out.below B3)
      obtain ⟨f, hf⟩ : ∃ f, (p - 1) / 7 + 1 = f := ⟨_, rfl⟩
      obtain ⟨b, hb⟩ : ∃ b, -((l - p) / 7) - 1 = b := ⟨_, rfl⟩
      have HX2 := Lib.hid (show dhasB day (wd d) f b = x by rw [← HX.out, hf, hb])
      clear HX H10
      have D10 := Lib.hid (show n10 = day.length from HD.out.1)
      have FF := Lib.hid hf
      have BB := Lib.hid hb
      clear hf hb
      go_upto_region 4 with fail
      go_cut [7, 8] (fun u v wx => u = .int .i64 f ∧ v = .int .i64 b ∧ w3 = wx)
      case first =>
        go_wp2
        go_meet
        exact ⟨by rw [← FF.out], by rw [← BB.out], rfl⟩
      case rest =>
        obtain ⟨rfl, rfl, rfl⟩ := hcut
        clear FF BB n1 pb
        have z10 : w3.cell? ⟨w.heap.size, 10, none⟩ = some (.slice a10 n10 c10) := XR3.at_ 10 _ rfl
        go_wp2
        go_loopw [45, 10] (fun i c wr => ∃ t : Nat, t ≤ n10 ∧ i = .int .i64 t ∧ Hid (dhTo day (wd d) f b t) ∧ Below w3.heap.size w3 wr) (fun i _ _ => n10 - (intOf i).toNat)
        case atStart => exact ⟨0, Nat.zero_le _, rfl, Lib.hid (fun j hj => absurd hj (by omega)), Below.refl _ _⟩
        case round =>
          obtain ⟨t, ht, rfl, D, br⟩ := hrel
          by_cases hlt : t < n10
          · obtain ⟨bl, off, ha, hbl, hcc⟩ := (HD.out.below br).2 (show 0 < n10 by omega)
            obtain rfl : a10 = some ⟨bl, off, none⟩ := ha
            obtain ⟨c0, c1⟩ := hcc t hlt
            have Y := Lib.hid (fun (h : dmP (wd d) f b (dat day t)) => dhas_yes (by rw [← D10.out]; exact hlt) h)
            have X := Lib.hid (fun (h : ¬ dmP (wd d) f b (dat day t)) => D.out.succ h)
            have z24 : wr.cell? ⟨w.heap.size + 1, 4, none⟩ = some (.int .i64 (wd d)) := (XD3.below br).at_ 4 _ rfl
            have SRr : w.heap.size + 2 ≤ wr.heap.size := by have := br.size; omega
            clear hcc D z10
            by_cases p1 : (dat day t).w = wd d
            · have e1 : (((dat day t).w : Int) == wd d) = true := by rw [beq_iff_eq]; exact p1
              by_cases p2 : (dat day t).n = 0
              · have e2 : (((dat day t).n : Int) == 0) = true := by rw [beq_iff_eq]; exact p2
                have G := Lib.hid (show true = x by rw [← HX2.out]; exact Y.out ⟨p1, .inl p2⟩)
                clear X Y HX2 p1 p2
                generalize (dat day t).n = en at *
                generalize (dat day t).w = ew at *
                go_upto_region 8 with fail
                have bk := alloc_below wr (.cells #[.int .i64 en, .int .i64 ew] 48)
                have y0 : (wr.alloc (.cells #[.int .i64 en, .int .i64 ew] 48)).cell? ⟨wr.heap.size, 0, none⟩ = some (.int .i64 en) := by simp [go_sem]
                have y1 : (wr.alloc (.cells #[.int .i64 en, .int .i64 ew] 48)).cell? ⟨wr.heap.size, 1, none⟩ = some (.int .i64 ew) := by simp [go_sem]
                have z24 := (bk.cell (p := ⟨w.heap.size + 1, 4, none⟩) (by show w.heap.size + 1 < wr.heap.size; omega)).trans z24
                generalize wr.alloc (.cells #[.int .i64 en, .int .i64 ew] 48) = w4 at *
                go_wp2
                go_ret
                exact ⟨ret_bool G.out, B3.trans ((br.trans (bk.mono br.size)).mono B3.size)⟩
              · have e2 : (((dat day t).n : Int) == 0) = false := by rw [beq_eq_false_iff_ne]; exact p2
                by_cases p3 : (dat day t).n = f
                · have e3 : (((dat day t).n : Int) == f) = true := by rw [beq_iff_eq]; exact p3
                  have G := Lib.hid (show true = x by rw [← HX2.out]; exact Y.out ⟨p1, .inr (.inl p3)⟩)
                  clear X Y HX2 p1 p2 p3
                  generalize (dat day t).n = en at *
                  generalize (dat day t).w = ew at *
                  go_upto_region 8 with fail
                  have bk := alloc_below wr (.cells #[.int .i64 en, .int .i64 ew] 48)
                  have y0 : (wr.alloc (.cells #[.int .i64 en, .int .i64 ew] 48)).cell? ⟨wr.heap.size, 0, none⟩ = some (.int .i64 en) := by simp [go_sem]
                  have y1 : (wr.alloc (.cells #[.int .i64 en, .int .i64 ew] 48)).cell? ⟨wr.heap.size, 1, none⟩ = some (.int .i64 ew) := by simp [go_sem]
                  have z24 := (bk.cell (p := ⟨w.heap.size + 1, 4, none⟩) (by show w.heap.size + 1 < wr.heap.size; omega)).trans z24
                  generalize wr.alloc (.cells #[.int .i64 en, .int .i64 ew] 48) = w4 at *
                  go_wp2
                  go_ret
                  exact ⟨ret_bool G.out, B3.trans ((br.trans (bk.mono br.size)).mono B3.size)⟩
                · have e3 : (((dat day t).n : Int) == f) = false := by rw [beq_eq_false_iff_ne]; exact p3
                  by_cases p4 : (dat day t).n = b
                  · have e4 : (((dat day t).n : Int) == b) = true := by rw [beq_iff_eq]; exact p4
                    have G := Lib.hid (show true = x by rw [← HX2.out]; exact Y.out ⟨p1, .inr (.inr p4)⟩)
                    clear X Y HX2 p1 p2 p3 p4
                    generalize (dat day t).n = en at *
                    generalize (dat day t).w = ew at *
                    go_upto_region 8 with fail
                    have bk := alloc_below wr (.cells #[.int .i64 en, .int .i64 ew] 48)
                    have y0 : (wr.alloc (.cells #[.int .i64 en, .int .i64 ew] 48)).cell? ⟨wr.heap.size, 0, none⟩ = some (.int .i64 en) := by simp [go_sem]
                    have y1 : (wr.alloc (.cells #[.int .i64 en, .int .i64 ew] 48)).cell? ⟨wr.heap.size, 1, none⟩ = some (.int .i64 ew) := by simp [go_sem]
                    have z24 := (bk.cell (p := ⟨w.heap.size + 1, 4, none⟩) (by show w.heap.size + 1 < wr.heap.size; omega)).trans z24
                    generalize wr.alloc (.cells #[.int .i64 en, .int .i64 ew] 48) = w4 at *
                    go_wp2
                    go_ret
                    exact ⟨ret_bool G.out, B3.trans ((br.trans (bk.mono br.size)).mono B3.size)⟩
                  · have e4 : (((dat day t).n : Int) == b) = false := by rw [beq_eq_false_iff_ne]; exact p4
                    have G := Lib.hid (X.out (fun g => g.2.elim p2 (fun g => g.elim p3 p4)))
                    clear X Y HX2 p1 p2 p3 p4
                    generalize (dat day t).n = en at *
                    generalize (dat day t).w = ew at *
                    go_upto_region 8 with fail
                    have bk := alloc_below wr (.cells #[.int .i64 en, .int .i64 ew] 48)
                    have y0 : (wr.alloc (.cells #[.int .i64 en, .int .i64 ew] 48)).cell? ⟨wr.heap.size, 0, none⟩ = some (.int .i64 en) := by simp [go_sem]
                    have y1 : (wr.alloc (.cells #[.int .i64 en, .int .i64 ew] 48)).cell? ⟨wr.heap.size, 1, none⟩ = some (.int .i64 ew) := by simp [go_sem]
                    have z24 := (bk.cell (p := ⟨w.heap.size + 1, 4, none⟩) (by show w.heap.size + 1 < wr.heap.size; omega)).trans z24
                    generalize wr.alloc (.cells #[.int .i64 en, .int .i64 ew] 48) = w4 at *
                    go_wp2
                    go_roundw
                    case rel => exact ⟨t + 1, by omega, by go_num, G, br.trans (bk.mono br.size)⟩
                    case measure => simp [intOf]; omega
            · have e1 : (((dat day t).w : Int) == wd d) = false := by rw [beq_eq_false_iff_ne]; exact p1
              have G := Lib.hid (X.out (fun g => p1 g.1))
              clear X Y HX2 p1
              generalize (dat day t).n = en at *
              generalize (dat day t).w = ew at *
              go_upto_region 8 with fail
              have bk := alloc_below wr (.cells #[.int .i64 en, .int .i64 ew] 48)
              have y0 : (wr.alloc (.cells #[.int .i64 en, .int .i64 ew] 48)).cell? ⟨wr.heap.size, 0, none⟩ = some (.int .i64 en) := by simp [go_sem]
              have y1 : (wr.alloc (.cells #[.int .i64 en, .int .i64 ew] 48)).cell? ⟨wr.heap.size, 1, none⟩ = some (.int .i64 ew) := by simp [go_sem]
              have z24 := (bk.cell (p := ⟨w.heap.size + 1, 4, none⟩) (by show w.heap.size + 1 < wr.heap.size; omega)).trans z24
              generalize wr.alloc (.cells #[.int .i64 en, .int .i64 ew] 48) = w4 at *
              go_wp2
              go_roundw
              case rel => exact ⟨t + 1, by omega, by go_num, G, br.trans (bk.mono br.size)⟩
              case measure => simp [intOf]; omega
          · obtain rfl : n10 = t := by omega
            have z10 : wr.cell? ⟨w.heap.size, 10, none⟩ = some (.slice a10 n10 c10) := (XR3.below br).at_ 10 _ rfl
            by_cases h0 : n10 = 0
            · have F := Lib.hid (show true = x by
                rw [← HX2.out, show day = [] from List.length_eq_zero_iff.1 (by rw [← D10.out]; exact h0)]
                exact (decide_eq_true (.inl rfl)).symm)
              have e0 : ((n10 : Int) == 0) = true := by rw [beq_iff_eq]; omega
              clear HX2 D h0
              go_wp2
              go_ret
              exact ⟨ret_bool F.out, B3.trans (br.mono B3.size)⟩
            · have F := Lib.hid (show false = x by rw [← HX2.out]; exact dhas_no (fun e => h0 (by rw [D10.out, e]; rfl)) (by rw [← D10.out]; exact D.out))
              have e0 : ((n10 : Int) == 0) = false := by rw [beq_eq_false_iff_ne]; omega
              clear HX2 D h0
              go_wp2
              go_ret
              exact ⟨ret_bool F.out, B3.trans (br.mono B3.size)⟩
end Go.Proofs.YtkkmhjplfpdhcaaGreatDoor.Dd
