/- The walk of the document's own answer on which zones may be: vokref1.MayZone. -/
import Derived.Test.YtbinhnlajflndaaZnOwn
set_option linter.unusedVariables false
namespace Go.Proofs.Ytbinhnlajflndaa.Zn
open Go.RowKit Cv St

theorem right_is (r : Yr) (w : World) (x : Bool) (hx : yrB r = x) : Calls Try.prog 46 #[yrV r] w fun e w' => e = .returned (.bool x) ∧ Below w.heap.size w w' := hx ▸ right_any r w
theorem base_no {b f : Int} {l : List Sh} {ys : List Yr} (h : ¬ (-64800 ≤ b ∧ b ≤ 64800)) : false = mayB b l ys f := by
  have : offB b = false := decide_eq_false h
  unfold mayB; rw [this]; simp
theorem may_yrs {b f : Int} {l : List Sh} {ys : List Yr} {n : Nat} (g1 : -64800 ≤ b) (g2 : b ≤ 64800) (h64 : n ≤ 64) (e : n = l.length) (hk : okTo l n = true) : mayB b l ys f = yrsB l ys f := by
  have a : offB b = true := decide_eq_true ⟨g1, g2⟩
  unfold mayB; rw [a, ← shB_yes h64 e hk]; simp
theorem sh_no {b f : Int} {l : List Sh} {ys : List Yr} (h : false = shB l) : false = mayB b l ys f := by
  unfold mayB; rw [← h]; simp
set_option maxRecDepth 100000 in
set_option maxHeartbeats 8000000 in
theorem rMay_own (w : World) (b f : Int) (A A' : Option Addr) (n c n' c' : Nat) (l : List Sh) (ys : List Yr) (hz : ZnAt w A n A' n' l ys) :
    Calls Try.prog 18 #[.agg #[.int .i64 b, .slice A n c, .slice A' n' c', .int .i64 f]] w fun e w' => e = .returned (.bool (mayB b l ys f)) ∧ Below w.heap.size w w' := by
  obtain ⟨⟨en, hc⟩, ⟨en', hc'⟩, sn, yn⟩ := hz
  have EN := Lib.hid en
  have EN' := Lib.hid en'
  clear en en'
  have Z0 := Blk.new w 25 #[.int .i64 b, .slice A n c, .slice A' n' c', .int .i64 f]
  have ab0 := (Below.refl _ _).alloc (Nat.le_refl _) (.cells #[.int .i64 b, .slice A n c, .slice A' n' c', .int .i64 f] 25) (w := w)
  by_cases g1 : b < -64800
  · have F := Lib.hid (base_no (b := b) (f := f) (l := l) (ys := ys) (by omega))
    clear hc hc'
    go_enter Try.func18, Try.ntmps18
    go_wp2
    go_ret
    exact ⟨ret_bool F.out, ab0⟩
  · have g1' : -64800 ≤ b := by omega
    by_cases g2 : 64800 < b
    · have F := Lib.hid (base_no (b := b) (f := f) (l := l) (ys := ys) (by omega))
      clear hc hc' g1
      go_enter Try.func18, Try.ntmps18
      go_wp2
      go_ret
      exact ⟨ret_bool F.out, ab0⟩
    · have g2' : b ≤ 64800 := by omega
      by_cases g3 : 64 < n
      · have F := Lib.hid (sh_no (b := b) (f := f) (ys := ys) (shB_long g3 EN.out))
        clear hc hc' g1 g2
        go_enter Try.func18, Try.ntmps18
        go_wp2
        go_ret
        exact ⟨ret_bool F.out, ab0⟩
      · have h64 : n ≤ 64 := by omega
        clear g1 g2 g3
        go_enter Try.func18, Try.ntmps18
        go_wp2
        go_loopw [3] (fun i wr => ∃ k : Nat, k ≤ n ∧ i = .int .i64 k ∧ Hid (okTo l k = true) ∧ Below w.heap.size w wr ∧ Blk wr w.heap.size 25 #[.int .i64 b, .slice A n c, .slice A' n' c', .int .i64 f]) (fun i _ => n - (intOf i).toNat)
        case atStart => exact ⟨0, Nat.zero_le _, rfl, Lib.hid rfl, ab0, Z0⟩
        case round =>
          obtain ⟨k, hk, rfl, D, hB, Z⟩ := hrel
          have lz := Z.lt
          have z0 := Z.cell 0; have z1 := Z.cell 1; have z2 := Z.cell 2; have z3 := Z.cell 3
          simp at z0 z1 z2 z3
          by_cases hlt : k < n
          · obtain ⟨bl, off, rfl, hb, hcc⟩ := hc (by omega)
            have hbw := Nat.lt_of_lt_of_le hb hB.size
            have c0 := (hB.cell (p := ⟨bl, off + k * 2, none⟩) hb).trans (hcc k hlt).1
            have c1 := (hB.cell (p := ⟨bl, off + k * 2 + 1, none⟩) hb).trans (hcc k hlt).2
            have ax := (Below.refl _ _).alloc (Nat.le_refl _) (.cells #[.int .i64 (at_ l k).t, .int .i64 (at_ l k).o] 29) (w := wr)
            cases h1 : mayT (at_ l k).t
            · have H1 := Lib.hid h1
              have F := Lib.hid (sh_no (b := b) (f := f) (ys := ys) (okTo_no (k := k) hlt h64 EN.out (by unfold okAt; rw [h1]; simp)))
              clear h1 hcc
              go_wp2
              go_big_quiet ((go_at_call 40; exact Calls.quiet_of_same ((rmay_no _ _ H1.out).mono fun _ _ h => ⟨h.1, h.2.symm⟩)))
              go_wp2
              go_ret
              exact ⟨ret_bool F.out, (hB.trans (ax.mono hB.size)).trans (Below.drewN' _ _ _)⟩
            · have H1 := Lib.hid h1
              by_cases o1 : (at_ l k).o < -64800
              · have F := Lib.hid (sh_no (b := b) (f := f) (ys := ys) (okTo_no (k := k) hlt h64 EN.out (by unfold okAt; have : offB (at_ l k).o = false := decide_eq_false (by omega); rw [h1, this]; simp)))
                clear h1 hcc
                go_wp2
                go_big_quiet ((go_at_call 40; exact Calls.quiet_of_same ((rmay_yes _ _ H1.out).mono fun _ _ h => ⟨h.1, h.2.symm⟩)))
                go_wp2
                go_ret
                exact ⟨ret_bool F.out, (hB.trans (ax.mono hB.size)).trans (Below.drewN' _ _ _)⟩
              · have o1' : -64800 ≤ (at_ l k).o := by omega
                have dd1 : decide ((at_ l k).o < -64800) = false := decide_eq_false o1
                by_cases o2 : 64800 < (at_ l k).o
                · have F := Lib.hid (sh_no (b := b) (f := f) (ys := ys) (okTo_no (k := k) hlt h64 EN.out (by unfold okAt; have : offB (at_ l k).o = false := decide_eq_false (by omega); rw [h1, this]; simp)))
                  clear h1 hcc
                  go_wp2
                  go_big_quiet ((go_at_call 40; exact Calls.quiet_of_same ((rmay_yes _ _ H1.out).mono fun _ _ h => ⟨h.1, h.2.symm⟩)))
                  go_wp2
                  go_ret
                  exact ⟨ret_bool F.out, (hB.trans (ax.mono hB.size)).trans (Below.drewN' _ _ _)⟩
                · have o2' : (at_ l k).o ≤ 64800 := by omega
                  have dd2 : decide (64800 < (at_ l k).o) = false := decide_eq_false o2
                  have h2 : offB (at_ l k).o = true := decide_eq_true ⟨o1', o2'⟩
                  obtain ⟨t1, t2⟩ := mayT_of h1
                  clear o1 o2
                  cases k with
                  | zero =>
                    simp only [Nat.zero_mul, Nat.add_zero] at c0 c1
                    have F := Lib.hid (show okTo l (0 + 1) = true from by rw [okTo_succ, D.out]; unfold okAt; rw [h1, h2]; rfl)
                    clear h1 h2 hcc
                    go_wp2
                    go_big_quiet ((go_at_call 40; exact Calls.quiet_of_same ((rmay_yes _ _ H1.out).mono fun _ _ h => ⟨h.1, h.2.symm⟩)))
                    go_wp2
                    go_roundw
                    case rel => exact ⟨0 + 1, by omega, by go_num, F, (hB.trans (ax.mono hB.size)).trans (Below.drewN' _ _ _), Z.below (ax.trans (Below.drewN' _ _ _)) lz⟩
                    case measure => simp [intOf]; omega
                  | succ k =>
                    have h0 := okTo_at (l := l) (k := k + 1) (i := k) D.out (by omega)
                    obtain ⟨s1, s2⟩ := mayT_of h0.1
                    have d0 := (hB.cell (p := ⟨bl, off + k * 2, none⟩) hb).trans (hcc k (by omega)).1
                    by_cases h3 : (at_ l (k + 1)).t - (at_ l k).t < 200000
                    · have F := Lib.hid (sh_no (b := b) (f := f) (ys := ys) (okTo_no (k := k + 1) hlt h64 EN.out (by unfold okAt; rw [h1, h2]; simp; omega)))
                      clear h1 h2 hcc h0
                      go_wp2
                      go_big_quiet ((go_at_call 40; exact Calls.quiet_of_same ((rmay_yes _ _ H1.out).mono fun _ _ h => ⟨h.1, h.2.symm⟩)))
                      go_wp2
                      go_ret
                      exact ⟨ret_bool F.out, (hB.trans (ax.mono hB.size)).trans (Below.drewN' _ _ _)⟩
                    · have h4 : 200000 ≤ (at_ l (k + 1)).t - (at_ l k).t := by omega
                      have F := Lib.hid (show okTo l (k + 1 + 1) = true from by rw [okTo_succ, D.out]; unfold okAt; rw [h1, h2]; simp; omega)
                      clear h1 h2 hcc h0 h3
                      go_wp2
                      go_big_quiet ((go_at_call 40; exact Calls.quiet_of_same ((rmay_yes _ _ H1.out).mono fun _ _ h => ⟨h.1, h.2.symm⟩)))
                      go_wp2
                      go_roundw
                      case rel => exact ⟨k + 1 + 1, by omega, by go_num, F, (hB.trans (ax.mono hB.size)).trans (Below.drewN' _ _ _), Z.below (ax.trans (Below.drewN' _ _ _)) lz⟩
                      case measure => simp [intOf]; omega
          · obtain rfl : n = k := by omega
            have YE := Lib.hid (may_yrs (f := f) (ys := ys) g1' g2' h64 EN.out D.out)
            have HO := Lib.hid (show okTo l l.length = true from EN.out ▸ D.out)
            by_cases e0 : n' = 0
            · subst e0
              have F := Lib.hid (show (f == 0) = mayB b l ys f from by rw [YE.out, List.eq_nil_of_length_eq_zero EN'.out.symm]; rfl)
              clear hc hc'
              go_wp2
              go_ret
              exact ⟨ret_bool F.out, hB⟩
            · by_cases e2 : n' = 2
              · subst e2
                have two := two_of EN'.out
                obtain ⟨b2, off2, rfl, hb2, hcc2⟩ := hc' (by omega)
                obtain ⟨a0', a1', a2', a3', a4'⟩ := hcc2 0 (by omega)
                obtain ⟨q0', q1', q2', q3', q4'⟩ := hcc2 1 (by omega)
                simp only [Nat.zero_mul, Nat.add_zero, Nat.one_mul, Nat.add_assoc, Nat.reduceAdd] at a0' a1' a2' a3' a4' q0' q1' q2' q3' q4'
                have a0 := (hB.cell (p := ⟨b2, _, none⟩) hb2).trans a0'
                have a1 := (hB.cell (p := ⟨b2, _, none⟩) hb2).trans a1'
                have a2 := (hB.cell (p := ⟨b2, _, none⟩) hb2).trans a2'
                have a3 := (hB.cell (p := ⟨b2, _, none⟩) hb2).trans a3'
                have a4 := (hB.cell (p := ⟨b2, _, none⟩) hb2).trans a4'
                have q0 := (hB.cell (p := ⟨b2, _, none⟩) hb2).trans q0'
                have q1 := (hB.cell (p := ⟨b2, _, none⟩) hb2).trans q1'
                have q2 := (hB.cell (p := ⟨b2, _, none⟩) hb2).trans q2'
                have q3 := (hB.cell (p := ⟨b2, _, none⟩) hb2).trans q3'
                have q4 := (hB.cell (p := ⟨b2, _, none⟩) hb2).trans q4'
                clear a0' a1' a2' a3' a4' q0' q1' q2' q3' q4' hcc2 hc'
                generalize yat ys 0 = r at *
                generalize yat ys 1 = q at *
                have YT := Lib.hid two
                clear two e0
                have Fo : ∀ x, x = yrsB l [r, q] f → x = mayB b l ys f := fun x h => by rw [YE.out, YT.out]; exact h
                have FO := Lib.hid Fo
                clear Fo
                cases hr : yrB r
                · have R := Lib.hid hr
                  have F := Lib.hid (FO.out false (by simp [yrsB, hr]))
                  clear hr hc
                  go_wp2_with fail
                  refine (right_is r _ _ R.out).mono ?_
                  rintro e v1 ⟨rfl, hv1⟩
                  go_wp2
                  go_ret
                  exact ⟨ret_bool F.out, hB.trans (hv1.mono hB.size)⟩
                · cases hq : yrB q
                  · have R := Lib.hid hr
                    have Q := Lib.hid hq
                    have F := Lib.hid (FO.out false (by simp [yrsB, hq]))
                    clear hr hq hc
                    go_wp2_with fail
                    refine (right_is r _ _ R.out).mono ?_
                    rintro e v1 ⟨rfl, hv1⟩
                    replace Z := Z.below hv1 Z.lt
                    have x1 := hB.trans (hv1.mono hB.size)
                    clear lz z0 z1 z2 z3
                    have lz := Z.lt
                    have z0 := Z.cell 0; have z1 := Z.cell 1; have z2 := Z.cell 2; have z3 := Z.cell 3
                    simp at z0 z1 z2 z3
                    replace a0 := (hv1.cell (p := ⟨b2, _, none⟩) (Nat.lt_of_lt_of_le hb2 hB.size)).trans a0
                    replace a1 := (hv1.cell (p := ⟨b2, _, none⟩) (Nat.lt_of_lt_of_le hb2 hB.size)).trans a1
                    replace a2 := (hv1.cell (p := ⟨b2, _, none⟩) (Nat.lt_of_lt_of_le hb2 hB.size)).trans a2
                    replace a3 := (hv1.cell (p := ⟨b2, _, none⟩) (Nat.lt_of_lt_of_le hb2 hB.size)).trans a3
                    replace a4 := (hv1.cell (p := ⟨b2, _, none⟩) (Nat.lt_of_lt_of_le hb2 hB.size)).trans a4
                    replace q0 := (hv1.cell (p := ⟨b2, _, none⟩) (Nat.lt_of_lt_of_le hb2 hB.size)).trans q0
                    replace q1 := (hv1.cell (p := ⟨b2, _, none⟩) (Nat.lt_of_lt_of_le hb2 hB.size)).trans q1
                    replace q2 := (hv1.cell (p := ⟨b2, _, none⟩) (Nat.lt_of_lt_of_le hb2 hB.size)).trans q2
                    replace q3 := (hv1.cell (p := ⟨b2, _, none⟩) (Nat.lt_of_lt_of_le hb2 hB.size)).trans q3
                    replace q4 := (hv1.cell (p := ⟨b2, _, none⟩) (Nat.lt_of_lt_of_le hb2 hB.size)).trans q4
                    go_wp2_with fail
                    refine (right_is q _ _ Q.out).mono ?_
                    rintro e v2 ⟨rfl, hv2⟩
                    replace Z := Z.below hv2 Z.lt
                    have x2 := x1.trans (hv2.mono x1.size)
                    clear lz z0 z1 z2 z3
                    have lz := Z.lt
                    have z0 := Z.cell 0; have z1 := Z.cell 1; have z2 := Z.cell 2; have z3 := Z.cell 3
                    simp at z0 z1 z2 z3
                    replace a0 := (hv2.cell (p := ⟨b2, _, none⟩) (Nat.lt_of_lt_of_le hb2 x1.size)).trans a0
                    replace a1 := (hv2.cell (p := ⟨b2, _, none⟩) (Nat.lt_of_lt_of_le hb2 x1.size)).trans a1
                    replace a2 := (hv2.cell (p := ⟨b2, _, none⟩) (Nat.lt_of_lt_of_le hb2 x1.size)).trans a2
                    replace a3 := (hv2.cell (p := ⟨b2, _, none⟩) (Nat.lt_of_lt_of_le hb2 x1.size)).trans a3
                    replace a4 := (hv2.cell (p := ⟨b2, _, none⟩) (Nat.lt_of_lt_of_le hb2 x1.size)).trans a4
                    replace q0 := (hv2.cell (p := ⟨b2, _, none⟩) (Nat.lt_of_lt_of_le hb2 x1.size)).trans q0
                    replace q1 := (hv2.cell (p := ⟨b2, _, none⟩) (Nat.lt_of_lt_of_le hb2 x1.size)).trans q1
                    replace q2 := (hv2.cell (p := ⟨b2, _, none⟩) (Nat.lt_of_lt_of_le hb2 x1.size)).trans q2
                    replace q3 := (hv2.cell (p := ⟨b2, _, none⟩) (Nat.lt_of_lt_of_le hb2 x1.size)).trans q3
                    replace q4 := (hv2.cell (p := ⟨b2, _, none⟩) (Nat.lt_of_lt_of_le hb2 x1.size)).trans q4
                    go_wp2
                    go_ret
                    exact ⟨ret_bool F.out, x2⟩
                  · have R := Lib.hid hr
                    have Q := Lib.hid hq
                    obtain ⟨r1, r2, _⟩ := of_decide_eq_true hr
                    obtain ⟨s1, s2, _⟩ := of_decide_eq_true hq
                    by_cases k1 : f < 1
                    · have F := Lib.hid (FO.out false (by simp only [yrsB, hr, hq]; simp; omega))
                      clear hr hq hc
                      go_wp2_with fail
                      refine (right_is r _ _ R.out).mono ?_
                      rintro e v1 ⟨rfl, hv1⟩
                      replace Z := Z.below hv1 Z.lt
                      have x1 := hB.trans (hv1.mono hB.size)
                      clear lz z0 z1 z2 z3
                      have lz := Z.lt
                      have z0 := Z.cell 0; have z1 := Z.cell 1; have z2 := Z.cell 2; have z3 := Z.cell 3
                      simp at z0 z1 z2 z3
                      replace a0 := (hv1.cell (p := ⟨b2, _, none⟩) (Nat.lt_of_lt_of_le hb2 hB.size)).trans a0
                      replace a1 := (hv1.cell (p := ⟨b2, _, none⟩) (Nat.lt_of_lt_of_le hb2 hB.size)).trans a1
                      replace a2 := (hv1.cell (p := ⟨b2, _, none⟩) (Nat.lt_of_lt_of_le hb2 hB.size)).trans a2
                      replace a3 := (hv1.cell (p := ⟨b2, _, none⟩) (Nat.lt_of_lt_of_le hb2 hB.size)).trans a3
                      replace a4 := (hv1.cell (p := ⟨b2, _, none⟩) (Nat.lt_of_lt_of_le hb2 hB.size)).trans a4
                      replace q0 := (hv1.cell (p := ⟨b2, _, none⟩) (Nat.lt_of_lt_of_le hb2 hB.size)).trans q0
                      replace q1 := (hv1.cell (p := ⟨b2, _, none⟩) (Nat.lt_of_lt_of_le hb2 hB.size)).trans q1
                      replace q2 := (hv1.cell (p := ⟨b2, _, none⟩) (Nat.lt_of_lt_of_le hb2 hB.size)).trans q2
                      replace q3 := (hv1.cell (p := ⟨b2, _, none⟩) (Nat.lt_of_lt_of_le hb2 hB.size)).trans q3
                      replace q4 := (hv1.cell (p := ⟨b2, _, none⟩) (Nat.lt_of_lt_of_le hb2 hB.size)).trans q4
                      go_wp2_with fail
                      refine (right_is q _ _ Q.out).mono ?_
                      rintro e v2 ⟨rfl, hv2⟩
                      replace Z := Z.below hv2 Z.lt
                      have x2 := x1.trans (hv2.mono x1.size)
                      clear lz z0 z1 z2 z3
                      have lz := Z.lt
                      have z0 := Z.cell 0; have z1 := Z.cell 1; have z2 := Z.cell 2; have z3 := Z.cell 3
                      simp at z0 z1 z2 z3
                      replace a0 := (hv2.cell (p := ⟨b2, _, none⟩) (Nat.lt_of_lt_of_le hb2 x1.size)).trans a0
                      replace a1 := (hv2.cell (p := ⟨b2, _, none⟩) (Nat.lt_of_lt_of_le hb2 x1.size)).trans a1
                      replace a2 := (hv2.cell (p := ⟨b2, _, none⟩) (Nat.lt_of_lt_of_le hb2 x1.size)).trans a2
                      replace a3 := (hv2.cell (p := ⟨b2, _, none⟩) (Nat.lt_of_lt_of_le hb2 x1.size)).trans a3
                      replace a4 := (hv2.cell (p := ⟨b2, _, none⟩) (Nat.lt_of_lt_of_le hb2 x1.size)).trans a4
                      replace q0 := (hv2.cell (p := ⟨b2, _, none⟩) (Nat.lt_of_lt_of_le hb2 x1.size)).trans q0
                      replace q1 := (hv2.cell (p := ⟨b2, _, none⟩) (Nat.lt_of_lt_of_le hb2 x1.size)).trans q1
                      replace q2 := (hv2.cell (p := ⟨b2, _, none⟩) (Nat.lt_of_lt_of_le hb2 x1.size)).trans q2
                      replace q3 := (hv2.cell (p := ⟨b2, _, none⟩) (Nat.lt_of_lt_of_le hb2 x1.size)).trans q3
                      replace q4 := (hv2.cell (p := ⟨b2, _, none⟩) (Nat.lt_of_lt_of_le hb2 x1.size)).trans q4
                      go_wp2
                      go_ret
                      exact ⟨ret_bool F.out, x2⟩
                    · have k1' : 1 ≤ f := by omega
                      by_cases k2 : 9999 < f
                      · have F := Lib.hid (FO.out false (by simp only [yrsB, hr, hq]; simp; omega))
                        clear hr hq hc k1
                        go_wp2_with fail
                        refine (right_is r _ _ R.out).mono ?_
                        rintro e v1 ⟨rfl, hv1⟩
                        replace Z := Z.below hv1 Z.lt
                        have x1 := hB.trans (hv1.mono hB.size)
                        clear lz z0 z1 z2 z3
                        have lz := Z.lt
                        have z0 := Z.cell 0; have z1 := Z.cell 1; have z2 := Z.cell 2; have z3 := Z.cell 3
                        simp at z0 z1 z2 z3
                        replace a0 := (hv1.cell (p := ⟨b2, _, none⟩) (Nat.lt_of_lt_of_le hb2 hB.size)).trans a0
                        replace a1 := (hv1.cell (p := ⟨b2, _, none⟩) (Nat.lt_of_lt_of_le hb2 hB.size)).trans a1
                        replace a2 := (hv1.cell (p := ⟨b2, _, none⟩) (Nat.lt_of_lt_of_le hb2 hB.size)).trans a2
                        replace a3 := (hv1.cell (p := ⟨b2, _, none⟩) (Nat.lt_of_lt_of_le hb2 hB.size)).trans a3
                        replace a4 := (hv1.cell (p := ⟨b2, _, none⟩) (Nat.lt_of_lt_of_le hb2 hB.size)).trans a4
                        replace q0 := (hv1.cell (p := ⟨b2, _, none⟩) (Nat.lt_of_lt_of_le hb2 hB.size)).trans q0
                        replace q1 := (hv1.cell (p := ⟨b2, _, none⟩) (Nat.lt_of_lt_of_le hb2 hB.size)).trans q1
                        replace q2 := (hv1.cell (p := ⟨b2, _, none⟩) (Nat.lt_of_lt_of_le hb2 hB.size)).trans q2
                        replace q3 := (hv1.cell (p := ⟨b2, _, none⟩) (Nat.lt_of_lt_of_le hb2 hB.size)).trans q3
                        replace q4 := (hv1.cell (p := ⟨b2, _, none⟩) (Nat.lt_of_lt_of_le hb2 hB.size)).trans q4
                        go_wp2_with fail
                        refine (right_is q _ _ Q.out).mono ?_
                        rintro e v2 ⟨rfl, hv2⟩
                        replace Z := Z.below hv2 Z.lt
                        have x2 := x1.trans (hv2.mono x1.size)
                        clear lz z0 z1 z2 z3
                        have lz := Z.lt
                        have z0 := Z.cell 0; have z1 := Z.cell 1; have z2 := Z.cell 2; have z3 := Z.cell 3
                        simp at z0 z1 z2 z3
                        replace a0 := (hv2.cell (p := ⟨b2, _, none⟩) (Nat.lt_of_lt_of_le hb2 x1.size)).trans a0
                        replace a1 := (hv2.cell (p := ⟨b2, _, none⟩) (Nat.lt_of_lt_of_le hb2 x1.size)).trans a1
                        replace a2 := (hv2.cell (p := ⟨b2, _, none⟩) (Nat.lt_of_lt_of_le hb2 x1.size)).trans a2
                        replace a3 := (hv2.cell (p := ⟨b2, _, none⟩) (Nat.lt_of_lt_of_le hb2 x1.size)).trans a3
                        replace a4 := (hv2.cell (p := ⟨b2, _, none⟩) (Nat.lt_of_lt_of_le hb2 x1.size)).trans a4
                        replace q0 := (hv2.cell (p := ⟨b2, _, none⟩) (Nat.lt_of_lt_of_le hb2 x1.size)).trans q0
                        replace q1 := (hv2.cell (p := ⟨b2, _, none⟩) (Nat.lt_of_lt_of_le hb2 x1.size)).trans q1
                        replace q2 := (hv2.cell (p := ⟨b2, _, none⟩) (Nat.lt_of_lt_of_le hb2 x1.size)).trans q2
                        replace q3 := (hv2.cell (p := ⟨b2, _, none⟩) (Nat.lt_of_lt_of_le hb2 x1.size)).trans q3
                        replace q4 := (hv2.cell (p := ⟨b2, _, none⟩) (Nat.lt_of_lt_of_le hb2 x1.size)).trans q4
                        go_wp2
                        go_ret
                        exact ⟨ret_bool F.out, x2⟩
                      · have k2' : f ≤ 9999 := by omega
                        have nb := ny_bd f (by omega) (by omega)
                        obtain ⟨nb1, nb2⟩ := nb
                        by_cases m1 : 2 ≤ q.m - r.m
                        · have dm1 : decide (2 ≤ q.m - r.m) = true := decide_eq_true m1
                          by_cases m2 : q.m - r.m ≤ 10
                          · have dm2 : decide (q.m - r.m ≤ 10) = true := decide_eq_true m2
                            have E0 : yrsB l [r, q] f = endB l f := by simp only [yrsB, hr, hq]; simp [k1', k2', m1, m2]
                            by_cases hn0 : n = 0
                            · have F := Lib.hid (FO.out true (by rw [E0]; unfold endB; rw [← EN.out, hn0]; rfl))
                              have tz : ((n : Int) == 0) = true := by rw [beq_iff_eq]; omega
                              clear hr hq hc k1 k2 E0 hn0
                              go_wp2_with fail
                              refine (right_is r _ _ R.out).mono ?_
                              rintro e v1 ⟨rfl, hv1⟩
                              replace Z := Z.below hv1 Z.lt
                              have x1 := hB.trans (hv1.mono hB.size)
                              clear lz z0 z1 z2 z3
                              have lz := Z.lt
                              have z0 := Z.cell 0; have z1 := Z.cell 1; have z2 := Z.cell 2; have z3 := Z.cell 3
                              simp at z0 z1 z2 z3
                              replace a0 := (hv1.cell (p := ⟨b2, _, none⟩) (Nat.lt_of_lt_of_le hb2 hB.size)).trans a0
                              replace a1 := (hv1.cell (p := ⟨b2, _, none⟩) (Nat.lt_of_lt_of_le hb2 hB.size)).trans a1
                              replace a2 := (hv1.cell (p := ⟨b2, _, none⟩) (Nat.lt_of_lt_of_le hb2 hB.size)).trans a2
                              replace a3 := (hv1.cell (p := ⟨b2, _, none⟩) (Nat.lt_of_lt_of_le hb2 hB.size)).trans a3
                              replace a4 := (hv1.cell (p := ⟨b2, _, none⟩) (Nat.lt_of_lt_of_le hb2 hB.size)).trans a4
                              replace q0 := (hv1.cell (p := ⟨b2, _, none⟩) (Nat.lt_of_lt_of_le hb2 hB.size)).trans q0
                              replace q1 := (hv1.cell (p := ⟨b2, _, none⟩) (Nat.lt_of_lt_of_le hb2 hB.size)).trans q1
                              replace q2 := (hv1.cell (p := ⟨b2, _, none⟩) (Nat.lt_of_lt_of_le hb2 hB.size)).trans q2
                              replace q3 := (hv1.cell (p := ⟨b2, _, none⟩) (Nat.lt_of_lt_of_le hb2 hB.size)).trans q3
                              replace q4 := (hv1.cell (p := ⟨b2, _, none⟩) (Nat.lt_of_lt_of_le hb2 hB.size)).trans q4
                              go_wp2_with fail
                              refine (right_is q _ _ Q.out).mono ?_
                              rintro e v2 ⟨rfl, hv2⟩
                              replace Z := Z.below hv2 Z.lt
                              have x2 := x1.trans (hv2.mono x1.size)
                              clear lz z0 z1 z2 z3
                              have lz := Z.lt
                              have z0 := Z.cell 0; have z1 := Z.cell 1; have z2 := Z.cell 2; have z3 := Z.cell 3
                              simp at z0 z1 z2 z3
                              replace a0 := (hv2.cell (p := ⟨b2, _, none⟩) (Nat.lt_of_lt_of_le hb2 x1.size)).trans a0
                              replace a1 := (hv2.cell (p := ⟨b2, _, none⟩) (Nat.lt_of_lt_of_le hb2 x1.size)).trans a1
                              replace a2 := (hv2.cell (p := ⟨b2, _, none⟩) (Nat.lt_of_lt_of_le hb2 x1.size)).trans a2
                              replace a3 := (hv2.cell (p := ⟨b2, _, none⟩) (Nat.lt_of_lt_of_le hb2 x1.size)).trans a3
                              replace a4 := (hv2.cell (p := ⟨b2, _, none⟩) (Nat.lt_of_lt_of_le hb2 x1.size)).trans a4
                              replace q0 := (hv2.cell (p := ⟨b2, _, none⟩) (Nat.lt_of_lt_of_le hb2 x1.size)).trans q0
                              replace q1 := (hv2.cell (p := ⟨b2, _, none⟩) (Nat.lt_of_lt_of_le hb2 x1.size)).trans q1
                              replace q2 := (hv2.cell (p := ⟨b2, _, none⟩) (Nat.lt_of_lt_of_le hb2 x1.size)).trans q2
                              replace q3 := (hv2.cell (p := ⟨b2, _, none⟩) (Nat.lt_of_lt_of_le hb2 x1.size)).trans q3
                              replace q4 := (hv2.cell (p := ⟨b2, _, none⟩) (Nat.lt_of_lt_of_le hb2 x1.size)).trans q4
                              go_wp2
                              go_big_quiet (fail)
                              go_wp2
                              go_big_quiet ((go_at_call 47; exact Calls.quiet_of_same ((rfirst_any f _ (by omega) (by omega)).mono fun _ _ h => ⟨h.1, h.2.symm⟩)))
                              go_wp2
                              go_ret
                              exact ⟨ret_bool F.out, (x2.trans (Below.drewN' _ _ _)).trans (Below.drewN' _ _ _)⟩
                            · obtain ⟨bl, off, rfl, hbl, hcl⟩ := hc (by omega)
                              obtain ⟨j, rfl⟩ : ∃ j, n = j + 1 := ⟨n - 1, by omega⟩
                              have d0 := (hB.cell (p := ⟨bl, off + j * 2, none⟩) hbl).trans (hcl j (by omega)).1
                              obtain ⟨l1, l2⟩ := mayT_of (okTo_at HO.out (i := j) (by have := EN.out; omega)).1
                              have F := Lib.hid (FO.out (decide (200000 ≤ ny f * 86400 - (at_ l j).t)) (by rw [Int.mul_comm (ny f) 86400, E0]; unfold endB; rw [← EN.out, Nat.add_sub_cancel]; simp))
                              have tz : (((j + 1 : Nat) : Int) == 0) = false := by rw [beq_eq_false_iff_ne]; omega
                              have tz2 : ((j : Int) + 1 == 0) = false := by rw [beq_eq_false_iff_ne]; omega
                              clear hr hq hc k1 k2 E0 hn0 hcl
                              have hbl2 := Nat.lt_of_lt_of_le hbl hB.size
                              go_wp2_with fail
                              refine (right_is r _ _ R.out).mono ?_
                              rintro e v1 ⟨rfl, hv1⟩
                              replace Z := Z.below hv1 Z.lt
                              have x1 := hB.trans (hv1.mono hB.size)
                              clear lz z0 z1 z2 z3
                              have lz := Z.lt
                              have z0 := Z.cell 0; have z1 := Z.cell 1; have z2 := Z.cell 2; have z3 := Z.cell 3
                              simp at z0 z1 z2 z3
                              replace a0 := (hv1.cell (p := ⟨b2, _, none⟩) (Nat.lt_of_lt_of_le hb2 hB.size)).trans a0
                              replace a1 := (hv1.cell (p := ⟨b2, _, none⟩) (Nat.lt_of_lt_of_le hb2 hB.size)).trans a1
                              replace a2 := (hv1.cell (p := ⟨b2, _, none⟩) (Nat.lt_of_lt_of_le hb2 hB.size)).trans a2
                              replace a3 := (hv1.cell (p := ⟨b2, _, none⟩) (Nat.lt_of_lt_of_le hb2 hB.size)).trans a3
                              replace a4 := (hv1.cell (p := ⟨b2, _, none⟩) (Nat.lt_of_lt_of_le hb2 hB.size)).trans a4
                              replace q0 := (hv1.cell (p := ⟨b2, _, none⟩) (Nat.lt_of_lt_of_le hb2 hB.size)).trans q0
                              replace q1 := (hv1.cell (p := ⟨b2, _, none⟩) (Nat.lt_of_lt_of_le hb2 hB.size)).trans q1
                              replace q2 := (hv1.cell (p := ⟨b2, _, none⟩) (Nat.lt_of_lt_of_le hb2 hB.size)).trans q2
                              replace q3 := (hv1.cell (p := ⟨b2, _, none⟩) (Nat.lt_of_lt_of_le hb2 hB.size)).trans q3
                              replace q4 := (hv1.cell (p := ⟨b2, _, none⟩) (Nat.lt_of_lt_of_le hb2 hB.size)).trans q4
                              go_wp2_with fail
                              refine (right_is q _ _ Q.out).mono ?_
                              rintro e v2 ⟨rfl, hv2⟩
                              replace Z := Z.below hv2 Z.lt
                              have x2 := x1.trans (hv2.mono x1.size)
                              clear lz z0 z1 z2 z3
                              have lz := Z.lt
                              have z0 := Z.cell 0; have z1 := Z.cell 1; have z2 := Z.cell 2; have z3 := Z.cell 3
                              simp at z0 z1 z2 z3
                              replace a0 := (hv2.cell (p := ⟨b2, _, none⟩) (Nat.lt_of_lt_of_le hb2 x1.size)).trans a0
                              replace a1 := (hv2.cell (p := ⟨b2, _, none⟩) (Nat.lt_of_lt_of_le hb2 x1.size)).trans a1
                              replace a2 := (hv2.cell (p := ⟨b2, _, none⟩) (Nat.lt_of_lt_of_le hb2 x1.size)).trans a2
                              replace a3 := (hv2.cell (p := ⟨b2, _, none⟩) (Nat.lt_of_lt_of_le hb2 x1.size)).trans a3
                              replace a4 := (hv2.cell (p := ⟨b2, _, none⟩) (Nat.lt_of_lt_of_le hb2 x1.size)).trans a4
                              replace q0 := (hv2.cell (p := ⟨b2, _, none⟩) (Nat.lt_of_lt_of_le hb2 x1.size)).trans q0
                              replace q1 := (hv2.cell (p := ⟨b2, _, none⟩) (Nat.lt_of_lt_of_le hb2 x1.size)).trans q1
                              replace q2 := (hv2.cell (p := ⟨b2, _, none⟩) (Nat.lt_of_lt_of_le hb2 x1.size)).trans q2
                              replace q3 := (hv2.cell (p := ⟨b2, _, none⟩) (Nat.lt_of_lt_of_le hb2 x1.size)).trans q3
                              replace q4 := (hv2.cell (p := ⟨b2, _, none⟩) (Nat.lt_of_lt_of_le hb2 x1.size)).trans q4
                              replace d0 := (hv1.cell (p := ⟨bl, _, none⟩) hbl2).trans d0
                              replace d0 := (hv2.cell (p := ⟨bl, _, none⟩) (Nat.lt_of_lt_of_le hbl2 hv1.size)).trans d0
                              go_wp2
                              go_big_quiet (fail)
                              go_wp2
                              replace x2 := x2.trans (Below.drewN' _ _ nq)
                              replace z1 : (v2.drewN nq).cell? _ = _ := z1
                              replace z3 : (v2.drewN nq).cell? _ = _ := z3
                              replace d0 : (v2.drewN nq).cell? _ = _ := d0
                              generalize v2.drewN nq = v3 at *
                              go_big_quiet ((go_at_call 47; exact Calls.quiet_of_same ((rfirst_any f _ (by omega) (by omega)).mono fun _ _ h => ⟨h.1, h.2.symm⟩)))
                              go_wp2
                              go_ret
                              exact ⟨ret_bool F.out, x2.trans (Below.drewN' _ _ _)⟩
                          · have dm2 : decide (q.m - r.m ≤ 10) = false := decide_eq_false m2
                            have F := Lib.hid (FO.out false (by simp only [yrsB, hr, hq]; rw [decide_eq_false (fun h => m2 h.2)]; simp))
                            clear hr hq hc k1 k2 m2
                            go_wp2_with fail
                            refine (right_is r _ _ R.out).mono ?_
                            rintro e v1 ⟨rfl, hv1⟩
                            replace Z := Z.below hv1 Z.lt
                            have x1 := hB.trans (hv1.mono hB.size)
                            clear lz z0 z1 z2 z3
                            have lz := Z.lt
                            have z0 := Z.cell 0; have z1 := Z.cell 1; have z2 := Z.cell 2; have z3 := Z.cell 3
                            simp at z0 z1 z2 z3
                            replace a0 := (hv1.cell (p := ⟨b2, _, none⟩) (Nat.lt_of_lt_of_le hb2 hB.size)).trans a0
                            replace a1 := (hv1.cell (p := ⟨b2, _, none⟩) (Nat.lt_of_lt_of_le hb2 hB.size)).trans a1
                            replace a2 := (hv1.cell (p := ⟨b2, _, none⟩) (Nat.lt_of_lt_of_le hb2 hB.size)).trans a2
                            replace a3 := (hv1.cell (p := ⟨b2, _, none⟩) (Nat.lt_of_lt_of_le hb2 hB.size)).trans a3
                            replace a4 := (hv1.cell (p := ⟨b2, _, none⟩) (Nat.lt_of_lt_of_le hb2 hB.size)).trans a4
                            replace q0 := (hv1.cell (p := ⟨b2, _, none⟩) (Nat.lt_of_lt_of_le hb2 hB.size)).trans q0
                            replace q1 := (hv1.cell (p := ⟨b2, _, none⟩) (Nat.lt_of_lt_of_le hb2 hB.size)).trans q1
                            replace q2 := (hv1.cell (p := ⟨b2, _, none⟩) (Nat.lt_of_lt_of_le hb2 hB.size)).trans q2
                            replace q3 := (hv1.cell (p := ⟨b2, _, none⟩) (Nat.lt_of_lt_of_le hb2 hB.size)).trans q3
                            replace q4 := (hv1.cell (p := ⟨b2, _, none⟩) (Nat.lt_of_lt_of_le hb2 hB.size)).trans q4
                            go_wp2_with fail
                            refine (right_is q _ _ Q.out).mono ?_
                            rintro e v2 ⟨rfl, hv2⟩
                            replace Z := Z.below hv2 Z.lt
                            have x2 := x1.trans (hv2.mono x1.size)
                            clear lz z0 z1 z2 z3
                            have lz := Z.lt
                            have z0 := Z.cell 0; have z1 := Z.cell 1; have z2 := Z.cell 2; have z3 := Z.cell 3
                            simp at z0 z1 z2 z3
                            replace a0 := (hv2.cell (p := ⟨b2, _, none⟩) (Nat.lt_of_lt_of_le hb2 x1.size)).trans a0
                            replace a1 := (hv2.cell (p := ⟨b2, _, none⟩) (Nat.lt_of_lt_of_le hb2 x1.size)).trans a1
                            replace a2 := (hv2.cell (p := ⟨b2, _, none⟩) (Nat.lt_of_lt_of_le hb2 x1.size)).trans a2
                            replace a3 := (hv2.cell (p := ⟨b2, _, none⟩) (Nat.lt_of_lt_of_le hb2 x1.size)).trans a3
                            replace a4 := (hv2.cell (p := ⟨b2, _, none⟩) (Nat.lt_of_lt_of_le hb2 x1.size)).trans a4
                            replace q0 := (hv2.cell (p := ⟨b2, _, none⟩) (Nat.lt_of_lt_of_le hb2 x1.size)).trans q0
                            replace q1 := (hv2.cell (p := ⟨b2, _, none⟩) (Nat.lt_of_lt_of_le hb2 x1.size)).trans q1
                            replace q2 := (hv2.cell (p := ⟨b2, _, none⟩) (Nat.lt_of_lt_of_le hb2 x1.size)).trans q2
                            replace q3 := (hv2.cell (p := ⟨b2, _, none⟩) (Nat.lt_of_lt_of_le hb2 x1.size)).trans q3
                            replace q4 := (hv2.cell (p := ⟨b2, _, none⟩) (Nat.lt_of_lt_of_le hb2 x1.size)).trans q4
                            go_wp2
                            go_big_quiet (fail)
                            go_wp2
                            go_big_quiet ((go_at_call 47; exact Calls.quiet_of_same ((rfirst_any f _ (by omega) (by omega)).mono fun _ _ h => ⟨h.1, h.2.symm⟩)))
                            go_wp2
                            go_ret
                            exact ⟨ret_bool F.out, (x2.trans (Below.drewN' _ _ _)).trans (Below.drewN' _ _ _)⟩
                        · have dm1 : decide (2 ≤ q.m - r.m) = false := decide_eq_false m1
                          have F := Lib.hid (FO.out false (by simp only [yrsB, hr, hq]; rw [decide_eq_false (fun h => m1 h.1)]; simp))
                          clear hr hq hc k1 k2 m1
                          go_wp2_with fail
                          refine (right_is r _ _ R.out).mono ?_
                          rintro e v1 ⟨rfl, hv1⟩
                          replace Z := Z.below hv1 Z.lt
                          have x1 := hB.trans (hv1.mono hB.size)
                          clear lz z0 z1 z2 z3
                          have lz := Z.lt
                          have z0 := Z.cell 0; have z1 := Z.cell 1; have z2 := Z.cell 2; have z3 := Z.cell 3
                          simp at z0 z1 z2 z3
                          replace a0 := (hv1.cell (p := ⟨b2, _, none⟩) (Nat.lt_of_lt_of_le hb2 hB.size)).trans a0
                          replace a1 := (hv1.cell (p := ⟨b2, _, none⟩) (Nat.lt_of_lt_of_le hb2 hB.size)).trans a1
                          replace a2 := (hv1.cell (p := ⟨b2, _, none⟩) (Nat.lt_of_lt_of_le hb2 hB.size)).trans a2
                          replace a3 := (hv1.cell (p := ⟨b2, _, none⟩) (Nat.lt_of_lt_of_le hb2 hB.size)).trans a3
                          replace a4 := (hv1.cell (p := ⟨b2, _, none⟩) (Nat.lt_of_lt_of_le hb2 hB.size)).trans a4
                          replace q0 := (hv1.cell (p := ⟨b2, _, none⟩) (Nat.lt_of_lt_of_le hb2 hB.size)).trans q0
                          replace q1 := (hv1.cell (p := ⟨b2, _, none⟩) (Nat.lt_of_lt_of_le hb2 hB.size)).trans q1
                          replace q2 := (hv1.cell (p := ⟨b2, _, none⟩) (Nat.lt_of_lt_of_le hb2 hB.size)).trans q2
                          replace q3 := (hv1.cell (p := ⟨b2, _, none⟩) (Nat.lt_of_lt_of_le hb2 hB.size)).trans q3
                          replace q4 := (hv1.cell (p := ⟨b2, _, none⟩) (Nat.lt_of_lt_of_le hb2 hB.size)).trans q4
                          go_wp2_with fail
                          refine (right_is q _ _ Q.out).mono ?_
                          rintro e v2 ⟨rfl, hv2⟩
                          replace Z := Z.below hv2 Z.lt
                          have x2 := x1.trans (hv2.mono x1.size)
                          clear lz z0 z1 z2 z3
                          have lz := Z.lt
                          have z0 := Z.cell 0; have z1 := Z.cell 1; have z2 := Z.cell 2; have z3 := Z.cell 3
                          simp at z0 z1 z2 z3
                          replace a0 := (hv2.cell (p := ⟨b2, _, none⟩) (Nat.lt_of_lt_of_le hb2 x1.size)).trans a0
                          replace a1 := (hv2.cell (p := ⟨b2, _, none⟩) (Nat.lt_of_lt_of_le hb2 x1.size)).trans a1
                          replace a2 := (hv2.cell (p := ⟨b2, _, none⟩) (Nat.lt_of_lt_of_le hb2 x1.size)).trans a2
                          replace a3 := (hv2.cell (p := ⟨b2, _, none⟩) (Nat.lt_of_lt_of_le hb2 x1.size)).trans a3
                          replace a4 := (hv2.cell (p := ⟨b2, _, none⟩) (Nat.lt_of_lt_of_le hb2 x1.size)).trans a4
                          replace q0 := (hv2.cell (p := ⟨b2, _, none⟩) (Nat.lt_of_lt_of_le hb2 x1.size)).trans q0
                          replace q1 := (hv2.cell (p := ⟨b2, _, none⟩) (Nat.lt_of_lt_of_le hb2 x1.size)).trans q1
                          replace q2 := (hv2.cell (p := ⟨b2, _, none⟩) (Nat.lt_of_lt_of_le hb2 x1.size)).trans q2
                          replace q3 := (hv2.cell (p := ⟨b2, _, none⟩) (Nat.lt_of_lt_of_le hb2 x1.size)).trans q3
                          replace q4 := (hv2.cell (p := ⟨b2, _, none⟩) (Nat.lt_of_lt_of_le hb2 x1.size)).trans q4
                          go_wp2
                          go_big_quiet (fail)
                          go_wp2
                          go_big_quiet ((go_at_call 47; exact Calls.quiet_of_same ((rfirst_any f _ (by omega) (by omega)).mono fun _ _ h => ⟨h.1, h.2.symm⟩)))
                          go_wp2
                          go_ret
                          exact ⟨ret_bool F.out, (x2.trans (Below.drewN' _ _ _)).trans (Below.drewN' _ _ _)⟩
              · have F := Lib.hid (show false = mayB b l ys f from by rw [YE.out]; exact yrs_len (l := l) (f := f) EN'.out (by omega) e2)
                have t0 : ((n' : Int) == 0) = false := by rw [beq_eq_false_iff_ne]; omega
                have t2 : ((n' : Int) != 2) = true := by rw [bne_iff_ne]; omega
                clear hc hc' e0 e2
                go_wp2
                go_ret
                exact ⟨ret_bool F.out, hB⟩
end Go.Proofs.Ytbinhnlajflndaa.Zn
