/- The walks of package zone's May, and what it is made of. -/
import Derived.Test.YtbinhnlajflndaaZnMem
set_option linter.unusedVariables false
namespace Go.Proofs.Ytbinhnlajflndaa.Zn
open Go.RowKit Cv St

theorem bcell {W w1 : World} (hb : Below W.heap.size W w1) : (∀ b o, b < W.heap.size → w1.cell? ⟨b, o, none⟩ = W.cell? ⟨b, o, none⟩) ∧ (∀ b o, b < W.heap.size → w1.frozen? ⟨b, o, none⟩ = W.frozen? ⟨b, o, none⟩) :=
  ⟨fun b o h => hb.cell (p := ⟨b, o, none⟩) h, fun b o h => hb.frozen (p := ⟨b, o, none⟩) h⟩
theorem mayYearly_yes (r : Yr) (w : World) (h : yrB r = true) :
    Calls Try.prog 68 #[yrV r] w fun e w' => e = .returned (.bool true) ∧ Below w.heap.size w w' := by
  have := mayYearly_any r w; rwa [h] at this
theorem mayYearly_no (r : Yr) (w : World) (h : yrB r = false) :
    Calls Try.prog 68 #[yrV r] w fun e w' => e = .returned (.bool false) ∧ Below w.heap.size w w' := by
  have := mayYearly_any r w; rwa [h] at this
theorem yrs_len {l : List Sh} {ys : List Yr} {f : Int} {n : Nat} (e : n = ys.length) (h0 : 0 < n) (h2 : n ≠ 2) : false = yrsB l ys f := by
  match ys, e with
  | [], e => simp at e; omega
  | [_], _ => rfl
  | [_, _], e => exact absurd e h2
  | _ :: _ :: _ :: _, _ => rfl
theorem two_of {ys : List Yr} (e : 2 = ys.length) : ys = [yat ys 0, yat ys 1] := by
  match ys, e with
  | [_, _], _ => rfl
theorem valid_f {f : Int} : valid f 1 1 = decide (1 ≤ f ∧ f ≤ 9999) := by
  unfold valid
  rw [decide_eq_decide]
  simp [len]
set_option maxHeartbeats 1000000 in
theorem mayYears_any (W w : World) (b f : Int) (A A' : Option Addr) (n c n' c' : Nat) (l : List Sh) (ys : List Yr) (hs : ShAt W A n l) (hy : YrAt W A' n' ys) (hn : n ≤ 64) (hn' : n' ≤ 9223372036854775807) (ho : okTo l l.length = true) (ha : At W w) :
    Calls Try.prog 45 #[.agg #[.int .i64 b, .slice A n c, .slice A' n' c', .int .i64 f]] w fun e w' => e = .returned (.bool (yrsB l ys f)) ∧ At W w' := by
  obtain ⟨en, hc⟩ := hs
  obtain ⟨en', hc'⟩ := hy
  by_cases h0 : n' = 0
  · subst h0
    obtain rfl : ys = [] := List.eq_nil_of_length_eq_zero en'.symm
    clear en en' hc hc' ho
    go_enter Try.func45, Try.ntmps45
    go_wp2
    go_ret
    exact ⟨rfl, ha.alloc _⟩
  · by_cases h2 : n' = 2
    · subst h2
      rw [two_of en']
      obtain ⟨b', off, rfl, hb, hcc⟩ := hc' (by omega)
      have hbw := Nat.lt_of_lt_of_le hb ha.size
      obtain ⟨a0, a1, a2, a3, a4⟩ := hcc 0 (by omega)
      obtain ⟨q0, q1, q2, q3, q4⟩ := hcc 1 (by omega)
      simp only [Nat.zero_mul, Nat.add_zero, Nat.one_mul, Nat.add_assoc, Nat.reduceAdd] at a0 a1 a2 a3 a4 q0 q1 q2 q3 q4
      replace a0 := (ha.below.cell (p := ⟨b', _, none⟩) hb).trans a0
      replace a1 := (ha.below.cell (p := ⟨b', _, none⟩) hb).trans a1
      replace a2 := (ha.below.cell (p := ⟨b', _, none⟩) hb).trans a2
      replace a3 := (ha.below.cell (p := ⟨b', _, none⟩) hb).trans a3
      replace a4 := (ha.below.cell (p := ⟨b', _, none⟩) hb).trans a4
      replace q0 := (ha.below.cell (p := ⟨b', _, none⟩) hb).trans q0
      replace q1 := (ha.below.cell (p := ⟨b', _, none⟩) hb).trans q1
      replace q2 := (ha.below.cell (p := ⟨b', _, none⟩) hb).trans q2
      replace q3 := (ha.below.cell (p := ⟨b', _, none⟩) hb).trans q3
      replace q4 := (ha.below.cell (p := ⟨b', _, none⟩) hb).trans q4
      generalize yat ys 0 = r at *
      generalize yat ys 1 = q at *
      clear en' hcc hc' h0 hn'
      cases hr : yrB r
      · have R := Lib.hid hr
        have F := Lib.hid (show false = yrsB l [r, q] f from by simp [yrsB, hr])
        clear hr en hc ho
        go_enter Try.func45, Try.ntmps45
        go_wp2_with fail
        refine (mayYearly_no r _ R.out).mono ?_
        rintro e w1 ⟨rfl, hb1⟩
        go_wp2
        go_ret
        exact ⟨ret_bool F.out, (ha.alloc _).on (hb1.mono (by have := ha.size; simp; omega))⟩
      · cases hq : yrB q
        · have R := Lib.hid hr
          have Q := Lib.hid hq
          have F := Lib.hid (show false = yrsB l [r, q] f from by simp [yrsB, hq])
          clear hr hq en hc ho
          go_enter Try.func45, Try.ntmps45
          go_wp2_with fail
          refine (mayYearly_yes r _ R.out).mono ?_
          rintro e w1 ⟨rfl, hb1⟩
          obtain ⟨k1, k2⟩ := bcell hb1
          go_wp2_with fail
          refine (mayYearly_no q _ Q.out).mono ?_
          rintro e w2 ⟨rfl, hb2⟩
          go_wp2
          go_ret
          exact ⟨ret_bool F.out, ((ha.alloc _).on (hb1.mono (by have := ha.size; simp; omega))).on (hb2.mono (by have := ha.size; have := hb1.size; simp at this; omega))⟩
        · have R := Lib.hid hr
          have Q := Lib.hid hq
          obtain ⟨r1, r2, _⟩ := of_decide_eq_true hr
          obtain ⟨s1, s2, _⟩ := of_decide_eq_true hq
          by_cases hm : 2 ≤ q.m - r.m ∧ q.m - r.m ≤ 10
          · obtain ⟨m1, m2⟩ := hm
            cases hv : valid f 1 1
            · have V := Lib.hid hv
              have F := Lib.hid (show false = yrsB l [r, q] f from by simp only [yrsB, hr, hq]; rw [valid_f] at hv; rw [hv]; simp)
              clear hr hq hv en hc ho
              go_enter Try.func45, Try.ntmps45
              go_wp2_with fail
              refine (mayYearly_yes r _ R.out).mono ?_
              rintro e w1 ⟨rfl, hb1⟩
              obtain ⟨k1, k2⟩ := bcell hb1
              go_wp2_with fail
              refine (mayYearly_yes q _ Q.out).mono ?_
              rintro e w2 ⟨rfl, hb2⟩
              obtain ⟨k3, k4⟩ := bcell hb2
              have z1 : w.heap.size + 1 ≤ w1.heap.size := by have := hb1.size; simp at this; omega
              have z2 : w.heap.size < w1.heap.size := by omega
              have z3 : b' < w1.heap.size := by omega
              have z4 : w1.heap.size ≤ w2.heap.size := hb2.size
              have at2 : At W w2 := ((ha.alloc _).on (hb1.mono (by have := ha.size; simp; omega))).on (hb2.mono (by have := ha.size; omega))
              go_wp2
              go_quiet (fail)
              go_wp2_with fail
              refine (make_date _ _ _ _ _ _ _ V.out).mono ?_
              rintro e w3 ⟨rfl, rfl⟩
              go_wp2
              go_ret
              exact ⟨ret_bool F.out, at2.drewN _⟩
            · have V := Lib.hid hv
              have hf := hv
              rw [valid_f] at hf
              obtain ⟨f1, f2⟩ := of_decide_eq_true hf
              have nb := ny_bd f (by omega) (by omega)
              have T := Lib.hid (show time 0 0 0 = true from by decide)
              have M := Lib.hid (show mk f 1 1 0 0 0 = 86400 * ny f from by unfold mk; rw [num_new]; omega)
              have E0 : yrsB l [r, q] f = endB l f := by simp only [yrsB, hr, hq]; simp [f1, f2, m1, m2]
              by_cases hn0 : n = 0
              · have F := Lib.hid (show true = yrsB l [r, q] f from by rw [E0]; unfold endB; rw [← en, hn0]; rfl)
                subst hn0
                clear hr hq hv hf en hc ho E0
                go_enter Try.func45, Try.ntmps45
                go_wp2_with fail
                refine (mayYearly_yes r _ R.out).mono ?_
                rintro e w1 ⟨rfl, hb1⟩
                obtain ⟨k1, k2⟩ := bcell hb1
                go_wp2_with fail
                refine (mayYearly_yes q _ Q.out).mono ?_
                rintro e w2 ⟨rfl, hb2⟩
                obtain ⟨k3, k4⟩ := bcell hb2
                have z1 : w.heap.size + 1 ≤ w1.heap.size := by have := hb1.size; simp at this; omega
                have z2 : w.heap.size < w1.heap.size := by omega
                have z3 : b' < w1.heap.size := by omega
                have z4 : w1.heap.size ≤ w2.heap.size := hb2.size
                have at2 : At W w2 := ((ha.alloc _).on (hb1.mono (by have := ha.size; simp; omega))).on (hb2.mono (by have := ha.size; omega))
                go_wp2
                go_quiet (fail)
                go_wp2_with fail
                refine (make_yes _ _ _ _ _ _ _ V.out T.out).mono ?_
                rintro e w3 ⟨rfl, rfl⟩
                rw [M.out]
                go_wp2
                go_ret
                exact ⟨ret_bool F.out, at2.drewN _⟩
              · obtain ⟨b2, off2, rfl, hb2', hcc2⟩ := hc (by omega)
                have hbw2 := Nat.lt_of_lt_of_le hb2' ha.size
                obtain ⟨j, rfl⟩ : ∃ j, n = j + 1 := ⟨n - 1, by omega⟩
                have d0 := (ha.below.cell (p := ⟨b2, off2 + j * 2, none⟩) hb2').trans (hcc2 j (by omega)).1
                have lst := mayT_of (okTo_at ho (i := j) (by omega)).1
                obtain ⟨l1, l2⟩ := lst
                have F := Lib.hid (show decide (200000 ≤ 86400 * ny f - (at_ l j).t) = yrsB l [r, q] f from by rw [E0]; unfold endB; rw [← en, Nat.add_sub_cancel]; simp)
                have nz : (((j + 1 : Nat) : Int) == 0) = false := by rw [beq_eq_false_iff_ne]; omega
                clear hr hq hv hf en hc ho E0 hn0 hcc2
                go_enter Try.func45, Try.ntmps45
                go_wp2_with fail
                refine (mayYearly_yes r _ R.out).mono ?_
                rintro e w1 ⟨rfl, hb1⟩
                obtain ⟨k1, k2⟩ := bcell hb1
                go_wp2_with fail
                refine (mayYearly_yes q _ Q.out).mono ?_
                rintro e w2 ⟨rfl, hb2⟩
                obtain ⟨k3, k4⟩ := bcell hb2
                have z1 : w.heap.size + 1 ≤ w1.heap.size := by have := hb1.size; simp at this; omega
                have z2 : w.heap.size < w1.heap.size := by omega
                have z3 : b' < w1.heap.size := by omega
                have z5 : b2 < w1.heap.size := by omega
                have z4 : w1.heap.size ≤ w2.heap.size := hb2.size
                have at2 : At W w2 := ((ha.alloc _).on (hb1.mono (by have := ha.size; simp; omega))).on (hb2.mono (by have := ha.size; omega))
                go_wp2
                go_quiet (fail)
                go_wp2_with fail
                refine (make_yes _ _ _ _ _ _ _ V.out T.out).mono ?_
                rintro e w3 ⟨rfl, rfl⟩
                rw [M.out]
                go_wp2
                all_goals
                  go_ret
                  exact ⟨ret_bool F.out, at2.drewN _⟩
          · have F := Lib.hid (show false = yrsB l [r, q] f from by simp only [yrsB, hr, hq]; rw [decide_eq_false hm]; simp)
            obtain ⟨x, y, hxy⟩ : ∃ x y, makeR f 1 1 0 0 0 = (x, y) := ⟨_, _, rfl⟩
            have X := Lib.hid hxy
            by_cases hm1 : q.m - r.m < 2
            · clear hr hq en hc ho hm hxy
              go_enter Try.func45, Try.ntmps45
              go_wp2_with fail
              refine (mayYearly_yes r _ R.out).mono ?_
              rintro e w1 ⟨rfl, hb1⟩
              obtain ⟨k1, k2⟩ := bcell hb1
              go_wp2_with fail
              refine (mayYearly_yes q _ Q.out).mono ?_
              rintro e w2 ⟨rfl, hb2⟩
              obtain ⟨k3, k4⟩ := bcell hb2
              have z1 : w.heap.size + 1 ≤ w1.heap.size := by have := hb1.size; simp at this; omega
              have z2 : w.heap.size < w1.heap.size := by omega
              have z3 : b' < w1.heap.size := by omega
              have z4 : w1.heap.size ≤ w2.heap.size := hb2.size
              have at2 : At W w2 := ((ha.alloc _).on (hb1.mono (by have := ha.size; simp; omega))).on (hb2.mono (by have := ha.size; omega))
              go_wp2
              go_quiet (fail)
              go_wp2_with fail
              refine (make_any _ _ _ _ _ _ _ _ _ X.out).mono ?_
              rintro e w3 ⟨rfl, rfl⟩
              go_wp2
              go_ret
              exact ⟨ret_bool F.out, at2.drewN _⟩
            · have hm2 : 10 < q.m - r.m := by omega
              have hm3 : 2 ≤ q.m - r.m := by omega
              clear hr hq en hc ho hm hm1 hxy
              go_enter Try.func45, Try.ntmps45
              go_wp2_with fail
              refine (mayYearly_yes r _ R.out).mono ?_
              rintro e w1 ⟨rfl, hb1⟩
              obtain ⟨k1, k2⟩ := bcell hb1
              go_wp2_with fail
              refine (mayYearly_yes q _ Q.out).mono ?_
              rintro e w2 ⟨rfl, hb2⟩
              obtain ⟨k3, k4⟩ := bcell hb2
              have z1 : w.heap.size + 1 ≤ w1.heap.size := by have := hb1.size; simp at this; omega
              have z2 : w.heap.size < w1.heap.size := by omega
              have z3 : b' < w1.heap.size := by omega
              have z4 : w1.heap.size ≤ w2.heap.size := hb2.size
              have at2 : At W w2 := ((ha.alloc _).on (hb1.mono (by have := ha.size; simp; omega))).on (hb2.mono (by have := ha.size; omega))
              go_wp2
              go_quiet (fail)
              go_wp2_with fail
              refine (make_any _ _ _ _ _ _ _ _ _ X.out).mono ?_
              rintro e w3 ⟨rfl, rfl⟩
              go_wp2
              go_ret
              exact ⟨ret_bool F.out, at2.drewN _⟩
    · have F := Lib.hid (yrs_len (l := l) (f := f) en' (by omega) h2)
      have b0 : ((n' : Int) == 0) = false := by rw [beq_eq_false_iff_ne]; omega
      have b2 : ((n' : Int) != 2) = true := by rw [bne_iff_ne]; omega
      clear en en' hc hc' ho h0 h2
      go_enter Try.func45, Try.ntmps45
      go_wp2
      go_ret
      exact ⟨ret_bool F.out, ha.alloc _⟩
/-- the value's slices hold the zone's lists -/
structure ZnAt (W : World) (A : Option Addr) (n : Nat) (A' : Option Addr) (n' : Nat) (l : List Sh) (ys : List Yr) : Prop where
  sh : ShAt W A n l
  yr : YrAt W A' n' ys
  sn : n ≤ 9223372036854775807
  yn : n' ≤ 9223372036854775807
abbrev znV (b f : Int) (A : Option Addr) (n c : Nat) (A' : Option Addr) (n' c' : Nat) : Value := .agg #[.int .i64 b, .slice A n c, .slice A' n' c', .int .i64 f]
theorem ZnAt.below {W w : World} {A : Option Addr} {n : Nat} {A' : Option Addr} {n' : Nat} {l : List Sh} {ys : List Yr} (h : ZnAt W A n A' n' l ys) (hb : Below W.heap.size W w) : ZnAt w A n A' n' l ys := ⟨h.sh.below hb, h.yr.below hb, h.sn, h.yn⟩
theorem mayShifts_is (W w : World) (A : Option Addr) (n c : Nat) (l : List Sh) (x : Bool) (hx : shB l = x) (h : ShAt W A n l) (hn : n ≤ 9223372036854775807) (ha : At W w) :
    Calls Try.prog 44 #[.slice A n c] w fun e w' => e = .returned (.bool x) ∧ At W w' := hx ▸ mayShifts_any W w A n c l h hn ha
set_option maxHeartbeats 1000000 in
theorem zMay_any (W w : World) (b f : Int) (A A' : Option Addr) (n c n' c' : Nat) (l : List Sh) (ys : List Yr) (hz : ZnAt W A n A' n' l ys) (ha : At W w) :
    Calls Try.prog 17 #[znV b f A n c A' n' c'] w fun e w' => e = .returned (.bool (mayB b l ys f)) ∧ At W w' := by
  show Calls _ _ #[.agg #[.int .i64 b, .slice A n c, .slice A' n' c', .int .i64 f]] _ _
  have hat := ha.alloc (.cells #[.int .i64 b, .slice A n c, .slice A' n' c', .int .i64 f] 25)
  have hw := ha.size
  cases ho : offB b
  · have O := Lib.hid ho
    have F := Lib.hid (show false = mayB b l ys f from by unfold mayB; rw [ho]; simp)
    clear ho
    go_enter Try.func17, Try.ntmps17
    go_wp2_with fail
    refine (mayOff_no _ _ O.out).mono ?_
    rintro e w1 ⟨rfl, rfl⟩
    go_wp2
    go_ret
    exact ⟨ret_bool F.out, hat⟩
  · cases hs : shB l
    · have O := Lib.hid ho
      have S := Lib.hid hs
      have F := Lib.hid (show false = mayB b l ys f from by unfold mayB; rw [hs]; simp)
      clear ho hs
      go_enter Try.func17, Try.ntmps17
      go_wp2_with fail
      refine (mayOff_yes _ _ O.out).mono ?_
      rintro e w1 ⟨rfl, rfl⟩
      go_wp2_with fail
      refine (mayShifts_is W _ _ _ _ l _ S.out hz.sh hz.sn hat).mono ?_
      rintro e w1 ⟨rfl, a1⟩
      go_wp2
      go_ret
      exact ⟨ret_bool F.out, a1⟩
    · have O := Lib.hid ho
      have S := Lib.hid hs
      have F := Lib.hid (show yrsB l ys f = mayB b l ys f from by unfold mayB; rw [ho, hs]; simp)
      unfold shB at hs
      rw [Bool.and_eq_true, decide_eq_true_eq] at hs
      obtain ⟨h64, hok⟩ := hs
      have HL := Lib.hid (show n ≤ 64 from by rw [hz.sh.1]; exact h64)
      have HO := Lib.hid hok
      clear ho h64 hok
      have hz1 := hz
      go_enter Try.func17, Try.ntmps17
      go_wp2_with fail
      refine (mayOff_yes _ _ O.out).mono ?_
      rintro e w1 ⟨rfl, rfl⟩
      go_wp2_with fail
      refine (mayShifts_is (w.alloc (.cells #[.int .i64 b, .slice A n c, .slice A' n' c', .int .i64 f] 25)) _ _ _ _ l _ S.out (hz.sh.below (hat.below)) hz.sn .refl).mono ?_
      rintro e w1 ⟨rfl, a1⟩
      obtain ⟨k1, k2⟩ := bcell a1.below
      go_wp2_with fail
      refine (mayYears_any W _ b f A A' n c n' c' l ys hz.sh hz.yr HL.out hz.yn HO.out (hat.on (a1.below.mono (by simp; omega)))).mono ?_
      rintro e w2 ⟨rfl, a2⟩
      go_wp2
      go_ret
      exact ⟨ret_bool F.out, a2⟩
theorem zMay_is (W w : World) (b f : Int) (A A' : Option Addr) (n c n' c' : Nat) (l : List Sh) (ys : List Yr) (x : Bool) (hx : mayB b l ys f = x) (hz : ZnAt W A n A' n' l ys) (ha : At W w) :
    Calls Try.prog 17 #[znV b f A n c A' n' c'] w fun e w' => e = .returned (.bool x) ∧ At W w' := hx ▸ zMay_any W w b f A A' n c n' c' l ys hz ha
/-- zone.May, at the call's own world -/
theorem zMay_own (w : World) (b f : Int) (A A' : Option Addr) (n c n' c' : Nat) (l : List Sh) (ys : List Yr) (x : Bool) (hx : mayB b l ys f = x) (hz : ZnAt w A n A' n' l ys) :
    Calls Try.prog 17 #[znV b f A n c A' n' c'] w fun e w' => e = .returned (.bool x) ∧ Below w.heap.size w w' :=
  (zMay_is w w b f A A' n c n' c' l ys x hx hz .refl).mono fun _ _ h => ⟨h.1, h.2.below⟩
end Go.Proofs.Ytbinhnlajflndaa.Zn
