/- The walk of voklaw11.TimerUnion. -/
import Derived.Test.YtjodhfehfpmfaaaTiF
import Derived.Test.YtjodhfehfpmfaaaIvHas
set_option linter.unusedVariables false
namespace Go.Proofs.Ytjodhfehfpmfaaa.Ti
open Go.RowKit Iv

theorem sort_mem {l : List Int} {y : Int} : y ∈ sortU iltB l ↔ y ∈ l := (sort_all (l := l)).2.2 y
theorem sort_eq {l m : List Int} (h : ∀ y, y ∈ l ↔ y ∈ m) : sortU iltB l = sortU iltB m :=
  int_unique (sort_all (l := l)).1 (sort_all (l := m)).1 fun y => by rw [sort_mem, sort_mem, h]
theorem sort_sort (l : List Int) : sortU iltB (sortU iltB l) = sortU iltB l := sort_eq fun y => sort_mem
/-- two slices in a list of two; and so on: the call of Merge over a new list -/
theorem merge_new (w : World) (S : List SlR) (h : ∀ s ∈ S, IsAt w s.A s.k s.l ∧ s.k ≤ s.c) (hS : S.length ≤ 3) (hf : (flatS S).length ≤ 100000) :
    Calls Try.prog 46 #[.slice (some ⟨w.heap.size, 0, none⟩) S.length S.length] (w.alloc (.cells (S.map fun s => Value.slice s.A s.k s.c).toArray 53)) fun e w' => ∃ A c, e = .returned (.slice A (sortU iltB (flatS S)).length c) ∧ IsAt w' A (sortU iltB (flatS S)).length (sortU iltB (flatS S)) ∧ (sortU iltB (flatS S)).length ≤ c ∧ Below w.heap.size w w' := by
  refine (merge_is _ _ S.length S.length S (ls_new w S 53 h) (by omega) hf).mono ?_
  rintro e w' ⟨A, c, he, hi, hc, hb⟩
  exact ⟨A, c, he, hi, hc, (below_alloc w _).trans (hb.mono (below_alloc w _).size)⟩
set_option maxRecDepth 100000 in
set_option maxHeartbeats 16000000 in
theorem union_walk (w : World) (A B C : Option Addr) (n m k ca cb cc : Nat) (a b c : List Int) (hA : IsAt w A n a) (hB : IsAt w B m b) (hC : IsAt w C k c) (h1 : n ≤ 9223372036854775807) (h2 : m ≤ 9223372036854775807) (h3 : k ≤ 9223372036854775807) (l1 : n ≤ ca) (l2 : m ≤ cb) (l3 : k ≤ cc) :
    Calls Try.prog 9 #[.slice A n ca, .slice B m cb, .slice C k cc] w fun e w' => e = .returned (.bool true) ∧ Below w.heap.size w w' := by
  have HA := Lib.hid hA
  have HB := Lib.hid hB
  have HC := Lib.hid hC
  have EA := Lib.hid hA.1
  have EB := Lib.hid hB.1
  have EC := Lib.hid hC.1
  clear hA hB hC
  go_enter Try.func9, Try.ntmps9
  go_wp2_with fail
  refine (first11 _).mono ?_
  rintro e w1 ⟨rfl, b1⟩
  have B1 := Lib.hid b1
  have sz1 := b1.size
  clear b1
  have out : ∀ {K : Prop}, K → K := fun h => h
  by_cases q1 : 1000 < n
  · have s1 : decide (1000 < n) = true := decide_eq_true q1
    have s2 : decide ((1000 : Int) < n) = true := decide_eq_true (by omega)
    go_wp2_with fail
    refine (first11 _).mono ?_
    rintro e wz ⟨rfl, bz⟩
    have BZ := Lib.hid (B1.out.trans (bz.mono sz1))
    clear bz
    go_wp2_with fail
    go_ret
    exact ⟨rfl, BZ.out⟩
  have s1 : decide (1000 < n) = false := decide_eq_false q1
  have s2 : decide ((1000 : Int) < n) = false := decide_eq_false (by omega)
  by_cases q2 : 1000 < m
  · have s3 : decide (1000 < m) = true := decide_eq_true q2
    have s4 : decide ((1000 : Int) < m) = true := decide_eq_true (by omega)
    go_wp2_with fail
    refine (first11 _).mono ?_
    rintro e wz ⟨rfl, bz⟩
    have BZ := Lib.hid (B1.out.trans (bz.mono sz1))
    clear bz
    go_wp2_with fail
    go_ret
    exact ⟨rfl, BZ.out⟩
  have s3 : decide (1000 < m) = false := decide_eq_false q2
  have s4 : decide ((1000 : Int) < m) = false := decide_eq_false (by omega)
  by_cases q3 : 1000 < k
  · have s5 : decide (1000 < k) = true := decide_eq_true q3
    have s6 : decide ((1000 : Int) < k) = true := decide_eq_true (by omega)
    go_wp2_with fail
    refine (first11 _).mono ?_
    rintro e wz ⟨rfl, bz⟩
    have BZ := Lib.hid (B1.out.trans (bz.mono sz1))
    clear bz
    go_wp2_with fail
    go_ret
    exact ⟨rfl, BZ.out⟩
  have s5 : decide (1000 < k) = false := decide_eq_false q3
  have s6 : decide ((1000 : Int) < k) = false := decide_eq_false (by omega)
  have H1 := Lib.hid (HA.out.below B1.out)
  have H2 := Lib.hid (HB.out.below B1.out)
  have H3 := Lib.hid (HC.out.below B1.out)
  have fl2 : ∀ (X Y : SlR), flatS [X, Y] = X.l ++ Y.l := fun X Y => by simp [flatS]
  have FL2 := Lib.hid fl2
  have M1 := Lib.hid (merge_new w1 [⟨A, n, ca, a⟩, ⟨B, m, cb, b⟩] (fun s hs => by
    rcases List.mem_cons.1 hs with rfl | hs
    · exact ⟨H1.out, l1⟩
    · obtain rfl := List.mem_singleton.1 hs
      exact ⟨H2.out, l2⟩) (by simp) (by rw [fl2, List.length_append]; simp only; have := EA.out; have := EB.out; have := EC.out; omega))
  rw [fl2] at M1
  clear fl2
  have SL := Lib.hid (sort_all (l := a ++ b))
  generalize sortU iltB (a ++ b) = r at *
  have MM := Lib.hid (fun y => SL.out.2.2 y)
  have rl : r.length ≤ 2000 := by have h := SL.out.2.1; rw [List.length_append] at h; have := EA.out; have := EB.out; have := EC.out; omega
  go_wp2_with fail
  refine M1.out.mono ?_
  rintro e w2 ⟨R, cr, rfl, ir, lr, b2⟩
  have IR := Lib.hid ir
  have HA2 := Lib.hid (H1.out.below b2)
  have HB2 := Lib.hid (H2.out.below b2)
  have HC2 := Lib.hid (H3.out.below b2)
  have B2 := Lib.hid (B1.out.trans (b2.mono sz1))
  have sz2 := B2.out.size
  clear ir b2 M1 H1 H2 H3
  generalize hrl : r.length = x at *
  have RL := Lib.hid hrl
  clear hrl
  go_wp2_with fail
  go_loopw [8] (fun i wr => ∃ t : Nat, i = .int .i64 t ∧ t ≤ x ∧ Below w2.heap.size w2 wr) (fun i _ => x - (intOf i).toNat)
  case atStart => exact ⟨0, rfl, Nat.zero_le _, Below.refl _ _⟩
  case round =>
    obtain ⟨wo, rfl⟩ : ∃ wo : World, wo = wr := ⟨_, rfl⟩
    obtain ⟨t, rfl, ht, hI⟩ := hrel
    have II := Lib.hid hI
    by_cases hlt : t < x
    · have s0 : decide ((t : Int) < x) = true := decide_eq_true (by omega)
      have s00 : decide (t < x) = true := decide_eq_true hlt
      have i5 : (t : Int) < x := by omega
      have W1 : IntKind.i64.wrap ((t : Int) + 1) = (t : Int) + 1 := IntWalk.i64_in _ (by omega)
      obtain ⟨br, ofr, rfl, hlr, hcr⟩ := IR.out.2 (by omega)
      have Z := Lib.hid (show ∀ v, Below wo.heap.size wo v → v.cell? ⟨br, ofr + t, none⟩ = some (.int .i64 (gt r t)) from fun v hv => (hv.cell (p := ⟨br, _, none⟩) (Nat.lt_of_lt_of_le hlr hI.size)).trans ((hI.cell (p := ⟨br, _, none⟩) hlr).trans (hcr t hlt)))
      have ZP := Lib.hid (show 0 < t → ∀ v, Below wo.heap.size wo v → v.cell? ⟨br, ofr + (t - 1), none⟩ = some (.int .i64 (gt r (t - 1))) from fun h0 v hv => (hv.cell (p := ⟨br, _, none⟩) (Nat.lt_of_lt_of_le hlr hI.size)).trans ((hI.cell (p := ⟨br, _, none⟩) hlr).trans (hcr (t - 1) (by omega))))
      have UP := Lib.hid (show 0 < t → gt r (t - 1) < gt r t from fun h0 => by
        rw [gt_lt (by have := RL.out; omega), gt_lt (by have := RL.out; omega)]
        exact List.pairwise_iff_getElem.1 SL.out.1 _ _ _ _ (by omega))
      have IN := Lib.hid ((MM.out (gt r t)).1 (gt_mem (by have := RL.out; omega)))
      have HS1 := Lib.hid (fun v (hv : Below wo.heap.size wo v) => has_any v A n ca a (gt r t) ((HA2.out.below hI).below hv) h1)
      have HS2 := Lib.hid (fun v (hv : Below wo.heap.size wo v) => has_any v B m cb b (gt r t) ((HB2.out.below hI).below hv) h2)
      have D0 : Below wo.heap.size wo wo.drew := (Below.refl _ _).drew
      clear hcr hI
      generalize gt r t = y at *
      rcases Nat.eq_zero_or_pos t with rfl | tp
      · simp only [Nat.add_zero] at Z
        by_cases ia : y ∈ a
        · have d1 := decide_eq_true ia
          clear ia
          go_upto_region 9 with fail
          refine wp_region_late (fun _ => false) (fun v => Below wo.heap.size wo v) (by kernel_rfl) ?_
          refine tk 0 rfl (.int .i64 ((0 : Nat) : Int)) (.inl ⟨by kernel_rfl, fun w' hs => ?_⟩) D0 ?_
          · go_simp
          refine tk 1 rfl (.bool false) (.inl ⟨by kernel_rfl, fun w' hs => ?_⟩) D0 ?_
          · go_simp
          refine tk 2 rfl (.bool false) (.inl ⟨by kernel_rfl, fun w' hs => ?_⟩) D0 ?_
          · go_simp
          refine tk 3 rfl undef (.inr ⟨by kernel_rfl, rfl⟩) D0 ?_
          refine tk 4 rfl undef (.inr ⟨by kernel_rfl, rfl⟩) D0 ?_
          refine tk 5 rfl undef (.inr ⟨by kernel_rfl, rfl⟩) D0 ?_
          refine tk 6 rfl undef (.inr ⟨by kernel_rfl, rfl⟩) D0 ?_
          refine tk 7 rfl undef (.inr ⟨by kernel_rfl, rfl⟩) D0 ?_
          refine tk 8 rfl undef (.inr ⟨by kernel_rfl, rfl⟩) D0 ?_
          refine tk 9 rfl undef (.inr ⟨by kernel_rfl, rfl⟩) D0 ?_
          refine tk 10 rfl undef (.inr ⟨by kernel_rfl, rfl⟩) D0 ?_
          refine tk 11 rfl undef (.inr ⟨by kernel_rfl, rfl⟩) D0 ?_
          refine tk 12 rfl undef (.inr ⟨by kernel_rfl, rfl⟩) D0 ?_
          refine tk 13 rfl (.bool false) (.inl ⟨by kernel_rfl, fun w' hs => ?_⟩) D0 ?_
          · go_simp
          refine tk 14 rfl (.bool false) (.inl ⟨by kernel_rfl, fun w' hs => ?_⟩) D0 ?_
          · go_simp
          refine tk 15 rfl (.slice A n ca) (.inl ⟨by kernel_rfl, fun w' hs => ?_⟩) D0 ?_
          · go_simp
          refine tk 16 rfl (.slice (some ⟨br, ofr, none⟩) x cr) (.inl ⟨by kernel_rfl, fun w' hs => ?_⟩) D0 ?_
          · go_simp
          refine tk 17 rfl (.int .i64 ((0 : Nat) : Int)) (.inl ⟨by kernel_rfl, fun w' hs => ?_⟩) D0 ?_
          · go_simp
          refine tk 18 rfl (.pointer (some ⟨br, ofr, none⟩)) (.inl ⟨by kernel_rfl, fun w' hs => ?_⟩) D0 ?_
          · go_simp
          refine tk 19 rfl (.int .i64 y) (.inl ⟨by kernel_rfl, fun w' hs => ?_⟩) D0 ?_
          · have z0 := Z.out _ hs
            go_simp
          refine late_oneG 20 rfl (by kernel_rfl) (by kernel_rfl) ?_
          go_simp
          refine (HS1.out _ D0).mono ?_
          rintro e w4 ⟨rfl, b4⟩
          have D4 := D0.trans (b4.mono D0.size)
          rw [d1]
          refine ⟨D4, ?_⟩
          refine tk 21 rfl (.bool false) (.inl ⟨by kernel_rfl, fun w' hs => ?_⟩) D4 ?_
          · go_simp
          refine tk 22 rfl (.bool false) (.inl ⟨by kernel_rfl, fun w' hs => ?_⟩) D4 ?_
          · go_simp
          refine tk 23 rfl undef (.inr ⟨by kernel_rfl, rfl⟩) D4 ?_
          refine tk 24 rfl undef (.inr ⟨by kernel_rfl, rfl⟩) D4 ?_
          refine tk 25 rfl undef (.inr ⟨by kernel_rfl, rfl⟩) D4 ?_
          refine tk 26 rfl undef (.inr ⟨by kernel_rfl, rfl⟩) D4 ?_
          refine tk 27 rfl undef (.inr ⟨by kernel_rfl, rfl⟩) D4 ?_
          refine tk 28 rfl undef (.inr ⟨by kernel_rfl, rfl⟩) D4 ?_
          refine tk 29 rfl undef (.inr ⟨by kernel_rfl, rfl⟩) D4 ?_
          refine tk 30 rfl (.bool false) (.inl ⟨by kernel_rfl, fun w' hs => ?_⟩) D4 ?_
          · go_simp
          refine tk 31 rfl (.bool false) (.inl ⟨by kernel_rfl, fun w' hs => ?_⟩) D4 ?_
          · go_simp
          refine Late.done (by kernel_rfl) ?_
          have BX := Lib.hid (II.out.trans (D4.mono II.out.size))
          clear D4 Z ZP HS1 HS2
          go_simp
          go_wp2
          go_roundw
          case rel => exact ⟨1, by go_num, by omega, BX.out⟩
          case measure => simp [intOf]; omega
        · have d1 := decide_eq_false ia
          have d2 := decide_eq_true ((List.mem_append.1 IN.out).resolve_left ia)
          clear ia
          go_upto_region 9 with fail
          refine wp_region_late (fun _ => false) (fun v => Below wo.heap.size wo v) (by kernel_rfl) ?_
          refine tk 0 rfl (.int .i64 ((0 : Nat) : Int)) (.inl ⟨by kernel_rfl, fun w' hs => ?_⟩) D0 ?_
          · go_simp
          refine tk 1 rfl (.bool false) (.inl ⟨by kernel_rfl, fun w' hs => ?_⟩) D0 ?_
          · go_simp
          refine tk 2 rfl (.bool false) (.inl ⟨by kernel_rfl, fun w' hs => ?_⟩) D0 ?_
          · go_simp
          refine tk 3 rfl undef (.inr ⟨by kernel_rfl, rfl⟩) D0 ?_
          refine tk 4 rfl undef (.inr ⟨by kernel_rfl, rfl⟩) D0 ?_
          refine tk 5 rfl undef (.inr ⟨by kernel_rfl, rfl⟩) D0 ?_
          refine tk 6 rfl undef (.inr ⟨by kernel_rfl, rfl⟩) D0 ?_
          refine tk 7 rfl undef (.inr ⟨by kernel_rfl, rfl⟩) D0 ?_
          refine tk 8 rfl undef (.inr ⟨by kernel_rfl, rfl⟩) D0 ?_
          refine tk 9 rfl undef (.inr ⟨by kernel_rfl, rfl⟩) D0 ?_
          refine tk 10 rfl undef (.inr ⟨by kernel_rfl, rfl⟩) D0 ?_
          refine tk 11 rfl undef (.inr ⟨by kernel_rfl, rfl⟩) D0 ?_
          refine tk 12 rfl undef (.inr ⟨by kernel_rfl, rfl⟩) D0 ?_
          refine tk 13 rfl (.bool false) (.inl ⟨by kernel_rfl, fun w' hs => ?_⟩) D0 ?_
          · go_simp
          refine tk 14 rfl (.bool false) (.inl ⟨by kernel_rfl, fun w' hs => ?_⟩) D0 ?_
          · go_simp
          refine tk 15 rfl (.slice A n ca) (.inl ⟨by kernel_rfl, fun w' hs => ?_⟩) D0 ?_
          · go_simp
          refine tk 16 rfl (.slice (some ⟨br, ofr, none⟩) x cr) (.inl ⟨by kernel_rfl, fun w' hs => ?_⟩) D0 ?_
          · go_simp
          refine tk 17 rfl (.int .i64 ((0 : Nat) : Int)) (.inl ⟨by kernel_rfl, fun w' hs => ?_⟩) D0 ?_
          · go_simp
          refine tk 18 rfl (.pointer (some ⟨br, ofr, none⟩)) (.inl ⟨by kernel_rfl, fun w' hs => ?_⟩) D0 ?_
          · go_simp
          refine tk 19 rfl (.int .i64 y) (.inl ⟨by kernel_rfl, fun w' hs => ?_⟩) D0 ?_
          · have z0 := Z.out _ hs
            go_simp
          refine late_oneG 20 rfl (by kernel_rfl) (by kernel_rfl) ?_
          go_simp
          refine (HS1.out _ D0).mono ?_
          rintro e w4 ⟨rfl, b4⟩
          have D4 := D0.trans (b4.mono D0.size)
          rw [d1]
          refine ⟨D4, ?_⟩
          refine tk 21 rfl (.bool true) (.inl ⟨by kernel_rfl, fun w' hs => ?_⟩) D4 ?_
          · go_simp
          refine tk 22 rfl (.bool true) (.inl ⟨by kernel_rfl, fun w' hs => ?_⟩) D4 ?_
          · go_simp
          refine tk 23 rfl (.slice B m cb) (.inl ⟨by kernel_rfl, fun w' hs => ?_⟩) D4 ?_
          · go_simp
          refine tk 24 rfl (.slice (some ⟨br, ofr, none⟩) x cr) (.inl ⟨by kernel_rfl, fun w' hs => ?_⟩) D4 ?_
          · go_simp
          refine tk 25 rfl (.int .i64 ((0 : Nat) : Int)) (.inl ⟨by kernel_rfl, fun w' hs => ?_⟩) D4 ?_
          · go_simp
          refine tk 26 rfl (.pointer (some ⟨br, ofr, none⟩)) (.inl ⟨by kernel_rfl, fun w' hs => ?_⟩) D4 ?_
          · go_simp
          refine tk 27 rfl (.int .i64 y) (.inl ⟨by kernel_rfl, fun w' hs => ?_⟩) D4 ?_
          · have z0 := Z.out _ hs
            go_simp
          refine late_oneG 28 rfl (by kernel_rfl) (by kernel_rfl) ?_
          go_simp
          refine (HS2.out _ D4).mono ?_
          rintro e w5 ⟨rfl, b5⟩
          have D5 := D4.trans (b5.mono D4.size)
          rw [d2]
          refine ⟨D5, ?_⟩
          refine tk 29 rfl (.bool false) (.inl ⟨by kernel_rfl, fun w' hs => ?_⟩) D5 ?_
          · go_simp
          refine tk 30 rfl (.bool false) (.inl ⟨by kernel_rfl, fun w' hs => ?_⟩) D5 ?_
          · go_simp
          refine tk 31 rfl (.bool false) (.inl ⟨by kernel_rfl, fun w' hs => ?_⟩) D5 ?_
          · go_simp
          refine Late.done (by kernel_rfl) ?_
          have BX := Lib.hid (II.out.trans (D5.mono II.out.size))
          clear D5 Z ZP HS1 HS2
          go_simp
          go_wp2
          go_roundw
          case rel => exact ⟨1, by go_num, by omega, BX.out⟩
          case measure => simp [intOf]; omega
      · have ZQ := Lib.hid (ZP.out tp)
        have up := UP.out tp
        have W3 : IntKind.i64.wrap ((t : Int) - 1) = ((t - 1 : Nat) : Int) := by rw [IntWalk.i64_in _ (by omega)]; omega
        have j1 : t - 1 < x := by omega
        have j2 : ((t - 1 : Nat) : Int) < x := by omega
        have j5 : decide ((0 : Int) < (t : Int)) = true := decide_eq_true (by omega)
        have j6 : decide (0 < t) = true := decide_eq_true (by omega)
        generalize gt r (t - 1) = z at *
        generalize t - 1 = t0 at *
        have j7 : decide (y ≤ z) = false := decide_eq_false (by omega)
        by_cases ia : y ∈ a
        · have d1 := decide_eq_true ia
          clear ia
          go_upto_region 9 with fail
          refine wp_region_late (fun _ => false) (fun v => Below wo.heap.size wo v) (by kernel_rfl) ?_
          refine tk 0 rfl (.int .i64 t) (.inl ⟨by kernel_rfl, fun w' hs => ?_⟩) D0 ?_
          · go_simp
          refine tk 1 rfl (.bool true) (.inl ⟨by kernel_rfl, fun w' hs => ?_⟩) D0 ?_
          · go_simp
          refine tk 2 rfl (.bool true) (.inl ⟨by kernel_rfl, fun w' hs => ?_⟩) D0 ?_
          · go_simp
          refine tk 3 rfl (.slice (some ⟨br, ofr, none⟩) x cr) (.inl ⟨by kernel_rfl, fun w' hs => ?_⟩) D0 ?_
          · go_simp
          refine tk 4 rfl (.int .i64 t) (.inl ⟨by kernel_rfl, fun w' hs => ?_⟩) D0 ?_
          · go_simp
          refine tk 5 rfl (.pointer (some ⟨br, ofr + t, none⟩)) (.inl ⟨by kernel_rfl, fun w' hs => ?_⟩) D0 ?_
          · go_simp
          refine tk 6 rfl (.int .i64 y) (.inl ⟨by kernel_rfl, fun w' hs => ?_⟩) D0 ?_
          · have z0 := Z.out _ hs
            go_simp
          refine tk 7 rfl (.slice (some ⟨br, ofr, none⟩) x cr) (.inl ⟨by kernel_rfl, fun w' hs => ?_⟩) D0 ?_
          · go_simp
          refine tk 8 rfl (.int .i64 t) (.inl ⟨by kernel_rfl, fun w' hs => ?_⟩) D0 ?_
          · go_simp
          refine tk 9 rfl (.int .i64 t0) (.inl ⟨by kernel_rfl, fun w' hs => ?_⟩) D0 ?_
          · go_simp
          refine tk 10 rfl (.pointer (some ⟨br, ofr + t0, none⟩)) (.inl ⟨by kernel_rfl, fun w' hs => ?_⟩) D0 ?_
          · go_simp
          refine tk 11 rfl (.int .i64 z) (.inl ⟨by kernel_rfl, fun w' hs => ?_⟩) D0 ?_
          · have z0 := ZQ.out _ hs
            go_simp
          refine tk 12 rfl (.bool false) (.inl ⟨by kernel_rfl, fun w' hs => ?_⟩) D0 ?_
          · go_simp
          refine tk 13 rfl (.bool false) (.inl ⟨by kernel_rfl, fun w' hs => ?_⟩) D0 ?_
          · go_simp
          refine tk 14 rfl (.bool false) (.inl ⟨by kernel_rfl, fun w' hs => ?_⟩) D0 ?_
          · go_simp
          refine tk 15 rfl (.slice A n ca) (.inl ⟨by kernel_rfl, fun w' hs => ?_⟩) D0 ?_
          · go_simp
          refine tk 16 rfl (.slice (some ⟨br, ofr, none⟩) x cr) (.inl ⟨by kernel_rfl, fun w' hs => ?_⟩) D0 ?_
          · go_simp
          refine tk 17 rfl (.int .i64 t) (.inl ⟨by kernel_rfl, fun w' hs => ?_⟩) D0 ?_
          · go_simp
          refine tk 18 rfl (.pointer (some ⟨br, ofr + t, none⟩)) (.inl ⟨by kernel_rfl, fun w' hs => ?_⟩) D0 ?_
          · go_simp
          refine tk 19 rfl (.int .i64 y) (.inl ⟨by kernel_rfl, fun w' hs => ?_⟩) D0 ?_
          · have z0 := Z.out _ hs
            go_simp
          refine late_oneG 20 rfl (by kernel_rfl) (by kernel_rfl) ?_
          go_simp
          refine (HS1.out _ D0).mono ?_
          rintro e w4 ⟨rfl, b4⟩
          have D4 := D0.trans (b4.mono D0.size)
          rw [d1]
          refine ⟨D4, ?_⟩
          refine tk 21 rfl (.bool false) (.inl ⟨by kernel_rfl, fun w' hs => ?_⟩) D4 ?_
          · go_simp
          refine tk 22 rfl (.bool false) (.inl ⟨by kernel_rfl, fun w' hs => ?_⟩) D4 ?_
          · go_simp
          refine tk 23 rfl undef (.inr ⟨by kernel_rfl, rfl⟩) D4 ?_
          refine tk 24 rfl undef (.inr ⟨by kernel_rfl, rfl⟩) D4 ?_
          refine tk 25 rfl undef (.inr ⟨by kernel_rfl, rfl⟩) D4 ?_
          refine tk 26 rfl undef (.inr ⟨by kernel_rfl, rfl⟩) D4 ?_
          refine tk 27 rfl undef (.inr ⟨by kernel_rfl, rfl⟩) D4 ?_
          refine tk 28 rfl undef (.inr ⟨by kernel_rfl, rfl⟩) D4 ?_
          refine tk 29 rfl undef (.inr ⟨by kernel_rfl, rfl⟩) D4 ?_
          refine tk 30 rfl (.bool false) (.inl ⟨by kernel_rfl, fun w' hs => ?_⟩) D4 ?_
          · go_simp
          refine tk 31 rfl (.bool false) (.inl ⟨by kernel_rfl, fun w' hs => ?_⟩) D4 ?_
          · go_simp
          refine Late.done (by kernel_rfl) ?_
          have BX := Lib.hid (II.out.trans (D4.mono II.out.size))
          clear D4 Z ZP HS1 HS2
          go_simp
          go_wp2
          go_roundw
          case rel => exact ⟨t + 1, by go_num, by omega, BX.out⟩
          case measure => simp [intOf]; omega
        · have d1 := decide_eq_false ia
          have d2 := decide_eq_true ((List.mem_append.1 IN.out).resolve_left ia)
          clear ia
          go_upto_region 9 with fail
          refine wp_region_late (fun _ => false) (fun v => Below wo.heap.size wo v) (by kernel_rfl) ?_
          refine tk 0 rfl (.int .i64 t) (.inl ⟨by kernel_rfl, fun w' hs => ?_⟩) D0 ?_
          · go_simp
          refine tk 1 rfl (.bool true) (.inl ⟨by kernel_rfl, fun w' hs => ?_⟩) D0 ?_
          · go_simp
          refine tk 2 rfl (.bool true) (.inl ⟨by kernel_rfl, fun w' hs => ?_⟩) D0 ?_
          · go_simp
          refine tk 3 rfl (.slice (some ⟨br, ofr, none⟩) x cr) (.inl ⟨by kernel_rfl, fun w' hs => ?_⟩) D0 ?_
          · go_simp
          refine tk 4 rfl (.int .i64 t) (.inl ⟨by kernel_rfl, fun w' hs => ?_⟩) D0 ?_
          · go_simp
          refine tk 5 rfl (.pointer (some ⟨br, ofr + t, none⟩)) (.inl ⟨by kernel_rfl, fun w' hs => ?_⟩) D0 ?_
          · go_simp
          refine tk 6 rfl (.int .i64 y) (.inl ⟨by kernel_rfl, fun w' hs => ?_⟩) D0 ?_
          · have z0 := Z.out _ hs
            go_simp
          refine tk 7 rfl (.slice (some ⟨br, ofr, none⟩) x cr) (.inl ⟨by kernel_rfl, fun w' hs => ?_⟩) D0 ?_
          · go_simp
          refine tk 8 rfl (.int .i64 t) (.inl ⟨by kernel_rfl, fun w' hs => ?_⟩) D0 ?_
          · go_simp
          refine tk 9 rfl (.int .i64 t0) (.inl ⟨by kernel_rfl, fun w' hs => ?_⟩) D0 ?_
          · go_simp
          refine tk 10 rfl (.pointer (some ⟨br, ofr + t0, none⟩)) (.inl ⟨by kernel_rfl, fun w' hs => ?_⟩) D0 ?_
          · go_simp
          refine tk 11 rfl (.int .i64 z) (.inl ⟨by kernel_rfl, fun w' hs => ?_⟩) D0 ?_
          · have z0 := ZQ.out _ hs
            go_simp
          refine tk 12 rfl (.bool false) (.inl ⟨by kernel_rfl, fun w' hs => ?_⟩) D0 ?_
          · go_simp
          refine tk 13 rfl (.bool false) (.inl ⟨by kernel_rfl, fun w' hs => ?_⟩) D0 ?_
          · go_simp
          refine tk 14 rfl (.bool false) (.inl ⟨by kernel_rfl, fun w' hs => ?_⟩) D0 ?_
          · go_simp
          refine tk 15 rfl (.slice A n ca) (.inl ⟨by kernel_rfl, fun w' hs => ?_⟩) D0 ?_
          · go_simp
          refine tk 16 rfl (.slice (some ⟨br, ofr, none⟩) x cr) (.inl ⟨by kernel_rfl, fun w' hs => ?_⟩) D0 ?_
          · go_simp
          refine tk 17 rfl (.int .i64 t) (.inl ⟨by kernel_rfl, fun w' hs => ?_⟩) D0 ?_
          · go_simp
          refine tk 18 rfl (.pointer (some ⟨br, ofr + t, none⟩)) (.inl ⟨by kernel_rfl, fun w' hs => ?_⟩) D0 ?_
          · go_simp
          refine tk 19 rfl (.int .i64 y) (.inl ⟨by kernel_rfl, fun w' hs => ?_⟩) D0 ?_
          · have z0 := Z.out _ hs
            go_simp
          refine late_oneG 20 rfl (by kernel_rfl) (by kernel_rfl) ?_
          go_simp
          refine (HS1.out _ D0).mono ?_
          rintro e w4 ⟨rfl, b4⟩
          have D4 := D0.trans (b4.mono D0.size)
          rw [d1]
          refine ⟨D4, ?_⟩
          refine tk 21 rfl (.bool true) (.inl ⟨by kernel_rfl, fun w' hs => ?_⟩) D4 ?_
          · go_simp
          refine tk 22 rfl (.bool true) (.inl ⟨by kernel_rfl, fun w' hs => ?_⟩) D4 ?_
          · go_simp
          refine tk 23 rfl (.slice B m cb) (.inl ⟨by kernel_rfl, fun w' hs => ?_⟩) D4 ?_
          · go_simp
          refine tk 24 rfl (.slice (some ⟨br, ofr, none⟩) x cr) (.inl ⟨by kernel_rfl, fun w' hs => ?_⟩) D4 ?_
          · go_simp
          refine tk 25 rfl (.int .i64 t) (.inl ⟨by kernel_rfl, fun w' hs => ?_⟩) D4 ?_
          · go_simp
          refine tk 26 rfl (.pointer (some ⟨br, ofr + t, none⟩)) (.inl ⟨by kernel_rfl, fun w' hs => ?_⟩) D4 ?_
          · go_simp
          refine tk 27 rfl (.int .i64 y) (.inl ⟨by kernel_rfl, fun w' hs => ?_⟩) D4 ?_
          · have z0 := Z.out _ hs
            go_simp
          refine late_oneG 28 rfl (by kernel_rfl) (by kernel_rfl) ?_
          go_simp
          refine (HS2.out _ D4).mono ?_
          rintro e w5 ⟨rfl, b5⟩
          have D5 := D4.trans (b5.mono D4.size)
          rw [d2]
          refine ⟨D5, ?_⟩
          refine tk 29 rfl (.bool false) (.inl ⟨by kernel_rfl, fun w' hs => ?_⟩) D5 ?_
          · go_simp
          refine tk 30 rfl (.bool false) (.inl ⟨by kernel_rfl, fun w' hs => ?_⟩) D5 ?_
          · go_simp
          refine tk 31 rfl (.bool false) (.inl ⟨by kernel_rfl, fun w' hs => ?_⟩) D5 ?_
          · go_simp
          refine Late.done (by kernel_rfl) ?_
          have BX := Lib.hid (II.out.trans (D5.mono II.out.size))
          clear D5 Z ZP HS1 HS2
          go_simp
          go_wp2
          go_roundw
          case rel => exact ⟨t + 1, by go_num, by omega, BX.out⟩
          case measure => simp [intOf]; omega
    · obtain rfl : x = t := by omega
      have s0 : decide ((x : Int) < x) = false := decide_eq_false (by omega)
      have s00 : decide (x < x) = false := decide_eq_false (by omega)
      have HA3 := Lib.hid (HA2.out.below hI)
      have IR3 := Lib.hid (IR.out.below hI)
      have B3 := Lib.hid (B2.out.trans (hI.mono sz2))
      have sz3 := B3.out.size
      clear hI
      go_wp2_with fail
      go_loopw [9] (fun i wr => ∃ t : Nat, i = .int .i64 t ∧ t ≤ n ∧ Below wo.heap.size wo wr) (fun i _ => n - (intOf i).toNat)
      case atStart => exact ⟨0, rfl, Nat.zero_le _, Below.refl _ _⟩
      case round =>
        obtain ⟨wi, rfl⟩ : ∃ wi : World, wi = wr := ⟨_, rfl⟩
        obtain ⟨t, rfl, ht, hJ⟩ := hrel
        by_cases hlt : t < n
        · have s7 : decide ((t : Int) < n) = true := decide_eq_true (by omega)
          have s77 : decide (t < n) = true := decide_eq_true hlt
          have i6 : (t : Int) < n := by omega
          have W1 : IntKind.i64.wrap ((t : Int) + 1) = (t : Int) + 1 := IntWalk.i64_in _ (by omega)
          obtain ⟨bq, oq, rfl, hlq, hcq⟩ := HA3.out.2 (by omega)
          have c0 := (hJ.cell (p := ⟨bq, _, none⟩) hlq).trans (hcq t hlt)
          have HM := Lib.hid (has_any wi R x cr r (gt a t) (IR3.out.below hJ) (by omega))
          rw [decide_eq_true ((MM.out _).2 (List.mem_append_left _ (gt_mem (by have := EA.out; omega))))] at HM
          have JJ := Lib.hid hJ
          clear hJ hcq
          generalize gt a t = y at *
          go_wp2_with fail
          refine HM.out.mono ?_
          rintro e w4 ⟨rfl, b4⟩
          have B4 := Lib.hid (JJ.out.trans (b4.mono JJ.out.size))
          clear b4
          go_wp2_with fail
          go_roundw
          case rel => exact ⟨t + 1, by go_num, by omega, B4.out⟩
          case measure => simp [intOf]; omega
        · obtain rfl : n = t := by omega
          have s7 : decide ((n : Int) < n) = false := decide_eq_false (by omega)
          have s77 : decide (n < n) = false := decide_eq_false (by omega)
          have B4 := Lib.hid (B3.out.trans (hJ.mono sz3))
          have R4 := Lib.hid (IR3.out.below hJ)
          have A4 := Lib.hid (HA3.out.below hJ)
          have bo := II.out.trans (hJ.mono II.out.size)
          have B4b := Lib.hid (HB2.out.below bo)
          have C4 := Lib.hid (HC2.out.below bo)
          clear hJ bo IR3 HA3
          go_wp2_with fail
          refine (first11 _).mono ?_
          rintro e w5 ⟨rfl, b5⟩
          have R5 := Lib.hid (R4.out.below b5)
          have A5 := Lib.hid (A4.out.below b5)
          have Bb5 := Lib.hid (B4b.out.below b5)
          have C5 := Lib.hid (C4.out.below b5)
          have B5 := Lib.hid (B4.out.trans (b5.mono B4.out.size))
          clear b5 R4 A4 B4b C4
          have E1 := Lib.hid (show sortU iltB (c ++ b ++ a) = sortU iltB (r ++ c) from sort_eq fun y => by
            rw [List.mem_append, List.mem_append, List.mem_append, MM.out, List.mem_append]
            constructor
            · rintro ((h | h) | h)
              · exact .inr h
              · exact .inl (.inr h)
              · exact .inl (.inl h)
            · rintro ((h | h) | h)
              · exact .inr h
              · exact .inl (.inr h)
              · exact .inl (.inl h))
          have E2 := Lib.hid (show sortU iltB r = r from int_unique (sort_all (l := r)).1 SL.out.1 fun y => sort_mem)
          have M5 := Lib.hid (merge_new w5 [⟨R, x, cr, r⟩, ⟨C, k, cc, c⟩] (fun s hs => by
            rcases List.mem_cons.1 hs with rfl | hs
            · exact ⟨R5.out, lr⟩
            · obtain rfl := List.mem_singleton.1 hs
              exact ⟨C5.out, l3⟩) (by simp) (by rw [FL2.out, List.length_append]; simp only; have := RL.out; have := EA.out; have := EB.out; have := EC.out; omega))
          rw [FL2.out] at M5
          simp only at M5
          have sl : (sortU iltB (r ++ c)).length ≤ 100000 := by have h := (sort_all (l := r ++ c)).2.1; rw [List.length_append] at h; have := RL.out; have := EA.out; have := EB.out; have := EC.out; omega
          generalize sortU iltB (r ++ c) = u at *
          go_wp2_with fail
          refine M5.out.mono ?_
          rintro e w6 ⟨U, cu, rfl, iu, -, b6⟩
          have IU := Lib.hid iu
          have R6 := Lib.hid (R5.out.below b6)
          have A6 := Lib.hid (A5.out.below b6)
          have Bb6 := Lib.hid (Bb5.out.below b6)
          have C6 := Lib.hid (C5.out.below b6)
          have B6 := Lib.hid (B5.out.trans (b6.mono B5.out.size))
          clear iu b6 M5 R5 A5 Bb5 C5
          have M6 := Lib.hid (merge_new w6 [⟨C, k, cc, c⟩, ⟨B, m, cb, b⟩, ⟨A, n, ca, a⟩] (fun s hs => by
            rcases List.mem_cons.1 hs with rfl | hs
            · exact ⟨C6.out, l3⟩
            · rcases List.mem_cons.1 hs with rfl | hs
              · exact ⟨Bb6.out, l2⟩
              · obtain rfl := List.mem_singleton.1 hs
                exact ⟨A6.out, l1⟩) (by simp) (by simp [flatS]; have := EA.out; have := EB.out; have := EC.out; omega))
          rw [show flatS [⟨C, k, cc, c⟩, ⟨B, m, cb, b⟩, ⟨A, n, ca, a⟩] = c ++ b ++ a by simp [flatS], E1.out] at M6
          go_wp2_with fail
          refine M6.out.mono ?_
          rintro e w7 ⟨V, cv, rfl, iv, -, b7⟩
          have IV := Lib.hid iv
          have IU7 := Lib.hid (IU.out.below b7)
          have R7 := Lib.hid (R6.out.below b7)
          have B7 := Lib.hid (B6.out.trans (b7.mono B6.out.size))
          clear iv b7 M6 R6 A6 Bb6 C6 IU
          go_wp2_with fail
          refine (ints_same w7 U V u.length cu cv u IU7.out IV.out (by omega)).mono ?_
          rintro e w8 ⟨rfl, b8⟩
          have R8 := Lib.hid (R7.out.below b8)
          have B8 := Lib.hid (B7.out.trans (b8.mono B7.out.size))
          clear b8 IU7 IV R7
          have M8 := Lib.hid (merge_new w8 [⟨R, x, cr, r⟩] (fun s hs => by
            obtain rfl := List.mem_singleton.1 hs
            exact ⟨R8.out, lr⟩) (by simp) (by simp [flatS]; have := RL.out; omega))
          rw [show flatS [⟨R, x, cr, r⟩] = r by simp [flatS], E2.out, RL.out] at M8
          go_wp2_with fail
          refine M8.out.mono ?_
          rintro e w9 ⟨V, cv, rfl, iv, -, b9⟩
          have IV := Lib.hid iv
          have R9 := Lib.hid (R8.out.below b9)
          have B9 := Lib.hid (B8.out.trans (b9.mono B8.out.size))
          clear iv b9 M8 R8
          go_wp2_with fail
          refine (ints_same w9 V R x cv cr r IV.out R9.out (by omega)).mono ?_
          rintro e w10 ⟨rfl, b10⟩
          have B10 := Lib.hid (B9.out.trans (b10.mono B9.out.size))
          clear b10
          go_wp2_with fail
          go_ret
          exact ⟨rfl, B10.out⟩
end Go.Proofs.Ytjodhfehfpmfaaa.Ti
