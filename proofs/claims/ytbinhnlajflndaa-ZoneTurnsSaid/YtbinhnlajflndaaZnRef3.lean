/- The walks of the document's own answers on zones: vokref1's Offset, Local, UTC. -/
import Derived.Test.YtbinhnlajflndaaZnRef2
set_option linter.unusedVariables false
namespace Go.Proofs.Ytbinhnlajflndaa.Zn
open Go.RowKit Cv St

set_option maxHeartbeats 4000000 in
theorem rOffset_own (w : World) (b f : Int) (A A' : Option Addr) (n c n' c' : Nat) (l : List Sh) (ys : List Yr) (u : Int) (hz : ZnAt w A n A' n' l ys) (hcn : A = none → c = 0) :
    Calls Try.prog 20 #[.agg #[.int .i64 b, .slice A n c, .slice A' n' c', .int .i64 f], .int .i64 u] w fun e w' => e = .returned (.int .i64 (offR b l ys f u)) ∧ Below w.heap.size w w' := by
  have ba := ((Below.refl _ _).alloc (Nat.le_refl _) (.cells #[.int .i64 b, .slice A n c, .slice A' n' c', .int .i64 f] 25) (w := w))
  have Z := Blk.new w 25 #[.int .i64 b, .slice A n c, .slice A' n' c', .int .i64 f]
  have hz1 := hz.below ba
  cases h : mayB b l ys f
  · have R := Lib.hid (show offR b l ys f u = 0 from by unfold offR; simp [h])
    have H := Lib.hid h
    clear h
    go_enter Try.func20, Try.ntmps20
    go_wp2_with fail
    refine (rMay_is _ b f A A' n c n' c' l ys _ H.out hz1).mono ?_
    rintro e w1 ⟨rfl, hb1⟩
    replace Z := Z.below hb1 Z.lt
    have lz := Z.lt
    have z0 := Z.cell 0; have z1 := Z.cell 1; have z2 := Z.cell 2; have z3 := Z.cell 3
    simp at z0 z1 z2 z3
    go_wp2
    go_ret
    exact ⟨ret_int R.out.symm, ba.trans (hb1.mono (by simp))⟩
  · cases hu : mayT u
    · have R := Lib.hid (show offR b l ys f u = 0 from by unfold offR; simp [hu])
      have H := Lib.hid h; have HU := Lib.hid hu
      clear h hu
      go_enter Try.func20, Try.ntmps20
      go_wp2_with fail
      refine (rMay_is _ b f A A' n c n' c' l ys _ H.out hz1).mono ?_
      rintro e w1 ⟨rfl, hb1⟩
      replace Z := Z.below hb1 Z.lt
      have lz := Z.lt
      have z0 := Z.cell 0; have z1 := Z.cell 1; have z2 := Z.cell 2; have z3 := Z.cell 3
      simp at z0 z1 z2 z3
      go_wp2_with fail
      refine (rmayS_no _ _ HU.out).mono ?_
      rintro e w2 ⟨rfl, rfl⟩
      go_wp2
      go_ret
      exact ⟨ret_int R.out.symm, ba.trans (hb1.mono (by simp))⟩
    · have H := Lib.hid h; have HU := Lib.hid hu
      cases hs : bef l ys f u with
      | none =>
        have S := Lib.hid (show befR b l ys f u = none from by rw [befR_eq h hu]; exact hs)
        have R := Lib.hid (show offR b l ys f u = b from by rw [offR_eq h hu]; unfold ofs; rw [hs])
        clear h hu hs
        go_enter Try.func20, Try.ntmps20
        go_wp2_with fail
        refine (rMay_is _ b f A A' n c n' c' l ys _ H.out hz1).mono ?_
        rintro e w1 ⟨rfl, hb1⟩
        replace Z := Z.below hb1 Z.lt
        have lz := Z.lt
        have z0 := Z.cell 0; have z1 := Z.cell 1; have z2 := Z.cell 2; have z3 := Z.cell 3
        simp at z0 z1 z2 z3
        go_wp2_with fail
        refine (rmayS_yes _ _ HU.out).mono ?_
        rintro e w2 ⟨rfl, rfl⟩
        go_wp2_with fail
        refine (rBef_none _ b f A A' n c n' c' l ys u S.out (hz1.below hb1) hcn).mono ?_
        rintro e w3 ⟨rfl, hb3⟩
        replace Z := Z.below hb3 Z.lt
        clear lz z0 z1 z2 z3
        have lz := Z.lt
        have z0 := Z.cell 0; have z1 := Z.cell 1; have z2 := Z.cell 2; have z3 := Z.cell 3
        simp at z0 z1 z2 z3
        go_wp2
        go_ret
        exact ⟨ret_int R.out.symm, ((ba.trans (hb1.mono (by simp))).trans (hb3.mono (by have := hb1.size; simp at this; omega))).alloc (by omega) _⟩
      | some s =>
        have S := Lib.hid (show befR b l ys f u = some s from by rw [befR_eq h hu]; exact hs)
        have R := Lib.hid (show offR b l ys f u = s.o from by rw [offR_eq h hu]; unfold ofs; rw [hs])
        clear h hu hs
        go_enter Try.func20, Try.ntmps20
        go_wp2_with fail
        refine (rMay_is _ b f A A' n c n' c' l ys _ H.out hz1).mono ?_
        rintro e w1 ⟨rfl, hb1⟩
        replace Z := Z.below hb1 Z.lt
        have lz := Z.lt
        have z0 := Z.cell 0; have z1 := Z.cell 1; have z2 := Z.cell 2; have z3 := Z.cell 3
        simp at z0 z1 z2 z3
        go_wp2_with fail
        refine (rmayS_yes _ _ HU.out).mono ?_
        rintro e w2 ⟨rfl, rfl⟩
        go_wp2_with fail
        refine (rBef_some _ b f A A' n c n' c' l ys u s S.out (hz1.below hb1) hcn).mono ?_
        rintro e w3 ⟨rfl, hb3⟩
        replace Z := Z.below hb3 Z.lt
        clear lz z0 z1 z2 z3
        have lz := Z.lt
        have z0 := Z.cell 0; have z1 := Z.cell 1; have z2 := Z.cell 2; have z3 := Z.cell 3
        simp at z0 z1 z2 z3
        go_wp2
        go_ret
        exact ⟨ret_int R.out.symm, ((ba.trans (hb1.mono (by simp))).trans (hb3.mono (by have := hb1.size; simp at this; omega))).alloc (by omega) _⟩
theorem rOffset_is (w : World) (b f : Int) (A A' : Option Addr) (n c n' c' : Nat) (l : List Sh) (ys : List Yr) (u x : Int) (hx : offR b l ys f u = x) (hz : ZnAt w A n A' n' l ys) (hcn : A = none → c = 0) :
    Calls Try.prog 20 #[.agg #[.int .i64 b, .slice A n c, .slice A' n' c', .int .i64 f], .int .i64 u] w fun e w' => e = .returned (.int .i64 x) ∧ Below w.heap.size w w' := hx ▸ rOffset_own w b f A A' n c n' c' l ys u hz hcn
set_option maxHeartbeats 4000000 in
theorem rLocal_own (w : World) (b f : Int) (A A' : Option Addr) (n c n' c' : Nat) (l : List Sh) (ys : List Yr) (u : Int) (hz : ZnAt w A n A' n' l ys) (hcn : A = none → c = 0) :
    Calls Try.prog 22 #[.agg #[.int .i64 b, .slice A n c, .slice A' n' c', .int .i64 f], .int .i64 u] w fun e w' => e = .returned (.int .i64 (locR b l ys f u)) ∧ Below w.heap.size w w' := by
  have ba := ((Below.refl _ _).alloc (Nat.le_refl _) (.cells #[.int .i64 b, .slice A n c, .slice A' n' c', .int .i64 f] 25) (w := w))
  have Z := Blk.new w 25 #[.int .i64 b, .slice A n c, .slice A' n' c', .int .i64 f]
  have hz1 := hz.below ba
  cases h : mayB b l ys f
  · have R := Lib.hid (show locR b l ys f u = 0 from by unfold locR; simp [h])
    have H := Lib.hid h
    clear h
    go_enter Try.func22, Try.ntmps22
    go_wp2_with fail
    refine (rMay_is _ b f A A' n c n' c' l ys _ H.out hz1).mono ?_
    rintro e w1 ⟨rfl, hb1⟩
    replace Z := Z.below hb1 Z.lt
    have lz := Z.lt
    have z0 := Z.cell 0; have z1 := Z.cell 1; have z2 := Z.cell 2; have z3 := Z.cell 3
    simp at z0 z1 z2 z3
    go_wp2
    go_ret
    exact ⟨ret_int R.out.symm, ba.trans (hb1.mono (by simp))⟩
  · cases hu : mayT u
    · have R := Lib.hid (show locR b l ys f u = 0 from by unfold locR; simp [hu])
      have H := Lib.hid h; have HU := Lib.hid hu
      clear h hu
      go_enter Try.func22, Try.ntmps22
      go_wp2_with fail
      refine (rMay_is _ b f A A' n c n' c' l ys _ H.out hz1).mono ?_
      rintro e w1 ⟨rfl, hb1⟩
      replace Z := Z.below hb1 Z.lt
      have lz := Z.lt
      have z0 := Z.cell 0; have z1 := Z.cell 1; have z2 := Z.cell 2; have z3 := Z.cell 3
      simp at z0 z1 z2 z3
      go_wp2_with fail
      refine (rmayS_no _ _ HU.out).mono ?_
      rintro e w2 ⟨rfl, rfl⟩
      go_wp2
      go_ret
      exact ⟨ret_int R.out.symm, ba.trans (hb1.mono (by simp))⟩
    · have H := Lib.hid h; have HU := Lib.hid hu
      have bd := ofs_bd h hu
      obtain ⟨u1, u2⟩ := mayT_of hu
      obtain ⟨x, hx⟩ : ∃ x, offR b l ys f u = x := ⟨_, rfl⟩
      rw [← offR_eq h hu, hx] at bd
      obtain ⟨d1, d2⟩ := bd
      have X := Lib.hid hx
      have R := Lib.hid (show locR b l ys f u = u + x from by rw [locR_eq h hu, ← offR_eq h hu, hx])
      clear h hu hx
      go_enter Try.func22, Try.ntmps22
      go_wp2_with fail
      refine (rMay_is _ b f A A' n c n' c' l ys _ H.out hz1).mono ?_
      rintro e w1 ⟨rfl, hb1⟩
      replace Z := Z.below hb1 Z.lt
      have lz := Z.lt
      have z0 := Z.cell 0; have z1 := Z.cell 1; have z2 := Z.cell 2; have z3 := Z.cell 3
      simp at z0 z1 z2 z3
      go_wp2_with fail
      refine (rmayS_yes _ _ HU.out).mono ?_
      rintro e w2 ⟨rfl, rfl⟩
      go_wp2_with fail
      refine (rOffset_is _ b f A A' n c n' c' l ys u x X.out (hz1.below hb1) hcn).mono ?_
      rintro e w3 ⟨rfl, hb3⟩
      go_wp2
      go_ret
      exact ⟨ret_int R.out.symm, (ba.trans (hb1.mono (by simp))).trans (hb3.mono (by have := hb1.size; simp at this; omega))⟩
theorem rLocal_is (w : World) (b f : Int) (A A' : Option Addr) (n c n' c' : Nat) (l : List Sh) (ys : List Yr) (u x : Int) (hx : locR b l ys f u = x) (hz : ZnAt w A n A' n' l ys) (hcn : A = none → c = 0) :
    Calls Try.prog 22 #[.agg #[.int .i64 b, .slice A n c, .slice A' n' c', .int .i64 f], .int .i64 u] w fun e w' => e = .returned (.int .i64 x) ∧ Below w.heap.size w w' := hx ▸ rLocal_own w b f A A' n c n' c' l ys u hz hcn
theorem ny_2 : ny 2 = -718797 := by decide
theorem ny_9999 : ny 9999 = 2932532 := by decide
theorem rutc_a {F : Int → Int} {L o p a x : Int} (e1 : F (L - 64801) = o) (e2 : F (L + 64800) = p) (m : min (L - o) (L - p) = a ∧ max (L - o) (L - p) = max (L - o) (L - p)) (ea : a + F a = x) (h : L = x) : rutcF F L = a := by
  unfold rutcF; rw [e1, e2, m.1, ea, if_pos h]
theorem rutc_b {F : Int → Int} {L o p a q x y : Int} (e1 : F (L - 64801) = o) (e2 : F (L + 64800) = p) (m : min (L - o) (L - p) = a ∧ max (L - o) (L - p) = q) (ea : a + F a = x) (eb : q + F q = y) (h : L ≠ x) (h2 : L = y) : rutcF F L = q := by
  unfold rutcF; rw [e1, e2, m.1, m.2, ea, eb, if_neg h, if_pos h2]
theorem rutc_o {F : Int → Int} {L o p a q x y : Int} (e1 : F (L - 64801) = o) (e2 : F (L + 64800) = p) (m : min (L - o) (L - p) = a ∧ max (L - o) (L - p) = q) (ea : a + F a = x) (eb : q + F q = y) (h : L ≠ x) (h2 : L ≠ y) : rutcF F L = L - o := by
  unfold rutcF; rw [e1, e2, m.1, m.2, ea, eb, if_neg h, if_neg h2]
/-- the offsets that the document's UTC looks at -/
structure Nums (b f : Int) (l : List Sh) (ys : List Yr) (L o p : Int) : Prop where
  ho : offR b l ys f (L - 64801) = o
  hp : offR b l ys f (L + 64800) = p
set_option maxRecDepth 100000 in
set_option maxHeartbeats 8000000 in
theorem rUTC_own (w : World) (b f : Int) (A A' : Option Addr) (n c n' c' : Nat) (l : List Sh) (ys : List Yr) (L : Int) (l1 : -9223372036854775808 ≤ L) (l2 : L ≤ 9223372036854775807) (hz : ZnAt w A n A' n' l ys) (hcn : A = none → c = 0) :
    Calls Try.prog 26 #[.agg #[.int .i64 b, .slice A n c, .slice A' n' c', .int .i64 f], .int .i64 L] w fun e w' => e = .returned (.int .i64 (utcR b l ys f L)) ∧ Below w.heap.size w w' := by
  have ba := ((Below.refl _ _).alloc (Nat.le_refl _) (.cells #[.int .i64 b, .slice A n c, .slice A' n' c', .int .i64 f] 25) (w := w))
  have Z := Blk.new w 25 #[.int .i64 b, .slice A n c, .slice A' n' c', .int .i64 f]
  have hz1 := hz.below ba
  cases h : mayB b l ys f
  · have R := Lib.hid (show utcR b l ys f L = 0 from by unfold utcR; simp [h])
    have H := Lib.hid h
    clear h
    go_enter Try.func26, Try.ntmps26
    go_wp2_with fail
    refine (rMay_is _ b f A A' n c n' c' l ys _ H.out hz1).mono ?_
    rintro e w1 ⟨rfl, hb1⟩
    replace Z := Z.below hb1 Z.lt
    have lz := Z.lt
    have z0 := Z.cell 0; have z1 := Z.cell 1; have z2 := Z.cell 2; have z3 := Z.cell 3
    simp at z0 z1 z2 z3
    go_wp2
    go_ret
    exact ⟨ret_int R.out.symm, ba.trans (hb1.mono (by simp))⟩
  · cases hL : mayL L
    · have R := Lib.hid (show utcR b l ys f L = 0 from by unfold utcR; simp [hL])
      have H := Lib.hid h
      rcases mayL_not hL with k | k
      · clear h hL
        go_enter Try.func26, Try.ntmps26
        go_wp2_with fail
        refine (rMay_is _ b f A A' n c n' c' l ys _ H.out hz1).mono ?_
        rintro e w1 ⟨rfl, hb1⟩
        replace Z := Z.below hb1 Z.lt
        have lz := Z.lt
        have z0 := Z.cell 0; have z1 := Z.cell 1; have z2 := Z.cell 2; have z3 := Z.cell 3
        simp at z0 z1 z2 z3
        go_wp2_with fail
        refine (rfirst_any 2 _ (by decide) (by decide)).mono ?_
        rintro e w2 ⟨rfl, rfl⟩
        rw [ny_2]
        go_wp2
        go_ret
        exact ⟨ret_int R.out.symm, ba.trans (hb1.mono (by simp))⟩
      · have k' : -62104060800 ≤ L := by omega
        have k2 : 253370764800 ≤ L := by omega
        clear h hL
        go_enter Try.func26, Try.ntmps26
        go_wp2_with fail
        refine (rMay_is _ b f A A' n c n' c' l ys _ H.out hz1).mono ?_
        rintro e w1 ⟨rfl, hb1⟩
        replace Z := Z.below hb1 Z.lt
        have lz := Z.lt
        have z0 := Z.cell 0; have z1 := Z.cell 1; have z2 := Z.cell 2; have z3 := Z.cell 3
        simp at z0 z1 z2 z3
        go_wp2_with fail
        refine (rfirst_any 2 _ (by decide) (by decide)).mono ?_
        rintro e w2 ⟨rfl, rfl⟩
        rw [ny_2]
        go_wp2_with fail
        refine (rfirst_any 9999 _ (by decide) (by decide)).mono ?_
        rintro e w2 ⟨rfl, rfl⟩
        rw [ny_9999]
        go_wp2
        go_ret
        exact ⟨ret_int R.out.symm, ba.trans (hb1.mono (by simp))⟩
    · obtain ⟨L1, L2⟩ := of_decide_eq_true hL
      have H := Lib.hid h
      have m0 : mayT (L - 64801) = true := decide_eq_true ⟨by omega, by omega⟩
      have m1 : mayT (L + 64800) = true := decide_eq_true ⟨by omega, by omega⟩
      obtain ⟨o, ho⟩ : ∃ x, offR b l ys f (L - 64801) = x := ⟨_, rfl⟩
      obtain ⟨p, hp⟩ : ∃ x, offR b l ys f (L + 64800) = x := ⟨_, rfl⟩
      have bo := ofs_bd h m0; have bp := ofs_bd h m1
      rw [← offR_eq h m0, ho] at bo
      rw [← offR_eq h m1, hp] at bp
      have mo : mayT (L - o) = true := decide_eq_true ⟨by omega, by omega⟩
      have mp : mayT (L - p) = true := decide_eq_true ⟨by omega, by omega⟩
      have RU : utcR b l ys f L = rutcF (ofs b l ys f) L := by rw [utcR_eq h hL, utc_rutc h hL]
      obtain ⟨x, hx⟩ : ∃ x, locR b l ys f (L - o) = x := ⟨_, rfl⟩
      obtain ⟨y, hy⟩ : ∃ y, locR b l ys f (L - p) = y := ⟨_, rfl⟩
      have e1 : ofs b l ys f (L - 64801) = o := by rw [← offR_eq h m0]; exact ho
      have e2 : ofs b l ys f (L + 64800) = p := by rw [← offR_eq h m1]; exact hp
      have e3 : L - o + ofs b l ys f (L - o) = x := by rw [← locR_eq h mo]; exact hx
      have e4 : L - p + ofs b l ys f (L - p) = y := by rw [← locR_eq h mp]; exact hy
      obtain ⟨bo1, bo2⟩ := bo; obtain ⟨bp1, bp2⟩ := bp
      have HO := Lib.hid ho; have HP := Lib.hid hp; have HX := Lib.hid hx; have HY := Lib.hid hy
      have RF := Lib.hid RU
      have E1 := Lib.hid e1; have E2 := Lib.hid e2; have E3 := Lib.hid e3; have E4 := Lib.hid e4
      clear h hL ho hp hx hy mo mp m0 m1 RU e1 e2 e3 e4
      by_cases cw : L - p < L - o
      · by_cases c1 : L = y
        · have R := Lib.hid (show utcR b l ys f L = L - p from by rw [RF.out]; exact rutc_a E1.out E2.out (by omega) E4.out c1)
          have t1 : ((L : Int) == y) = true := by rw [beq_iff_eq]; exact c1
          clear c1
          go_enter Try.func26, Try.ntmps26
          go_wp2_with fail
          refine (rMay_is _ b f A A' n c n' c' l ys _ H.out hz1).mono ?_
          rintro e w1 ⟨rfl, hb1⟩
          replace Z := Z.below hb1 Z.lt
          have lz := Z.lt
          have z0 := Z.cell 0; have z1 := Z.cell 1; have z2 := Z.cell 2; have z3 := Z.cell 3
          simp at z0 z1 z2 z3
          go_wp2_with fail
          refine (rfirst_any 2 _ (by decide) (by decide)).mono ?_
          rintro e w2 ⟨rfl, rfl⟩
          rw [ny_2]
          go_wp2_with fail
          refine (rfirst_any 9999 _ (by decide) (by decide)).mono ?_
          rintro e w2 ⟨rfl, rfl⟩
          rw [ny_9999]
          go_wp2_with fail
          have p9 : Past w1 w1 := Below.refl _ _
          have q0 : ∀ v : In (Past w1), v.w.cell? ⟨w.heap.size, 0, none⟩ = some (.int .i64 b) := fun v => (Below.cell (p := ⟨_, 0, none⟩) (show Below _ _ _ from v.h) lz).trans z0
          have q1 : ∀ v : In (Past w1), v.w.cell? ⟨w.heap.size, 1, none⟩ = some (.slice A n c) := fun v => (Below.cell (p := ⟨_, 1, none⟩) (show Below _ _ _ from v.h) lz).trans z1
          have q2 : ∀ v : In (Past w1), v.w.cell? ⟨w.heap.size, 2, none⟩ = some (.slice A' n' c') := fun v => (Below.cell (p := ⟨_, 2, none⟩) (show Below _ _ _ from v.h) lz).trans z2
          have q3 : ∀ v : In (Past w1), v.w.cell? ⟨w.heap.size, 3, none⟩ = some (.int .i64 f) := fun v => (Below.cell (p := ⟨_, 3, none⟩) (show Below _ _ _ from v.h) lz).trans z3
          have HQ := Lib.hid (fun (v : In (Past w1)) => (hz1.below hb1).below (show Below _ _ _ from v.h))
          have s1 : IntKind.i64.wrap (L - 64800) = L - 64800 := IntWalk.i64_in _ (by omega)
          have s2 : IntKind.i64.wrap (L - 64800 - 1) = L - 64801 := by rw [show L - 64800 - 1 = L - 64801 from by omega]; exact IntWalk.i64_in _ (by omega)
          have s3 : IntKind.i64.wrap (L + 64800) = L + 64800 := IntWalk.i64_in _ (by omega)
          have hne : Nonempty (In (Past w1)) := ⟨⟨_, p9⟩⟩
          refine wp_region_class (Past w1) (by kernel_rfl) (by kernel_rfl) (Past.drew' p9) ?_
          repeat (any_goals (first | go_big_quiet_step (first | (with_reducible refine quiet_cl Past.on (rOffset_is _ b f A A' n c n' c' l ys _ _ HO.out ?_ hcn); exact HQ.out _) | (with_reducible refine quiet_cl Past.on (rOffset_is _ b f A A' n c n' c' l ys _ _ HP.out ?_ hcn); exact HQ.out _))))
          refine wpQuiet_nil ?_
          rintro _ ⟨⟨w3, hb3⟩, rfl⟩
          have hb13 : Below w1.heap.size w1 _ := hb3
          clear HQ hne p9 q0 q1 q2 q3 s1 s2 s3
          have hb4 := hb1.trans (hb13.mono hb1.size)
          replace Z := Z.below hb13 Z.lt
          clear lz z0 z1 z2 z3
          have lz := Z.lt
          have z0 := Z.cell 0; have z1 := Z.cell 1; have z2 := Z.cell 2; have z3 := Z.cell 3
          simp at z0 z1 z2 z3
          go_wp2_with fail
          refine (rLocal_is _ b f A A' n c n' c' l ys _ _ HY.out (hz1.below hb4) hcn).mono ?_
          rintro e w5 ⟨rfl, hc5⟩
          have hb5 := hb4.trans (hc5.mono hb4.size)
          replace Z := Z.below hc5 Z.lt
          clear lz z0 z1 z2 z3
          have lz := Z.lt
          have z0 := Z.cell 0; have z1 := Z.cell 1; have z2 := Z.cell 2; have z3 := Z.cell 3
          simp at z0 z1 z2 z3
          go_wp2
          go_ret
          exact ⟨ret_int R.out.symm, ba.trans (hb5.mono (by simp))⟩
        · have t1 : ((L : Int) == y) = false := by rw [beq_eq_false_iff_ne]; exact c1
          by_cases c2 : L = x
          · have R := Lib.hid (show utcR b l ys f L = L - o from by rw [RF.out]; exact rutc_b E1.out E2.out (by omega) E4.out E3.out c1 c2)
            have t2 : ((L : Int) == x) = true := by rw [beq_iff_eq]; exact c2
            clear c1 c2
            go_enter Try.func26, Try.ntmps26
            go_wp2_with fail
            refine (rMay_is _ b f A A' n c n' c' l ys _ H.out hz1).mono ?_
            rintro e w1 ⟨rfl, hb1⟩
            replace Z := Z.below hb1 Z.lt
            have lz := Z.lt
            have z0 := Z.cell 0; have z1 := Z.cell 1; have z2 := Z.cell 2; have z3 := Z.cell 3
            simp at z0 z1 z2 z3
            go_wp2_with fail
            refine (rfirst_any 2 _ (by decide) (by decide)).mono ?_
            rintro e w2 ⟨rfl, rfl⟩
            rw [ny_2]
            go_wp2_with fail
            refine (rfirst_any 9999 _ (by decide) (by decide)).mono ?_
            rintro e w2 ⟨rfl, rfl⟩
            rw [ny_9999]
            go_wp2_with fail
            have p9 : Past w1 w1 := Below.refl _ _
            have q0 : ∀ v : In (Past w1), v.w.cell? ⟨w.heap.size, 0, none⟩ = some (.int .i64 b) := fun v => (Below.cell (p := ⟨_, 0, none⟩) (show Below _ _ _ from v.h) lz).trans z0
            have q1 : ∀ v : In (Past w1), v.w.cell? ⟨w.heap.size, 1, none⟩ = some (.slice A n c) := fun v => (Below.cell (p := ⟨_, 1, none⟩) (show Below _ _ _ from v.h) lz).trans z1
            have q2 : ∀ v : In (Past w1), v.w.cell? ⟨w.heap.size, 2, none⟩ = some (.slice A' n' c') := fun v => (Below.cell (p := ⟨_, 2, none⟩) (show Below _ _ _ from v.h) lz).trans z2
            have q3 : ∀ v : In (Past w1), v.w.cell? ⟨w.heap.size, 3, none⟩ = some (.int .i64 f) := fun v => (Below.cell (p := ⟨_, 3, none⟩) (show Below _ _ _ from v.h) lz).trans z3
            have HQ := Lib.hid (fun (v : In (Past w1)) => (hz1.below hb1).below (show Below _ _ _ from v.h))
            have s1 : IntKind.i64.wrap (L - 64800) = L - 64800 := IntWalk.i64_in _ (by omega)
            have s2 : IntKind.i64.wrap (L - 64800 - 1) = L - 64801 := by rw [show L - 64800 - 1 = L - 64801 from by omega]; exact IntWalk.i64_in _ (by omega)
            have s3 : IntKind.i64.wrap (L + 64800) = L + 64800 := IntWalk.i64_in _ (by omega)
            have hne : Nonempty (In (Past w1)) := ⟨⟨_, p9⟩⟩
            refine wp_region_class (Past w1) (by kernel_rfl) (by kernel_rfl) (Past.drew' p9) ?_
            repeat (any_goals (first | go_big_quiet_step (first | (with_reducible refine quiet_cl Past.on (rOffset_is _ b f A A' n c n' c' l ys _ _ HO.out ?_ hcn); exact HQ.out _) | (with_reducible refine quiet_cl Past.on (rOffset_is _ b f A A' n c n' c' l ys _ _ HP.out ?_ hcn); exact HQ.out _))))
            refine wpQuiet_nil ?_
            rintro _ ⟨⟨w3, hb3⟩, rfl⟩
            have hb13 : Below w1.heap.size w1 _ := hb3
            clear HQ hne p9 q0 q1 q2 q3 s1 s2 s3
            have hb4 := hb1.trans (hb13.mono hb1.size)
            replace Z := Z.below hb13 Z.lt
            clear lz z0 z1 z2 z3
            have lz := Z.lt
            have z0 := Z.cell 0; have z1 := Z.cell 1; have z2 := Z.cell 2; have z3 := Z.cell 3
            simp at z0 z1 z2 z3
            go_wp2_with fail
            refine (rLocal_is _ b f A A' n c n' c' l ys _ _ HY.out (hz1.below hb4) hcn).mono ?_
            rintro e w5 ⟨rfl, hc5⟩
            have hb5 := hb4.trans (hc5.mono hb4.size)
            replace Z := Z.below hc5 Z.lt
            clear lz z0 z1 z2 z3
            have lz := Z.lt
            have z0 := Z.cell 0; have z1 := Z.cell 1; have z2 := Z.cell 2; have z3 := Z.cell 3
            simp at z0 z1 z2 z3
            go_wp2_with fail
            refine (rLocal_is _ b f A A' n c n' c' l ys _ _ HX.out (hz1.below hb5) hcn).mono ?_
            rintro e w6 ⟨rfl, hc6⟩
            have hb6 := hb5.trans (hc6.mono hb5.size)
            replace Z := Z.below hc6 Z.lt
            clear lz z0 z1 z2 z3
            have lz := Z.lt
            have z0 := Z.cell 0; have z1 := Z.cell 1; have z2 := Z.cell 2; have z3 := Z.cell 3
            simp at z0 z1 z2 z3
            go_wp2
            go_ret
            exact ⟨ret_int R.out.symm, ba.trans (hb6.mono (by simp))⟩
          · have R := Lib.hid (show utcR b l ys f L = L - o from by rw [RF.out]; exact rutc_o E1.out E2.out (by omega) E4.out E3.out c1 c2)
            have t2 : ((L : Int) == x) = false := by rw [beq_eq_false_iff_ne]; exact c2
            clear c1 c2
            go_enter Try.func26, Try.ntmps26
            go_wp2_with fail
            refine (rMay_is _ b f A A' n c n' c' l ys _ H.out hz1).mono ?_
            rintro e w1 ⟨rfl, hb1⟩
            replace Z := Z.below hb1 Z.lt
            have lz := Z.lt
            have z0 := Z.cell 0; have z1 := Z.cell 1; have z2 := Z.cell 2; have z3 := Z.cell 3
            simp at z0 z1 z2 z3
            go_wp2_with fail
            refine (rfirst_any 2 _ (by decide) (by decide)).mono ?_
            rintro e w2 ⟨rfl, rfl⟩
            rw [ny_2]
            go_wp2_with fail
            refine (rfirst_any 9999 _ (by decide) (by decide)).mono ?_
            rintro e w2 ⟨rfl, rfl⟩
            rw [ny_9999]
            go_wp2_with fail
            have p9 : Past w1 w1 := Below.refl _ _
            have q0 : ∀ v : In (Past w1), v.w.cell? ⟨w.heap.size, 0, none⟩ = some (.int .i64 b) := fun v => (Below.cell (p := ⟨_, 0, none⟩) (show Below _ _ _ from v.h) lz).trans z0
            have q1 : ∀ v : In (Past w1), v.w.cell? ⟨w.heap.size, 1, none⟩ = some (.slice A n c) := fun v => (Below.cell (p := ⟨_, 1, none⟩) (show Below _ _ _ from v.h) lz).trans z1
            have q2 : ∀ v : In (Past w1), v.w.cell? ⟨w.heap.size, 2, none⟩ = some (.slice A' n' c') := fun v => (Below.cell (p := ⟨_, 2, none⟩) (show Below _ _ _ from v.h) lz).trans z2
            have q3 : ∀ v : In (Past w1), v.w.cell? ⟨w.heap.size, 3, none⟩ = some (.int .i64 f) := fun v => (Below.cell (p := ⟨_, 3, none⟩) (show Below _ _ _ from v.h) lz).trans z3
            have HQ := Lib.hid (fun (v : In (Past w1)) => (hz1.below hb1).below (show Below _ _ _ from v.h))
            have s1 : IntKind.i64.wrap (L - 64800) = L - 64800 := IntWalk.i64_in _ (by omega)
            have s2 : IntKind.i64.wrap (L - 64800 - 1) = L - 64801 := by rw [show L - 64800 - 1 = L - 64801 from by omega]; exact IntWalk.i64_in _ (by omega)
            have s3 : IntKind.i64.wrap (L + 64800) = L + 64800 := IntWalk.i64_in _ (by omega)
            have hne : Nonempty (In (Past w1)) := ⟨⟨_, p9⟩⟩
            refine wp_region_class (Past w1) (by kernel_rfl) (by kernel_rfl) (Past.drew' p9) ?_
            repeat (any_goals (first | go_big_quiet_step (first | (with_reducible refine quiet_cl Past.on (rOffset_is _ b f A A' n c n' c' l ys _ _ HO.out ?_ hcn); exact HQ.out _) | (with_reducible refine quiet_cl Past.on (rOffset_is _ b f A A' n c n' c' l ys _ _ HP.out ?_ hcn); exact HQ.out _))))
            refine wpQuiet_nil ?_
            rintro _ ⟨⟨w3, hb3⟩, rfl⟩
            have hb13 : Below w1.heap.size w1 _ := hb3
            clear HQ hne p9 q0 q1 q2 q3 s1 s2 s3
            have hb4 := hb1.trans (hb13.mono hb1.size)
            replace Z := Z.below hb13 Z.lt
            clear lz z0 z1 z2 z3
            have lz := Z.lt
            have z0 := Z.cell 0; have z1 := Z.cell 1; have z2 := Z.cell 2; have z3 := Z.cell 3
            simp at z0 z1 z2 z3
            go_wp2_with fail
            refine (rLocal_is _ b f A A' n c n' c' l ys _ _ HY.out (hz1.below hb4) hcn).mono ?_
            rintro e w5 ⟨rfl, hc5⟩
            have hb5 := hb4.trans (hc5.mono hb4.size)
            replace Z := Z.below hc5 Z.lt
            clear lz z0 z1 z2 z3
            have lz := Z.lt
            have z0 := Z.cell 0; have z1 := Z.cell 1; have z2 := Z.cell 2; have z3 := Z.cell 3
            simp at z0 z1 z2 z3
            go_wp2_with fail
            refine (rLocal_is _ b f A A' n c n' c' l ys _ _ HX.out (hz1.below hb5) hcn).mono ?_
            rintro e w6 ⟨rfl, hc6⟩
            have hb6 := hb5.trans (hc6.mono hb5.size)
            replace Z := Z.below hc6 Z.lt
            clear lz z0 z1 z2 z3
            have lz := Z.lt
            have z0 := Z.cell 0; have z1 := Z.cell 1; have z2 := Z.cell 2; have z3 := Z.cell 3
            simp at z0 z1 z2 z3
            go_wp2
            go_ret
            exact ⟨ret_int R.out.symm, ba.trans (hb6.mono (by simp))⟩
      · have cv : L - o ≤ L - p := by omega
        clear cw
        by_cases c1 : L = x
        · have R := Lib.hid (show utcR b l ys f L = L - o from by rw [RF.out]; exact rutc_a E1.out E2.out (by omega) E3.out c1)
          have t1 : ((L : Int) == x) = true := by rw [beq_iff_eq]; exact c1
          clear c1
          go_enter Try.func26, Try.ntmps26
          go_wp2_with fail
          refine (rMay_is _ b f A A' n c n' c' l ys _ H.out hz1).mono ?_
          rintro e w1 ⟨rfl, hb1⟩
          replace Z := Z.below hb1 Z.lt
          have lz := Z.lt
          have z0 := Z.cell 0; have z1 := Z.cell 1; have z2 := Z.cell 2; have z3 := Z.cell 3
          simp at z0 z1 z2 z3
          go_wp2_with fail
          refine (rfirst_any 2 _ (by decide) (by decide)).mono ?_
          rintro e w2 ⟨rfl, rfl⟩
          rw [ny_2]
          go_wp2_with fail
          refine (rfirst_any 9999 _ (by decide) (by decide)).mono ?_
          rintro e w2 ⟨rfl, rfl⟩
          rw [ny_9999]
          go_wp2_with fail
          have p9 : Past w1 w1 := Below.refl _ _
          have q0 : ∀ v : In (Past w1), v.w.cell? ⟨w.heap.size, 0, none⟩ = some (.int .i64 b) := fun v => (Below.cell (p := ⟨_, 0, none⟩) (show Below _ _ _ from v.h) lz).trans z0
          have q1 : ∀ v : In (Past w1), v.w.cell? ⟨w.heap.size, 1, none⟩ = some (.slice A n c) := fun v => (Below.cell (p := ⟨_, 1, none⟩) (show Below _ _ _ from v.h) lz).trans z1
          have q2 : ∀ v : In (Past w1), v.w.cell? ⟨w.heap.size, 2, none⟩ = some (.slice A' n' c') := fun v => (Below.cell (p := ⟨_, 2, none⟩) (show Below _ _ _ from v.h) lz).trans z2
          have q3 : ∀ v : In (Past w1), v.w.cell? ⟨w.heap.size, 3, none⟩ = some (.int .i64 f) := fun v => (Below.cell (p := ⟨_, 3, none⟩) (show Below _ _ _ from v.h) lz).trans z3
          have HQ := Lib.hid (fun (v : In (Past w1)) => (hz1.below hb1).below (show Below _ _ _ from v.h))
          have s1 : IntKind.i64.wrap (L - 64800) = L - 64800 := IntWalk.i64_in _ (by omega)
          have s2 : IntKind.i64.wrap (L - 64800 - 1) = L - 64801 := by rw [show L - 64800 - 1 = L - 64801 from by omega]; exact IntWalk.i64_in _ (by omega)
          have s3 : IntKind.i64.wrap (L + 64800) = L + 64800 := IntWalk.i64_in _ (by omega)
          have hne : Nonempty (In (Past w1)) := ⟨⟨_, p9⟩⟩
          refine wp_region_class (Past w1) (by kernel_rfl) (by kernel_rfl) (Past.drew' p9) ?_
          repeat (any_goals (first | go_big_quiet_step (first | (with_reducible refine quiet_cl Past.on (rOffset_is _ b f A A' n c n' c' l ys _ _ HO.out ?_ hcn); exact HQ.out _) | (with_reducible refine quiet_cl Past.on (rOffset_is _ b f A A' n c n' c' l ys _ _ HP.out ?_ hcn); exact HQ.out _))))
          refine wpQuiet_nil ?_
          rintro _ ⟨⟨w3, hb3⟩, rfl⟩
          have hb13 : Below w1.heap.size w1 _ := hb3
          clear HQ hne p9 q0 q1 q2 q3 s1 s2 s3
          have hb4 := hb1.trans (hb13.mono hb1.size)
          replace Z := Z.below hb13 Z.lt
          clear lz z0 z1 z2 z3
          have lz := Z.lt
          have z0 := Z.cell 0; have z1 := Z.cell 1; have z2 := Z.cell 2; have z3 := Z.cell 3
          simp at z0 z1 z2 z3
          go_wp2_with fail
          refine (rLocal_is _ b f A A' n c n' c' l ys _ _ HX.out (hz1.below hb4) hcn).mono ?_
          rintro e w5 ⟨rfl, hc5⟩
          have hb5 := hb4.trans (hc5.mono hb4.size)
          replace Z := Z.below hc5 Z.lt
          clear lz z0 z1 z2 z3
          have lz := Z.lt
          have z0 := Z.cell 0; have z1 := Z.cell 1; have z2 := Z.cell 2; have z3 := Z.cell 3
          simp at z0 z1 z2 z3
          go_wp2
          go_ret
          exact ⟨ret_int R.out.symm, ba.trans (hb5.mono (by simp))⟩
        · have t1 : ((L : Int) == x) = false := by rw [beq_eq_false_iff_ne]; exact c1
          by_cases c2 : L = y
          · have R := Lib.hid (show utcR b l ys f L = L - p from by rw [RF.out]; exact rutc_b E1.out E2.out (by omega) E3.out E4.out c1 c2)
            have t2 : ((L : Int) == y) = true := by rw [beq_iff_eq]; exact c2
            clear c1 c2
            go_enter Try.func26, Try.ntmps26
            go_wp2_with fail
            refine (rMay_is _ b f A A' n c n' c' l ys _ H.out hz1).mono ?_
            rintro e w1 ⟨rfl, hb1⟩
            replace Z := Z.below hb1 Z.lt
            have lz := Z.lt
            have z0 := Z.cell 0; have z1 := Z.cell 1; have z2 := Z.cell 2; have z3 := Z.cell 3
            simp at z0 z1 z2 z3
            go_wp2_with fail
            refine (rfirst_any 2 _ (by decide) (by decide)).mono ?_
            rintro e w2 ⟨rfl, rfl⟩
            rw [ny_2]
            go_wp2_with fail
            refine (rfirst_any 9999 _ (by decide) (by decide)).mono ?_
            rintro e w2 ⟨rfl, rfl⟩
            rw [ny_9999]
            go_wp2_with fail
            have p9 : Past w1 w1 := Below.refl _ _
            have q0 : ∀ v : In (Past w1), v.w.cell? ⟨w.heap.size, 0, none⟩ = some (.int .i64 b) := fun v => (Below.cell (p := ⟨_, 0, none⟩) (show Below _ _ _ from v.h) lz).trans z0
            have q1 : ∀ v : In (Past w1), v.w.cell? ⟨w.heap.size, 1, none⟩ = some (.slice A n c) := fun v => (Below.cell (p := ⟨_, 1, none⟩) (show Below _ _ _ from v.h) lz).trans z1
            have q2 : ∀ v : In (Past w1), v.w.cell? ⟨w.heap.size, 2, none⟩ = some (.slice A' n' c') := fun v => (Below.cell (p := ⟨_, 2, none⟩) (show Below _ _ _ from v.h) lz).trans z2
            have q3 : ∀ v : In (Past w1), v.w.cell? ⟨w.heap.size, 3, none⟩ = some (.int .i64 f) := fun v => (Below.cell (p := ⟨_, 3, none⟩) (show Below _ _ _ from v.h) lz).trans z3
            have HQ := Lib.hid (fun (v : In (Past w1)) => (hz1.below hb1).below (show Below _ _ _ from v.h))
            have s1 : IntKind.i64.wrap (L - 64800) = L - 64800 := IntWalk.i64_in _ (by omega)
            have s2 : IntKind.i64.wrap (L - 64800 - 1) = L - 64801 := by rw [show L - 64800 - 1 = L - 64801 from by omega]; exact IntWalk.i64_in _ (by omega)
            have s3 : IntKind.i64.wrap (L + 64800) = L + 64800 := IntWalk.i64_in _ (by omega)
            have hne : Nonempty (In (Past w1)) := ⟨⟨_, p9⟩⟩
            refine wp_region_class (Past w1) (by kernel_rfl) (by kernel_rfl) (Past.drew' p9) ?_
            repeat (any_goals (first | go_big_quiet_step (first | (with_reducible refine quiet_cl Past.on (rOffset_is _ b f A A' n c n' c' l ys _ _ HO.out ?_ hcn); exact HQ.out _) | (with_reducible refine quiet_cl Past.on (rOffset_is _ b f A A' n c n' c' l ys _ _ HP.out ?_ hcn); exact HQ.out _))))
            refine wpQuiet_nil ?_
            rintro _ ⟨⟨w3, hb3⟩, rfl⟩
            have hb13 : Below w1.heap.size w1 _ := hb3
            clear HQ hne p9 q0 q1 q2 q3 s1 s2 s3
            have hb4 := hb1.trans (hb13.mono hb1.size)
            replace Z := Z.below hb13 Z.lt
            clear lz z0 z1 z2 z3
            have lz := Z.lt
            have z0 := Z.cell 0; have z1 := Z.cell 1; have z2 := Z.cell 2; have z3 := Z.cell 3
            simp at z0 z1 z2 z3
            go_wp2_with fail
            refine (rLocal_is _ b f A A' n c n' c' l ys _ _ HX.out (hz1.below hb4) hcn).mono ?_
            rintro e w5 ⟨rfl, hc5⟩
            have hb5 := hb4.trans (hc5.mono hb4.size)
            replace Z := Z.below hc5 Z.lt
            clear lz z0 z1 z2 z3
            have lz := Z.lt
            have z0 := Z.cell 0; have z1 := Z.cell 1; have z2 := Z.cell 2; have z3 := Z.cell 3
            simp at z0 z1 z2 z3
            go_wp2_with fail
            refine (rLocal_is _ b f A A' n c n' c' l ys _ _ HY.out (hz1.below hb5) hcn).mono ?_
            rintro e w6 ⟨rfl, hc6⟩
            have hb6 := hb5.trans (hc6.mono hb5.size)
            replace Z := Z.below hc6 Z.lt
            clear lz z0 z1 z2 z3
            have lz := Z.lt
            have z0 := Z.cell 0; have z1 := Z.cell 1; have z2 := Z.cell 2; have z3 := Z.cell 3
            simp at z0 z1 z2 z3
            go_wp2
            go_ret
            exact ⟨ret_int R.out.symm, ba.trans (hb6.mono (by simp))⟩
          · have R := Lib.hid (show utcR b l ys f L = L - o from by rw [RF.out]; exact rutc_o E1.out E2.out (by omega) E3.out E4.out c1 c2)
            have t2 : ((L : Int) == y) = false := by rw [beq_eq_false_iff_ne]; exact c2
            clear c1 c2
            go_enter Try.func26, Try.ntmps26
            go_wp2_with fail
            refine (rMay_is _ b f A A' n c n' c' l ys _ H.out hz1).mono ?_
            rintro e w1 ⟨rfl, hb1⟩
            replace Z := Z.below hb1 Z.lt
            have lz := Z.lt
            have z0 := Z.cell 0; have z1 := Z.cell 1; have z2 := Z.cell 2; have z3 := Z.cell 3
            simp at z0 z1 z2 z3
            go_wp2_with fail
            refine (rfirst_any 2 _ (by decide) (by decide)).mono ?_
            rintro e w2 ⟨rfl, rfl⟩
            rw [ny_2]
            go_wp2_with fail
            refine (rfirst_any 9999 _ (by decide) (by decide)).mono ?_
            rintro e w2 ⟨rfl, rfl⟩
            rw [ny_9999]
            go_wp2_with fail
            have p9 : Past w1 w1 := Below.refl _ _
            have q0 : ∀ v : In (Past w1), v.w.cell? ⟨w.heap.size, 0, none⟩ = some (.int .i64 b) := fun v => (Below.cell (p := ⟨_, 0, none⟩) (show Below _ _ _ from v.h) lz).trans z0
            have q1 : ∀ v : In (Past w1), v.w.cell? ⟨w.heap.size, 1, none⟩ = some (.slice A n c) := fun v => (Below.cell (p := ⟨_, 1, none⟩) (show Below _ _ _ from v.h) lz).trans z1
            have q2 : ∀ v : In (Past w1), v.w.cell? ⟨w.heap.size, 2, none⟩ = some (.slice A' n' c') := fun v => (Below.cell (p := ⟨_, 2, none⟩) (show Below _ _ _ from v.h) lz).trans z2
            have q3 : ∀ v : In (Past w1), v.w.cell? ⟨w.heap.size, 3, none⟩ = some (.int .i64 f) := fun v => (Below.cell (p := ⟨_, 3, none⟩) (show Below _ _ _ from v.h) lz).trans z3
            have HQ := Lib.hid (fun (v : In (Past w1)) => (hz1.below hb1).below (show Below _ _ _ from v.h))
            have s1 : IntKind.i64.wrap (L - 64800) = L - 64800 := IntWalk.i64_in _ (by omega)
            have s2 : IntKind.i64.wrap (L - 64800 - 1) = L - 64801 := by rw [show L - 64800 - 1 = L - 64801 from by omega]; exact IntWalk.i64_in _ (by omega)
            have s3 : IntKind.i64.wrap (L + 64800) = L + 64800 := IntWalk.i64_in _ (by omega)
            have hne : Nonempty (In (Past w1)) := ⟨⟨_, p9⟩⟩
            refine wp_region_class (Past w1) (by kernel_rfl) (by kernel_rfl) (Past.drew' p9) ?_
            repeat (any_goals (first | go_big_quiet_step (first | (with_reducible refine quiet_cl Past.on (rOffset_is _ b f A A' n c n' c' l ys _ _ HO.out ?_ hcn); exact HQ.out _) | (with_reducible refine quiet_cl Past.on (rOffset_is _ b f A A' n c n' c' l ys _ _ HP.out ?_ hcn); exact HQ.out _))))
            refine wpQuiet_nil ?_
            rintro _ ⟨⟨w3, hb3⟩, rfl⟩
            have hb13 : Below w1.heap.size w1 _ := hb3
            clear HQ hne p9 q0 q1 q2 q3 s1 s2 s3
            have hb4 := hb1.trans (hb13.mono hb1.size)
            replace Z := Z.below hb13 Z.lt
            clear lz z0 z1 z2 z3
            have lz := Z.lt
            have z0 := Z.cell 0; have z1 := Z.cell 1; have z2 := Z.cell 2; have z3 := Z.cell 3
            simp at z0 z1 z2 z3
            go_wp2_with fail
            refine (rLocal_is _ b f A A' n c n' c' l ys _ _ HX.out (hz1.below hb4) hcn).mono ?_
            rintro e w5 ⟨rfl, hc5⟩
            have hb5 := hb4.trans (hc5.mono hb4.size)
            replace Z := Z.below hc5 Z.lt
            clear lz z0 z1 z2 z3
            have lz := Z.lt
            have z0 := Z.cell 0; have z1 := Z.cell 1; have z2 := Z.cell 2; have z3 := Z.cell 3
            simp at z0 z1 z2 z3
            go_wp2_with fail
            refine (rLocal_is _ b f A A' n c n' c' l ys _ _ HY.out (hz1.below hb5) hcn).mono ?_
            rintro e w6 ⟨rfl, hc6⟩
            have hb6 := hb5.trans (hc6.mono hb5.size)
            replace Z := Z.below hc6 Z.lt
            clear lz z0 z1 z2 z3
            have lz := Z.lt
            have z0 := Z.cell 0; have z1 := Z.cell 1; have z2 := Z.cell 2; have z3 := Z.cell 3
            simp at z0 z1 z2 z3
            go_wp2
            go_ret
            exact ⟨ret_int R.out.symm, ba.trans (hb6.mono (by simp))⟩
end Go.Proofs.Ytbinhnlajflndaa.Zn
