/- The walk of voklaw3's law ZonePlain. -/
import Derived.Test.YtegjcogindjogaaZnLaw0
set_option linter.unusedVariables false
namespace Go.Proofs.Ytegjcogindjogaa.Zn
open Go.RowKit Cv St

theorem bef_nil (f u : Int) : bef [] [] f u = none := by unfold bef befL rows; simp
theorem ofs_nil (b f u : Int) : ofs b [] [] f u = b := by unfold ofs; rw [bef_nil]
theorem may_nil {b : Int} (h : -64800 ≤ b ∧ b ≤ 64800) : mayB b [] [] 0 = true := by unfold mayB shB okTo yrsB offB; simp [h]
theorem may_nil_not {b : Int} (h : ¬ (-64800 ≤ b ∧ b ≤ 64800)) : mayB b [] [] 0 = false := by
  have e : offB b = false := decide_eq_false h
  unfold mayB; rw [e]; simp
theorem utc_nil (b f L : Int) : utc b [] [] f L = L - b := by
  unfold utc utcF; simp only [ofs_nil]; split <;> rfl
theorem zn_nil (w : World) : ZnAt w none 0 none 0 [] [] := ⟨ShAt.nil _ _, YrAt.nil _ _, by omega, by omega⟩
set_option maxRecDepth 100000 in
set_option maxHeartbeats 4000000 in
theorem zonePlain_walk (W : World) (d : Int) (d1 : -9223372036854775808 ≤ d) (d2 : d ≤ 9223372036854775807) (u : Int) (u1 : -9223372036854775808 ≤ u) (u2 : u ≤ 9223372036854775807) (ht : Tab W) :
    Calls Try.prog 8 #[.int .i64 d, .int .i64 u] W fun e w' => e = .returned (.bool true) ∧ Below W.heap.size W w' := by
  have ba := Below.refl W.heap.size W
  have b0 := Below.refl W.heap.size W
  by_cases k1 : d < -64800
  · have H := Lib.hid (may_nil_not (b := d) (by omega))
    have EL := Lib.hid (show locR d [] [] 0 u = 0 from by unfold locR; rw [H.out]; rfl)
    have EU := Lib.hid (show utcR d [] [] 0 u = 0 from by unfold utcR; rw [H.out]; rfl)
    go_enter Try.func8, Try.ntmps8
    go_wp2_with fail
    refine (first_own _ (tab_on (tab_on ht ba) b0)).mono ?_
    rintro e w1 ⟨rfl, h1⟩
    have b1 := b0.trans (h1.mono b0.size)
    have Z := Blk.new w1 25 #[.int .i64 d, .slice none 0 0, .slice none 0 0, .int .i64 0]
    have a2 := (Below.refl _ _).alloc (Nat.le_refl _) (.cells #[.int .i64 d, .slice none 0 0, .slice none 0 0, .int .i64 0] 25) (w := w1)
    have b2 := b1.trans (a2.mono b1.size)
    have lZ := Z.lt
    have Zc0 := Z.cell 0
    have Zc1 := Z.cell 1
    have Zc2 := Z.cell 2
    have Zc3 := Z.cell 3
    try simp at Zc0 Zc1 Zc2 Zc3
    go_wp2_with fail
    refine (first_own _ (tab_on (tab_on ht ba) b2)).mono ?_
    rintro e w3 ⟨rfl, h3⟩
    have b3 := b2.trans (h3.mono b2.size)
    replace Z := Z.below h3 Z.lt
    clear lZ Zc0 Zc1 Zc2 Zc3
    have lZ := Z.lt
    have Zc0 := Z.cell 0
    have Zc1 := Z.cell 1
    have Zc2 := Z.cell 2
    have Zc3 := Z.cell 3
    try simp at Zc0 Zc1 Zc2 Zc3
    go_wp2_with fail
    refine (zMay_own _ _ _ none none 0 0 0 0 [] [] _ H.out (zn_nil _)).mono ?_
    rintro e w4 ⟨rfl, h4⟩
    have b4 := b3.trans (h4.mono b3.size)
    replace Z := Z.below h4 Z.lt
    clear lZ Zc0 Zc1 Zc2 Zc3
    have lZ := Z.lt
    have Zc0 := Z.cell 0
    have Zc1 := Z.cell 1
    have Zc2 := Z.cell 2
    have Zc3 := Z.cell 3
    try simp at Zc0 Zc1 Zc2 Zc3
    go_wp2_with fail
    refine (Local_is _ _ _ none none 0 0 0 0 [] [] _ _ EL.out (zn_nil _)).mono ?_
    rintro e w5 ⟨rfl, h5⟩
    have b5 := b4.trans (h5.mono b4.size)
    replace Z := Z.below h5 Z.lt
    clear lZ Zc0 Zc1 Zc2 Zc3
    have lZ := Z.lt
    have Zc0 := Z.cell 0
    have Zc1 := Z.cell 1
    have Zc2 := Z.cell 2
    have Zc3 := Z.cell 3
    try simp at Zc0 Zc1 Zc2 Zc3
    go_wp2_with fail
    refine (UTC_is _ _ _ none none 0 0 0 0 [] [] _ _ EU.out (by omega) (by omega) (zn_nil _)).mono ?_
    rintro e w6 ⟨rfl, h6⟩
    have b6 := b5.trans (h6.mono b5.size)
    replace Z := Z.below h6 Z.lt
    clear lZ Zc0 Zc1 Zc2 Zc3
    have lZ := Z.lt
    have Zc0 := Z.cell 0
    have Zc1 := Z.cell 1
    have Zc2 := Z.cell 2
    have Zc3 := Z.cell 3
    try simp at Zc0 Zc1 Zc2 Zc3
    go_wp2
    go_ret
    exact ⟨rfl, b6⟩
  · have k1' : -64800 ≤ d := by omega
    by_cases k2 : 64800 < d
    · clear k1
      have H := Lib.hid (may_nil_not (b := d) (by omega))
      have EL := Lib.hid (show locR d [] [] 0 u = 0 from by unfold locR; rw [H.out]; rfl)
      have EU := Lib.hid (show utcR d [] [] 0 u = 0 from by unfold utcR; rw [H.out]; rfl)
      go_enter Try.func8, Try.ntmps8
      go_wp2_with fail
      refine (first_own _ (tab_on (tab_on ht ba) b0)).mono ?_
      rintro e w1 ⟨rfl, h1⟩
      have b1 := b0.trans (h1.mono b0.size)
      have Z := Blk.new w1 25 #[.int .i64 d, .slice none 0 0, .slice none 0 0, .int .i64 0]
      have a2 := (Below.refl _ _).alloc (Nat.le_refl _) (.cells #[.int .i64 d, .slice none 0 0, .slice none 0 0, .int .i64 0] 25) (w := w1)
      have b2 := b1.trans (a2.mono b1.size)
      have lZ := Z.lt
      have Zc0 := Z.cell 0
      have Zc1 := Z.cell 1
      have Zc2 := Z.cell 2
      have Zc3 := Z.cell 3
      try simp at Zc0 Zc1 Zc2 Zc3
      go_wp2_with fail
      refine (first_own _ (tab_on (tab_on ht ba) b2)).mono ?_
      rintro e w3 ⟨rfl, h3⟩
      have b3 := b2.trans (h3.mono b2.size)
      replace Z := Z.below h3 Z.lt
      clear lZ Zc0 Zc1 Zc2 Zc3
      have lZ := Z.lt
      have Zc0 := Z.cell 0
      have Zc1 := Z.cell 1
      have Zc2 := Z.cell 2
      have Zc3 := Z.cell 3
      try simp at Zc0 Zc1 Zc2 Zc3
      go_wp2_with fail
      refine (zMay_own _ _ _ none none 0 0 0 0 [] [] _ H.out (zn_nil _)).mono ?_
      rintro e w4 ⟨rfl, h4⟩
      have b4 := b3.trans (h4.mono b3.size)
      replace Z := Z.below h4 Z.lt
      clear lZ Zc0 Zc1 Zc2 Zc3
      have lZ := Z.lt
      have Zc0 := Z.cell 0
      have Zc1 := Z.cell 1
      have Zc2 := Z.cell 2
      have Zc3 := Z.cell 3
      try simp at Zc0 Zc1 Zc2 Zc3
      go_wp2_with fail
      refine (Local_is _ _ _ none none 0 0 0 0 [] [] _ _ EL.out (zn_nil _)).mono ?_
      rintro e w5 ⟨rfl, h5⟩
      have b5 := b4.trans (h5.mono b4.size)
      replace Z := Z.below h5 Z.lt
      clear lZ Zc0 Zc1 Zc2 Zc3
      have lZ := Z.lt
      have Zc0 := Z.cell 0
      have Zc1 := Z.cell 1
      have Zc2 := Z.cell 2
      have Zc3 := Z.cell 3
      try simp at Zc0 Zc1 Zc2 Zc3
      go_wp2_with fail
      refine (UTC_is _ _ _ none none 0 0 0 0 [] [] _ _ EU.out (by omega) (by omega) (zn_nil _)).mono ?_
      rintro e w6 ⟨rfl, h6⟩
      have b6 := b5.trans (h6.mono b5.size)
      replace Z := Z.below h6 Z.lt
      clear lZ Zc0 Zc1 Zc2 Zc3
      have lZ := Z.lt
      have Zc0 := Z.cell 0
      have Zc1 := Z.cell 1
      have Zc2 := Z.cell 2
      have Zc3 := Z.cell 3
      try simp at Zc0 Zc1 Zc2 Zc3
      go_wp2
      go_ret
      exact ⟨rfl, b6⟩
    · have k2' : d ≤ 64800 := by omega
      by_cases k3 : u < -60000000000
      · clear k1 k2
        go_enter Try.func8, Try.ntmps8
        go_wp2_with fail
        refine (first_own _ (tab_on (tab_on ht ba) b0)).mono ?_
        rintro e w1 ⟨rfl, h1⟩
        have b1 := b0.trans (h1.mono b0.size)
        have Z := Blk.new w1 25 #[.int .i64 d, .slice none 0 0, .slice none 0 0, .int .i64 0]
        have a2 := (Below.refl _ _).alloc (Nat.le_refl _) (.cells #[.int .i64 d, .slice none 0 0, .slice none 0 0, .int .i64 0] 25) (w := w1)
        have b2 := b1.trans (a2.mono b1.size)
        have lZ := Z.lt
        have Zc0 := Z.cell 0
        have Zc1 := Z.cell 1
        have Zc2 := Z.cell 2
        have Zc3 := Z.cell 3
        try simp at Zc0 Zc1 Zc2 Zc3
        go_wp2_with fail
        refine (first_own _ (tab_on (tab_on ht ba) b2)).mono ?_
        rintro e w3 ⟨rfl, h3⟩
        have b3 := b2.trans (h3.mono b2.size)
        replace Z := Z.below h3 Z.lt
        clear lZ Zc0 Zc1 Zc2 Zc3
        have lZ := Z.lt
        have Zc0 := Z.cell 0
        have Zc1 := Z.cell 1
        have Zc2 := Z.cell 2
        have Zc3 := Z.cell 3
        try simp at Zc0 Zc1 Zc2 Zc3
        go_wp2
        go_ret
        exact ⟨rfl, b3⟩
      · have k3' : -60000000000 ≤ u := by omega
        by_cases k4 : 250000000000 < u
        · clear k1 k2 k3
          go_enter Try.func8, Try.ntmps8
          go_wp2_with fail
          refine (first_own _ (tab_on (tab_on ht ba) b0)).mono ?_
          rintro e w1 ⟨rfl, h1⟩
          have b1 := b0.trans (h1.mono b0.size)
          have Z := Blk.new w1 25 #[.int .i64 d, .slice none 0 0, .slice none 0 0, .int .i64 0]
          have a2 := (Below.refl _ _).alloc (Nat.le_refl _) (.cells #[.int .i64 d, .slice none 0 0, .slice none 0 0, .int .i64 0] 25) (w := w1)
          have b2 := b1.trans (a2.mono b1.size)
          have lZ := Z.lt
          have Zc0 := Z.cell 0
          have Zc1 := Z.cell 1
          have Zc2 := Z.cell 2
          have Zc3 := Z.cell 3
          try simp at Zc0 Zc1 Zc2 Zc3
          go_wp2_with fail
          refine (first_own _ (tab_on (tab_on ht ba) b2)).mono ?_
          rintro e w3 ⟨rfl, h3⟩
          have b3 := b2.trans (h3.mono b2.size)
          replace Z := Z.below h3 Z.lt
          clear lZ Zc0 Zc1 Zc2 Zc3
          have lZ := Z.lt
          have Zc0 := Z.cell 0
          have Zc1 := Z.cell 1
          have Zc2 := Z.cell 2
          have Zc3 := Z.cell 3
          try simp at Zc0 Zc1 Zc2 Zc3
          go_wp2
          go_ret
          exact ⟨rfl, b3⟩
        · have k4' : u ≤ 250000000000 := by omega
          have h := may_nil (b := d) ⟨k1', k2'⟩
          have H := Lib.hid h
          have hu : mayT u = true := decide_eq_true ⟨by omega, by omega⟩
          have hL : mayL u = true := decide_eq_true ⟨by omega, by omega⟩
          have hM : mayL (u + d) = true := decide_eq_true ⟨by omega, by omega⟩
          have EO := Lib.hid (show offR d [] [] 0 u = d from by rw [offR_eq h hu, ofs_nil])
          have EL := Lib.hid (show locR d [] [] 0 u = u + d from by rw [locR_eq h hu, ofs_nil])
          have EU := Lib.hid (show utcR d [] [] 0 u = u - d from by rw [utcR_eq h hL, utc_nil])
          have EV := Lib.hid (show utcR d [] [] 0 (u + d) = u from by rw [utcR_eq h hM, utc_nil]; omega)
          have s1 : IntKind.i64.wrap (u - d) = u - d := IntWalk.i64_in _ (by omega)
          clear h hu hL hM k1 k2 k3 k4
          go_enter Try.func8, Try.ntmps8
          go_wp2_with fail
          refine (first_own _ (tab_on (tab_on ht ba) b0)).mono ?_
          rintro e w1 ⟨rfl, h1⟩
          have b1 := b0.trans (h1.mono b0.size)
          have Z := Blk.new w1 25 #[.int .i64 d, .slice none 0 0, .slice none 0 0, .int .i64 0]
          have a2 := (Below.refl _ _).alloc (Nat.le_refl _) (.cells #[.int .i64 d, .slice none 0 0, .slice none 0 0, .int .i64 0] 25) (w := w1)
          have b2 := b1.trans (a2.mono b1.size)
          have lZ := Z.lt
          have Zc0 := Z.cell 0
          have Zc1 := Z.cell 1
          have Zc2 := Z.cell 2
          have Zc3 := Z.cell 3
          try simp at Zc0 Zc1 Zc2 Zc3
          have hz0 := zn_nil W
          go_wp2_with fail
          generalize (w1.alloc (.cells #[.int .i64 d, .slice none 0 0, .slice none 0 0, .int .i64 0] 25)) = wz3 at *
          have lZ := Z.lt
          have Zc0 := Z.cell 0
          have Zc1 := Z.cell 1
          have Zc2 := Z.cell 2
          have Zc3 := Z.cell 3
          try simp at Zc0 Zc1 Zc2 Zc3
          have p3 : Past wz3 wz3 := Below.refl _ _
          have Zq0 : ∀ v : In (Past wz3), v.w.cell? ⟨w1.heap.size, 0, none⟩ = some (.int .i64 d) := fun v => (Below.cell (p := ⟨_, 0, none⟩) (show Below _ _ _ from v.h) lZ).trans Zc0
          have Zq1 : ∀ v : In (Past wz3), v.w.cell? ⟨w1.heap.size, 1, none⟩ = some (.slice none 0 0) := fun v => (Below.cell (p := ⟨_, 1, none⟩) (show Below _ _ _ from v.h) lZ).trans Zc1
          have Zq2 : ∀ v : In (Past wz3), v.w.cell? ⟨w1.heap.size, 2, none⟩ = some (.slice none 0 0) := fun v => (Below.cell (p := ⟨_, 2, none⟩) (show Below _ _ _ from v.h) lZ).trans Zc2
          have Zq3 : ∀ v : In (Past wz3), v.w.cell? ⟨w1.heap.size, 3, none⟩ = some (.int .i64 0) := fun v => (Below.cell (p := ⟨_, 3, none⟩) (show Below _ _ _ from v.h) lZ).trans Zc3
          have HQ := Lib.hid (fun (v : In (Past wz3)) => (hz0.below b2).below (show Below _ _ _ from v.h))
          have hne3 : Nonempty (In (Past wz3)) := ⟨⟨_, p3⟩⟩
          have HT := Lib.hid (fun (v : In (Past wz3)) => tab_on (tab_on (tab_on ht ba) b2) (show Below _ _ _ from v.h))
          refine wp_region_class (Past wz3) (by kernel_rfl) (by kernel_rfl) (Past.drew' p3) ?_
          repeat (any_goals (first | go_big_quiet_step ((first | (with_reducible refine quiet_cl Past.on (first_own _ ?_); first | exact HQ.out _ | exact HT.out _) | (with_reducible refine quiet_cl Past.on (zMay_own _ _ _ none none 0 0 0 0 [] [] _ H.out ?_); first | exact HQ.out _ | exact HT.out _) | (with_reducible refine quiet_cl Past.on (Offset_is _ _ _ none none 0 0 0 0 [] [] _ _ EO.out ?_); first | exact HQ.out _ | exact HT.out _) | (with_reducible refine quiet_cl Past.on (UTC_is _ _ _ none none 0 0 0 0 [] [] _ _ EU.out (by omega) (by omega) ?_); first | exact HQ.out _ | exact HT.out _) | (with_reducible refine quiet_cl Past.on (UTC_is _ _ _ none none 0 0 0 0 [] [] _ _ EV.out (by omega) (by omega) ?_); first | exact HQ.out _ | exact HT.out _) | (with_reducible refine quiet_cl Past.on (Local_is _ _ _ none none 0 0 0 0 [] [] _ _ EL.out ?_); first | exact HQ.out _ | exact HT.out _))) | quiet_step ((first | (with_reducible refine quiet_cl Past.on (first_own _ ?_); first | exact HQ.out _ | exact HT.out _) | (with_reducible refine quiet_cl Past.on (zMay_own _ _ _ none none 0 0 0 0 [] [] _ H.out ?_); first | exact HQ.out _ | exact HT.out _) | (with_reducible refine quiet_cl Past.on (Offset_is _ _ _ none none 0 0 0 0 [] [] _ _ EO.out ?_); first | exact HQ.out _ | exact HT.out _) | (with_reducible refine quiet_cl Past.on (UTC_is _ _ _ none none 0 0 0 0 [] [] _ _ EU.out (by omega) (by omega) ?_); first | exact HQ.out _ | exact HT.out _) | (with_reducible refine quiet_cl Past.on (UTC_is _ _ _ none none 0 0 0 0 [] [] _ _ EV.out (by omega) (by omega) ?_); first | exact HQ.out _ | exact HT.out _) | (with_reducible refine quiet_cl Past.on (Local_is _ _ _ none none 0 0 0 0 [] [] _ _ EL.out ?_); first | exact HQ.out _ | exact HT.out _)))))
          refine wpQuiet_nil ?_
          rintro _ ⟨⟨w3, h3⟩, rfl⟩
          replace h3 : Below _ _ _ := h3
          clear HQ HT hne3 p3 Zq0 Zq1 Zq2 Zq3
          have b3 := b2.trans (h3.mono b2.size)
          replace Z := Z.below h3 Z.lt
          clear lZ Zc0 Zc1 Zc2 Zc3
          have lZ := Z.lt
          have Zc0 := Z.cell 0
          have Zc1 := Z.cell 1
          have Zc2 := Z.cell 2
          have Zc3 := Z.cell 3
          try simp at Zc0 Zc1 Zc2 Zc3
          go_wp2
          go_ret
          exact ⟨rfl, b3⟩
end Go.Proofs.Ytegjcogindjogaa.Zn
