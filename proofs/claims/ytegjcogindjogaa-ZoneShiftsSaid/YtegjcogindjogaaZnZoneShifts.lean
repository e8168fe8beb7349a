/- The walk of voklaw3's law ZoneShifts. -/
import Derived.Test.YtegjcogindjogaaZnLaw0
set_option linter.unusedVariables false
namespace Go.Proofs.Ytegjcogindjogaa.Zn
open Go.RowKit Cv St

set_option maxRecDepth 100000 in
set_option maxHeartbeats 4000000 in
theorem zoneShifts_walk (W : World) (b f : Int) (A A' : Option Addr) (n c n' c' : Nat) (l : List Sh) (ys : List Yr) (hs : ShAt W A n l) (hy : YrAt W A' n' ys) (sn : n ≤ 9223372036854775807) (yn : n' ≤ 9223372036854775807) (u : Int) (u1 : -9223372036854775808 ≤ u) (u2 : u ≤ 9223372036854775807) (ht : Tab W) :
    Calls Try.prog 7 #[.agg #[.int .i64 b, .slice A n c, .slice A' n' c', .int .i64 f], .int .i64 u] W fun e w' => e = .returned (.bool true) ∧ Below W.heap.size W w' := by
  have Z := Blk.new W 25 #[.int .i64 b, .slice A n c, .slice A' n' c', .int .i64 f]
  have ba := (Below.refl _ _).alloc (Nat.le_refl _) (.cells #[.int .i64 b, .slice A n c, .slice A' n' c', .int .i64 f] 25) (w := W)
  have b0 := Below.refl (W.alloc (.cells #[.int .i64 b, .slice A n c, .slice A' n' c', .int .i64 f] 25)).heap.size (W.alloc (.cells #[.int .i64 b, .slice A n c, .slice A' n' c', .int .i64 f] 25))
  have hz0 : ZnAt (W.alloc (.cells #[.int .i64 b, .slice A n c, .slice A' n' c', .int .i64 f] 25)) A n A' n' l ys := ⟨hs.below ba, hy.below ba, sn, yn⟩
  cases hf : fewB n n'
  · have FW := Lib.hid hf
    have E0 := Lib.hid (off_zero (u := u) (b := b) (l := l) (ys := ys) (f := f) (by rw [few_may hs.1 hy.1 hf]; rfl))
    clear hf
    have lZ := Z.lt
    have Zc0 := Z.cell 0
    have Zc1 := Z.cell 1
    have Zc2 := Z.cell 2
    have Zc3 := Z.cell 3
    try simp at Zc0 Zc1 Zc2 Zc3
    go_enter Try.func7, Try.ntmps7
    go_wp2_with fail
    refine (first_own _ (tab_on (tab_on ht ba) b0)).mono ?_
    rintro e w1 ⟨rfl, h1⟩
    have b1 := b0.trans (h1.mono b0.size)
    replace Z := Z.below h1 Z.lt
    clear lZ Zc0 Zc1 Zc2 Zc3
    have lZ := Z.lt
    have Zc0 := Z.cell 0
    have Zc1 := Z.cell 1
    have Zc2 := Z.cell 2
    have Zc3 := Z.cell 3
    try simp at Zc0 Zc1 Zc2 Zc3
    go_wp2_with fail
    refine (few_is _ _ _ _ _ _ _ _ _ _ FW.out).mono ?_
    rintro e w2 ⟨rfl, h2⟩
    have b2 := b1.trans (h2.mono b1.size)
    replace Z := Z.below h2 Z.lt
    clear lZ Zc0 Zc1 Zc2 Zc3
    have lZ := Z.lt
    have Zc0 := Z.cell 0
    have Zc1 := Z.cell 1
    have Zc2 := Z.cell 2
    have Zc3 := Z.cell 3
    try simp at Zc0 Zc1 Zc2 Zc3
    go_wp2_with fail
    refine (first_own _ (tab_on (tab_on ht ba) b2)).mono ?_
    rintro e w3 ⟨rfl, h3⟩
    have b3 := b2.trans (h3.mono b2.size)
    replace Z := Z.below h3 Z.lt
    clear lZ Zc0 Zc1 Zc2 Zc3
    have lZ := Z.lt
    have Zc0 := Z.cell 0
    have Zc1 := Z.cell 1
    have Zc2 := Z.cell 2
    have Zc3 := Z.cell 3
    try simp at Zc0 Zc1 Zc2 Zc3
    go_wp2_with fail
    refine (Offset_is _ b f A A' n c n' c' l ys _ _ E0.out (hz0.below b3)).mono ?_
    rintro e w4 ⟨rfl, h4⟩
    have b4 := b3.trans (h4.mono b3.size)
    replace Z := Z.below h4 Z.lt
    clear lZ Zc0 Zc1 Zc2 Zc3
    have lZ := Z.lt
    have Zc0 := Z.cell 0
    have Zc1 := Z.cell 1
    have Zc2 := Z.cell 2
    have Zc3 := Z.cell 3
    try simp at Zc0 Zc1 Zc2 Zc3
    go_wp2
    go_ret
    exact ⟨rfl, ba.trans (b4.mono (by simp))⟩
  · have FW := Lib.hid hf
    clear hf
    cases h : mayB b l ys f
    · have E0 := Lib.hid (off_zero (u := u) (b := b) (l := l) (ys := ys) (f := f) (by rw [h]; rfl))
      have H := Lib.hid h
      clear h
      have lZ := Z.lt
      have Zc0 := Z.cell 0
      have Zc1 := Z.cell 1
      have Zc2 := Z.cell 2
      have Zc3 := Z.cell 3
      try simp at Zc0 Zc1 Zc2 Zc3
      go_enter Try.func7, Try.ntmps7
      go_wp2_with fail
      refine (first_own _ (tab_on (tab_on ht ba) b0)).mono ?_
      rintro e w1 ⟨rfl, h1⟩
      have b1 := b0.trans (h1.mono b0.size)
      replace Z := Z.below h1 Z.lt
      clear lZ Zc0 Zc1 Zc2 Zc3
      have lZ := Z.lt
      have Zc0 := Z.cell 0
      have Zc1 := Z.cell 1
      have Zc2 := Z.cell 2
      have Zc3 := Z.cell 3
      try simp at Zc0 Zc1 Zc2 Zc3
      go_wp2_with fail
      refine (few_is _ _ _ _ _ _ _ _ _ _ FW.out).mono ?_
      rintro e w2 ⟨rfl, h2⟩
      have b2 := b1.trans (h2.mono b1.size)
      replace Z := Z.below h2 Z.lt
      clear lZ Zc0 Zc1 Zc2 Zc3
      have lZ := Z.lt
      have Zc0 := Z.cell 0
      have Zc1 := Z.cell 1
      have Zc2 := Z.cell 2
      have Zc3 := Z.cell 3
      try simp at Zc0 Zc1 Zc2 Zc3
      go_wp2_with fail
      refine (zMay_own _ b f A A' n c n' c' l ys _ H.out (hz0.below b2)).mono ?_
      rintro e w3 ⟨rfl, h3⟩
      have b3 := b2.trans (h3.mono b2.size)
      replace Z := Z.below h3 Z.lt
      clear lZ Zc0 Zc1 Zc2 Zc3
      have lZ := Z.lt
      have Zc0 := Z.cell 0
      have Zc1 := Z.cell 1
      have Zc2 := Z.cell 2
      have Zc3 := Z.cell 3
      try simp at Zc0 Zc1 Zc2 Zc3
      go_wp2_with fail
      refine (first_own _ (tab_on (tab_on ht ba) b3)).mono ?_
      rintro e w4 ⟨rfl, h4⟩
      have b4 := b3.trans (h4.mono b3.size)
      replace Z := Z.below h4 Z.lt
      clear lZ Zc0 Zc1 Zc2 Zc3
      have lZ := Z.lt
      have Zc0 := Z.cell 0
      have Zc1 := Z.cell 1
      have Zc2 := Z.cell 2
      have Zc3 := Z.cell 3
      try simp at Zc0 Zc1 Zc2 Zc3
      go_wp2_with fail
      refine (Offset_is _ b f A A' n c n' c' l ys _ _ E0.out (hz0.below b4)).mono ?_
      rintro e w5 ⟨rfl, h5⟩
      have b5 := b4.trans (h5.mono b4.size)
      replace Z := Z.below h5 Z.lt
      clear lZ Zc0 Zc1 Zc2 Zc3
      have lZ := Z.lt
      have Zc0 := Z.cell 0
      have Zc1 := Z.cell 1
      have Zc2 := Z.cell 2
      have Zc3 := Z.cell 3
      try simp at Zc0 Zc1 Zc2 Zc3
      go_wp2
      go_ret
      exact ⟨rfl, ba.trans (b5.mono (by simp))⟩
    · have H := Lib.hid h
      cases hu : mayT u
      · have E0 := Lib.hid (off_zero (u := u) (b := b) (l := l) (ys := ys) (f := f) (by rw [hu]; simp))
        have HU := Lib.hid hu
        clear h hu
        have lZ := Z.lt
        have Zc0 := Z.cell 0
        have Zc1 := Z.cell 1
        have Zc2 := Z.cell 2
        have Zc3 := Z.cell 3
        try simp at Zc0 Zc1 Zc2 Zc3
        go_enter Try.func7, Try.ntmps7
        go_wp2_with fail
        refine (first_own _ (tab_on (tab_on ht ba) b0)).mono ?_
        rintro e w1 ⟨rfl, h1⟩
        have b1 := b0.trans (h1.mono b0.size)
        replace Z := Z.below h1 Z.lt
        clear lZ Zc0 Zc1 Zc2 Zc3
        have lZ := Z.lt
        have Zc0 := Z.cell 0
        have Zc1 := Z.cell 1
        have Zc2 := Z.cell 2
        have Zc3 := Z.cell 3
        try simp at Zc0 Zc1 Zc2 Zc3
        go_wp2_with fail
        refine (few_is _ _ _ _ _ _ _ _ _ _ FW.out).mono ?_
        rintro e w2 ⟨rfl, h2⟩
        have b2 := b1.trans (h2.mono b1.size)
        replace Z := Z.below h2 Z.lt
        clear lZ Zc0 Zc1 Zc2 Zc3
        have lZ := Z.lt
        have Zc0 := Z.cell 0
        have Zc1 := Z.cell 1
        have Zc2 := Z.cell 2
        have Zc3 := Z.cell 3
        try simp at Zc0 Zc1 Zc2 Zc3
        go_wp2_with fail
        refine (zMay_own _ b f A A' n c n' c' l ys _ H.out (hz0.below b2)).mono ?_
        rintro e w3 ⟨rfl, h3⟩
        have b3 := b2.trans (h3.mono b2.size)
        replace Z := Z.below h3 Z.lt
        clear lZ Zc0 Zc1 Zc2 Zc3
        have lZ := Z.lt
        have Zc0 := Z.cell 0
        have Zc1 := Z.cell 1
        have Zc2 := Z.cell 2
        have Zc3 := Z.cell 3
        try simp at Zc0 Zc1 Zc2 Zc3
        go_wp2_with fail
        refine (mayS_no _ _ HU.out).mono ?_
        rintro e _ ⟨rfl, rfl⟩
        go_wp2_with fail
        refine (first_own _ (tab_on (tab_on ht ba) b3)).mono ?_
        rintro e w4 ⟨rfl, h4⟩
        have b4 := b3.trans (h4.mono b3.size)
        replace Z := Z.below h4 Z.lt
        clear lZ Zc0 Zc1 Zc2 Zc3
        have lZ := Z.lt
        have Zc0 := Z.cell 0
        have Zc1 := Z.cell 1
        have Zc2 := Z.cell 2
        have Zc3 := Z.cell 3
        try simp at Zc0 Zc1 Zc2 Zc3
        go_wp2_with fail
        refine (Offset_is _ b f A A' n c n' c' l ys _ _ E0.out (hz0.below b4)).mono ?_
        rintro e w5 ⟨rfl, h5⟩
        have b5 := b4.trans (h5.mono b4.size)
        replace Z := Z.below h5 Z.lt
        clear lZ Zc0 Zc1 Zc2 Zc3
        have lZ := Z.lt
        have Zc0 := Z.cell 0
        have Zc1 := Z.cell 1
        have Zc2 := Z.cell 2
        have Zc3 := Z.cell 3
        try simp at Zc0 Zc1 Zc2 Zc3
        go_wp2
        go_ret
        exact ⟨rfl, ba.trans (b5.mono (by simp))⟩
      · have HU := Lib.hid hu
        obtain ⟨u3, u4⟩ := mayT_of hu
        have bd := ofs_bd h hu
        obtain ⟨b1', b2'⟩ := (may_of h).1
        obtain ⟨A1, A2, A3⟩ := law_shifts h hu
        cases ha : bef l ys f u with
        | none =>
          cases hb : aft l ys f u with
          | none =>
            have EO := Lib.hid (show offR b l ys f u = b from by rw [offR_eq h hu]; unfold ofs; rw [ha])
            have EL := Lib.hid (show locR b l ys f u = u + b from by rw [locR_eq h hu]; unfold ofs; rw [ha])
            have EA := Lib.hid (show befR b l ys f u = none from by rw [befR_eq h hu]; exact ha)
            have EB := Lib.hid (show aftR b l ys f u = none from by rw [aftR_eq h hu]; exact hb)
            clear h hu ha hb A1 A2 A3 bd
            have lZ := Z.lt
            have Zc0 := Z.cell 0
            have Zc1 := Z.cell 1
            have Zc2 := Z.cell 2
            have Zc3 := Z.cell 3
            try simp at Zc0 Zc1 Zc2 Zc3
            go_enter Try.func7, Try.ntmps7
            go_wp2_with fail
            refine (first_own _ (tab_on (tab_on ht ba) b0)).mono ?_
            rintro e w1 ⟨rfl, h1⟩
            have b1 := b0.trans (h1.mono b0.size)
            replace Z := Z.below h1 Z.lt
            clear lZ Zc0 Zc1 Zc2 Zc3
            have lZ := Z.lt
            have Zc0 := Z.cell 0
            have Zc1 := Z.cell 1
            have Zc2 := Z.cell 2
            have Zc3 := Z.cell 3
            try simp at Zc0 Zc1 Zc2 Zc3
            go_wp2_with fail
            refine (few_is _ _ _ _ _ _ _ _ _ _ FW.out).mono ?_
            rintro e w2 ⟨rfl, h2⟩
            have b2 := b1.trans (h2.mono b1.size)
            replace Z := Z.below h2 Z.lt
            clear lZ Zc0 Zc1 Zc2 Zc3
            have lZ := Z.lt
            have Zc0 := Z.cell 0
            have Zc1 := Z.cell 1
            have Zc2 := Z.cell 2
            have Zc3 := Z.cell 3
            try simp at Zc0 Zc1 Zc2 Zc3
            go_wp2_with fail
            refine (zMay_own _ b f A A' n c n' c' l ys _ H.out (hz0.below b2)).mono ?_
            rintro e w3 ⟨rfl, h3⟩
            have b3 := b2.trans (h3.mono b2.size)
            replace Z := Z.below h3 Z.lt
            clear lZ Zc0 Zc1 Zc2 Zc3
            have lZ := Z.lt
            have Zc0 := Z.cell 0
            have Zc1 := Z.cell 1
            have Zc2 := Z.cell 2
            have Zc3 := Z.cell 3
            try simp at Zc0 Zc1 Zc2 Zc3
            go_wp2_with fail
            refine (mayS_yes _ _ HU.out).mono ?_
            rintro e _ ⟨rfl, rfl⟩
            go_wp2_with fail
            refine (Before_none _ b f A A' n c n' c' l ys _ EA.out (hz0.below b3)).mono ?_
            rintro e w4 ⟨rfl, h4⟩
            have b4 := b3.trans (h4.mono b3.size)
            replace Z := Z.below h4 Z.lt
            clear lZ Zc0 Zc1 Zc2 Zc3
            have lZ := Z.lt
            have Zc0 := Z.cell 0
            have Zc1 := Z.cell 1
            have Zc2 := Z.cell 2
            have Zc3 := Z.cell 3
            try simp at Zc0 Zc1 Zc2 Zc3
            have SA := Blk.new w4 29 #[.int .i64 0, .int .i64 0]
            have a5 := (Below.refl _ _).alloc (Nat.le_refl _) (.cells #[.int .i64 0, .int .i64 0] 29) (w := w4)
            have b5 := b4.trans (a5.mono b4.size)
            replace Z := Z.below a5 Z.lt
            clear lZ Zc0 Zc1 Zc2 Zc3
            have lZ := Z.lt
            have Zc0 := Z.cell 0
            have Zc1 := Z.cell 1
            have Zc2 := Z.cell 2
            have Zc3 := Z.cell 3
            try simp at Zc0 Zc1 Zc2 Zc3
            have lSA := SA.lt
            have SAc0 := SA.cell 0
            have SAc1 := SA.cell 1
            try simp at SAc0 SAc1
            go_wp2_with fail
            refine (After_none _ b f A A' n c n' c' l ys _ EB.out (hz0.below b5)).mono ?_
            rintro e w6 ⟨rfl, h6⟩
            have b6 := b5.trans (h6.mono b5.size)
            replace Z := Z.below h6 Z.lt
            clear lZ Zc0 Zc1 Zc2 Zc3
            have lZ := Z.lt
            have Zc0 := Z.cell 0
            have Zc1 := Z.cell 1
            have Zc2 := Z.cell 2
            have Zc3 := Z.cell 3
            try simp at Zc0 Zc1 Zc2 Zc3
            replace SA := SA.below h6 SA.lt
            clear lSA SAc0 SAc1
            have lSA := SA.lt
            have SAc0 := SA.cell 0
            have SAc1 := SA.cell 1
            try simp at SAc0 SAc1
            have SB := Blk.new w6 29 #[.int .i64 0, .int .i64 0]
            have a7 := (Below.refl _ _).alloc (Nat.le_refl _) (.cells #[.int .i64 0, .int .i64 0] 29) (w := w6)
            have b7 := b6.trans (a7.mono b6.size)
            replace Z := Z.below a7 Z.lt
            clear lZ Zc0 Zc1 Zc2 Zc3
            have lZ := Z.lt
            have Zc0 := Z.cell 0
            have Zc1 := Z.cell 1
            have Zc2 := Z.cell 2
            have Zc3 := Z.cell 3
            try simp at Zc0 Zc1 Zc2 Zc3
            replace SA := SA.below a7 SA.lt
            clear lSA SAc0 SAc1
            have lSA := SA.lt
            have SAc0 := SA.cell 0
            have SAc1 := SA.cell 1
            try simp at SAc0 SAc1
            have lSB := SB.lt
            have SBc0 := SB.cell 0
            have SBc1 := SB.cell 1
            try simp at SBc0 SBc1
            go_wp2_with fail
            refine (Offset_is _ b f A A' n c n' c' l ys _ _ EO.out (hz0.below b7)).mono ?_
            rintro e w8 ⟨rfl, h8⟩
            have b8 := b7.trans (h8.mono b7.size)
            replace Z := Z.below h8 Z.lt
            clear lZ Zc0 Zc1 Zc2 Zc3
            have lZ := Z.lt
            have Zc0 := Z.cell 0
            have Zc1 := Z.cell 1
            have Zc2 := Z.cell 2
            have Zc3 := Z.cell 3
            try simp at Zc0 Zc1 Zc2 Zc3
            replace SA := SA.below h8 SA.lt
            clear lSA SAc0 SAc1
            have lSA := SA.lt
            have SAc0 := SA.cell 0
            have SAc1 := SA.cell 1
            try simp at SAc0 SAc1
            replace SB := SB.below h8 SB.lt
            clear lSB SBc0 SBc1
            have lSB := SB.lt
            have SBc0 := SB.cell 0
            have SBc1 := SB.cell 1
            try simp at SBc0 SBc1
            go_wp2_with fail
            have p9 : Past w8 w8 := Below.refl _ _
            have Zq0 : ∀ v : In (Past w8), v.w.cell? ⟨W.heap.size, 0, none⟩ = some (.int .i64 b) := fun v => (Below.cell (p := ⟨_, 0, none⟩) (show Below _ _ _ from v.h) lZ).trans Zc0
            have Zq1 : ∀ v : In (Past w8), v.w.cell? ⟨W.heap.size, 1, none⟩ = some (.slice A n c) := fun v => (Below.cell (p := ⟨_, 1, none⟩) (show Below _ _ _ from v.h) lZ).trans Zc1
            have Zq2 : ∀ v : In (Past w8), v.w.cell? ⟨W.heap.size, 2, none⟩ = some (.slice A' n' c') := fun v => (Below.cell (p := ⟨_, 2, none⟩) (show Below _ _ _ from v.h) lZ).trans Zc2
            have Zq3 : ∀ v : In (Past w8), v.w.cell? ⟨W.heap.size, 3, none⟩ = some (.int .i64 f) := fun v => (Below.cell (p := ⟨_, 3, none⟩) (show Below _ _ _ from v.h) lZ).trans Zc3
            have SAq0 : ∀ v : In (Past w8), v.w.cell? ⟨w4.heap.size, 0, none⟩ = some (.int .i64 0) := fun v => (Below.cell (p := ⟨_, 0, none⟩) (show Below _ _ _ from v.h) lSA).trans SAc0
            have SAq1 : ∀ v : In (Past w8), v.w.cell? ⟨w4.heap.size, 1, none⟩ = some (.int .i64 0) := fun v => (Below.cell (p := ⟨_, 1, none⟩) (show Below _ _ _ from v.h) lSA).trans SAc1
            have SBq0 : ∀ v : In (Past w8), v.w.cell? ⟨w6.heap.size, 0, none⟩ = some (.int .i64 0) := fun v => (Below.cell (p := ⟨_, 0, none⟩) (show Below _ _ _ from v.h) lSB).trans SBc0
            have SBq1 : ∀ v : In (Past w8), v.w.cell? ⟨w6.heap.size, 1, none⟩ = some (.int .i64 0) := fun v => (Below.cell (p := ⟨_, 1, none⟩) (show Below _ _ _ from v.h) lSB).trans SBc1
            have HQ := Lib.hid (fun (v : In (Past w8)) => (hz0.below b8).below (show Below _ _ _ from v.h))
            have hne9 : Nonempty (In (Past w8)) := ⟨⟨_, p9⟩⟩
            have HT := Lib.hid (fun (v : In (Past w8)) => tab_on (tab_on (tab_on ht ba) b8) (show Below _ _ _ from v.h))
            refine wp_region_class (Past w8) (by kernel_rfl) (by kernel_rfl) (Past.drew' p9) ?_
            repeat (any_goals (first | go_big_quiet_step ((fail)) | quiet_step ((fail))))
            refine wpQuiet_nil ?_
            rintro _ ⟨⟨w9, h9⟩, rfl⟩
            replace h9 : Below _ _ _ := h9
            clear HQ HT hne9 p9 Zq0 Zq1 Zq2 Zq3 SAq0 SAq1 SBq0 SBq1
            have b9 := b8.trans (h9.mono b8.size)
            replace Z := Z.below h9 Z.lt
            clear lZ Zc0 Zc1 Zc2 Zc3
            have lZ := Z.lt
            have Zc0 := Z.cell 0
            have Zc1 := Z.cell 1
            have Zc2 := Z.cell 2
            have Zc3 := Z.cell 3
            try simp at Zc0 Zc1 Zc2 Zc3
            replace SA := SA.below h9 SA.lt
            clear lSA SAc0 SAc1
            have lSA := SA.lt
            have SAc0 := SA.cell 0
            have SAc1 := SA.cell 1
            try simp at SAc0 SAc1
            replace SB := SB.below h9 SB.lt
            clear lSB SBc0 SBc1
            have lSB := SB.lt
            have SBc0 := SB.cell 0
            have SBc1 := SB.cell 1
            try simp at SBc0 SBc1
            go_wp2_with fail
            refine (first_own _ (tab_on (tab_on ht ba) b9)).mono ?_
            rintro e w10 ⟨rfl, h10⟩
            have b10 := b9.trans (h10.mono b9.size)
            replace Z := Z.below h10 Z.lt
            clear lZ Zc0 Zc1 Zc2 Zc3
            have lZ := Z.lt
            have Zc0 := Z.cell 0
            have Zc1 := Z.cell 1
            have Zc2 := Z.cell 2
            have Zc3 := Z.cell 3
            try simp at Zc0 Zc1 Zc2 Zc3
            replace SA := SA.below h10 SA.lt
            clear lSA SAc0 SAc1
            have lSA := SA.lt
            have SAc0 := SA.cell 0
            have SAc1 := SA.cell 1
            try simp at SAc0 SAc1
            replace SB := SB.below h10 SB.lt
            clear lSB SBc0 SBc1
            have lSB := SB.lt
            have SBc0 := SB.cell 0
            have SBc1 := SB.cell 1
            try simp at SBc0 SBc1
            go_wp2_with fail
            refine (Local_is _ b f A A' n c n' c' l ys _ _ EL.out (hz0.below b10)).mono ?_
            rintro e w11 ⟨rfl, h11⟩
            have b11 := b10.trans (h11.mono b10.size)
            replace Z := Z.below h11 Z.lt
            clear lZ Zc0 Zc1 Zc2 Zc3
            have lZ := Z.lt
            have Zc0 := Z.cell 0
            have Zc1 := Z.cell 1
            have Zc2 := Z.cell 2
            have Zc3 := Z.cell 3
            try simp at Zc0 Zc1 Zc2 Zc3
            replace SA := SA.below h11 SA.lt
            clear lSA SAc0 SAc1
            have lSA := SA.lt
            have SAc0 := SA.cell 0
            have SAc1 := SA.cell 1
            try simp at SAc0 SAc1
            replace SB := SB.below h11 SB.lt
            clear lSB SBc0 SBc1
            have lSB := SB.lt
            have SBc0 := SB.cell 0
            have SBc1 := SB.cell 1
            try simp at SBc0 SBc1
            go_wp2
            go_ret
            exact ⟨rfl, ba.trans (b11.mono (by simp))⟩
          | some r =>
            have EO := Lib.hid (show offR b l ys f u = b from by rw [offR_eq h hu]; unfold ofs; rw [ha])
            have EL := Lib.hid (show locR b l ys f u = u + b from by rw [locR_eq h hu]; unfold ofs; rw [ha])
            have EA := Lib.hid (show befR b l ys f u = none from by rw [befR_eq h hu]; exact ha)
            have EB := Lib.hid (show aftR b l ys f u = some r from by rw [aftR_eq h hu]; exact hb)
            obtain ⟨y1, y2, y3, y4, y5⟩ := A2 r hb
            have EY := Lib.hid (show offR b l ys f r.t = r.o from by rw [offR_eq h y2]; exact y3)
            obtain ⟨y6, y7⟩ := mayT_of y2
            have EZ := Lib.hid (show offR b l ys f (r.t - 1) = b from by rw [offR_eq h y4, y5]; unfold ofs; rw [ha])
            have w1 : IntKind.i64.wrap (r.t - 1) = r.t - 1 := IntWalk.i64_in _ (by omega)
            clear h hu ha hb A1 A2 A3 bd y2 y3 y4 y5
            have lZ := Z.lt
            have Zc0 := Z.cell 0
            have Zc1 := Z.cell 1
            have Zc2 := Z.cell 2
            have Zc3 := Z.cell 3
            try simp at Zc0 Zc1 Zc2 Zc3
            go_enter Try.func7, Try.ntmps7
            go_wp2_with fail
            refine (first_own _ (tab_on (tab_on ht ba) b0)).mono ?_
            rintro e w1 ⟨rfl, h1⟩
            have b1 := b0.trans (h1.mono b0.size)
            replace Z := Z.below h1 Z.lt
            clear lZ Zc0 Zc1 Zc2 Zc3
            have lZ := Z.lt
            have Zc0 := Z.cell 0
            have Zc1 := Z.cell 1
            have Zc2 := Z.cell 2
            have Zc3 := Z.cell 3
            try simp at Zc0 Zc1 Zc2 Zc3
            go_wp2_with fail
            refine (few_is _ _ _ _ _ _ _ _ _ _ FW.out).mono ?_
            rintro e w2 ⟨rfl, h2⟩
            have b2 := b1.trans (h2.mono b1.size)
            replace Z := Z.below h2 Z.lt
            clear lZ Zc0 Zc1 Zc2 Zc3
            have lZ := Z.lt
            have Zc0 := Z.cell 0
            have Zc1 := Z.cell 1
            have Zc2 := Z.cell 2
            have Zc3 := Z.cell 3
            try simp at Zc0 Zc1 Zc2 Zc3
            go_wp2_with fail
            refine (zMay_own _ b f A A' n c n' c' l ys _ H.out (hz0.below b2)).mono ?_
            rintro e w3 ⟨rfl, h3⟩
            have b3 := b2.trans (h3.mono b2.size)
            replace Z := Z.below h3 Z.lt
            clear lZ Zc0 Zc1 Zc2 Zc3
            have lZ := Z.lt
            have Zc0 := Z.cell 0
            have Zc1 := Z.cell 1
            have Zc2 := Z.cell 2
            have Zc3 := Z.cell 3
            try simp at Zc0 Zc1 Zc2 Zc3
            go_wp2_with fail
            refine (mayS_yes _ _ HU.out).mono ?_
            rintro e _ ⟨rfl, rfl⟩
            go_wp2_with fail
            refine (Before_none _ b f A A' n c n' c' l ys _ EA.out (hz0.below b3)).mono ?_
            rintro e w4 ⟨rfl, h4⟩
            have b4 := b3.trans (h4.mono b3.size)
            replace Z := Z.below h4 Z.lt
            clear lZ Zc0 Zc1 Zc2 Zc3
            have lZ := Z.lt
            have Zc0 := Z.cell 0
            have Zc1 := Z.cell 1
            have Zc2 := Z.cell 2
            have Zc3 := Z.cell 3
            try simp at Zc0 Zc1 Zc2 Zc3
            have SA := Blk.new w4 29 #[.int .i64 0, .int .i64 0]
            have a5 := (Below.refl _ _).alloc (Nat.le_refl _) (.cells #[.int .i64 0, .int .i64 0] 29) (w := w4)
            have b5 := b4.trans (a5.mono b4.size)
            replace Z := Z.below a5 Z.lt
            clear lZ Zc0 Zc1 Zc2 Zc3
            have lZ := Z.lt
            have Zc0 := Z.cell 0
            have Zc1 := Z.cell 1
            have Zc2 := Z.cell 2
            have Zc3 := Z.cell 3
            try simp at Zc0 Zc1 Zc2 Zc3
            have lSA := SA.lt
            have SAc0 := SA.cell 0
            have SAc1 := SA.cell 1
            try simp at SAc0 SAc1
            go_wp2_with fail
            refine (After_some _ b f A A' n c n' c' l ys _ _ EB.out (hz0.below b5)).mono ?_
            rintro e w6 ⟨rfl, h6⟩
            have b6 := b5.trans (h6.mono b5.size)
            replace Z := Z.below h6 Z.lt
            clear lZ Zc0 Zc1 Zc2 Zc3
            have lZ := Z.lt
            have Zc0 := Z.cell 0
            have Zc1 := Z.cell 1
            have Zc2 := Z.cell 2
            have Zc3 := Z.cell 3
            try simp at Zc0 Zc1 Zc2 Zc3
            replace SA := SA.below h6 SA.lt
            clear lSA SAc0 SAc1
            have lSA := SA.lt
            have SAc0 := SA.cell 0
            have SAc1 := SA.cell 1
            try simp at SAc0 SAc1
            have SB := Blk.new w6 29 #[.int .i64 r.t, .int .i64 r.o]
            have a7 := (Below.refl _ _).alloc (Nat.le_refl _) (.cells #[.int .i64 r.t, .int .i64 r.o] 29) (w := w6)
            have b7 := b6.trans (a7.mono b6.size)
            replace Z := Z.below a7 Z.lt
            clear lZ Zc0 Zc1 Zc2 Zc3
            have lZ := Z.lt
            have Zc0 := Z.cell 0
            have Zc1 := Z.cell 1
            have Zc2 := Z.cell 2
            have Zc3 := Z.cell 3
            try simp at Zc0 Zc1 Zc2 Zc3
            replace SA := SA.below a7 SA.lt
            clear lSA SAc0 SAc1
            have lSA := SA.lt
            have SAc0 := SA.cell 0
            have SAc1 := SA.cell 1
            try simp at SAc0 SAc1
            have lSB := SB.lt
            have SBc0 := SB.cell 0
            have SBc1 := SB.cell 1
            try simp at SBc0 SBc1
            go_wp2_with fail
            refine (Offset_is _ b f A A' n c n' c' l ys _ _ EO.out (hz0.below b7)).mono ?_
            rintro e w8 ⟨rfl, h8⟩
            have b8 := b7.trans (h8.mono b7.size)
            replace Z := Z.below h8 Z.lt
            clear lZ Zc0 Zc1 Zc2 Zc3
            have lZ := Z.lt
            have Zc0 := Z.cell 0
            have Zc1 := Z.cell 1
            have Zc2 := Z.cell 2
            have Zc3 := Z.cell 3
            try simp at Zc0 Zc1 Zc2 Zc3
            replace SA := SA.below h8 SA.lt
            clear lSA SAc0 SAc1
            have lSA := SA.lt
            have SAc0 := SA.cell 0
            have SAc1 := SA.cell 1
            try simp at SAc0 SAc1
            replace SB := SB.below h8 SB.lt
            clear lSB SBc0 SBc1
            have lSB := SB.lt
            have SBc0 := SB.cell 0
            have SBc1 := SB.cell 1
            try simp at SBc0 SBc1
            go_wp2_with fail
            have p9 : Past w8 w8 := Below.refl _ _
            have Zq0 : ∀ v : In (Past w8), v.w.cell? ⟨W.heap.size, 0, none⟩ = some (.int .i64 b) := fun v => (Below.cell (p := ⟨_, 0, none⟩) (show Below _ _ _ from v.h) lZ).trans Zc0
            have Zq1 : ∀ v : In (Past w8), v.w.cell? ⟨W.heap.size, 1, none⟩ = some (.slice A n c) := fun v => (Below.cell (p := ⟨_, 1, none⟩) (show Below _ _ _ from v.h) lZ).trans Zc1
            have Zq2 : ∀ v : In (Past w8), v.w.cell? ⟨W.heap.size, 2, none⟩ = some (.slice A' n' c') := fun v => (Below.cell (p := ⟨_, 2, none⟩) (show Below _ _ _ from v.h) lZ).trans Zc2
            have Zq3 : ∀ v : In (Past w8), v.w.cell? ⟨W.heap.size, 3, none⟩ = some (.int .i64 f) := fun v => (Below.cell (p := ⟨_, 3, none⟩) (show Below _ _ _ from v.h) lZ).trans Zc3
            have SAq0 : ∀ v : In (Past w8), v.w.cell? ⟨w4.heap.size, 0, none⟩ = some (.int .i64 0) := fun v => (Below.cell (p := ⟨_, 0, none⟩) (show Below _ _ _ from v.h) lSA).trans SAc0
            have SAq1 : ∀ v : In (Past w8), v.w.cell? ⟨w4.heap.size, 1, none⟩ = some (.int .i64 0) := fun v => (Below.cell (p := ⟨_, 1, none⟩) (show Below _ _ _ from v.h) lSA).trans SAc1
            have SBq0 : ∀ v : In (Past w8), v.w.cell? ⟨w6.heap.size, 0, none⟩ = some (.int .i64 r.t) := fun v => (Below.cell (p := ⟨_, 0, none⟩) (show Below _ _ _ from v.h) lSB).trans SBc0
            have SBq1 : ∀ v : In (Past w8), v.w.cell? ⟨w6.heap.size, 1, none⟩ = some (.int .i64 r.o) := fun v => (Below.cell (p := ⟨_, 1, none⟩) (show Below _ _ _ from v.h) lSB).trans SBc1
            have HQ := Lib.hid (fun (v : In (Past w8)) => (hz0.below b8).below (show Below _ _ _ from v.h))
            have hne9 : Nonempty (In (Past w8)) := ⟨⟨_, p9⟩⟩
            have HT := Lib.hid (fun (v : In (Past w8)) => tab_on (tab_on (tab_on ht ba) b8) (show Below _ _ _ from v.h))
            refine wp_region_class (Past w8) (by kernel_rfl) (by kernel_rfl) (Past.drew' p9) ?_
            repeat (any_goals (first | go_big_quiet_step ((first | (with_reducible refine quiet_cl Past.on (Offset_is _ b f A A' n c n' c' l ys _ _ EY.out ?_); first | exact HQ.out _ | exact HT.out _) | (with_reducible refine quiet_cl Past.on (Offset_is _ b f A A' n c n' c' l ys _ _ EZ.out ?_); first | exact HQ.out _ | exact HT.out _))) | quiet_step ((first | (with_reducible refine quiet_cl Past.on (Offset_is _ b f A A' n c n' c' l ys _ _ EY.out ?_); first | exact HQ.out _ | exact HT.out _) | (with_reducible refine quiet_cl Past.on (Offset_is _ b f A A' n c n' c' l ys _ _ EZ.out ?_); first | exact HQ.out _ | exact HT.out _)))))
            refine wpQuiet_nil ?_
            rintro _ ⟨⟨w9, h9⟩, rfl⟩
            replace h9 : Below _ _ _ := h9
            clear HQ HT hne9 p9 Zq0 Zq1 Zq2 Zq3 SAq0 SAq1 SBq0 SBq1
            have b9 := b8.trans (h9.mono b8.size)
            replace Z := Z.below h9 Z.lt
            clear lZ Zc0 Zc1 Zc2 Zc3
            have lZ := Z.lt
            have Zc0 := Z.cell 0
            have Zc1 := Z.cell 1
            have Zc2 := Z.cell 2
            have Zc3 := Z.cell 3
            try simp at Zc0 Zc1 Zc2 Zc3
            replace SA := SA.below h9 SA.lt
            clear lSA SAc0 SAc1
            have lSA := SA.lt
            have SAc0 := SA.cell 0
            have SAc1 := SA.cell 1
            try simp at SAc0 SAc1
            replace SB := SB.below h9 SB.lt
            clear lSB SBc0 SBc1
            have lSB := SB.lt
            have SBc0 := SB.cell 0
            have SBc1 := SB.cell 1
            try simp at SBc0 SBc1
            go_wp2_with fail
            refine (first_own _ (tab_on (tab_on ht ba) b9)).mono ?_
            rintro e w10 ⟨rfl, h10⟩
            have b10 := b9.trans (h10.mono b9.size)
            replace Z := Z.below h10 Z.lt
            clear lZ Zc0 Zc1 Zc2 Zc3
            have lZ := Z.lt
            have Zc0 := Z.cell 0
            have Zc1 := Z.cell 1
            have Zc2 := Z.cell 2
            have Zc3 := Z.cell 3
            try simp at Zc0 Zc1 Zc2 Zc3
            replace SA := SA.below h10 SA.lt
            clear lSA SAc0 SAc1
            have lSA := SA.lt
            have SAc0 := SA.cell 0
            have SAc1 := SA.cell 1
            try simp at SAc0 SAc1
            replace SB := SB.below h10 SB.lt
            clear lSB SBc0 SBc1
            have lSB := SB.lt
            have SBc0 := SB.cell 0
            have SBc1 := SB.cell 1
            try simp at SBc0 SBc1
            go_wp2_with fail
            refine (Local_is _ b f A A' n c n' c' l ys _ _ EL.out (hz0.below b10)).mono ?_
            rintro e w11 ⟨rfl, h11⟩
            have b11 := b10.trans (h11.mono b10.size)
            replace Z := Z.below h11 Z.lt
            clear lZ Zc0 Zc1 Zc2 Zc3
            have lZ := Z.lt
            have Zc0 := Z.cell 0
            have Zc1 := Z.cell 1
            have Zc2 := Z.cell 2
            have Zc3 := Z.cell 3
            try simp at Zc0 Zc1 Zc2 Zc3
            replace SA := SA.below h11 SA.lt
            clear lSA SAc0 SAc1
            have lSA := SA.lt
            have SAc0 := SA.cell 0
            have SAc1 := SA.cell 1
            try simp at SAc0 SAc1
            replace SB := SB.below h11 SB.lt
            clear lSB SBc0 SBc1
            have lSB := SB.lt
            have SBc0 := SB.cell 0
            have SBc1 := SB.cell 1
            try simp at SBc0 SBc1
            go_wp2
            go_ret
            exact ⟨rfl, ba.trans (b11.mono (by simp))⟩
        | some s =>
          cases hb : aft l ys f u with
          | none =>
            have EO := Lib.hid (show offR b l ys f u = s.o from by rw [offR_eq h hu]; unfold ofs; rw [ha])
            have EL := Lib.hid (show locR b l ys f u = u + s.o from by rw [locR_eq h hu]; unfold ofs; rw [ha])
            have EA := Lib.hid (show befR b l ys f u = some s from by rw [befR_eq h hu]; exact ha)
            have EB := Lib.hid (show aftR b l ys f u = none from by rw [aftR_eq h hu]; exact hb)
            obtain ⟨x1, x2, x3⟩ := A1 s ha
            have EX := Lib.hid (show offR b l ys f s.t = s.o from by rw [offR_eq h x2]; exact x3)
            obtain ⟨x4, x5⟩ := mayT_of x2
            have so : -64800 ≤ s.o ∧ s.o ≤ 64800 := by have := ofs_bd h x2; rw [x3] at this; exact this
            obtain ⟨so1, so2⟩ := so
            clear h hu ha hb A1 A2 A3 bd x2 x3
            have lZ := Z.lt
            have Zc0 := Z.cell 0
            have Zc1 := Z.cell 1
            have Zc2 := Z.cell 2
            have Zc3 := Z.cell 3
            try simp at Zc0 Zc1 Zc2 Zc3
            go_enter Try.func7, Try.ntmps7
            go_wp2_with fail
            refine (first_own _ (tab_on (tab_on ht ba) b0)).mono ?_
            rintro e w1 ⟨rfl, h1⟩
            have b1 := b0.trans (h1.mono b0.size)
            replace Z := Z.below h1 Z.lt
            clear lZ Zc0 Zc1 Zc2 Zc3
            have lZ := Z.lt
            have Zc0 := Z.cell 0
            have Zc1 := Z.cell 1
            have Zc2 := Z.cell 2
            have Zc3 := Z.cell 3
            try simp at Zc0 Zc1 Zc2 Zc3
            go_wp2_with fail
            refine (few_is _ _ _ _ _ _ _ _ _ _ FW.out).mono ?_
            rintro e w2 ⟨rfl, h2⟩
            have b2 := b1.trans (h2.mono b1.size)
            replace Z := Z.below h2 Z.lt
            clear lZ Zc0 Zc1 Zc2 Zc3
            have lZ := Z.lt
            have Zc0 := Z.cell 0
            have Zc1 := Z.cell 1
            have Zc2 := Z.cell 2
            have Zc3 := Z.cell 3
            try simp at Zc0 Zc1 Zc2 Zc3
            go_wp2_with fail
            refine (zMay_own _ b f A A' n c n' c' l ys _ H.out (hz0.below b2)).mono ?_
            rintro e w3 ⟨rfl, h3⟩
            have b3 := b2.trans (h3.mono b2.size)
            replace Z := Z.below h3 Z.lt
            clear lZ Zc0 Zc1 Zc2 Zc3
            have lZ := Z.lt
            have Zc0 := Z.cell 0
            have Zc1 := Z.cell 1
            have Zc2 := Z.cell 2
            have Zc3 := Z.cell 3
            try simp at Zc0 Zc1 Zc2 Zc3
            go_wp2_with fail
            refine (mayS_yes _ _ HU.out).mono ?_
            rintro e _ ⟨rfl, rfl⟩
            go_wp2_with fail
            refine (Before_some _ b f A A' n c n' c' l ys _ _ EA.out (hz0.below b3)).mono ?_
            rintro e w4 ⟨rfl, h4⟩
            have b4 := b3.trans (h4.mono b3.size)
            replace Z := Z.below h4 Z.lt
            clear lZ Zc0 Zc1 Zc2 Zc3
            have lZ := Z.lt
            have Zc0 := Z.cell 0
            have Zc1 := Z.cell 1
            have Zc2 := Z.cell 2
            have Zc3 := Z.cell 3
            try simp at Zc0 Zc1 Zc2 Zc3
            have SA := Blk.new w4 29 #[.int .i64 s.t, .int .i64 s.o]
            have a5 := (Below.refl _ _).alloc (Nat.le_refl _) (.cells #[.int .i64 s.t, .int .i64 s.o] 29) (w := w4)
            have b5 := b4.trans (a5.mono b4.size)
            replace Z := Z.below a5 Z.lt
            clear lZ Zc0 Zc1 Zc2 Zc3
            have lZ := Z.lt
            have Zc0 := Z.cell 0
            have Zc1 := Z.cell 1
            have Zc2 := Z.cell 2
            have Zc3 := Z.cell 3
            try simp at Zc0 Zc1 Zc2 Zc3
            have lSA := SA.lt
            have SAc0 := SA.cell 0
            have SAc1 := SA.cell 1
            try simp at SAc0 SAc1
            go_wp2_with fail
            refine (After_none _ b f A A' n c n' c' l ys _ EB.out (hz0.below b5)).mono ?_
            rintro e w6 ⟨rfl, h6⟩
            have b6 := b5.trans (h6.mono b5.size)
            replace Z := Z.below h6 Z.lt
            clear lZ Zc0 Zc1 Zc2 Zc3
            have lZ := Z.lt
            have Zc0 := Z.cell 0
            have Zc1 := Z.cell 1
            have Zc2 := Z.cell 2
            have Zc3 := Z.cell 3
            try simp at Zc0 Zc1 Zc2 Zc3
            replace SA := SA.below h6 SA.lt
            clear lSA SAc0 SAc1
            have lSA := SA.lt
            have SAc0 := SA.cell 0
            have SAc1 := SA.cell 1
            try simp at SAc0 SAc1
            have SB := Blk.new w6 29 #[.int .i64 0, .int .i64 0]
            have a7 := (Below.refl _ _).alloc (Nat.le_refl _) (.cells #[.int .i64 0, .int .i64 0] 29) (w := w6)
            have b7 := b6.trans (a7.mono b6.size)
            replace Z := Z.below a7 Z.lt
            clear lZ Zc0 Zc1 Zc2 Zc3
            have lZ := Z.lt
            have Zc0 := Z.cell 0
            have Zc1 := Z.cell 1
            have Zc2 := Z.cell 2
            have Zc3 := Z.cell 3
            try simp at Zc0 Zc1 Zc2 Zc3
            replace SA := SA.below a7 SA.lt
            clear lSA SAc0 SAc1
            have lSA := SA.lt
            have SAc0 := SA.cell 0
            have SAc1 := SA.cell 1
            try simp at SAc0 SAc1
            have lSB := SB.lt
            have SBc0 := SB.cell 0
            have SBc1 := SB.cell 1
            try simp at SBc0 SBc1
            go_wp2_with fail
            refine (Offset_is _ b f A A' n c n' c' l ys _ _ EO.out (hz0.below b7)).mono ?_
            rintro e w8 ⟨rfl, h8⟩
            have b8 := b7.trans (h8.mono b7.size)
            replace Z := Z.below h8 Z.lt
            clear lZ Zc0 Zc1 Zc2 Zc3
            have lZ := Z.lt
            have Zc0 := Z.cell 0
            have Zc1 := Z.cell 1
            have Zc2 := Z.cell 2
            have Zc3 := Z.cell 3
            try simp at Zc0 Zc1 Zc2 Zc3
            replace SA := SA.below h8 SA.lt
            clear lSA SAc0 SAc1
            have lSA := SA.lt
            have SAc0 := SA.cell 0
            have SAc1 := SA.cell 1
            try simp at SAc0 SAc1
            replace SB := SB.below h8 SB.lt
            clear lSB SBc0 SBc1
            have lSB := SB.lt
            have SBc0 := SB.cell 0
            have SBc1 := SB.cell 1
            try simp at SBc0 SBc1
            go_wp2_with fail
            have p9 : Past w8 w8 := Below.refl _ _
            have Zq0 : ∀ v : In (Past w8), v.w.cell? ⟨W.heap.size, 0, none⟩ = some (.int .i64 b) := fun v => (Below.cell (p := ⟨_, 0, none⟩) (show Below _ _ _ from v.h) lZ).trans Zc0
            have Zq1 : ∀ v : In (Past w8), v.w.cell? ⟨W.heap.size, 1, none⟩ = some (.slice A n c) := fun v => (Below.cell (p := ⟨_, 1, none⟩) (show Below _ _ _ from v.h) lZ).trans Zc1
            have Zq2 : ∀ v : In (Past w8), v.w.cell? ⟨W.heap.size, 2, none⟩ = some (.slice A' n' c') := fun v => (Below.cell (p := ⟨_, 2, none⟩) (show Below _ _ _ from v.h) lZ).trans Zc2
            have Zq3 : ∀ v : In (Past w8), v.w.cell? ⟨W.heap.size, 3, none⟩ = some (.int .i64 f) := fun v => (Below.cell (p := ⟨_, 3, none⟩) (show Below _ _ _ from v.h) lZ).trans Zc3
            have SAq0 : ∀ v : In (Past w8), v.w.cell? ⟨w4.heap.size, 0, none⟩ = some (.int .i64 s.t) := fun v => (Below.cell (p := ⟨_, 0, none⟩) (show Below _ _ _ from v.h) lSA).trans SAc0
            have SAq1 : ∀ v : In (Past w8), v.w.cell? ⟨w4.heap.size, 1, none⟩ = some (.int .i64 s.o) := fun v => (Below.cell (p := ⟨_, 1, none⟩) (show Below _ _ _ from v.h) lSA).trans SAc1
            have SBq0 : ∀ v : In (Past w8), v.w.cell? ⟨w6.heap.size, 0, none⟩ = some (.int .i64 0) := fun v => (Below.cell (p := ⟨_, 0, none⟩) (show Below _ _ _ from v.h) lSB).trans SBc0
            have SBq1 : ∀ v : In (Past w8), v.w.cell? ⟨w6.heap.size, 1, none⟩ = some (.int .i64 0) := fun v => (Below.cell (p := ⟨_, 1, none⟩) (show Below _ _ _ from v.h) lSB).trans SBc1
            have HQ := Lib.hid (fun (v : In (Past w8)) => (hz0.below b8).below (show Below _ _ _ from v.h))
            have hne9 : Nonempty (In (Past w8)) := ⟨⟨_, p9⟩⟩
            have HT := Lib.hid (fun (v : In (Past w8)) => tab_on (tab_on (tab_on ht ba) b8) (show Below _ _ _ from v.h))
            refine wp_region_class (Past w8) (by kernel_rfl) (by kernel_rfl) (Past.drew' p9) ?_
            repeat (any_goals (first | go_big_quiet_step ((first | (with_reducible refine quiet_cl Past.on (Offset_is _ b f A A' n c n' c' l ys _ _ EX.out ?_); first | exact HQ.out _ | exact HT.out _))) | quiet_step ((first | (with_reducible refine quiet_cl Past.on (Offset_is _ b f A A' n c n' c' l ys _ _ EX.out ?_); first | exact HQ.out _ | exact HT.out _)))))
            refine wpQuiet_nil ?_
            rintro _ ⟨⟨w9, h9⟩, rfl⟩
            replace h9 : Below _ _ _ := h9
            clear HQ HT hne9 p9 Zq0 Zq1 Zq2 Zq3 SAq0 SAq1 SBq0 SBq1
            have b9 := b8.trans (h9.mono b8.size)
            replace Z := Z.below h9 Z.lt
            clear lZ Zc0 Zc1 Zc2 Zc3
            have lZ := Z.lt
            have Zc0 := Z.cell 0
            have Zc1 := Z.cell 1
            have Zc2 := Z.cell 2
            have Zc3 := Z.cell 3
            try simp at Zc0 Zc1 Zc2 Zc3
            replace SA := SA.below h9 SA.lt
            clear lSA SAc0 SAc1
            have lSA := SA.lt
            have SAc0 := SA.cell 0
            have SAc1 := SA.cell 1
            try simp at SAc0 SAc1
            replace SB := SB.below h9 SB.lt
            clear lSB SBc0 SBc1
            have lSB := SB.lt
            have SBc0 := SB.cell 0
            have SBc1 := SB.cell 1
            try simp at SBc0 SBc1
            go_wp2_with fail
            refine (first_own _ (tab_on (tab_on ht ba) b9)).mono ?_
            rintro e w10 ⟨rfl, h10⟩
            have b10 := b9.trans (h10.mono b9.size)
            replace Z := Z.below h10 Z.lt
            clear lZ Zc0 Zc1 Zc2 Zc3
            have lZ := Z.lt
            have Zc0 := Z.cell 0
            have Zc1 := Z.cell 1
            have Zc2 := Z.cell 2
            have Zc3 := Z.cell 3
            try simp at Zc0 Zc1 Zc2 Zc3
            replace SA := SA.below h10 SA.lt
            clear lSA SAc0 SAc1
            have lSA := SA.lt
            have SAc0 := SA.cell 0
            have SAc1 := SA.cell 1
            try simp at SAc0 SAc1
            replace SB := SB.below h10 SB.lt
            clear lSB SBc0 SBc1
            have lSB := SB.lt
            have SBc0 := SB.cell 0
            have SBc1 := SB.cell 1
            try simp at SBc0 SBc1
            go_wp2_with fail
            refine (Local_is _ b f A A' n c n' c' l ys _ _ EL.out (hz0.below b10)).mono ?_
            rintro e w11 ⟨rfl, h11⟩
            have b11 := b10.trans (h11.mono b10.size)
            replace Z := Z.below h11 Z.lt
            clear lZ Zc0 Zc1 Zc2 Zc3
            have lZ := Z.lt
            have Zc0 := Z.cell 0
            have Zc1 := Z.cell 1
            have Zc2 := Z.cell 2
            have Zc3 := Z.cell 3
            try simp at Zc0 Zc1 Zc2 Zc3
            replace SA := SA.below h11 SA.lt
            clear lSA SAc0 SAc1
            have lSA := SA.lt
            have SAc0 := SA.cell 0
            have SAc1 := SA.cell 1
            try simp at SAc0 SAc1
            replace SB := SB.below h11 SB.lt
            clear lSB SBc0 SBc1
            have lSB := SB.lt
            have SBc0 := SB.cell 0
            have SBc1 := SB.cell 1
            try simp at SBc0 SBc1
            go_wp2
            go_ret
            exact ⟨rfl, ba.trans (b11.mono (by simp))⟩
          | some r =>
            have EO := Lib.hid (show offR b l ys f u = s.o from by rw [offR_eq h hu]; unfold ofs; rw [ha])
            have EL := Lib.hid (show locR b l ys f u = u + s.o from by rw [locR_eq h hu]; unfold ofs; rw [ha])
            have EA := Lib.hid (show befR b l ys f u = some s from by rw [befR_eq h hu]; exact ha)
            have EB := Lib.hid (show aftR b l ys f u = some r from by rw [aftR_eq h hu]; exact hb)
            obtain ⟨x1, x2, x3⟩ := A1 s ha
            have EX := Lib.hid (show offR b l ys f s.t = s.o from by rw [offR_eq h x2]; exact x3)
            obtain ⟨x4, x5⟩ := mayT_of x2
            have so : -64800 ≤ s.o ∧ s.o ≤ 64800 := by have := ofs_bd h x2; rw [x3] at this; exact this
            obtain ⟨so1, so2⟩ := so
            obtain ⟨y1, y2, y3, y4, y5⟩ := A2 r hb
            have EY := Lib.hid (show offR b l ys f r.t = r.o from by rw [offR_eq h y2]; exact y3)
            obtain ⟨y6, y7⟩ := mayT_of y2
            have EZ := Lib.hid (show offR b l ys f (r.t - 1) = s.o from by rw [offR_eq h y4, y5]; unfold ofs; rw [ha])
            have w1 : IntKind.i64.wrap (r.t - 1) = r.t - 1 := IntWalk.i64_in _ (by omega)
            have gap := A3 s r ha hb
            clear h hu ha hb A1 A2 A3 bd x2 x3 y2 y3 y4 y5
            have lZ := Z.lt
            have Zc0 := Z.cell 0
            have Zc1 := Z.cell 1
            have Zc2 := Z.cell 2
            have Zc3 := Z.cell 3
            try simp at Zc0 Zc1 Zc2 Zc3
            go_enter Try.func7, Try.ntmps7
            go_wp2_with fail
            refine (first_own _ (tab_on (tab_on ht ba) b0)).mono ?_
            rintro e w1 ⟨rfl, h1⟩
            have b1 := b0.trans (h1.mono b0.size)
            replace Z := Z.below h1 Z.lt
            clear lZ Zc0 Zc1 Zc2 Zc3
            have lZ := Z.lt
            have Zc0 := Z.cell 0
            have Zc1 := Z.cell 1
            have Zc2 := Z.cell 2
            have Zc3 := Z.cell 3
            try simp at Zc0 Zc1 Zc2 Zc3
            go_wp2_with fail
            refine (few_is _ _ _ _ _ _ _ _ _ _ FW.out).mono ?_
            rintro e w2 ⟨rfl, h2⟩
            have b2 := b1.trans (h2.mono b1.size)
            replace Z := Z.below h2 Z.lt
            clear lZ Zc0 Zc1 Zc2 Zc3
            have lZ := Z.lt
            have Zc0 := Z.cell 0
            have Zc1 := Z.cell 1
            have Zc2 := Z.cell 2
            have Zc3 := Z.cell 3
            try simp at Zc0 Zc1 Zc2 Zc3
            go_wp2_with fail
            refine (zMay_own _ b f A A' n c n' c' l ys _ H.out (hz0.below b2)).mono ?_
            rintro e w3 ⟨rfl, h3⟩
            have b3 := b2.trans (h3.mono b2.size)
            replace Z := Z.below h3 Z.lt
            clear lZ Zc0 Zc1 Zc2 Zc3
            have lZ := Z.lt
            have Zc0 := Z.cell 0
            have Zc1 := Z.cell 1
            have Zc2 := Z.cell 2
            have Zc3 := Z.cell 3
            try simp at Zc0 Zc1 Zc2 Zc3
            go_wp2_with fail
            refine (mayS_yes _ _ HU.out).mono ?_
            rintro e _ ⟨rfl, rfl⟩
            go_wp2_with fail
            refine (Before_some _ b f A A' n c n' c' l ys _ _ EA.out (hz0.below b3)).mono ?_
            rintro e w4 ⟨rfl, h4⟩
            have b4 := b3.trans (h4.mono b3.size)
            replace Z := Z.below h4 Z.lt
            clear lZ Zc0 Zc1 Zc2 Zc3
            have lZ := Z.lt
            have Zc0 := Z.cell 0
            have Zc1 := Z.cell 1
            have Zc2 := Z.cell 2
            have Zc3 := Z.cell 3
            try simp at Zc0 Zc1 Zc2 Zc3
            have SA := Blk.new w4 29 #[.int .i64 s.t, .int .i64 s.o]
            have a5 := (Below.refl _ _).alloc (Nat.le_refl _) (.cells #[.int .i64 s.t, .int .i64 s.o] 29) (w := w4)
            have b5 := b4.trans (a5.mono b4.size)
            replace Z := Z.below a5 Z.lt
            clear lZ Zc0 Zc1 Zc2 Zc3
            have lZ := Z.lt
            have Zc0 := Z.cell 0
            have Zc1 := Z.cell 1
            have Zc2 := Z.cell 2
            have Zc3 := Z.cell 3
            try simp at Zc0 Zc1 Zc2 Zc3
            have lSA := SA.lt
            have SAc0 := SA.cell 0
            have SAc1 := SA.cell 1
            try simp at SAc0 SAc1
            go_wp2_with fail
            refine (After_some _ b f A A' n c n' c' l ys _ _ EB.out (hz0.below b5)).mono ?_
            rintro e w6 ⟨rfl, h6⟩
            have b6 := b5.trans (h6.mono b5.size)
            replace Z := Z.below h6 Z.lt
            clear lZ Zc0 Zc1 Zc2 Zc3
            have lZ := Z.lt
            have Zc0 := Z.cell 0
            have Zc1 := Z.cell 1
            have Zc2 := Z.cell 2
            have Zc3 := Z.cell 3
            try simp at Zc0 Zc1 Zc2 Zc3
            replace SA := SA.below h6 SA.lt
            clear lSA SAc0 SAc1
            have lSA := SA.lt
            have SAc0 := SA.cell 0
            have SAc1 := SA.cell 1
            try simp at SAc0 SAc1
            have SB := Blk.new w6 29 #[.int .i64 r.t, .int .i64 r.o]
            have a7 := (Below.refl _ _).alloc (Nat.le_refl _) (.cells #[.int .i64 r.t, .int .i64 r.o] 29) (w := w6)
            have b7 := b6.trans (a7.mono b6.size)
            replace Z := Z.below a7 Z.lt
            clear lZ Zc0 Zc1 Zc2 Zc3
            have lZ := Z.lt
            have Zc0 := Z.cell 0
            have Zc1 := Z.cell 1
            have Zc2 := Z.cell 2
            have Zc3 := Z.cell 3
            try simp at Zc0 Zc1 Zc2 Zc3
            replace SA := SA.below a7 SA.lt
            clear lSA SAc0 SAc1
            have lSA := SA.lt
            have SAc0 := SA.cell 0
            have SAc1 := SA.cell 1
            try simp at SAc0 SAc1
            have lSB := SB.lt
            have SBc0 := SB.cell 0
            have SBc1 := SB.cell 1
            try simp at SBc0 SBc1
            go_wp2_with fail
            refine (Offset_is _ b f A A' n c n' c' l ys _ _ EO.out (hz0.below b7)).mono ?_
            rintro e w8 ⟨rfl, h8⟩
            have b8 := b7.trans (h8.mono b7.size)
            replace Z := Z.below h8 Z.lt
            clear lZ Zc0 Zc1 Zc2 Zc3
            have lZ := Z.lt
            have Zc0 := Z.cell 0
            have Zc1 := Z.cell 1
            have Zc2 := Z.cell 2
            have Zc3 := Z.cell 3
            try simp at Zc0 Zc1 Zc2 Zc3
            replace SA := SA.below h8 SA.lt
            clear lSA SAc0 SAc1
            have lSA := SA.lt
            have SAc0 := SA.cell 0
            have SAc1 := SA.cell 1
            try simp at SAc0 SAc1
            replace SB := SB.below h8 SB.lt
            clear lSB SBc0 SBc1
            have lSB := SB.lt
            have SBc0 := SB.cell 0
            have SBc1 := SB.cell 1
            try simp at SBc0 SBc1
            go_wp2_with fail
            have p9 : Past w8 w8 := Below.refl _ _
            have Zq0 : ∀ v : In (Past w8), v.w.cell? ⟨W.heap.size, 0, none⟩ = some (.int .i64 b) := fun v => (Below.cell (p := ⟨_, 0, none⟩) (show Below _ _ _ from v.h) lZ).trans Zc0
            have Zq1 : ∀ v : In (Past w8), v.w.cell? ⟨W.heap.size, 1, none⟩ = some (.slice A n c) := fun v => (Below.cell (p := ⟨_, 1, none⟩) (show Below _ _ _ from v.h) lZ).trans Zc1
            have Zq2 : ∀ v : In (Past w8), v.w.cell? ⟨W.heap.size, 2, none⟩ = some (.slice A' n' c') := fun v => (Below.cell (p := ⟨_, 2, none⟩) (show Below _ _ _ from v.h) lZ).trans Zc2
            have Zq3 : ∀ v : In (Past w8), v.w.cell? ⟨W.heap.size, 3, none⟩ = some (.int .i64 f) := fun v => (Below.cell (p := ⟨_, 3, none⟩) (show Below _ _ _ from v.h) lZ).trans Zc3
            have SAq0 : ∀ v : In (Past w8), v.w.cell? ⟨w4.heap.size, 0, none⟩ = some (.int .i64 s.t) := fun v => (Below.cell (p := ⟨_, 0, none⟩) (show Below _ _ _ from v.h) lSA).trans SAc0
            have SAq1 : ∀ v : In (Past w8), v.w.cell? ⟨w4.heap.size, 1, none⟩ = some (.int .i64 s.o) := fun v => (Below.cell (p := ⟨_, 1, none⟩) (show Below _ _ _ from v.h) lSA).trans SAc1
            have SBq0 : ∀ v : In (Past w8), v.w.cell? ⟨w6.heap.size, 0, none⟩ = some (.int .i64 r.t) := fun v => (Below.cell (p := ⟨_, 0, none⟩) (show Below _ _ _ from v.h) lSB).trans SBc0
            have SBq1 : ∀ v : In (Past w8), v.w.cell? ⟨w6.heap.size, 1, none⟩ = some (.int .i64 r.o) := fun v => (Below.cell (p := ⟨_, 1, none⟩) (show Below _ _ _ from v.h) lSB).trans SBc1
            have HQ := Lib.hid (fun (v : In (Past w8)) => (hz0.below b8).below (show Below _ _ _ from v.h))
            have hne9 : Nonempty (In (Past w8)) := ⟨⟨_, p9⟩⟩
            have HT := Lib.hid (fun (v : In (Past w8)) => tab_on (tab_on (tab_on ht ba) b8) (show Below _ _ _ from v.h))
            refine wp_region_class (Past w8) (by kernel_rfl) (by kernel_rfl) (Past.drew' p9) ?_
            repeat (any_goals (first | go_big_quiet_step ((first | (with_reducible refine quiet_cl Past.on (Offset_is _ b f A A' n c n' c' l ys _ _ EX.out ?_); first | exact HQ.out _ | exact HT.out _) | (with_reducible refine quiet_cl Past.on (Offset_is _ b f A A' n c n' c' l ys _ _ EY.out ?_); first | exact HQ.out _ | exact HT.out _) | (with_reducible refine quiet_cl Past.on (Offset_is _ b f A A' n c n' c' l ys _ _ EZ.out ?_); first | exact HQ.out _ | exact HT.out _))) | quiet_step ((first | (with_reducible refine quiet_cl Past.on (Offset_is _ b f A A' n c n' c' l ys _ _ EX.out ?_); first | exact HQ.out _ | exact HT.out _) | (with_reducible refine quiet_cl Past.on (Offset_is _ b f A A' n c n' c' l ys _ _ EY.out ?_); first | exact HQ.out _ | exact HT.out _) | (with_reducible refine quiet_cl Past.on (Offset_is _ b f A A' n c n' c' l ys _ _ EZ.out ?_); first | exact HQ.out _ | exact HT.out _)))))
            refine wpQuiet_nil ?_
            rintro _ ⟨⟨w9, h9⟩, rfl⟩
            replace h9 : Below _ _ _ := h9
            clear HQ HT hne9 p9 Zq0 Zq1 Zq2 Zq3 SAq0 SAq1 SBq0 SBq1
            have b9 := b8.trans (h9.mono b8.size)
            replace Z := Z.below h9 Z.lt
            clear lZ Zc0 Zc1 Zc2 Zc3
            have lZ := Z.lt
            have Zc0 := Z.cell 0
            have Zc1 := Z.cell 1
            have Zc2 := Z.cell 2
            have Zc3 := Z.cell 3
            try simp at Zc0 Zc1 Zc2 Zc3
            replace SA := SA.below h9 SA.lt
            clear lSA SAc0 SAc1
            have lSA := SA.lt
            have SAc0 := SA.cell 0
            have SAc1 := SA.cell 1
            try simp at SAc0 SAc1
            replace SB := SB.below h9 SB.lt
            clear lSB SBc0 SBc1
            have lSB := SB.lt
            have SBc0 := SB.cell 0
            have SBc1 := SB.cell 1
            try simp at SBc0 SBc1
            go_wp2_with fail
            refine (first_own _ (tab_on (tab_on ht ba) b9)).mono ?_
            rintro e w10 ⟨rfl, h10⟩
            have b10 := b9.trans (h10.mono b9.size)
            replace Z := Z.below h10 Z.lt
            clear lZ Zc0 Zc1 Zc2 Zc3
            have lZ := Z.lt
            have Zc0 := Z.cell 0
            have Zc1 := Z.cell 1
            have Zc2 := Z.cell 2
            have Zc3 := Z.cell 3
            try simp at Zc0 Zc1 Zc2 Zc3
            replace SA := SA.below h10 SA.lt
            clear lSA SAc0 SAc1
            have lSA := SA.lt
            have SAc0 := SA.cell 0
            have SAc1 := SA.cell 1
            try simp at SAc0 SAc1
            replace SB := SB.below h10 SB.lt
            clear lSB SBc0 SBc1
            have lSB := SB.lt
            have SBc0 := SB.cell 0
            have SBc1 := SB.cell 1
            try simp at SBc0 SBc1
            go_wp2_with fail
            refine (Local_is _ b f A A' n c n' c' l ys _ _ EL.out (hz0.below b10)).mono ?_
            rintro e w11 ⟨rfl, h11⟩
            have b11 := b10.trans (h11.mono b10.size)
            replace Z := Z.below h11 Z.lt
            clear lZ Zc0 Zc1 Zc2 Zc3
            have lZ := Z.lt
            have Zc0 := Z.cell 0
            have Zc1 := Z.cell 1
            have Zc2 := Z.cell 2
            have Zc3 := Z.cell 3
            try simp at Zc0 Zc1 Zc2 Zc3
            replace SA := SA.below h11 SA.lt
            clear lSA SAc0 SAc1
            have lSA := SA.lt
            have SAc0 := SA.cell 0
            have SAc1 := SA.cell 1
            try simp at SAc0 SAc1
            replace SB := SB.below h11 SB.lt
            clear lSB SBc0 SBc1
            have lSB := SB.lt
            have SBc0 := SB.cell 0
            have SBc1 := SB.cell 1
            try simp at SBc0 SBc1
            go_wp2
            go_ret
            exact ⟨rfl, ba.trans (b11.mono (by simp))⟩
end Go.Proofs.Ytegjcogindjogaa.Zn
