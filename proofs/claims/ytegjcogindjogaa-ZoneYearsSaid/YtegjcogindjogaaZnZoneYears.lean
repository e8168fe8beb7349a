/- The walk of voklaw3's law ZoneYears. -/
import Derived.Test.YtegjcogindjogaaZnLaw0
set_option linter.unusedVariables false
namespace Go.Proofs.Ytegjcogindjogaa.Zn
open Go.RowKit Cv St

set_option maxRecDepth 100000 in
set_option maxHeartbeats 4000000 in
theorem zoneYears_walk (W : World) (b f : Int) (A A' : Option Addr) (n c n' c' : Nat) (l : List Sh) (ys : List Yr) (hs : ShAt W A n l) (hy : YrAt W A' n' ys) (sn : n ≤ 9223372036854775807) (yn : n' ≤ 9223372036854775807) (u : Int) (u1 : -9223372036854775808 ≤ u) (u2 : u ≤ 9223372036854775807) (ht : Tab W) :
    Calls Try.prog 11 #[.agg #[.int .i64 b, .slice A n c, .slice A' n' c', .int .i64 f], .int .i64 u] W fun e w' => e = .returned (.bool true) ∧ Below W.heap.size W w' := by
  have Z := Blk.new W 25 #[.int .i64 b, .slice A n c, .slice A' n' c', .int .i64 f]
  have ba := (Below.refl _ _).alloc (Nat.le_refl _) (.cells #[.int .i64 b, .slice A n c, .slice A' n' c', .int .i64 f] 25) (w := W)
  have b0 := Below.refl (W.alloc (.cells #[.int .i64 b, .slice A n c, .slice A' n' c', .int .i64 f] 25)).heap.size (W.alloc (.cells #[.int .i64 b, .slice A n c, .slice A' n' c', .int .i64 f] 25))
  have hz0 : ZnAt (W.alloc (.cells #[.int .i64 b, .slice A n c, .slice A' n' c', .int .i64 f] 25)) A n A' n' l ys := ⟨hs.below ba, hy.below ba, sn, yn⟩
  cases hf : fewB n n'
  · have FW := Lib.hid hf
    clear hf
    have lZ := Z.lt
    have Zc0 := Z.cell 0
    have Zc1 := Z.cell 1
    have Zc2 := Z.cell 2
    have Zc3 := Z.cell 3
    try simp at Zc0 Zc1 Zc2 Zc3
    go_enter Try.func11, Try.ntmps11
    go_wp2_with fail
    refine (first_own _ (tab_on (tab_on ht ba) b0)).mono ?_
    rintro e w1 ⟨rfl, h1⟩
    have b1 := b0.trans (h1.mono b0.size)
    replace Z := Z.below h1 Z.lt
    clear lZ Zc0 Zc1 Zc2 Zc3
    have lZ := Z.lt
    have Zc0 := Z.cell 0
    have Zc1 := Z.cell 1
    have Zc2 := Z.cell 2
    have Zc3 := Z.cell 3
    try simp at Zc0 Zc1 Zc2 Zc3
    go_wp2_with fail
    refine (few_is _ _ _ _ _ _ _ _ _ _ FW.out).mono ?_
    rintro e w2 ⟨rfl, h2⟩
    have b2 := b1.trans (h2.mono b1.size)
    replace Z := Z.below h2 Z.lt
    clear lZ Zc0 Zc1 Zc2 Zc3
    have lZ := Z.lt
    have Zc0 := Z.cell 0
    have Zc1 := Z.cell 1
    have Zc2 := Z.cell 2
    have Zc3 := Z.cell 3
    try simp at Zc0 Zc1 Zc2 Zc3
    go_wp2_with fail
    refine (first_own _ (tab_on (tab_on ht ba) b2)).mono ?_
    rintro e w3 ⟨rfl, h3⟩
    have b3 := b2.trans (h3.mono b2.size)
    replace Z := Z.below h3 Z.lt
    clear lZ Zc0 Zc1 Zc2 Zc3
    have lZ := Z.lt
    have Zc0 := Z.cell 0
    have Zc1 := Z.cell 1
    have Zc2 := Z.cell 2
    have Zc3 := Z.cell 3
    try simp at Zc0 Zc1 Zc2 Zc3
    go_wp2
    go_ret
    exact ⟨rfl, ba.trans (b3.mono (by simp))⟩
  · have FW := Lib.hid hf
    clear hf
    cases h : mayB b l ys f
    · have H := Lib.hid h
      clear h
      have lZ := Z.lt
      have Zc0 := Z.cell 0
      have Zc1 := Z.cell 1
      have Zc2 := Z.cell 2
      have Zc3 := Z.cell 3
      try simp at Zc0 Zc1 Zc2 Zc3
      go_enter Try.func11, Try.ntmps11
      go_wp2_with fail
      refine (first_own _ (tab_on (tab_on ht ba) b0)).mono ?_
      rintro e w1 ⟨rfl, h1⟩
      have b1 := b0.trans (h1.mono b0.size)
      replace Z := Z.below h1 Z.lt
      clear lZ Zc0 Zc1 Zc2 Zc3
      have lZ := Z.lt
      have Zc0 := Z.cell 0
      have Zc1 := Z.cell 1
      have Zc2 := Z.cell 2
      have Zc3 := Z.cell 3
      try simp at Zc0 Zc1 Zc2 Zc3
      go_wp2_with fail
      refine (few_is _ _ _ _ _ _ _ _ _ _ FW.out).mono ?_
      rintro e w2 ⟨rfl, h2⟩
      have b2 := b1.trans (h2.mono b1.size)
      replace Z := Z.below h2 Z.lt
      clear lZ Zc0 Zc1 Zc2 Zc3
      have lZ := Z.lt
      have Zc0 := Z.cell 0
      have Zc1 := Z.cell 1
      have Zc2 := Z.cell 2
      have Zc3 := Z.cell 3
      try simp at Zc0 Zc1 Zc2 Zc3
      go_wp2_with fail
      refine (zMay_own _ b f A A' n c n' c' l ys _ H.out (hz0.below b2)).mono ?_
      rintro e w3 ⟨rfl, h3⟩
      have b3 := b2.trans (h3.mono b2.size)
      replace Z := Z.below h3 Z.lt
      clear lZ Zc0 Zc1 Zc2 Zc3
      have lZ := Z.lt
      have Zc0 := Z.cell 0
      have Zc1 := Z.cell 1
      have Zc2 := Z.cell 2
      have Zc3 := Z.cell 3
      try simp at Zc0 Zc1 Zc2 Zc3
      go_wp2_with fail
      refine (first_own _ (tab_on (tab_on ht ba) b3)).mono ?_
      rintro e w4 ⟨rfl, h4⟩
      have b4 := b3.trans (h4.mono b3.size)
      replace Z := Z.below h4 Z.lt
      clear lZ Zc0 Zc1 Zc2 Zc3
      have lZ := Z.lt
      have Zc0 := Z.cell 0
      have Zc1 := Z.cell 1
      have Zc2 := Z.cell 2
      have Zc3 := Z.cell 3
      try simp at Zc0 Zc1 Zc2 Zc3
      go_wp2
      go_ret
      exact ⟨rfl, ba.trans (b4.mono (by simp))⟩
    · have H := Lib.hid h
      by_cases k1 : n' = 0
      · have t1 : ((n' : Int) == 0) = true := by rw [beq_iff_eq]; omega
        clear h k1
        have lZ := Z.lt
        have Zc0 := Z.cell 0
        have Zc1 := Z.cell 1
        have Zc2 := Z.cell 2
        have Zc3 := Z.cell 3
        try simp at Zc0 Zc1 Zc2 Zc3
        go_enter Try.func11, Try.ntmps11
        go_wp2_with fail
        refine (first_own _ (tab_on (tab_on ht ba) b0)).mono ?_
        rintro e w1 ⟨rfl, h1⟩
        have b1 := b0.trans (h1.mono b0.size)
        replace Z := Z.below h1 Z.lt
        clear lZ Zc0 Zc1 Zc2 Zc3
        have lZ := Z.lt
        have Zc0 := Z.cell 0
        have Zc1 := Z.cell 1
        have Zc2 := Z.cell 2
        have Zc3 := Z.cell 3
        try simp at Zc0 Zc1 Zc2 Zc3
        go_wp2_with fail
        refine (few_is _ _ _ _ _ _ _ _ _ _ FW.out).mono ?_
        rintro e w2 ⟨rfl, h2⟩
        have b2 := b1.trans (h2.mono b1.size)
        replace Z := Z.below h2 Z.lt
        clear lZ Zc0 Zc1 Zc2 Zc3
        have lZ := Z.lt
        have Zc0 := Z.cell 0
        have Zc1 := Z.cell 1
        have Zc2 := Z.cell 2
        have Zc3 := Z.cell 3
        try simp at Zc0 Zc1 Zc2 Zc3
        go_wp2_with fail
        refine (zMay_own _ b f A A' n c n' c' l ys _ H.out (hz0.below b2)).mono ?_
        rintro e w3 ⟨rfl, h3⟩
        have b3 := b2.trans (h3.mono b2.size)
        replace Z := Z.below h3 Z.lt
        clear lZ Zc0 Zc1 Zc2 Zc3
        have lZ := Z.lt
        have Zc0 := Z.cell 0
        have Zc1 := Z.cell 1
        have Zc2 := Z.cell 2
        have Zc3 := Z.cell 3
        try simp at Zc0 Zc1 Zc2 Zc3
        go_wp2_with fail
        refine (first_own _ (tab_on (tab_on ht ba) b3)).mono ?_
        rintro e w4 ⟨rfl, h4⟩
        have b4 := b3.trans (h4.mono b3.size)
        replace Z := Z.below h4 Z.lt
        clear lZ Zc0 Zc1 Zc2 Zc3
        have lZ := Z.lt
        have Zc0 := Z.cell 0
        have Zc1 := Z.cell 1
        have Zc2 := Z.cell 2
        have Zc3 := Z.cell 3
        try simp at Zc0 Zc1 Zc2 Zc3
        go_wp2
        go_ret
        exact ⟨rfl, ba.trans (b4.mono (by simp))⟩
      · have t1 : ((n' : Int) == 0) = false := by rw [beq_eq_false_iff_ne]; omega
        by_cases k2 : 0 < n
        · clear h k1
          have lZ := Z.lt
          have Zc0 := Z.cell 0
          have Zc1 := Z.cell 1
          have Zc2 := Z.cell 2
          have Zc3 := Z.cell 3
          try simp at Zc0 Zc1 Zc2 Zc3
          go_enter Try.func11, Try.ntmps11
          go_wp2_with fail
          refine (first_own _ (tab_on (tab_on ht ba) b0)).mono ?_
          rintro e w1 ⟨rfl, h1⟩
          have b1 := b0.trans (h1.mono b0.size)
          replace Z := Z.below h1 Z.lt
          clear lZ Zc0 Zc1 Zc2 Zc3
          have lZ := Z.lt
          have Zc0 := Z.cell 0
          have Zc1 := Z.cell 1
          have Zc2 := Z.cell 2
          have Zc3 := Z.cell 3
          try simp at Zc0 Zc1 Zc2 Zc3
          go_wp2_with fail
          refine (few_is _ _ _ _ _ _ _ _ _ _ FW.out).mono ?_
          rintro e w2 ⟨rfl, h2⟩
          have b2 := b1.trans (h2.mono b1.size)
          replace Z := Z.below h2 Z.lt
          clear lZ Zc0 Zc1 Zc2 Zc3
          have lZ := Z.lt
          have Zc0 := Z.cell 0
          have Zc1 := Z.cell 1
          have Zc2 := Z.cell 2
          have Zc3 := Z.cell 3
          try simp at Zc0 Zc1 Zc2 Zc3
          go_wp2_with fail
          refine (zMay_own _ b f A A' n c n' c' l ys _ H.out (hz0.below b2)).mono ?_
          rintro e w3 ⟨rfl, h3⟩
          have b3 := b2.trans (h3.mono b2.size)
          replace Z := Z.below h3 Z.lt
          clear lZ Zc0 Zc1 Zc2 Zc3
          have lZ := Z.lt
          have Zc0 := Z.cell 0
          have Zc1 := Z.cell 1
          have Zc2 := Z.cell 2
          have Zc3 := Z.cell 3
          try simp at Zc0 Zc1 Zc2 Zc3
          go_wp2_with fail
          refine (first_own _ (tab_on (tab_on ht ba) b3)).mono ?_
          rintro e w4 ⟨rfl, h4⟩
          have b4 := b3.trans (h4.mono b3.size)
          replace Z := Z.below h4 Z.lt
          clear lZ Zc0 Zc1 Zc2 Zc3
          have lZ := Z.lt
          have Zc0 := Z.cell 0
          have Zc1 := Z.cell 1
          have Zc2 := Z.cell 2
          have Zc3 := Z.cell 3
          try simp at Zc0 Zc1 Zc2 Zc3
          go_wp2
          go_ret
          exact ⟨rfl, ba.trans (b4.mono (by simp))⟩
        · have k2' : n ≤ 0 := by omega
          by_cases k3 : 9000 < f
          · clear h k1 k2
            have lZ := Z.lt
            have Zc0 := Z.cell 0
            have Zc1 := Z.cell 1
            have Zc2 := Z.cell 2
            have Zc3 := Z.cell 3
            try simp at Zc0 Zc1 Zc2 Zc3
            go_enter Try.func11, Try.ntmps11
            go_wp2_with fail
            refine (first_own _ (tab_on (tab_on ht ba) b0)).mono ?_
            rintro e w1 ⟨rfl, h1⟩
            have b1 := b0.trans (h1.mono b0.size)
            replace Z := Z.below h1 Z.lt
            clear lZ Zc0 Zc1 Zc2 Zc3
            have lZ := Z.lt
            have Zc0 := Z.cell 0
            have Zc1 := Z.cell 1
            have Zc2 := Z.cell 2
            have Zc3 := Z.cell 3
            try simp at Zc0 Zc1 Zc2 Zc3
            go_wp2_with fail
            refine (few_is _ _ _ _ _ _ _ _ _ _ FW.out).mono ?_
            rintro e w2 ⟨rfl, h2⟩
            have b2 := b1.trans (h2.mono b1.size)
            replace Z := Z.below h2 Z.lt
            clear lZ Zc0 Zc1 Zc2 Zc3
            have lZ := Z.lt
            have Zc0 := Z.cell 0
            have Zc1 := Z.cell 1
            have Zc2 := Z.cell 2
            have Zc3 := Z.cell 3
            try simp at Zc0 Zc1 Zc2 Zc3
            go_wp2_with fail
            refine (zMay_own _ b f A A' n c n' c' l ys _ H.out (hz0.below b2)).mono ?_
            rintro e w3 ⟨rfl, h3⟩
            have b3 := b2.trans (h3.mono b2.size)
            replace Z := Z.below h3 Z.lt
            clear lZ Zc0 Zc1 Zc2 Zc3
            have lZ := Z.lt
            have Zc0 := Z.cell 0
            have Zc1 := Z.cell 1
            have Zc2 := Z.cell 2
            have Zc3 := Z.cell 3
            try simp at Zc0 Zc1 Zc2 Zc3
            go_wp2_with fail
            refine (first_own _ (tab_on (tab_on ht ba) b3)).mono ?_
            rintro e w4 ⟨rfl, h4⟩
            have b4 := b3.trans (h4.mono b3.size)
            replace Z := Z.below h4 Z.lt
            clear lZ Zc0 Zc1 Zc2 Zc3
            have lZ := Z.lt
            have Zc0 := Z.cell 0
            have Zc1 := Z.cell 1
            have Zc2 := Z.cell 2
            have Zc3 := Z.cell 3
            try simp at Zc0 Zc1 Zc2 Zc3
            go_wp2
            go_ret
            exact ⟨rfl, ba.trans (b4.mono (by simp))⟩
          · have k3' : f ≤ 9000 := by omega
            cases hu : mayT u
            · have HU := Lib.hid hu
              clear h hu k1 k2 k3
              have lZ := Z.lt
              have Zc0 := Z.cell 0
              have Zc1 := Z.cell 1
              have Zc2 := Z.cell 2
              have Zc3 := Z.cell 3
              try simp at Zc0 Zc1 Zc2 Zc3
              go_enter Try.func11, Try.ntmps11
              go_wp2_with fail
              refine (first_own _ (tab_on (tab_on ht ba) b0)).mono ?_
              rintro e w1 ⟨rfl, h1⟩
              have b1 := b0.trans (h1.mono b0.size)
              replace Z := Z.below h1 Z.lt
              clear lZ Zc0 Zc1 Zc2 Zc3
              have lZ := Z.lt
              have Zc0 := Z.cell 0
              have Zc1 := Z.cell 1
              have Zc2 := Z.cell 2
              have Zc3 := Z.cell 3
              try simp at Zc0 Zc1 Zc2 Zc3
              go_wp2_with fail
              refine (few_is _ _ _ _ _ _ _ _ _ _ FW.out).mono ?_
              rintro e w2 ⟨rfl, h2⟩
              have b2 := b1.trans (h2.mono b1.size)
              replace Z := Z.below h2 Z.lt
              clear lZ Zc0 Zc1 Zc2 Zc3
              have lZ := Z.lt
              have Zc0 := Z.cell 0
              have Zc1 := Z.cell 1
              have Zc2 := Z.cell 2
              have Zc3 := Z.cell 3
              try simp at Zc0 Zc1 Zc2 Zc3
              go_wp2_with fail
              refine (zMay_own _ b f A A' n c n' c' l ys _ H.out (hz0.below b2)).mono ?_
              rintro e w3 ⟨rfl, h3⟩
              have b3 := b2.trans (h3.mono b2.size)
              replace Z := Z.below h3 Z.lt
              clear lZ Zc0 Zc1 Zc2 Zc3
              have lZ := Z.lt
              have Zc0 := Z.cell 0
              have Zc1 := Z.cell 1
              have Zc2 := Z.cell 2
              have Zc3 := Z.cell 3
              try simp at Zc0 Zc1 Zc2 Zc3
              go_wp2_with fail
              refine (mayS_no _ _ HU.out).mono ?_
              rintro e _ ⟨rfl, rfl⟩
              go_wp2_with fail
              refine (first_own _ (tab_on (tab_on ht ba) b3)).mono ?_
              rintro e w4 ⟨rfl, h4⟩
              have b4 := b3.trans (h4.mono b3.size)
              replace Z := Z.below h4 Z.lt
              clear lZ Zc0 Zc1 Zc2 Zc3
              have lZ := Z.lt
              have Zc0 := Z.cell 0
              have Zc1 := Z.cell 1
              have Zc2 := Z.cell 2
              have Zc3 := Z.cell 3
              try simp at Zc0 Zc1 Zc2 Zc3
              go_wp2
              go_ret
              exact ⟨rfl, ba.trans (b4.mono (by simp))⟩
            · have HU := Lib.hid hu
              obtain ⟨u3, u4⟩ := mayT_of hu
              cases hv : mayT (u + 12622780800)
              · have HV := Lib.hid hv
                clear h hu hv k1 k2 k3
                have lZ := Z.lt
                have Zc0 := Z.cell 0
                have Zc1 := Z.cell 1
                have Zc2 := Z.cell 2
                have Zc3 := Z.cell 3
                try simp at Zc0 Zc1 Zc2 Zc3
                go_enter Try.func11, Try.ntmps11
                go_wp2_with fail
                refine (first_own _ (tab_on (tab_on ht ba) b0)).mono ?_
                rintro e w1 ⟨rfl, h1⟩
                have b1 := b0.trans (h1.mono b0.size)
                replace Z := Z.below h1 Z.lt
                clear lZ Zc0 Zc1 Zc2 Zc3
                have lZ := Z.lt
                have Zc0 := Z.cell 0
                have Zc1 := Z.cell 1
                have Zc2 := Z.cell 2
                have Zc3 := Z.cell 3
                try simp at Zc0 Zc1 Zc2 Zc3
                go_wp2_with fail
                refine (few_is _ _ _ _ _ _ _ _ _ _ FW.out).mono ?_
                rintro e w2 ⟨rfl, h2⟩
                have b2 := b1.trans (h2.mono b1.size)
                replace Z := Z.below h2 Z.lt
                clear lZ Zc0 Zc1 Zc2 Zc3
                have lZ := Z.lt
                have Zc0 := Z.cell 0
                have Zc1 := Z.cell 1
                have Zc2 := Z.cell 2
                have Zc3 := Z.cell 3
                try simp at Zc0 Zc1 Zc2 Zc3
                go_wp2_with fail
                refine (zMay_own _ b f A A' n c n' c' l ys _ H.out (hz0.below b2)).mono ?_
                rintro e w3 ⟨rfl, h3⟩
                have b3 := b2.trans (h3.mono b2.size)
                replace Z := Z.below h3 Z.lt
                clear lZ Zc0 Zc1 Zc2 Zc3
                have lZ := Z.lt
                have Zc0 := Z.cell 0
                have Zc1 := Z.cell 1
                have Zc2 := Z.cell 2
                have Zc3 := Z.cell 3
                try simp at Zc0 Zc1 Zc2 Zc3
                go_wp2_with fail
                refine (mayS_yes _ _ HU.out).mono ?_
                rintro e _ ⟨rfl, rfl⟩
                go_wp2_with fail
                refine (mayS_no _ _ HV.out).mono ?_
                rintro e _ ⟨rfl, rfl⟩
                go_wp2_with fail
                refine (first_own _ (tab_on (tab_on ht ba) b3)).mono ?_
                rintro e w4 ⟨rfl, h4⟩
                have b4 := b3.trans (h4.mono b3.size)
                replace Z := Z.below h4 Z.lt
                clear lZ Zc0 Zc1 Zc2 Zc3
                have lZ := Z.lt
                have Zc0 := Z.cell 0
                have Zc1 := Z.cell 1
                have Zc2 := Z.cell 2
                have Zc3 := Z.cell 3
                try simp at Zc0 Zc1 Zc2 Zc3
                go_wp2
                go_ret
                exact ⟨rfl, ba.trans (b4.mono (by simp))⟩
              · have HV := Lib.hid hv
                obtain ⟨v3, v4⟩ := mayT_of hv
                have el := hs.1
                obtain rfl : l = [] := List.eq_nil_of_length_eq_zero (by omega)
                have bd := ofs_bd h hu
                cases ha : bef [] ys f u with
                | none =>
                  have EA := Lib.hid (show befR b [] ys f u = none from by rw [befR_eq h hu]; exact ha)
                  have EO := Lib.hid (show offR b [] ys f u = b from by rw [offR_eq h hu]; unfold ofs; rw [ha])
                  clear h hu hv ha k1 k2 k3 bd el
                  have lZ := Z.lt
                  have Zc0 := Z.cell 0
                  have Zc1 := Z.cell 1
                  have Zc2 := Z.cell 2
                  have Zc3 := Z.cell 3
                  try simp at Zc0 Zc1 Zc2 Zc3
                  go_enter Try.func11, Try.ntmps11
                  go_wp2_with fail
                  refine (first_own _ (tab_on (tab_on ht ba) b0)).mono ?_
                  rintro e w1 ⟨rfl, h1⟩
                  have b1 := b0.trans (h1.mono b0.size)
                  replace Z := Z.below h1 Z.lt
                  clear lZ Zc0 Zc1 Zc2 Zc3
                  have lZ := Z.lt
                  have Zc0 := Z.cell 0
                  have Zc1 := Z.cell 1
                  have Zc2 := Z.cell 2
                  have Zc3 := Z.cell 3
                  try simp at Zc0 Zc1 Zc2 Zc3
                  go_wp2_with fail
                  refine (few_is _ _ _ _ _ _ _ _ _ _ FW.out).mono ?_
                  rintro e w2 ⟨rfl, h2⟩
                  have b2 := b1.trans (h2.mono b1.size)
                  replace Z := Z.below h2 Z.lt
                  clear lZ Zc0 Zc1 Zc2 Zc3
                  have lZ := Z.lt
                  have Zc0 := Z.cell 0
                  have Zc1 := Z.cell 1
                  have Zc2 := Z.cell 2
                  have Zc3 := Z.cell 3
                  try simp at Zc0 Zc1 Zc2 Zc3
                  go_wp2_with fail
                  refine (zMay_own _ b f A A' n c n' c' [] ys _ H.out (hz0.below b2)).mono ?_
                  rintro e w3 ⟨rfl, h3⟩
                  have b3 := b2.trans (h3.mono b2.size)
                  replace Z := Z.below h3 Z.lt
                  clear lZ Zc0 Zc1 Zc2 Zc3
                  have lZ := Z.lt
                  have Zc0 := Z.cell 0
                  have Zc1 := Z.cell 1
                  have Zc2 := Z.cell 2
                  have Zc3 := Z.cell 3
                  try simp at Zc0 Zc1 Zc2 Zc3
                  go_wp2_with fail
                  refine (mayS_yes _ _ HU.out).mono ?_
                  rintro e _ ⟨rfl, rfl⟩
                  go_wp2_with fail
                  refine (mayS_yes _ _ HV.out).mono ?_
                  rintro e _ ⟨rfl, rfl⟩
                  go_wp2_with fail
                  refine (Before_none _ b f A A' n c n' c' [] ys _ EA.out (hz0.below b3)).mono ?_
                  rintro e w4 ⟨rfl, h4⟩
                  have b4 := b3.trans (h4.mono b3.size)
                  replace Z := Z.below h4 Z.lt
                  clear lZ Zc0 Zc1 Zc2 Zc3
                  have lZ := Z.lt
                  have Zc0 := Z.cell 0
                  have Zc1 := Z.cell 1
                  have Zc2 := Z.cell 2
                  have Zc3 := Z.cell 3
                  try simp at Zc0 Zc1 Zc2 Zc3
                  have SA := Blk.new w4 29 #[.int .i64 0, .int .i64 0]
                  have a5 := (Below.refl _ _).alloc (Nat.le_refl _) (.cells #[.int .i64 0, .int .i64 0] 29) (w := w4)
                  have b5 := b4.trans (a5.mono b4.size)
                  replace Z := Z.below a5 Z.lt
                  clear lZ Zc0 Zc1 Zc2 Zc3
                  have lZ := Z.lt
                  have Zc0 := Z.cell 0
                  have Zc1 := Z.cell 1
                  have Zc2 := Z.cell 2
                  have Zc3 := Z.cell 3
                  try simp at Zc0 Zc1 Zc2 Zc3
                  have lSA := SA.lt
                  have SAc0 := SA.cell 0
                  have SAc1 := SA.cell 1
                  try simp at SAc0 SAc1
                  go_wp2_with fail
                  generalize (w4.alloc (.cells #[.int .i64 0, .int .i64 0] 29)) = wz6 at *
                  have lZ := Z.lt
                  have Zc0 := Z.cell 0
                  have Zc1 := Z.cell 1
                  have Zc2 := Z.cell 2
                  have Zc3 := Z.cell 3
                  try simp at Zc0 Zc1 Zc2 Zc3
                  have lSA := SA.lt
                  have SAc0 := SA.cell 0
                  have SAc1 := SA.cell 1
                  try simp at SAc0 SAc1
                  have p6 : Past wz6 wz6 := Below.refl _ _
                  have Zq0 : ∀ v : In (Past wz6), v.w.cell? ⟨W.heap.size, 0, none⟩ = some (.int .i64 b) := fun v => (Below.cell (p := ⟨_, 0, none⟩) (show Below _ _ _ from v.h) lZ).trans Zc0
                  have Zq1 : ∀ v : In (Past wz6), v.w.cell? ⟨W.heap.size, 1, none⟩ = some (.slice A n c) := fun v => (Below.cell (p := ⟨_, 1, none⟩) (show Below _ _ _ from v.h) lZ).trans Zc1
                  have Zq2 : ∀ v : In (Past wz6), v.w.cell? ⟨W.heap.size, 2, none⟩ = some (.slice A' n' c') := fun v => (Below.cell (p := ⟨_, 2, none⟩) (show Below _ _ _ from v.h) lZ).trans Zc2
                  have Zq3 : ∀ v : In (Past wz6), v.w.cell? ⟨W.heap.size, 3, none⟩ = some (.int .i64 f) := fun v => (Below.cell (p := ⟨_, 3, none⟩) (show Below _ _ _ from v.h) lZ).trans Zc3
                  have SAq0 : ∀ v : In (Past wz6), v.w.cell? ⟨w4.heap.size, 0, none⟩ = some (.int .i64 0) := fun v => (Below.cell (p := ⟨_, 0, none⟩) (show Below _ _ _ from v.h) lSA).trans SAc0
                  have SAq1 : ∀ v : In (Past wz6), v.w.cell? ⟨w4.heap.size, 1, none⟩ = some (.int .i64 0) := fun v => (Below.cell (p := ⟨_, 1, none⟩) (show Below _ _ _ from v.h) lSA).trans SAc1
                  have HQ := Lib.hid (fun (v : In (Past wz6)) => (hz0.below b5).below (show Below _ _ _ from v.h))
                  have hne6 : Nonempty (In (Past wz6)) := ⟨⟨_, p6⟩⟩
                  have HT := Lib.hid (fun (v : In (Past wz6)) => tab_on (tab_on (tab_on ht ba) b5) (show Below _ _ _ from v.h))
                  refine wp_region_class (Past wz6) (by kernel_rfl) (by kernel_rfl) (Past.drew' p6) ?_
                  repeat (any_goals (first | go_big_quiet_step ((first | (with_reducible refine quiet_cl Past.on (first_own _ ?_); first | exact HQ.out _ | exact HT.out _) | (with_reducible refine quiet_cl Past.on (Offset_is _ b f A A' n c n' c' [] ys _ _ EO.out ?_); first | exact HQ.out _ | exact HT.out _))) | quiet_step ((first | (with_reducible refine quiet_cl Past.on (first_own _ ?_); first | exact HQ.out _ | exact HT.out _) | (with_reducible refine quiet_cl Past.on (Offset_is _ b f A A' n c n' c' [] ys _ _ EO.out ?_); first | exact HQ.out _ | exact HT.out _)))))
                  refine wpQuiet_nil ?_
                  rintro _ ⟨⟨w6, h6⟩, rfl⟩
                  replace h6 : Below _ _ _ := h6
                  clear HQ HT hne6 p6 Zq0 Zq1 Zq2 Zq3 SAq0 SAq1
                  have b6 := b5.trans (h6.mono b5.size)
                  replace Z := Z.below h6 Z.lt
                  clear lZ Zc0 Zc1 Zc2 Zc3
                  have lZ := Z.lt
                  have Zc0 := Z.cell 0
                  have Zc1 := Z.cell 1
                  have Zc2 := Z.cell 2
                  have Zc3 := Z.cell 3
                  try simp at Zc0 Zc1 Zc2 Zc3
                  replace SA := SA.below h6 SA.lt
                  clear lSA SAc0 SAc1
                  have lSA := SA.lt
                  have SAc0 := SA.cell 0
                  have SAc1 := SA.cell 1
                  try simp at SAc0 SAc1
                  go_wp2
                  go_ret
                  exact ⟨rfl, ba.trans (b6.mono (by simp))⟩
                | some s =>
                  have EA := Lib.hid (show befR b [] ys f u = some s from by rw [befR_eq h hu]; exact ha)
                  have EO := Lib.hid (show offR b [] ys f u = s.o from by rw [offR_eq h hu]; unfold ofs; rw [ha])
                  have hc := law_years h hu hv ha
                  have EC := Lib.hid (show befR b [] ys f (u + 12622780800) = some ⟨s.t + 12622780800, s.o⟩ from by rw [befR_eq h hv]; exact hc)
                  have EP := Lib.hid (show offR b [] ys f (u + 12622780800) = s.o from by rw [offR_eq h hv]; unfold ofs; rw [hc])
                  have i := bef_is h hu
                  rw [ha] at i
                  obtain ⟨x4, x5⟩ := mayT_of (is_may h i.1).1
                  have s1 : IntKind.i64.wrap (u + 12622780800) = u + 12622780800 := IntWalk.i64_in _ (by omega)
                  have s2 : IntKind.i64.wrap (s.t + 12622780800 - s.t) = 12622780800 := by rw [show s.t + 12622780800 - s.t = 12622780800 from by omega]; exact IntWalk.i64_in _ (by omega)
                  clear h hu hv ha hc i k1 k2 k3 bd el
                  have lZ := Z.lt
                  have Zc0 := Z.cell 0
                  have Zc1 := Z.cell 1
                  have Zc2 := Z.cell 2
                  have Zc3 := Z.cell 3
                  try simp at Zc0 Zc1 Zc2 Zc3
                  go_enter Try.func11, Try.ntmps11
                  go_wp2_with fail
                  refine (first_own _ (tab_on (tab_on ht ba) b0)).mono ?_
                  rintro e w1 ⟨rfl, h1⟩
                  have b1 := b0.trans (h1.mono b0.size)
                  replace Z := Z.below h1 Z.lt
                  clear lZ Zc0 Zc1 Zc2 Zc3
                  have lZ := Z.lt
                  have Zc0 := Z.cell 0
                  have Zc1 := Z.cell 1
                  have Zc2 := Z.cell 2
                  have Zc3 := Z.cell 3
                  try simp at Zc0 Zc1 Zc2 Zc3
                  go_wp2_with fail
                  refine (few_is _ _ _ _ _ _ _ _ _ _ FW.out).mono ?_
                  rintro e w2 ⟨rfl, h2⟩
                  have b2 := b1.trans (h2.mono b1.size)
                  replace Z := Z.below h2 Z.lt
                  clear lZ Zc0 Zc1 Zc2 Zc3
                  have lZ := Z.lt
                  have Zc0 := Z.cell 0
                  have Zc1 := Z.cell 1
                  have Zc2 := Z.cell 2
                  have Zc3 := Z.cell 3
                  try simp at Zc0 Zc1 Zc2 Zc3
                  go_wp2_with fail
                  refine (zMay_own _ b f A A' n c n' c' [] ys _ H.out (hz0.below b2)).mono ?_
                  rintro e w3 ⟨rfl, h3⟩
                  have b3 := b2.trans (h3.mono b2.size)
                  replace Z := Z.below h3 Z.lt
                  clear lZ Zc0 Zc1 Zc2 Zc3
                  have lZ := Z.lt
                  have Zc0 := Z.cell 0
                  have Zc1 := Z.cell 1
                  have Zc2 := Z.cell 2
                  have Zc3 := Z.cell 3
                  try simp at Zc0 Zc1 Zc2 Zc3
                  go_wp2_with fail
                  refine (mayS_yes _ _ HU.out).mono ?_
                  rintro e _ ⟨rfl, rfl⟩
                  go_wp2_with fail
                  refine (mayS_yes _ _ HV.out).mono ?_
                  rintro e _ ⟨rfl, rfl⟩
                  go_wp2_with fail
                  refine (Before_some _ b f A A' n c n' c' [] ys _ _ EA.out (hz0.below b3)).mono ?_
                  rintro e w4 ⟨rfl, h4⟩
                  have b4 := b3.trans (h4.mono b3.size)
                  replace Z := Z.below h4 Z.lt
                  clear lZ Zc0 Zc1 Zc2 Zc3
                  have lZ := Z.lt
                  have Zc0 := Z.cell 0
                  have Zc1 := Z.cell 1
                  have Zc2 := Z.cell 2
                  have Zc3 := Z.cell 3
                  try simp at Zc0 Zc1 Zc2 Zc3
                  have SA := Blk.new w4 29 #[.int .i64 s.t, .int .i64 s.o]
                  have a5 := (Below.refl _ _).alloc (Nat.le_refl _) (.cells #[.int .i64 s.t, .int .i64 s.o] 29) (w := w4)
                  have b5 := b4.trans (a5.mono b4.size)
                  replace Z := Z.below a5 Z.lt
                  clear lZ Zc0 Zc1 Zc2 Zc3
                  have lZ := Z.lt
                  have Zc0 := Z.cell 0
                  have Zc1 := Z.cell 1
                  have Zc2 := Z.cell 2
                  have Zc3 := Z.cell 3
                  try simp at Zc0 Zc1 Zc2 Zc3
                  have lSA := SA.lt
                  have SAc0 := SA.cell 0
                  have SAc1 := SA.cell 1
                  try simp at SAc0 SAc1
                  go_wp2_with fail
                  refine (Before_some _ b f A A' n c n' c' [] ys _ _ EC.out (hz0.below b5)).mono ?_
                  rintro e w6 ⟨rfl, h6⟩
                  have b6 := b5.trans (h6.mono b5.size)
                  replace Z := Z.below h6 Z.lt
                  clear lZ Zc0 Zc1 Zc2 Zc3
                  have lZ := Z.lt
                  have Zc0 := Z.cell 0
                  have Zc1 := Z.cell 1
                  have Zc2 := Z.cell 2
                  have Zc3 := Z.cell 3
                  try simp at Zc0 Zc1 Zc2 Zc3
                  replace SA := SA.below h6 SA.lt
                  clear lSA SAc0 SAc1
                  have lSA := SA.lt
                  have SAc0 := SA.cell 0
                  have SAc1 := SA.cell 1
                  try simp at SAc0 SAc1
                  have SC := Blk.new w6 29 #[.int .i64 (s.t + 12622780800), .int .i64 s.o]
                  have a7 := (Below.refl _ _).alloc (Nat.le_refl _) (.cells #[.int .i64 (s.t + 12622780800), .int .i64 s.o] 29) (w := w6)
                  have b7 := b6.trans (a7.mono b6.size)
                  replace Z := Z.below a7 Z.lt
                  clear lZ Zc0 Zc1 Zc2 Zc3
                  have lZ := Z.lt
                  have Zc0 := Z.cell 0
                  have Zc1 := Z.cell 1
                  have Zc2 := Z.cell 2
                  have Zc3 := Z.cell 3
                  try simp at Zc0 Zc1 Zc2 Zc3
                  replace SA := SA.below a7 SA.lt
                  clear lSA SAc0 SAc1
                  have lSA := SA.lt
                  have SAc0 := SA.cell 0
                  have SAc1 := SA.cell 1
                  try simp at SAc0 SAc1
                  have lSC := SC.lt
                  have SCc0 := SC.cell 0
                  have SCc1 := SC.cell 1
                  try simp at SCc0 SCc1
                  go_wp2_with fail
                  generalize (w6.alloc (.cells #[.int .i64 (s.t + 12622780800), .int .i64 s.o] 29)) = wz8 at *
                  have lZ := Z.lt
                  have Zc0 := Z.cell 0
                  have Zc1 := Z.cell 1
                  have Zc2 := Z.cell 2
                  have Zc3 := Z.cell 3
                  try simp at Zc0 Zc1 Zc2 Zc3
                  have lSA := SA.lt
                  have SAc0 := SA.cell 0
                  have SAc1 := SA.cell 1
                  try simp at SAc0 SAc1
                  have lSC := SC.lt
                  have SCc0 := SC.cell 0
                  have SCc1 := SC.cell 1
                  try simp at SCc0 SCc1
                  have p8 : Past wz8 wz8 := Below.refl _ _
                  have Zq0 : ∀ v : In (Past wz8), v.w.cell? ⟨W.heap.size, 0, none⟩ = some (.int .i64 b) := fun v => (Below.cell (p := ⟨_, 0, none⟩) (show Below _ _ _ from v.h) lZ).trans Zc0
                  have Zq1 : ∀ v : In (Past wz8), v.w.cell? ⟨W.heap.size, 1, none⟩ = some (.slice A n c) := fun v => (Below.cell (p := ⟨_, 1, none⟩) (show Below _ _ _ from v.h) lZ).trans Zc1
                  have Zq2 : ∀ v : In (Past wz8), v.w.cell? ⟨W.heap.size, 2, none⟩ = some (.slice A' n' c') := fun v => (Below.cell (p := ⟨_, 2, none⟩) (show Below _ _ _ from v.h) lZ).trans Zc2
                  have Zq3 : ∀ v : In (Past wz8), v.w.cell? ⟨W.heap.size, 3, none⟩ = some (.int .i64 f) := fun v => (Below.cell (p := ⟨_, 3, none⟩) (show Below _ _ _ from v.h) lZ).trans Zc3
                  have SAq0 : ∀ v : In (Past wz8), v.w.cell? ⟨w4.heap.size, 0, none⟩ = some (.int .i64 s.t) := fun v => (Below.cell (p := ⟨_, 0, none⟩) (show Below _ _ _ from v.h) lSA).trans SAc0
                  have SAq1 : ∀ v : In (Past wz8), v.w.cell? ⟨w4.heap.size, 1, none⟩ = some (.int .i64 s.o) := fun v => (Below.cell (p := ⟨_, 1, none⟩) (show Below _ _ _ from v.h) lSA).trans SAc1
                  have SCq0 : ∀ v : In (Past wz8), v.w.cell? ⟨w6.heap.size, 0, none⟩ = some (.int .i64 (s.t + 12622780800)) := fun v => (Below.cell (p := ⟨_, 0, none⟩) (show Below _ _ _ from v.h) lSC).trans SCc0
                  have SCq1 : ∀ v : In (Past wz8), v.w.cell? ⟨w6.heap.size, 1, none⟩ = some (.int .i64 s.o) := fun v => (Below.cell (p := ⟨_, 1, none⟩) (show Below _ _ _ from v.h) lSC).trans SCc1
                  have HQ := Lib.hid (fun (v : In (Past wz8)) => (hz0.below b7).below (show Below _ _ _ from v.h))
                  have hne8 : Nonempty (In (Past wz8)) := ⟨⟨_, p8⟩⟩
                  have HT := Lib.hid (fun (v : In (Past wz8)) => tab_on (tab_on (tab_on ht ba) b7) (show Below _ _ _ from v.h))
                  refine wp_region_class (Past wz8) (by kernel_rfl) (by kernel_rfl) (Past.drew' p8) ?_
                  repeat (any_goals (first | go_big_quiet_step ((first | (with_reducible refine quiet_cl Past.on (first_own _ ?_); first | exact HQ.out _ | exact HT.out _) | (with_reducible refine quiet_cl Past.on (Offset_is _ b f A A' n c n' c' [] ys _ _ EO.out ?_); first | exact HQ.out _ | exact HT.out _) | (with_reducible refine quiet_cl Past.on (Offset_is _ b f A A' n c n' c' [] ys _ _ EP.out ?_); first | exact HQ.out _ | exact HT.out _))) | quiet_step ((first | (with_reducible refine quiet_cl Past.on (first_own _ ?_); first | exact HQ.out _ | exact HT.out _) | (with_reducible refine quiet_cl Past.on (Offset_is _ b f A A' n c n' c' [] ys _ _ EO.out ?_); first | exact HQ.out _ | exact HT.out _) | (with_reducible refine quiet_cl Past.on (Offset_is _ b f A A' n c n' c' [] ys _ _ EP.out ?_); first | exact HQ.out _ | exact HT.out _)))))
                  refine wpQuiet_nil ?_
                  rintro _ ⟨⟨w8, h8⟩, rfl⟩
                  replace h8 : Below _ _ _ := h8
                  clear HQ HT hne8 p8 Zq0 Zq1 Zq2 Zq3 SAq0 SAq1 SCq0 SCq1
                  have b8 := b7.trans (h8.mono b7.size)
                  replace Z := Z.below h8 Z.lt
                  clear lZ Zc0 Zc1 Zc2 Zc3
                  have lZ := Z.lt
                  have Zc0 := Z.cell 0
                  have Zc1 := Z.cell 1
                  have Zc2 := Z.cell 2
                  have Zc3 := Z.cell 3
                  try simp at Zc0 Zc1 Zc2 Zc3
                  replace SA := SA.below h8 SA.lt
                  clear lSA SAc0 SAc1
                  have lSA := SA.lt
                  have SAc0 := SA.cell 0
                  have SAc1 := SA.cell 1
                  try simp at SAc0 SAc1
                  replace SC := SC.below h8 SC.lt
                  clear lSC SCc0 SCc1
                  have lSC := SC.lt
                  have SCc0 := SC.cell 0
                  have SCc1 := SC.cell 1
                  try simp at SCc0 SCc1
                  go_wp2
                  go_ret
                  exact ⟨rfl, ba.trans (b8.mono (by simp))⟩
end Go.Proofs.Ytegjcogindjogaa.Zn
