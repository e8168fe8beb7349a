/- The walk of voklaw3's law ZoneFirst. -/
import Derived.Test.YtegjcogindjogaaZnLaw0
set_option linter.unusedVariables false
namespace Go.Proofs.Ytegjcogindjogaa.Zn
open Go.RowKit Cv St

set_option maxRecDepth 100000 in
set_option maxHeartbeats 4000000 in
theorem zoneFirst_walk (W : World) (b f : Int) (A A' : Option Addr) (n c n' c' : Nat) (l : List Sh) (ys : List Yr) (hs : ShAt W A n l) (hy : YrAt W A' n' ys) (sn : n ≤ 9223372036854775807) (yn : n' ≤ 9223372036854775807) (x : Int) (x1 : -9223372036854775808 ≤ x) (x2 : x ≤ 9223372036854775807) (k : Int) (k1 : -9223372036854775808 ≤ k) (k2 : k ≤ 9223372036854775807) (ht : Tab W) :
    Calls Try.prog 9 #[.agg #[.int .i64 b, .slice A n c, .slice A' n' c', .int .i64 f], .int .i64 x, .int .i64 k] W fun e w' => e = .returned (.bool true) ∧ Below W.heap.size W w' := by
  have Z := Blk.new W 25 #[.int .i64 b, .slice A n c, .slice A' n' c', .int .i64 f]
  have ba := (Below.refl _ _).alloc (Nat.le_refl _) (.cells #[.int .i64 b, .slice A n c, .slice A' n' c', .int .i64 f] 25) (w := W)
  have b0 := Below.refl (W.alloc (.cells #[.int .i64 b, .slice A n c, .slice A' n' c', .int .i64 f] 25)).heap.size (W.alloc (.cells #[.int .i64 b, .slice A n c, .slice A' n' c', .int .i64 f] 25))
  have hz0 : ZnAt (W.alloc (.cells #[.int .i64 b, .slice A n c, .slice A' n' c', .int .i64 f] 25)) A n A' n' l ys := ⟨hs.below ba, hy.below ba, sn, yn⟩
  cases hf : fewB n n'
  · have FW := Lib.hid hf
    clear hf
    have lZ := Z.lt
    have Zc0 := Z.cell 0
    have Zc1 := Z.cell 1
    have Zc2 := Z.cell 2
    have Zc3 := Z.cell 3
    try simp at Zc0 Zc1 Zc2 Zc3
    go_enter Try.func9, Try.ntmps9
    go_wp2_with fail
    refine (first_own _ (tab_on (tab_on ht ba) b0)).mono ?_
    rintro e w1 ⟨rfl, h1⟩
    have b1 := b0.trans (h1.mono b0.size)
    replace Z := Z.below h1 Z.lt
    clear lZ Zc0 Zc1 Zc2 Zc3
    have lZ := Z.lt
    have Zc0 := Z.cell 0
    have Zc1 := Z.cell 1
    have Zc2 := Z.cell 2
    have Zc3 := Z.cell 3
    try simp at Zc0 Zc1 Zc2 Zc3
    go_wp2_with fail
    refine (few_is _ _ _ _ _ _ _ _ _ _ FW.out).mono ?_
    rintro e w2 ⟨rfl, h2⟩
    have b2 := b1.trans (h2.mono b1.size)
    replace Z := Z.below h2 Z.lt
    clear lZ Zc0 Zc1 Zc2 Zc3
    have lZ := Z.lt
    have Zc0 := Z.cell 0
    have Zc1 := Z.cell 1
    have Zc2 := Z.cell 2
    have Zc3 := Z.cell 3
    try simp at Zc0 Zc1 Zc2 Zc3
    go_wp2_with fail
    refine (first_own _ (tab_on (tab_on ht ba) b2)).mono ?_
    rintro e w3 ⟨rfl, h3⟩
    have b3 := b2.trans (h3.mono b2.size)
    replace Z := Z.below h3 Z.lt
    clear lZ Zc0 Zc1 Zc2 Zc3
    have lZ := Z.lt
    have Zc0 := Z.cell 0
    have Zc1 := Z.cell 1
    have Zc2 := Z.cell 2
    have Zc3 := Z.cell 3
    try simp at Zc0 Zc1 Zc2 Zc3
    go_wp2
    go_ret
    exact ⟨rfl, ba.trans (b3.mono (by simp))⟩
  · have FW := Lib.hid hf
    clear hf
    cases h : mayB b l ys f
    · have H := Lib.hid h
      clear h
      have lZ := Z.lt
      have Zc0 := Z.cell 0
      have Zc1 := Z.cell 1
      have Zc2 := Z.cell 2
      have Zc3 := Z.cell 3
      try simp at Zc0 Zc1 Zc2 Zc3
      go_enter Try.func9, Try.ntmps9
      go_wp2_with fail
      refine (first_own _ (tab_on (tab_on ht ba) b0)).mono ?_
      rintro e w1 ⟨rfl, h1⟩
      have b1 := b0.trans (h1.mono b0.size)
      replace Z := Z.below h1 Z.lt
      clear lZ Zc0 Zc1 Zc2 Zc3
      have lZ := Z.lt
      have Zc0 := Z.cell 0
      have Zc1 := Z.cell 1
      have Zc2 := Z.cell 2
      have Zc3 := Z.cell 3
      try simp at Zc0 Zc1 Zc2 Zc3
      go_wp2_with fail
      refine (few_is _ _ _ _ _ _ _ _ _ _ FW.out).mono ?_
      rintro e w2 ⟨rfl, h2⟩
      have b2 := b1.trans (h2.mono b1.size)
      replace Z := Z.below h2 Z.lt
      clear lZ Zc0 Zc1 Zc2 Zc3
      have lZ := Z.lt
      have Zc0 := Z.cell 0
      have Zc1 := Z.cell 1
      have Zc2 := Z.cell 2
      have Zc3 := Z.cell 3
      try simp at Zc0 Zc1 Zc2 Zc3
      go_wp2_with fail
      refine (zMay_own _ b f A A' n c n' c' l ys _ H.out (hz0.below b2)).mono ?_
      rintro e w3 ⟨rfl, h3⟩
      have b3 := b2.trans (h3.mono b2.size)
      replace Z := Z.below h3 Z.lt
      clear lZ Zc0 Zc1 Zc2 Zc3
      have lZ := Z.lt
      have Zc0 := Z.cell 0
      have Zc1 := Z.cell 1
      have Zc2 := Z.cell 2
      have Zc3 := Z.cell 3
      try simp at Zc0 Zc1 Zc2 Zc3
      go_wp2_with fail
      refine (first_own _ (tab_on (tab_on ht ba) b3)).mono ?_
      rintro e w4 ⟨rfl, h4⟩
      have b4 := b3.trans (h4.mono b3.size)
      replace Z := Z.below h4 Z.lt
      clear lZ Zc0 Zc1 Zc2 Zc3
      have lZ := Z.lt
      have Zc0 := Z.cell 0
      have Zc1 := Z.cell 1
      have Zc2 := Z.cell 2
      have Zc3 := Z.cell 3
      try simp at Zc0 Zc1 Zc2 Zc3
      go_wp2
      go_ret
      exact ⟨rfl, ba.trans (b4.mono (by simp))⟩
    · have H := Lib.hid h
      by_cases k1 : x < -60000000000
      · clear h
        have lZ := Z.lt
        have Zc0 := Z.cell 0
        have Zc1 := Z.cell 1
        have Zc2 := Z.cell 2
        have Zc3 := Z.cell 3
        try simp at Zc0 Zc1 Zc2 Zc3
        go_enter Try.func9, Try.ntmps9
        go_wp2_with fail
        refine (first_own _ (tab_on (tab_on ht ba) b0)).mono ?_
        rintro e w1 ⟨rfl, h1⟩
        have b1 := b0.trans (h1.mono b0.size)
        replace Z := Z.below h1 Z.lt
        clear lZ Zc0 Zc1 Zc2 Zc3
        have lZ := Z.lt
        have Zc0 := Z.cell 0
        have Zc1 := Z.cell 1
        have Zc2 := Z.cell 2
        have Zc3 := Z.cell 3
        try simp at Zc0 Zc1 Zc2 Zc3
        go_wp2_with fail
        refine (few_is _ _ _ _ _ _ _ _ _ _ FW.out).mono ?_
        rintro e w2 ⟨rfl, h2⟩
        have b2 := b1.trans (h2.mono b1.size)
        replace Z := Z.below h2 Z.lt
        clear lZ Zc0 Zc1 Zc2 Zc3
        have lZ := Z.lt
        have Zc0 := Z.cell 0
        have Zc1 := Z.cell 1
        have Zc2 := Z.cell 2
        have Zc3 := Z.cell 3
        try simp at Zc0 Zc1 Zc2 Zc3
        go_wp2_with fail
        refine (zMay_own _ b f A A' n c n' c' l ys _ H.out (hz0.below b2)).mono ?_
        rintro e w3 ⟨rfl, h3⟩
        have b3 := b2.trans (h3.mono b2.size)
        replace Z := Z.below h3 Z.lt
        clear lZ Zc0 Zc1 Zc2 Zc3
        have lZ := Z.lt
        have Zc0 := Z.cell 0
        have Zc1 := Z.cell 1
        have Zc2 := Z.cell 2
        have Zc3 := Z.cell 3
        try simp at Zc0 Zc1 Zc2 Zc3
        go_wp2_with fail
        refine (first_own _ (tab_on (tab_on ht ba) b3)).mono ?_
        rintro e w4 ⟨rfl, h4⟩
        have b4 := b3.trans (h4.mono b3.size)
        replace Z := Z.below h4 Z.lt
        clear lZ Zc0 Zc1 Zc2 Zc3
        have lZ := Z.lt
        have Zc0 := Z.cell 0
        have Zc1 := Z.cell 1
        have Zc2 := Z.cell 2
        have Zc3 := Z.cell 3
        try simp at Zc0 Zc1 Zc2 Zc3
        go_wp2
        go_ret
        exact ⟨rfl, ba.trans (b4.mono (by simp))⟩
      · have k1' : -60000000000 ≤ x := by omega
        by_cases k3 : 250000000000 < x
        · clear h k1
          have lZ := Z.lt
          have Zc0 := Z.cell 0
          have Zc1 := Z.cell 1
          have Zc2 := Z.cell 2
          have Zc3 := Z.cell 3
          try simp at Zc0 Zc1 Zc2 Zc3
          go_enter Try.func9, Try.ntmps9
          go_wp2_with fail
          refine (first_own _ (tab_on (tab_on ht ba) b0)).mono ?_
          rintro e w1 ⟨rfl, h1⟩
          have b1 := b0.trans (h1.mono b0.size)
          replace Z := Z.below h1 Z.lt
          clear lZ Zc0 Zc1 Zc2 Zc3
          have lZ := Z.lt
          have Zc0 := Z.cell 0
          have Zc1 := Z.cell 1
          have Zc2 := Z.cell 2
          have Zc3 := Z.cell 3
          try simp at Zc0 Zc1 Zc2 Zc3
          go_wp2_with fail
          refine (few_is _ _ _ _ _ _ _ _ _ _ FW.out).mono ?_
          rintro e w2 ⟨rfl, h2⟩
          have b2 := b1.trans (h2.mono b1.size)
          replace Z := Z.below h2 Z.lt
          clear lZ Zc0 Zc1 Zc2 Zc3
          have lZ := Z.lt
          have Zc0 := Z.cell 0
          have Zc1 := Z.cell 1
          have Zc2 := Z.cell 2
          have Zc3 := Z.cell 3
          try simp at Zc0 Zc1 Zc2 Zc3
          go_wp2_with fail
          refine (zMay_own _ b f A A' n c n' c' l ys _ H.out (hz0.below b2)).mono ?_
          rintro e w3 ⟨rfl, h3⟩
          have b3 := b2.trans (h3.mono b2.size)
          replace Z := Z.below h3 Z.lt
          clear lZ Zc0 Zc1 Zc2 Zc3
          have lZ := Z.lt
          have Zc0 := Z.cell 0
          have Zc1 := Z.cell 1
          have Zc2 := Z.cell 2
          have Zc3 := Z.cell 3
          try simp at Zc0 Zc1 Zc2 Zc3
          go_wp2_with fail
          refine (first_own _ (tab_on (tab_on ht ba) b3)).mono ?_
          rintro e w4 ⟨rfl, h4⟩
          have b4 := b3.trans (h4.mono b3.size)
          replace Z := Z.below h4 Z.lt
          clear lZ Zc0 Zc1 Zc2 Zc3
          have lZ := Z.lt
          have Zc0 := Z.cell 0
          have Zc1 := Z.cell 1
          have Zc2 := Z.cell 2
          have Zc3 := Z.cell 3
          try simp at Zc0 Zc1 Zc2 Zc3
          go_wp2
          go_ret
          exact ⟨rfl, ba.trans (b4.mono (by simp))⟩
        · have k3' : x ≤ 250000000000 := by omega
          by_cases k4 : k < 1
          · clear h k1 k3
            have lZ := Z.lt
            have Zc0 := Z.cell 0
            have Zc1 := Z.cell 1
            have Zc2 := Z.cell 2
            have Zc3 := Z.cell 3
            try simp at Zc0 Zc1 Zc2 Zc3
            go_enter Try.func9, Try.ntmps9
            go_wp2_with fail
            refine (first_own _ (tab_on (tab_on ht ba) b0)).mono ?_
            rintro e w1 ⟨rfl, h1⟩
            have b1 := b0.trans (h1.mono b0.size)
            replace Z := Z.below h1 Z.lt
            clear lZ Zc0 Zc1 Zc2 Zc3
            have lZ := Z.lt
            have Zc0 := Z.cell 0
            have Zc1 := Z.cell 1
            have Zc2 := Z.cell 2
            have Zc3 := Z.cell 3
            try simp at Zc0 Zc1 Zc2 Zc3
            go_wp2_with fail
            refine (few_is _ _ _ _ _ _ _ _ _ _ FW.out).mono ?_
            rintro e w2 ⟨rfl, h2⟩
            have b2 := b1.trans (h2.mono b1.size)
            replace Z := Z.below h2 Z.lt
            clear lZ Zc0 Zc1 Zc2 Zc3
            have lZ := Z.lt
            have Zc0 := Z.cell 0
            have Zc1 := Z.cell 1
            have Zc2 := Z.cell 2
            have Zc3 := Z.cell 3
            try simp at Zc0 Zc1 Zc2 Zc3
            go_wp2_with fail
            refine (zMay_own _ b f A A' n c n' c' l ys _ H.out (hz0.below b2)).mono ?_
            rintro e w3 ⟨rfl, h3⟩
            have b3 := b2.trans (h3.mono b2.size)
            replace Z := Z.below h3 Z.lt
            clear lZ Zc0 Zc1 Zc2 Zc3
            have lZ := Z.lt
            have Zc0 := Z.cell 0
            have Zc1 := Z.cell 1
            have Zc2 := Z.cell 2
            have Zc3 := Z.cell 3
            try simp at Zc0 Zc1 Zc2 Zc3
            go_wp2_with fail
            refine (first_own _ (tab_on (tab_on ht ba) b3)).mono ?_
            rintro e w4 ⟨rfl, h4⟩
            have b4 := b3.trans (h4.mono b3.size)
            replace Z := Z.below h4 Z.lt
            clear lZ Zc0 Zc1 Zc2 Zc3
            have lZ := Z.lt
            have Zc0 := Z.cell 0
            have Zc1 := Z.cell 1
            have Zc2 := Z.cell 2
            have Zc3 := Z.cell 3
            try simp at Zc0 Zc1 Zc2 Zc3
            go_wp2
            go_ret
            exact ⟨rfl, ba.trans (b4.mono (by simp))⟩
          · have k4' : 1 ≤ k := by omega
            by_cases k5 : 129600 < k
            · clear h k1 k3 k4
              have lZ := Z.lt
              have Zc0 := Z.cell 0
              have Zc1 := Z.cell 1
              have Zc2 := Z.cell 2
              have Zc3 := Z.cell 3
              try simp at Zc0 Zc1 Zc2 Zc3
              go_enter Try.func9, Try.ntmps9
              go_wp2_with fail
              refine (first_own _ (tab_on (tab_on ht ba) b0)).mono ?_
              rintro e w1 ⟨rfl, h1⟩
              have b1 := b0.trans (h1.mono b0.size)
              replace Z := Z.below h1 Z.lt
              clear lZ Zc0 Zc1 Zc2 Zc3
              have lZ := Z.lt
              have Zc0 := Z.cell 0
              have Zc1 := Z.cell 1
              have Zc2 := Z.cell 2
              have Zc3 := Z.cell 3
              try simp at Zc0 Zc1 Zc2 Zc3
              go_wp2_with fail
              refine (few_is _ _ _ _ _ _ _ _ _ _ FW.out).mono ?_
              rintro e w2 ⟨rfl, h2⟩
              have b2 := b1.trans (h2.mono b1.size)
              replace Z := Z.below h2 Z.lt
              clear lZ Zc0 Zc1 Zc2 Zc3
              have lZ := Z.lt
              have Zc0 := Z.cell 0
              have Zc1 := Z.cell 1
              have Zc2 := Z.cell 2
              have Zc3 := Z.cell 3
              try simp at Zc0 Zc1 Zc2 Zc3
              go_wp2_with fail
              refine (zMay_own _ b f A A' n c n' c' l ys _ H.out (hz0.below b2)).mono ?_
              rintro e w3 ⟨rfl, h3⟩
              have b3 := b2.trans (h3.mono b2.size)
              replace Z := Z.below h3 Z.lt
              clear lZ Zc0 Zc1 Zc2 Zc3
              have lZ := Z.lt
              have Zc0 := Z.cell 0
              have Zc1 := Z.cell 1
              have Zc2 := Z.cell 2
              have Zc3 := Z.cell 3
              try simp at Zc0 Zc1 Zc2 Zc3
              go_wp2_with fail
              refine (first_own _ (tab_on (tab_on ht ba) b3)).mono ?_
              rintro e w4 ⟨rfl, h4⟩
              have b4 := b3.trans (h4.mono b3.size)
              replace Z := Z.below h4 Z.lt
              clear lZ Zc0 Zc1 Zc2 Zc3
              have lZ := Z.lt
              have Zc0 := Z.cell 0
              have Zc1 := Z.cell 1
              have Zc2 := Z.cell 2
              have Zc3 := Z.cell 3
              try simp at Zc0 Zc1 Zc2 Zc3
              go_wp2
              go_ret
              exact ⟨rfl, ba.trans (b4.mono (by simp))⟩
            · have k5' : k ≤ 129600 := by omega
              obtain ⟨v, m, e1, e2, m1, m2, hm⟩ := first_nums h k1' k3' k4' k5'
              have E1 := Lib.hid e1; have E2 := Lib.hid e2
              clear h k1 k3 k4 k5 e1 e2
              by_cases hx : m = x
              · have t1 : ((m : Int) != x) = false := by rw [bne_eq_false_iff_eq]; exact hx
                obtain ⟨y, e3, hy3⟩ := hm hx
                have t2 : ((y : Int) != x) = true := by rw [bne_iff_ne]; exact hy3
                have E3 := Lib.hid e3
                clear hm hx e3 hy3
                have lZ := Z.lt
                have Zc0 := Z.cell 0
                have Zc1 := Z.cell 1
                have Zc2 := Z.cell 2
                have Zc3 := Z.cell 3
                try simp at Zc0 Zc1 Zc2 Zc3
                go_enter Try.func9, Try.ntmps9
                go_wp2_with fail
                refine (first_own _ (tab_on (tab_on ht ba) b0)).mono ?_
                rintro e w1 ⟨rfl, h1⟩
                have b1 := b0.trans (h1.mono b0.size)
                replace Z := Z.below h1 Z.lt
                clear lZ Zc0 Zc1 Zc2 Zc3
                have lZ := Z.lt
                have Zc0 := Z.cell 0
                have Zc1 := Z.cell 1
                have Zc2 := Z.cell 2
                have Zc3 := Z.cell 3
                try simp at Zc0 Zc1 Zc2 Zc3
                go_wp2_with fail
                refine (few_is _ _ _ _ _ _ _ _ _ _ FW.out).mono ?_
                rintro e w2 ⟨rfl, h2⟩
                have b2 := b1.trans (h2.mono b1.size)
                replace Z := Z.below h2 Z.lt
                clear lZ Zc0 Zc1 Zc2 Zc3
                have lZ := Z.lt
                have Zc0 := Z.cell 0
                have Zc1 := Z.cell 1
                have Zc2 := Z.cell 2
                have Zc3 := Z.cell 3
                try simp at Zc0 Zc1 Zc2 Zc3
                go_wp2_with fail
                refine (zMay_own _ b f A A' n c n' c' l ys _ H.out (hz0.below b2)).mono ?_
                rintro e w3 ⟨rfl, h3⟩
                have b3 := b2.trans (h3.mono b2.size)
                replace Z := Z.below h3 Z.lt
                clear lZ Zc0 Zc1 Zc2 Zc3
                have lZ := Z.lt
                have Zc0 := Z.cell 0
                have Zc1 := Z.cell 1
                have Zc2 := Z.cell 2
                have Zc3 := Z.cell 3
                try simp at Zc0 Zc1 Zc2 Zc3
                go_wp2_with fail
                refine (UTC_is _ b f A A' n c n' c' l ys _ _ E1.out (by omega) (by omega) (hz0.below b3)).mono ?_
                rintro e w4 ⟨rfl, h4⟩
                have b4 := b3.trans (h4.mono b3.size)
                replace Z := Z.below h4 Z.lt
                clear lZ Zc0 Zc1 Zc2 Zc3
                have lZ := Z.lt
                have Zc0 := Z.cell 0
                have Zc1 := Z.cell 1
                have Zc2 := Z.cell 2
                have Zc3 := Z.cell 3
                try simp at Zc0 Zc1 Zc2 Zc3
                go_wp2_with fail
                refine (Local_is _ b f A A' n c n' c' l ys _ _ E2.out (hz0.below b4)).mono ?_
                rintro e w5 ⟨rfl, h5⟩
                have b5 := b4.trans (h5.mono b4.size)
                replace Z := Z.below h5 Z.lt
                clear lZ Zc0 Zc1 Zc2 Zc3
                have lZ := Z.lt
                have Zc0 := Z.cell 0
                have Zc1 := Z.cell 1
                have Zc2 := Z.cell 2
                have Zc3 := Z.cell 3
                try simp at Zc0 Zc1 Zc2 Zc3
                go_wp2_with fail
                refine (first_own _ (tab_on (tab_on ht ba) b5)).mono ?_
                rintro e w6 ⟨rfl, h6⟩
                have b6 := b5.trans (h6.mono b5.size)
                replace Z := Z.below h6 Z.lt
                clear lZ Zc0 Zc1 Zc2 Zc3
                have lZ := Z.lt
                have Zc0 := Z.cell 0
                have Zc1 := Z.cell 1
                have Zc2 := Z.cell 2
                have Zc3 := Z.cell 3
                try simp at Zc0 Zc1 Zc2 Zc3
                go_wp2_with fail
                refine (Local_is _ b f A A' n c n' c' l ys _ _ E3.out (hz0.below b6)).mono ?_
                rintro e w7 ⟨rfl, h7⟩
                have b7 := b6.trans (h7.mono b6.size)
                replace Z := Z.below h7 Z.lt
                clear lZ Zc0 Zc1 Zc2 Zc3
                have lZ := Z.lt
                have Zc0 := Z.cell 0
                have Zc1 := Z.cell 1
                have Zc2 := Z.cell 2
                have Zc3 := Z.cell 3
                try simp at Zc0 Zc1 Zc2 Zc3
                go_wp2
                go_ret
                exact ⟨rfl, ba.trans (b7.mono (by simp))⟩
              · have t1 : ((m : Int) != x) = true := by rw [bne_iff_ne]; exact hx
                clear hm hx
                have lZ := Z.lt
                have Zc0 := Z.cell 0
                have Zc1 := Z.cell 1
                have Zc2 := Z.cell 2
                have Zc3 := Z.cell 3
                try simp at Zc0 Zc1 Zc2 Zc3
                go_enter Try.func9, Try.ntmps9
                go_wp2_with fail
                refine (first_own _ (tab_on (tab_on ht ba) b0)).mono ?_
                rintro e w1 ⟨rfl, h1⟩
                have b1 := b0.trans (h1.mono b0.size)
                replace Z := Z.below h1 Z.lt
                clear lZ Zc0 Zc1 Zc2 Zc3
                have lZ := Z.lt
                have Zc0 := Z.cell 0
                have Zc1 := Z.cell 1
                have Zc2 := Z.cell 2
                have Zc3 := Z.cell 3
                try simp at Zc0 Zc1 Zc2 Zc3
                go_wp2_with fail
                refine (few_is _ _ _ _ _ _ _ _ _ _ FW.out).mono ?_
                rintro e w2 ⟨rfl, h2⟩
                have b2 := b1.trans (h2.mono b1.size)
                replace Z := Z.below h2 Z.lt
                clear lZ Zc0 Zc1 Zc2 Zc3
                have lZ := Z.lt
                have Zc0 := Z.cell 0
                have Zc1 := Z.cell 1
                have Zc2 := Z.cell 2
                have Zc3 := Z.cell 3
                try simp at Zc0 Zc1 Zc2 Zc3
                go_wp2_with fail
                refine (zMay_own _ b f A A' n c n' c' l ys _ H.out (hz0.below b2)).mono ?_
                rintro e w3 ⟨rfl, h3⟩
                have b3 := b2.trans (h3.mono b2.size)
                replace Z := Z.below h3 Z.lt
                clear lZ Zc0 Zc1 Zc2 Zc3
                have lZ := Z.lt
                have Zc0 := Z.cell 0
                have Zc1 := Z.cell 1
                have Zc2 := Z.cell 2
                have Zc3 := Z.cell 3
                try simp at Zc0 Zc1 Zc2 Zc3
                go_wp2_with fail
                refine (UTC_is _ b f A A' n c n' c' l ys _ _ E1.out (by omega) (by omega) (hz0.below b3)).mono ?_
                rintro e w4 ⟨rfl, h4⟩
                have b4 := b3.trans (h4.mono b3.size)
                replace Z := Z.below h4 Z.lt
                clear lZ Zc0 Zc1 Zc2 Zc3
                have lZ := Z.lt
                have Zc0 := Z.cell 0
                have Zc1 := Z.cell 1
                have Zc2 := Z.cell 2
                have Zc3 := Z.cell 3
                try simp at Zc0 Zc1 Zc2 Zc3
                go_wp2_with fail
                refine (Local_is _ b f A A' n c n' c' l ys _ _ E2.out (hz0.below b4)).mono ?_
                rintro e w5 ⟨rfl, h5⟩
                have b5 := b4.trans (h5.mono b4.size)
                replace Z := Z.below h5 Z.lt
                clear lZ Zc0 Zc1 Zc2 Zc3
                have lZ := Z.lt
                have Zc0 := Z.cell 0
                have Zc1 := Z.cell 1
                have Zc2 := Z.cell 2
                have Zc3 := Z.cell 3
                try simp at Zc0 Zc1 Zc2 Zc3
                go_wp2_with fail
                refine (first_own _ (tab_on (tab_on ht ba) b5)).mono ?_
                rintro e w6 ⟨rfl, h6⟩
                have b6 := b5.trans (h6.mono b5.size)
                replace Z := Z.below h6 Z.lt
                clear lZ Zc0 Zc1 Zc2 Zc3
                have lZ := Z.lt
                have Zc0 := Z.cell 0
                have Zc1 := Z.cell 1
                have Zc2 := Z.cell 2
                have Zc3 := Z.cell 3
                try simp at Zc0 Zc1 Zc2 Zc3
                go_wp2
                go_ret
                exact ⟨rfl, ba.trans (b6.mono (by simp))⟩
end Go.Proofs.Ytegjcogindjogaa.Zn
