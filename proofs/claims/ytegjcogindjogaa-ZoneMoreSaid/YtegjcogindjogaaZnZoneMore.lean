/- The walk of voklaw3's law ZoneMore. -/
import Derived.Test.YtegjcogindjogaaZnOwn
set_option linter.unusedVariables false
namespace Go.Proofs.Ytegjcogindjogaa.Zn
open Go.RowKit Cv St

set_option maxRecDepth 100000 in
set_option maxHeartbeats 4000000 in
theorem zoneMore_walk (W : World) (b f : Int) (A A' : Option Addr) (n c n' c' : Nat) (l : List Sh) (ys : List Yr) (hs : ShAt W A n l) (hy : YrAt W A' n' ys) (hcn : A = none → c = 0) (sn : n ≤ 9223372036854775807) (yn : n' ≤ 9223372036854775807) (p : Int) (p1 : -9223372036854775808 ≤ p) (p2 : p ≤ 9223372036854775807) (q : Int) (q1 : -9223372036854775808 ≤ q) (q2 : q ≤ 9223372036854775807) (u : Int) (u1 : -9223372036854775808 ≤ u) (u2 : u ≤ 9223372036854775807) (ht : Tab W) :
    Calls Try.prog 10 #[.agg #[.int .i64 b, .slice A n c, .slice A' n' c', .int .i64 f], .int .i64 p, .int .i64 q, .int .i64 u] W fun e w' => e = .returned (.bool true) ∧ Below W.heap.size W w' := by
  have Z := Blk.new W 25 #[.int .i64 b, .slice A n c, .slice A' n' c', .int .i64 f]
  have ba := (Below.refl _ _).alloc (Nat.le_refl _) (.cells #[.int .i64 b, .slice A n c, .slice A' n' c', .int .i64 f] 25) (w := W)
  have b0 := Below.refl (W.alloc (.cells #[.int .i64 b, .slice A n c, .slice A' n' c', .int .i64 f] 25)).heap.size (W.alloc (.cells #[.int .i64 b, .slice A n c, .slice A' n' c', .int .i64 f] 25))
  have hz0 : ZnAt (W.alloc (.cells #[.int .i64 b, .slice A n c, .slice A' n' c', .int .i64 f] 25)) A n A' n' l ys := ⟨hs.below ba, hy.below ba, sn, yn⟩
  cases hf : fewB n n'
  · have FW := Lib.hid hf
    clear hf
    have lZ := Z.lt
    have Zc0 := Z.cell 0
    have Zc1 := Z.cell 1
    have Zc2 := Z.cell 2
    have Zc3 := Z.cell 3
    try simp at Zc0 Zc1 Zc2 Zc3
    go_enter Try.func10, Try.ntmps10
    go_wp2_with fail
    refine (first_own _ (tab_on (tab_on ht ba) b0)).mono ?_
    rintro e w1 ⟨rfl, h1⟩
    have b1 := b0.trans (h1.mono b0.size)
    replace Z := Z.below h1 Z.lt
    clear lZ Zc0 Zc1 Zc2 Zc3
    have lZ := Z.lt
    have Zc0 := Z.cell 0
    have Zc1 := Z.cell 1
    have Zc2 := Z.cell 2
    have Zc3 := Z.cell 3
    try simp at Zc0 Zc1 Zc2 Zc3
    go_wp2_with fail
    refine (few_is _ _ _ _ _ _ _ _ _ _ FW.out).mono ?_
    rintro e w2 ⟨rfl, h2⟩
    have b2 := b1.trans (h2.mono b1.size)
    replace Z := Z.below h2 Z.lt
    clear lZ Zc0 Zc1 Zc2 Zc3
    have lZ := Z.lt
    have Zc0 := Z.cell 0
    have Zc1 := Z.cell 1
    have Zc2 := Z.cell 2
    have Zc3 := Z.cell 3
    try simp at Zc0 Zc1 Zc2 Zc3
    go_wp2_with fail
    refine (first_own _ (tab_on (tab_on ht ba) b2)).mono ?_
    rintro e w3 ⟨rfl, h3⟩
    have b3 := b2.trans (h3.mono b2.size)
    replace Z := Z.below h3 Z.lt
    clear lZ Zc0 Zc1 Zc2 Zc3
    have lZ := Z.lt
    have Zc0 := Z.cell 0
    have Zc1 := Z.cell 1
    have Zc2 := Z.cell 2
    have Zc3 := Z.cell 3
    try simp at Zc0 Zc1 Zc2 Zc3
    go_wp2
    go_ret
    exact ⟨rfl, ba.trans (b3.mono (by simp))⟩
  · have FW := Lib.hid hf
    clear hf
    by_cases kn : 0 < n'
    · have t0 : decide (0 < (n' : Int)) = true := by simp; omega
      have lZ := Z.lt
      have Zc0 := Z.cell 0
      have Zc1 := Z.cell 1
      have Zc2 := Z.cell 2
      have Zc3 := Z.cell 3
      try simp at Zc0 Zc1 Zc2 Zc3
      go_enter Try.func10, Try.ntmps10
      go_wp2_with fail
      refine (first_own _ (tab_on (tab_on ht ba) b0)).mono ?_
      rintro e w1 ⟨rfl, h1⟩
      have b1 := b0.trans (h1.mono b0.size)
      replace Z := Z.below h1 Z.lt
      clear lZ Zc0 Zc1 Zc2 Zc3
      have lZ := Z.lt
      have Zc0 := Z.cell 0
      have Zc1 := Z.cell 1
      have Zc2 := Z.cell 2
      have Zc3 := Z.cell 3
      try simp at Zc0 Zc1 Zc2 Zc3
      go_wp2_with fail
      refine (few_is _ _ _ _ _ _ _ _ _ _ FW.out).mono ?_
      rintro e w2 ⟨rfl, h2⟩
      have b2 := b1.trans (h2.mono b1.size)
      replace Z := Z.below h2 Z.lt
      clear lZ Zc0 Zc1 Zc2 Zc3
      have lZ := Z.lt
      have Zc0 := Z.cell 0
      have Zc1 := Z.cell 1
      have Zc2 := Z.cell 2
      have Zc3 := Z.cell 3
      try simp at Zc0 Zc1 Zc2 Zc3
      go_wp2_with fail
      refine (first_own _ (tab_on (tab_on ht ba) b2)).mono ?_
      rintro e w3 ⟨rfl, h3⟩
      have b3 := b2.trans (h3.mono b2.size)
      replace Z := Z.below h3 Z.lt
      clear lZ Zc0 Zc1 Zc2 Zc3
      have lZ := Z.lt
      have Zc0 := Z.cell 0
      have Zc1 := Z.cell 1
      have Zc2 := Z.cell 2
      have Zc3 := Z.cell 3
      try simp at Zc0 Zc1 Zc2 Zc3
      go_wp2
      go_ret
      exact ⟨rfl, ba.trans (b3.mono (by simp))⟩
    · have kn' : n' ≤ 0 := by omega
      clear kn
      cases h : mayB b l ys f
      · have H := Lib.hid h
        clear h
        have lZ := Z.lt
        have Zc0 := Z.cell 0
        have Zc1 := Z.cell 1
        have Zc2 := Z.cell 2
        have Zc3 := Z.cell 3
        try simp at Zc0 Zc1 Zc2 Zc3
        go_enter Try.func10, Try.ntmps10
        go_wp2_with fail
        refine (first_own _ (tab_on (tab_on ht ba) b0)).mono ?_
        rintro e w1 ⟨rfl, h1⟩
        have b1 := b0.trans (h1.mono b0.size)
        replace Z := Z.below h1 Z.lt
        clear lZ Zc0 Zc1 Zc2 Zc3
        have lZ := Z.lt
        have Zc0 := Z.cell 0
        have Zc1 := Z.cell 1
        have Zc2 := Z.cell 2
        have Zc3 := Z.cell 3
        try simp at Zc0 Zc1 Zc2 Zc3
        go_wp2_with fail
        refine (few_is _ _ _ _ _ _ _ _ _ _ FW.out).mono ?_
        rintro e w2 ⟨rfl, h2⟩
        have b2 := b1.trans (h2.mono b1.size)
        replace Z := Z.below h2 Z.lt
        clear lZ Zc0 Zc1 Zc2 Zc3
        have lZ := Z.lt
        have Zc0 := Z.cell 0
        have Zc1 := Z.cell 1
        have Zc2 := Z.cell 2
        have Zc3 := Z.cell 3
        try simp at Zc0 Zc1 Zc2 Zc3
        go_wp2_with fail
        refine (zMay_own _ b f A A' n c n' c' l ys _ H.out (hz0.below b2)).mono ?_
        rintro e w3 ⟨rfl, h3⟩
        have b3 := b2.trans (h3.mono b2.size)
        replace Z := Z.below h3 Z.lt
        clear lZ Zc0 Zc1 Zc2 Zc3
        have lZ := Z.lt
        have Zc0 := Z.cell 0
        have Zc1 := Z.cell 1
        have Zc2 := Z.cell 2
        have Zc3 := Z.cell 3
        try simp at Zc0 Zc1 Zc2 Zc3
        go_wp2_with fail
        refine (first_own _ (tab_on (tab_on ht ba) b3)).mono ?_
        rintro e w4 ⟨rfl, h4⟩
        have b4 := b3.trans (h4.mono b3.size)
        replace Z := Z.below h4 Z.lt
        clear lZ Zc0 Zc1 Zc2 Zc3
        have lZ := Z.lt
        have Zc0 := Z.cell 0
        have Zc1 := Z.cell 1
        have Zc2 := Z.cell 2
        have Zc3 := Z.cell 3
        try simp at Zc0 Zc1 Zc2 Zc3
        go_wp2
        go_ret
        exact ⟨rfl, ba.trans (b4.mono (by simp))⟩
      · have H := Lib.hid h
        cases hu : mayT u
        · have HU := Lib.hid hu
          clear h hu
          have lZ := Z.lt
          have Zc0 := Z.cell 0
          have Zc1 := Z.cell 1
          have Zc2 := Z.cell 2
          have Zc3 := Z.cell 3
          try simp at Zc0 Zc1 Zc2 Zc3
          go_enter Try.func10, Try.ntmps10
          go_wp2_with fail
          refine (first_own _ (tab_on (tab_on ht ba) b0)).mono ?_
          rintro e w1 ⟨rfl, h1⟩
          have b1 := b0.trans (h1.mono b0.size)
          replace Z := Z.below h1 Z.lt
          clear lZ Zc0 Zc1 Zc2 Zc3
          have lZ := Z.lt
          have Zc0 := Z.cell 0
          have Zc1 := Z.cell 1
          have Zc2 := Z.cell 2
          have Zc3 := Z.cell 3
          try simp at Zc0 Zc1 Zc2 Zc3
          go_wp2_with fail
          refine (few_is _ _ _ _ _ _ _ _ _ _ FW.out).mono ?_
          rintro e w2 ⟨rfl, h2⟩
          have b2 := b1.trans (h2.mono b1.size)
          replace Z := Z.below h2 Z.lt
          clear lZ Zc0 Zc1 Zc2 Zc3
          have lZ := Z.lt
          have Zc0 := Z.cell 0
          have Zc1 := Z.cell 1
          have Zc2 := Z.cell 2
          have Zc3 := Z.cell 3
          try simp at Zc0 Zc1 Zc2 Zc3
          go_wp2_with fail
          refine (zMay_own _ b f A A' n c n' c' l ys _ H.out (hz0.below b2)).mono ?_
          rintro e w3 ⟨rfl, h3⟩
          have b3 := b2.trans (h3.mono b2.size)
          replace Z := Z.below h3 Z.lt
          clear lZ Zc0 Zc1 Zc2 Zc3
          have lZ := Z.lt
          have Zc0 := Z.cell 0
          have Zc1 := Z.cell 1
          have Zc2 := Z.cell 2
          have Zc3 := Z.cell 3
          try simp at Zc0 Zc1 Zc2 Zc3
          go_wp2_with fail
          refine (mayS_no _ _ HU.out).mono ?_
          rintro e _ ⟨rfl, rfl⟩
          go_wp2_with fail
          refine (first_own _ (tab_on (tab_on ht ba) b3)).mono ?_
          rintro e w4 ⟨rfl, h4⟩
          have b4 := b3.trans (h4.mono b3.size)
          replace Z := Z.below h4 Z.lt
          clear lZ Zc0 Zc1 Zc2 Zc3
          have lZ := Z.lt
          have Zc0 := Z.cell 0
          have Zc1 := Z.cell 1
          have Zc2 := Z.cell 2
          have Zc3 := Z.cell 3
          try simp at Zc0 Zc1 Zc2 Zc3
          go_wp2
          go_ret
          exact ⟨rfl, ba.trans (b4.mono (by simp))⟩
        · have HU := Lib.hid hu
          obtain ⟨u3, u4⟩ := mayT_of hu
          have h64 : l.length ≤ 64 := (may_of h).2.1
          have n64 : n ≤ 64 := by rw [hs.1]; exact h64
          have y0' : ys = [] := List.eq_nil_of_length_eq_zero (by rw [← hy.1]; omega)
          have bd := ofs_bd h hu
          cases h' : mayB b (l ++ [⟨p, q⟩]) ys f
          · have HY' := Lib.hid h'
            clear h h' hu y0' bd
            have lZ := Z.lt
            have Zc0 := Z.cell 0
            have Zc1 := Z.cell 1
            have Zc2 := Z.cell 2
            have Zc3 := Z.cell 3
            try simp at Zc0 Zc1 Zc2 Zc3
            go_enter Try.func10, Try.ntmps10
            go_wp2_with fail
            refine (first_own _ (tab_on (tab_on ht ba) b0)).mono ?_
            rintro e w1 ⟨rfl, h1⟩
            have b1 := b0.trans (h1.mono b0.size)
            replace Z := Z.below h1 Z.lt
            clear lZ Zc0 Zc1 Zc2 Zc3
            have lZ := Z.lt
            have Zc0 := Z.cell 0
            have Zc1 := Z.cell 1
            have Zc2 := Z.cell 2
            have Zc3 := Z.cell 3
            try simp at Zc0 Zc1 Zc2 Zc3
            go_wp2_with fail
            refine (few_is _ _ _ _ _ _ _ _ _ _ FW.out).mono ?_
            rintro e w2 ⟨rfl, h2⟩
            have b2 := b1.trans (h2.mono b1.size)
            replace Z := Z.below h2 Z.lt
            clear lZ Zc0 Zc1 Zc2 Zc3
            have lZ := Z.lt
            have Zc0 := Z.cell 0
            have Zc1 := Z.cell 1
            have Zc2 := Z.cell 2
            have Zc3 := Z.cell 3
            try simp at Zc0 Zc1 Zc2 Zc3
            go_wp2_with fail
            refine (zMay_own _ b f A A' n c n' c' l ys _ H.out (hz0.below b2)).mono ?_
            rintro e w3 ⟨rfl, h3⟩
            have b3 := b2.trans (h3.mono b2.size)
            replace Z := Z.below h3 Z.lt
            clear lZ Zc0 Zc1 Zc2 Zc3
            have lZ := Z.lt
            have Zc0 := Z.cell 0
            have Zc1 := Z.cell 1
            have Zc2 := Z.cell 2
            have Zc3 := Z.cell 3
            try simp at Zc0 Zc1 Zc2 Zc3
            go_wp2_with fail
            refine (mayS_yes _ _ HU.out).mono ?_
            rintro e _ ⟨rfl, rfl⟩
            have Y := Blk.new w3 25 #[.int .i64 b, .slice A n c, .slice A' n' c', .int .i64 f]
            have ya := (Below.refl _ _).alloc (Nat.le_refl _) (.cells #[.int .i64 b, .slice A n c, .slice A' n' c', .int .i64 f] 25) (w := w3)
            have yb := (Below.refl _ _).alloc (Nat.le_refl _) (.cells #[] 29) (w := w3.alloc (.cells #[.int .i64 b, .slice A n c, .slice A' n' c', .int .i64 f] 25))
            have Y1 := Y.alloc (.cells #[] 29)
            have Z1 := (Z.below ya Z.lt).below yb (by simp; omega)
            have o0 := OwnS.nilLit (B := w3.heap.size + 1) (w3.alloc (.cells #[.int .i64 b, .slice A n c, .slice A' n' c', .int .i64 f] 25)) (by simp)
            have bs := (b3.trans (ya.mono b3.size)).trans (yb.mono (by have := b3.size; simp at this ⊢; omega))
            have hz1 := hz0.below bs
            simp only [World.size_alloc] at o0
            go_wp2_with (at_builtin; refine append_sh rfl _ _ rfl _ [] rfl o0 (by simp) A n c l rfl hz1.sh hcn (by simp; omega) ?_)
            intro v1 w11 o1 k1 t1
            have Y2 := t1 _ _ _ Y1 (by decide)
            have Z2 := t1 _ _ _ Z1 (by decide)
            have ka := (Below.refl _ _).alloc (Nat.le_refl _) (.cells #[.int .i64 p, .int .i64 q] 29) (w := w11)
            have Y3 := Y2.below ka Y2.lt
            have Z3 := Z2.below ka Z2.lt
            have o1' : OwnS (w3.heap.size + 1) (w11.alloc (.cells #[.int .i64 p, .int .i64 q] 29)) v1 ([] ++ l) := World.ownsRow.alloc o1 _
            have ks := k1.size
            simp only [World.size_alloc] at ks
            go_wp2_with (at_builtin; refine append_sh rfl _ _ rfl _ ([] ++ l) rfl o1' (by simp; omega) _ 1 1 [⟨p, q⟩] rfl (one_at _ ⟨p, q⟩) (fun h => by cases h) (by simp; omega) ?_)
            intro v2 w12 o2 k2 t2
            have Y4 := t2 _ _ _ Y3 (by decide)
            have Z4 := t2 _ _ _ Z3 (by decide)
            generalize hl2 : l ++ [⟨p, q⟩] = l2 at o2
            obtain ⟨A2, c2, rfl, _, _⟩ := o2.form
            have LL : l2.length = n + 1 := by rw [← hl2, hs.1]; simp
            generalize hn2 : l2.length = n2 at o2 LL ⊢
            have HL := Lib.hid hl2
            have HN := Lib.hid LL
            clear hl2 hn2
            have n2b : n2 ≤ 1000 := by omega
            clear LL
            have e1 : Below w3.heap.size w3 w12 := (((ya.trans (yb.mono (by simp))).trans (k1.mono (by omega))).trans (ka.mono (by have := k1.size; simp at this; omega))).trans (k2.mono (by omega))
            have e2 := e1.setCell (p := ⟨w3.heap.size, 1, none⟩) (Nat.le_refl _) (.slice A2 n2 c2)
            have y0 := Y4.cell 0; have y1 := Y4.cell 1; have y2 := Y4.cell 2; have y3 := Y4.cell 3; have yf := Y4.frozen 1
            try simp at y0 y1 y2 y3
            have Y5 : Blk (w12.setCell ⟨w3.heap.size, 1, none⟩ (.slice A2 n2 c2)) w3.heap.size 25 #[.int .i64 b, .slice A2 n2 c2, .slice A' n' c', .int .i64 f] := by have := Y4.set_ 1 (.slice A2 n2 c2); simpa using this
            have Z5 := Z4.far (p := ⟨w3.heap.size, 1, none⟩) (by simp; omega) (.slice A2 n2 c2)
            have o5 := o2.set_ Y4 (by decide) 1 (.slice A2 n2 c2)
            go_wp2_with fail
            have ba' := (ba.trans (b3.mono (by simp))).trans (e2.mono (by have := b3.size; simp at this; omega))
            have hz2 := hz0.below (b3.trans (e2.mono b3.size))
            generalize w12.setCell ⟨w3.heap.size, 1, none⟩ (.slice A2 n2 c2) = w13 at *
            have hy0 : ZnAt w13 A2 n2 A' n' l2 ys := ⟨o5.shAt.1, hz2.yr, by omega, yn⟩
            clear y0 y1 y2 y3 yf Y4 Z4 o2 o5 e1 e2 k2 ka k1 ya yb o1 hz1 bs Y2 Z2 t1 t2 Y1 Z1 o0 Y3 Z3 o1' ks
            clear ba hz0 Z
            have ba := ba'; have hz0 := hz2; have Z := Z5; have Y := Y5
            clear ba' hz2 Z5 Y5
            have d0 := Below.refl w13.heap.size w13
            have lZ := Z.lt
            have Zc0 := Z.cell 0
            have Zc1 := Z.cell 1
            have Zc2 := Z.cell 2
            have Zc3 := Z.cell 3
            try simp at Zc0 Zc1 Zc2 Zc3
            have lY := Y.lt
            have Yc0 := Y.cell 0
            have Yc1 := Y.cell 1
            have Yc2 := Y.cell 2
            have Yc3 := Y.cell 3
            try simp at Yc0 Yc1 Yc2 Yc3
            have HY : Hid (mayB b l2 ys f = false) := by rw [← HL.out]; exact HY'
            go_wp2_with fail
            refine (zMay_own _ b f A2 A' n2 c2 n' c' l2 ys _ HY.out (hy0.below d0)).mono ?_
            rintro e w21 ⟨rfl, h21⟩
            have b21 := d0.trans (h21.mono d0.size)
            replace Z := Z.below h21 Z.lt
            clear lZ Zc0 Zc1 Zc2 Zc3
            have lZ := Z.lt
            have Zc0 := Z.cell 0
            have Zc1 := Z.cell 1
            have Zc2 := Z.cell 2
            have Zc3 := Z.cell 3
            try simp at Zc0 Zc1 Zc2 Zc3
            replace Y := Y.below h21 Y.lt
            clear lY Yc0 Yc1 Yc2 Yc3
            have lY := Y.lt
            have Yc0 := Y.cell 0
            have Yc1 := Y.cell 1
            have Yc2 := Y.cell 2
            have Yc3 := Y.cell 3
            try simp at Yc0 Yc1 Yc2 Yc3
            go_wp2_with fail
            refine (first_own _ (tab_on (tab_on ht ba) b21)).mono ?_
            rintro e w22 ⟨rfl, h22⟩
            have b22 := b21.trans (h22.mono b21.size)
            replace Z := Z.below h22 Z.lt
            clear lZ Zc0 Zc1 Zc2 Zc3
            have lZ := Z.lt
            have Zc0 := Z.cell 0
            have Zc1 := Z.cell 1
            have Zc2 := Z.cell 2
            have Zc3 := Z.cell 3
            try simp at Zc0 Zc1 Zc2 Zc3
            replace Y := Y.below h22 Y.lt
            clear lY Yc0 Yc1 Yc2 Yc3
            have lY := Y.lt
            have Yc0 := Y.cell 0
            have Yc1 := Y.cell 1
            have Yc2 := Y.cell 2
            have Yc3 := Y.cell 3
            try simp at Yc0 Yc1 Yc2 Yc3
            go_wp2
            go_ret
            exact ⟨rfl, ba.trans (b22.mono ba.size)⟩
          · have HY' := Lib.hid h'
            have q9 := (mem_may (may_of h').2.2.1 (s := ⟨p, q⟩) (by simp))
            obtain ⟨p3, p4⟩ := mayT_of q9.1
            obtain ⟨q3, q4⟩ := offB_of q9.2
            have SM' := Lib.hid (show sameB b f l ys b f (l ++ [⟨p, q⟩]) ys = false from decide_eq_false (fun k => by have := congrArg List.length k.2.1; simp at this))
            by_cases hp : p ≤ u
            · have eb : befR b (l ++ [⟨p, q⟩]) ys f u = some ⟨p, q⟩ := by rw [befR_eq h' hu, y0', bef_more, if_pos hp]
              have EB' := Lib.hid eb
              have EO' := Lib.hid (show offR b (l ++ [⟨p, q⟩]) ys f u = q from by rw [offR_eq h' hu]; unfold ofs; rw [y0', bef_more, if_pos hp])
              have dp : decide (u < p) = false := decide_eq_false (by omega)
              clear h h' hu y0' bd q9 eb
              have lZ := Z.lt
              have Zc0 := Z.cell 0
              have Zc1 := Z.cell 1
              have Zc2 := Z.cell 2
              have Zc3 := Z.cell 3
              try simp at Zc0 Zc1 Zc2 Zc3
              go_enter Try.func10, Try.ntmps10
              go_wp2_with fail
              refine (first_own _ (tab_on (tab_on ht ba) b0)).mono ?_
              rintro e w1 ⟨rfl, h1⟩
              have b1 := b0.trans (h1.mono b0.size)
              replace Z := Z.below h1 Z.lt
              clear lZ Zc0 Zc1 Zc2 Zc3
              have lZ := Z.lt
              have Zc0 := Z.cell 0
              have Zc1 := Z.cell 1
              have Zc2 := Z.cell 2
              have Zc3 := Z.cell 3
              try simp at Zc0 Zc1 Zc2 Zc3
              go_wp2_with fail
              refine (few_is _ _ _ _ _ _ _ _ _ _ FW.out).mono ?_
              rintro e w2 ⟨rfl, h2⟩
              have b2 := b1.trans (h2.mono b1.size)
              replace Z := Z.below h2 Z.lt
              clear lZ Zc0 Zc1 Zc2 Zc3
              have lZ := Z.lt
              have Zc0 := Z.cell 0
              have Zc1 := Z.cell 1
              have Zc2 := Z.cell 2
              have Zc3 := Z.cell 3
              try simp at Zc0 Zc1 Zc2 Zc3
              go_wp2_with fail
              refine (zMay_own _ b f A A' n c n' c' l ys _ H.out (hz0.below b2)).mono ?_
              rintro e w3 ⟨rfl, h3⟩
              have b3 := b2.trans (h3.mono b2.size)
              replace Z := Z.below h3 Z.lt
              clear lZ Zc0 Zc1 Zc2 Zc3
              have lZ := Z.lt
              have Zc0 := Z.cell 0
              have Zc1 := Z.cell 1
              have Zc2 := Z.cell 2
              have Zc3 := Z.cell 3
              try simp at Zc0 Zc1 Zc2 Zc3
              go_wp2_with fail
              refine (mayS_yes _ _ HU.out).mono ?_
              rintro e _ ⟨rfl, rfl⟩
              have Y := Blk.new w3 25 #[.int .i64 b, .slice A n c, .slice A' n' c', .int .i64 f]
              have ya := (Below.refl _ _).alloc (Nat.le_refl _) (.cells #[.int .i64 b, .slice A n c, .slice A' n' c', .int .i64 f] 25) (w := w3)
              have yb := (Below.refl _ _).alloc (Nat.le_refl _) (.cells #[] 29) (w := w3.alloc (.cells #[.int .i64 b, .slice A n c, .slice A' n' c', .int .i64 f] 25))
              have Y1 := Y.alloc (.cells #[] 29)
              have Z1 := (Z.below ya Z.lt).below yb (by simp; omega)
              have o0 := OwnS.nilLit (B := w3.heap.size + 1) (w3.alloc (.cells #[.int .i64 b, .slice A n c, .slice A' n' c', .int .i64 f] 25)) (by simp)
              have bs := (b3.trans (ya.mono b3.size)).trans (yb.mono (by have := b3.size; simp at this ⊢; omega))
              have hz1 := hz0.below bs
              simp only [World.size_alloc] at o0
              go_wp2_with (at_builtin; refine append_sh rfl _ _ rfl _ [] rfl o0 (by simp) A n c l rfl hz1.sh hcn (by simp; omega) ?_)
              intro v1 w11 o1 k1 t1
              have Y2 := t1 _ _ _ Y1 (by decide)
              have Z2 := t1 _ _ _ Z1 (by decide)
              have ka := (Below.refl _ _).alloc (Nat.le_refl _) (.cells #[.int .i64 p, .int .i64 q] 29) (w := w11)
              have Y3 := Y2.below ka Y2.lt
              have Z3 := Z2.below ka Z2.lt
              have o1' : OwnS (w3.heap.size + 1) (w11.alloc (.cells #[.int .i64 p, .int .i64 q] 29)) v1 ([] ++ l) := World.ownsRow.alloc o1 _
              have ks := k1.size
              simp only [World.size_alloc] at ks
              go_wp2_with (at_builtin; refine append_sh rfl _ _ rfl _ ([] ++ l) rfl o1' (by simp; omega) _ 1 1 [⟨p, q⟩] rfl (one_at _ ⟨p, q⟩) (fun h => by cases h) (by simp; omega) ?_)
              intro v2 w12 o2 k2 t2
              have Y4 := t2 _ _ _ Y3 (by decide)
              have Z4 := t2 _ _ _ Z3 (by decide)
              generalize hl2 : l ++ [⟨p, q⟩] = l2 at o2
              obtain ⟨A2, c2, rfl, _, _⟩ := o2.form
              have LL : l2.length = n + 1 := by rw [← hl2, hs.1]; simp
              generalize hn2 : l2.length = n2 at o2 LL ⊢
              have HL := Lib.hid hl2
              have HN := Lib.hid LL
              clear hl2 hn2
              have n2b : n2 ≤ 1000 := by omega
              clear LL
              have e1 : Below w3.heap.size w3 w12 := (((ya.trans (yb.mono (by simp))).trans (k1.mono (by omega))).trans (ka.mono (by have := k1.size; simp at this; omega))).trans (k2.mono (by omega))
              have e2 := e1.setCell (p := ⟨w3.heap.size, 1, none⟩) (Nat.le_refl _) (.slice A2 n2 c2)
              have y0 := Y4.cell 0; have y1 := Y4.cell 1; have y2 := Y4.cell 2; have y3 := Y4.cell 3; have yf := Y4.frozen 1
              try simp at y0 y1 y2 y3
              have Y5 : Blk (w12.setCell ⟨w3.heap.size, 1, none⟩ (.slice A2 n2 c2)) w3.heap.size 25 #[.int .i64 b, .slice A2 n2 c2, .slice A' n' c', .int .i64 f] := by have := Y4.set_ 1 (.slice A2 n2 c2); simpa using this
              have Z5 := Z4.far (p := ⟨w3.heap.size, 1, none⟩) (by simp; omega) (.slice A2 n2 c2)
              have o5 := o2.set_ Y4 (by decide) 1 (.slice A2 n2 c2)
              go_wp2_with fail
              have ba' := (ba.trans (b3.mono (by simp))).trans (e2.mono (by have := b3.size; simp at this; omega))
              have hz2 := hz0.below (b3.trans (e2.mono b3.size))
              generalize w12.setCell ⟨w3.heap.size, 1, none⟩ (.slice A2 n2 c2) = w13 at *
              have hy0 : ZnAt w13 A2 n2 A' n' l2 ys := ⟨o5.shAt.1, hz2.yr, by omega, yn⟩
              clear y0 y1 y2 y3 yf Y4 Z4 o2 o5 e1 e2 k2 ka k1 ya yb o1 hz1 bs Y2 Z2 t1 t2 Y1 Z1 o0 Y3 Z3 o1' ks
              clear ba hz0 Z
              have ba := ba'; have hz0 := hz2; have Z := Z5; have Y := Y5
              clear ba' hz2 Z5 Y5
              have d0 := Below.refl w13.heap.size w13
              have lZ := Z.lt
              have Zc0 := Z.cell 0
              have Zc1 := Z.cell 1
              have Zc2 := Z.cell 2
              have Zc3 := Z.cell 3
              try simp at Zc0 Zc1 Zc2 Zc3
              have lY := Y.lt
              have Yc0 := Y.cell 0
              have Yc1 := Y.cell 1
              have Yc2 := Y.cell 2
              have Yc3 := Y.cell 3
              try simp at Yc0 Yc1 Yc2 Yc3
              have HY := HL.out ▸ HY'; have EB := HL.out ▸ EB'; have EO := HL.out ▸ EO'; have SM := HL.out ▸ SM'
              go_wp2_with fail
              refine (zMay_own _ b f A2 A' n2 c2 n' c' l2 ys _ HY.out (hy0.below d0)).mono ?_
              rintro e w21 ⟨rfl, h21⟩
              have b21 := d0.trans (h21.mono d0.size)
              replace Z := Z.below h21 Z.lt
              clear lZ Zc0 Zc1 Zc2 Zc3
              have lZ := Z.lt
              have Zc0 := Z.cell 0
              have Zc1 := Z.cell 1
              have Zc2 := Z.cell 2
              have Zc3 := Z.cell 3
              try simp at Zc0 Zc1 Zc2 Zc3
              replace Y := Y.below h21 Y.lt
              clear lY Yc0 Yc1 Yc2 Yc3
              have lY := Y.lt
              have Yc0 := Y.cell 0
              have Yc1 := Y.cell 1
              have Yc2 := Y.cell 2
              have Yc3 := Y.cell 3
              try simp at Yc0 Yc1 Yc2 Yc3
              go_wp2_with fail
              refine (Before_some _ b f A2 A' n2 c2 n' c' l2 ys _ _ EB.out (hy0.below b21)).mono ?_
              rintro e w22 ⟨rfl, h22⟩
              have b22 := b21.trans (h22.mono b21.size)
              replace Z := Z.below h22 Z.lt
              clear lZ Zc0 Zc1 Zc2 Zc3
              have lZ := Z.lt
              have Zc0 := Z.cell 0
              have Zc1 := Z.cell 1
              have Zc2 := Z.cell 2
              have Zc3 := Z.cell 3
              try simp at Zc0 Zc1 Zc2 Zc3
              replace Y := Y.below h22 Y.lt
              clear lY Yc0 Yc1 Yc2 Yc3
              have lY := Y.lt
              have Yc0 := Y.cell 0
              have Yc1 := Y.cell 1
              have Yc2 := Y.cell 2
              have Yc3 := Y.cell 3
              try simp at Yc0 Yc1 Yc2 Yc3
              have S := Blk.new w22 29 #[.int .i64 p, .int .i64 q]
              have a23 := (Below.refl _ _).alloc (Nat.le_refl _) (.cells #[.int .i64 p, .int .i64 q] 29) (w := w22)
              have b23 := b22.trans (a23.mono b22.size)
              replace Z := Z.below a23 Z.lt
              clear lZ Zc0 Zc1 Zc2 Zc3
              have lZ := Z.lt
              have Zc0 := Z.cell 0
              have Zc1 := Z.cell 1
              have Zc2 := Z.cell 2
              have Zc3 := Z.cell 3
              try simp at Zc0 Zc1 Zc2 Zc3
              replace Y := Y.below a23 Y.lt
              clear lY Yc0 Yc1 Yc2 Yc3
              have lY := Y.lt
              have Yc0 := Y.cell 0
              have Yc1 := Y.cell 1
              have Yc2 := Y.cell 2
              have Yc3 := Y.cell 3
              try simp at Yc0 Yc1 Yc2 Yc3
              have lS := S.lt
              have Sc0 := S.cell 0
              have Sc1 := S.cell 1
              try simp at Sc0 Sc1
              go_wp2_with fail
              refine (first_own _ (tab_on (tab_on ht ba) b23)).mono ?_
              rintro e w24 ⟨rfl, h24⟩
              have b24 := b23.trans (h24.mono b23.size)
              replace Z := Z.below h24 Z.lt
              clear lZ Zc0 Zc1 Zc2 Zc3
              have lZ := Z.lt
              have Zc0 := Z.cell 0
              have Zc1 := Z.cell 1
              have Zc2 := Z.cell 2
              have Zc3 := Z.cell 3
              try simp at Zc0 Zc1 Zc2 Zc3
              replace Y := Y.below h24 Y.lt
              clear lY Yc0 Yc1 Yc2 Yc3
              have lY := Y.lt
              have Yc0 := Y.cell 0
              have Yc1 := Y.cell 1
              have Yc2 := Y.cell 2
              have Yc3 := Y.cell 3
              try simp at Yc0 Yc1 Yc2 Yc3
              replace S := S.below h24 S.lt
              clear lS Sc0 Sc1
              have lS := S.lt
              have Sc0 := S.cell 0
              have Sc1 := S.cell 1
              try simp at Sc0 Sc1
              go_wp2_with fail
              refine (Offset_is _ b f A2 A' n2 c2 n' c' l2 ys _ _ EO.out (hy0.below b24)).mono ?_
              rintro e w25 ⟨rfl, h25⟩
              have b25 := b24.trans (h25.mono b24.size)
              replace Z := Z.below h25 Z.lt
              clear lZ Zc0 Zc1 Zc2 Zc3
              have lZ := Z.lt
              have Zc0 := Z.cell 0
              have Zc1 := Z.cell 1
              have Zc2 := Z.cell 2
              have Zc3 := Z.cell 3
              try simp at Zc0 Zc1 Zc2 Zc3
              replace Y := Y.below h25 Y.lt
              clear lY Yc0 Yc1 Yc2 Yc3
              have lY := Y.lt
              have Yc0 := Y.cell 0
              have Yc1 := Y.cell 1
              have Yc2 := Y.cell 2
              have Yc3 := Y.cell 3
              try simp at Yc0 Yc1 Yc2 Yc3
              replace S := S.below h25 S.lt
              clear lS Sc0 Sc1
              have lS := S.lt
              have Sc0 := S.cell 0
              have Sc1 := S.cell 1
              try simp at Sc0 Sc1
              go_wp2_with fail
              refine (Same_is _ b f b f A A' A2 A' n c n' c' n2 c2 n' c' l l2 ys ys _ SM.out (hz0.below b25) (hy0.below b25)).mono ?_
              rintro e w26 ⟨rfl, h26⟩
              have b26 := b25.trans (h26.mono b25.size)
              replace Z := Z.below h26 Z.lt
              clear lZ Zc0 Zc1 Zc2 Zc3
              have lZ := Z.lt
              have Zc0 := Z.cell 0
              have Zc1 := Z.cell 1
              have Zc2 := Z.cell 2
              have Zc3 := Z.cell 3
              try simp at Zc0 Zc1 Zc2 Zc3
              replace Y := Y.below h26 Y.lt
              clear lY Yc0 Yc1 Yc2 Yc3
              have lY := Y.lt
              have Yc0 := Y.cell 0
              have Yc1 := Y.cell 1
              have Yc2 := Y.cell 2
              have Yc3 := Y.cell 3
              try simp at Yc0 Yc1 Yc2 Yc3
              replace S := S.below h26 S.lt
              clear lS Sc0 Sc1
              have lS := S.lt
              have Sc0 := S.cell 0
              have Sc1 := S.cell 1
              try simp at Sc0 Sc1
              go_wp2
              go_ret
              exact ⟨rfl, ba.trans (b26.mono ba.size)⟩
            · have hp' : u < p := by omega
              have eo : ∀ x, bef l ys f u = x → bef (l ++ [⟨p, q⟩]) ys f u = x := fun x hx => by rw [y0', bef_more, if_neg hp, ← y0']; exact hx
              cases hx : bef l ys f u with
              | none =>
                have EB' := Lib.hid (show befR b (l ++ [⟨p, q⟩]) ys f u = none from by rw [befR_eq h' hu]; exact eo _ hx)
                have EO' := Lib.hid (show offR b (l ++ [⟨p, q⟩]) ys f u = b from by rw [offR_eq h' hu]; unfold ofs; rw [eo _ hx])
                have EZ := Lib.hid (show offR b l ys f u = b from by rw [offR_eq h hu]; unfold ofs; rw [hx])
                clear h h' hu y0' bd q9 hp eo hx
                have lZ := Z.lt
                have Zc0 := Z.cell 0
                have Zc1 := Z.cell 1
                have Zc2 := Z.cell 2
                have Zc3 := Z.cell 3
                try simp at Zc0 Zc1 Zc2 Zc3
                go_enter Try.func10, Try.ntmps10
                go_wp2_with fail
                refine (first_own _ (tab_on (tab_on ht ba) b0)).mono ?_
                rintro e w1 ⟨rfl, h1⟩
                have b1 := b0.trans (h1.mono b0.size)
                replace Z := Z.below h1 Z.lt
                clear lZ Zc0 Zc1 Zc2 Zc3
                have lZ := Z.lt
                have Zc0 := Z.cell 0
                have Zc1 := Z.cell 1
                have Zc2 := Z.cell 2
                have Zc3 := Z.cell 3
                try simp at Zc0 Zc1 Zc2 Zc3
                go_wp2_with fail
                refine (few_is _ _ _ _ _ _ _ _ _ _ FW.out).mono ?_
                rintro e w2 ⟨rfl, h2⟩
                have b2 := b1.trans (h2.mono b1.size)
                replace Z := Z.below h2 Z.lt
                clear lZ Zc0 Zc1 Zc2 Zc3
                have lZ := Z.lt
                have Zc0 := Z.cell 0
                have Zc1 := Z.cell 1
                have Zc2 := Z.cell 2
                have Zc3 := Z.cell 3
                try simp at Zc0 Zc1 Zc2 Zc3
                go_wp2_with fail
                refine (zMay_own _ b f A A' n c n' c' l ys _ H.out (hz0.below b2)).mono ?_
                rintro e w3 ⟨rfl, h3⟩
                have b3 := b2.trans (h3.mono b2.size)
                replace Z := Z.below h3 Z.lt
                clear lZ Zc0 Zc1 Zc2 Zc3
                have lZ := Z.lt
                have Zc0 := Z.cell 0
                have Zc1 := Z.cell 1
                have Zc2 := Z.cell 2
                have Zc3 := Z.cell 3
                try simp at Zc0 Zc1 Zc2 Zc3
                go_wp2_with fail
                refine (mayS_yes _ _ HU.out).mono ?_
                rintro e _ ⟨rfl, rfl⟩
                have Y := Blk.new w3 25 #[.int .i64 b, .slice A n c, .slice A' n' c', .int .i64 f]
                have ya := (Below.refl _ _).alloc (Nat.le_refl _) (.cells #[.int .i64 b, .slice A n c, .slice A' n' c', .int .i64 f] 25) (w := w3)
                have yb := (Below.refl _ _).alloc (Nat.le_refl _) (.cells #[] 29) (w := w3.alloc (.cells #[.int .i64 b, .slice A n c, .slice A' n' c', .int .i64 f] 25))
                have Y1 := Y.alloc (.cells #[] 29)
                have Z1 := (Z.below ya Z.lt).below yb (by simp; omega)
                have o0 := OwnS.nilLit (B := w3.heap.size + 1) (w3.alloc (.cells #[.int .i64 b, .slice A n c, .slice A' n' c', .int .i64 f] 25)) (by simp)
                have bs := (b3.trans (ya.mono b3.size)).trans (yb.mono (by have := b3.size; simp at this ⊢; omega))
                have hz1 := hz0.below bs
                simp only [World.size_alloc] at o0
                go_wp2_with (at_builtin; refine append_sh rfl _ _ rfl _ [] rfl o0 (by simp) A n c l rfl hz1.sh hcn (by simp; omega) ?_)
                intro v1 w11 o1 k1 t1
                have Y2 := t1 _ _ _ Y1 (by decide)
                have Z2 := t1 _ _ _ Z1 (by decide)
                have ka := (Below.refl _ _).alloc (Nat.le_refl _) (.cells #[.int .i64 p, .int .i64 q] 29) (w := w11)
                have Y3 := Y2.below ka Y2.lt
                have Z3 := Z2.below ka Z2.lt
                have o1' : OwnS (w3.heap.size + 1) (w11.alloc (.cells #[.int .i64 p, .int .i64 q] 29)) v1 ([] ++ l) := World.ownsRow.alloc o1 _
                have ks := k1.size
                simp only [World.size_alloc] at ks
                go_wp2_with (at_builtin; refine append_sh rfl _ _ rfl _ ([] ++ l) rfl o1' (by simp; omega) _ 1 1 [⟨p, q⟩] rfl (one_at _ ⟨p, q⟩) (fun h => by cases h) (by simp; omega) ?_)
                intro v2 w12 o2 k2 t2
                have Y4 := t2 _ _ _ Y3 (by decide)
                have Z4 := t2 _ _ _ Z3 (by decide)
                generalize hl2 : l ++ [⟨p, q⟩] = l2 at o2
                obtain ⟨A2, c2, rfl, _, _⟩ := o2.form
                have LL : l2.length = n + 1 := by rw [← hl2, hs.1]; simp
                generalize hn2 : l2.length = n2 at o2 LL ⊢
                have HL := Lib.hid hl2
                have HN := Lib.hid LL
                clear hl2 hn2
                have n2b : n2 ≤ 1000 := by omega
                clear LL
                have e1 : Below w3.heap.size w3 w12 := (((ya.trans (yb.mono (by simp))).trans (k1.mono (by omega))).trans (ka.mono (by have := k1.size; simp at this; omega))).trans (k2.mono (by omega))
                have e2 := e1.setCell (p := ⟨w3.heap.size, 1, none⟩) (Nat.le_refl _) (.slice A2 n2 c2)
                have y0 := Y4.cell 0; have y1 := Y4.cell 1; have y2 := Y4.cell 2; have y3 := Y4.cell 3; have yf := Y4.frozen 1
                try simp at y0 y1 y2 y3
                have Y5 : Blk (w12.setCell ⟨w3.heap.size, 1, none⟩ (.slice A2 n2 c2)) w3.heap.size 25 #[.int .i64 b, .slice A2 n2 c2, .slice A' n' c', .int .i64 f] := by have := Y4.set_ 1 (.slice A2 n2 c2); simpa using this
                have Z5 := Z4.far (p := ⟨w3.heap.size, 1, none⟩) (by simp; omega) (.slice A2 n2 c2)
                have o5 := o2.set_ Y4 (by decide) 1 (.slice A2 n2 c2)
                go_wp2_with fail
                have ba' := (ba.trans (b3.mono (by simp))).trans (e2.mono (by have := b3.size; simp at this; omega))
                have hz2 := hz0.below (b3.trans (e2.mono b3.size))
                generalize w12.setCell ⟨w3.heap.size, 1, none⟩ (.slice A2 n2 c2) = w13 at *
                have hy0 : ZnAt w13 A2 n2 A' n' l2 ys := ⟨o5.shAt.1, hz2.yr, by omega, yn⟩
                clear y0 y1 y2 y3 yf Y4 Z4 o2 o5 e1 e2 k2 ka k1 ya yb o1 hz1 bs Y2 Z2 t1 t2 Y1 Z1 o0 Y3 Z3 o1' ks
                clear ba hz0 Z
                have ba := ba'; have hz0 := hz2; have Z := Z5; have Y := Y5
                clear ba' hz2 Z5 Y5
                have d0 := Below.refl w13.heap.size w13
                have lZ := Z.lt
                have Zc0 := Z.cell 0
                have Zc1 := Z.cell 1
                have Zc2 := Z.cell 2
                have Zc3 := Z.cell 3
                try simp at Zc0 Zc1 Zc2 Zc3
                have lY := Y.lt
                have Yc0 := Y.cell 0
                have Yc1 := Y.cell 1
                have Yc2 := Y.cell 2
                have Yc3 := Y.cell 3
                try simp at Yc0 Yc1 Yc2 Yc3
                have HY := HL.out ▸ HY'; have EB := HL.out ▸ EB'; have EO := HL.out ▸ EO'; have SM := HL.out ▸ SM'
                go_wp2_with fail
                refine (zMay_own _ b f A2 A' n2 c2 n' c' l2 ys _ HY.out (hy0.below d0)).mono ?_
                rintro e w21 ⟨rfl, h21⟩
                have b21 := d0.trans (h21.mono d0.size)
                replace Z := Z.below h21 Z.lt
                clear lZ Zc0 Zc1 Zc2 Zc3
                have lZ := Z.lt
                have Zc0 := Z.cell 0
                have Zc1 := Z.cell 1
                have Zc2 := Z.cell 2
                have Zc3 := Z.cell 3
                try simp at Zc0 Zc1 Zc2 Zc3
                replace Y := Y.below h21 Y.lt
                clear lY Yc0 Yc1 Yc2 Yc3
                have lY := Y.lt
                have Yc0 := Y.cell 0
                have Yc1 := Y.cell 1
                have Yc2 := Y.cell 2
                have Yc3 := Y.cell 3
                try simp at Yc0 Yc1 Yc2 Yc3
                go_wp2_with fail
                refine (Offset_is _ b f A A' n c n' c' l ys _ _ EZ.out (hz0.below b21)).mono ?_
                rintro e w22 ⟨rfl, h22⟩
                have b22 := b21.trans (h22.mono b21.size)
                replace Z := Z.below h22 Z.lt
                clear lZ Zc0 Zc1 Zc2 Zc3
                have lZ := Z.lt
                have Zc0 := Z.cell 0
                have Zc1 := Z.cell 1
                have Zc2 := Z.cell 2
                have Zc3 := Z.cell 3
                try simp at Zc0 Zc1 Zc2 Zc3
                replace Y := Y.below h22 Y.lt
                clear lY Yc0 Yc1 Yc2 Yc3
                have lY := Y.lt
                have Yc0 := Y.cell 0
                have Yc1 := Y.cell 1
                have Yc2 := Y.cell 2
                have Yc3 := Y.cell 3
                try simp at Yc0 Yc1 Yc2 Yc3
                go_wp2_with fail
                refine (Before_none _ b f A2 A' n2 c2 n' c' l2 ys _ EB.out (hy0.below b22)).mono ?_
                rintro e w23 ⟨rfl, h23⟩
                have b23 := b22.trans (h23.mono b22.size)
                replace Z := Z.below h23 Z.lt
                clear lZ Zc0 Zc1 Zc2 Zc3
                have lZ := Z.lt
                have Zc0 := Z.cell 0
                have Zc1 := Z.cell 1
                have Zc2 := Z.cell 2
                have Zc3 := Z.cell 3
                try simp at Zc0 Zc1 Zc2 Zc3
                replace Y := Y.below h23 Y.lt
                clear lY Yc0 Yc1 Yc2 Yc3
                have lY := Y.lt
                have Yc0 := Y.cell 0
                have Yc1 := Y.cell 1
                have Yc2 := Y.cell 2
                have Yc3 := Y.cell 3
                try simp at Yc0 Yc1 Yc2 Yc3
                have S := Blk.new w23 29 #[.int .i64 0, .int .i64 0]
                have a24 := (Below.refl _ _).alloc (Nat.le_refl _) (.cells #[.int .i64 0, .int .i64 0] 29) (w := w23)
                have b24 := b23.trans (a24.mono b23.size)
                replace Z := Z.below a24 Z.lt
                clear lZ Zc0 Zc1 Zc2 Zc3
                have lZ := Z.lt
                have Zc0 := Z.cell 0
                have Zc1 := Z.cell 1
                have Zc2 := Z.cell 2
                have Zc3 := Z.cell 3
                try simp at Zc0 Zc1 Zc2 Zc3
                replace Y := Y.below a24 Y.lt
                clear lY Yc0 Yc1 Yc2 Yc3
                have lY := Y.lt
                have Yc0 := Y.cell 0
                have Yc1 := Y.cell 1
                have Yc2 := Y.cell 2
                have Yc3 := Y.cell 3
                try simp at Yc0 Yc1 Yc2 Yc3
                have lS := S.lt
                have Sc0 := S.cell 0
                have Sc1 := S.cell 1
                try simp at Sc0 Sc1
                go_wp2_with fail
                refine (first_own _ (tab_on (tab_on ht ba) b24)).mono ?_
                rintro e w25 ⟨rfl, h25⟩
                have b25 := b24.trans (h25.mono b24.size)
                replace Z := Z.below h25 Z.lt
                clear lZ Zc0 Zc1 Zc2 Zc3
                have lZ := Z.lt
                have Zc0 := Z.cell 0
                have Zc1 := Z.cell 1
                have Zc2 := Z.cell 2
                have Zc3 := Z.cell 3
                try simp at Zc0 Zc1 Zc2 Zc3
                replace Y := Y.below h25 Y.lt
                clear lY Yc0 Yc1 Yc2 Yc3
                have lY := Y.lt
                have Yc0 := Y.cell 0
                have Yc1 := Y.cell 1
                have Yc2 := Y.cell 2
                have Yc3 := Y.cell 3
                try simp at Yc0 Yc1 Yc2 Yc3
                replace S := S.below h25 S.lt
                clear lS Sc0 Sc1
                have lS := S.lt
                have Sc0 := S.cell 0
                have Sc1 := S.cell 1
                try simp at Sc0 Sc1
                go_wp2_with fail
                refine (Offset_is _ b f A2 A' n2 c2 n' c' l2 ys _ _ EO.out (hy0.below b25)).mono ?_
                rintro e w26 ⟨rfl, h26⟩
                have b26 := b25.trans (h26.mono b25.size)
                replace Z := Z.below h26 Z.lt
                clear lZ Zc0 Zc1 Zc2 Zc3
                have lZ := Z.lt
                have Zc0 := Z.cell 0
                have Zc1 := Z.cell 1
                have Zc2 := Z.cell 2
                have Zc3 := Z.cell 3
                try simp at Zc0 Zc1 Zc2 Zc3
                replace Y := Y.below h26 Y.lt
                clear lY Yc0 Yc1 Yc2 Yc3
                have lY := Y.lt
                have Yc0 := Y.cell 0
                have Yc1 := Y.cell 1
                have Yc2 := Y.cell 2
                have Yc3 := Y.cell 3
                try simp at Yc0 Yc1 Yc2 Yc3
                replace S := S.below h26 S.lt
                clear lS Sc0 Sc1
                have lS := S.lt
                have Sc0 := S.cell 0
                have Sc1 := S.cell 1
                try simp at Sc0 Sc1
                go_wp2_with fail
                refine (Same_is _ b f b f A A' A2 A' n c n' c' n2 c2 n' c' l l2 ys ys _ SM.out (hz0.below b26) (hy0.below b26)).mono ?_
                rintro e w27 ⟨rfl, h27⟩
                have b27 := b26.trans (h27.mono b26.size)
                replace Z := Z.below h27 Z.lt
                clear lZ Zc0 Zc1 Zc2 Zc3
                have lZ := Z.lt
                have Zc0 := Z.cell 0
                have Zc1 := Z.cell 1
                have Zc2 := Z.cell 2
                have Zc3 := Z.cell 3
                try simp at Zc0 Zc1 Zc2 Zc3
                replace Y := Y.below h27 Y.lt
                clear lY Yc0 Yc1 Yc2 Yc3
                have lY := Y.lt
                have Yc0 := Y.cell 0
                have Yc1 := Y.cell 1
                have Yc2 := Y.cell 2
                have Yc3 := Y.cell 3
                try simp at Yc0 Yc1 Yc2 Yc3
                replace S := S.below h27 S.lt
                clear lS Sc0 Sc1
                have lS := S.lt
                have Sc0 := S.cell 0
                have Sc1 := S.cell 1
                try simp at Sc0 Sc1
                go_wp2
                go_ret
                exact ⟨rfl, ba.trans (b27.mono ba.size)⟩
              | some s =>
                have EB' := Lib.hid (show befR b (l ++ [⟨p, q⟩]) ys f u = some s from by rw [befR_eq h' hu]; exact eo _ hx)
                have EO' := Lib.hid (show offR b (l ++ [⟨p, q⟩]) ys f u = s.o from by rw [offR_eq h' hu]; unfold ofs; rw [eo _ hx])
                have EZ := Lib.hid (show offR b l ys f u = s.o from by rw [offR_eq h hu]; unfold ofs; rw [hx])
                clear h h' hu y0' bd q9 hp eo hx
                have lZ := Z.lt
                have Zc0 := Z.cell 0
                have Zc1 := Z.cell 1
                have Zc2 := Z.cell 2
                have Zc3 := Z.cell 3
                try simp at Zc0 Zc1 Zc2 Zc3
                go_enter Try.func10, Try.ntmps10
                go_wp2_with fail
                refine (first_own _ (tab_on (tab_on ht ba) b0)).mono ?_
                rintro e w1 ⟨rfl, h1⟩
                have b1 := b0.trans (h1.mono b0.size)
                replace Z := Z.below h1 Z.lt
                clear lZ Zc0 Zc1 Zc2 Zc3
                have lZ := Z.lt
                have Zc0 := Z.cell 0
                have Zc1 := Z.cell 1
                have Zc2 := Z.cell 2
                have Zc3 := Z.cell 3
                try simp at Zc0 Zc1 Zc2 Zc3
                go_wp2_with fail
                refine (few_is _ _ _ _ _ _ _ _ _ _ FW.out).mono ?_
                rintro e w2 ⟨rfl, h2⟩
                have b2 := b1.trans (h2.mono b1.size)
                replace Z := Z.below h2 Z.lt
                clear lZ Zc0 Zc1 Zc2 Zc3
                have lZ := Z.lt
                have Zc0 := Z.cell 0
                have Zc1 := Z.cell 1
                have Zc2 := Z.cell 2
                have Zc3 := Z.cell 3
                try simp at Zc0 Zc1 Zc2 Zc3
                go_wp2_with fail
                refine (zMay_own _ b f A A' n c n' c' l ys _ H.out (hz0.below b2)).mono ?_
                rintro e w3 ⟨rfl, h3⟩
                have b3 := b2.trans (h3.mono b2.size)
                replace Z := Z.below h3 Z.lt
                clear lZ Zc0 Zc1 Zc2 Zc3
                have lZ := Z.lt
                have Zc0 := Z.cell 0
                have Zc1 := Z.cell 1
                have Zc2 := Z.cell 2
                have Zc3 := Z.cell 3
                try simp at Zc0 Zc1 Zc2 Zc3
                go_wp2_with fail
                refine (mayS_yes _ _ HU.out).mono ?_
                rintro e _ ⟨rfl, rfl⟩
                have Y := Blk.new w3 25 #[.int .i64 b, .slice A n c, .slice A' n' c', .int .i64 f]
                have ya := (Below.refl _ _).alloc (Nat.le_refl _) (.cells #[.int .i64 b, .slice A n c, .slice A' n' c', .int .i64 f] 25) (w := w3)
                have yb := (Below.refl _ _).alloc (Nat.le_refl _) (.cells #[] 29) (w := w3.alloc (.cells #[.int .i64 b, .slice A n c, .slice A' n' c', .int .i64 f] 25))
                have Y1 := Y.alloc (.cells #[] 29)
                have Z1 := (Z.below ya Z.lt).below yb (by simp; omega)
                have o0 := OwnS.nilLit (B := w3.heap.size + 1) (w3.alloc (.cells #[.int .i64 b, .slice A n c, .slice A' n' c', .int .i64 f] 25)) (by simp)
                have bs := (b3.trans (ya.mono b3.size)).trans (yb.mono (by have := b3.size; simp at this ⊢; omega))
                have hz1 := hz0.below bs
                simp only [World.size_alloc] at o0
                go_wp2_with (at_builtin; refine append_sh rfl _ _ rfl _ [] rfl o0 (by simp) A n c l rfl hz1.sh hcn (by simp; omega) ?_)
                intro v1 w11 o1 k1 t1
                have Y2 := t1 _ _ _ Y1 (by decide)
                have Z2 := t1 _ _ _ Z1 (by decide)
                have ka := (Below.refl _ _).alloc (Nat.le_refl _) (.cells #[.int .i64 p, .int .i64 q] 29) (w := w11)
                have Y3 := Y2.below ka Y2.lt
                have Z3 := Z2.below ka Z2.lt
                have o1' : OwnS (w3.heap.size + 1) (w11.alloc (.cells #[.int .i64 p, .int .i64 q] 29)) v1 ([] ++ l) := World.ownsRow.alloc o1 _
                have ks := k1.size
                simp only [World.size_alloc] at ks
                go_wp2_with (at_builtin; refine append_sh rfl _ _ rfl _ ([] ++ l) rfl o1' (by simp; omega) _ 1 1 [⟨p, q⟩] rfl (one_at _ ⟨p, q⟩) (fun h => by cases h) (by simp; omega) ?_)
                intro v2 w12 o2 k2 t2
                have Y4 := t2 _ _ _ Y3 (by decide)
                have Z4 := t2 _ _ _ Z3 (by decide)
                generalize hl2 : l ++ [⟨p, q⟩] = l2 at o2
                obtain ⟨A2, c2, rfl, _, _⟩ := o2.form
                have LL : l2.length = n + 1 := by rw [← hl2, hs.1]; simp
                generalize hn2 : l2.length = n2 at o2 LL ⊢
                have HL := Lib.hid hl2
                have HN := Lib.hid LL
                clear hl2 hn2
                have n2b : n2 ≤ 1000 := by omega
                clear LL
                have e1 : Below w3.heap.size w3 w12 := (((ya.trans (yb.mono (by simp))).trans (k1.mono (by omega))).trans (ka.mono (by have := k1.size; simp at this; omega))).trans (k2.mono (by omega))
                have e2 := e1.setCell (p := ⟨w3.heap.size, 1, none⟩) (Nat.le_refl _) (.slice A2 n2 c2)
                have y0 := Y4.cell 0; have y1 := Y4.cell 1; have y2 := Y4.cell 2; have y3 := Y4.cell 3; have yf := Y4.frozen 1
                try simp at y0 y1 y2 y3
                have Y5 : Blk (w12.setCell ⟨w3.heap.size, 1, none⟩ (.slice A2 n2 c2)) w3.heap.size 25 #[.int .i64 b, .slice A2 n2 c2, .slice A' n' c', .int .i64 f] := by have := Y4.set_ 1 (.slice A2 n2 c2); simpa using this
                have Z5 := Z4.far (p := ⟨w3.heap.size, 1, none⟩) (by simp; omega) (.slice A2 n2 c2)
                have o5 := o2.set_ Y4 (by decide) 1 (.slice A2 n2 c2)
                go_wp2_with fail
                have ba' := (ba.trans (b3.mono (by simp))).trans (e2.mono (by have := b3.size; simp at this; omega))
                have hz2 := hz0.below (b3.trans (e2.mono b3.size))
                generalize w12.setCell ⟨w3.heap.size, 1, none⟩ (.slice A2 n2 c2) = w13 at *
                have hy0 : ZnAt w13 A2 n2 A' n' l2 ys := ⟨o5.shAt.1, hz2.yr, by omega, yn⟩
                clear y0 y1 y2 y3 yf Y4 Z4 o2 o5 e1 e2 k2 ka k1 ya yb o1 hz1 bs Y2 Z2 t1 t2 Y1 Z1 o0 Y3 Z3 o1' ks
                clear ba hz0 Z
                have ba := ba'; have hz0 := hz2; have Z := Z5; have Y := Y5
                clear ba' hz2 Z5 Y5
                have d0 := Below.refl w13.heap.size w13
                have lZ := Z.lt
                have Zc0 := Z.cell 0
                have Zc1 := Z.cell 1
                have Zc2 := Z.cell 2
                have Zc3 := Z.cell 3
                try simp at Zc0 Zc1 Zc2 Zc3
                have lY := Y.lt
                have Yc0 := Y.cell 0
                have Yc1 := Y.cell 1
                have Yc2 := Y.cell 2
                have Yc3 := Y.cell 3
                try simp at Yc0 Yc1 Yc2 Yc3
                have HY := HL.out ▸ HY'; have EB := HL.out ▸ EB'; have EO := HL.out ▸ EO'; have SM := HL.out ▸ SM'
                go_wp2_with fail
                refine (zMay_own _ b f A2 A' n2 c2 n' c' l2 ys _ HY.out (hy0.below d0)).mono ?_
                rintro e w21 ⟨rfl, h21⟩
                have b21 := d0.trans (h21.mono d0.size)
                replace Z := Z.below h21 Z.lt
                clear lZ Zc0 Zc1 Zc2 Zc3
                have lZ := Z.lt
                have Zc0 := Z.cell 0
                have Zc1 := Z.cell 1
                have Zc2 := Z.cell 2
                have Zc3 := Z.cell 3
                try simp at Zc0 Zc1 Zc2 Zc3
                replace Y := Y.below h21 Y.lt
                clear lY Yc0 Yc1 Yc2 Yc3
                have lY := Y.lt
                have Yc0 := Y.cell 0
                have Yc1 := Y.cell 1
                have Yc2 := Y.cell 2
                have Yc3 := Y.cell 3
                try simp at Yc0 Yc1 Yc2 Yc3
                go_wp2_with fail
                refine (Offset_is _ b f A A' n c n' c' l ys _ _ EZ.out (hz0.below b21)).mono ?_
                rintro e w22 ⟨rfl, h22⟩
                have b22 := b21.trans (h22.mono b21.size)
                replace Z := Z.below h22 Z.lt
                clear lZ Zc0 Zc1 Zc2 Zc3
                have lZ := Z.lt
                have Zc0 := Z.cell 0
                have Zc1 := Z.cell 1
                have Zc2 := Z.cell 2
                have Zc3 := Z.cell 3
                try simp at Zc0 Zc1 Zc2 Zc3
                replace Y := Y.below h22 Y.lt
                clear lY Yc0 Yc1 Yc2 Yc3
                have lY := Y.lt
                have Yc0 := Y.cell 0
                have Yc1 := Y.cell 1
                have Yc2 := Y.cell 2
                have Yc3 := Y.cell 3
                try simp at Yc0 Yc1 Yc2 Yc3
                go_wp2_with fail
                refine (Before_some _ b f A2 A' n2 c2 n' c' l2 ys _ _ EB.out (hy0.below b22)).mono ?_
                rintro e w23 ⟨rfl, h23⟩
                have b23 := b22.trans (h23.mono b22.size)
                replace Z := Z.below h23 Z.lt
                clear lZ Zc0 Zc1 Zc2 Zc3
                have lZ := Z.lt
                have Zc0 := Z.cell 0
                have Zc1 := Z.cell 1
                have Zc2 := Z.cell 2
                have Zc3 := Z.cell 3
                try simp at Zc0 Zc1 Zc2 Zc3
                replace Y := Y.below h23 Y.lt
                clear lY Yc0 Yc1 Yc2 Yc3
                have lY := Y.lt
                have Yc0 := Y.cell 0
                have Yc1 := Y.cell 1
                have Yc2 := Y.cell 2
                have Yc3 := Y.cell 3
                try simp at Yc0 Yc1 Yc2 Yc3
                have S := Blk.new w23 29 #[.int .i64 s.t, .int .i64 s.o]
                have a24 := (Below.refl _ _).alloc (Nat.le_refl _) (.cells #[.int .i64 s.t, .int .i64 s.o] 29) (w := w23)
                have b24 := b23.trans (a24.mono b23.size)
                replace Z := Z.below a24 Z.lt
                clear lZ Zc0 Zc1 Zc2 Zc3
                have lZ := Z.lt
                have Zc0 := Z.cell 0
                have Zc1 := Z.cell 1
                have Zc2 := Z.cell 2
                have Zc3 := Z.cell 3
                try simp at Zc0 Zc1 Zc2 Zc3
                replace Y := Y.below a24 Y.lt
                clear lY Yc0 Yc1 Yc2 Yc3
                have lY := Y.lt
                have Yc0 := Y.cell 0
                have Yc1 := Y.cell 1
                have Yc2 := Y.cell 2
                have Yc3 := Y.cell 3
                try simp at Yc0 Yc1 Yc2 Yc3
                have lS := S.lt
                have Sc0 := S.cell 0
                have Sc1 := S.cell 1
                try simp at Sc0 Sc1
                go_wp2_with fail
                refine (first_own _ (tab_on (tab_on ht ba) b24)).mono ?_
                rintro e w25 ⟨rfl, h25⟩
                have b25 := b24.trans (h25.mono b24.size)
                replace Z := Z.below h25 Z.lt
                clear lZ Zc0 Zc1 Zc2 Zc3
                have lZ := Z.lt
                have Zc0 := Z.cell 0
                have Zc1 := Z.cell 1
                have Zc2 := Z.cell 2
                have Zc3 := Z.cell 3
                try simp at Zc0 Zc1 Zc2 Zc3
                replace Y := Y.below h25 Y.lt
                clear lY Yc0 Yc1 Yc2 Yc3
                have lY := Y.lt
                have Yc0 := Y.cell 0
                have Yc1 := Y.cell 1
                have Yc2 := Y.cell 2
                have Yc3 := Y.cell 3
                try simp at Yc0 Yc1 Yc2 Yc3
                replace S := S.below h25 S.lt
                clear lS Sc0 Sc1
                have lS := S.lt
                have Sc0 := S.cell 0
                have Sc1 := S.cell 1
                try simp at Sc0 Sc1
                go_wp2_with fail
                refine (Offset_is _ b f A2 A' n2 c2 n' c' l2 ys _ _ EO.out (hy0.below b25)).mono ?_
                rintro e w26 ⟨rfl, h26⟩
                have b26 := b25.trans (h26.mono b25.size)
                replace Z := Z.below h26 Z.lt
                clear lZ Zc0 Zc1 Zc2 Zc3
                have lZ := Z.lt
                have Zc0 := Z.cell 0
                have Zc1 := Z.cell 1
                have Zc2 := Z.cell 2
                have Zc3 := Z.cell 3
                try simp at Zc0 Zc1 Zc2 Zc3
                replace Y := Y.below h26 Y.lt
                clear lY Yc0 Yc1 Yc2 Yc3
                have lY := Y.lt
                have Yc0 := Y.cell 0
                have Yc1 := Y.cell 1
                have Yc2 := Y.cell 2
                have Yc3 := Y.cell 3
                try simp at Yc0 Yc1 Yc2 Yc3
                replace S := S.below h26 S.lt
                clear lS Sc0 Sc1
                have lS := S.lt
                have Sc0 := S.cell 0
                have Sc1 := S.cell 1
                try simp at Sc0 Sc1
                go_wp2_with fail
                refine (Same_is _ b f b f A A' A2 A' n c n' c' n2 c2 n' c' l l2 ys ys _ SM.out (hz0.below b26) (hy0.below b26)).mono ?_
                rintro e w27 ⟨rfl, h27⟩
                have b27 := b26.trans (h27.mono b26.size)
                replace Z := Z.below h27 Z.lt
                clear lZ Zc0 Zc1 Zc2 Zc3
                have lZ := Z.lt
                have Zc0 := Z.cell 0
                have Zc1 := Z.cell 1
                have Zc2 := Z.cell 2
                have Zc3 := Z.cell 3
                try simp at Zc0 Zc1 Zc2 Zc3
                replace Y := Y.below h27 Y.lt
                clear lY Yc0 Yc1 Yc2 Yc3
                have lY := Y.lt
                have Yc0 := Y.cell 0
                have Yc1 := Y.cell 1
                have Yc2 := Y.cell 2
                have Yc3 := Y.cell 3
                try simp at Yc0 Yc1 Yc2 Yc3
                replace S := S.below h27 S.lt
                clear lS Sc0 Sc1
                have lS := S.lt
                have Sc0 := S.cell 0
                have Sc1 := S.cell 1
                try simp at Sc0 Sc1
                go_wp2
                go_ret
                exact ⟨rfl, ba.trans (b27.mono ba.size)⟩
end Go.Proofs.Ytegjcogindjogaa.Zn
