/- The walk of voklaw3's law ZoneAsks. -/
import Derived.Test.YtbinhnlajflndaaZnLaw0
import Derived.Test.YtbinhnlajflndaaZnRef3
import Derived.Test.YtbinhnlajflndaaZnZoneEq
set_option linter.unusedVariables false
namespace Go.Proofs.Ytbinhnlajflndaa.Zn
open Go.RowKit Cv St

theorem zoneEq_is (w : World) (b f d g : Int) (A A' B B' : Option Addr) (n c n' c' m e m' e' : Nat) (l k : List Sh) (ys xs : List Yr) (x : Bool) (hx : sameB b f l ys d g k xs = x) (hz : ZnAt w A n A' n' l ys) (hy : ZnAt w B m B' m' k xs) :
    Calls Try.prog 24 #[.agg #[.int .i64 b, .slice A n c, .slice A' n' c', .int .i64 f], .agg #[.int .i64 d, .slice B m e, .slice B' m' e', .int .i64 g]] w fun e w' => e = .returned (.bool x) ∧ Below w.heap.size w w' := hx ▸ zoneEq_own w b f d g A A' B B' n c n' c' m e m' e' l k ys xs hz hy
set_option maxRecDepth 100000 in
set_option maxHeartbeats 8000000 in
theorem zoneAsks_walk (W : World) (b f : Int) (A A' : Option Addr) (n c n' c' : Nat) (l : List Sh) (ys : List Yr) (hs : ShAt W A n l) (hy : YrAt W A' n' ys) (hcn : A = none → c = 0) (sn : n ≤ 9223372036854775807) (yn : n' ≤ 9223372036854775807)
    (d g : Int) (B B' : Option Addr) (m e m' e' : Nat) (k : List Sh) (xs : List Yr) (hs2 : ShAt W B m k) (hy2 : YrAt W B' m' xs) (sm : m ≤ 9223372036854775807) (ym : m' ≤ 9223372036854775807) (u : Int) (u1 : -9223372036854775808 ≤ u) (u2 : u ≤ 9223372036854775807) (ht : Tab W) :
    Calls Try.prog 3 #[.agg #[.int .i64 b, .slice A n c, .slice A' n' c', .int .i64 f], .agg #[.int .i64 d, .slice B m e, .slice B' m' e', .int .i64 g], .int .i64 u] W fun e w' => e = .returned (.bool true) ∧ Below W.heap.size W w' := by
  obtain ⟨Z, Y⟩ := two_new W 25 25 #[.int .i64 b, .slice A n c, .slice A' n' c', .int .i64 f] #[.int .i64 d, .slice B m e, .slice B' m' e', .int .i64 g]
  have ba : Below W.heap.size W ((W.alloc (.cells #[.int .i64 b, .slice A n c, .slice A' n' c', .int .i64 f] 25)).alloc (.cells #[.int .i64 d, .slice B m e, .slice B' m' e', .int .i64 g] 25)) := ((Below.refl _ _).alloc (Nat.le_refl _) _).alloc (by simp) _
  have b0 := Below.refl ((W.alloc (.cells #[.int .i64 b, .slice A n c, .slice A' n' c', .int .i64 f] 25)).alloc (.cells #[.int .i64 d, .slice B m e, .slice B' m' e', .int .i64 g] 25)).heap.size ((W.alloc (.cells #[.int .i64 b, .slice A n c, .slice A' n' c', .int .i64 f] 25)).alloc (.cells #[.int .i64 d, .slice B m e, .slice B' m' e', .int .i64 g] 25))
  have hz0 : ZnAt ((W.alloc (.cells #[.int .i64 b, .slice A n c, .slice A' n' c', .int .i64 f] 25)).alloc (.cells #[.int .i64 d, .slice B m e, .slice B' m' e', .int .i64 g] 25)) A n A' n' l ys := ⟨hs.below ba, hy.below ba, sn, yn⟩
  have hy0 : ZnAt ((W.alloc (.cells #[.int .i64 b, .slice A n c, .slice A' n' c', .int .i64 f] 25)).alloc (.cells #[.int .i64 d, .slice B m e, .slice B' m' e', .int .i64 g] 25)) B m B' m' k xs := ⟨hs2.below ba, hy2.below ba, sm, ym⟩
  have HC := Lib.hid hcn
  clear hcn hs hy hs2 hy2
  cases hf : fewB n n'
  · have FW := Lib.hid hf
    clear hf
    have lZ := Z.lt
    have Zc0 := Z.cell 0
    have Zc1 := Z.cell 1
    have Zc2 := Z.cell 2
    have Zc3 := Z.cell 3
    try simp at Zc0 Zc1 Zc2 Zc3
    have lY := Y.lt
    have Yc0 := Y.cell 0
    have Yc1 := Y.cell 1
    have Yc2 := Y.cell 2
    have Yc3 := Y.cell 3
    try simp at Yc0 Yc1 Yc2 Yc3
    go_enter Try.func3, Try.ntmps3
    go_wp2_with fail
    refine (first_own _ (tab_on (tab_on ht ba) b0)).mono ?_
    rintro e w1 ⟨rfl, h1⟩
    have b1 := b0.trans (h1.mono b0.size)
    replace Z := Z.below h1 Z.lt
    clear lZ Zc0 Zc1 Zc2 Zc3
    have lZ := Z.lt
    have Zc0 := Z.cell 0
    have Zc1 := Z.cell 1
    have Zc2 := Z.cell 2
    have Zc3 := Z.cell 3
    try simp at Zc0 Zc1 Zc2 Zc3
    replace Y := Y.below h1 Y.lt
    clear lY Yc0 Yc1 Yc2 Yc3
    have lY := Y.lt
    have Yc0 := Y.cell 0
    have Yc1 := Y.cell 1
    have Yc2 := Y.cell 2
    have Yc3 := Y.cell 3
    try simp at Yc0 Yc1 Yc2 Yc3
    go_wp2_with fail
    refine (few_is _ _ _ _ _ _ _ _ _ _ FW.out).mono ?_
    rintro e w2 ⟨rfl, h2⟩
    have b2 := b1.trans (h2.mono b1.size)
    replace Z := Z.below h2 Z.lt
    clear lZ Zc0 Zc1 Zc2 Zc3
    have lZ := Z.lt
    have Zc0 := Z.cell 0
    have Zc1 := Z.cell 1
    have Zc2 := Z.cell 2
    have Zc3 := Z.cell 3
    try simp at Zc0 Zc1 Zc2 Zc3
    replace Y := Y.below h2 Y.lt
    clear lY Yc0 Yc1 Yc2 Yc3
    have lY := Y.lt
    have Yc0 := Y.cell 0
    have Yc1 := Y.cell 1
    have Yc2 := Y.cell 2
    have Yc3 := Y.cell 3
    try simp at Yc0 Yc1 Yc2 Yc3
    go_wp2_with fail
    refine (first_own _ (tab_on (tab_on ht ba) b2)).mono ?_
    rintro e w3 ⟨rfl, h3⟩
    have b3 := b2.trans (h3.mono b2.size)
    replace Z := Z.below h3 Z.lt
    clear lZ Zc0 Zc1 Zc2 Zc3
    have lZ := Z.lt
    have Zc0 := Z.cell 0
    have Zc1 := Z.cell 1
    have Zc2 := Z.cell 2
    have Zc3 := Z.cell 3
    try simp at Zc0 Zc1 Zc2 Zc3
    replace Y := Y.below h3 Y.lt
    clear lY Yc0 Yc1 Yc2 Yc3
    have lY := Y.lt
    have Yc0 := Y.cell 0
    have Yc1 := Y.cell 1
    have Yc2 := Y.cell 2
    have Yc3 := Y.cell 3
    try simp at Yc0 Yc1 Yc2 Yc3
    go_wp2
    go_ret
    exact ⟨rfl, ba.trans (b3.mono ba.size)⟩
  · have FW := Lib.hid hf
    clear hf
    cases hg : fewB m m'
    · have FY := Lib.hid hg
      clear hg
      have lZ := Z.lt
      have Zc0 := Z.cell 0
      have Zc1 := Z.cell 1
      have Zc2 := Z.cell 2
      have Zc3 := Z.cell 3
      try simp at Zc0 Zc1 Zc2 Zc3
      have lY := Y.lt
      have Yc0 := Y.cell 0
      have Yc1 := Y.cell 1
      have Yc2 := Y.cell 2
      have Yc3 := Y.cell 3
      try simp at Yc0 Yc1 Yc2 Yc3
      go_enter Try.func3, Try.ntmps3
      go_wp2_with fail
      refine (first_own _ (tab_on (tab_on ht ba) b0)).mono ?_
      rintro e w1 ⟨rfl, h1⟩
      have b1 := b0.trans (h1.mono b0.size)
      replace Z := Z.below h1 Z.lt
      clear lZ Zc0 Zc1 Zc2 Zc3
      have lZ := Z.lt
      have Zc0 := Z.cell 0
      have Zc1 := Z.cell 1
      have Zc2 := Z.cell 2
      have Zc3 := Z.cell 3
      try simp at Zc0 Zc1 Zc2 Zc3
      replace Y := Y.below h1 Y.lt
      clear lY Yc0 Yc1 Yc2 Yc3
      have lY := Y.lt
      have Yc0 := Y.cell 0
      have Yc1 := Y.cell 1
      have Yc2 := Y.cell 2
      have Yc3 := Y.cell 3
      try simp at Yc0 Yc1 Yc2 Yc3
      go_wp2_with fail
      refine (few_is _ _ _ _ _ _ _ _ _ _ FW.out).mono ?_
      rintro e w2 ⟨rfl, h2⟩
      have b2 := b1.trans (h2.mono b1.size)
      replace Z := Z.below h2 Z.lt
      clear lZ Zc0 Zc1 Zc2 Zc3
      have lZ := Z.lt
      have Zc0 := Z.cell 0
      have Zc1 := Z.cell 1
      have Zc2 := Z.cell 2
      have Zc3 := Z.cell 3
      try simp at Zc0 Zc1 Zc2 Zc3
      replace Y := Y.below h2 Y.lt
      clear lY Yc0 Yc1 Yc2 Yc3
      have lY := Y.lt
      have Yc0 := Y.cell 0
      have Yc1 := Y.cell 1
      have Yc2 := Y.cell 2
      have Yc3 := Y.cell 3
      try simp at Yc0 Yc1 Yc2 Yc3
      go_wp2_with fail
      refine (few_is _ _ _ _ _ _ _ _ _ _ FY.out).mono ?_
      rintro e w3 ⟨rfl, h3⟩
      have b3 := b2.trans (h3.mono b2.size)
      replace Z := Z.below h3 Z.lt
      clear lZ Zc0 Zc1 Zc2 Zc3
      have lZ := Z.lt
      have Zc0 := Z.cell 0
      have Zc1 := Z.cell 1
      have Zc2 := Z.cell 2
      have Zc3 := Z.cell 3
      try simp at Zc0 Zc1 Zc2 Zc3
      replace Y := Y.below h3 Y.lt
      clear lY Yc0 Yc1 Yc2 Yc3
      have lY := Y.lt
      have Yc0 := Y.cell 0
      have Yc1 := Y.cell 1
      have Yc2 := Y.cell 2
      have Yc3 := Y.cell 3
      try simp at Yc0 Yc1 Yc2 Yc3
      go_wp2_with fail
      refine (first_own _ (tab_on (tab_on ht ba) b3)).mono ?_
      rintro e w4 ⟨rfl, h4⟩
      have b4 := b3.trans (h4.mono b3.size)
      replace Z := Z.below h4 Z.lt
      clear lZ Zc0 Zc1 Zc2 Zc3
      have lZ := Z.lt
      have Zc0 := Z.cell 0
      have Zc1 := Z.cell 1
      have Zc2 := Z.cell 2
      have Zc3 := Z.cell 3
      try simp at Zc0 Zc1 Zc2 Zc3
      replace Y := Y.below h4 Y.lt
      clear lY Yc0 Yc1 Yc2 Yc3
      have lY := Y.lt
      have Yc0 := Y.cell 0
      have Yc1 := Y.cell 1
      have Yc2 := Y.cell 2
      have Yc3 := Y.cell 3
      try simp at Yc0 Yc1 Yc2 Yc3
      go_wp2
      go_ret
      exact ⟨rfl, ba.trans (b4.mono ba.size)⟩
    · have FY := Lib.hid hg
      clear hg
      obtain ⟨vm, hm⟩ : ∃ v, mayB b l ys f = v := ⟨_, rfl⟩
      obtain ⟨vo, ho⟩ : ∃ v, offR b l ys f u = v := ⟨_, rfl⟩
      obtain ⟨vl, hl⟩ : ∃ v, locR b l ys f u = v := ⟨_, rfl⟩
      obtain ⟨vs, hsm⟩ : ∃ v, sameB b f l ys d g k xs = v := ⟨_, rfl⟩
      have H := Lib.hid hm; have EO := Lib.hid ho; have EL := Lib.hid hl; have SM := Lib.hid hsm
      clear hm ho hl hsm
      cases ha : befR b l ys f u with
      | none =>
        have EA := Lib.hid ha
        clear ha
        cases hb : aftR b l ys f u with
        | none =>
          have EB := Lib.hid hb
          clear hb
          have lZ := Z.lt
          have Zc0 := Z.cell 0
          have Zc1 := Z.cell 1
          have Zc2 := Z.cell 2
          have Zc3 := Z.cell 3
          try simp at Zc0 Zc1 Zc2 Zc3
          have lY := Y.lt
          have Yc0 := Y.cell 0
          have Yc1 := Y.cell 1
          have Yc2 := Y.cell 2
          have Yc3 := Y.cell 3
          try simp at Yc0 Yc1 Yc2 Yc3
          go_enter Try.func3, Try.ntmps3
          go_wp2_with fail
          refine (first_own _ (tab_on (tab_on ht ba) b0)).mono ?_
          rintro e w1 ⟨rfl, h1⟩
          have b1 := b0.trans (h1.mono b0.size)
          replace Z := Z.below h1 Z.lt
          clear lZ Zc0 Zc1 Zc2 Zc3
          have lZ := Z.lt
          have Zc0 := Z.cell 0
          have Zc1 := Z.cell 1
          have Zc2 := Z.cell 2
          have Zc3 := Z.cell 3
          try simp at Zc0 Zc1 Zc2 Zc3
          replace Y := Y.below h1 Y.lt
          clear lY Yc0 Yc1 Yc2 Yc3
          have lY := Y.lt
          have Yc0 := Y.cell 0
          have Yc1 := Y.cell 1
          have Yc2 := Y.cell 2
          have Yc3 := Y.cell 3
          try simp at Yc0 Yc1 Yc2 Yc3
          go_wp2_with fail
          refine (few_is _ _ _ _ _ _ _ _ _ _ FW.out).mono ?_
          rintro e w2 ⟨rfl, h2⟩
          have b2 := b1.trans (h2.mono b1.size)
          replace Z := Z.below h2 Z.lt
          clear lZ Zc0 Zc1 Zc2 Zc3
          have lZ := Z.lt
          have Zc0 := Z.cell 0
          have Zc1 := Z.cell 1
          have Zc2 := Z.cell 2
          have Zc3 := Z.cell 3
          try simp at Zc0 Zc1 Zc2 Zc3
          replace Y := Y.below h2 Y.lt
          clear lY Yc0 Yc1 Yc2 Yc3
          have lY := Y.lt
          have Yc0 := Y.cell 0
          have Yc1 := Y.cell 1
          have Yc2 := Y.cell 2
          have Yc3 := Y.cell 3
          try simp at Yc0 Yc1 Yc2 Yc3
          go_wp2_with fail
          refine (few_is _ _ _ _ _ _ _ _ _ _ FY.out).mono ?_
          rintro e w3 ⟨rfl, h3⟩
          have b3 := b2.trans (h3.mono b2.size)
          replace Z := Z.below h3 Z.lt
          clear lZ Zc0 Zc1 Zc2 Zc3
          have lZ := Z.lt
          have Zc0 := Z.cell 0
          have Zc1 := Z.cell 1
          have Zc2 := Z.cell 2
          have Zc3 := Z.cell 3
          try simp at Zc0 Zc1 Zc2 Zc3
          replace Y := Y.below h3 Y.lt
          clear lY Yc0 Yc1 Yc2 Yc3
          have lY := Y.lt
          have Yc0 := Y.cell 0
          have Yc1 := Y.cell 1
          have Yc2 := Y.cell 2
          have Yc3 := Y.cell 3
          try simp at Yc0 Yc1 Yc2 Yc3
          go_wp2_with fail
          refine (Before_none _ b f A A' n c n' c' l ys _ EA.out (hz0.below b3)).mono ?_
          rintro e w4 ⟨rfl, h4⟩
          have b4 := b3.trans (h4.mono b3.size)
          replace Z := Z.below h4 Z.lt
          clear lZ Zc0 Zc1 Zc2 Zc3
          have lZ := Z.lt
          have Zc0 := Z.cell 0
          have Zc1 := Z.cell 1
          have Zc2 := Z.cell 2
          have Zc3 := Z.cell 3
          try simp at Zc0 Zc1 Zc2 Zc3
          replace Y := Y.below h4 Y.lt
          clear lY Yc0 Yc1 Yc2 Yc3
          have lY := Y.lt
          have Yc0 := Y.cell 0
          have Yc1 := Y.cell 1
          have Yc2 := Y.cell 2
          have Yc3 := Y.cell 3
          try simp at Yc0 Yc1 Yc2 Yc3
          have Ss1 := Blk.new w4 29 #[.int .i64 0, .int .i64 0]
          have a5 := (Below.refl _ _).alloc (Nat.le_refl _) (.cells #[.int .i64 0, .int .i64 0] 29) (w := w4)
          have b5 := b4.trans (a5.mono b4.size)
          replace Z := Z.below a5 Z.lt
          clear lZ Zc0 Zc1 Zc2 Zc3
          have lZ := Z.lt
          have Zc0 := Z.cell 0
          have Zc1 := Z.cell 1
          have Zc2 := Z.cell 2
          have Zc3 := Z.cell 3
          try simp at Zc0 Zc1 Zc2 Zc3
          replace Y := Y.below a5 Y.lt
          clear lY Yc0 Yc1 Yc2 Yc3
          have lY := Y.lt
          have Yc0 := Y.cell 0
          have Yc1 := Y.cell 1
          have Yc2 := Y.cell 2
          have Yc3 := Y.cell 3
          try simp at Yc0 Yc1 Yc2 Yc3
          have lSs1 := Ss1.lt
          have Ss1c0 := Ss1.cell 0
          have Ss1c1 := Ss1.cell 1
          try simp at Ss1c0 Ss1c1
          go_wp2_with fail
          refine (rBef_none _ b f A A' n c n' c' l ys _ EA.out (hz0.below b5) HC.out).mono ?_
          rintro e w6 ⟨rfl, h6⟩
          have b6 := b5.trans (h6.mono b5.size)
          replace Z := Z.below h6 Z.lt
          clear lZ Zc0 Zc1 Zc2 Zc3
          have lZ := Z.lt
          have Zc0 := Z.cell 0
          have Zc1 := Z.cell 1
          have Zc2 := Z.cell 2
          have Zc3 := Z.cell 3
          try simp at Zc0 Zc1 Zc2 Zc3
          replace Y := Y.below h6 Y.lt
          clear lY Yc0 Yc1 Yc2 Yc3
          have lY := Y.lt
          have Yc0 := Y.cell 0
          have Yc1 := Y.cell 1
          have Yc2 := Y.cell 2
          have Yc3 := Y.cell 3
          try simp at Yc0 Yc1 Yc2 Yc3
          replace Ss1 := Ss1.below h6 Ss1.lt
          clear lSs1 Ss1c0 Ss1c1
          have lSs1 := Ss1.lt
          have Ss1c0 := Ss1.cell 0
          have Ss1c1 := Ss1.cell 1
          try simp at Ss1c0 Ss1c1
          have Ss2 := Blk.new w6 29 #[.int .i64 0, .int .i64 0]
          have a7 := (Below.refl _ _).alloc (Nat.le_refl _) (.cells #[.int .i64 0, .int .i64 0] 29) (w := w6)
          have b7 := b6.trans (a7.mono b6.size)
          replace Z := Z.below a7 Z.lt
          clear lZ Zc0 Zc1 Zc2 Zc3
          have lZ := Z.lt
          have Zc0 := Z.cell 0
          have Zc1 := Z.cell 1
          have Zc2 := Z.cell 2
          have Zc3 := Z.cell 3
          try simp at Zc0 Zc1 Zc2 Zc3
          replace Y := Y.below a7 Y.lt
          clear lY Yc0 Yc1 Yc2 Yc3
          have lY := Y.lt
          have Yc0 := Y.cell 0
          have Yc1 := Y.cell 1
          have Yc2 := Y.cell 2
          have Yc3 := Y.cell 3
          try simp at Yc0 Yc1 Yc2 Yc3
          replace Ss1 := Ss1.below a7 Ss1.lt
          clear lSs1 Ss1c0 Ss1c1
          have lSs1 := Ss1.lt
          have Ss1c0 := Ss1.cell 0
          have Ss1c1 := Ss1.cell 1
          try simp at Ss1c0 Ss1c1
          have lSs2 := Ss2.lt
          have Ss2c0 := Ss2.cell 0
          have Ss2c1 := Ss2.cell 1
          try simp at Ss2c0 Ss2c1
          go_wp2_with fail
          refine (After_none _ b f A A' n c n' c' l ys _ EB.out (hz0.below b7)).mono ?_
          rintro e w8 ⟨rfl, h8⟩
          have b8 := b7.trans (h8.mono b7.size)
          replace Z := Z.below h8 Z.lt
          clear lZ Zc0 Zc1 Zc2 Zc3
          have lZ := Z.lt
          have Zc0 := Z.cell 0
          have Zc1 := Z.cell 1
          have Zc2 := Z.cell 2
          have Zc3 := Z.cell 3
          try simp at Zc0 Zc1 Zc2 Zc3
          replace Y := Y.below h8 Y.lt
          clear lY Yc0 Yc1 Yc2 Yc3
          have lY := Y.lt
          have Yc0 := Y.cell 0
          have Yc1 := Y.cell 1
          have Yc2 := Y.cell 2
          have Yc3 := Y.cell 3
          try simp at Yc0 Yc1 Yc2 Yc3
          replace Ss1 := Ss1.below h8 Ss1.lt
          clear lSs1 Ss1c0 Ss1c1
          have lSs1 := Ss1.lt
          have Ss1c0 := Ss1.cell 0
          have Ss1c1 := Ss1.cell 1
          try simp at Ss1c0 Ss1c1
          replace Ss2 := Ss2.below h8 Ss2.lt
          clear lSs2 Ss2c0 Ss2c1
          have lSs2 := Ss2.lt
          have Ss2c0 := Ss2.cell 0
          have Ss2c1 := Ss2.cell 1
          try simp at Ss2c0 Ss2c1
          have Sr1 := Blk.new w8 29 #[.int .i64 0, .int .i64 0]
          have a9 := (Below.refl _ _).alloc (Nat.le_refl _) (.cells #[.int .i64 0, .int .i64 0] 29) (w := w8)
          have b9 := b8.trans (a9.mono b8.size)
          replace Z := Z.below a9 Z.lt
          clear lZ Zc0 Zc1 Zc2 Zc3
          have lZ := Z.lt
          have Zc0 := Z.cell 0
          have Zc1 := Z.cell 1
          have Zc2 := Z.cell 2
          have Zc3 := Z.cell 3
          try simp at Zc0 Zc1 Zc2 Zc3
          replace Y := Y.below a9 Y.lt
          clear lY Yc0 Yc1 Yc2 Yc3
          have lY := Y.lt
          have Yc0 := Y.cell 0
          have Yc1 := Y.cell 1
          have Yc2 := Y.cell 2
          have Yc3 := Y.cell 3
          try simp at Yc0 Yc1 Yc2 Yc3
          replace Ss1 := Ss1.below a9 Ss1.lt
          clear lSs1 Ss1c0 Ss1c1
          have lSs1 := Ss1.lt
          have Ss1c0 := Ss1.cell 0
          have Ss1c1 := Ss1.cell 1
          try simp at Ss1c0 Ss1c1
          replace Ss2 := Ss2.below a9 Ss2.lt
          clear lSs2 Ss2c0 Ss2c1
          have lSs2 := Ss2.lt
          have Ss2c0 := Ss2.cell 0
          have Ss2c1 := Ss2.cell 1
          try simp at Ss2c0 Ss2c1
          have lSr1 := Sr1.lt
          have Sr1c0 := Sr1.cell 0
          have Sr1c1 := Sr1.cell 1
          try simp at Sr1c0 Sr1c1
          go_wp2_with fail
          refine (rAft_none _ b f A A' n c n' c' l ys _ EB.out (hz0.below b9) HC.out).mono ?_
          rintro e w10 ⟨rfl, h10⟩
          have b10 := b9.trans (h10.mono b9.size)
          replace Z := Z.below h10 Z.lt
          clear lZ Zc0 Zc1 Zc2 Zc3
          have lZ := Z.lt
          have Zc0 := Z.cell 0
          have Zc1 := Z.cell 1
          have Zc2 := Z.cell 2
          have Zc3 := Z.cell 3
          try simp at Zc0 Zc1 Zc2 Zc3
          replace Y := Y.below h10 Y.lt
          clear lY Yc0 Yc1 Yc2 Yc3
          have lY := Y.lt
          have Yc0 := Y.cell 0
          have Yc1 := Y.cell 1
          have Yc2 := Y.cell 2
          have Yc3 := Y.cell 3
          try simp at Yc0 Yc1 Yc2 Yc3
          replace Ss1 := Ss1.below h10 Ss1.lt
          clear lSs1 Ss1c0 Ss1c1
          have lSs1 := Ss1.lt
          have Ss1c0 := Ss1.cell 0
          have Ss1c1 := Ss1.cell 1
          try simp at Ss1c0 Ss1c1
          replace Ss2 := Ss2.below h10 Ss2.lt
          clear lSs2 Ss2c0 Ss2c1
          have lSs2 := Ss2.lt
          have Ss2c0 := Ss2.cell 0
          have Ss2c1 := Ss2.cell 1
          try simp at Ss2c0 Ss2c1
          replace Sr1 := Sr1.below h10 Sr1.lt
          clear lSr1 Sr1c0 Sr1c1
          have lSr1 := Sr1.lt
          have Sr1c0 := Sr1.cell 0
          have Sr1c1 := Sr1.cell 1
          try simp at Sr1c0 Sr1c1
          have Sr2 := Blk.new w10 29 #[.int .i64 0, .int .i64 0]
          have a11 := (Below.refl _ _).alloc (Nat.le_refl _) (.cells #[.int .i64 0, .int .i64 0] 29) (w := w10)
          have b11 := b10.trans (a11.mono b10.size)
          replace Z := Z.below a11 Z.lt
          clear lZ Zc0 Zc1 Zc2 Zc3
          have lZ := Z.lt
          have Zc0 := Z.cell 0
          have Zc1 := Z.cell 1
          have Zc2 := Z.cell 2
          have Zc3 := Z.cell 3
          try simp at Zc0 Zc1 Zc2 Zc3
          replace Y := Y.below a11 Y.lt
          clear lY Yc0 Yc1 Yc2 Yc3
          have lY := Y.lt
          have Yc0 := Y.cell 0
          have Yc1 := Y.cell 1
          have Yc2 := Y.cell 2
          have Yc3 := Y.cell 3
          try simp at Yc0 Yc1 Yc2 Yc3
          replace Ss1 := Ss1.below a11 Ss1.lt
          clear lSs1 Ss1c0 Ss1c1
          have lSs1 := Ss1.lt
          have Ss1c0 := Ss1.cell 0
          have Ss1c1 := Ss1.cell 1
          try simp at Ss1c0 Ss1c1
          replace Ss2 := Ss2.below a11 Ss2.lt
          clear lSs2 Ss2c0 Ss2c1
          have lSs2 := Ss2.lt
          have Ss2c0 := Ss2.cell 0
          have Ss2c1 := Ss2.cell 1
          try simp at Ss2c0 Ss2c1
          replace Sr1 := Sr1.below a11 Sr1.lt
          clear lSr1 Sr1c0 Sr1c1
          have lSr1 := Sr1.lt
          have Sr1c0 := Sr1.cell 0
          have Sr1c1 := Sr1.cell 1
          try simp at Sr1c0 Sr1c1
          have lSr2 := Sr2.lt
          have Sr2c0 := Sr2.cell 0
          have Sr2c1 := Sr2.cell 1
          try simp at Sr2c0 Sr2c1
          go_wp2_with fail
          generalize (w10.alloc (.cells #[.int .i64 0, .int .i64 0] 29)) = wz12 at *
          have lZ := Z.lt
          have Zc0 := Z.cell 0
          have Zc1 := Z.cell 1
          have Zc2 := Z.cell 2
          have Zc3 := Z.cell 3
          try simp at Zc0 Zc1 Zc2 Zc3
          have lY := Y.lt
          have Yc0 := Y.cell 0
          have Yc1 := Y.cell 1
          have Yc2 := Y.cell 2
          have Yc3 := Y.cell 3
          try simp at Yc0 Yc1 Yc2 Yc3
          have lSs1 := Ss1.lt
          have Ss1c0 := Ss1.cell 0
          have Ss1c1 := Ss1.cell 1
          try simp at Ss1c0 Ss1c1
          have lSs2 := Ss2.lt
          have Ss2c0 := Ss2.cell 0
          have Ss2c1 := Ss2.cell 1
          try simp at Ss2c0 Ss2c1
          have lSr1 := Sr1.lt
          have Sr1c0 := Sr1.cell 0
          have Sr1c1 := Sr1.cell 1
          try simp at Sr1c0 Sr1c1
          have lSr2 := Sr2.lt
          have Sr2c0 := Sr2.cell 0
          have Sr2c1 := Sr2.cell 1
          try simp at Sr2c0 Sr2c1
          have p12 : Past wz12 wz12 := Below.refl _ _
          have Zq0 : ∀ v : In (Past wz12), v.w.cell? ⟨W.heap.size, 0, none⟩ = some (.int .i64 b) := fun v => (Below.cell (p := ⟨_, 0, none⟩) (show Below _ _ _ from v.h) lZ).trans Zc0
          have Zq1 : ∀ v : In (Past wz12), v.w.cell? ⟨W.heap.size, 1, none⟩ = some (.slice A n c) := fun v => (Below.cell (p := ⟨_, 1, none⟩) (show Below _ _ _ from v.h) lZ).trans Zc1
          have Zq2 : ∀ v : In (Past wz12), v.w.cell? ⟨W.heap.size, 2, none⟩ = some (.slice A' n' c') := fun v => (Below.cell (p := ⟨_, 2, none⟩) (show Below _ _ _ from v.h) lZ).trans Zc2
          have Zq3 : ∀ v : In (Past wz12), v.w.cell? ⟨W.heap.size, 3, none⟩ = some (.int .i64 f) := fun v => (Below.cell (p := ⟨_, 3, none⟩) (show Below _ _ _ from v.h) lZ).trans Zc3
          have Yq0 : ∀ v : In (Past wz12), v.w.cell? ⟨W.heap.size + 1, 0, none⟩ = some (.int .i64 d) := fun v => (Below.cell (p := ⟨_, 0, none⟩) (show Below _ _ _ from v.h) lY).trans Yc0
          have Yq1 : ∀ v : In (Past wz12), v.w.cell? ⟨W.heap.size + 1, 1, none⟩ = some (.slice B m e) := fun v => (Below.cell (p := ⟨_, 1, none⟩) (show Below _ _ _ from v.h) lY).trans Yc1
          have Yq2 : ∀ v : In (Past wz12), v.w.cell? ⟨W.heap.size + 1, 2, none⟩ = some (.slice B' m' e') := fun v => (Below.cell (p := ⟨_, 2, none⟩) (show Below _ _ _ from v.h) lY).trans Yc2
          have Yq3 : ∀ v : In (Past wz12), v.w.cell? ⟨W.heap.size + 1, 3, none⟩ = some (.int .i64 g) := fun v => (Below.cell (p := ⟨_, 3, none⟩) (show Below _ _ _ from v.h) lY).trans Yc3
          have Ss1q0 : ∀ v : In (Past wz12), v.w.cell? ⟨w4.heap.size, 0, none⟩ = some (.int .i64 0) := fun v => (Below.cell (p := ⟨_, 0, none⟩) (show Below _ _ _ from v.h) lSs1).trans Ss1c0
          have Ss1q1 : ∀ v : In (Past wz12), v.w.cell? ⟨w4.heap.size, 1, none⟩ = some (.int .i64 0) := fun v => (Below.cell (p := ⟨_, 1, none⟩) (show Below _ _ _ from v.h) lSs1).trans Ss1c1
          have Ss2q0 : ∀ v : In (Past wz12), v.w.cell? ⟨w6.heap.size, 0, none⟩ = some (.int .i64 0) := fun v => (Below.cell (p := ⟨_, 0, none⟩) (show Below _ _ _ from v.h) lSs2).trans Ss2c0
          have Ss2q1 : ∀ v : In (Past wz12), v.w.cell? ⟨w6.heap.size, 1, none⟩ = some (.int .i64 0) := fun v => (Below.cell (p := ⟨_, 1, none⟩) (show Below _ _ _ from v.h) lSs2).trans Ss2c1
          have Sr1q0 : ∀ v : In (Past wz12), v.w.cell? ⟨w8.heap.size, 0, none⟩ = some (.int .i64 0) := fun v => (Below.cell (p := ⟨_, 0, none⟩) (show Below _ _ _ from v.h) lSr1).trans Sr1c0
          have Sr1q1 : ∀ v : In (Past wz12), v.w.cell? ⟨w8.heap.size, 1, none⟩ = some (.int .i64 0) := fun v => (Below.cell (p := ⟨_, 1, none⟩) (show Below _ _ _ from v.h) lSr1).trans Sr1c1
          have Sr2q0 : ∀ v : In (Past wz12), v.w.cell? ⟨w10.heap.size, 0, none⟩ = some (.int .i64 0) := fun v => (Below.cell (p := ⟨_, 0, none⟩) (show Below _ _ _ from v.h) lSr2).trans Sr2c0
          have Sr2q1 : ∀ v : In (Past wz12), v.w.cell? ⟨w10.heap.size, 1, none⟩ = some (.int .i64 0) := fun v => (Below.cell (p := ⟨_, 1, none⟩) (show Below _ _ _ from v.h) lSr2).trans Sr2c1
          have HQ := Lib.hid (fun (v : In (Past wz12)) => (hz0.below b11).below (show Below _ _ _ from v.h))
          have HYQ := Lib.hid (fun (v : In (Past wz12)) => (hy0.below b11).below (show Below _ _ _ from v.h))
          have hne12 : Nonempty (In (Past wz12)) := ⟨⟨_, p12⟩⟩
          have HT := Lib.hid (fun (v : In (Past wz12)) => tab_on (tab_on (tab_on ht ba) b11) (show Below _ _ _ from v.h))
          refine wp_region_class (Past wz12) (by kernel_rfl) (by kernel_rfl) (Past.drew' p12) ?_
          simp only [List.append]
          repeat (any_goals (first | go_big_quiet_step ((first | (with_reducible refine quiet_cl Past.on (first_own _ ?_); all_goals (first | exact HQ.out _ | exact HT.out _ | exact HYQ.out _)) | (with_reducible refine quiet_cl Past.on (zMay_own _ b f A A' n c n' c' l ys _ H.out ?_); all_goals (first | exact HQ.out _ | exact HT.out _ | exact HYQ.out _)) | (with_reducible refine quiet_cl Past.on (rMay_is _ b f A A' n c n' c' l ys _ H.out ?_); all_goals (first | exact HQ.out _ | exact HT.out _ | exact HYQ.out _)) | (with_reducible refine quiet_cl Past.on (Offset_is _ b f A A' n c n' c' l ys _ _ EO.out ?_); all_goals (first | exact HQ.out _ | exact HT.out _ | exact HYQ.out _)) | (with_reducible refine quiet_cl Past.on (rOffset_is _ b f A A' n c n' c' l ys _ _ EO.out ?_ HC.out); all_goals (first | exact HQ.out _ | exact HT.out _ | exact HYQ.out _)) | (with_reducible refine quiet_cl Past.on (Local_is _ b f A A' n c n' c' l ys _ _ EL.out ?_); all_goals (first | exact HQ.out _ | exact HT.out _ | exact HYQ.out _)) | (with_reducible refine quiet_cl Past.on (rLocal_is _ b f A A' n c n' c' l ys _ _ EL.out ?_ HC.out); all_goals (first | exact HQ.out _ | exact HT.out _ | exact HYQ.out _)) | (with_reducible refine quiet_cl Past.on (Same_is _ b f d g A A' B B' n c n' c' m e m' e' l k ys xs _ SM.out ?_ ?_); all_goals (first | exact HQ.out _ | exact HT.out _ | exact HYQ.out _)) | (with_reducible refine quiet_cl Past.on (zoneEq_is _ b f d g A A' B B' n c n' c' m e m' e' l k ys xs _ SM.out ?_ ?_); all_goals (first | exact HQ.out _ | exact HT.out _ | exact HYQ.out _)))) | quiet_step ((first | (with_reducible refine quiet_cl Past.on (first_own _ ?_); all_goals (first | exact HQ.out _ | exact HT.out _ | exact HYQ.out _)) | (with_reducible refine quiet_cl Past.on (zMay_own _ b f A A' n c n' c' l ys _ H.out ?_); all_goals (first | exact HQ.out _ | exact HT.out _ | exact HYQ.out _)) | (with_reducible refine quiet_cl Past.on (rMay_is _ b f A A' n c n' c' l ys _ H.out ?_); all_goals (first | exact HQ.out _ | exact HT.out _ | exact HYQ.out _)) | (with_reducible refine quiet_cl Past.on (Offset_is _ b f A A' n c n' c' l ys _ _ EO.out ?_); all_goals (first | exact HQ.out _ | exact HT.out _ | exact HYQ.out _)) | (with_reducible refine quiet_cl Past.on (rOffset_is _ b f A A' n c n' c' l ys _ _ EO.out ?_ HC.out); all_goals (first | exact HQ.out _ | exact HT.out _ | exact HYQ.out _)) | (with_reducible refine quiet_cl Past.on (Local_is _ b f A A' n c n' c' l ys _ _ EL.out ?_); all_goals (first | exact HQ.out _ | exact HT.out _ | exact HYQ.out _)) | (with_reducible refine quiet_cl Past.on (rLocal_is _ b f A A' n c n' c' l ys _ _ EL.out ?_ HC.out); all_goals (first | exact HQ.out _ | exact HT.out _ | exact HYQ.out _)) | (with_reducible refine quiet_cl Past.on (Same_is _ b f d g A A' B B' n c n' c' m e m' e' l k ys xs _ SM.out ?_ ?_); all_goals (first | exact HQ.out _ | exact HT.out _ | exact HYQ.out _)) | (with_reducible refine quiet_cl Past.on (zoneEq_is _ b f d g A A' B B' n c n' c' m e m' e' l k ys xs _ SM.out ?_ ?_); all_goals (first | exact HQ.out _ | exact HT.out _ | exact HYQ.out _))))))
          refine wpQuiet_nil ?_
          rintro _ ⟨⟨w12, h12⟩, rfl⟩
          replace h12 : Below _ _ _ := h12
          clear HQ HT hne12 p12 HYQ Zq0 Zq1 Zq2 Zq3 Yq0 Yq1 Yq2 Yq3 Ss1q0 Ss1q1 Ss2q0 Ss2q1 Sr1q0 Sr1q1 Sr2q0 Sr2q1
          have b12 := b11.trans (h12.mono b11.size)
          replace Z := Z.below h12 Z.lt
          clear lZ Zc0 Zc1 Zc2 Zc3
          have lZ := Z.lt
          have Zc0 := Z.cell 0
          have Zc1 := Z.cell 1
          have Zc2 := Z.cell 2
          have Zc3 := Z.cell 3
          try simp at Zc0 Zc1 Zc2 Zc3
          replace Y := Y.below h12 Y.lt
          clear lY Yc0 Yc1 Yc2 Yc3
          have lY := Y.lt
          have Yc0 := Y.cell 0
          have Yc1 := Y.cell 1
          have Yc2 := Y.cell 2
          have Yc3 := Y.cell 3
          try simp at Yc0 Yc1 Yc2 Yc3
          replace Ss1 := Ss1.below h12 Ss1.lt
          clear lSs1 Ss1c0 Ss1c1
          have lSs1 := Ss1.lt
          have Ss1c0 := Ss1.cell 0
          have Ss1c1 := Ss1.cell 1
          try simp at Ss1c0 Ss1c1
          replace Ss2 := Ss2.below h12 Ss2.lt
          clear lSs2 Ss2c0 Ss2c1
          have lSs2 := Ss2.lt
          have Ss2c0 := Ss2.cell 0
          have Ss2c1 := Ss2.cell 1
          try simp at Ss2c0 Ss2c1
          replace Sr1 := Sr1.below h12 Sr1.lt
          clear lSr1 Sr1c0 Sr1c1
          have lSr1 := Sr1.lt
          have Sr1c0 := Sr1.cell 0
          have Sr1c1 := Sr1.cell 1
          try simp at Sr1c0 Sr1c1
          replace Sr2 := Sr2.below h12 Sr2.lt
          clear lSr2 Sr2c0 Sr2c1
          have lSr2 := Sr2.lt
          have Sr2c0 := Sr2.cell 0
          have Sr2c1 := Sr2.cell 1
          try simp at Sr2c0 Sr2c1
          go_wp2
          go_ret
          exact ⟨rfl, ba.trans (b12.mono ba.size)⟩
        | some r =>
          have EB := Lib.hid hb
          clear hb
          have lZ := Z.lt
          have Zc0 := Z.cell 0
          have Zc1 := Z.cell 1
          have Zc2 := Z.cell 2
          have Zc3 := Z.cell 3
          try simp at Zc0 Zc1 Zc2 Zc3
          have lY := Y.lt
          have Yc0 := Y.cell 0
          have Yc1 := Y.cell 1
          have Yc2 := Y.cell 2
          have Yc3 := Y.cell 3
          try simp at Yc0 Yc1 Yc2 Yc3
          go_enter Try.func3, Try.ntmps3
          go_wp2_with fail
          refine (first_own _ (tab_on (tab_on ht ba) b0)).mono ?_
          rintro e w1 ⟨rfl, h1⟩
          have b1 := b0.trans (h1.mono b0.size)
          replace Z := Z.below h1 Z.lt
          clear lZ Zc0 Zc1 Zc2 Zc3
          have lZ := Z.lt
          have Zc0 := Z.cell 0
          have Zc1 := Z.cell 1
          have Zc2 := Z.cell 2
          have Zc3 := Z.cell 3
          try simp at Zc0 Zc1 Zc2 Zc3
          replace Y := Y.below h1 Y.lt
          clear lY Yc0 Yc1 Yc2 Yc3
          have lY := Y.lt
          have Yc0 := Y.cell 0
          have Yc1 := Y.cell 1
          have Yc2 := Y.cell 2
          have Yc3 := Y.cell 3
          try simp at Yc0 Yc1 Yc2 Yc3
          go_wp2_with fail
          refine (few_is _ _ _ _ _ _ _ _ _ _ FW.out).mono ?_
          rintro e w2 ⟨rfl, h2⟩
          have b2 := b1.trans (h2.mono b1.size)
          replace Z := Z.below h2 Z.lt
          clear lZ Zc0 Zc1 Zc2 Zc3
          have lZ := Z.lt
          have Zc0 := Z.cell 0
          have Zc1 := Z.cell 1
          have Zc2 := Z.cell 2
          have Zc3 := Z.cell 3
          try simp at Zc0 Zc1 Zc2 Zc3
          replace Y := Y.below h2 Y.lt
          clear lY Yc0 Yc1 Yc2 Yc3
          have lY := Y.lt
          have Yc0 := Y.cell 0
          have Yc1 := Y.cell 1
          have Yc2 := Y.cell 2
          have Yc3 := Y.cell 3
          try simp at Yc0 Yc1 Yc2 Yc3
          go_wp2_with fail
          refine (few_is _ _ _ _ _ _ _ _ _ _ FY.out).mono ?_
          rintro e w3 ⟨rfl, h3⟩
          have b3 := b2.trans (h3.mono b2.size)
          replace Z := Z.below h3 Z.lt
          clear lZ Zc0 Zc1 Zc2 Zc3
          have lZ := Z.lt
          have Zc0 := Z.cell 0
          have Zc1 := Z.cell 1
          have Zc2 := Z.cell 2
          have Zc3 := Z.cell 3
          try simp at Zc0 Zc1 Zc2 Zc3
          replace Y := Y.below h3 Y.lt
          clear lY Yc0 Yc1 Yc2 Yc3
          have lY := Y.lt
          have Yc0 := Y.cell 0
          have Yc1 := Y.cell 1
          have Yc2 := Y.cell 2
          have Yc3 := Y.cell 3
          try simp at Yc0 Yc1 Yc2 Yc3
          go_wp2_with fail
          refine (Before_none _ b f A A' n c n' c' l ys _ EA.out (hz0.below b3)).mono ?_
          rintro e w4 ⟨rfl, h4⟩
          have b4 := b3.trans (h4.mono b3.size)
          replace Z := Z.below h4 Z.lt
          clear lZ Zc0 Zc1 Zc2 Zc3
          have lZ := Z.lt
          have Zc0 := Z.cell 0
          have Zc1 := Z.cell 1
          have Zc2 := Z.cell 2
          have Zc3 := Z.cell 3
          try simp at Zc0 Zc1 Zc2 Zc3
          replace Y := Y.below h4 Y.lt
          clear lY Yc0 Yc1 Yc2 Yc3
          have lY := Y.lt
          have Yc0 := Y.cell 0
          have Yc1 := Y.cell 1
          have Yc2 := Y.cell 2
          have Yc3 := Y.cell 3
          try simp at Yc0 Yc1 Yc2 Yc3
          have Ss1 := Blk.new w4 29 #[.int .i64 0, .int .i64 0]
          have a5 := (Below.refl _ _).alloc (Nat.le_refl _) (.cells #[.int .i64 0, .int .i64 0] 29) (w := w4)
          have b5 := b4.trans (a5.mono b4.size)
          replace Z := Z.below a5 Z.lt
          clear lZ Zc0 Zc1 Zc2 Zc3
          have lZ := Z.lt
          have Zc0 := Z.cell 0
          have Zc1 := Z.cell 1
          have Zc2 := Z.cell 2
          have Zc3 := Z.cell 3
          try simp at Zc0 Zc1 Zc2 Zc3
          replace Y := Y.below a5 Y.lt
          clear lY Yc0 Yc1 Yc2 Yc3
          have lY := Y.lt
          have Yc0 := Y.cell 0
          have Yc1 := Y.cell 1
          have Yc2 := Y.cell 2
          have Yc3 := Y.cell 3
          try simp at Yc0 Yc1 Yc2 Yc3
          have lSs1 := Ss1.lt
          have Ss1c0 := Ss1.cell 0
          have Ss1c1 := Ss1.cell 1
          try simp at Ss1c0 Ss1c1
          go_wp2_with fail
          refine (rBef_none _ b f A A' n c n' c' l ys _ EA.out (hz0.below b5) HC.out).mono ?_
          rintro e w6 ⟨rfl, h6⟩
          have b6 := b5.trans (h6.mono b5.size)
          replace Z := Z.below h6 Z.lt
          clear lZ Zc0 Zc1 Zc2 Zc3
          have lZ := Z.lt
          have Zc0 := Z.cell 0
          have Zc1 := Z.cell 1
          have Zc2 := Z.cell 2
          have Zc3 := Z.cell 3
          try simp at Zc0 Zc1 Zc2 Zc3
          replace Y := Y.below h6 Y.lt
          clear lY Yc0 Yc1 Yc2 Yc3
          have lY := Y.lt
          have Yc0 := Y.cell 0
          have Yc1 := Y.cell 1
          have Yc2 := Y.cell 2
          have Yc3 := Y.cell 3
          try simp at Yc0 Yc1 Yc2 Yc3
          replace Ss1 := Ss1.below h6 Ss1.lt
          clear lSs1 Ss1c0 Ss1c1
          have lSs1 := Ss1.lt
          have Ss1c0 := Ss1.cell 0
          have Ss1c1 := Ss1.cell 1
          try simp at Ss1c0 Ss1c1
          have Ss2 := Blk.new w6 29 #[.int .i64 0, .int .i64 0]
          have a7 := (Below.refl _ _).alloc (Nat.le_refl _) (.cells #[.int .i64 0, .int .i64 0] 29) (w := w6)
          have b7 := b6.trans (a7.mono b6.size)
          replace Z := Z.below a7 Z.lt
          clear lZ Zc0 Zc1 Zc2 Zc3
          have lZ := Z.lt
          have Zc0 := Z.cell 0
          have Zc1 := Z.cell 1
          have Zc2 := Z.cell 2
          have Zc3 := Z.cell 3
          try simp at Zc0 Zc1 Zc2 Zc3
          replace Y := Y.below a7 Y.lt
          clear lY Yc0 Yc1 Yc2 Yc3
          have lY := Y.lt
          have Yc0 := Y.cell 0
          have Yc1 := Y.cell 1
          have Yc2 := Y.cell 2
          have Yc3 := Y.cell 3
          try simp at Yc0 Yc1 Yc2 Yc3
          replace Ss1 := Ss1.below a7 Ss1.lt
          clear lSs1 Ss1c0 Ss1c1
          have lSs1 := Ss1.lt
          have Ss1c0 := Ss1.cell 0
          have Ss1c1 := Ss1.cell 1
          try simp at Ss1c0 Ss1c1
          have lSs2 := Ss2.lt
          have Ss2c0 := Ss2.cell 0
          have Ss2c1 := Ss2.cell 1
          try simp at Ss2c0 Ss2c1
          go_wp2_with fail
          refine (After_some _ b f A A' n c n' c' l ys _ _ EB.out (hz0.below b7)).mono ?_
          rintro e w8 ⟨rfl, h8⟩
          have b8 := b7.trans (h8.mono b7.size)
          replace Z := Z.below h8 Z.lt
          clear lZ Zc0 Zc1 Zc2 Zc3
          have lZ := Z.lt
          have Zc0 := Z.cell 0
          have Zc1 := Z.cell 1
          have Zc2 := Z.cell 2
          have Zc3 := Z.cell 3
          try simp at Zc0 Zc1 Zc2 Zc3
          replace Y := Y.below h8 Y.lt
          clear lY Yc0 Yc1 Yc2 Yc3
          have lY := Y.lt
          have Yc0 := Y.cell 0
          have Yc1 := Y.cell 1
          have Yc2 := Y.cell 2
          have Yc3 := Y.cell 3
          try simp at Yc0 Yc1 Yc2 Yc3
          replace Ss1 := Ss1.below h8 Ss1.lt
          clear lSs1 Ss1c0 Ss1c1
          have lSs1 := Ss1.lt
          have Ss1c0 := Ss1.cell 0
          have Ss1c1 := Ss1.cell 1
          try simp at Ss1c0 Ss1c1
          replace Ss2 := Ss2.below h8 Ss2.lt
          clear lSs2 Ss2c0 Ss2c1
          have lSs2 := Ss2.lt
          have Ss2c0 := Ss2.cell 0
          have Ss2c1 := Ss2.cell 1
          try simp at Ss2c0 Ss2c1
          have Sr1 := Blk.new w8 29 #[.int .i64 r.t, .int .i64 r.o]
          have a9 := (Below.refl _ _).alloc (Nat.le_refl _) (.cells #[.int .i64 r.t, .int .i64 r.o] 29) (w := w8)
          have b9 := b8.trans (a9.mono b8.size)
          replace Z := Z.below a9 Z.lt
          clear lZ Zc0 Zc1 Zc2 Zc3
          have lZ := Z.lt
          have Zc0 := Z.cell 0
          have Zc1 := Z.cell 1
          have Zc2 := Z.cell 2
          have Zc3 := Z.cell 3
          try simp at Zc0 Zc1 Zc2 Zc3
          replace Y := Y.below a9 Y.lt
          clear lY Yc0 Yc1 Yc2 Yc3
          have lY := Y.lt
          have Yc0 := Y.cell 0
          have Yc1 := Y.cell 1
          have Yc2 := Y.cell 2
          have Yc3 := Y.cell 3
          try simp at Yc0 Yc1 Yc2 Yc3
          replace Ss1 := Ss1.below a9 Ss1.lt
          clear lSs1 Ss1c0 Ss1c1
          have lSs1 := Ss1.lt
          have Ss1c0 := Ss1.cell 0
          have Ss1c1 := Ss1.cell 1
          try simp at Ss1c0 Ss1c1
          replace Ss2 := Ss2.below a9 Ss2.lt
          clear lSs2 Ss2c0 Ss2c1
          have lSs2 := Ss2.lt
          have Ss2c0 := Ss2.cell 0
          have Ss2c1 := Ss2.cell 1
          try simp at Ss2c0 Ss2c1
          have lSr1 := Sr1.lt
          have Sr1c0 := Sr1.cell 0
          have Sr1c1 := Sr1.cell 1
          try simp at Sr1c0 Sr1c1
          go_wp2_with fail
          refine (rAft_some _ b f A A' n c n' c' l ys _ _ EB.out (hz0.below b9) HC.out).mono ?_
          rintro e w10 ⟨rfl, h10⟩
          have b10 := b9.trans (h10.mono b9.size)
          replace Z := Z.below h10 Z.lt
          clear lZ Zc0 Zc1 Zc2 Zc3
          have lZ := Z.lt
          have Zc0 := Z.cell 0
          have Zc1 := Z.cell 1
          have Zc2 := Z.cell 2
          have Zc3 := Z.cell 3
          try simp at Zc0 Zc1 Zc2 Zc3
          replace Y := Y.below h10 Y.lt
          clear lY Yc0 Yc1 Yc2 Yc3
          have lY := Y.lt
          have Yc0 := Y.cell 0
          have Yc1 := Y.cell 1
          have Yc2 := Y.cell 2
          have Yc3 := Y.cell 3
          try simp at Yc0 Yc1 Yc2 Yc3
          replace Ss1 := Ss1.below h10 Ss1.lt
          clear lSs1 Ss1c0 Ss1c1
          have lSs1 := Ss1.lt
          have Ss1c0 := Ss1.cell 0
          have Ss1c1 := Ss1.cell 1
          try simp at Ss1c0 Ss1c1
          replace Ss2 := Ss2.below h10 Ss2.lt
          clear lSs2 Ss2c0 Ss2c1
          have lSs2 := Ss2.lt
          have Ss2c0 := Ss2.cell 0
          have Ss2c1 := Ss2.cell 1
          try simp at Ss2c0 Ss2c1
          replace Sr1 := Sr1.below h10 Sr1.lt
          clear lSr1 Sr1c0 Sr1c1
          have lSr1 := Sr1.lt
          have Sr1c0 := Sr1.cell 0
          have Sr1c1 := Sr1.cell 1
          try simp at Sr1c0 Sr1c1
          have Sr2 := Blk.new w10 29 #[.int .i64 r.t, .int .i64 r.o]
          have a11 := (Below.refl _ _).alloc (Nat.le_refl _) (.cells #[.int .i64 r.t, .int .i64 r.o] 29) (w := w10)
          have b11 := b10.trans (a11.mono b10.size)
          replace Z := Z.below a11 Z.lt
          clear lZ Zc0 Zc1 Zc2 Zc3
          have lZ := Z.lt
          have Zc0 := Z.cell 0
          have Zc1 := Z.cell 1
          have Zc2 := Z.cell 2
          have Zc3 := Z.cell 3
          try simp at Zc0 Zc1 Zc2 Zc3
          replace Y := Y.below a11 Y.lt
          clear lY Yc0 Yc1 Yc2 Yc3
          have lY := Y.lt
          have Yc0 := Y.cell 0
          have Yc1 := Y.cell 1
          have Yc2 := Y.cell 2
          have Yc3 := Y.cell 3
          try simp at Yc0 Yc1 Yc2 Yc3
          replace Ss1 := Ss1.below a11 Ss1.lt
          clear lSs1 Ss1c0 Ss1c1
          have lSs1 := Ss1.lt
          have Ss1c0 := Ss1.cell 0
          have Ss1c1 := Ss1.cell 1
          try simp at Ss1c0 Ss1c1
          replace Ss2 := Ss2.below a11 Ss2.lt
          clear lSs2 Ss2c0 Ss2c1
          have lSs2 := Ss2.lt
          have Ss2c0 := Ss2.cell 0
          have Ss2c1 := Ss2.cell 1
          try simp at Ss2c0 Ss2c1
          replace Sr1 := Sr1.below a11 Sr1.lt
          clear lSr1 Sr1c0 Sr1c1
          have lSr1 := Sr1.lt
          have Sr1c0 := Sr1.cell 0
          have Sr1c1 := Sr1.cell 1
          try simp at Sr1c0 Sr1c1
          have lSr2 := Sr2.lt
          have Sr2c0 := Sr2.cell 0
          have Sr2c1 := Sr2.cell 1
          try simp at Sr2c0 Sr2c1
          go_wp2_with fail
          generalize (w10.alloc (.cells #[.int .i64 r.t, .int .i64 r.o] 29)) = wz12 at *
          have lZ := Z.lt
          have Zc0 := Z.cell 0
          have Zc1 := Z.cell 1
          have Zc2 := Z.cell 2
          have Zc3 := Z.cell 3
          try simp at Zc0 Zc1 Zc2 Zc3
          have lY := Y.lt
          have Yc0 := Y.cell 0
          have Yc1 := Y.cell 1
          have Yc2 := Y.cell 2
          have Yc3 := Y.cell 3
          try simp at Yc0 Yc1 Yc2 Yc3
          have lSs1 := Ss1.lt
          have Ss1c0 := Ss1.cell 0
          have Ss1c1 := Ss1.cell 1
          try simp at Ss1c0 Ss1c1
          have lSs2 := Ss2.lt
          have Ss2c0 := Ss2.cell 0
          have Ss2c1 := Ss2.cell 1
          try simp at Ss2c0 Ss2c1
          have lSr1 := Sr1.lt
          have Sr1c0 := Sr1.cell 0
          have Sr1c1 := Sr1.cell 1
          try simp at Sr1c0 Sr1c1
          have lSr2 := Sr2.lt
          have Sr2c0 := Sr2.cell 0
          have Sr2c1 := Sr2.cell 1
          try simp at Sr2c0 Sr2c1
          have p12 : Past wz12 wz12 := Below.refl _ _
          have Zq0 : ∀ v : In (Past wz12), v.w.cell? ⟨W.heap.size, 0, none⟩ = some (.int .i64 b) := fun v => (Below.cell (p := ⟨_, 0, none⟩) (show Below _ _ _ from v.h) lZ).trans Zc0
          have Zq1 : ∀ v : In (Past wz12), v.w.cell? ⟨W.heap.size, 1, none⟩ = some (.slice A n c) := fun v => (Below.cell (p := ⟨_, 1, none⟩) (show Below _ _ _ from v.h) lZ).trans Zc1
          have Zq2 : ∀ v : In (Past wz12), v.w.cell? ⟨W.heap.size, 2, none⟩ = some (.slice A' n' c') := fun v => (Below.cell (p := ⟨_, 2, none⟩) (show Below _ _ _ from v.h) lZ).trans Zc2
          have Zq3 : ∀ v : In (Past wz12), v.w.cell? ⟨W.heap.size, 3, none⟩ = some (.int .i64 f) := fun v => (Below.cell (p := ⟨_, 3, none⟩) (show Below _ _ _ from v.h) lZ).trans Zc3
          have Yq0 : ∀ v : In (Past wz12), v.w.cell? ⟨W.heap.size + 1, 0, none⟩ = some (.int .i64 d) := fun v => (Below.cell (p := ⟨_, 0, none⟩) (show Below _ _ _ from v.h) lY).trans Yc0
          have Yq1 : ∀ v : In (Past wz12), v.w.cell? ⟨W.heap.size + 1, 1, none⟩ = some (.slice B m e) := fun v => (Below.cell (p := ⟨_, 1, none⟩) (show Below _ _ _ from v.h) lY).trans Yc1
          have Yq2 : ∀ v : In (Past wz12), v.w.cell? ⟨W.heap.size + 1, 2, none⟩ = some (.slice B' m' e') := fun v => (Below.cell (p := ⟨_, 2, none⟩) (show Below _ _ _ from v.h) lY).trans Yc2
          have Yq3 : ∀ v : In (Past wz12), v.w.cell? ⟨W.heap.size + 1, 3, none⟩ = some (.int .i64 g) := fun v => (Below.cell (p := ⟨_, 3, none⟩) (show Below _ _ _ from v.h) lY).trans Yc3
          have Ss1q0 : ∀ v : In (Past wz12), v.w.cell? ⟨w4.heap.size, 0, none⟩ = some (.int .i64 0) := fun v => (Below.cell (p := ⟨_, 0, none⟩) (show Below _ _ _ from v.h) lSs1).trans Ss1c0
          have Ss1q1 : ∀ v : In (Past wz12), v.w.cell? ⟨w4.heap.size, 1, none⟩ = some (.int .i64 0) := fun v => (Below.cell (p := ⟨_, 1, none⟩) (show Below _ _ _ from v.h) lSs1).trans Ss1c1
          have Ss2q0 : ∀ v : In (Past wz12), v.w.cell? ⟨w6.heap.size, 0, none⟩ = some (.int .i64 0) := fun v => (Below.cell (p := ⟨_, 0, none⟩) (show Below _ _ _ from v.h) lSs2).trans Ss2c0
          have Ss2q1 : ∀ v : In (Past wz12), v.w.cell? ⟨w6.heap.size, 1, none⟩ = some (.int .i64 0) := fun v => (Below.cell (p := ⟨_, 1, none⟩) (show Below _ _ _ from v.h) lSs2).trans Ss2c1
          have Sr1q0 : ∀ v : In (Past wz12), v.w.cell? ⟨w8.heap.size, 0, none⟩ = some (.int .i64 r.t) := fun v => (Below.cell (p := ⟨_, 0, none⟩) (show Below _ _ _ from v.h) lSr1).trans Sr1c0
          have Sr1q1 : ∀ v : In (Past wz12), v.w.cell? ⟨w8.heap.size, 1, none⟩ = some (.int .i64 r.o) := fun v => (Below.cell (p := ⟨_, 1, none⟩) (show Below _ _ _ from v.h) lSr1).trans Sr1c1
          have Sr2q0 : ∀ v : In (Past wz12), v.w.cell? ⟨w10.heap.size, 0, none⟩ = some (.int .i64 r.t) := fun v => (Below.cell (p := ⟨_, 0, none⟩) (show Below _ _ _ from v.h) lSr2).trans Sr2c0
          have Sr2q1 : ∀ v : In (Past wz12), v.w.cell? ⟨w10.heap.size, 1, none⟩ = some (.int .i64 r.o) := fun v => (Below.cell (p := ⟨_, 1, none⟩) (show Below _ _ _ from v.h) lSr2).trans Sr2c1
          have HQ := Lib.hid (fun (v : In (Past wz12)) => (hz0.below b11).below (show Below _ _ _ from v.h))
          have HYQ := Lib.hid (fun (v : In (Past wz12)) => (hy0.below b11).below (show Below _ _ _ from v.h))
          have hne12 : Nonempty (In (Past wz12)) := ⟨⟨_, p12⟩⟩
          have HT := Lib.hid (fun (v : In (Past wz12)) => tab_on (tab_on (tab_on ht ba) b11) (show Below _ _ _ from v.h))
          refine wp_region_class (Past wz12) (by kernel_rfl) (by kernel_rfl) (Past.drew' p12) ?_
          simp only [List.append]
          repeat (any_goals (first | go_big_quiet_step ((first | (with_reducible refine quiet_cl Past.on (first_own _ ?_); all_goals (first | exact HQ.out _ | exact HT.out _ | exact HYQ.out _)) | (with_reducible refine quiet_cl Past.on (zMay_own _ b f A A' n c n' c' l ys _ H.out ?_); all_goals (first | exact HQ.out _ | exact HT.out _ | exact HYQ.out _)) | (with_reducible refine quiet_cl Past.on (rMay_is _ b f A A' n c n' c' l ys _ H.out ?_); all_goals (first | exact HQ.out _ | exact HT.out _ | exact HYQ.out _)) | (with_reducible refine quiet_cl Past.on (Offset_is _ b f A A' n c n' c' l ys _ _ EO.out ?_); all_goals (first | exact HQ.out _ | exact HT.out _ | exact HYQ.out _)) | (with_reducible refine quiet_cl Past.on (rOffset_is _ b f A A' n c n' c' l ys _ _ EO.out ?_ HC.out); all_goals (first | exact HQ.out _ | exact HT.out _ | exact HYQ.out _)) | (with_reducible refine quiet_cl Past.on (Local_is _ b f A A' n c n' c' l ys _ _ EL.out ?_); all_goals (first | exact HQ.out _ | exact HT.out _ | exact HYQ.out _)) | (with_reducible refine quiet_cl Past.on (rLocal_is _ b f A A' n c n' c' l ys _ _ EL.out ?_ HC.out); all_goals (first | exact HQ.out _ | exact HT.out _ | exact HYQ.out _)) | (with_reducible refine quiet_cl Past.on (Same_is _ b f d g A A' B B' n c n' c' m e m' e' l k ys xs _ SM.out ?_ ?_); all_goals (first | exact HQ.out _ | exact HT.out _ | exact HYQ.out _)) | (with_reducible refine quiet_cl Past.on (zoneEq_is _ b f d g A A' B B' n c n' c' m e m' e' l k ys xs _ SM.out ?_ ?_); all_goals (first | exact HQ.out _ | exact HT.out _ | exact HYQ.out _)))) | quiet_step ((first | (with_reducible refine quiet_cl Past.on (first_own _ ?_); all_goals (first | exact HQ.out _ | exact HT.out _ | exact HYQ.out _)) | (with_reducible refine quiet_cl Past.on (zMay_own _ b f A A' n c n' c' l ys _ H.out ?_); all_goals (first | exact HQ.out _ | exact HT.out _ | exact HYQ.out _)) | (with_reducible refine quiet_cl Past.on (rMay_is _ b f A A' n c n' c' l ys _ H.out ?_); all_goals (first | exact HQ.out _ | exact HT.out _ | exact HYQ.out _)) | (with_reducible refine quiet_cl Past.on (Offset_is _ b f A A' n c n' c' l ys _ _ EO.out ?_); all_goals (first | exact HQ.out _ | exact HT.out _ | exact HYQ.out _)) | (with_reducible refine quiet_cl Past.on (rOffset_is _ b f A A' n c n' c' l ys _ _ EO.out ?_ HC.out); all_goals (first | exact HQ.out _ | exact HT.out _ | exact HYQ.out _)) | (with_reducible refine quiet_cl Past.on (Local_is _ b f A A' n c n' c' l ys _ _ EL.out ?_); all_goals (first | exact HQ.out _ | exact HT.out _ | exact HYQ.out _)) | (with_reducible refine quiet_cl Past.on (rLocal_is _ b f A A' n c n' c' l ys _ _ EL.out ?_ HC.out); all_goals (first | exact HQ.out _ | exact HT.out _ | exact HYQ.out _)) | (with_reducible refine quiet_cl Past.on (Same_is _ b f d g A A' B B' n c n' c' m e m' e' l k ys xs _ SM.out ?_ ?_); all_goals (first | exact HQ.out _ | exact HT.out _ | exact HYQ.out _)) | (with_reducible refine quiet_cl Past.on (zoneEq_is _ b f d g A A' B B' n c n' c' m e m' e' l k ys xs _ SM.out ?_ ?_); all_goals (first | exact HQ.out _ | exact HT.out _ | exact HYQ.out _))))))
          refine wpQuiet_nil ?_
          rintro _ ⟨⟨w12, h12⟩, rfl⟩
          replace h12 : Below _ _ _ := h12
          clear HQ HT hne12 p12 HYQ Zq0 Zq1 Zq2 Zq3 Yq0 Yq1 Yq2 Yq3 Ss1q0 Ss1q1 Ss2q0 Ss2q1 Sr1q0 Sr1q1 Sr2q0 Sr2q1
          have b12 := b11.trans (h12.mono b11.size)
          replace Z := Z.below h12 Z.lt
          clear lZ Zc0 Zc1 Zc2 Zc3
          have lZ := Z.lt
          have Zc0 := Z.cell 0
          have Zc1 := Z.cell 1
          have Zc2 := Z.cell 2
          have Zc3 := Z.cell 3
          try simp at Zc0 Zc1 Zc2 Zc3
          replace Y := Y.below h12 Y.lt
          clear lY Yc0 Yc1 Yc2 Yc3
          have lY := Y.lt
          have Yc0 := Y.cell 0
          have Yc1 := Y.cell 1
          have Yc2 := Y.cell 2
          have Yc3 := Y.cell 3
          try simp at Yc0 Yc1 Yc2 Yc3
          replace Ss1 := Ss1.below h12 Ss1.lt
          clear lSs1 Ss1c0 Ss1c1
          have lSs1 := Ss1.lt
          have Ss1c0 := Ss1.cell 0
          have Ss1c1 := Ss1.cell 1
          try simp at Ss1c0 Ss1c1
          replace Ss2 := Ss2.below h12 Ss2.lt
          clear lSs2 Ss2c0 Ss2c1
          have lSs2 := Ss2.lt
          have Ss2c0 := Ss2.cell 0
          have Ss2c1 := Ss2.cell 1
          try simp at Ss2c0 Ss2c1
          replace Sr1 := Sr1.below h12 Sr1.lt
          clear lSr1 Sr1c0 Sr1c1
          have lSr1 := Sr1.lt
          have Sr1c0 := Sr1.cell 0
          have Sr1c1 := Sr1.cell 1
          try simp at Sr1c0 Sr1c1
          replace Sr2 := Sr2.below h12 Sr2.lt
          clear lSr2 Sr2c0 Sr2c1
          have lSr2 := Sr2.lt
          have Sr2c0 := Sr2.cell 0
          have Sr2c1 := Sr2.cell 1
          try simp at Sr2c0 Sr2c1
          go_wp2
          go_ret
          exact ⟨rfl, ba.trans (b12.mono ba.size)⟩
      | some s =>
        have EA := Lib.hid ha
        clear ha
        cases hb : aftR b l ys f u with
        | none =>
          have EB := Lib.hid hb
          clear hb
          have lZ := Z.lt
          have Zc0 := Z.cell 0
          have Zc1 := Z.cell 1
          have Zc2 := Z.cell 2
          have Zc3 := Z.cell 3
          try simp at Zc0 Zc1 Zc2 Zc3
          have lY := Y.lt
          have Yc0 := Y.cell 0
          have Yc1 := Y.cell 1
          have Yc2 := Y.cell 2
          have Yc3 := Y.cell 3
          try simp at Yc0 Yc1 Yc2 Yc3
          go_enter Try.func3, Try.ntmps3
          go_wp2_with fail
          refine (first_own _ (tab_on (tab_on ht ba) b0)).mono ?_
          rintro e w1 ⟨rfl, h1⟩
          have b1 := b0.trans (h1.mono b0.size)
          replace Z := Z.below h1 Z.lt
          clear lZ Zc0 Zc1 Zc2 Zc3
          have lZ := Z.lt
          have Zc0 := Z.cell 0
          have Zc1 := Z.cell 1
          have Zc2 := Z.cell 2
          have Zc3 := Z.cell 3
          try simp at Zc0 Zc1 Zc2 Zc3
          replace Y := Y.below h1 Y.lt
          clear lY Yc0 Yc1 Yc2 Yc3
          have lY := Y.lt
          have Yc0 := Y.cell 0
          have Yc1 := Y.cell 1
          have Yc2 := Y.cell 2
          have Yc3 := Y.cell 3
          try simp at Yc0 Yc1 Yc2 Yc3
          go_wp2_with fail
          refine (few_is _ _ _ _ _ _ _ _ _ _ FW.out).mono ?_
          rintro e w2 ⟨rfl, h2⟩
          have b2 := b1.trans (h2.mono b1.size)
          replace Z := Z.below h2 Z.lt
          clear lZ Zc0 Zc1 Zc2 Zc3
          have lZ := Z.lt
          have Zc0 := Z.cell 0
          have Zc1 := Z.cell 1
          have Zc2 := Z.cell 2
          have Zc3 := Z.cell 3
          try simp at Zc0 Zc1 Zc2 Zc3
          replace Y := Y.below h2 Y.lt
          clear lY Yc0 Yc1 Yc2 Yc3
          have lY := Y.lt
          have Yc0 := Y.cell 0
          have Yc1 := Y.cell 1
          have Yc2 := Y.cell 2
          have Yc3 := Y.cell 3
          try simp at Yc0 Yc1 Yc2 Yc3
          go_wp2_with fail
          refine (few_is _ _ _ _ _ _ _ _ _ _ FY.out).mono ?_
          rintro e w3 ⟨rfl, h3⟩
          have b3 := b2.trans (h3.mono b2.size)
          replace Z := Z.below h3 Z.lt
          clear lZ Zc0 Zc1 Zc2 Zc3
          have lZ := Z.lt
          have Zc0 := Z.cell 0
          have Zc1 := Z.cell 1
          have Zc2 := Z.cell 2
          have Zc3 := Z.cell 3
          try simp at Zc0 Zc1 Zc2 Zc3
          replace Y := Y.below h3 Y.lt
          clear lY Yc0 Yc1 Yc2 Yc3
          have lY := Y.lt
          have Yc0 := Y.cell 0
          have Yc1 := Y.cell 1
          have Yc2 := Y.cell 2
          have Yc3 := Y.cell 3
          try simp at Yc0 Yc1 Yc2 Yc3
          go_wp2_with fail
          refine (Before_some _ b f A A' n c n' c' l ys _ _ EA.out (hz0.below b3)).mono ?_
          rintro e w4 ⟨rfl, h4⟩
          have b4 := b3.trans (h4.mono b3.size)
          replace Z := Z.below h4 Z.lt
          clear lZ Zc0 Zc1 Zc2 Zc3
          have lZ := Z.lt
          have Zc0 := Z.cell 0
          have Zc1 := Z.cell 1
          have Zc2 := Z.cell 2
          have Zc3 := Z.cell 3
          try simp at Zc0 Zc1 Zc2 Zc3
          replace Y := Y.below h4 Y.lt
          clear lY Yc0 Yc1 Yc2 Yc3
          have lY := Y.lt
          have Yc0 := Y.cell 0
          have Yc1 := Y.cell 1
          have Yc2 := Y.cell 2
          have Yc3 := Y.cell 3
          try simp at Yc0 Yc1 Yc2 Yc3
          have Ss1 := Blk.new w4 29 #[.int .i64 s.t, .int .i64 s.o]
          have a5 := (Below.refl _ _).alloc (Nat.le_refl _) (.cells #[.int .i64 s.t, .int .i64 s.o] 29) (w := w4)
          have b5 := b4.trans (a5.mono b4.size)
          replace Z := Z.below a5 Z.lt
          clear lZ Zc0 Zc1 Zc2 Zc3
          have lZ := Z.lt
          have Zc0 := Z.cell 0
          have Zc1 := Z.cell 1
          have Zc2 := Z.cell 2
          have Zc3 := Z.cell 3
          try simp at Zc0 Zc1 Zc2 Zc3
          replace Y := Y.below a5 Y.lt
          clear lY Yc0 Yc1 Yc2 Yc3
          have lY := Y.lt
          have Yc0 := Y.cell 0
          have Yc1 := Y.cell 1
          have Yc2 := Y.cell 2
          have Yc3 := Y.cell 3
          try simp at Yc0 Yc1 Yc2 Yc3
          have lSs1 := Ss1.lt
          have Ss1c0 := Ss1.cell 0
          have Ss1c1 := Ss1.cell 1
          try simp at Ss1c0 Ss1c1
          go_wp2_with fail
          refine (rBef_some _ b f A A' n c n' c' l ys _ _ EA.out (hz0.below b5) HC.out).mono ?_
          rintro e w6 ⟨rfl, h6⟩
          have b6 := b5.trans (h6.mono b5.size)
          replace Z := Z.below h6 Z.lt
          clear lZ Zc0 Zc1 Zc2 Zc3
          have lZ := Z.lt
          have Zc0 := Z.cell 0
          have Zc1 := Z.cell 1
          have Zc2 := Z.cell 2
          have Zc3 := Z.cell 3
          try simp at Zc0 Zc1 Zc2 Zc3
          replace Y := Y.below h6 Y.lt
          clear lY Yc0 Yc1 Yc2 Yc3
          have lY := Y.lt
          have Yc0 := Y.cell 0
          have Yc1 := Y.cell 1
          have Yc2 := Y.cell 2
          have Yc3 := Y.cell 3
          try simp at Yc0 Yc1 Yc2 Yc3
          replace Ss1 := Ss1.below h6 Ss1.lt
          clear lSs1 Ss1c0 Ss1c1
          have lSs1 := Ss1.lt
          have Ss1c0 := Ss1.cell 0
          have Ss1c1 := Ss1.cell 1
          try simp at Ss1c0 Ss1c1
          have Ss2 := Blk.new w6 29 #[.int .i64 s.t, .int .i64 s.o]
          have a7 := (Below.refl _ _).alloc (Nat.le_refl _) (.cells #[.int .i64 s.t, .int .i64 s.o] 29) (w := w6)
          have b7 := b6.trans (a7.mono b6.size)
          replace Z := Z.below a7 Z.lt
          clear lZ Zc0 Zc1 Zc2 Zc3
          have lZ := Z.lt
          have Zc0 := Z.cell 0
          have Zc1 := Z.cell 1
          have Zc2 := Z.cell 2
          have Zc3 := Z.cell 3
          try simp at Zc0 Zc1 Zc2 Zc3
          replace Y := Y.below a7 Y.lt
          clear lY Yc0 Yc1 Yc2 Yc3
          have lY := Y.lt
          have Yc0 := Y.cell 0
          have Yc1 := Y.cell 1
          have Yc2 := Y.cell 2
          have Yc3 := Y.cell 3
          try simp at Yc0 Yc1 Yc2 Yc3
          replace Ss1 := Ss1.below a7 Ss1.lt
          clear lSs1 Ss1c0 Ss1c1
          have lSs1 := Ss1.lt
          have Ss1c0 := Ss1.cell 0
          have Ss1c1 := Ss1.cell 1
          try simp at Ss1c0 Ss1c1
          have lSs2 := Ss2.lt
          have Ss2c0 := Ss2.cell 0
          have Ss2c1 := Ss2.cell 1
          try simp at Ss2c0 Ss2c1
          go_wp2_with fail
          refine (After_none _ b f A A' n c n' c' l ys _ EB.out (hz0.below b7)).mono ?_
          rintro e w8 ⟨rfl, h8⟩
          have b8 := b7.trans (h8.mono b7.size)
          replace Z := Z.below h8 Z.lt
          clear lZ Zc0 Zc1 Zc2 Zc3
          have lZ := Z.lt
          have Zc0 := Z.cell 0
          have Zc1 := Z.cell 1
          have Zc2 := Z.cell 2
          have Zc3 := Z.cell 3
          try simp at Zc0 Zc1 Zc2 Zc3
          replace Y := Y.below h8 Y.lt
          clear lY Yc0 Yc1 Yc2 Yc3
          have lY := Y.lt
          have Yc0 := Y.cell 0
          have Yc1 := Y.cell 1
          have Yc2 := Y.cell 2
          have Yc3 := Y.cell 3
          try simp at Yc0 Yc1 Yc2 Yc3
          replace Ss1 := Ss1.below h8 Ss1.lt
          clear lSs1 Ss1c0 Ss1c1
          have lSs1 := Ss1.lt
          have Ss1c0 := Ss1.cell 0
          have Ss1c1 := Ss1.cell 1
          try simp at Ss1c0 Ss1c1
          replace Ss2 := Ss2.below h8 Ss2.lt
          clear lSs2 Ss2c0 Ss2c1
          have lSs2 := Ss2.lt
          have Ss2c0 := Ss2.cell 0
          have Ss2c1 := Ss2.cell 1
          try simp at Ss2c0 Ss2c1
          have Sr1 := Blk.new w8 29 #[.int .i64 0, .int .i64 0]
          have a9 := (Below.refl _ _).alloc (Nat.le_refl _) (.cells #[.int .i64 0, .int .i64 0] 29) (w := w8)
          have b9 := b8.trans (a9.mono b8.size)
          replace Z := Z.below a9 Z.lt
          clear lZ Zc0 Zc1 Zc2 Zc3
          have lZ := Z.lt
          have Zc0 := Z.cell 0
          have Zc1 := Z.cell 1
          have Zc2 := Z.cell 2
          have Zc3 := Z.cell 3
          try simp at Zc0 Zc1 Zc2 Zc3
          replace Y := Y.below a9 Y.lt
          clear lY Yc0 Yc1 Yc2 Yc3
          have lY := Y.lt
          have Yc0 := Y.cell 0
          have Yc1 := Y.cell 1
          have Yc2 := Y.cell 2
          have Yc3 := Y.cell 3
          try simp at Yc0 Yc1 Yc2 Yc3
          replace Ss1 := Ss1.below a9 Ss1.lt
          clear lSs1 Ss1c0 Ss1c1
          have lSs1 := Ss1.lt
          have Ss1c0 := Ss1.cell 0
          have Ss1c1 := Ss1.cell 1
          try simp at Ss1c0 Ss1c1
          replace Ss2 := Ss2.below a9 Ss2.lt
          clear lSs2 Ss2c0 Ss2c1
          have lSs2 := Ss2.lt
          have Ss2c0 := Ss2.cell 0
          have Ss2c1 := Ss2.cell 1
          try simp at Ss2c0 Ss2c1
          have lSr1 := Sr1.lt
          have Sr1c0 := Sr1.cell 0
          have Sr1c1 := Sr1.cell 1
          try simp at Sr1c0 Sr1c1
          go_wp2_with fail
          refine (rAft_none _ b f A A' n c n' c' l ys _ EB.out (hz0.below b9) HC.out).mono ?_
          rintro e w10 ⟨rfl, h10⟩
          have b10 := b9.trans (h10.mono b9.size)
          replace Z := Z.below h10 Z.lt
          clear lZ Zc0 Zc1 Zc2 Zc3
          have lZ := Z.lt
          have Zc0 := Z.cell 0
          have Zc1 := Z.cell 1
          have Zc2 := Z.cell 2
          have Zc3 := Z.cell 3
          try simp at Zc0 Zc1 Zc2 Zc3
          replace Y := Y.below h10 Y.lt
          clear lY Yc0 Yc1 Yc2 Yc3
          have lY := Y.lt
          have Yc0 := Y.cell 0
          have Yc1 := Y.cell 1
          have Yc2 := Y.cell 2
          have Yc3 := Y.cell 3
          try simp at Yc0 Yc1 Yc2 Yc3
          replace Ss1 := Ss1.below h10 Ss1.lt
          clear lSs1 Ss1c0 Ss1c1
          have lSs1 := Ss1.lt
          have Ss1c0 := Ss1.cell 0
          have Ss1c1 := Ss1.cell 1
          try simp at Ss1c0 Ss1c1
          replace Ss2 := Ss2.below h10 Ss2.lt
          clear lSs2 Ss2c0 Ss2c1
          have lSs2 := Ss2.lt
          have Ss2c0 := Ss2.cell 0
          have Ss2c1 := Ss2.cell 1
          try simp at Ss2c0 Ss2c1
          replace Sr1 := Sr1.below h10 Sr1.lt
          clear lSr1 Sr1c0 Sr1c1
          have lSr1 := Sr1.lt
          have Sr1c0 := Sr1.cell 0
          have Sr1c1 := Sr1.cell 1
          try simp at Sr1c0 Sr1c1
          have Sr2 := Blk.new w10 29 #[.int .i64 0, .int .i64 0]
          have a11 := (Below.refl _ _).alloc (Nat.le_refl _) (.cells #[.int .i64 0, .int .i64 0] 29) (w := w10)
          have b11 := b10.trans (a11.mono b10.size)
          replace Z := Z.below a11 Z.lt
          clear lZ Zc0 Zc1 Zc2 Zc3
          have lZ := Z.lt
          have Zc0 := Z.cell 0
          have Zc1 := Z.cell 1
          have Zc2 := Z.cell 2
          have Zc3 := Z.cell 3
          try simp at Zc0 Zc1 Zc2 Zc3
          replace Y := Y.below a11 Y.lt
          clear lY Yc0 Yc1 Yc2 Yc3
          have lY := Y.lt
          have Yc0 := Y.cell 0
          have Yc1 := Y.cell 1
          have Yc2 := Y.cell 2
          have Yc3 := Y.cell 3
          try simp at Yc0 Yc1 Yc2 Yc3
          replace Ss1 := Ss1.below a11 Ss1.lt
          clear lSs1 Ss1c0 Ss1c1
          have lSs1 := Ss1.lt
          have Ss1c0 := Ss1.cell 0
          have Ss1c1 := Ss1.cell 1
          try simp at Ss1c0 Ss1c1
          replace Ss2 := Ss2.below a11 Ss2.lt
          clear lSs2 Ss2c0 Ss2c1
          have lSs2 := Ss2.lt
          have Ss2c0 := Ss2.cell 0
          have Ss2c1 := Ss2.cell 1
          try simp at Ss2c0 Ss2c1
          replace Sr1 := Sr1.below a11 Sr1.lt
          clear lSr1 Sr1c0 Sr1c1
          have lSr1 := Sr1.lt
          have Sr1c0 := Sr1.cell 0
          have Sr1c1 := Sr1.cell 1
          try simp at Sr1c0 Sr1c1
          have lSr2 := Sr2.lt
          have Sr2c0 := Sr2.cell 0
          have Sr2c1 := Sr2.cell 1
          try simp at Sr2c0 Sr2c1
          go_wp2_with fail
          generalize (w10.alloc (.cells #[.int .i64 0, .int .i64 0] 29)) = wz12 at *
          have lZ := Z.lt
          have Zc0 := Z.cell 0
          have Zc1 := Z.cell 1
          have Zc2 := Z.cell 2
          have Zc3 := Z.cell 3
          try simp at Zc0 Zc1 Zc2 Zc3
          have lY := Y.lt
          have Yc0 := Y.cell 0
          have Yc1 := Y.cell 1
          have Yc2 := Y.cell 2
          have Yc3 := Y.cell 3
          try simp at Yc0 Yc1 Yc2 Yc3
          have lSs1 := Ss1.lt
          have Ss1c0 := Ss1.cell 0
          have Ss1c1 := Ss1.cell 1
          try simp at Ss1c0 Ss1c1
          have lSs2 := Ss2.lt
          have Ss2c0 := Ss2.cell 0
          have Ss2c1 := Ss2.cell 1
          try simp at Ss2c0 Ss2c1
          have lSr1 := Sr1.lt
          have Sr1c0 := Sr1.cell 0
          have Sr1c1 := Sr1.cell 1
          try simp at Sr1c0 Sr1c1
          have lSr2 := Sr2.lt
          have Sr2c0 := Sr2.cell 0
          have Sr2c1 := Sr2.cell 1
          try simp at Sr2c0 Sr2c1
          have p12 : Past wz12 wz12 := Below.refl _ _
          have Zq0 : ∀ v : In (Past wz12), v.w.cell? ⟨W.heap.size, 0, none⟩ = some (.int .i64 b) := fun v => (Below.cell (p := ⟨_, 0, none⟩) (show Below _ _ _ from v.h) lZ).trans Zc0
          have Zq1 : ∀ v : In (Past wz12), v.w.cell? ⟨W.heap.size, 1, none⟩ = some (.slice A n c) := fun v => (Below.cell (p := ⟨_, 1, none⟩) (show Below _ _ _ from v.h) lZ).trans Zc1
          have Zq2 : ∀ v : In (Past wz12), v.w.cell? ⟨W.heap.size, 2, none⟩ = some (.slice A' n' c') := fun v => (Below.cell (p := ⟨_, 2, none⟩) (show Below _ _ _ from v.h) lZ).trans Zc2
          have Zq3 : ∀ v : In (Past wz12), v.w.cell? ⟨W.heap.size, 3, none⟩ = some (.int .i64 f) := fun v => (Below.cell (p := ⟨_, 3, none⟩) (show Below _ _ _ from v.h) lZ).trans Zc3
          have Yq0 : ∀ v : In (Past wz12), v.w.cell? ⟨W.heap.size + 1, 0, none⟩ = some (.int .i64 d) := fun v => (Below.cell (p := ⟨_, 0, none⟩) (show Below _ _ _ from v.h) lY).trans Yc0
          have Yq1 : ∀ v : In (Past wz12), v.w.cell? ⟨W.heap.size + 1, 1, none⟩ = some (.slice B m e) := fun v => (Below.cell (p := ⟨_, 1, none⟩) (show Below _ _ _ from v.h) lY).trans Yc1
          have Yq2 : ∀ v : In (Past wz12), v.w.cell? ⟨W.heap.size + 1, 2, none⟩ = some (.slice B' m' e') := fun v => (Below.cell (p := ⟨_, 2, none⟩) (show Below _ _ _ from v.h) lY).trans Yc2
          have Yq3 : ∀ v : In (Past wz12), v.w.cell? ⟨W.heap.size + 1, 3, none⟩ = some (.int .i64 g) := fun v => (Below.cell (p := ⟨_, 3, none⟩) (show Below _ _ _ from v.h) lY).trans Yc3
          have Ss1q0 : ∀ v : In (Past wz12), v.w.cell? ⟨w4.heap.size, 0, none⟩ = some (.int .i64 s.t) := fun v => (Below.cell (p := ⟨_, 0, none⟩) (show Below _ _ _ from v.h) lSs1).trans Ss1c0
          have Ss1q1 : ∀ v : In (Past wz12), v.w.cell? ⟨w4.heap.size, 1, none⟩ = some (.int .i64 s.o) := fun v => (Below.cell (p := ⟨_, 1, none⟩) (show Below _ _ _ from v.h) lSs1).trans Ss1c1
          have Ss2q0 : ∀ v : In (Past wz12), v.w.cell? ⟨w6.heap.size, 0, none⟩ = some (.int .i64 s.t) := fun v => (Below.cell (p := ⟨_, 0, none⟩) (show Below _ _ _ from v.h) lSs2).trans Ss2c0
          have Ss2q1 : ∀ v : In (Past wz12), v.w.cell? ⟨w6.heap.size, 1, none⟩ = some (.int .i64 s.o) := fun v => (Below.cell (p := ⟨_, 1, none⟩) (show Below _ _ _ from v.h) lSs2).trans Ss2c1
          have Sr1q0 : ∀ v : In (Past wz12), v.w.cell? ⟨w8.heap.size, 0, none⟩ = some (.int .i64 0) := fun v => (Below.cell (p := ⟨_, 0, none⟩) (show Below _ _ _ from v.h) lSr1).trans Sr1c0
          have Sr1q1 : ∀ v : In (Past wz12), v.w.cell? ⟨w8.heap.size, 1, none⟩ = some (.int .i64 0) := fun v => (Below.cell (p := ⟨_, 1, none⟩) (show Below _ _ _ from v.h) lSr1).trans Sr1c1
          have Sr2q0 : ∀ v : In (Past wz12), v.w.cell? ⟨w10.heap.size, 0, none⟩ = some (.int .i64 0) := fun v => (Below.cell (p := ⟨_, 0, none⟩) (show Below _ _ _ from v.h) lSr2).trans Sr2c0
          have Sr2q1 : ∀ v : In (Past wz12), v.w.cell? ⟨w10.heap.size, 1, none⟩ = some (.int .i64 0) := fun v => (Below.cell (p := ⟨_, 1, none⟩) (show Below _ _ _ from v.h) lSr2).trans Sr2c1
          have HQ := Lib.hid (fun (v : In (Past wz12)) => (hz0.below b11).below (show Below _ _ _ from v.h))
          have HYQ := Lib.hid (fun (v : In (Past wz12)) => (hy0.below b11).below (show Below _ _ _ from v.h))
          have hne12 : Nonempty (In (Past wz12)) := ⟨⟨_, p12⟩⟩
          have HT := Lib.hid (fun (v : In (Past wz12)) => tab_on (tab_on (tab_on ht ba) b11) (show Below _ _ _ from v.h))
          refine wp_region_class (Past wz12) (by kernel_rfl) (by kernel_rfl) (Past.drew' p12) ?_
          simp only [List.append]
          repeat (any_goals (first | go_big_quiet_step ((first | (with_reducible refine quiet_cl Past.on (first_own _ ?_); all_goals (first | exact HQ.out _ | exact HT.out _ | exact HYQ.out _)) | (with_reducible refine quiet_cl Past.on (zMay_own _ b f A A' n c n' c' l ys _ H.out ?_); all_goals (first | exact HQ.out _ | exact HT.out _ | exact HYQ.out _)) | (with_reducible refine quiet_cl Past.on (rMay_is _ b f A A' n c n' c' l ys _ H.out ?_); all_goals (first | exact HQ.out _ | exact HT.out _ | exact HYQ.out _)) | (with_reducible refine quiet_cl Past.on (Offset_is _ b f A A' n c n' c' l ys _ _ EO.out ?_); all_goals (first | exact HQ.out _ | exact HT.out _ | exact HYQ.out _)) | (with_reducible refine quiet_cl Past.on (rOffset_is _ b f A A' n c n' c' l ys _ _ EO.out ?_ HC.out); all_goals (first | exact HQ.out _ | exact HT.out _ | exact HYQ.out _)) | (with_reducible refine quiet_cl Past.on (Local_is _ b f A A' n c n' c' l ys _ _ EL.out ?_); all_goals (first | exact HQ.out _ | exact HT.out _ | exact HYQ.out _)) | (with_reducible refine quiet_cl Past.on (rLocal_is _ b f A A' n c n' c' l ys _ _ EL.out ?_ HC.out); all_goals (first | exact HQ.out _ | exact HT.out _ | exact HYQ.out _)) | (with_reducible refine quiet_cl Past.on (Same_is _ b f d g A A' B B' n c n' c' m e m' e' l k ys xs _ SM.out ?_ ?_); all_goals (first | exact HQ.out _ | exact HT.out _ | exact HYQ.out _)) | (with_reducible refine quiet_cl Past.on (zoneEq_is _ b f d g A A' B B' n c n' c' m e m' e' l k ys xs _ SM.out ?_ ?_); all_goals (first | exact HQ.out _ | exact HT.out _ | exact HYQ.out _)))) | quiet_step ((first | (with_reducible refine quiet_cl Past.on (first_own _ ?_); all_goals (first | exact HQ.out _ | exact HT.out _ | exact HYQ.out _)) | (with_reducible refine quiet_cl Past.on (zMay_own _ b f A A' n c n' c' l ys _ H.out ?_); all_goals (first | exact HQ.out _ | exact HT.out _ | exact HYQ.out _)) | (with_reducible refine quiet_cl Past.on (rMay_is _ b f A A' n c n' c' l ys _ H.out ?_); all_goals (first | exact HQ.out _ | exact HT.out _ | exact HYQ.out _)) | (with_reducible refine quiet_cl Past.on (Offset_is _ b f A A' n c n' c' l ys _ _ EO.out ?_); all_goals (first | exact HQ.out _ | exact HT.out _ | exact HYQ.out _)) | (with_reducible refine quiet_cl Past.on (rOffset_is _ b f A A' n c n' c' l ys _ _ EO.out ?_ HC.out); all_goals (first | exact HQ.out _ | exact HT.out _ | exact HYQ.out _)) | (with_reducible refine quiet_cl Past.on (Local_is _ b f A A' n c n' c' l ys _ _ EL.out ?_); all_goals (first | exact HQ.out _ | exact HT.out _ | exact HYQ.out _)) | (with_reducible refine quiet_cl Past.on (rLocal_is _ b f A A' n c n' c' l ys _ _ EL.out ?_ HC.out); all_goals (first | exact HQ.out _ | exact HT.out _ | exact HYQ.out _)) | (with_reducible refine quiet_cl Past.on (Same_is _ b f d g A A' B B' n c n' c' m e m' e' l k ys xs _ SM.out ?_ ?_); all_goals (first | exact HQ.out _ | exact HT.out _ | exact HYQ.out _)) | (with_reducible refine quiet_cl Past.on (zoneEq_is _ b f d g A A' B B' n c n' c' m e m' e' l k ys xs _ SM.out ?_ ?_); all_goals (first | exact HQ.out _ | exact HT.out _ | exact HYQ.out _))))))
          refine wpQuiet_nil ?_
          rintro _ ⟨⟨w12, h12⟩, rfl⟩
          replace h12 : Below _ _ _ := h12
          clear HQ HT hne12 p12 HYQ Zq0 Zq1 Zq2 Zq3 Yq0 Yq1 Yq2 Yq3 Ss1q0 Ss1q1 Ss2q0 Ss2q1 Sr1q0 Sr1q1 Sr2q0 Sr2q1
          have b12 := b11.trans (h12.mono b11.size)
          replace Z := Z.below h12 Z.lt
          clear lZ Zc0 Zc1 Zc2 Zc3
          have lZ := Z.lt
          have Zc0 := Z.cell 0
          have Zc1 := Z.cell 1
          have Zc2 := Z.cell 2
          have Zc3 := Z.cell 3
          try simp at Zc0 Zc1 Zc2 Zc3
          replace Y := Y.below h12 Y.lt
          clear lY Yc0 Yc1 Yc2 Yc3
          have lY := Y.lt
          have Yc0 := Y.cell 0
          have Yc1 := Y.cell 1
          have Yc2 := Y.cell 2
          have Yc3 := Y.cell 3
          try simp at Yc0 Yc1 Yc2 Yc3
          replace Ss1 := Ss1.below h12 Ss1.lt
          clear lSs1 Ss1c0 Ss1c1
          have lSs1 := Ss1.lt
          have Ss1c0 := Ss1.cell 0
          have Ss1c1 := Ss1.cell 1
          try simp at Ss1c0 Ss1c1
          replace Ss2 := Ss2.below h12 Ss2.lt
          clear lSs2 Ss2c0 Ss2c1
          have lSs2 := Ss2.lt
          have Ss2c0 := Ss2.cell 0
          have Ss2c1 := Ss2.cell 1
          try simp at Ss2c0 Ss2c1
          replace Sr1 := Sr1.below h12 Sr1.lt
          clear lSr1 Sr1c0 Sr1c1
          have lSr1 := Sr1.lt
          have Sr1c0 := Sr1.cell 0
          have Sr1c1 := Sr1.cell 1
          try simp at Sr1c0 Sr1c1
          replace Sr2 := Sr2.below h12 Sr2.lt
          clear lSr2 Sr2c0 Sr2c1
          have lSr2 := Sr2.lt
          have Sr2c0 := Sr2.cell 0
          have Sr2c1 := Sr2.cell 1
          try simp at Sr2c0 Sr2c1
          go_wp2
          go_ret
          exact ⟨rfl, ba.trans (b12.mono ba.size)⟩
        | some r =>
          have EB := Lib.hid hb
          clear hb
          have lZ := Z.lt
          have Zc0 := Z.cell 0
          have Zc1 := Z.cell 1
          have Zc2 := Z.cell 2
          have Zc3 := Z.cell 3
          try simp at Zc0 Zc1 Zc2 Zc3
          have lY := Y.lt
          have Yc0 := Y.cell 0
          have Yc1 := Y.cell 1
          have Yc2 := Y.cell 2
          have Yc3 := Y.cell 3
          try simp at Yc0 Yc1 Yc2 Yc3
          go_enter Try.func3, Try.ntmps3
          go_wp2_with fail
          refine (first_own _ (tab_on (tab_on ht ba) b0)).mono ?_
          rintro e w1 ⟨rfl, h1⟩
          have b1 := b0.trans (h1.mono b0.size)
          replace Z := Z.below h1 Z.lt
          clear lZ Zc0 Zc1 Zc2 Zc3
          have lZ := Z.lt
          have Zc0 := Z.cell 0
          have Zc1 := Z.cell 1
          have Zc2 := Z.cell 2
          have Zc3 := Z.cell 3
          try simp at Zc0 Zc1 Zc2 Zc3
          replace Y := Y.below h1 Y.lt
          clear lY Yc0 Yc1 Yc2 Yc3
          have lY := Y.lt
          have Yc0 := Y.cell 0
          have Yc1 := Y.cell 1
          have Yc2 := Y.cell 2
          have Yc3 := Y.cell 3
          try simp at Yc0 Yc1 Yc2 Yc3
          go_wp2_with fail
          refine (few_is _ _ _ _ _ _ _ _ _ _ FW.out).mono ?_
          rintro e w2 ⟨rfl, h2⟩
          have b2 := b1.trans (h2.mono b1.size)
          replace Z := Z.below h2 Z.lt
          clear lZ Zc0 Zc1 Zc2 Zc3
          have lZ := Z.lt
          have Zc0 := Z.cell 0
          have Zc1 := Z.cell 1
          have Zc2 := Z.cell 2
          have Zc3 := Z.cell 3
          try simp at Zc0 Zc1 Zc2 Zc3
          replace Y := Y.below h2 Y.lt
          clear lY Yc0 Yc1 Yc2 Yc3
          have lY := Y.lt
          have Yc0 := Y.cell 0
          have Yc1 := Y.cell 1
          have Yc2 := Y.cell 2
          have Yc3 := Y.cell 3
          try simp at Yc0 Yc1 Yc2 Yc3
          go_wp2_with fail
          refine (few_is _ _ _ _ _ _ _ _ _ _ FY.out).mono ?_
          rintro e w3 ⟨rfl, h3⟩
          have b3 := b2.trans (h3.mono b2.size)
          replace Z := Z.below h3 Z.lt
          clear lZ Zc0 Zc1 Zc2 Zc3
          have lZ := Z.lt
          have Zc0 := Z.cell 0
          have Zc1 := Z.cell 1
          have Zc2 := Z.cell 2
          have Zc3 := Z.cell 3
          try simp at Zc0 Zc1 Zc2 Zc3
          replace Y := Y.below h3 Y.lt
          clear lY Yc0 Yc1 Yc2 Yc3
          have lY := Y.lt
          have Yc0 := Y.cell 0
          have Yc1 := Y.cell 1
          have Yc2 := Y.cell 2
          have Yc3 := Y.cell 3
          try simp at Yc0 Yc1 Yc2 Yc3
          go_wp2_with fail
          refine (Before_some _ b f A A' n c n' c' l ys _ _ EA.out (hz0.below b3)).mono ?_
          rintro e w4 ⟨rfl, h4⟩
          have b4 := b3.trans (h4.mono b3.size)
          replace Z := Z.below h4 Z.lt
          clear lZ Zc0 Zc1 Zc2 Zc3
          have lZ := Z.lt
          have Zc0 := Z.cell 0
          have Zc1 := Z.cell 1
          have Zc2 := Z.cell 2
          have Zc3 := Z.cell 3
          try simp at Zc0 Zc1 Zc2 Zc3
          replace Y := Y.below h4 Y.lt
          clear lY Yc0 Yc1 Yc2 Yc3
          have lY := Y.lt
          have Yc0 := Y.cell 0
          have Yc1 := Y.cell 1
          have Yc2 := Y.cell 2
          have Yc3 := Y.cell 3
          try simp at Yc0 Yc1 Yc2 Yc3
          have Ss1 := Blk.new w4 29 #[.int .i64 s.t, .int .i64 s.o]
          have a5 := (Below.refl _ _).alloc (Nat.le_refl _) (.cells #[.int .i64 s.t, .int .i64 s.o] 29) (w := w4)
          have b5 := b4.trans (a5.mono b4.size)
          replace Z := Z.below a5 Z.lt
          clear lZ Zc0 Zc1 Zc2 Zc3
          have lZ := Z.lt
          have Zc0 := Z.cell 0
          have Zc1 := Z.cell 1
          have Zc2 := Z.cell 2
          have Zc3 := Z.cell 3
          try simp at Zc0 Zc1 Zc2 Zc3
          replace Y := Y.below a5 Y.lt
          clear lY Yc0 Yc1 Yc2 Yc3
          have lY := Y.lt
          have Yc0 := Y.cell 0
          have Yc1 := Y.cell 1
          have Yc2 := Y.cell 2
          have Yc3 := Y.cell 3
          try simp at Yc0 Yc1 Yc2 Yc3
          have lSs1 := Ss1.lt
          have Ss1c0 := Ss1.cell 0
          have Ss1c1 := Ss1.cell 1
          try simp at Ss1c0 Ss1c1
          go_wp2_with fail
          refine (rBef_some _ b f A A' n c n' c' l ys _ _ EA.out (hz0.below b5) HC.out).mono ?_
          rintro e w6 ⟨rfl, h6⟩
          have b6 := b5.trans (h6.mono b5.size)
          replace Z := Z.below h6 Z.lt
          clear lZ Zc0 Zc1 Zc2 Zc3
          have lZ := Z.lt
          have Zc0 := Z.cell 0
          have Zc1 := Z.cell 1
          have Zc2 := Z.cell 2
          have Zc3 := Z.cell 3
          try simp at Zc0 Zc1 Zc2 Zc3
          replace Y := Y.below h6 Y.lt
          clear lY Yc0 Yc1 Yc2 Yc3
          have lY := Y.lt
          have Yc0 := Y.cell 0
          have Yc1 := Y.cell 1
          have Yc2 := Y.cell 2
          have Yc3 := Y.cell 3
          try simp at Yc0 Yc1 Yc2 Yc3
          replace Ss1 := Ss1.below h6 Ss1.lt
          clear lSs1 Ss1c0 Ss1c1
          have lSs1 := Ss1.lt
          have Ss1c0 := Ss1.cell 0
          have Ss1c1 := Ss1.cell 1
          try simp at Ss1c0 Ss1c1
          have Ss2 := Blk.new w6 29 #[.int .i64 s.t, .int .i64 s.o]
          have a7 := (Below.refl _ _).alloc (Nat.le_refl _) (.cells #[.int .i64 s.t, .int .i64 s.o] 29) (w := w6)
          have b7 := b6.trans (a7.mono b6.size)
          replace Z := Z.below a7 Z.lt
          clear lZ Zc0 Zc1 Zc2 Zc3
          have lZ := Z.lt
          have Zc0 := Z.cell 0
          have Zc1 := Z.cell 1
          have Zc2 := Z.cell 2
          have Zc3 := Z.cell 3
          try simp at Zc0 Zc1 Zc2 Zc3
          replace Y := Y.below a7 Y.lt
          clear lY Yc0 Yc1 Yc2 Yc3
          have lY := Y.lt
          have Yc0 := Y.cell 0
          have Yc1 := Y.cell 1
          have Yc2 := Y.cell 2
          have Yc3 := Y.cell 3
          try simp at Yc0 Yc1 Yc2 Yc3
          replace Ss1 := Ss1.below a7 Ss1.lt
          clear lSs1 Ss1c0 Ss1c1
          have lSs1 := Ss1.lt
          have Ss1c0 := Ss1.cell 0
          have Ss1c1 := Ss1.cell 1
          try simp at Ss1c0 Ss1c1
          have lSs2 := Ss2.lt
          have Ss2c0 := Ss2.cell 0
          have Ss2c1 := Ss2.cell 1
          try simp at Ss2c0 Ss2c1
          go_wp2_with fail
          refine (After_some _ b f A A' n c n' c' l ys _ _ EB.out (hz0.below b7)).mono ?_
          rintro e w8 ⟨rfl, h8⟩
          have b8 := b7.trans (h8.mono b7.size)
          replace Z := Z.below h8 Z.lt
          clear lZ Zc0 Zc1 Zc2 Zc3
          have lZ := Z.lt
          have Zc0 := Z.cell 0
          have Zc1 := Z.cell 1
          have Zc2 := Z.cell 2
          have Zc3 := Z.cell 3
          try simp at Zc0 Zc1 Zc2 Zc3
          replace Y := Y.below h8 Y.lt
          clear lY Yc0 Yc1 Yc2 Yc3
          have lY := Y.lt
          have Yc0 := Y.cell 0
          have Yc1 := Y.cell 1
          have Yc2 := Y.cell 2
          have Yc3 := Y.cell 3
          try simp at Yc0 Yc1 Yc2 Yc3
          replace Ss1 := Ss1.below h8 Ss1.lt
          clear lSs1 Ss1c0 Ss1c1
          have lSs1 := Ss1.lt
          have Ss1c0 := Ss1.cell 0
          have Ss1c1 := Ss1.cell 1
          try simp at Ss1c0 Ss1c1
          replace Ss2 := Ss2.below h8 Ss2.lt
          clear lSs2 Ss2c0 Ss2c1
          have lSs2 := Ss2.lt
          have Ss2c0 := Ss2.cell 0
          have Ss2c1 := Ss2.cell 1
          try simp at Ss2c0 Ss2c1
          have Sr1 := Blk.new w8 29 #[.int .i64 r.t, .int .i64 r.o]
          have a9 := (Below.refl _ _).alloc (Nat.le_refl _) (.cells #[.int .i64 r.t, .int .i64 r.o] 29) (w := w8)
          have b9 := b8.trans (a9.mono b8.size)
          replace Z := Z.below a9 Z.lt
          clear lZ Zc0 Zc1 Zc2 Zc3
          have lZ := Z.lt
          have Zc0 := Z.cell 0
          have Zc1 := Z.cell 1
          have Zc2 := Z.cell 2
          have Zc3 := Z.cell 3
          try simp at Zc0 Zc1 Zc2 Zc3
          replace Y := Y.below a9 Y.lt
          clear lY Yc0 Yc1 Yc2 Yc3
          have lY := Y.lt
          have Yc0 := Y.cell 0
          have Yc1 := Y.cell 1
          have Yc2 := Y.cell 2
          have Yc3 := Y.cell 3
          try simp at Yc0 Yc1 Yc2 Yc3
          replace Ss1 := Ss1.below a9 Ss1.lt
          clear lSs1 Ss1c0 Ss1c1
          have lSs1 := Ss1.lt
          have Ss1c0 := Ss1.cell 0
          have Ss1c1 := Ss1.cell 1
          try simp at Ss1c0 Ss1c1
          replace Ss2 := Ss2.below a9 Ss2.lt
          clear lSs2 Ss2c0 Ss2c1
          have lSs2 := Ss2.lt
          have Ss2c0 := Ss2.cell 0
          have Ss2c1 := Ss2.cell 1
          try simp at Ss2c0 Ss2c1
          have lSr1 := Sr1.lt
          have Sr1c0 := Sr1.cell 0
          have Sr1c1 := Sr1.cell 1
          try simp at Sr1c0 Sr1c1
          go_wp2_with fail
          refine (rAft_some _ b f A A' n c n' c' l ys _ _ EB.out (hz0.below b9) HC.out).mono ?_
          rintro e w10 ⟨rfl, h10⟩
          have b10 := b9.trans (h10.mono b9.size)
          replace Z := Z.below h10 Z.lt
          clear lZ Zc0 Zc1 Zc2 Zc3
          have lZ := Z.lt
          have Zc0 := Z.cell 0
          have Zc1 := Z.cell 1
          have Zc2 := Z.cell 2
          have Zc3 := Z.cell 3
          try simp at Zc0 Zc1 Zc2 Zc3
          replace Y := Y.below h10 Y.lt
          clear lY Yc0 Yc1 Yc2 Yc3
          have lY := Y.lt
          have Yc0 := Y.cell 0
          have Yc1 := Y.cell 1
          have Yc2 := Y.cell 2
          have Yc3 := Y.cell 3
          try simp at Yc0 Yc1 Yc2 Yc3
          replace Ss1 := Ss1.below h10 Ss1.lt
          clear lSs1 Ss1c0 Ss1c1
          have lSs1 := Ss1.lt
          have Ss1c0 := Ss1.cell 0
          have Ss1c1 := Ss1.cell 1
          try simp at Ss1c0 Ss1c1
          replace Ss2 := Ss2.below h10 Ss2.lt
          clear lSs2 Ss2c0 Ss2c1
          have lSs2 := Ss2.lt
          have Ss2c0 := Ss2.cell 0
          have Ss2c1 := Ss2.cell 1
          try simp at Ss2c0 Ss2c1
          replace Sr1 := Sr1.below h10 Sr1.lt
          clear lSr1 Sr1c0 Sr1c1
          have lSr1 := Sr1.lt
          have Sr1c0 := Sr1.cell 0
          have Sr1c1 := Sr1.cell 1
          try simp at Sr1c0 Sr1c1
          have Sr2 := Blk.new w10 29 #[.int .i64 r.t, .int .i64 r.o]
          have a11 := (Below.refl _ _).alloc (Nat.le_refl _) (.cells #[.int .i64 r.t, .int .i64 r.o] 29) (w := w10)
          have b11 := b10.trans (a11.mono b10.size)
          replace Z := Z.below a11 Z.lt
          clear lZ Zc0 Zc1 Zc2 Zc3
          have lZ := Z.lt
          have Zc0 := Z.cell 0
          have Zc1 := Z.cell 1
          have Zc2 := Z.cell 2
          have Zc3 := Z.cell 3
          try simp at Zc0 Zc1 Zc2 Zc3
          replace Y := Y.below a11 Y.lt
          clear lY Yc0 Yc1 Yc2 Yc3
          have lY := Y.lt
          have Yc0 := Y.cell 0
          have Yc1 := Y.cell 1
          have Yc2 := Y.cell 2
          have Yc3 := Y.cell 3
          try simp at Yc0 Yc1 Yc2 Yc3
          replace Ss1 := Ss1.below a11 Ss1.lt
          clear lSs1 Ss1c0 Ss1c1
          have lSs1 := Ss1.lt
          have Ss1c0 := Ss1.cell 0
          have Ss1c1 := Ss1.cell 1
          try simp at Ss1c0 Ss1c1
          replace Ss2 := Ss2.below a11 Ss2.lt
          clear lSs2 Ss2c0 Ss2c1
          have lSs2 := Ss2.lt
          have Ss2c0 := Ss2.cell 0
          have Ss2c1 := Ss2.cell 1
          try simp at Ss2c0 Ss2c1
          replace Sr1 := Sr1.below a11 Sr1.lt
          clear lSr1 Sr1c0 Sr1c1
          have lSr1 := Sr1.lt
          have Sr1c0 := Sr1.cell 0
          have Sr1c1 := Sr1.cell 1
          try simp at Sr1c0 Sr1c1
          have lSr2 := Sr2.lt
          have Sr2c0 := Sr2.cell 0
          have Sr2c1 := Sr2.cell 1
          try simp at Sr2c0 Sr2c1
          go_wp2_with fail
          generalize (w10.alloc (.cells #[.int .i64 r.t, .int .i64 r.o] 29)) = wz12 at *
          have lZ := Z.lt
          have Zc0 := Z.cell 0
          have Zc1 := Z.cell 1
          have Zc2 := Z.cell 2
          have Zc3 := Z.cell 3
          try simp at Zc0 Zc1 Zc2 Zc3
          have lY := Y.lt
          have Yc0 := Y.cell 0
          have Yc1 := Y.cell 1
          have Yc2 := Y.cell 2
          have Yc3 := Y.cell 3
          try simp at Yc0 Yc1 Yc2 Yc3
          have lSs1 := Ss1.lt
          have Ss1c0 := Ss1.cell 0
          have Ss1c1 := Ss1.cell 1
          try simp at Ss1c0 Ss1c1
          have lSs2 := Ss2.lt
          have Ss2c0 := Ss2.cell 0
          have Ss2c1 := Ss2.cell 1
          try simp at Ss2c0 Ss2c1
          have lSr1 := Sr1.lt
          have Sr1c0 := Sr1.cell 0
          have Sr1c1 := Sr1.cell 1
          try simp at Sr1c0 Sr1c1
          have lSr2 := Sr2.lt
          have Sr2c0 := Sr2.cell 0
          have Sr2c1 := Sr2.cell 1
          try simp at Sr2c0 Sr2c1
          have p12 : Past wz12 wz12 := Below.refl _ _
          have Zq0 : ∀ v : In (Past wz12), v.w.cell? ⟨W.heap.size, 0, none⟩ = some (.int .i64 b) := fun v => (Below.cell (p := ⟨_, 0, none⟩) (show Below _ _ _ from v.h) lZ).trans Zc0
          have Zq1 : ∀ v : In (Past wz12), v.w.cell? ⟨W.heap.size, 1, none⟩ = some (.slice A n c) := fun v => (Below.cell (p := ⟨_, 1, none⟩) (show Below _ _ _ from v.h) lZ).trans Zc1
          have Zq2 : ∀ v : In (Past wz12), v.w.cell? ⟨W.heap.size, 2, none⟩ = some (.slice A' n' c') := fun v => (Below.cell (p := ⟨_, 2, none⟩) (show Below _ _ _ from v.h) lZ).trans Zc2
          have Zq3 : ∀ v : In (Past wz12), v.w.cell? ⟨W.heap.size, 3, none⟩ = some (.int .i64 f) := fun v => (Below.cell (p := ⟨_, 3, none⟩) (show Below _ _ _ from v.h) lZ).trans Zc3
          have Yq0 : ∀ v : In (Past wz12), v.w.cell? ⟨W.heap.size + 1, 0, none⟩ = some (.int .i64 d) := fun v => (Below.cell (p := ⟨_, 0, none⟩) (show Below _ _ _ from v.h) lY).trans Yc0
          have Yq1 : ∀ v : In (Past wz12), v.w.cell? ⟨W.heap.size + 1, 1, none⟩ = some (.slice B m e) := fun v => (Below.cell (p := ⟨_, 1, none⟩) (show Below _ _ _ from v.h) lY).trans Yc1
          have Yq2 : ∀ v : In (Past wz12), v.w.cell? ⟨W.heap.size + 1, 2, none⟩ = some (.slice B' m' e') := fun v => (Below.cell (p := ⟨_, 2, none⟩) (show Below _ _ _ from v.h) lY).trans Yc2
          have Yq3 : ∀ v : In (Past wz12), v.w.cell? ⟨W.heap.size + 1, 3, none⟩ = some (.int .i64 g) := fun v => (Below.cell (p := ⟨_, 3, none⟩) (show Below _ _ _ from v.h) lY).trans Yc3
          have Ss1q0 : ∀ v : In (Past wz12), v.w.cell? ⟨w4.heap.size, 0, none⟩ = some (.int .i64 s.t) := fun v => (Below.cell (p := ⟨_, 0, none⟩) (show Below _ _ _ from v.h) lSs1).trans Ss1c0
          have Ss1q1 : ∀ v : In (Past wz12), v.w.cell? ⟨w4.heap.size, 1, none⟩ = some (.int .i64 s.o) := fun v => (Below.cell (p := ⟨_, 1, none⟩) (show Below _ _ _ from v.h) lSs1).trans Ss1c1
          have Ss2q0 : ∀ v : In (Past wz12), v.w.cell? ⟨w6.heap.size, 0, none⟩ = some (.int .i64 s.t) := fun v => (Below.cell (p := ⟨_, 0, none⟩) (show Below _ _ _ from v.h) lSs2).trans Ss2c0
          have Ss2q1 : ∀ v : In (Past wz12), v.w.cell? ⟨w6.heap.size, 1, none⟩ = some (.int .i64 s.o) := fun v => (Below.cell (p := ⟨_, 1, none⟩) (show Below _ _ _ from v.h) lSs2).trans Ss2c1
          have Sr1q0 : ∀ v : In (Past wz12), v.w.cell? ⟨w8.heap.size, 0, none⟩ = some (.int .i64 r.t) := fun v => (Below.cell (p := ⟨_, 0, none⟩) (show Below _ _ _ from v.h) lSr1).trans Sr1c0
          have Sr1q1 : ∀ v : In (Past wz12), v.w.cell? ⟨w8.heap.size, 1, none⟩ = some (.int .i64 r.o) := fun v => (Below.cell (p := ⟨_, 1, none⟩) (show Below _ _ _ from v.h) lSr1).trans Sr1c1
          have Sr2q0 : ∀ v : In (Past wz12), v.w.cell? ⟨w10.heap.size, 0, none⟩ = some (.int .i64 r.t) := fun v => (Below.cell (p := ⟨_, 0, none⟩) (show Below _ _ _ from v.h) lSr2).trans Sr2c0
          have Sr2q1 : ∀ v : In (Past wz12), v.w.cell? ⟨w10.heap.size, 1, none⟩ = some (.int .i64 r.o) := fun v => (Below.cell (p := ⟨_, 1, none⟩) (show Below _ _ _ from v.h) lSr2).trans Sr2c1
          have HQ := Lib.hid (fun (v : In (Past wz12)) => (hz0.below b11).below (show Below _ _ _ from v.h))
          have HYQ := Lib.hid (fun (v : In (Past wz12)) => (hy0.below b11).below (show Below _ _ _ from v.h))
          have hne12 : Nonempty (In (Past wz12)) := ⟨⟨_, p12⟩⟩
          have HT := Lib.hid (fun (v : In (Past wz12)) => tab_on (tab_on (tab_on ht ba) b11) (show Below _ _ _ from v.h))
          refine wp_region_class (Past wz12) (by kernel_rfl) (by kernel_rfl) (Past.drew' p12) ?_
          simp only [List.append]
          repeat (any_goals (first | go_big_quiet_step ((first | (with_reducible refine quiet_cl Past.on (first_own _ ?_); all_goals (first | exact HQ.out _ | exact HT.out _ | exact HYQ.out _)) | (with_reducible refine quiet_cl Past.on (zMay_own _ b f A A' n c n' c' l ys _ H.out ?_); all_goals (first | exact HQ.out _ | exact HT.out _ | exact HYQ.out _)) | (with_reducible refine quiet_cl Past.on (rMay_is _ b f A A' n c n' c' l ys _ H.out ?_); all_goals (first | exact HQ.out _ | exact HT.out _ | exact HYQ.out _)) | (with_reducible refine quiet_cl Past.on (Offset_is _ b f A A' n c n' c' l ys _ _ EO.out ?_); all_goals (first | exact HQ.out _ | exact HT.out _ | exact HYQ.out _)) | (with_reducible refine quiet_cl Past.on (rOffset_is _ b f A A' n c n' c' l ys _ _ EO.out ?_ HC.out); all_goals (first | exact HQ.out _ | exact HT.out _ | exact HYQ.out _)) | (with_reducible refine quiet_cl Past.on (Local_is _ b f A A' n c n' c' l ys _ _ EL.out ?_); all_goals (first | exact HQ.out _ | exact HT.out _ | exact HYQ.out _)) | (with_reducible refine quiet_cl Past.on (rLocal_is _ b f A A' n c n' c' l ys _ _ EL.out ?_ HC.out); all_goals (first | exact HQ.out _ | exact HT.out _ | exact HYQ.out _)) | (with_reducible refine quiet_cl Past.on (Same_is _ b f d g A A' B B' n c n' c' m e m' e' l k ys xs _ SM.out ?_ ?_); all_goals (first | exact HQ.out _ | exact HT.out _ | exact HYQ.out _)) | (with_reducible refine quiet_cl Past.on (zoneEq_is _ b f d g A A' B B' n c n' c' m e m' e' l k ys xs _ SM.out ?_ ?_); all_goals (first | exact HQ.out _ | exact HT.out _ | exact HYQ.out _)))) | quiet_step ((first | (with_reducible refine quiet_cl Past.on (first_own _ ?_); all_goals (first | exact HQ.out _ | exact HT.out _ | exact HYQ.out _)) | (with_reducible refine quiet_cl Past.on (zMay_own _ b f A A' n c n' c' l ys _ H.out ?_); all_goals (first | exact HQ.out _ | exact HT.out _ | exact HYQ.out _)) | (with_reducible refine quiet_cl Past.on (rMay_is _ b f A A' n c n' c' l ys _ H.out ?_); all_goals (first | exact HQ.out _ | exact HT.out _ | exact HYQ.out _)) | (with_reducible refine quiet_cl Past.on (Offset_is _ b f A A' n c n' c' l ys _ _ EO.out ?_); all_goals (first | exact HQ.out _ | exact HT.out _ | exact HYQ.out _)) | (with_reducible refine quiet_cl Past.on (rOffset_is _ b f A A' n c n' c' l ys _ _ EO.out ?_ HC.out); all_goals (first | exact HQ.out _ | exact HT.out _ | exact HYQ.out _)) | (with_reducible refine quiet_cl Past.on (Local_is _ b f A A' n c n' c' l ys _ _ EL.out ?_); all_goals (first | exact HQ.out _ | exact HT.out _ | exact HYQ.out _)) | (with_reducible refine quiet_cl Past.on (rLocal_is _ b f A A' n c n' c' l ys _ _ EL.out ?_ HC.out); all_goals (first | exact HQ.out _ | exact HT.out _ | exact HYQ.out _)) | (with_reducible refine quiet_cl Past.on (Same_is _ b f d g A A' B B' n c n' c' m e m' e' l k ys xs _ SM.out ?_ ?_); all_goals (first | exact HQ.out _ | exact HT.out _ | exact HYQ.out _)) | (with_reducible refine quiet_cl Past.on (zoneEq_is _ b f d g A A' B B' n c n' c' m e m' e' l k ys xs _ SM.out ?_ ?_); all_goals (first | exact HQ.out _ | exact HT.out _ | exact HYQ.out _))))))
          refine wpQuiet_nil ?_
          rintro _ ⟨⟨w12, h12⟩, rfl⟩
          replace h12 : Below _ _ _ := h12
          clear HQ HT hne12 p12 HYQ Zq0 Zq1 Zq2 Zq3 Yq0 Yq1 Yq2 Yq3 Ss1q0 Ss1q1 Ss2q0 Ss2q1 Sr1q0 Sr1q1 Sr2q0 Sr2q1
          have b12 := b11.trans (h12.mono b11.size)
          replace Z := Z.below h12 Z.lt
          clear lZ Zc0 Zc1 Zc2 Zc3
          have lZ := Z.lt
          have Zc0 := Z.cell 0
          have Zc1 := Z.cell 1
          have Zc2 := Z.cell 2
          have Zc3 := Z.cell 3
          try simp at Zc0 Zc1 Zc2 Zc3
          replace Y := Y.below h12 Y.lt
          clear lY Yc0 Yc1 Yc2 Yc3
          have lY := Y.lt
          have Yc0 := Y.cell 0
          have Yc1 := Y.cell 1
          have Yc2 := Y.cell 2
          have Yc3 := Y.cell 3
          try simp at Yc0 Yc1 Yc2 Yc3
          replace Ss1 := Ss1.below h12 Ss1.lt
          clear lSs1 Ss1c0 Ss1c1
          have lSs1 := Ss1.lt
          have Ss1c0 := Ss1.cell 0
          have Ss1c1 := Ss1.cell 1
          try simp at Ss1c0 Ss1c1
          replace Ss2 := Ss2.below h12 Ss2.lt
          clear lSs2 Ss2c0 Ss2c1
          have lSs2 := Ss2.lt
          have Ss2c0 := Ss2.cell 0
          have Ss2c1 := Ss2.cell 1
          try simp at Ss2c0 Ss2c1
          replace Sr1 := Sr1.below h12 Sr1.lt
          clear lSr1 Sr1c0 Sr1c1
          have lSr1 := Sr1.lt
          have Sr1c0 := Sr1.cell 0
          have Sr1c1 := Sr1.cell 1
          try simp at Sr1c0 Sr1c1
          replace Sr2 := Sr2.below h12 Sr2.lt
          clear lSr2 Sr2c0 Sr2c1
          have lSr2 := Sr2.lt
          have Sr2c0 := Sr2.cell 0
          have Sr2c1 := Sr2.cell 1
          try simp at Sr2c0 Sr2c1
          go_wp2
          go_ret
          exact ⟨rfl, ba.trans (b12.mono ba.size)⟩
end Go.Proofs.Ytbinhnlajflndaa.Zn
