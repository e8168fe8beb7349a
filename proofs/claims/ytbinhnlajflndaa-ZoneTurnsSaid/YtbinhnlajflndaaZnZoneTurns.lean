/- The walk of voklaw3's law ZoneTurns. -/
import Derived.Test.YtbinhnlajflndaaZnLaw0
import Derived.Test.YtbinhnlajflndaaZnRef3
set_option linter.unusedVariables false
namespace Go.Proofs.Ytbinhnlajflndaa.Zn
open Go.RowKit Cv St

theorem rUTC_is (w : World) (b f : Int) (A A' : Option Addr) (n c n' c' : Nat) (l : List Sh) (ys : List Yr) (L x : Int) (hx : utcR b l ys f L = x) (l1 : -9223372036854775808 ≤ L) (l2 : L ≤ 9223372036854775807) (hz : ZnAt w A n A' n' l ys) (hcn : A = none → c = 0) :
    Calls Try.prog 26 #[.agg #[.int .i64 b, .slice A n c, .slice A' n' c', .int .i64 f], .int .i64 L] w fun e w' => e = .returned (.int .i64 x) ∧ Below w.heap.size w w' := hx ▸ rUTC_own w b f A A' n c n' c' l ys L l1 l2 hz hcn
set_option maxRecDepth 100000 in
set_option maxHeartbeats 4000000 in
theorem zoneTurns_walk (W : World) (b f : Int) (A A' : Option Addr) (n c n' c' : Nat) (l : List Sh) (ys : List Yr) (hs : ShAt W A n l) (hy : YrAt W A' n' ys) (hcn : A = none → c = 0) (sn : n ≤ 9223372036854775807) (yn : n' ≤ 9223372036854775807) (x : Int) (x1 : -9223372036854775808 ≤ x) (x2 : x ≤ 9223372036854775807) (ht : Tab W) :
    Calls Try.prog 4 #[.agg #[.int .i64 b, .slice A n c, .slice A' n' c', .int .i64 f], .int .i64 x] W fun e w' => e = .returned (.bool true) ∧ Below W.heap.size W w' := by
  have Z := Blk.new W 25 #[.int .i64 b, .slice A n c, .slice A' n' c', .int .i64 f]
  have ba := (Below.refl _ _).alloc (Nat.le_refl _) (.cells #[.int .i64 b, .slice A n c, .slice A' n' c', .int .i64 f] 25) (w := W)
  have b0 := Below.refl (W.alloc (.cells #[.int .i64 b, .slice A n c, .slice A' n' c', .int .i64 f] 25)).heap.size (W.alloc (.cells #[.int .i64 b, .slice A n c, .slice A' n' c', .int .i64 f] 25))
  have hz0 : ZnAt (W.alloc (.cells #[.int .i64 b, .slice A n c, .slice A' n' c', .int .i64 f] 25)) A n A' n' l ys := ⟨hs.below ba, hy.below ba, sn, yn⟩
  cases hf : fewB n n'
  · have FW := Lib.hid hf
    clear hf
    have lZ := Z.lt
    have Zc0 := Z.cell 0
    have Zc1 := Z.cell 1
    have Zc2 := Z.cell 2
    have Zc3 := Z.cell 3
    try simp at Zc0 Zc1 Zc2 Zc3
    go_enter Try.func4, Try.ntmps4
    go_wp2_with fail
    refine (first_own _ (tab_on (tab_on ht ba) b0)).mono ?_
    rintro e w1 ⟨rfl, h1⟩
    have b1 := b0.trans (h1.mono b0.size)
    replace Z := Z.below h1 Z.lt
    clear lZ Zc0 Zc1 Zc2 Zc3
    have lZ := Z.lt
    have Zc0 := Z.cell 0
    have Zc1 := Z.cell 1
    have Zc2 := Z.cell 2
    have Zc3 := Z.cell 3
    try simp at Zc0 Zc1 Zc2 Zc3
    go_wp2_with fail
    refine (few_is _ _ _ _ _ _ _ _ _ _ FW.out).mono ?_
    rintro e w2 ⟨rfl, h2⟩
    have b2 := b1.trans (h2.mono b1.size)
    replace Z := Z.below h2 Z.lt
    clear lZ Zc0 Zc1 Zc2 Zc3
    have lZ := Z.lt
    have Zc0 := Z.cell 0
    have Zc1 := Z.cell 1
    have Zc2 := Z.cell 2
    have Zc3 := Z.cell 3
    try simp at Zc0 Zc1 Zc2 Zc3
    go_wp2_with fail
    refine (first_own _ (tab_on (tab_on ht ba) b2)).mono ?_
    rintro e w3 ⟨rfl, h3⟩
    have b3 := b2.trans (h3.mono b2.size)
    replace Z := Z.below h3 Z.lt
    clear lZ Zc0 Zc1 Zc2 Zc3
    have lZ := Z.lt
    have Zc0 := Z.cell 0
    have Zc1 := Z.cell 1
    have Zc2 := Z.cell 2
    have Zc3 := Z.cell 3
    try simp at Zc0 Zc1 Zc2 Zc3
    go_wp2
    go_ret
    exact ⟨rfl, ba.trans (b3.mono (by simp))⟩
  · have FW := Lib.hid hf
    clear hf
    obtain ⟨v, hv⟩ : ∃ v, utcR b l ys f x = v := ⟨_, rfl⟩
    have EU := Lib.hid hv
    have HC := Lib.hid hcn
    clear hv hcn
    have lZ := Z.lt
    have Zc0 := Z.cell 0
    have Zc1 := Z.cell 1
    have Zc2 := Z.cell 2
    have Zc3 := Z.cell 3
    try simp at Zc0 Zc1 Zc2 Zc3
    go_enter Try.func4, Try.ntmps4
    go_wp2_with fail
    refine (first_own _ (tab_on (tab_on ht ba) b0)).mono ?_
    rintro e w1 ⟨rfl, h1⟩
    have b1 := b0.trans (h1.mono b0.size)
    replace Z := Z.below h1 Z.lt
    clear lZ Zc0 Zc1 Zc2 Zc3
    have lZ := Z.lt
    have Zc0 := Z.cell 0
    have Zc1 := Z.cell 1
    have Zc2 := Z.cell 2
    have Zc3 := Z.cell 3
    try simp at Zc0 Zc1 Zc2 Zc3
    go_wp2_with fail
    refine (few_is _ _ _ _ _ _ _ _ _ _ FW.out).mono ?_
    rintro e w2 ⟨rfl, h2⟩
    have b2 := b1.trans (h2.mono b1.size)
    replace Z := Z.below h2 Z.lt
    clear lZ Zc0 Zc1 Zc2 Zc3
    have lZ := Z.lt
    have Zc0 := Z.cell 0
    have Zc1 := Z.cell 1
    have Zc2 := Z.cell 2
    have Zc3 := Z.cell 3
    try simp at Zc0 Zc1 Zc2 Zc3
    go_wp2_with fail
    have p3 : Past w2 w2 := Below.refl _ _
    have Zq0 : ∀ v : In (Past w2), v.w.cell? ⟨W.heap.size, 0, none⟩ = some (.int .i64 b) := fun v => (Below.cell (p := ⟨_, 0, none⟩) (show Below _ _ _ from v.h) lZ).trans Zc0
    have Zq1 : ∀ v : In (Past w2), v.w.cell? ⟨W.heap.size, 1, none⟩ = some (.slice A n c) := fun v => (Below.cell (p := ⟨_, 1, none⟩) (show Below _ _ _ from v.h) lZ).trans Zc1
    have Zq2 : ∀ v : In (Past w2), v.w.cell? ⟨W.heap.size, 2, none⟩ = some (.slice A' n' c') := fun v => (Below.cell (p := ⟨_, 2, none⟩) (show Below _ _ _ from v.h) lZ).trans Zc2
    have Zq3 : ∀ v : In (Past w2), v.w.cell? ⟨W.heap.size, 3, none⟩ = some (.int .i64 f) := fun v => (Below.cell (p := ⟨_, 3, none⟩) (show Below _ _ _ from v.h) lZ).trans Zc3
    have HQ := Lib.hid (fun (v : In (Past w2)) => (hz0.below b2).below (show Below _ _ _ from v.h))
    have hne3 : Nonempty (In (Past w2)) := ⟨⟨_, p3⟩⟩
    have HT := Lib.hid (fun (v : In (Past w2)) => tab_on (tab_on (tab_on ht ba) b2) (show Below _ _ _ from v.h))
    refine wp_region_class (Past w2) (by kernel_rfl) (by kernel_rfl) (Past.drew' p3) ?_
    repeat (any_goals (first | go_big_quiet_step ((first | (with_reducible refine quiet_cl Past.on (first_own _ ?_); first | exact HQ.out _ | exact HT.out _) | (with_reducible refine quiet_cl Past.on (UTC_is _ b f A A' n c n' c' l ys _ _ EU.out x1 x2 ?_); first | exact HQ.out _ | exact HT.out _) | (with_reducible refine quiet_cl Past.on (rUTC_is _ b f A A' n c n' c' l ys _ _ EU.out x1 x2 ?_ HC.out); first | exact HQ.out _ | exact HT.out _))) | quiet_step ((first | (with_reducible refine quiet_cl Past.on (first_own _ ?_); first | exact HQ.out _ | exact HT.out _) | (with_reducible refine quiet_cl Past.on (UTC_is _ b f A A' n c n' c' l ys _ _ EU.out x1 x2 ?_); first | exact HQ.out _ | exact HT.out _) | (with_reducible refine quiet_cl Past.on (rUTC_is _ b f A A' n c n' c' l ys _ _ EU.out x1 x2 ?_ HC.out); first | exact HQ.out _ | exact HT.out _)))))
    refine wpQuiet_nil ?_
    rintro _ ⟨⟨w3, h3⟩, rfl⟩
    replace h3 : Below _ _ _ := h3
    clear HQ HT hne3 p3 Zq0 Zq1 Zq2 Zq3
    have b3 := b2.trans (h3.mono b2.size)
    replace Z := Z.below h3 Z.lt
    clear lZ Zc0 Zc1 Zc2 Zc3
    have lZ := Z.lt
    have Zc0 := Z.cell 0
    have Zc1 := Z.cell 1
    have Zc2 := Z.cell 2
    have Zc3 := Z.cell 3
    try simp at Zc0 Zc1 Zc2 Zc3
    go_wp2
    go_ret
    exact ⟨rfl, ba.trans (b3.mono (by simp))⟩
end Go.Proofs.Ytbinhnlajflndaa.Zn
