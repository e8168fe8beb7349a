/- DaysNths answers true. -/
import Derived.Test.YtkkmhjplfpdhcaaGreatDoorDyFirst
set_option linter.unusedVariables false
namespace Go.Proofs.YtkkmhjplfpdhcaaGreatDoor.Dd
open Go.RowKit Cv St Ru

def oneS (g : Nat) : RS := ⟨none, 0, 0, none, 0, 0, none, 0, 0, none, 0, 0, some ⟨g, 0, none⟩, 1, 1, none, 0, 0, none, 0, 0, none, 0, 0, none, 0, 0⟩
theorem nthR_at (w : World) (n k : Int) : RuAt (w.alloc (.cells #[.int .i64 n, .int .i64 k] 48)) (oneS w.heap.size) (nthR n k) :=
  ⟨IsAt.nil _ _, IsAt.nil _ _, IsAt.nil _ _, IsAt.nil _ _, ⟨rfl, fun _ => ⟨w.heap.size, 0, rfl, by simp, fun j hj => by
    obtain rfl : j = 0 := by change j < 1 at hj; omega
    constructor
    · simp [go_sem, dat, nthR]
    · simp [go_sem, dat, nthR]⟩⟩, IsAt.nil _ _, IsAt.nil _ _, IsAt.nil _ _, IsAt.nil _ _, Nat.zero_le _, Nat.zero_le _, Nat.zero_le _, Nat.zero_le _, show (1 : Nat) ≤ 140737488355328 by decide, Nat.zero_le _, Nat.zero_le _, Nat.zero_le _, Nat.zero_le _⟩
theorem nth_bd (y m k x : Int) (h1 : 1 ≤ k) (h2 : k ≤ 5) : -6 ≤ nth y m k x ∧ nth y m k x ≤ 35 := by
  unfold nth; split <;> omega

set_option maxRecDepth 100000 in
set_option maxHeartbeats 8000000 in
theorem nths_a (w : World) (T : Tabs w) (n k start d : Int) (hd : ¬ (-719162 ≤ d ∧ d ≤ 2932896)) :
    Calls Tryz.prog 8 #[.int .i64 n, .int .i64 k, .int .i64 start, .int .i64 d] w fun e w' => e = .returned (.bool true) ∧ Below w.heap.size w w' := by
  have TT := Lib.hid T
  clear T
  show Calls Tryz.prog 8 #[.int .i64 n, .int .i64 k, .int .i64 start, .int .i64 d] w _
  go_enter Tryz.func8, Tryz.ntmps8
  have B0 := Below.refl w.heap.size w
  go_wp2_with fail
  refine (first_is _ (TT.out.on B0)).mono ?_
  rintro e w1 ⟨rfl, b1⟩
  have B1 := B0.trans (b1.mono B0.size)
  clear B0
  clear b1
  go_upto_region 4 with fail
  have b2 := alloc_below w1 (.cells #[.int .i64 n, .int .i64 k] 48)
  have RD := nthR_at w1 n k
  have P := oneS w1.heap.size
  have SZ : (w1.alloc (.cells #[.int .i64 n, .int .i64 k] 48)).heap.size = w1.heap.size + 1 := by simp
  clear P
  generalize hw2 : w1.alloc (.cells #[.int .i64 n, .int .i64 k] 48) = w2 at *
  clear hw2
  have B2 := B1.trans (b2.mono B1.size)
  clear B1
  clear b2
  have b3 := alloc_below w2 (.cells #[.int .i64 2, .int .i64 1, .int .i64 0, .int .i64 0, .int .i64 0, .bool false, .slice none 0 0, .slice none 0 0, .slice none 0 0, .slice none 0 0, .slice (some ⟨w1.heap.size, 0, none⟩) 1 1, .slice none 0 0, .slice none 0 0, .slice none 0 0, .slice none 0 0] 25)
  have Xp3 := Box.new w2 #[.int .i64 2, .int .i64 1, .int .i64 0, .int .i64 0, .int .i64 0, .bool false, .slice none 0 0, .slice none 0 0, .slice none 0 0, .slice none 0 0, .slice (some ⟨w1.heap.size, 0, none⟩) 1 1, .slice none 0 0, .slice none 0 0, .slice none 0 0, .slice none 0 0] 25
  have Rp3 := RD.below b3
  clear RD
  generalize w2.alloc (.cells #[.int .i64 2, .int .i64 1, .int .i64 0, .int .i64 0, .int .i64 0, .bool false, .slice none 0 0, .slice none 0 0, .slice none 0 0, .slice none 0 0, .slice (some ⟨w1.heap.size, 0, none⟩) 1 1, .slice none 0 0, .slice none 0 0, .slice none 0 0, .slice none 0 0] 25) = w3 at *
  have B3 := B2.trans (b3.mono B2.size)
  clear B2
  clear b3
  rw [SZ] at Xp3
  have HD := Lib.hid hd
  clear hd
  go_wp2_with fail
  refine (date_no d _ HD.out).mono ?_
  rintro e w' ⟨rfl, rfl⟩
  go_wp2_with fail
  refine (first_is _ (TT.out.on B3)).mono ?_
  rintro e w4 ⟨rfl, b4⟩
  have B4 := B3.trans (b4.mono B3.size)
  have Xp4 := Xp3.below b4
  have Rp4 := Rp3.below b4
  clear B3 Xp3 Rp3
  clear b4
  go_wp2
  go_ret
  exact ⟨rfl, B4⟩
set_option maxRecDepth 100000 in
set_option maxHeartbeats 8000000 in
theorem nths_b (w : World) (T : Tabs w) (n k start d : Int) (h1 : -719162 ≤ d) (h2 : d ≤ 2932896) (hs : St.may start = false) :
    Calls Tryz.prog 8 #[.int .i64 n, .int .i64 k, .int .i64 start, .int .i64 d] w fun e w' => e = .returned (.bool true) ∧ Below w.heap.size w w' := by
  have TT := Lib.hid T
  clear T
  show Calls Tryz.prog 8 #[.int .i64 n, .int .i64 k, .int .i64 start, .int .i64 d] w _
  go_enter Tryz.func8, Tryz.ntmps8
  have B0 := Below.refl w.heap.size w
  go_wp2_with fail
  refine (first_is _ (TT.out.on B0)).mono ?_
  rintro e w1 ⟨rfl, b1⟩
  have B1 := B0.trans (b1.mono B0.size)
  clear B0
  clear b1
  go_upto_region 4 with fail
  have b2 := alloc_below w1 (.cells #[.int .i64 n, .int .i64 k] 48)
  have RD := nthR_at w1 n k
  have P := oneS w1.heap.size
  have SZ : (w1.alloc (.cells #[.int .i64 n, .int .i64 k] 48)).heap.size = w1.heap.size + 1 := by simp
  clear P
  generalize hw2 : w1.alloc (.cells #[.int .i64 n, .int .i64 k] 48) = w2 at *
  clear hw2
  have B2 := B1.trans (b2.mono B1.size)
  clear B1
  clear b2
  have b3 := alloc_below w2 (.cells #[.int .i64 2, .int .i64 1, .int .i64 0, .int .i64 0, .int .i64 0, .bool false, .slice none 0 0, .slice none 0 0, .slice none 0 0, .slice none 0 0, .slice (some ⟨w1.heap.size, 0, none⟩) 1 1, .slice none 0 0, .slice none 0 0, .slice none 0 0, .slice none 0 0] 25)
  have Xp3 := Box.new w2 #[.int .i64 2, .int .i64 1, .int .i64 0, .int .i64 0, .int .i64 0, .bool false, .slice none 0 0, .slice none 0 0, .slice none 0 0, .slice none 0 0, .slice (some ⟨w1.heap.size, 0, none⟩) 1 1, .slice none 0 0, .slice none 0 0, .slice none 0 0, .slice none 0 0] 25
  have Rp3 := RD.below b3
  clear RD
  generalize w2.alloc (.cells #[.int .i64 2, .int .i64 1, .int .i64 0, .int .i64 0, .int .i64 0, .bool false, .slice none 0 0, .slice none 0 0, .slice none 0 0, .slice none 0 0, .slice (some ⟨w1.heap.size, 0, none⟩) 1 1, .slice none 0 0, .slice none 0 0, .slice none 0 0, .slice none 0 0] 25) = w3 at *
  have B3 := B2.trans (b3.mono B2.size)
  clear B2
  clear b3
  rw [SZ] at Xp3
  go_wp2_with fail
  refine (date_yes d _ h1 h2).mono ?_
  rintro e w' ⟨rfl, rfl⟩
  go_wp2_with fail
  refine (may_no start _ hs).mono ?_
  rintro e w' ⟨rfl, rfl⟩
  go_wp2_with fail
  refine (first_is _ (TT.out.on B3)).mono ?_
  rintro e w4 ⟨rfl, b4⟩
  have B4 := B3.trans (b4.mono B3.size)
  have Xp4 := Xp3.below b4
  have Rp4 := Rp3.below b4
  clear B3 Xp3 Rp3
  clear b4
  go_wp2
  go_ret
  exact ⟨rfl, B4⟩
set_option maxRecDepth 100000 in
set_option maxHeartbeats 8000000 in
theorem nths_c (w : World) (T : Tabs w) (n k start d : Int) (h1 : -719162 ≤ d) (h2 : d ≤ 2932896) (hs : St.may start = true) (c0 : n = 0) :
    Calls Tryz.prog 8 #[.int .i64 n, .int .i64 k, .int .i64 start, .int .i64 d] w fun e w' => e = .returned (.bool true) ∧ Below w.heap.size w w' := by
  have TT := Lib.hid T
  clear T
  have C0 := Lib.hid c0
  clear c0
  show Calls Tryz.prog 8 #[.int .i64 n, .int .i64 k, .int .i64 start, .int .i64 d] w _
  go_enter Tryz.func8, Tryz.ntmps8
  have B0 := Below.refl w.heap.size w
  go_wp2_with fail
  refine (first_is _ (TT.out.on B0)).mono ?_
  rintro e w1 ⟨rfl, b1⟩
  have B1 := B0.trans (b1.mono B0.size)
  clear B0
  clear b1
  go_upto_region 4 with fail
  have b2 := alloc_below w1 (.cells #[.int .i64 n, .int .i64 k] 48)
  have RD := nthR_at w1 n k
  have P := oneS w1.heap.size
  have SZ : (w1.alloc (.cells #[.int .i64 n, .int .i64 k] 48)).heap.size = w1.heap.size + 1 := by simp
  clear P
  generalize hw2 : w1.alloc (.cells #[.int .i64 n, .int .i64 k] 48) = w2 at *
  clear hw2
  have B2 := B1.trans (b2.mono B1.size)
  clear B1
  clear b2
  have b3 := alloc_below w2 (.cells #[.int .i64 2, .int .i64 1, .int .i64 0, .int .i64 0, .int .i64 0, .bool false, .slice none 0 0, .slice none 0 0, .slice none 0 0, .slice none 0 0, .slice (some ⟨w1.heap.size, 0, none⟩) 1 1, .slice none 0 0, .slice none 0 0, .slice none 0 0, .slice none 0 0] 25)
  have Xp3 := Box.new w2 #[.int .i64 2, .int .i64 1, .int .i64 0, .int .i64 0, .int .i64 0, .bool false, .slice none 0 0, .slice none 0 0, .slice none 0 0, .slice none 0 0, .slice (some ⟨w1.heap.size, 0, none⟩) 1 1, .slice none 0 0, .slice none 0 0, .slice none 0 0, .slice none 0 0] 25
  have Rp3 := RD.below b3
  clear RD
  generalize w2.alloc (.cells #[.int .i64 2, .int .i64 1, .int .i64 0, .int .i64 0, .int .i64 0, .bool false, .slice none 0 0, .slice none 0 0, .slice none 0 0, .slice none 0 0, .slice (some ⟨w1.heap.size, 0, none⟩) 1 1, .slice none 0 0, .slice none 0 0, .slice none 0 0, .slice none 0 0] 25) = w3 at *
  have B3 := B2.trans (b3.mono B2.size)
  clear B2
  clear b3
  rw [SZ] at Xp3
  have t0 : ((n : Int) == 0) = true := by rw [beq_iff_eq]; exact C0.out
  go_wp2_with fail
  refine (date_yes d _ h1 h2).mono ?_
  rintro e w' ⟨rfl, rfl⟩
  go_wp2_with fail
  refine (may_yes start _ hs).mono ?_
  rintro e w' ⟨rfl, rfl⟩
  go_wp2_with fail
  refine (first_is _ (TT.out.on B3)).mono ?_
  rintro e w4 ⟨rfl, b4⟩
  have B4 := B3.trans (b4.mono B3.size)
  have Xp4 := Xp3.below b4
  have Rp4 := Rp3.below b4
  clear B3 Xp3 Rp3
  clear b4
  go_wp2
  go_ret
  exact ⟨rfl, B4⟩
set_option maxRecDepth 100000 in
set_option maxHeartbeats 8000000 in
theorem nths_d (w : World) (T : Tabs w) (n k start d : Int) (h1 : -719162 ≤ d) (h2 : d ≤ 2932896) (hs : St.may start = true) (c0 : ¬ n = 0) (c1 : n < -5) :
    Calls Tryz.prog 8 #[.int .i64 n, .int .i64 k, .int .i64 start, .int .i64 d] w fun e w' => e = .returned (.bool true) ∧ Below w.heap.size w w' := by
  have TT := Lib.hid T
  clear T
  show Calls Tryz.prog 8 #[.int .i64 n, .int .i64 k, .int .i64 start, .int .i64 d] w _
  go_enter Tryz.func8, Tryz.ntmps8
  have B0 := Below.refl w.heap.size w
  go_wp2_with fail
  refine (first_is _ (TT.out.on B0)).mono ?_
  rintro e w1 ⟨rfl, b1⟩
  have B1 := B0.trans (b1.mono B0.size)
  clear B0
  clear b1
  go_upto_region 4 with fail
  have b2 := alloc_below w1 (.cells #[.int .i64 n, .int .i64 k] 48)
  have RD := nthR_at w1 n k
  have P := oneS w1.heap.size
  have SZ : (w1.alloc (.cells #[.int .i64 n, .int .i64 k] 48)).heap.size = w1.heap.size + 1 := by simp
  clear P
  generalize hw2 : w1.alloc (.cells #[.int .i64 n, .int .i64 k] 48) = w2 at *
  clear hw2
  have B2 := B1.trans (b2.mono B1.size)
  clear B1
  clear b2
  have b3 := alloc_below w2 (.cells #[.int .i64 2, .int .i64 1, .int .i64 0, .int .i64 0, .int .i64 0, .bool false, .slice none 0 0, .slice none 0 0, .slice none 0 0, .slice none 0 0, .slice (some ⟨w1.heap.size, 0, none⟩) 1 1, .slice none 0 0, .slice none 0 0, .slice none 0 0, .slice none 0 0] 25)
  have Xp3 := Box.new w2 #[.int .i64 2, .int .i64 1, .int .i64 0, .int .i64 0, .int .i64 0, .bool false, .slice none 0 0, .slice none 0 0, .slice none 0 0, .slice none 0 0, .slice (some ⟨w1.heap.size, 0, none⟩) 1 1, .slice none 0 0, .slice none 0 0, .slice none 0 0, .slice none 0 0] 25
  have Rp3 := RD.below b3
  clear RD
  generalize w2.alloc (.cells #[.int .i64 2, .int .i64 1, .int .i64 0, .int .i64 0, .int .i64 0, .bool false, .slice none 0 0, .slice none 0 0, .slice none 0 0, .slice none 0 0, .slice (some ⟨w1.heap.size, 0, none⟩) 1 1, .slice none 0 0, .slice none 0 0, .slice none 0 0, .slice none 0 0] 25) = w3 at *
  have B3 := B2.trans (b3.mono B2.size)
  clear B2
  clear b3
  rw [SZ] at Xp3
  have t0 : ((n : Int) == 0) = false := by rw [beq_eq_false_iff_ne]; exact c0
  have t1 : decide (n < -5) = true := decide_eq_true c1
  go_wp2_with fail
  refine (date_yes d _ h1 h2).mono ?_
  rintro e w' ⟨rfl, rfl⟩
  go_wp2_with fail
  refine (may_yes start _ hs).mono ?_
  rintro e w' ⟨rfl, rfl⟩
  go_wp2_with fail
  refine (first_is _ (TT.out.on B3)).mono ?_
  rintro e w4 ⟨rfl, b4⟩
  have B4 := B3.trans (b4.mono B3.size)
  have Xp4 := Xp3.below b4
  have Rp4 := Rp3.below b4
  clear B3 Xp3 Rp3
  clear b4
  go_wp2
  go_ret
  exact ⟨rfl, B4⟩
set_option maxRecDepth 100000 in
set_option maxHeartbeats 8000000 in
theorem nths_e (w : World) (T : Tabs w) (n k start d : Int) (h1 : -719162 ≤ d) (h2 : d ≤ 2932896) (hs : St.may start = true) (c0 : ¬ n = 0) (c1 : 5 < n) :
    Calls Tryz.prog 8 #[.int .i64 n, .int .i64 k, .int .i64 start, .int .i64 d] w fun e w' => e = .returned (.bool true) ∧ Below w.heap.size w w' := by
  have TT := Lib.hid T
  clear T
  show Calls Tryz.prog 8 #[.int .i64 n, .int .i64 k, .int .i64 start, .int .i64 d] w _
  go_enter Tryz.func8, Tryz.ntmps8
  have B0 := Below.refl w.heap.size w
  go_wp2_with fail
  refine (first_is _ (TT.out.on B0)).mono ?_
  rintro e w1 ⟨rfl, b1⟩
  have B1 := B0.trans (b1.mono B0.size)
  clear B0
  clear b1
  go_upto_region 4 with fail
  have b2 := alloc_below w1 (.cells #[.int .i64 n, .int .i64 k] 48)
  have RD := nthR_at w1 n k
  have P := oneS w1.heap.size
  have SZ : (w1.alloc (.cells #[.int .i64 n, .int .i64 k] 48)).heap.size = w1.heap.size + 1 := by simp
  clear P
  generalize hw2 : w1.alloc (.cells #[.int .i64 n, .int .i64 k] 48) = w2 at *
  clear hw2
  have B2 := B1.trans (b2.mono B1.size)
  clear B1
  clear b2
  have b3 := alloc_below w2 (.cells #[.int .i64 2, .int .i64 1, .int .i64 0, .int .i64 0, .int .i64 0, .bool false, .slice none 0 0, .slice none 0 0, .slice none 0 0, .slice none 0 0, .slice (some ⟨w1.heap.size, 0, none⟩) 1 1, .slice none 0 0, .slice none 0 0, .slice none 0 0, .slice none 0 0] 25)
  have Xp3 := Box.new w2 #[.int .i64 2, .int .i64 1, .int .i64 0, .int .i64 0, .int .i64 0, .bool false, .slice none 0 0, .slice none 0 0, .slice none 0 0, .slice none 0 0, .slice (some ⟨w1.heap.size, 0, none⟩) 1 1, .slice none 0 0, .slice none 0 0, .slice none 0 0, .slice none 0 0] 25
  have Rp3 := RD.below b3
  clear RD
  generalize w2.alloc (.cells #[.int .i64 2, .int .i64 1, .int .i64 0, .int .i64 0, .int .i64 0, .bool false, .slice none 0 0, .slice none 0 0, .slice none 0 0, .slice none 0 0, .slice (some ⟨w1.heap.size, 0, none⟩) 1 1, .slice none 0 0, .slice none 0 0, .slice none 0 0, .slice none 0 0] 25) = w3 at *
  have B3 := B2.trans (b3.mono B2.size)
  clear B2
  clear b3
  rw [SZ] at Xp3
  have t0 : ((n : Int) == 0) = false := by rw [beq_eq_false_iff_ne]; exact c0
  have t1 : decide (n < -5) = false := decide_eq_false (by omega)
  have t2 : decide (5 < n) = true := decide_eq_true c1
  go_wp2_with fail
  refine (date_yes d _ h1 h2).mono ?_
  rintro e w' ⟨rfl, rfl⟩
  go_wp2_with fail
  refine (may_yes start _ hs).mono ?_
  rintro e w' ⟨rfl, rfl⟩
  go_wp2_with fail
  refine (first_is _ (TT.out.on B3)).mono ?_
  rintro e w4 ⟨rfl, b4⟩
  have B4 := B3.trans (b4.mono B3.size)
  have Xp4 := Xp3.below b4
  have Rp4 := Rp3.below b4
  clear B3 Xp3 Rp3
  clear b4
  go_wp2
  go_ret
  exact ⟨rfl, B4⟩
set_option maxRecDepth 100000 in
set_option maxHeartbeats 8000000 in
theorem nths_f (w : World) (T : Tabs w) (n k start d : Int) (h1 : -719162 ≤ d) (h2 : d ≤ 2932896) (hs : St.may start = true) (c0 : ¬ n = 0) (c1 : -5 ≤ n) (c2 : n ≤ 5) (c3 : k < 0) :
    Calls Tryz.prog 8 #[.int .i64 n, .int .i64 k, .int .i64 start, .int .i64 d] w fun e w' => e = .returned (.bool true) ∧ Below w.heap.size w w' := by
  have TT := Lib.hid T
  clear T
  show Calls Tryz.prog 8 #[.int .i64 n, .int .i64 k, .int .i64 start, .int .i64 d] w _
  go_enter Tryz.func8, Tryz.ntmps8
  have B0 := Below.refl w.heap.size w
  go_wp2_with fail
  refine (first_is _ (TT.out.on B0)).mono ?_
  rintro e w1 ⟨rfl, b1⟩
  have B1 := B0.trans (b1.mono B0.size)
  clear B0
  clear b1
  go_upto_region 4 with fail
  have b2 := alloc_below w1 (.cells #[.int .i64 n, .int .i64 k] 48)
  have RD := nthR_at w1 n k
  have P := oneS w1.heap.size
  have SZ : (w1.alloc (.cells #[.int .i64 n, .int .i64 k] 48)).heap.size = w1.heap.size + 1 := by simp
  clear P
  generalize hw2 : w1.alloc (.cells #[.int .i64 n, .int .i64 k] 48) = w2 at *
  clear hw2
  have B2 := B1.trans (b2.mono B1.size)
  clear B1
  clear b2
  have b3 := alloc_below w2 (.cells #[.int .i64 2, .int .i64 1, .int .i64 0, .int .i64 0, .int .i64 0, .bool false, .slice none 0 0, .slice none 0 0, .slice none 0 0, .slice none 0 0, .slice (some ⟨w1.heap.size, 0, none⟩) 1 1, .slice none 0 0, .slice none 0 0, .slice none 0 0, .slice none 0 0] 25)
  have Xp3 := Box.new w2 #[.int .i64 2, .int .i64 1, .int .i64 0, .int .i64 0, .int .i64 0, .bool false, .slice none 0 0, .slice none 0 0, .slice none 0 0, .slice none 0 0, .slice (some ⟨w1.heap.size, 0, none⟩) 1 1, .slice none 0 0, .slice none 0 0, .slice none 0 0, .slice none 0 0] 25
  have Rp3 := RD.below b3
  clear RD
  generalize w2.alloc (.cells #[.int .i64 2, .int .i64 1, .int .i64 0, .int .i64 0, .int .i64 0, .bool false, .slice none 0 0, .slice none 0 0, .slice none 0 0, .slice none 0 0, .slice (some ⟨w1.heap.size, 0, none⟩) 1 1, .slice none 0 0, .slice none 0 0, .slice none 0 0, .slice none 0 0] 25) = w3 at *
  have B3 := B2.trans (b3.mono B2.size)
  clear B2
  clear b3
  rw [SZ] at Xp3
  have t0 : ((n : Int) == 0) = false := by rw [beq_eq_false_iff_ne]; exact c0
  have t1 : decide (n < -5) = false := decide_eq_false (by omega)
  have t2 : decide (5 < n) = false := decide_eq_false (by omega)
  have t3 : decide (k < 0) = true := decide_eq_true c3
  go_wp2_with fail
  refine (date_yes d _ h1 h2).mono ?_
  rintro e w' ⟨rfl, rfl⟩
  go_wp2_with fail
  refine (may_yes start _ hs).mono ?_
  rintro e w' ⟨rfl, rfl⟩
  go_wp2_with fail
  refine (first_is _ (TT.out.on B3)).mono ?_
  rintro e w4 ⟨rfl, b4⟩
  have B4 := B3.trans (b4.mono B3.size)
  have Xp4 := Xp3.below b4
  have Rp4 := Rp3.below b4
  clear B3 Xp3 Rp3
  clear b4
  go_wp2
  go_ret
  exact ⟨rfl, B4⟩
set_option maxRecDepth 100000 in
set_option maxHeartbeats 8000000 in
theorem nths_g (w : World) (T : Tabs w) (n k start d : Int) (h1 : -719162 ≤ d) (h2 : d ≤ 2932896) (hs : St.may start = true) (c0 : ¬ n = 0) (c1 : -5 ≤ n) (c2 : n ≤ 5) (c3 : 6 < k) :
    Calls Tryz.prog 8 #[.int .i64 n, .int .i64 k, .int .i64 start, .int .i64 d] w fun e w' => e = .returned (.bool true) ∧ Below w.heap.size w w' := by
  have TT := Lib.hid T
  clear T
  show Calls Tryz.prog 8 #[.int .i64 n, .int .i64 k, .int .i64 start, .int .i64 d] w _
  go_enter Tryz.func8, Tryz.ntmps8
  have B0 := Below.refl w.heap.size w
  go_wp2_with fail
  refine (first_is _ (TT.out.on B0)).mono ?_
  rintro e w1 ⟨rfl, b1⟩
  have B1 := B0.trans (b1.mono B0.size)
  clear B0
  clear b1
  go_upto_region 4 with fail
  have b2 := alloc_below w1 (.cells #[.int .i64 n, .int .i64 k] 48)
  have RD := nthR_at w1 n k
  have P := oneS w1.heap.size
  have SZ : (w1.alloc (.cells #[.int .i64 n, .int .i64 k] 48)).heap.size = w1.heap.size + 1 := by simp
  clear P
  generalize hw2 : w1.alloc (.cells #[.int .i64 n, .int .i64 k] 48) = w2 at *
  clear hw2
  have B2 := B1.trans (b2.mono B1.size)
  clear B1
  clear b2
  have b3 := alloc_below w2 (.cells #[.int .i64 2, .int .i64 1, .int .i64 0, .int .i64 0, .int .i64 0, .bool false, .slice none 0 0, .slice none 0 0, .slice none 0 0, .slice none 0 0, .slice (some ⟨w1.heap.size, 0, none⟩) 1 1, .slice none 0 0, .slice none 0 0, .slice none 0 0, .slice none 0 0] 25)
  have Xp3 := Box.new w2 #[.int .i64 2, .int .i64 1, .int .i64 0, .int .i64 0, .int .i64 0, .bool false, .slice none 0 0, .slice none 0 0, .slice none 0 0, .slice none 0 0, .slice (some ⟨w1.heap.size, 0, none⟩) 1 1, .slice none 0 0, .slice none 0 0, .slice none 0 0, .slice none 0 0] 25
  have Rp3 := RD.below b3
  clear RD
  generalize w2.alloc (.cells #[.int .i64 2, .int .i64 1, .int .i64 0, .int .i64 0, .int .i64 0, .bool false, .slice none 0 0, .slice none 0 0, .slice none 0 0, .slice none 0 0, .slice (some ⟨w1.heap.size, 0, none⟩) 1 1, .slice none 0 0, .slice none 0 0, .slice none 0 0, .slice none 0 0] 25) = w3 at *
  have B3 := B2.trans (b3.mono B2.size)
  clear B2
  clear b3
  rw [SZ] at Xp3
  have t0 : ((n : Int) == 0) = false := by rw [beq_eq_false_iff_ne]; exact c0
  have t1 : decide (n < -5) = false := decide_eq_false (by omega)
  have t2 : decide (5 < n) = false := decide_eq_false (by omega)
  have t3 : decide (k < 0) = false := decide_eq_false (by omega)
  have t4 : decide (6 < k) = true := decide_eq_true c3
  go_wp2_with fail
  refine (date_yes d _ h1 h2).mono ?_
  rintro e w' ⟨rfl, rfl⟩
  go_wp2_with fail
  refine (may_yes start _ hs).mono ?_
  rintro e w' ⟨rfl, rfl⟩
  go_wp2_with fail
  refine (first_is _ (TT.out.on B3)).mono ?_
  rintro e w4 ⟨rfl, b4⟩
  have B4 := B3.trans (b4.mono B3.size)
  have Xp4 := Xp3.below b4
  have Rp4 := Rp3.below b4
  clear B3 Xp3 Rp3
  clear b4
  go_wp2
  go_ret
  exact ⟨rfl, B4⟩
set_option maxRecDepth 100000 in
set_option maxHeartbeats 8000000 in
theorem nths_p1 (w : World) (T : Tabs w) (n k start d : Int) (h1 : -719162 ≤ d) (h2 : d ≤ 2932896) (hs : St.may start = true) (c0 : ¬ n = 0) (c1 : -5 ≤ n) (c2 : n ≤ 5) (c3 : 0 ≤ k) (c4 : k ≤ 6) (c5 : 0 < n) (v : Int) (hv : nth (yr d) (Cv.mon d) 1 k + 7 * (n - 1) = v) (e1 : dom d = v) (e2 : 1 ≤ v) :
    Calls Tryz.prog 8 #[.int .i64 n, .int .i64 k, .int .i64 start, .int .i64 d] w fun e w' => e = .returned (.bool true) ∧ Below w.heap.size w w' := by
  have TT := Lib.hid T
  clear T
  have FX := Lib.hid (show fitsB (nthR n k) start d = true by
    rw [nth_fits (n := n) (w := k) (start := start) (day := d) ⟨c0, c1, c2, c3, c4⟩ (decide_eq_true ⟨h1, h2⟩) hs]
    unfold nthW
    rw [if_pos c5, hv]
    exact decide_eq_true ⟨e1, e2⟩)
  obtain ⟨y1, y2⟩ := yr_day d h1 h2
  have mb := mon_bd d
  obtain ⟨m1, m2, _, _⟩ := mb
  have n1 := nth_bd (yr d) (Cv.mon d) 1 k (by omega) (by omega)
  have n5 := nth_bd (yr d) (Cv.mon d) 5 k (by omega) (by omega)
  have t5 : decide (0 < n) = true := decide_eq_true c5
  have e3 : ((dom d : Int) == v) = true := by rw [beq_iff_eq]; exact e1
  have E3 := Lib.hid e3
  clear e1 e3
  show Calls Tryz.prog 8 #[.int .i64 n, .int .i64 k, .int .i64 start, .int .i64 d] w _
  go_enter Tryz.func8, Tryz.ntmps8
  have B0 := Below.refl w.heap.size w
  go_wp2_with fail
  refine (first_is _ (TT.out.on B0)).mono ?_
  rintro e w1 ⟨rfl, b1⟩
  have B1 := B0.trans (b1.mono B0.size)
  clear B0
  clear b1
  go_upto_region 4 with fail
  have b2 := alloc_below w1 (.cells #[.int .i64 n, .int .i64 k] 48)
  have RD := nthR_at w1 n k
  have P := oneS w1.heap.size
  have SZ : (w1.alloc (.cells #[.int .i64 n, .int .i64 k] 48)).heap.size = w1.heap.size + 1 := by simp
  clear P
  generalize hw2 : w1.alloc (.cells #[.int .i64 n, .int .i64 k] 48) = w2 at *
  clear hw2
  have B2 := B1.trans (b2.mono B1.size)
  clear B1
  clear b2
  have b3 := alloc_below w2 (.cells #[.int .i64 2, .int .i64 1, .int .i64 0, .int .i64 0, .int .i64 0, .bool false, .slice none 0 0, .slice none 0 0, .slice none 0 0, .slice none 0 0, .slice (some ⟨w1.heap.size, 0, none⟩) 1 1, .slice none 0 0, .slice none 0 0, .slice none 0 0, .slice none 0 0] 25)
  have Xp3 := Box.new w2 #[.int .i64 2, .int .i64 1, .int .i64 0, .int .i64 0, .int .i64 0, .bool false, .slice none 0 0, .slice none 0 0, .slice none 0 0, .slice none 0 0, .slice (some ⟨w1.heap.size, 0, none⟩) 1 1, .slice none 0 0, .slice none 0 0, .slice none 0 0, .slice none 0 0] 25
  have Rp3 := RD.below b3
  clear RD
  generalize w2.alloc (.cells #[.int .i64 2, .int .i64 1, .int .i64 0, .int .i64 0, .int .i64 0, .bool false, .slice none 0 0, .slice none 0 0, .slice none 0 0, .slice none 0 0, .slice (some ⟨w1.heap.size, 0, none⟩) 1 1, .slice none 0 0, .slice none 0 0, .slice none 0 0, .slice none 0 0] 25) = w3 at *
  have B3 := B2.trans (b3.mono B2.size)
  clear B2
  clear b3
  rw [SZ] at Xp3
  have t0 : ((n : Int) == 0) = false := by rw [beq_eq_false_iff_ne]; exact c0
  have t1 : decide (n < -5) = false := decide_eq_false (by omega)
  have t2 : decide (5 < n) = false := decide_eq_false (by omega)
  have t3 : decide (k < 0) = false := decide_eq_false (by omega)
  have t4 : decide (6 < k) = false := decide_eq_false (by omega)
  go_wp2_with fail
  refine (date_yes d _ h1 h2).mono ?_
  rintro e w' ⟨rfl, rfl⟩
  go_wp2_with fail
  refine (may_yes start _ hs).mono ?_
  rintro e w' ⟨rfl, rfl⟩
  go_wp2_with fail
  refine (nth_yes (yr d) (Cv.mon d) 5 k _ y1 y2 m1 m2 (by omega) (by omega) c3 c4).mono ?_
  rintro e w' ⟨rfl, rfl⟩
  go_wp2_with fail
  refine (nth_yes (yr d) (Cv.mon d) 1 k _ y1 y2 m1 m2 (by omega) (by omega) c3 c4).mono ?_
  rintro e w' ⟨rfl, rfl⟩
  go_upto_region 13 with fail
  have vb : -100 ≤ v ∧ v ≤ 100 := by omega
  try rw [hv]
  clear hv n1 n5 t0 t1 t2 t3 t4 t5
  go_wp2_with fail
  refine (first_is _ (TT.out.on B3)).mono ?_
  rintro e w4 ⟨rfl, b4⟩
  have B4 := B3.trans (b4.mono B3.size)
  have Xp4 := Xp3.below b4
  have Rp4 := Rp3.below b4
  clear B3 Xp3 Rp3
  clear b4
  have pz0 : w4.cell? ⟨w1.heap.size + 1, 0, none⟩ = some (.int .i64 2) := Xp4.at_ 0 _ rfl
  have pz1 : w4.cell? ⟨w1.heap.size + 1, 1, none⟩ = some (.int .i64 1) := Xp4.at_ 1 _ rfl
  have pz2 : w4.cell? ⟨w1.heap.size + 1, 2, none⟩ = some (.int .i64 0) := Xp4.at_ 2 _ rfl
  have pz3 : w4.cell? ⟨w1.heap.size + 1, 3, none⟩ = some (.int .i64 0) := Xp4.at_ 3 _ rfl
  have pz4 : w4.cell? ⟨w1.heap.size + 1, 4, none⟩ = some (.int .i64 0) := Xp4.at_ 4 _ rfl
  have pz5 : w4.cell? ⟨w1.heap.size + 1, 5, none⟩ = some (.bool false) := Xp4.at_ 5 _ rfl
  have pz6 : w4.cell? ⟨w1.heap.size + 1, 6, none⟩ = some (.slice none 0 0) := Xp4.at_ 6 _ rfl
  have pz7 : w4.cell? ⟨w1.heap.size + 1, 7, none⟩ = some (.slice none 0 0) := Xp4.at_ 7 _ rfl
  have pz8 : w4.cell? ⟨w1.heap.size + 1, 8, none⟩ = some (.slice none 0 0) := Xp4.at_ 8 _ rfl
  have pz9 : w4.cell? ⟨w1.heap.size + 1, 9, none⟩ = some (.slice none 0 0) := Xp4.at_ 9 _ rfl
  have pz10 : w4.cell? ⟨w1.heap.size + 1, 10, none⟩ = some (.slice (some ⟨w1.heap.size, 0, none⟩) 1 1) := Xp4.at_ 10 _ rfl
  have pz11 : w4.cell? ⟨w1.heap.size + 1, 11, none⟩ = some (.slice none 0 0) := Xp4.at_ 11 _ rfl
  have pz12 : w4.cell? ⟨w1.heap.size + 1, 12, none⟩ = some (.slice none 0 0) := Xp4.at_ 12 _ rfl
  have pz13 : w4.cell? ⟨w1.heap.size + 1, 13, none⟩ = some (.slice none 0 0) := Xp4.at_ 13 _ rfl
  have pz14 : w4.cell? ⟨w1.heap.size + 1, 14, none⟩ = some (.slice none 0 0) := Xp4.at_ 14 _ rfl
  go_wp2_with fail
  refine (fits_is _ (oneS w1.heap.size) (nthR n k) start d true Rp4 FX.out).mono ?_
  rintro e w5 ⟨rfl, b5⟩
  clear pz0 pz1 pz2 pz3 pz4 pz5 pz6 pz7 pz8 pz9 pz10 pz11 pz12 pz13 pz14
  have B5 := B4.trans (b5.mono B4.size)
  have Xp5 := Xp4.below b5
  have Rp5 := Rp4.below b5
  clear B4 Xp4 Rp4
  clear b5
  have e3 := E3.out
  generalize dom d = u at *
  have e4 : decide (1 ≤ v) = true := decide_eq_true (by omega)
  go_wp2
  go_ret
  exact ⟨rfl, B5⟩
set_option maxRecDepth 100000 in
set_option maxHeartbeats 8000000 in
theorem nths_p2 (w : World) (T : Tabs w) (n k start d : Int) (h1 : -719162 ≤ d) (h2 : d ≤ 2932896) (hs : St.may start = true) (c0 : ¬ n = 0) (c1 : -5 ≤ n) (c2 : n ≤ 5) (c3 : 0 ≤ k) (c4 : k ≤ 6) (c5 : 0 < n) (v : Int) (hv : nth (yr d) (Cv.mon d) 1 k + 7 * (n - 1) = v) (e1 : dom d = v) (e2 : ¬ 1 ≤ v) :
    Calls Tryz.prog 8 #[.int .i64 n, .int .i64 k, .int .i64 start, .int .i64 d] w fun e w' => e = .returned (.bool true) ∧ Below w.heap.size w w' := by
  have TT := Lib.hid T
  clear T
  have FX := Lib.hid (show fitsB (nthR n k) start d = false by
    rw [nth_fits (n := n) (w := k) (start := start) (day := d) ⟨c0, c1, c2, c3, c4⟩ (decide_eq_true ⟨h1, h2⟩) hs]
    unfold nthW
    rw [if_pos c5, hv]
    exact decide_eq_false (fun g => e2 g.2))
  obtain ⟨y1, y2⟩ := yr_day d h1 h2
  have mb := mon_bd d
  obtain ⟨m1, m2, _, _⟩ := mb
  have n1 := nth_bd (yr d) (Cv.mon d) 1 k (by omega) (by omega)
  have n5 := nth_bd (yr d) (Cv.mon d) 5 k (by omega) (by omega)
  have t5 : decide (0 < n) = true := decide_eq_true c5
  have e3 : ((dom d : Int) == v) = true := by rw [beq_iff_eq]; exact e1
  have E3 := Lib.hid e3
  clear e1 e3
  show Calls Tryz.prog 8 #[.int .i64 n, .int .i64 k, .int .i64 start, .int .i64 d] w _
  go_enter Tryz.func8, Tryz.ntmps8
  have B0 := Below.refl w.heap.size w
  go_wp2_with fail
  refine (first_is _ (TT.out.on B0)).mono ?_
  rintro e w1 ⟨rfl, b1⟩
  have B1 := B0.trans (b1.mono B0.size)
  clear B0
  clear b1
  go_upto_region 4 with fail
  have b2 := alloc_below w1 (.cells #[.int .i64 n, .int .i64 k] 48)
  have RD := nthR_at w1 n k
  have P := oneS w1.heap.size
  have SZ : (w1.alloc (.cells #[.int .i64 n, .int .i64 k] 48)).heap.size = w1.heap.size + 1 := by simp
  clear P
  generalize hw2 : w1.alloc (.cells #[.int .i64 n, .int .i64 k] 48) = w2 at *
  clear hw2
  have B2 := B1.trans (b2.mono B1.size)
  clear B1
  clear b2
  have b3 := alloc_below w2 (.cells #[.int .i64 2, .int .i64 1, .int .i64 0, .int .i64 0, .int .i64 0, .bool false, .slice none 0 0, .slice none 0 0, .slice none 0 0, .slice none 0 0, .slice (some ⟨w1.heap.size, 0, none⟩) 1 1, .slice none 0 0, .slice none 0 0, .slice none 0 0, .slice none 0 0] 25)
  have Xp3 := Box.new w2 #[.int .i64 2, .int .i64 1, .int .i64 0, .int .i64 0, .int .i64 0, .bool false, .slice none 0 0, .slice none 0 0, .slice none 0 0, .slice none 0 0, .slice (some ⟨w1.heap.size, 0, none⟩) 1 1, .slice none 0 0, .slice none 0 0, .slice none 0 0, .slice none 0 0] 25
  have Rp3 := RD.below b3
  clear RD
  generalize w2.alloc (.cells #[.int .i64 2, .int .i64 1, .int .i64 0, .int .i64 0, .int .i64 0, .bool false, .slice none 0 0, .slice none 0 0, .slice none 0 0, .slice none 0 0, .slice (some ⟨w1.heap.size, 0, none⟩) 1 1, .slice none 0 0, .slice none 0 0, .slice none 0 0, .slice none 0 0] 25) = w3 at *
  have B3 := B2.trans (b3.mono B2.size)
  clear B2
  clear b3
  rw [SZ] at Xp3
  have t0 : ((n : Int) == 0) = false := by rw [beq_eq_false_iff_ne]; exact c0
  have t1 : decide (n < -5) = false := decide_eq_false (by omega)
  have t2 : decide (5 < n) = false := decide_eq_false (by omega)
  have t3 : decide (k < 0) = false := decide_eq_false (by omega)
  have t4 : decide (6 < k) = false := decide_eq_false (by omega)
  go_wp2_with fail
  refine (date_yes d _ h1 h2).mono ?_
  rintro e w' ⟨rfl, rfl⟩
  go_wp2_with fail
  refine (may_yes start _ hs).mono ?_
  rintro e w' ⟨rfl, rfl⟩
  go_wp2_with fail
  refine (nth_yes (yr d) (Cv.mon d) 5 k _ y1 y2 m1 m2 (by omega) (by omega) c3 c4).mono ?_
  rintro e w' ⟨rfl, rfl⟩
  go_wp2_with fail
  refine (nth_yes (yr d) (Cv.mon d) 1 k _ y1 y2 m1 m2 (by omega) (by omega) c3 c4).mono ?_
  rintro e w' ⟨rfl, rfl⟩
  go_upto_region 13 with fail
  have vb : -100 ≤ v ∧ v ≤ 100 := by omega
  try rw [hv]
  clear hv n1 n5 t0 t1 t2 t3 t4 t5
  go_wp2_with fail
  refine (first_is _ (TT.out.on B3)).mono ?_
  rintro e w4 ⟨rfl, b4⟩
  have B4 := B3.trans (b4.mono B3.size)
  have Xp4 := Xp3.below b4
  have Rp4 := Rp3.below b4
  clear B3 Xp3 Rp3
  clear b4
  have pz0 : w4.cell? ⟨w1.heap.size + 1, 0, none⟩ = some (.int .i64 2) := Xp4.at_ 0 _ rfl
  have pz1 : w4.cell? ⟨w1.heap.size + 1, 1, none⟩ = some (.int .i64 1) := Xp4.at_ 1 _ rfl
  have pz2 : w4.cell? ⟨w1.heap.size + 1, 2, none⟩ = some (.int .i64 0) := Xp4.at_ 2 _ rfl
  have pz3 : w4.cell? ⟨w1.heap.size + 1, 3, none⟩ = some (.int .i64 0) := Xp4.at_ 3 _ rfl
  have pz4 : w4.cell? ⟨w1.heap.size + 1, 4, none⟩ = some (.int .i64 0) := Xp4.at_ 4 _ rfl
  have pz5 : w4.cell? ⟨w1.heap.size + 1, 5, none⟩ = some (.bool false) := Xp4.at_ 5 _ rfl
  have pz6 : w4.cell? ⟨w1.heap.size + 1, 6, none⟩ = some (.slice none 0 0) := Xp4.at_ 6 _ rfl
  have pz7 : w4.cell? ⟨w1.heap.size + 1, 7, none⟩ = some (.slice none 0 0) := Xp4.at_ 7 _ rfl
  have pz8 : w4.cell? ⟨w1.heap.size + 1, 8, none⟩ = some (.slice none 0 0) := Xp4.at_ 8 _ rfl
  have pz9 : w4.cell? ⟨w1.heap.size + 1, 9, none⟩ = some (.slice none 0 0) := Xp4.at_ 9 _ rfl
  have pz10 : w4.cell? ⟨w1.heap.size + 1, 10, none⟩ = some (.slice (some ⟨w1.heap.size, 0, none⟩) 1 1) := Xp4.at_ 10 _ rfl
  have pz11 : w4.cell? ⟨w1.heap.size + 1, 11, none⟩ = some (.slice none 0 0) := Xp4.at_ 11 _ rfl
  have pz12 : w4.cell? ⟨w1.heap.size + 1, 12, none⟩ = some (.slice none 0 0) := Xp4.at_ 12 _ rfl
  have pz13 : w4.cell? ⟨w1.heap.size + 1, 13, none⟩ = some (.slice none 0 0) := Xp4.at_ 13 _ rfl
  have pz14 : w4.cell? ⟨w1.heap.size + 1, 14, none⟩ = some (.slice none 0 0) := Xp4.at_ 14 _ rfl
  go_wp2_with fail
  refine (fits_is _ (oneS w1.heap.size) (nthR n k) start d false Rp4 FX.out).mono ?_
  rintro e w5 ⟨rfl, b5⟩
  clear pz0 pz1 pz2 pz3 pz4 pz5 pz6 pz7 pz8 pz9 pz10 pz11 pz12 pz13 pz14
  have B5 := B4.trans (b5.mono B4.size)
  have Xp5 := Xp4.below b5
  have Rp5 := Rp4.below b5
  clear B4 Xp4 Rp4
  clear b5
  have e3 := E3.out
  generalize dom d = u at *
  have e4 : decide (1 ≤ v) = false := decide_eq_false (by omega)
  go_wp2
  go_ret
  exact ⟨rfl, B5⟩
set_option maxRecDepth 100000 in
set_option maxHeartbeats 8000000 in
theorem nths_p3 (w : World) (T : Tabs w) (n k start d : Int) (h1 : -719162 ≤ d) (h2 : d ≤ 2932896) (hs : St.may start = true) (c0 : ¬ n = 0) (c1 : -5 ≤ n) (c2 : n ≤ 5) (c3 : 0 ≤ k) (c4 : k ≤ 6) (c5 : 0 < n) (v : Int) (hv : nth (yr d) (Cv.mon d) 1 k + 7 * (n - 1) = v) (e1 : ¬ dom d = v) :
    Calls Tryz.prog 8 #[.int .i64 n, .int .i64 k, .int .i64 start, .int .i64 d] w fun e w' => e = .returned (.bool true) ∧ Below w.heap.size w w' := by
  have TT := Lib.hid T
  clear T
  have FX := Lib.hid (show fitsB (nthR n k) start d = false by
    rw [nth_fits (n := n) (w := k) (start := start) (day := d) ⟨c0, c1, c2, c3, c4⟩ (decide_eq_true ⟨h1, h2⟩) hs]
    unfold nthW
    rw [if_pos c5, hv]
    exact decide_eq_false (fun g => e1 g.1))
  obtain ⟨y1, y2⟩ := yr_day d h1 h2
  have mb := mon_bd d
  obtain ⟨m1, m2, _, _⟩ := mb
  have n1 := nth_bd (yr d) (Cv.mon d) 1 k (by omega) (by omega)
  have n5 := nth_bd (yr d) (Cv.mon d) 5 k (by omega) (by omega)
  have t5 : decide (0 < n) = true := decide_eq_true c5
  have e3 : ((dom d : Int) == v) = false := by rw [beq_eq_false_iff_ne]; exact e1
  have E3 := Lib.hid e3
  clear e1 e3
  show Calls Tryz.prog 8 #[.int .i64 n, .int .i64 k, .int .i64 start, .int .i64 d] w _
  go_enter Tryz.func8, Tryz.ntmps8
  have B0 := Below.refl w.heap.size w
  go_wp2_with fail
  refine (first_is _ (TT.out.on B0)).mono ?_
  rintro e w1 ⟨rfl, b1⟩
  have B1 := B0.trans (b1.mono B0.size)
  clear B0
  clear b1
  go_upto_region 4 with fail
  have b2 := alloc_below w1 (.cells #[.int .i64 n, .int .i64 k] 48)
  have RD := nthR_at w1 n k
  have P := oneS w1.heap.size
  have SZ : (w1.alloc (.cells #[.int .i64 n, .int .i64 k] 48)).heap.size = w1.heap.size + 1 := by simp
  clear P
  generalize hw2 : w1.alloc (.cells #[.int .i64 n, .int .i64 k] 48) = w2 at *
  clear hw2
  have B2 := B1.trans (b2.mono B1.size)
  clear B1
  clear b2
  have b3 := alloc_below w2 (.cells #[.int .i64 2, .int .i64 1, .int .i64 0, .int .i64 0, .int .i64 0, .bool false, .slice none 0 0, .slice none 0 0, .slice none 0 0, .slice none 0 0, .slice (some ⟨w1.heap.size, 0, none⟩) 1 1, .slice none 0 0, .slice none 0 0, .slice none 0 0, .slice none 0 0] 25)
  have Xp3 := Box.new w2 #[.int .i64 2, .int .i64 1, .int .i64 0, .int .i64 0, .int .i64 0, .bool false, .slice none 0 0, .slice none 0 0, .slice none 0 0, .slice none 0 0, .slice (some ⟨w1.heap.size, 0, none⟩) 1 1, .slice none 0 0, .slice none 0 0, .slice none 0 0, .slice none 0 0] 25
  have Rp3 := RD.below b3
  clear RD
  generalize w2.alloc (.cells #[.int .i64 2, .int .i64 1, .int .i64 0, .int .i64 0, .int .i64 0, .bool false, .slice none 0 0, .slice none 0 0, .slice none 0 0, .slice none 0 0, .slice (some ⟨w1.heap.size, 0, none⟩) 1 1, .slice none 0 0, .slice none 0 0, .slice none 0 0, .slice none 0 0] 25) = w3 at *
  have B3 := B2.trans (b3.mono B2.size)
  clear B2
  clear b3
  rw [SZ] at Xp3
  have t0 : ((n : Int) == 0) = false := by rw [beq_eq_false_iff_ne]; exact c0
  have t1 : decide (n < -5) = false := decide_eq_false (by omega)
  have t2 : decide (5 < n) = false := decide_eq_false (by omega)
  have t3 : decide (k < 0) = false := decide_eq_false (by omega)
  have t4 : decide (6 < k) = false := decide_eq_false (by omega)
  go_wp2_with fail
  refine (date_yes d _ h1 h2).mono ?_
  rintro e w' ⟨rfl, rfl⟩
  go_wp2_with fail
  refine (may_yes start _ hs).mono ?_
  rintro e w' ⟨rfl, rfl⟩
  go_wp2_with fail
  refine (nth_yes (yr d) (Cv.mon d) 5 k _ y1 y2 m1 m2 (by omega) (by omega) c3 c4).mono ?_
  rintro e w' ⟨rfl, rfl⟩
  go_wp2_with fail
  refine (nth_yes (yr d) (Cv.mon d) 1 k _ y1 y2 m1 m2 (by omega) (by omega) c3 c4).mono ?_
  rintro e w' ⟨rfl, rfl⟩
  go_upto_region 13 with fail
  have vb : -100 ≤ v ∧ v ≤ 100 := by omega
  try rw [hv]
  clear hv n1 n5 t0 t1 t2 t3 t4 t5
  go_wp2_with fail
  refine (first_is _ (TT.out.on B3)).mono ?_
  rintro e w4 ⟨rfl, b4⟩
  have B4 := B3.trans (b4.mono B3.size)
  have Xp4 := Xp3.below b4
  have Rp4 := Rp3.below b4
  clear B3 Xp3 Rp3
  clear b4
  have pz0 : w4.cell? ⟨w1.heap.size + 1, 0, none⟩ = some (.int .i64 2) := Xp4.at_ 0 _ rfl
  have pz1 : w4.cell? ⟨w1.heap.size + 1, 1, none⟩ = some (.int .i64 1) := Xp4.at_ 1 _ rfl
  have pz2 : w4.cell? ⟨w1.heap.size + 1, 2, none⟩ = some (.int .i64 0) := Xp4.at_ 2 _ rfl
  have pz3 : w4.cell? ⟨w1.heap.size + 1, 3, none⟩ = some (.int .i64 0) := Xp4.at_ 3 _ rfl
  have pz4 : w4.cell? ⟨w1.heap.size + 1, 4, none⟩ = some (.int .i64 0) := Xp4.at_ 4 _ rfl
  have pz5 : w4.cell? ⟨w1.heap.size + 1, 5, none⟩ = some (.bool false) := Xp4.at_ 5 _ rfl
  have pz6 : w4.cell? ⟨w1.heap.size + 1, 6, none⟩ = some (.slice none 0 0) := Xp4.at_ 6 _ rfl
  have pz7 : w4.cell? ⟨w1.heap.size + 1, 7, none⟩ = some (.slice none 0 0) := Xp4.at_ 7 _ rfl
  have pz8 : w4.cell? ⟨w1.heap.size + 1, 8, none⟩ = some (.slice none 0 0) := Xp4.at_ 8 _ rfl
  have pz9 : w4.cell? ⟨w1.heap.size + 1, 9, none⟩ = some (.slice none 0 0) := Xp4.at_ 9 _ rfl
  have pz10 : w4.cell? ⟨w1.heap.size + 1, 10, none⟩ = some (.slice (some ⟨w1.heap.size, 0, none⟩) 1 1) := Xp4.at_ 10 _ rfl
  have pz11 : w4.cell? ⟨w1.heap.size + 1, 11, none⟩ = some (.slice none 0 0) := Xp4.at_ 11 _ rfl
  have pz12 : w4.cell? ⟨w1.heap.size + 1, 12, none⟩ = some (.slice none 0 0) := Xp4.at_ 12 _ rfl
  have pz13 : w4.cell? ⟨w1.heap.size + 1, 13, none⟩ = some (.slice none 0 0) := Xp4.at_ 13 _ rfl
  have pz14 : w4.cell? ⟨w1.heap.size + 1, 14, none⟩ = some (.slice none 0 0) := Xp4.at_ 14 _ rfl
  go_wp2_with fail
  refine (fits_is _ (oneS w1.heap.size) (nthR n k) start d false Rp4 FX.out).mono ?_
  rintro e w5 ⟨rfl, b5⟩
  clear pz0 pz1 pz2 pz3 pz4 pz5 pz6 pz7 pz8 pz9 pz10 pz11 pz12 pz13 pz14
  have B5 := B4.trans (b5.mono B4.size)
  have Xp5 := Xp4.below b5
  have Rp5 := Rp4.below b5
  clear B4 Xp4 Rp4
  clear b5
  have e3 := E3.out
  generalize dom d = u at *
  go_wp2
  go_ret
  exact ⟨rfl, B5⟩
set_option maxRecDepth 100000 in
set_option maxHeartbeats 8000000 in
theorem nths_n1 (w : World) (T : Tabs w) (n k start d : Int) (h1 : -719162 ≤ d) (h2 : d ≤ 2932896) (hs : St.may start = true) (c0 : ¬ n = 0) (c1 : -5 ≤ n) (c2 : n ≤ 5) (c3 : 0 ≤ k) (c4 : k ≤ 6) (c5 : ¬ 0 < n) (v : Int) (hv : nth (yr d) (Cv.mon d) 5 k + 7 * (n + 1) = v) (e1 : dom d = v) (e2 : 1 ≤ v) :
    Calls Tryz.prog 8 #[.int .i64 n, .int .i64 k, .int .i64 start, .int .i64 d] w fun e w' => e = .returned (.bool true) ∧ Below w.heap.size w w' := by
  have TT := Lib.hid T
  clear T
  have FX := Lib.hid (show fitsB (nthR n k) start d = true by
    rw [nth_fits (n := n) (w := k) (start := start) (day := d) ⟨c0, c1, c2, c3, c4⟩ (decide_eq_true ⟨h1, h2⟩) hs]
    unfold nthW
    rw [if_neg c5, hv]
    exact decide_eq_true ⟨e1, e2⟩)
  obtain ⟨y1, y2⟩ := yr_day d h1 h2
  have mb := mon_bd d
  obtain ⟨m1, m2, _, _⟩ := mb
  have n1 := nth_bd (yr d) (Cv.mon d) 1 k (by omega) (by omega)
  have n5 := nth_bd (yr d) (Cv.mon d) 5 k (by omega) (by omega)
  have t5 : decide (0 < n) = false := decide_eq_false c5
  have e3 : ((dom d : Int) == v) = true := by rw [beq_iff_eq]; exact e1
  have E3 := Lib.hid e3
  clear e1 e3
  show Calls Tryz.prog 8 #[.int .i64 n, .int .i64 k, .int .i64 start, .int .i64 d] w _
  go_enter Tryz.func8, Tryz.ntmps8
  have B0 := Below.refl w.heap.size w
  go_wp2_with fail
  refine (first_is _ (TT.out.on B0)).mono ?_
  rintro e w1 ⟨rfl, b1⟩
  have B1 := B0.trans (b1.mono B0.size)
  clear B0
  clear b1
  go_upto_region 4 with fail
  have b2 := alloc_below w1 (.cells #[.int .i64 n, .int .i64 k] 48)
  have RD := nthR_at w1 n k
  have P := oneS w1.heap.size
  have SZ : (w1.alloc (.cells #[.int .i64 n, .int .i64 k] 48)).heap.size = w1.heap.size + 1 := by simp
  clear P
  generalize hw2 : w1.alloc (.cells #[.int .i64 n, .int .i64 k] 48) = w2 at *
  clear hw2
  have B2 := B1.trans (b2.mono B1.size)
  clear B1
  clear b2
  have b3 := alloc_below w2 (.cells #[.int .i64 2, .int .i64 1, .int .i64 0, .int .i64 0, .int .i64 0, .bool false, .slice none 0 0, .slice none 0 0, .slice none 0 0, .slice none 0 0, .slice (some ⟨w1.heap.size, 0, none⟩) 1 1, .slice none 0 0, .slice none 0 0, .slice none 0 0, .slice none 0 0] 25)
  have Xp3 := Box.new w2 #[.int .i64 2, .int .i64 1, .int .i64 0, .int .i64 0, .int .i64 0, .bool false, .slice none 0 0, .slice none 0 0, .slice none 0 0, .slice none 0 0, .slice (some ⟨w1.heap.size, 0, none⟩) 1 1, .slice none 0 0, .slice none 0 0, .slice none 0 0, .slice none 0 0] 25
  have Rp3 := RD.below b3
  clear RD
  generalize w2.alloc (.cells #[.int .i64 2, .int .i64 1, .int .i64 0, .int .i64 0, .int .i64 0, .bool false, .slice none 0 0, .slice none 0 0, .slice none 0 0, .slice none 0 0, .slice (some ⟨w1.heap.size, 0, none⟩) 1 1, .slice none 0 0, .slice none 0 0, .slice none 0 0, .slice none 0 0] 25) = w3 at *
  have B3 := B2.trans (b3.mono B2.size)
  clear B2
  clear b3
  rw [SZ] at Xp3
  have t0 : ((n : Int) == 0) = false := by rw [beq_eq_false_iff_ne]; exact c0
  have t1 : decide (n < -5) = false := decide_eq_false (by omega)
  have t2 : decide (5 < n) = false := decide_eq_false (by omega)
  have t3 : decide (k < 0) = false := decide_eq_false (by omega)
  have t4 : decide (6 < k) = false := decide_eq_false (by omega)
  go_wp2_with fail
  refine (date_yes d _ h1 h2).mono ?_
  rintro e w' ⟨rfl, rfl⟩
  go_wp2_with fail
  refine (may_yes start _ hs).mono ?_
  rintro e w' ⟨rfl, rfl⟩
  go_wp2_with fail
  refine (nth_yes (yr d) (Cv.mon d) 5 k _ y1 y2 m1 m2 (by omega) (by omega) c3 c4).mono ?_
  rintro e w' ⟨rfl, rfl⟩
  go_wp2_with fail
  refine (nth_yes (yr d) (Cv.mon d) 1 k _ y1 y2 m1 m2 (by omega) (by omega) c3 c4).mono ?_
  rintro e w' ⟨rfl, rfl⟩
  go_upto_region 13 with fail
  have vb : -100 ≤ v ∧ v ≤ 100 := by omega
  try rw [hv]
  clear hv n1 n5 t0 t1 t2 t3 t4 t5
  go_wp2_with fail
  refine (first_is _ (TT.out.on B3)).mono ?_
  rintro e w4 ⟨rfl, b4⟩
  have B4 := B3.trans (b4.mono B3.size)
  have Xp4 := Xp3.below b4
  have Rp4 := Rp3.below b4
  clear B3 Xp3 Rp3
  clear b4
  have pz0 : w4.cell? ⟨w1.heap.size + 1, 0, none⟩ = some (.int .i64 2) := Xp4.at_ 0 _ rfl
  have pz1 : w4.cell? ⟨w1.heap.size + 1, 1, none⟩ = some (.int .i64 1) := Xp4.at_ 1 _ rfl
  have pz2 : w4.cell? ⟨w1.heap.size + 1, 2, none⟩ = some (.int .i64 0) := Xp4.at_ 2 _ rfl
  have pz3 : w4.cell? ⟨w1.heap.size + 1, 3, none⟩ = some (.int .i64 0) := Xp4.at_ 3 _ rfl
  have pz4 : w4.cell? ⟨w1.heap.size + 1, 4, none⟩ = some (.int .i64 0) := Xp4.at_ 4 _ rfl
  have pz5 : w4.cell? ⟨w1.heap.size + 1, 5, none⟩ = some (.bool false) := Xp4.at_ 5 _ rfl
  have pz6 : w4.cell? ⟨w1.heap.size + 1, 6, none⟩ = some (.slice none 0 0) := Xp4.at_ 6 _ rfl
  have pz7 : w4.cell? ⟨w1.heap.size + 1, 7, none⟩ = some (.slice none 0 0) := Xp4.at_ 7 _ rfl
  have pz8 : w4.cell? ⟨w1.heap.size + 1, 8, none⟩ = some (.slice none 0 0) := Xp4.at_ 8 _ rfl
  have pz9 : w4.cell? ⟨w1.heap.size + 1, 9, none⟩ = some (.slice none 0 0) := Xp4.at_ 9 _ rfl
  have pz10 : w4.cell? ⟨w1.heap.size + 1, 10, none⟩ = some (.slice (some ⟨w1.heap.size, 0, none⟩) 1 1) := Xp4.at_ 10 _ rfl
  have pz11 : w4.cell? ⟨w1.heap.size + 1, 11, none⟩ = some (.slice none 0 0) := Xp4.at_ 11 _ rfl
  have pz12 : w4.cell? ⟨w1.heap.size + 1, 12, none⟩ = some (.slice none 0 0) := Xp4.at_ 12 _ rfl
  have pz13 : w4.cell? ⟨w1.heap.size + 1, 13, none⟩ = some (.slice none 0 0) := Xp4.at_ 13 _ rfl
  have pz14 : w4.cell? ⟨w1.heap.size + 1, 14, none⟩ = some (.slice none 0 0) := Xp4.at_ 14 _ rfl
  go_wp2_with fail
  refine (fits_is _ (oneS w1.heap.size) (nthR n k) start d true Rp4 FX.out).mono ?_
  rintro e w5 ⟨rfl, b5⟩
  clear pz0 pz1 pz2 pz3 pz4 pz5 pz6 pz7 pz8 pz9 pz10 pz11 pz12 pz13 pz14
  have B5 := B4.trans (b5.mono B4.size)
  have Xp5 := Xp4.below b5
  have Rp5 := Rp4.below b5
  clear B4 Xp4 Rp4
  clear b5
  have e3 := E3.out
  generalize dom d = u at *
  have e4 : decide (1 ≤ v) = true := decide_eq_true (by omega)
  go_wp2
  go_ret
  exact ⟨rfl, B5⟩
set_option maxRecDepth 100000 in
set_option maxHeartbeats 8000000 in
theorem nths_n2 (w : World) (T : Tabs w) (n k start d : Int) (h1 : -719162 ≤ d) (h2 : d ≤ 2932896) (hs : St.may start = true) (c0 : ¬ n = 0) (c1 : -5 ≤ n) (c2 : n ≤ 5) (c3 : 0 ≤ k) (c4 : k ≤ 6) (c5 : ¬ 0 < n) (v : Int) (hv : nth (yr d) (Cv.mon d) 5 k + 7 * (n + 1) = v) (e1 : dom d = v) (e2 : ¬ 1 ≤ v) :
    Calls Tryz.prog 8 #[.int .i64 n, .int .i64 k, .int .i64 start, .int .i64 d] w fun e w' => e = .returned (.bool true) ∧ Below w.heap.size w w' := by
  have TT := Lib.hid T
  clear T
  have FX := Lib.hid (show fitsB (nthR n k) start d = false by
    rw [nth_fits (n := n) (w := k) (start := start) (day := d) ⟨c0, c1, c2, c3, c4⟩ (decide_eq_true ⟨h1, h2⟩) hs]
    unfold nthW
    rw [if_neg c5, hv]
    exact decide_eq_false (fun g => e2 g.2))
  obtain ⟨y1, y2⟩ := yr_day d h1 h2
  have mb := mon_bd d
  obtain ⟨m1, m2, _, _⟩ := mb
  have n1 := nth_bd (yr d) (Cv.mon d) 1 k (by omega) (by omega)
  have n5 := nth_bd (yr d) (Cv.mon d) 5 k (by omega) (by omega)
  have t5 : decide (0 < n) = false := decide_eq_false c5
  have e3 : ((dom d : Int) == v) = true := by rw [beq_iff_eq]; exact e1
  have E3 := Lib.hid e3
  clear e1 e3
  show Calls Tryz.prog 8 #[.int .i64 n, .int .i64 k, .int .i64 start, .int .i64 d] w _
  go_enter Tryz.func8, Tryz.ntmps8
  have B0 := Below.refl w.heap.size w
  go_wp2_with fail
  refine (first_is _ (TT.out.on B0)).mono ?_
  rintro e w1 ⟨rfl, b1⟩
  have B1 := B0.trans (b1.mono B0.size)
  clear B0
  clear b1
  go_upto_region 4 with fail
  have b2 := alloc_below w1 (.cells #[.int .i64 n, .int .i64 k] 48)
  have RD := nthR_at w1 n k
  have P := oneS w1.heap.size
  have SZ : (w1.alloc (.cells #[.int .i64 n, .int .i64 k] 48)).heap.size = w1.heap.size + 1 := by simp
  clear P
  generalize hw2 : w1.alloc (.cells #[.int .i64 n, .int .i64 k] 48) = w2 at *
  clear hw2
  have B2 := B1.trans (b2.mono B1.size)
  clear B1
  clear b2
  have b3 := alloc_below w2 (.cells #[.int .i64 2, .int .i64 1, .int .i64 0, .int .i64 0, .int .i64 0, .bool false, .slice none 0 0, .slice none 0 0, .slice none 0 0, .slice none 0 0, .slice (some ⟨w1.heap.size, 0, none⟩) 1 1, .slice none 0 0, .slice none 0 0, .slice none 0 0, .slice none 0 0] 25)
  have Xp3 := Box.new w2 #[.int .i64 2, .int .i64 1, .int .i64 0, .int .i64 0, .int .i64 0, .bool false, .slice none 0 0, .slice none 0 0, .slice none 0 0, .slice none 0 0, .slice (some ⟨w1.heap.size, 0, none⟩) 1 1, .slice none 0 0, .slice none 0 0, .slice none 0 0, .slice none 0 0] 25
  have Rp3 := RD.below b3
  clear RD
  generalize w2.alloc (.cells #[.int .i64 2, .int .i64 1, .int .i64 0, .int .i64 0, .int .i64 0, .bool false, .slice none 0 0, .slice none 0 0, .slice none 0 0, .slice none 0 0, .slice (some ⟨w1.heap.size, 0, none⟩) 1 1, .slice none 0 0, .slice none 0 0, .slice none 0 0, .slice none 0 0] 25) = w3 at *
  have B3 := B2.trans (b3.mono B2.size)
  clear B2
  clear b3
  rw [SZ] at Xp3
  have t0 : ((n : Int) == 0) = false := by rw [beq_eq_false_iff_ne]; exact c0
  have t1 : decide (n < -5) = false := decide_eq_false (by omega)
  have t2 : decide (5 < n) = false := decide_eq_false (by omega)
  have t3 : decide (k < 0) = false := decide_eq_false (by omega)
  have t4 : decide (6 < k) = false := decide_eq_false (by omega)
  go_wp2_with fail
  refine (date_yes d _ h1 h2).mono ?_
  rintro e w' ⟨rfl, rfl⟩
  go_wp2_with fail
  refine (may_yes start _ hs).mono ?_
  rintro e w' ⟨rfl, rfl⟩
  go_wp2_with fail
  refine (nth_yes (yr d) (Cv.mon d) 5 k _ y1 y2 m1 m2 (by omega) (by omega) c3 c4).mono ?_
  rintro e w' ⟨rfl, rfl⟩
  go_wp2_with fail
  refine (nth_yes (yr d) (Cv.mon d) 1 k _ y1 y2 m1 m2 (by omega) (by omega) c3 c4).mono ?_
  rintro e w' ⟨rfl, rfl⟩
  go_upto_region 13 with fail
  have vb : -100 ≤ v ∧ v ≤ 100 := by omega
  try rw [hv]
  clear hv n1 n5 t0 t1 t2 t3 t4 t5
  go_wp2_with fail
  refine (first_is _ (TT.out.on B3)).mono ?_
  rintro e w4 ⟨rfl, b4⟩
  have B4 := B3.trans (b4.mono B3.size)
  have Xp4 := Xp3.below b4
  have Rp4 := Rp3.below b4
  clear B3 Xp3 Rp3
  clear b4
  have pz0 : w4.cell? ⟨w1.heap.size + 1, 0, none⟩ = some (.int .i64 2) := Xp4.at_ 0 _ rfl
  have pz1 : w4.cell? ⟨w1.heap.size + 1, 1, none⟩ = some (.int .i64 1) := Xp4.at_ 1 _ rfl
  have pz2 : w4.cell? ⟨w1.heap.size + 1, 2, none⟩ = some (.int .i64 0) := Xp4.at_ 2 _ rfl
  have pz3 : w4.cell? ⟨w1.heap.size + 1, 3, none⟩ = some (.int .i64 0) := Xp4.at_ 3 _ rfl
  have pz4 : w4.cell? ⟨w1.heap.size + 1, 4, none⟩ = some (.int .i64 0) := Xp4.at_ 4 _ rfl
  have pz5 : w4.cell? ⟨w1.heap.size + 1, 5, none⟩ = some (.bool false) := Xp4.at_ 5 _ rfl
  have pz6 : w4.cell? ⟨w1.heap.size + 1, 6, none⟩ = some (.slice none 0 0) := Xp4.at_ 6 _ rfl
  have pz7 : w4.cell? ⟨w1.heap.size + 1, 7, none⟩ = some (.slice none 0 0) := Xp4.at_ 7 _ rfl
  have pz8 : w4.cell? ⟨w1.heap.size + 1, 8, none⟩ = some (.slice none 0 0) := Xp4.at_ 8 _ rfl
  have pz9 : w4.cell? ⟨w1.heap.size + 1, 9, none⟩ = some (.slice none 0 0) := Xp4.at_ 9 _ rfl
  have pz10 : w4.cell? ⟨w1.heap.size + 1, 10, none⟩ = some (.slice (some ⟨w1.heap.size, 0, none⟩) 1 1) := Xp4.at_ 10 _ rfl
  have pz11 : w4.cell? ⟨w1.heap.size + 1, 11, none⟩ = some (.slice none 0 0) := Xp4.at_ 11 _ rfl
  have pz12 : w4.cell? ⟨w1.heap.size + 1, 12, none⟩ = some (.slice none 0 0) := Xp4.at_ 12 _ rfl
  have pz13 : w4.cell? ⟨w1.heap.size + 1, 13, none⟩ = some (.slice none 0 0) := Xp4.at_ 13 _ rfl
  have pz14 : w4.cell? ⟨w1.heap.size + 1, 14, none⟩ = some (.slice none 0 0) := Xp4.at_ 14 _ rfl
  go_wp2_with fail
  refine (fits_is _ (oneS w1.heap.size) (nthR n k) start d false Rp4 FX.out).mono ?_
  rintro e w5 ⟨rfl, b5⟩
  clear pz0 pz1 pz2 pz3 pz4 pz5 pz6 pz7 pz8 pz9 pz10 pz11 pz12 pz13 pz14
  have B5 := B4.trans (b5.mono B4.size)
  have Xp5 := Xp4.below b5
  have Rp5 := Rp4.below b5
  clear B4 Xp4 Rp4
  clear b5
  have e3 := E3.out
  generalize dom d = u at *
  have e4 : decide (1 ≤ v) = false := decide_eq_false (by omega)
  go_wp2
  go_ret
  exact ⟨rfl, B5⟩
set_option maxRecDepth 100000 in
set_option maxHeartbeats 8000000 in
theorem nths_n3 (w : World) (T : Tabs w) (n k start d : Int) (h1 : -719162 ≤ d) (h2 : d ≤ 2932896) (hs : St.may start = true) (c0 : ¬ n = 0) (c1 : -5 ≤ n) (c2 : n ≤ 5) (c3 : 0 ≤ k) (c4 : k ≤ 6) (c5 : ¬ 0 < n) (v : Int) (hv : nth (yr d) (Cv.mon d) 5 k + 7 * (n + 1) = v) (e1 : ¬ dom d = v) :
    Calls Tryz.prog 8 #[.int .i64 n, .int .i64 k, .int .i64 start, .int .i64 d] w fun e w' => e = .returned (.bool true) ∧ Below w.heap.size w w' := by
  have TT := Lib.hid T
  clear T
  have FX := Lib.hid (show fitsB (nthR n k) start d = false by
    rw [nth_fits (n := n) (w := k) (start := start) (day := d) ⟨c0, c1, c2, c3, c4⟩ (decide_eq_true ⟨h1, h2⟩) hs]
    unfold nthW
    rw [if_neg c5, hv]
    exact decide_eq_false (fun g => e1 g.1))
  obtain ⟨y1, y2⟩ := yr_day d h1 h2
  have mb := mon_bd d
  obtain ⟨m1, m2, _, _⟩ := mb
  have n1 := nth_bd (yr d) (Cv.mon d) 1 k (by omega) (by omega)
  have n5 := nth_bd (yr d) (Cv.mon d) 5 k (by omega) (by omega)
  have t5 : decide (0 < n) = false := decide_eq_false c5
  have e3 : ((dom d : Int) == v) = false := by rw [beq_eq_false_iff_ne]; exact e1
  have E3 := Lib.hid e3
  clear e1 e3
  show Calls Tryz.prog 8 #[.int .i64 n, .int .i64 k, .int .i64 start, .int .i64 d] w _
  go_enter Tryz.func8, Tryz.ntmps8
  have B0 := Below.refl w.heap.size w
  go_wp2_with fail
  refine (first_is _ (TT.out.on B0)).mono ?_
  rintro e w1 ⟨rfl, b1⟩
  have B1 := B0.trans (b1.mono B0.size)
  clear B0
  clear b1
  go_upto_region 4 with fail
  have b2 := alloc_below w1 (.cells #[.int .i64 n, .int .i64 k] 48)
  have RD := nthR_at w1 n k
  have P := oneS w1.heap.size
  have SZ : (w1.alloc (.cells #[.int .i64 n, .int .i64 k] 48)).heap.size = w1.heap.size + 1 := by simp
  clear P
  generalize hw2 : w1.alloc (.cells #[.int .i64 n, .int .i64 k] 48) = w2 at *
  clear hw2
  have B2 := B1.trans (b2.mono B1.size)
  clear B1
  clear b2
  have b3 := alloc_below w2 (.cells #[.int .i64 2, .int .i64 1, .int .i64 0, .int .i64 0, .int .i64 0, .bool false, .slice none 0 0, .slice none 0 0, .slice none 0 0, .slice none 0 0, .slice (some ⟨w1.heap.size, 0, none⟩) 1 1, .slice none 0 0, .slice none 0 0, .slice none 0 0, .slice none 0 0] 25)
  have Xp3 := Box.new w2 #[.int .i64 2, .int .i64 1, .int .i64 0, .int .i64 0, .int .i64 0, .bool false, .slice none 0 0, .slice none 0 0, .slice none 0 0, .slice none 0 0, .slice (some ⟨w1.heap.size, 0, none⟩) 1 1, .slice none 0 0, .slice none 0 0, .slice none 0 0, .slice none 0 0] 25
  have Rp3 := RD.below b3
  clear RD
  generalize w2.alloc (.cells #[.int .i64 2, .int .i64 1, .int .i64 0, .int .i64 0, .int .i64 0, .bool false, .slice none 0 0, .slice none 0 0, .slice none 0 0, .slice none 0 0, .slice (some ⟨w1.heap.size, 0, none⟩) 1 1, .slice none 0 0, .slice none 0 0, .slice none 0 0, .slice none 0 0] 25) = w3 at *
  have B3 := B2.trans (b3.mono B2.size)
  clear B2
  clear b3
  rw [SZ] at Xp3
  have t0 : ((n : Int) == 0) = false := by rw [beq_eq_false_iff_ne]; exact c0
  have t1 : decide (n < -5) = false := decide_eq_false (by omega)
  have t2 : decide (5 < n) = false := decide_eq_false (by omega)
  have t3 : decide (k < 0) = false := decide_eq_false (by omega)
  have t4 : decide (6 < k) = false := decide_eq_false (by omega)
  go_wp2_with fail
  refine (date_yes d _ h1 h2).mono ?_
  rintro e w' ⟨rfl, rfl⟩
  go_wp2_with fail
  refine (may_yes start _ hs).mono ?_
  rintro e w' ⟨rfl, rfl⟩
  go_wp2_with fail
  refine (nth_yes (yr d) (Cv.mon d) 5 k _ y1 y2 m1 m2 (by omega) (by omega) c3 c4).mono ?_
  rintro e w' ⟨rfl, rfl⟩
  go_wp2_with fail
  refine (nth_yes (yr d) (Cv.mon d) 1 k _ y1 y2 m1 m2 (by omega) (by omega) c3 c4).mono ?_
  rintro e w' ⟨rfl, rfl⟩
  go_upto_region 13 with fail
  have vb : -100 ≤ v ∧ v ≤ 100 := by omega
  try rw [hv]
  clear hv n1 n5 t0 t1 t2 t3 t4 t5
  go_wp2_with fail
  refine (first_is _ (TT.out.on B3)).mono ?_
  rintro e w4 ⟨rfl, b4⟩
  have B4 := B3.trans (b4.mono B3.size)
  have Xp4 := Xp3.below b4
  have Rp4 := Rp3.below b4
  clear B3 Xp3 Rp3
  clear b4
  have pz0 : w4.cell? ⟨w1.heap.size + 1, 0, none⟩ = some (.int .i64 2) := Xp4.at_ 0 _ rfl
  have pz1 : w4.cell? ⟨w1.heap.size + 1, 1, none⟩ = some (.int .i64 1) := Xp4.at_ 1 _ rfl
  have pz2 : w4.cell? ⟨w1.heap.size + 1, 2, none⟩ = some (.int .i64 0) := Xp4.at_ 2 _ rfl
  have pz3 : w4.cell? ⟨w1.heap.size + 1, 3, none⟩ = some (.int .i64 0) := Xp4.at_ 3 _ rfl
  have pz4 : w4.cell? ⟨w1.heap.size + 1, 4, none⟩ = some (.int .i64 0) := Xp4.at_ 4 _ rfl
  have pz5 : w4.cell? ⟨w1.heap.size + 1, 5, none⟩ = some (.bool false) := Xp4.at_ 5 _ rfl
  have pz6 : w4.cell? ⟨w1.heap.size + 1, 6, none⟩ = some (.slice none 0 0) := Xp4.at_ 6 _ rfl
  have pz7 : w4.cell? ⟨w1.heap.size + 1, 7, none⟩ = some (.slice none 0 0) := Xp4.at_ 7 _ rfl
  have pz8 : w4.cell? ⟨w1.heap.size + 1, 8, none⟩ = some (.slice none 0 0) := Xp4.at_ 8 _ rfl
  have pz9 : w4.cell? ⟨w1.heap.size + 1, 9, none⟩ = some (.slice none 0 0) := Xp4.at_ 9 _ rfl
  have pz10 : w4.cell? ⟨w1.heap.size + 1, 10, none⟩ = some (.slice (some ⟨w1.heap.size, 0, none⟩) 1 1) := Xp4.at_ 10 _ rfl
  have pz11 : w4.cell? ⟨w1.heap.size + 1, 11, none⟩ = some (.slice none 0 0) := Xp4.at_ 11 _ rfl
  have pz12 : w4.cell? ⟨w1.heap.size + 1, 12, none⟩ = some (.slice none 0 0) := Xp4.at_ 12 _ rfl
  have pz13 : w4.cell? ⟨w1.heap.size + 1, 13, none⟩ = some (.slice none 0 0) := Xp4.at_ 13 _ rfl
  have pz14 : w4.cell? ⟨w1.heap.size + 1, 14, none⟩ = some (.slice none 0 0) := Xp4.at_ 14 _ rfl
  go_wp2_with fail
  refine (fits_is _ (oneS w1.heap.size) (nthR n k) start d false Rp4 FX.out).mono ?_
  rintro e w5 ⟨rfl, b5⟩
  clear pz0 pz1 pz2 pz3 pz4 pz5 pz6 pz7 pz8 pz9 pz10 pz11 pz12 pz13 pz14
  have B5 := B4.trans (b5.mono B4.size)
  have Xp5 := Xp4.below b5
  have Rp5 := Rp4.below b5
  clear B4 Xp4 Rp4
  clear b5
  have e3 := E3.out
  generalize dom d = u at *
  go_wp2
  go_ret
  exact ⟨rfl, B5⟩
theorem nths_walk (w : World) (T : Tabs w) (n k start d : Int) :
    Calls Tryz.prog 8 #[.int .i64 n, .int .i64 k, .int .i64 start, .int .i64 d] w fun e w' => e = .returned (.bool true) ∧ Below w.heap.size w w' := by
  by_cases hd : -719162 ≤ d ∧ d ≤ 2932896
  · obtain ⟨h1, h2⟩ := hd
    cases hs : St.may start
    · exact nths_b w T n k start d h1 h2 hs
    by_cases c0 : n = 0
    · exact nths_c w T n k start d h1 h2 hs c0
    by_cases c1 : n < -5
    · exact nths_d w T n k start d h1 h2 hs c0 c1
    by_cases c2 : 5 < n
    · exact nths_e w T n k start d h1 h2 hs c0 c2
    by_cases c3 : k < 0
    · exact nths_f w T n k start d h1 h2 hs c0 (by omega) (by omega) c3
    by_cases c4 : 6 < k
    · exact nths_g w T n k start d h1 h2 hs c0 (by omega) (by omega) c4
    have b1 : -5 ≤ n := by omega
    have b2 : n ≤ 5 := by omega
    have b3 : 0 ≤ k := by omega
    have b4 : k ≤ 6 := by omega
    by_cases c5 : 0 < n
    · obtain ⟨v, hv⟩ : ∃ v, nth (yr d) (Cv.mon d) 1 k + 7 * (n - 1) = v := ⟨_, rfl⟩
      by_cases e1 : dom d = v
      · by_cases e2 : 1 ≤ v
        · exact nths_p1 w T n k start d h1 h2 hs c0 b1 b2 b3 b4 c5 v hv e1 e2
        · exact nths_p2 w T n k start d h1 h2 hs c0 b1 b2 b3 b4 c5 v hv e1 e2
      · exact nths_p3 w T n k start d h1 h2 hs c0 b1 b2 b3 b4 c5 v hv e1
    · obtain ⟨v, hv⟩ : ∃ v, nth (yr d) (Cv.mon d) 5 k + 7 * (n + 1) = v := ⟨_, rfl⟩
      by_cases e1 : dom d = v
      · by_cases e2 : 1 ≤ v
        · exact nths_n1 w T n k start d h1 h2 hs c0 b1 b2 b3 b4 c5 v hv e1 e2
        · exact nths_n2 w T n k start d h1 h2 hs c0 b1 b2 b3 b4 c5 v hv e1 e2
      · exact nths_n3 w T n k start d h1 h2 hs c0 b1 b2 b3 b4 c5 v hv e1
  · exact nths_a w T n k start d hd
end Go.Proofs.YtkkmhjplfpdhcaaGreatDoor.Dd
