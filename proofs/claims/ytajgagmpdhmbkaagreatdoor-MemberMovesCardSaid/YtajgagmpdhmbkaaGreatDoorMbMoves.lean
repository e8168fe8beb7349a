/- MemberMoves answers true. -/
import Derived.Test.YtajgagmpdhmbkaaGreatDoorMbIn
set_option linter.unusedVariables false
namespace Go.Proofs.YtajgagmpdhmbkaaGreatDoor.Mb
open Go.RowKit Cv St Ru Dd

def noneS : RS := ⟨none, 0, 0, none, 0, 0, none, 0, 0, none, 0, 0, none, 0, 0, none, 0, 0, none, 0, 0, none, 0, 0, none, 0, 0⟩
theorem daily_at (w : World) (b : Int) : RuAt w noneS (dailyR b) :=
  ⟨IsAt.nil _ _, IsAt.nil _ _, IsAt.nil _ _, IsAt.nil _ _, DyAt.nil _ _, IsAt.nil _ _, IsAt.nil _ _, IsAt.nil _ _, IsAt.nil _ _, Nat.zero_le _, Nat.zero_le _, Nat.zero_le _, Nat.zero_le _, Nat.zero_le _, Nat.zero_le _, Nat.zero_le _, Nat.zero_le _, Nat.zero_le _⟩
set_option maxRecDepth 100000 in
set_option maxHeartbeats 16000000 in
theorem moves_0 (w : World) (T : Tabs w) (b start n off : Int) (h0 : b < 1) :
    Calls Tryz.prog 8 #[.int .i64 b, .int .i64 start, .int .i64 n, .int .i64 off] w fun e w' => e = .returned (.bool true) ∧ Below w.heap.size w w' := by
  have TT := Lib.hid T
  clear T
  show Calls Tryz.prog 8 #[.int .i64 b, .int .i64 start, .int .i64 n, .int .i64 off] w _
  go_enter Tryz.func8, Tryz.ntmps8
  have B0 := Below.refl w.heap.size w
  go_wp2_with fail
  refine (first7_is _ (TT.out.on B0)).mono ?_
  rintro e w1 ⟨rfl, b1⟩
  have B1 := B0.trans (b1.mono B0.size)
  clear B0
  clear b1
  go_upto_region 4 with fail
  have b2 := alloc_below w1 (.cells #[.int .i64 4, .int .i64 b, .int .i64 0, .int .i64 0, .int .i64 0, .bool false, .slice none 0 0, .slice none 0 0, .slice none 0 0, .slice none 0 0, .slice none 0 0, .slice none 0 0, .slice none 0 0, .slice none 0 0, .slice none 0 0] 25)
  have Xp2 := Box.new w1 #[.int .i64 4, .int .i64 b, .int .i64 0, .int .i64 0, .int .i64 0, .bool false, .slice none 0 0, .slice none 0 0, .slice none 0 0, .slice none 0 0, .slice none 0 0, .slice none 0 0, .slice none 0 0, .slice none 0 0, .slice none 0 0] 25
  generalize w1.alloc (.cells #[.int .i64 4, .int .i64 b, .int .i64 0, .int .i64 0, .int .i64 0, .bool false, .slice none 0 0, .slice none 0 0, .slice none 0 0, .slice none 0 0, .slice none 0 0, .slice none 0 0, .slice none 0 0, .slice none 0 0, .slice none 0 0] 25) = w2 at *
  have B2 := B1.trans (b2.mono B1.size)
  clear B1
  clear b2
  have t0 : decide (b < 1) = true := decide_eq_true (by omega)
  go_wp2_with fail
  refine (first7_is _ (TT.out.on B2)).mono ?_
  rintro e w3 ⟨rfl, b3⟩
  have B3 := B2.trans (b3.mono B2.size)
  have Xp3 := Xp2.below b3
  clear B2 Xp2
  clear b3
  go_wp2
  go_ret
  exact ⟨rfl, B3⟩
set_option maxRecDepth 100000 in
set_option maxHeartbeats 16000000 in
theorem moves_1 (w : World) (T : Tabs w) (b start n off : Int) (h0 : ¬ b < 1) (h1 : 1000 < b) :
    Calls Tryz.prog 8 #[.int .i64 b, .int .i64 start, .int .i64 n, .int .i64 off] w fun e w' => e = .returned (.bool true) ∧ Below w.heap.size w w' := by
  have TT := Lib.hid T
  clear T
  show Calls Tryz.prog 8 #[.int .i64 b, .int .i64 start, .int .i64 n, .int .i64 off] w _
  go_enter Tryz.func8, Tryz.ntmps8
  have B0 := Below.refl w.heap.size w
  go_wp2_with fail
  refine (first7_is _ (TT.out.on B0)).mono ?_
  rintro e w1 ⟨rfl, b1⟩
  have B1 := B0.trans (b1.mono B0.size)
  clear B0
  clear b1
  go_upto_region 4 with fail
  have b2 := alloc_below w1 (.cells #[.int .i64 4, .int .i64 b, .int .i64 0, .int .i64 0, .int .i64 0, .bool false, .slice none 0 0, .slice none 0 0, .slice none 0 0, .slice none 0 0, .slice none 0 0, .slice none 0 0, .slice none 0 0, .slice none 0 0, .slice none 0 0] 25)
  have Xp2 := Box.new w1 #[.int .i64 4, .int .i64 b, .int .i64 0, .int .i64 0, .int .i64 0, .bool false, .slice none 0 0, .slice none 0 0, .slice none 0 0, .slice none 0 0, .slice none 0 0, .slice none 0 0, .slice none 0 0, .slice none 0 0, .slice none 0 0] 25
  generalize w1.alloc (.cells #[.int .i64 4, .int .i64 b, .int .i64 0, .int .i64 0, .int .i64 0, .bool false, .slice none 0 0, .slice none 0 0, .slice none 0 0, .slice none 0 0, .slice none 0 0, .slice none 0 0, .slice none 0 0, .slice none 0 0, .slice none 0 0] 25) = w2 at *
  have B2 := B1.trans (b2.mono B1.size)
  clear B1
  clear b2
  have t0 : decide (b < 1) = false := decide_eq_false (by omega)
  have t1 : decide (1000 < b) = true := decide_eq_true (by omega)
  go_wp2_with fail
  refine (first7_is _ (TT.out.on B2)).mono ?_
  rintro e w3 ⟨rfl, b3⟩
  have B3 := B2.trans (b3.mono B2.size)
  have Xp3 := Xp2.below b3
  clear B2 Xp2
  clear b3
  go_wp2
  go_ret
  exact ⟨rfl, B3⟩
set_option maxRecDepth 100000 in
set_option maxHeartbeats 16000000 in
theorem moves_2 (w : World) (T : Tabs w) (b start n off : Int) (h0 : ¬ b < 1) (h1 : ¬ 1000 < b) (h2 : start < 0) :
    Calls Tryz.prog 8 #[.int .i64 b, .int .i64 start, .int .i64 n, .int .i64 off] w fun e w' => e = .returned (.bool true) ∧ Below w.heap.size w w' := by
  have TT := Lib.hid T
  clear T
  show Calls Tryz.prog 8 #[.int .i64 b, .int .i64 start, .int .i64 n, .int .i64 off] w _
  go_enter Tryz.func8, Tryz.ntmps8
  have B0 := Below.refl w.heap.size w
  go_wp2_with fail
  refine (first7_is _ (TT.out.on B0)).mono ?_
  rintro e w1 ⟨rfl, b1⟩
  have B1 := B0.trans (b1.mono B0.size)
  clear B0
  clear b1
  go_upto_region 4 with fail
  have b2 := alloc_below w1 (.cells #[.int .i64 4, .int .i64 b, .int .i64 0, .int .i64 0, .int .i64 0, .bool false, .slice none 0 0, .slice none 0 0, .slice none 0 0, .slice none 0 0, .slice none 0 0, .slice none 0 0, .slice none 0 0, .slice none 0 0, .slice none 0 0] 25)
  have Xp2 := Box.new w1 #[.int .i64 4, .int .i64 b, .int .i64 0, .int .i64 0, .int .i64 0, .bool false, .slice none 0 0, .slice none 0 0, .slice none 0 0, .slice none 0 0, .slice none 0 0, .slice none 0 0, .slice none 0 0, .slice none 0 0, .slice none 0 0] 25
  generalize w1.alloc (.cells #[.int .i64 4, .int .i64 b, .int .i64 0, .int .i64 0, .int .i64 0, .bool false, .slice none 0 0, .slice none 0 0, .slice none 0 0, .slice none 0 0, .slice none 0 0, .slice none 0 0, .slice none 0 0, .slice none 0 0, .slice none 0 0] 25) = w2 at *
  have B2 := B1.trans (b2.mono B1.size)
  clear B1
  clear b2
  have t0 : decide (b < 1) = false := decide_eq_false (by omega)
  have t1 : decide (1000 < b) = false := decide_eq_false (by omega)
  have t2 : decide (start < 0) = true := decide_eq_true (by omega)
  go_wp2_with fail
  refine (first7_is _ (TT.out.on B2)).mono ?_
  rintro e w3 ⟨rfl, b3⟩
  have B3 := B2.trans (b3.mono B2.size)
  have Xp3 := Xp2.below b3
  clear B2 Xp2
  clear b3
  go_wp2
  go_ret
  exact ⟨rfl, B3⟩
set_option maxRecDepth 100000 in
set_option maxHeartbeats 16000000 in
theorem moves_3 (w : World) (T : Tabs w) (b start n off : Int) (h0 : ¬ b < 1) (h1 : ¬ 1000 < b) (h2 : ¬ start < 0) (h3 : 200000000000 < start) :
    Calls Tryz.prog 8 #[.int .i64 b, .int .i64 start, .int .i64 n, .int .i64 off] w fun e w' => e = .returned (.bool true) ∧ Below w.heap.size w w' := by
  have TT := Lib.hid T
  clear T
  show Calls Tryz.prog 8 #[.int .i64 b, .int .i64 start, .int .i64 n, .int .i64 off] w _
  go_enter Tryz.func8, Tryz.ntmps8
  have B0 := Below.refl w.heap.size w
  go_wp2_with fail
  refine (first7_is _ (TT.out.on B0)).mono ?_
  rintro e w1 ⟨rfl, b1⟩
  have B1 := B0.trans (b1.mono B0.size)
  clear B0
  clear b1
  go_upto_region 4 with fail
  have b2 := alloc_below w1 (.cells #[.int .i64 4, .int .i64 b, .int .i64 0, .int .i64 0, .int .i64 0, .bool false, .slice none 0 0, .slice none 0 0, .slice none 0 0, .slice none 0 0, .slice none 0 0, .slice none 0 0, .slice none 0 0, .slice none 0 0, .slice none 0 0] 25)
  have Xp2 := Box.new w1 #[.int .i64 4, .int .i64 b, .int .i64 0, .int .i64 0, .int .i64 0, .bool false, .slice none 0 0, .slice none 0 0, .slice none 0 0, .slice none 0 0, .slice none 0 0, .slice none 0 0, .slice none 0 0, .slice none 0 0, .slice none 0 0] 25
  generalize w1.alloc (.cells #[.int .i64 4, .int .i64 b, .int .i64 0, .int .i64 0, .int .i64 0, .bool false, .slice none 0 0, .slice none 0 0, .slice none 0 0, .slice none 0 0, .slice none 0 0, .slice none 0 0, .slice none 0 0, .slice none 0 0, .slice none 0 0] 25) = w2 at *
  have B2 := B1.trans (b2.mono B1.size)
  clear B1
  clear b2
  have t0 : decide (b < 1) = false := decide_eq_false (by omega)
  have t1 : decide (1000 < b) = false := decide_eq_false (by omega)
  have t2 : decide (start < 0) = false := decide_eq_false (by omega)
  have t3 : decide (200000000000 < start) = true := decide_eq_true (by omega)
  go_wp2_with fail
  refine (first7_is _ (TT.out.on B2)).mono ?_
  rintro e w3 ⟨rfl, b3⟩
  have B3 := B2.trans (b3.mono B2.size)
  have Xp3 := Xp2.below b3
  clear B2 Xp2
  clear b3
  go_wp2
  go_ret
  exact ⟨rfl, B3⟩
set_option maxRecDepth 100000 in
set_option maxHeartbeats 16000000 in
theorem moves_4 (w : World) (T : Tabs w) (b start n off : Int) (h0 : ¬ b < 1) (h1 : ¬ 1000 < b) (h2 : ¬ start < 0) (h3 : ¬ 200000000000 < start) (h4 : n < 0) :
    Calls Tryz.prog 8 #[.int .i64 b, .int .i64 start, .int .i64 n, .int .i64 off] w fun e w' => e = .returned (.bool true) ∧ Below w.heap.size w w' := by
  have TT := Lib.hid T
  clear T
  show Calls Tryz.prog 8 #[.int .i64 b, .int .i64 start, .int .i64 n, .int .i64 off] w _
  go_enter Tryz.func8, Tryz.ntmps8
  have B0 := Below.refl w.heap.size w
  go_wp2_with fail
  refine (first7_is _ (TT.out.on B0)).mono ?_
  rintro e w1 ⟨rfl, b1⟩
  have B1 := B0.trans (b1.mono B0.size)
  clear B0
  clear b1
  go_upto_region 4 with fail
  have b2 := alloc_below w1 (.cells #[.int .i64 4, .int .i64 b, .int .i64 0, .int .i64 0, .int .i64 0, .bool false, .slice none 0 0, .slice none 0 0, .slice none 0 0, .slice none 0 0, .slice none 0 0, .slice none 0 0, .slice none 0 0, .slice none 0 0, .slice none 0 0] 25)
  have Xp2 := Box.new w1 #[.int .i64 4, .int .i64 b, .int .i64 0, .int .i64 0, .int .i64 0, .bool false, .slice none 0 0, .slice none 0 0, .slice none 0 0, .slice none 0 0, .slice none 0 0, .slice none 0 0, .slice none 0 0, .slice none 0 0, .slice none 0 0] 25
  generalize w1.alloc (.cells #[.int .i64 4, .int .i64 b, .int .i64 0, .int .i64 0, .int .i64 0, .bool false, .slice none 0 0, .slice none 0 0, .slice none 0 0, .slice none 0 0, .slice none 0 0, .slice none 0 0, .slice none 0 0, .slice none 0 0, .slice none 0 0] 25) = w2 at *
  have B2 := B1.trans (b2.mono B1.size)
  clear B1
  clear b2
  have t0 : decide (b < 1) = false := decide_eq_false (by omega)
  have t1 : decide (1000 < b) = false := decide_eq_false (by omega)
  have t2 : decide (start < 0) = false := decide_eq_false (by omega)
  have t3 : decide (200000000000 < start) = false := decide_eq_false (by omega)
  have t4 : decide (n < 0) = true := decide_eq_true (by omega)
  go_wp2_with fail
  refine (first7_is _ (TT.out.on B2)).mono ?_
  rintro e w3 ⟨rfl, b3⟩
  have B3 := B2.trans (b3.mono B2.size)
  have Xp3 := Xp2.below b3
  clear B2 Xp2
  clear b3
  go_wp2
  go_ret
  exact ⟨rfl, B3⟩
set_option maxRecDepth 100000 in
set_option maxHeartbeats 16000000 in
theorem moves_5 (w : World) (T : Tabs w) (b start n off : Int) (h0 : ¬ b < 1) (h1 : ¬ 1000 < b) (h2 : ¬ start < 0) (h3 : ¬ 200000000000 < start) (h4 : ¬ n < 0) (h5 : 100000 < n) :
    Calls Tryz.prog 8 #[.int .i64 b, .int .i64 start, .int .i64 n, .int .i64 off] w fun e w' => e = .returned (.bool true) ∧ Below w.heap.size w w' := by
  have TT := Lib.hid T
  clear T
  show Calls Tryz.prog 8 #[.int .i64 b, .int .i64 start, .int .i64 n, .int .i64 off] w _
  go_enter Tryz.func8, Tryz.ntmps8
  have B0 := Below.refl w.heap.size w
  go_wp2_with fail
  refine (first7_is _ (TT.out.on B0)).mono ?_
  rintro e w1 ⟨rfl, b1⟩
  have B1 := B0.trans (b1.mono B0.size)
  clear B0
  clear b1
  go_upto_region 4 with fail
  have b2 := alloc_below w1 (.cells #[.int .i64 4, .int .i64 b, .int .i64 0, .int .i64 0, .int .i64 0, .bool false, .slice none 0 0, .slice none 0 0, .slice none 0 0, .slice none 0 0, .slice none 0 0, .slice none 0 0, .slice none 0 0, .slice none 0 0, .slice none 0 0] 25)
  have Xp2 := Box.new w1 #[.int .i64 4, .int .i64 b, .int .i64 0, .int .i64 0, .int .i64 0, .bool false, .slice none 0 0, .slice none 0 0, .slice none 0 0, .slice none 0 0, .slice none 0 0, .slice none 0 0, .slice none 0 0, .slice none 0 0, .slice none 0 0] 25
  generalize w1.alloc (.cells #[.int .i64 4, .int .i64 b, .int .i64 0, .int .i64 0, .int .i64 0, .bool false, .slice none 0 0, .slice none 0 0, .slice none 0 0, .slice none 0 0, .slice none 0 0, .slice none 0 0, .slice none 0 0, .slice none 0 0, .slice none 0 0] 25) = w2 at *
  have B2 := B1.trans (b2.mono B1.size)
  clear B1
  clear b2
  have t0 : decide (b < 1) = false := decide_eq_false (by omega)
  have t1 : decide (1000 < b) = false := decide_eq_false (by omega)
  have t2 : decide (start < 0) = false := decide_eq_false (by omega)
  have t3 : decide (200000000000 < start) = false := decide_eq_false (by omega)
  have t4 : decide (n < 0) = false := decide_eq_false (by omega)
  have t5 : decide (100000 < n) = true := decide_eq_true (by omega)
  go_wp2_with fail
  refine (first7_is _ (TT.out.on B2)).mono ?_
  rintro e w3 ⟨rfl, b3⟩
  have B3 := B2.trans (b3.mono B2.size)
  have Xp3 := Xp2.below b3
  clear B2 Xp2
  clear b3
  go_wp2
  go_ret
  exact ⟨rfl, B3⟩
set_option maxRecDepth 100000 in
set_option maxHeartbeats 16000000 in
theorem moves_6 (w : World) (T : Tabs w) (b start n off : Int) (h0 : ¬ b < 1) (h1 : ¬ 1000 < b) (h2 : ¬ start < 0) (h3 : ¬ 200000000000 < start) (h4 : ¬ n < 0) (h5 : ¬ 100000 < n) (h6 : off < 1) :
    Calls Tryz.prog 8 #[.int .i64 b, .int .i64 start, .int .i64 n, .int .i64 off] w fun e w' => e = .returned (.bool true) ∧ Below w.heap.size w w' := by
  have TT := Lib.hid T
  clear T
  show Calls Tryz.prog 8 #[.int .i64 b, .int .i64 start, .int .i64 n, .int .i64 off] w _
  go_enter Tryz.func8, Tryz.ntmps8
  have B0 := Below.refl w.heap.size w
  go_wp2_with fail
  refine (first7_is _ (TT.out.on B0)).mono ?_
  rintro e w1 ⟨rfl, b1⟩
  have B1 := B0.trans (b1.mono B0.size)
  clear B0
  clear b1
  go_upto_region 4 with fail
  have b2 := alloc_below w1 (.cells #[.int .i64 4, .int .i64 b, .int .i64 0, .int .i64 0, .int .i64 0, .bool false, .slice none 0 0, .slice none 0 0, .slice none 0 0, .slice none 0 0, .slice none 0 0, .slice none 0 0, .slice none 0 0, .slice none 0 0, .slice none 0 0] 25)
  have Xp2 := Box.new w1 #[.int .i64 4, .int .i64 b, .int .i64 0, .int .i64 0, .int .i64 0, .bool false, .slice none 0 0, .slice none 0 0, .slice none 0 0, .slice none 0 0, .slice none 0 0, .slice none 0 0, .slice none 0 0, .slice none 0 0, .slice none 0 0] 25
  generalize w1.alloc (.cells #[.int .i64 4, .int .i64 b, .int .i64 0, .int .i64 0, .int .i64 0, .bool false, .slice none 0 0, .slice none 0 0, .slice none 0 0, .slice none 0 0, .slice none 0 0, .slice none 0 0, .slice none 0 0, .slice none 0 0, .slice none 0 0] 25) = w2 at *
  have B2 := B1.trans (b2.mono B1.size)
  clear B1
  clear b2
  have t0 : decide (b < 1) = false := decide_eq_false (by omega)
  have t1 : decide (1000 < b) = false := decide_eq_false (by omega)
  have t2 : decide (start < 0) = false := decide_eq_false (by omega)
  have t3 : decide (200000000000 < start) = false := decide_eq_false (by omega)
  have t4 : decide (n < 0) = false := decide_eq_false (by omega)
  have t5 : decide (100000 < n) = false := decide_eq_false (by omega)
  have t6 : decide (off < 1) = true := decide_eq_true (by omega)
  go_wp2_with fail
  refine (first7_is _ (TT.out.on B2)).mono ?_
  rintro e w3 ⟨rfl, b3⟩
  have B3 := B2.trans (b3.mono B2.size)
  have Xp3 := Xp2.below b3
  clear B2 Xp2
  clear b3
  go_wp2
  go_ret
  exact ⟨rfl, B3⟩
set_option maxRecDepth 100000 in
set_option maxHeartbeats 16000000 in
theorem moves_7 (w : World) (T : Tabs w) (b start n off : Int) (h0 : ¬ b < 1) (h1 : ¬ 1000 < b) (h2 : ¬ start < 0) (h3 : ¬ 200000000000 < start) (h4 : ¬ n < 0) (h5 : ¬ 100000 < n) (h6 : ¬ off < 1) (h7 : 86399 < off) :
    Calls Tryz.prog 8 #[.int .i64 b, .int .i64 start, .int .i64 n, .int .i64 off] w fun e w' => e = .returned (.bool true) ∧ Below w.heap.size w w' := by
  have TT := Lib.hid T
  clear T
  show Calls Tryz.prog 8 #[.int .i64 b, .int .i64 start, .int .i64 n, .int .i64 off] w _
  go_enter Tryz.func8, Tryz.ntmps8
  have B0 := Below.refl w.heap.size w
  go_wp2_with fail
  refine (first7_is _ (TT.out.on B0)).mono ?_
  rintro e w1 ⟨rfl, b1⟩
  have B1 := B0.trans (b1.mono B0.size)
  clear B0
  clear b1
  go_upto_region 4 with fail
  have b2 := alloc_below w1 (.cells #[.int .i64 4, .int .i64 b, .int .i64 0, .int .i64 0, .int .i64 0, .bool false, .slice none 0 0, .slice none 0 0, .slice none 0 0, .slice none 0 0, .slice none 0 0, .slice none 0 0, .slice none 0 0, .slice none 0 0, .slice none 0 0] 25)
  have Xp2 := Box.new w1 #[.int .i64 4, .int .i64 b, .int .i64 0, .int .i64 0, .int .i64 0, .bool false, .slice none 0 0, .slice none 0 0, .slice none 0 0, .slice none 0 0, .slice none 0 0, .slice none 0 0, .slice none 0 0, .slice none 0 0, .slice none 0 0] 25
  generalize w1.alloc (.cells #[.int .i64 4, .int .i64 b, .int .i64 0, .int .i64 0, .int .i64 0, .bool false, .slice none 0 0, .slice none 0 0, .slice none 0 0, .slice none 0 0, .slice none 0 0, .slice none 0 0, .slice none 0 0, .slice none 0 0, .slice none 0 0] 25) = w2 at *
  have B2 := B1.trans (b2.mono B1.size)
  clear B1
  clear b2
  have t0 : decide (b < 1) = false := decide_eq_false (by omega)
  have t1 : decide (1000 < b) = false := decide_eq_false (by omega)
  have t2 : decide (start < 0) = false := decide_eq_false (by omega)
  have t3 : decide (200000000000 < start) = false := decide_eq_false (by omega)
  have t4 : decide (n < 0) = false := decide_eq_false (by omega)
  have t5 : decide (100000 < n) = false := decide_eq_false (by omega)
  have t6 : decide (off < 1) = false := decide_eq_false (by omega)
  have t7 : decide (86399 < off) = true := decide_eq_true (by omega)
  go_wp2_with fail
  refine (first7_is _ (TT.out.on B2)).mono ?_
  rintro e w3 ⟨rfl, b3⟩
  have B3 := B2.trans (b3.mono B2.size)
  have Xp3 := Xp2.below b3
  clear B2 Xp2
  clear b3
  go_wp2
  go_ret
  exact ⟨rfl, B3⟩
set_option maxRecDepth 100000 in
set_option maxHeartbeats 16000000 in
theorem moves_z (w : World) (T : Tabs w) (b start n off : Int) (h0 : ¬ b < 1) (h1 : ¬ 1000 < b) (h2 : ¬ start < 0) (h3 : ¬ 200000000000 < start) (h4 : ¬ n < 0) (h5 : ¬ 100000 < n) (h6 : ¬ off < 1) (h7 : ¬ 86399 < off) (hz : n = 0) :
    Calls Tryz.prog 8 #[.int .i64 b, .int .i64 start, .int .i64 n, .int .i64 off] w fun e w' => e = .returned (.bool true) ∧ Below w.heap.size w w' := by
  have TT := Lib.hid T
  clear T
  have MO := moves_ok (b := b) (start := start) (n := n) (off := off) (by omega) (by omega) (by omega) (by omega) (by omega) (by omega) (by omega) (by omega)
  obtain ⟨x, hx⟩ : ∃ x, decide (n % b = 0) = x := ⟨_, rfl⟩
  have H1 := Lib.hid (show hasM (dailyR b) start (start + 86400 * n) = x by rw [← hx]; exact MO.has)
  have H2 := Lib.hid MO.off
  have H3 := Lib.hid (show rawB (dailyR b) start (start + 86400 * n) = x by rw [← hx]; exact MO.raw)
  have EX := Lib.hid (show ((n.tmod b : Int) == 0) = x by rw [tmod_zero]; exact hx)
  have n0 : ((b : Int) == 0) = false := by rw [beq_eq_false_iff_ne]; omega
  have n1 : ¬ b = 0 := by omega
  have HZ := Lib.hid hz
  clear MO hx hz
  show Calls Tryz.prog 8 #[.int .i64 b, .int .i64 start, .int .i64 n, .int .i64 off] w _
  go_enter Tryz.func8, Tryz.ntmps8
  have B0 := Below.refl w.heap.size w
  go_wp2_with fail
  refine (first7_is _ (TT.out.on B0)).mono ?_
  rintro e w1 ⟨rfl, b1⟩
  have B1 := B0.trans (b1.mono B0.size)
  clear B0
  clear b1
  go_upto_region 4 with fail
  have b2 := alloc_below w1 (.cells #[.int .i64 4, .int .i64 b, .int .i64 0, .int .i64 0, .int .i64 0, .bool false, .slice none 0 0, .slice none 0 0, .slice none 0 0, .slice none 0 0, .slice none 0 0, .slice none 0 0, .slice none 0 0, .slice none 0 0, .slice none 0 0] 25)
  have Xp2 := Box.new w1 #[.int .i64 4, .int .i64 b, .int .i64 0, .int .i64 0, .int .i64 0, .bool false, .slice none 0 0, .slice none 0 0, .slice none 0 0, .slice none 0 0, .slice none 0 0, .slice none 0 0, .slice none 0 0, .slice none 0 0, .slice none 0 0] 25
  generalize w1.alloc (.cells #[.int .i64 4, .int .i64 b, .int .i64 0, .int .i64 0, .int .i64 0, .bool false, .slice none 0 0, .slice none 0 0, .slice none 0 0, .slice none 0 0, .slice none 0 0, .slice none 0 0, .slice none 0 0, .slice none 0 0, .slice none 0 0] 25) = w2 at *
  have B2 := B1.trans (b2.mono B1.size)
  clear B1
  clear b2
  have t0 : decide (b < 1) = false := decide_eq_false (by omega)
  have t1 : decide (1000 < b) = false := decide_eq_false (by omega)
  have t2 : decide (start < 0) = false := decide_eq_false (by omega)
  have t3 : decide (200000000000 < start) = false := decide_eq_false (by omega)
  have t4 : decide (n < 0) = false := decide_eq_false (by omega)
  have t5 : decide (100000 < n) = false := decide_eq_false (by omega)
  have t6 : decide (off < 1) = false := decide_eq_false (by omega)
  have t7 : decide (86399 < off) = false := decide_eq_false (by omega)
  have tz : ((n : Int) == 0) = true := by rw [beq_iff_eq]; exact HZ.out
  have I1 : IntKind.i64.wrap (86400 * n) = 86400 * n := IntWalk.i64_in _ (by omega)
  have I2 : IntKind.i64.wrap (start + 86400 * n) = start + 86400 * n := IntWalk.i64_in _ (by omega)
  have I3 : IntKind.i64.wrap (start + 86400 * n + off) = start + 86400 * n + off := IntWalk.i64_in _ (by omega)
  go_upto_region 7 with fail
  clear t0 h0 t1 h1 t2 h2 t3 h3 t4 h4 t5 h5 t6 h6 t7 h7
  have e1 := EX.out
  have pq0 := Past.at_ (W := w2) Xp2.1 (show w2.cell? ⟨w1.heap.size, 0, none⟩ = some (.int .i64 4) from Xp2.at_ 0 _ rfl)
  have pq1 := Past.at_ (W := w2) Xp2.1 (show w2.cell? ⟨w1.heap.size, 1, none⟩ = some (.int .i64 b) from Xp2.at_ 1 _ rfl)
  have pq2 := Past.at_ (W := w2) Xp2.1 (show w2.cell? ⟨w1.heap.size, 2, none⟩ = some (.int .i64 0) from Xp2.at_ 2 _ rfl)
  have pq3 := Past.at_ (W := w2) Xp2.1 (show w2.cell? ⟨w1.heap.size, 3, none⟩ = some (.int .i64 0) from Xp2.at_ 3 _ rfl)
  have pq4 := Past.at_ (W := w2) Xp2.1 (show w2.cell? ⟨w1.heap.size, 4, none⟩ = some (.int .i64 0) from Xp2.at_ 4 _ rfl)
  have pq5 := Past.at_ (W := w2) Xp2.1 (show w2.cell? ⟨w1.heap.size, 5, none⟩ = some (.bool false) from Xp2.at_ 5 _ rfl)
  have pq6 := Past.at_ (W := w2) Xp2.1 (show w2.cell? ⟨w1.heap.size, 6, none⟩ = some (.slice none 0 0) from Xp2.at_ 6 _ rfl)
  have pq7 := Past.at_ (W := w2) Xp2.1 (show w2.cell? ⟨w1.heap.size, 7, none⟩ = some (.slice none 0 0) from Xp2.at_ 7 _ rfl)
  have pq8 := Past.at_ (W := w2) Xp2.1 (show w2.cell? ⟨w1.heap.size, 8, none⟩ = some (.slice none 0 0) from Xp2.at_ 8 _ rfl)
  have pq9 := Past.at_ (W := w2) Xp2.1 (show w2.cell? ⟨w1.heap.size, 9, none⟩ = some (.slice none 0 0) from Xp2.at_ 9 _ rfl)
  have pq10 := Past.at_ (W := w2) Xp2.1 (show w2.cell? ⟨w1.heap.size, 10, none⟩ = some (.slice none 0 0) from Xp2.at_ 10 _ rfl)
  have pq11 := Past.at_ (W := w2) Xp2.1 (show w2.cell? ⟨w1.heap.size, 11, none⟩ = some (.slice none 0 0) from Xp2.at_ 11 _ rfl)
  have pq12 := Past.at_ (W := w2) Xp2.1 (show w2.cell? ⟨w1.heap.size, 12, none⟩ = some (.slice none 0 0) from Xp2.at_ 12 _ rfl)
  have pq13 := Past.at_ (W := w2) Xp2.1 (show w2.cell? ⟨w1.heap.size, 13, none⟩ = some (.slice none 0 0) from Xp2.at_ 13 _ rfl)
  have pq14 := Past.at_ (W := w2) Xp2.1 (show w2.cell? ⟨w1.heap.size, 14, none⟩ = some (.slice none 0 0) from Xp2.at_ 14 _ rfl)
  have TV := Lib.hid (fun v : In (Past w2) => TT.out.on (B2.trans (Below.mono (show Below _ _ _ from v.h) B2.size)))
  have C0 := Lib.hid (show ∀ v : In (Past w2), Calls Tryz.prog 28 #[.agg #[.int .i64 4, .int .i64 b, .int .i64 0, .int .i64 0, .int .i64 0, .bool false, .slice none 0 0, .slice none 0 0, .slice none 0 0, .slice none 0 0, .slice none 0 0, .slice none 0 0, .slice none 0 0, .slice none 0 0, .slice none 0 0], .int .i64 start, .int .i64 (start + 86400 * n)] v.w (fun e w' => e = .returned (.bool x) ∧ Below v.w.heap.size v.w w') from fun v => has_is v.w noneS (dailyR b) start (start + 86400 * n) x (daily_at _ _) H1.out)
  have C1 := Lib.hid (show ∀ v : In (Past w2), Calls Tryz.prog 28 #[.agg #[.int .i64 4, .int .i64 b, .int .i64 0, .int .i64 0, .int .i64 0, .bool false, .slice none 0 0, .slice none 0 0, .slice none 0 0, .slice none 0 0, .slice none 0 0, .slice none 0 0, .slice none 0 0, .slice none 0 0, .slice none 0 0], .int .i64 start, .int .i64 (start + 86400 * n + off)] v.w (fun e w' => e = .returned (.bool false) ∧ Below v.w.heap.size v.w w') from fun v => has_is v.w noneS (dailyR b) start (start + 86400 * n + off) false (daily_at _ _) H2.out)
  have C2 := Lib.hid (show ∀ v : In (Past w2), Calls Tryz.prog 26 #[.agg #[.int .i64 4, .int .i64 b, .int .i64 0, .int .i64 0, .int .i64 0, .bool false, .slice none 0 0, .slice none 0 0, .slice none 0 0, .slice none 0 0, .slice none 0 0, .slice none 0 0, .slice none 0 0, .slice none 0 0, .slice none 0 0], .int .i64 start, .int .i64 (start + 86400 * n)] v.w (fun e w' => e = .returned (.bool x) ∧ Below v.w.heap.size v.w w') from fun v => raw_is v.w noneS (dailyR b) start (start + 86400 * n) x (daily_at _ _) H3.out)
  have p9 : Past w2 w2 := Below.refl _ _
  have hne : Nonempty (In (Past w2)) := ⟨⟨_, p9⟩⟩
  refine wp_region_class (Past w2) (by kernel_rfl) (by kernel_rfl) (Past.drew' p9) ?_
  try simp only [List.append]
  repeat (any_goals (first | go_big_quiet_step ((first | (with_reducible refine quiet_cl Past.on (first7_is _ (TV.out _))) | (with_reducible refine quiet_cl Past.on (C0.out _)) | (with_reducible refine quiet_cl Past.on (C1.out _)) | (with_reducible refine quiet_cl Past.on (C2.out _)))) | quiet_step ((first | (with_reducible refine quiet_cl Past.on (first7_is _ (TV.out _))) | (with_reducible refine quiet_cl Past.on (C0.out _)) | (with_reducible refine quiet_cl Past.on (C1.out _)) | (with_reducible refine quiet_cl Past.on (C2.out _))))))
  refine wpQuiet_nil ?_
  rintro w' ⟨n9, hq⟩
  have hb : Below w2.heap.size w2 w' := by rw [hq]; exact n9.h
  clear hne p9 hq n9
  go_wp2
  go_ret
  exact ⟨rfl, B2.trans (hb.mono B2.size)⟩
set_option maxRecDepth 100000 in
set_option maxHeartbeats 16000000 in
theorem moves_y (w : World) (T : Tabs w) (b start n off : Int) (h0 : ¬ b < 1) (h1 : ¬ 1000 < b) (h2 : ¬ start < 0) (h3 : ¬ 200000000000 < start) (h4 : ¬ n < 0) (h5 : ¬ 100000 < n) (h6 : ¬ off < 1) (h7 : ¬ 86399 < off) (hz : n ≠ 0) :
    Calls Tryz.prog 8 #[.int .i64 b, .int .i64 start, .int .i64 n, .int .i64 off] w fun e w' => e = .returned (.bool true) ∧ Below w.heap.size w w' := by
  have TT := Lib.hid T
  clear T
  have MO := moves_ok (b := b) (start := start) (n := n) (off := off) (by omega) (by omega) (by omega) (by omega) (by omega) (by omega) (by omega) (by omega)
  obtain ⟨x, hx⟩ : ∃ x, decide (n % b = 0) = x := ⟨_, rfl⟩
  have H1 := Lib.hid (show hasM (dailyR b) start (start + 86400 * n) = x by rw [← hx]; exact MO.has)
  have H2 := Lib.hid MO.off
  have H3 := Lib.hid (show rawB (dailyR b) start (start + 86400 * n) = x by rw [← hx]; exact MO.raw)
  have H4 := Lib.hid (MO.back hz)
  have EX := Lib.hid (show ((n.tmod b : Int) == 0) = x by rw [tmod_zero]; exact hx)
  have n0 : ((b : Int) == 0) = false := by rw [beq_eq_false_iff_ne]; omega
  have n1 : ¬ b = 0 := by omega
  have HZ := Lib.hid hz
  clear MO hx hz
  show Calls Tryz.prog 8 #[.int .i64 b, .int .i64 start, .int .i64 n, .int .i64 off] w _
  go_enter Tryz.func8, Tryz.ntmps8
  have B0 := Below.refl w.heap.size w
  go_wp2_with fail
  refine (first7_is _ (TT.out.on B0)).mono ?_
  rintro e w1 ⟨rfl, b1⟩
  have B1 := B0.trans (b1.mono B0.size)
  clear B0
  clear b1
  go_upto_region 4 with fail
  have b2 := alloc_below w1 (.cells #[.int .i64 4, .int .i64 b, .int .i64 0, .int .i64 0, .int .i64 0, .bool false, .slice none 0 0, .slice none 0 0, .slice none 0 0, .slice none 0 0, .slice none 0 0, .slice none 0 0, .slice none 0 0, .slice none 0 0, .slice none 0 0] 25)
  have Xp2 := Box.new w1 #[.int .i64 4, .int .i64 b, .int .i64 0, .int .i64 0, .int .i64 0, .bool false, .slice none 0 0, .slice none 0 0, .slice none 0 0, .slice none 0 0, .slice none 0 0, .slice none 0 0, .slice none 0 0, .slice none 0 0, .slice none 0 0] 25
  generalize w1.alloc (.cells #[.int .i64 4, .int .i64 b, .int .i64 0, .int .i64 0, .int .i64 0, .bool false, .slice none 0 0, .slice none 0 0, .slice none 0 0, .slice none 0 0, .slice none 0 0, .slice none 0 0, .slice none 0 0, .slice none 0 0, .slice none 0 0] 25) = w2 at *
  have B2 := B1.trans (b2.mono B1.size)
  clear B1
  clear b2
  have t0 : decide (b < 1) = false := decide_eq_false (by omega)
  have t1 : decide (1000 < b) = false := decide_eq_false (by omega)
  have t2 : decide (start < 0) = false := decide_eq_false (by omega)
  have t3 : decide (200000000000 < start) = false := decide_eq_false (by omega)
  have t4 : decide (n < 0) = false := decide_eq_false (by omega)
  have t5 : decide (100000 < n) = false := decide_eq_false (by omega)
  have t6 : decide (off < 1) = false := decide_eq_false (by omega)
  have t7 : decide (86399 < off) = false := decide_eq_false (by omega)
  have tz : ((n : Int) == 0) = false := by rw [beq_eq_false_iff_ne]; exact HZ.out
  have I1 : IntKind.i64.wrap (86400 * n) = 86400 * n := IntWalk.i64_in _ (by omega)
  have I2 : IntKind.i64.wrap (start + 86400 * n) = start + 86400 * n := IntWalk.i64_in _ (by omega)
  have I3 : IntKind.i64.wrap (start + 86400 * n + off) = start + 86400 * n + off := IntWalk.i64_in _ (by omega)
  go_upto_region 7 with fail
  clear t0 h0 t1 h1 t2 h2 t3 h3 t4 h4 t5 h5 t6 h6 t7 h7
  have e1 := EX.out
  have pq0 := Past.at_ (W := w2) Xp2.1 (show w2.cell? ⟨w1.heap.size, 0, none⟩ = some (.int .i64 4) from Xp2.at_ 0 _ rfl)
  have pq1 := Past.at_ (W := w2) Xp2.1 (show w2.cell? ⟨w1.heap.size, 1, none⟩ = some (.int .i64 b) from Xp2.at_ 1 _ rfl)
  have pq2 := Past.at_ (W := w2) Xp2.1 (show w2.cell? ⟨w1.heap.size, 2, none⟩ = some (.int .i64 0) from Xp2.at_ 2 _ rfl)
  have pq3 := Past.at_ (W := w2) Xp2.1 (show w2.cell? ⟨w1.heap.size, 3, none⟩ = some (.int .i64 0) from Xp2.at_ 3 _ rfl)
  have pq4 := Past.at_ (W := w2) Xp2.1 (show w2.cell? ⟨w1.heap.size, 4, none⟩ = some (.int .i64 0) from Xp2.at_ 4 _ rfl)
  have pq5 := Past.at_ (W := w2) Xp2.1 (show w2.cell? ⟨w1.heap.size, 5, none⟩ = some (.bool false) from Xp2.at_ 5 _ rfl)
  have pq6 := Past.at_ (W := w2) Xp2.1 (show w2.cell? ⟨w1.heap.size, 6, none⟩ = some (.slice none 0 0) from Xp2.at_ 6 _ rfl)
  have pq7 := Past.at_ (W := w2) Xp2.1 (show w2.cell? ⟨w1.heap.size, 7, none⟩ = some (.slice none 0 0) from Xp2.at_ 7 _ rfl)
  have pq8 := Past.at_ (W := w2) Xp2.1 (show w2.cell? ⟨w1.heap.size, 8, none⟩ = some (.slice none 0 0) from Xp2.at_ 8 _ rfl)
  have pq9 := Past.at_ (W := w2) Xp2.1 (show w2.cell? ⟨w1.heap.size, 9, none⟩ = some (.slice none 0 0) from Xp2.at_ 9 _ rfl)
  have pq10 := Past.at_ (W := w2) Xp2.1 (show w2.cell? ⟨w1.heap.size, 10, none⟩ = some (.slice none 0 0) from Xp2.at_ 10 _ rfl)
  have pq11 := Past.at_ (W := w2) Xp2.1 (show w2.cell? ⟨w1.heap.size, 11, none⟩ = some (.slice none 0 0) from Xp2.at_ 11 _ rfl)
  have pq12 := Past.at_ (W := w2) Xp2.1 (show w2.cell? ⟨w1.heap.size, 12, none⟩ = some (.slice none 0 0) from Xp2.at_ 12 _ rfl)
  have pq13 := Past.at_ (W := w2) Xp2.1 (show w2.cell? ⟨w1.heap.size, 13, none⟩ = some (.slice none 0 0) from Xp2.at_ 13 _ rfl)
  have pq14 := Past.at_ (W := w2) Xp2.1 (show w2.cell? ⟨w1.heap.size, 14, none⟩ = some (.slice none 0 0) from Xp2.at_ 14 _ rfl)
  have TV := Lib.hid (fun v : In (Past w2) => TT.out.on (B2.trans (Below.mono (show Below _ _ _ from v.h) B2.size)))
  have C0 := Lib.hid (show ∀ v : In (Past w2), Calls Tryz.prog 28 #[.agg #[.int .i64 4, .int .i64 b, .int .i64 0, .int .i64 0, .int .i64 0, .bool false, .slice none 0 0, .slice none 0 0, .slice none 0 0, .slice none 0 0, .slice none 0 0, .slice none 0 0, .slice none 0 0, .slice none 0 0, .slice none 0 0], .int .i64 start, .int .i64 (start + 86400 * n)] v.w (fun e w' => e = .returned (.bool x) ∧ Below v.w.heap.size v.w w') from fun v => has_is v.w noneS (dailyR b) start (start + 86400 * n) x (daily_at _ _) H1.out)
  have C1 := Lib.hid (show ∀ v : In (Past w2), Calls Tryz.prog 28 #[.agg #[.int .i64 4, .int .i64 b, .int .i64 0, .int .i64 0, .int .i64 0, .bool false, .slice none 0 0, .slice none 0 0, .slice none 0 0, .slice none 0 0, .slice none 0 0, .slice none 0 0, .slice none 0 0, .slice none 0 0, .slice none 0 0], .int .i64 start, .int .i64 (start + 86400 * n + off)] v.w (fun e w' => e = .returned (.bool false) ∧ Below v.w.heap.size v.w w') from fun v => has_is v.w noneS (dailyR b) start (start + 86400 * n + off) false (daily_at _ _) H2.out)
  have C2 := Lib.hid (show ∀ v : In (Past w2), Calls Tryz.prog 26 #[.agg #[.int .i64 4, .int .i64 b, .int .i64 0, .int .i64 0, .int .i64 0, .bool false, .slice none 0 0, .slice none 0 0, .slice none 0 0, .slice none 0 0, .slice none 0 0, .slice none 0 0, .slice none 0 0, .slice none 0 0, .slice none 0 0], .int .i64 start, .int .i64 (start + 86400 * n)] v.w (fun e w' => e = .returned (.bool x) ∧ Below v.w.heap.size v.w w') from fun v => raw_is v.w noneS (dailyR b) start (start + 86400 * n) x (daily_at _ _) H3.out)
  have C3 := Lib.hid (show ∀ v : In (Past w2), Calls Tryz.prog 28 #[.agg #[.int .i64 4, .int .i64 b, .int .i64 0, .int .i64 0, .int .i64 0, .bool false, .slice none 0 0, .slice none 0 0, .slice none 0 0, .slice none 0 0, .slice none 0 0, .slice none 0 0, .slice none 0 0, .slice none 0 0, .slice none 0 0], .int .i64 (start + 86400 * n), .int .i64 start] v.w (fun e w' => e = .returned (.bool false) ∧ Below v.w.heap.size v.w w') from fun v => has_is v.w noneS (dailyR b) (start + 86400 * n) start false (daily_at _ _) H4.out)
  have p9 : Past w2 w2 := Below.refl _ _
  have hne : Nonempty (In (Past w2)) := ⟨⟨_, p9⟩⟩
  refine wp_region_class (Past w2) (by kernel_rfl) (by kernel_rfl) (Past.drew' p9) ?_
  try simp only [List.append]
  repeat (any_goals (first | go_big_quiet_step ((first | (with_reducible refine quiet_cl Past.on (first7_is _ (TV.out _))) | (with_reducible refine quiet_cl Past.on (C0.out _)) | (with_reducible refine quiet_cl Past.on (C1.out _)) | (with_reducible refine quiet_cl Past.on (C2.out _)) | (with_reducible refine quiet_cl Past.on (C3.out _)))) | quiet_step ((first | (with_reducible refine quiet_cl Past.on (first7_is _ (TV.out _))) | (with_reducible refine quiet_cl Past.on (C0.out _)) | (with_reducible refine quiet_cl Past.on (C1.out _)) | (with_reducible refine quiet_cl Past.on (C2.out _)) | (with_reducible refine quiet_cl Past.on (C3.out _))))))
  refine wpQuiet_nil ?_
  rintro w' ⟨n9, hq⟩
  have hb : Below w2.heap.size w2 w' := by rw [hq]; exact n9.h
  clear hne p9 hq n9
  go_wp2
  go_ret
  exact ⟨rfl, B2.trans (hb.mono B2.size)⟩
theorem moves_walk (w : World) (T : Tabs w) (b start n off : Int) :
    Calls Tryz.prog 8 #[.int .i64 b, .int .i64 start, .int .i64 n, .int .i64 off] w fun e w' => e = .returned (.bool true) ∧ Below w.heap.size w w' := by
  by_cases h0 : b < 1
  · exact moves_0 w T b start n off h0
  by_cases h1 : 1000 < b
  · exact moves_1 w T b start n off h0 h1
  by_cases h2 : start < 0
  · exact moves_2 w T b start n off h0 h1 h2
  by_cases h3 : 200000000000 < start
  · exact moves_3 w T b start n off h0 h1 h2 h3
  by_cases h4 : n < 0
  · exact moves_4 w T b start n off h0 h1 h2 h3 h4
  by_cases h5 : 100000 < n
  · exact moves_5 w T b start n off h0 h1 h2 h3 h4 h5
  by_cases h6 : off < 1
  · exact moves_6 w T b start n off h0 h1 h2 h3 h4 h5 h6
  by_cases h7 : 86399 < off
  · exact moves_7 w T b start n off h0 h1 h2 h3 h4 h5 h6 h7
  by_cases hz : n = 0
  · exact moves_z w T b start n off h0 h1 h2 h3 h4 h5 h6 h7 hz
  · exact moves_y w T b start n off h0 h1 h2 h3 h4 h5 h6 h7 hz
end Go.Proofs.YtajgagmpdhmbkaaGreatDoor.Mb
