/- DaysPlain answers true. -/
import Derived.Test.YtkkmhjplfpdhcaaGreatDoorDyFirst
set_option linter.unusedVariables false
namespace Go.Proofs.YtkkmhjplfpdhcaaGreatDoor.Dd
open Go.RowKit Cv St Ru

def nilS : RS := ⟨none, 0, 0, none, 0, 0, none, 0, 0, none, 0, 0, none, 0, 0, none, 0, 0, none, 0, 0, none, 0, 0, none, 0, 0⟩
theorem plain_at (w : World) (f : Int) : RuAt w nilS (plainR f) :=
  ⟨IsAt.nil _ _, IsAt.nil _ _, IsAt.nil _ _, IsAt.nil _ _, DyAt.nil _ _, IsAt.nil _ _, IsAt.nil _ _, IsAt.nil _ _, IsAt.nil _ _, Nat.zero_le _, Nat.zero_le _, Nat.zero_le _, Nat.zero_le _, Nat.zero_le _, Nat.zero_le _, Nat.zero_le _, Nat.zero_le _, Nat.zero_le _⟩
theorem may_isday (t : Int) : St.may t = isday (t / 86400) := decide_eq_decide.2 (by omega)

set_option maxRecDepth 100000 in
set_option maxHeartbeats 8000000 in
theorem plain_a (w : World) (T : Tabs w) (freq start d : Int) (l1 : -9223372036854775808 ≤ start) (u1 : start ≤ 9223372036854775807) (hd : ¬ (-719162 ≤ d ∧ d ≤ 2932896)) :
    Calls Tryz.prog 7 #[.int .i64 freq, .int .i64 start, .int .i64 d] w fun e w' => e = .returned (.bool true) ∧ Below w.heap.size w w' := by
  have TT := Lib.hid T
  clear T
  have HD := Lib.hid hd
  have FX := Lib.hid (show fitsB (plainR freq) start d = false by rw [plain_fits, show isday d = false from decide_eq_false hd]; rfl)
  clear hd
  by_cases hs : -719162 ≤ start / 86400 ∧ start / 86400 ≤ 2932896
  · show Calls Tryz.prog 7 #[.int .i64 freq, .int .i64 start, .int .i64 d] w _
    go_enter Tryz.func7, Tryz.ntmps7
    have B0 := Below.refl w.heap.size w
    go_wp2_with fail
    refine (first_is _ (TT.out.on B0)).mono ?_
    rintro e w1 ⟨rfl, b1⟩
    have B1 := B0.trans (b1.mono B0.size)
    clear B0
    clear b1
    go_upto_region 4 with fail
    have b2 := alloc_below w1 (.cells #[.int .i64 freq, .int .i64 1, .int .i64 0, .int .i64 0, .int .i64 0, .bool false, .slice none 0 0, .slice none 0 0, .slice none 0 0, .slice none 0 0, .slice none 0 0, .slice none 0 0, .slice none 0 0, .slice none 0 0, .slice none 0 0] 25)
    have Xp2 := Box.new w1 #[.int .i64 freq, .int .i64 1, .int .i64 0, .int .i64 0, .int .i64 0, .bool false, .slice none 0 0, .slice none 0 0, .slice none 0 0, .slice none 0 0, .slice none 0 0, .slice none 0 0, .slice none 0 0, .slice none 0 0, .slice none 0 0] 25
    have Rp2 := (plain_at w1 freq).below b2
    generalize hw2 : w1.alloc (.cells #[.int .i64 freq, .int .i64 1, .int .i64 0, .int .i64 0, .int .i64 0, .bool false, .slice none 0 0, .slice none 0 0, .slice none 0 0, .slice none 0 0, .slice none 0 0, .slice none 0 0, .slice none 0 0, .slice none 0 0, .slice none 0 0] 25) = w2 at *
    clear hw2
    have B2 := B1.trans (b2.mono B1.size)
    clear B1
    clear b2
    go_wp2_with fail
    refine (day_any start _ l1 u1).mono ?_
    rintro e w' ⟨rfl, rfl⟩
    go_wp2_with fail
    refine (date_no d _ HD.out).mono ?_
    rintro e w' ⟨rfl, rfl⟩
    go_wp2_with fail
    refine (date_yes (start / 86400) _ hs.1 hs.2).mono ?_
    rintro e w' ⟨rfl, rfl⟩
    go_wp2_with fail
    refine (first_is _ (TT.out.on B2)).mono ?_
    rintro e w3 ⟨rfl, b3⟩
    have B3 := B2.trans (b3.mono B2.size)
    have Xp3 := Xp2.below b3
    have Rp3 := Rp2.below b3
    clear B2 Xp2 Rp2
    clear b3
    have pz0 : w3.cell? ⟨w1.heap.size, 0, none⟩ = some (.int .i64 freq) := Xp3.at_ 0 _ rfl
    have pz1 : w3.cell? ⟨w1.heap.size, 1, none⟩ = some (.int .i64 1) := Xp3.at_ 1 _ rfl
    have pz2 : w3.cell? ⟨w1.heap.size, 2, none⟩ = some (.int .i64 0) := Xp3.at_ 2 _ rfl
    have pz3 : w3.cell? ⟨w1.heap.size, 3, none⟩ = some (.int .i64 0) := Xp3.at_ 3 _ rfl
    have pz4 : w3.cell? ⟨w1.heap.size, 4, none⟩ = some (.int .i64 0) := Xp3.at_ 4 _ rfl
    have pz5 : w3.cell? ⟨w1.heap.size, 5, none⟩ = some (.bool false) := Xp3.at_ 5 _ rfl
    have pz6 : w3.cell? ⟨w1.heap.size, 6, none⟩ = some (.slice none 0 0) := Xp3.at_ 6 _ rfl
    have pz7 : w3.cell? ⟨w1.heap.size, 7, none⟩ = some (.slice none 0 0) := Xp3.at_ 7 _ rfl
    have pz8 : w3.cell? ⟨w1.heap.size, 8, none⟩ = some (.slice none 0 0) := Xp3.at_ 8 _ rfl
    have pz9 : w3.cell? ⟨w1.heap.size, 9, none⟩ = some (.slice none 0 0) := Xp3.at_ 9 _ rfl
    have pz10 : w3.cell? ⟨w1.heap.size, 10, none⟩ = some (.slice none 0 0) := Xp3.at_ 10 _ rfl
    have pz11 : w3.cell? ⟨w1.heap.size, 11, none⟩ = some (.slice none 0 0) := Xp3.at_ 11 _ rfl
    have pz12 : w3.cell? ⟨w1.heap.size, 12, none⟩ = some (.slice none 0 0) := Xp3.at_ 12 _ rfl
    have pz13 : w3.cell? ⟨w1.heap.size, 13, none⟩ = some (.slice none 0 0) := Xp3.at_ 13 _ rfl
    have pz14 : w3.cell? ⟨w1.heap.size, 14, none⟩ = some (.slice none 0 0) := Xp3.at_ 14 _ rfl
    go_wp2_with fail
    refine (fits_is _ nilS (plainR freq) start d false Rp3 FX.out).mono ?_
    rintro e w4 ⟨rfl, b4⟩
    clear pz0 pz1 pz2 pz3 pz4 pz5 pz6 pz7 pz8 pz9 pz10 pz11 pz12 pz13 pz14
    have B4 := B3.trans (b4.mono B3.size)
    have Xp4 := Xp3.below b4
    have Rp4 := Rp3.below b4
    clear B3 Xp3 Rp3
    clear b4
    go_wp2
    go_ret
    exact ⟨rfl, B4⟩
  · have HS := Lib.hid hs
    clear hs
    show Calls Tryz.prog 7 #[.int .i64 freq, .int .i64 start, .int .i64 d] w _
    go_enter Tryz.func7, Tryz.ntmps7
    have B0 := Below.refl w.heap.size w
    go_wp2_with fail
    refine (first_is _ (TT.out.on B0)).mono ?_
    rintro e w1 ⟨rfl, b1⟩
    have B1 := B0.trans (b1.mono B0.size)
    clear B0
    clear b1
    go_upto_region 4 with fail
    have b2 := alloc_below w1 (.cells #[.int .i64 freq, .int .i64 1, .int .i64 0, .int .i64 0, .int .i64 0, .bool false, .slice none 0 0, .slice none 0 0, .slice none 0 0, .slice none 0 0, .slice none 0 0, .slice none 0 0, .slice none 0 0, .slice none 0 0, .slice none 0 0] 25)
    have Xp2 := Box.new w1 #[.int .i64 freq, .int .i64 1, .int .i64 0, .int .i64 0, .int .i64 0, .bool false, .slice none 0 0, .slice none 0 0, .slice none 0 0, .slice none 0 0, .slice none 0 0, .slice none 0 0, .slice none 0 0, .slice none 0 0, .slice none 0 0] 25
    have Rp2 := (plain_at w1 freq).below b2
    generalize hw2 : w1.alloc (.cells #[.int .i64 freq, .int .i64 1, .int .i64 0, .int .i64 0, .int .i64 0, .bool false, .slice none 0 0, .slice none 0 0, .slice none 0 0, .slice none 0 0, .slice none 0 0, .slice none 0 0, .slice none 0 0, .slice none 0 0, .slice none 0 0] 25) = w2 at *
    clear hw2
    have B2 := B1.trans (b2.mono B1.size)
    clear B1
    clear b2
    go_wp2_with fail
    refine (day_any start _ l1 u1).mono ?_
    rintro e w' ⟨rfl, rfl⟩
    go_wp2_with fail
    refine (date_no d _ HD.out).mono ?_
    rintro e w' ⟨rfl, rfl⟩
    go_wp2_with fail
    refine (date_no (start / 86400) _ HS.out).mono ?_
    rintro e w' ⟨rfl, rfl⟩
    go_wp2_with fail
    refine (first_is _ (TT.out.on B2)).mono ?_
    rintro e w3 ⟨rfl, b3⟩
    have B3 := B2.trans (b3.mono B2.size)
    have Xp3 := Xp2.below b3
    have Rp3 := Rp2.below b3
    clear B2 Xp2 Rp2
    clear b3
    have pz0 : w3.cell? ⟨w1.heap.size, 0, none⟩ = some (.int .i64 freq) := Xp3.at_ 0 _ rfl
    have pz1 : w3.cell? ⟨w1.heap.size, 1, none⟩ = some (.int .i64 1) := Xp3.at_ 1 _ rfl
    have pz2 : w3.cell? ⟨w1.heap.size, 2, none⟩ = some (.int .i64 0) := Xp3.at_ 2 _ rfl
    have pz3 : w3.cell? ⟨w1.heap.size, 3, none⟩ = some (.int .i64 0) := Xp3.at_ 3 _ rfl
    have pz4 : w3.cell? ⟨w1.heap.size, 4, none⟩ = some (.int .i64 0) := Xp3.at_ 4 _ rfl
    have pz5 : w3.cell? ⟨w1.heap.size, 5, none⟩ = some (.bool false) := Xp3.at_ 5 _ rfl
    have pz6 : w3.cell? ⟨w1.heap.size, 6, none⟩ = some (.slice none 0 0) := Xp3.at_ 6 _ rfl
    have pz7 : w3.cell? ⟨w1.heap.size, 7, none⟩ = some (.slice none 0 0) := Xp3.at_ 7 _ rfl
    have pz8 : w3.cell? ⟨w1.heap.size, 8, none⟩ = some (.slice none 0 0) := Xp3.at_ 8 _ rfl
    have pz9 : w3.cell? ⟨w1.heap.size, 9, none⟩ = some (.slice none 0 0) := Xp3.at_ 9 _ rfl
    have pz10 : w3.cell? ⟨w1.heap.size, 10, none⟩ = some (.slice none 0 0) := Xp3.at_ 10 _ rfl
    have pz11 : w3.cell? ⟨w1.heap.size, 11, none⟩ = some (.slice none 0 0) := Xp3.at_ 11 _ rfl
    have pz12 : w3.cell? ⟨w1.heap.size, 12, none⟩ = some (.slice none 0 0) := Xp3.at_ 12 _ rfl
    have pz13 : w3.cell? ⟨w1.heap.size, 13, none⟩ = some (.slice none 0 0) := Xp3.at_ 13 _ rfl
    have pz14 : w3.cell? ⟨w1.heap.size, 14, none⟩ = some (.slice none 0 0) := Xp3.at_ 14 _ rfl
    go_wp2_with fail
    refine (fits_is _ nilS (plainR freq) start d false Rp3 FX.out).mono ?_
    rintro e w4 ⟨rfl, b4⟩
    clear pz0 pz1 pz2 pz3 pz4 pz5 pz6 pz7 pz8 pz9 pz10 pz11 pz12 pz13 pz14
    have B4 := B3.trans (b4.mono B3.size)
    have Xp4 := Xp3.below b4
    have Rp4 := Rp3.below b4
    clear B3 Xp3 Rp3
    clear b4
    go_wp2
    go_ret
    exact ⟨rfl, B4⟩
set_option maxRecDepth 100000 in
set_option maxHeartbeats 8000000 in
theorem plain_b (w : World) (T : Tabs w) (freq start d : Int) (l1 : -9223372036854775808 ≤ start) (u1 : start ≤ 9223372036854775807) (h1 : -719162 ≤ d) (h2 : d ≤ 2932896) (hs : ¬ (-719162 ≤ start / 86400 ∧ start / 86400 ≤ 2932896)) :
    Calls Tryz.prog 7 #[.int .i64 freq, .int .i64 start, .int .i64 d] w fun e w' => e = .returned (.bool true) ∧ Below w.heap.size w w' := by
  have TT := Lib.hid T
  clear T
  have HS := Lib.hid hs
  have FX := Lib.hid (show fitsB (plainR freq) start d = false by rw [plain_fits, may_isday, show isday (start / 86400) = false from decide_eq_false hs]; simp)
  clear hs
  show Calls Tryz.prog 7 #[.int .i64 freq, .int .i64 start, .int .i64 d] w _
  go_enter Tryz.func7, Tryz.ntmps7
  have B0 := Below.refl w.heap.size w
  go_wp2_with fail
  refine (first_is _ (TT.out.on B0)).mono ?_
  rintro e w1 ⟨rfl, b1⟩
  have B1 := B0.trans (b1.mono B0.size)
  clear B0
  clear b1
  go_upto_region 4 with fail
  have b2 := alloc_below w1 (.cells #[.int .i64 freq, .int .i64 1, .int .i64 0, .int .i64 0, .int .i64 0, .bool false, .slice none 0 0, .slice none 0 0, .slice none 0 0, .slice none 0 0, .slice none 0 0, .slice none 0 0, .slice none 0 0, .slice none 0 0, .slice none 0 0] 25)
  have Xp2 := Box.new w1 #[.int .i64 freq, .int .i64 1, .int .i64 0, .int .i64 0, .int .i64 0, .bool false, .slice none 0 0, .slice none 0 0, .slice none 0 0, .slice none 0 0, .slice none 0 0, .slice none 0 0, .slice none 0 0, .slice none 0 0, .slice none 0 0] 25
  have Rp2 := (plain_at w1 freq).below b2
  generalize hw2 : w1.alloc (.cells #[.int .i64 freq, .int .i64 1, .int .i64 0, .int .i64 0, .int .i64 0, .bool false, .slice none 0 0, .slice none 0 0, .slice none 0 0, .slice none 0 0, .slice none 0 0, .slice none 0 0, .slice none 0 0, .slice none 0 0, .slice none 0 0] 25) = w2 at *
  clear hw2
  have B2 := B1.trans (b2.mono B1.size)
  clear B1
  clear b2
  go_wp2_with fail
  refine (day_any start _ l1 u1).mono ?_
  rintro e w' ⟨rfl, rfl⟩
  go_wp2_with fail
  refine (date_yes d _ h1 h2).mono ?_
  rintro e w' ⟨rfl, rfl⟩
  go_wp2_with fail
  refine (date_no (start / 86400) _ HS.out).mono ?_
  rintro e w' ⟨rfl, rfl⟩
  go_wp2_with fail
  refine (first_is _ (TT.out.on B2)).mono ?_
  rintro e w3 ⟨rfl, b3⟩
  have B3 := B2.trans (b3.mono B2.size)
  have Xp3 := Xp2.below b3
  have Rp3 := Rp2.below b3
  clear B2 Xp2 Rp2
  clear b3
  have pz0 : w3.cell? ⟨w1.heap.size, 0, none⟩ = some (.int .i64 freq) := Xp3.at_ 0 _ rfl
  have pz1 : w3.cell? ⟨w1.heap.size, 1, none⟩ = some (.int .i64 1) := Xp3.at_ 1 _ rfl
  have pz2 : w3.cell? ⟨w1.heap.size, 2, none⟩ = some (.int .i64 0) := Xp3.at_ 2 _ rfl
  have pz3 : w3.cell? ⟨w1.heap.size, 3, none⟩ = some (.int .i64 0) := Xp3.at_ 3 _ rfl
  have pz4 : w3.cell? ⟨w1.heap.size, 4, none⟩ = some (.int .i64 0) := Xp3.at_ 4 _ rfl
  have pz5 : w3.cell? ⟨w1.heap.size, 5, none⟩ = some (.bool false) := Xp3.at_ 5 _ rfl
  have pz6 : w3.cell? ⟨w1.heap.size, 6, none⟩ = some (.slice none 0 0) := Xp3.at_ 6 _ rfl
  have pz7 : w3.cell? ⟨w1.heap.size, 7, none⟩ = some (.slice none 0 0) := Xp3.at_ 7 _ rfl
  have pz8 : w3.cell? ⟨w1.heap.size, 8, none⟩ = some (.slice none 0 0) := Xp3.at_ 8 _ rfl
  have pz9 : w3.cell? ⟨w1.heap.size, 9, none⟩ = some (.slice none 0 0) := Xp3.at_ 9 _ rfl
  have pz10 : w3.cell? ⟨w1.heap.size, 10, none⟩ = some (.slice none 0 0) := Xp3.at_ 10 _ rfl
  have pz11 : w3.cell? ⟨w1.heap.size, 11, none⟩ = some (.slice none 0 0) := Xp3.at_ 11 _ rfl
  have pz12 : w3.cell? ⟨w1.heap.size, 12, none⟩ = some (.slice none 0 0) := Xp3.at_ 12 _ rfl
  have pz13 : w3.cell? ⟨w1.heap.size, 13, none⟩ = some (.slice none 0 0) := Xp3.at_ 13 _ rfl
  have pz14 : w3.cell? ⟨w1.heap.size, 14, none⟩ = some (.slice none 0 0) := Xp3.at_ 14 _ rfl
  go_wp2_with fail
  refine (fits_is _ nilS (plainR freq) start d false Rp3 FX.out).mono ?_
  rintro e w4 ⟨rfl, b4⟩
  clear pz0 pz1 pz2 pz3 pz4 pz5 pz6 pz7 pz8 pz9 pz10 pz11 pz12 pz13 pz14
  have B4 := B3.trans (b4.mono B3.size)
  have Xp4 := Xp3.below b4
  have Rp4 := Rp3.below b4
  clear B3 Xp3 Rp3
  clear b4
  go_wp2
  go_ret
  exact ⟨rfl, B4⟩
set_option maxRecDepth 100000 in
set_option maxHeartbeats 8000000 in
theorem plain_c (w : World) (T : Tabs w) (freq start d : Int) (l1 : -9223372036854775808 ≤ start) (u1 : start ≤ 9223372036854775807) (h1 : -719162 ≤ d) (h2 : d ≤ 2932896) (s1 : -719162 ≤ start / 86400) (s2 : start / 86400 ≤ 2932896) (hf : freq < 1) :
    Calls Tryz.prog 7 #[.int .i64 freq, .int .i64 start, .int .i64 d] w fun e w' => e = .returned (.bool true) ∧ Below w.heap.size w w' := by
  have TT := Lib.hid T
  clear T
  have MY := Lib.hid (show St.may start = true by rw [may_isday]; exact decide_eq_true ⟨s1, s2⟩)
  have FX := Lib.hid (show fitsB (plainR freq) start d = false by rw [plain_fits, show decide (1 ≤ freq ∧ freq ≤ 7) = false from decide_eq_false (by omega)]; simp)
  have t1 : decide (freq < 1) = true := decide_eq_true hf
  show Calls Tryz.prog 7 #[.int .i64 freq, .int .i64 start, .int .i64 d] w _
  go_enter Tryz.func7, Tryz.ntmps7
  have B0 := Below.refl w.heap.size w
  go_wp2_with fail
  refine (first_is _ (TT.out.on B0)).mono ?_
  rintro e w1 ⟨rfl, b1⟩
  have B1 := B0.trans (b1.mono B0.size)
  clear B0
  clear b1
  go_upto_region 4 with fail
  have b2 := alloc_below w1 (.cells #[.int .i64 freq, .int .i64 1, .int .i64 0, .int .i64 0, .int .i64 0, .bool false, .slice none 0 0, .slice none 0 0, .slice none 0 0, .slice none 0 0, .slice none 0 0, .slice none 0 0, .slice none 0 0, .slice none 0 0, .slice none 0 0] 25)
  have Xp2 := Box.new w1 #[.int .i64 freq, .int .i64 1, .int .i64 0, .int .i64 0, .int .i64 0, .bool false, .slice none 0 0, .slice none 0 0, .slice none 0 0, .slice none 0 0, .slice none 0 0, .slice none 0 0, .slice none 0 0, .slice none 0 0, .slice none 0 0] 25
  have Rp2 := (plain_at w1 freq).below b2
  generalize hw2 : w1.alloc (.cells #[.int .i64 freq, .int .i64 1, .int .i64 0, .int .i64 0, .int .i64 0, .bool false, .slice none 0 0, .slice none 0 0, .slice none 0 0, .slice none 0 0, .slice none 0 0, .slice none 0 0, .slice none 0 0, .slice none 0 0, .slice none 0 0] 25) = w2 at *
  clear hw2
  have B2 := B1.trans (b2.mono B1.size)
  clear B1
  clear b2
  go_wp2_with fail
  refine (day_any start _ l1 u1).mono ?_
  rintro e w' ⟨rfl, rfl⟩
  go_wp2_with fail
  refine (date_yes d _ h1 h2).mono ?_
  rintro e w' ⟨rfl, rfl⟩
  go_wp2_with fail
  refine (date_yes (start / 86400) _ s1 s2).mono ?_
  rintro e w' ⟨rfl, rfl⟩
  go_wp2_with fail
  refine (may_yes start _ MY.out).mono ?_
  rintro e w' ⟨rfl, rfl⟩
  go_wp2_with fail
  refine (first_is _ (TT.out.on B2)).mono ?_
  rintro e w3 ⟨rfl, b3⟩
  have B3 := B2.trans (b3.mono B2.size)
  have Xp3 := Xp2.below b3
  have Rp3 := Rp2.below b3
  clear B2 Xp2 Rp2
  clear b3
  have pz0 : w3.cell? ⟨w1.heap.size, 0, none⟩ = some (.int .i64 freq) := Xp3.at_ 0 _ rfl
  have pz1 : w3.cell? ⟨w1.heap.size, 1, none⟩ = some (.int .i64 1) := Xp3.at_ 1 _ rfl
  have pz2 : w3.cell? ⟨w1.heap.size, 2, none⟩ = some (.int .i64 0) := Xp3.at_ 2 _ rfl
  have pz3 : w3.cell? ⟨w1.heap.size, 3, none⟩ = some (.int .i64 0) := Xp3.at_ 3 _ rfl
  have pz4 : w3.cell? ⟨w1.heap.size, 4, none⟩ = some (.int .i64 0) := Xp3.at_ 4 _ rfl
  have pz5 : w3.cell? ⟨w1.heap.size, 5, none⟩ = some (.bool false) := Xp3.at_ 5 _ rfl
  have pz6 : w3.cell? ⟨w1.heap.size, 6, none⟩ = some (.slice none 0 0) := Xp3.at_ 6 _ rfl
  have pz7 : w3.cell? ⟨w1.heap.size, 7, none⟩ = some (.slice none 0 0) := Xp3.at_ 7 _ rfl
  have pz8 : w3.cell? ⟨w1.heap.size, 8, none⟩ = some (.slice none 0 0) := Xp3.at_ 8 _ rfl
  have pz9 : w3.cell? ⟨w1.heap.size, 9, none⟩ = some (.slice none 0 0) := Xp3.at_ 9 _ rfl
  have pz10 : w3.cell? ⟨w1.heap.size, 10, none⟩ = some (.slice none 0 0) := Xp3.at_ 10 _ rfl
  have pz11 : w3.cell? ⟨w1.heap.size, 11, none⟩ = some (.slice none 0 0) := Xp3.at_ 11 _ rfl
  have pz12 : w3.cell? ⟨w1.heap.size, 12, none⟩ = some (.slice none 0 0) := Xp3.at_ 12 _ rfl
  have pz13 : w3.cell? ⟨w1.heap.size, 13, none⟩ = some (.slice none 0 0) := Xp3.at_ 13 _ rfl
  have pz14 : w3.cell? ⟨w1.heap.size, 14, none⟩ = some (.slice none 0 0) := Xp3.at_ 14 _ rfl
  go_wp2_with fail
  refine (fits_is _ nilS (plainR freq) start d false Rp3 FX.out).mono ?_
  rintro e w4 ⟨rfl, b4⟩
  clear pz0 pz1 pz2 pz3 pz4 pz5 pz6 pz7 pz8 pz9 pz10 pz11 pz12 pz13 pz14
  have B4 := B3.trans (b4.mono B3.size)
  have Xp4 := Xp3.below b4
  have Rp4 := Rp3.below b4
  clear B3 Xp3 Rp3
  clear b4
  go_wp2
  go_ret
  exact ⟨rfl, B4⟩
set_option maxRecDepth 100000 in
set_option maxHeartbeats 8000000 in
theorem plain_d (w : World) (T : Tabs w) (freq start d : Int) (l1 : -9223372036854775808 ≤ start) (u1 : start ≤ 9223372036854775807) (h1 : -719162 ≤ d) (h2 : d ≤ 2932896) (s1 : -719162 ≤ start / 86400) (s2 : start / 86400 ≤ 2932896) (hf : 7 < freq) :
    Calls Tryz.prog 7 #[.int .i64 freq, .int .i64 start, .int .i64 d] w fun e w' => e = .returned (.bool true) ∧ Below w.heap.size w w' := by
  have TT := Lib.hid T
  clear T
  have MY := Lib.hid (show St.may start = true by rw [may_isday]; exact decide_eq_true ⟨s1, s2⟩)
  have FX := Lib.hid (show fitsB (plainR freq) start d = false by rw [plain_fits, show decide (1 ≤ freq ∧ freq ≤ 7) = false from decide_eq_false (by omega)]; simp)
  have t1 : decide (freq < 1) = false := decide_eq_false (by omega)
  have t2 : decide (7 < freq) = true := decide_eq_true hf
  show Calls Tryz.prog 7 #[.int .i64 freq, .int .i64 start, .int .i64 d] w _
  go_enter Tryz.func7, Tryz.ntmps7
  have B0 := Below.refl w.heap.size w
  go_wp2_with fail
  refine (first_is _ (TT.out.on B0)).mono ?_
  rintro e w1 ⟨rfl, b1⟩
  have B1 := B0.trans (b1.mono B0.size)
  clear B0
  clear b1
  go_upto_region 4 with fail
  have b2 := alloc_below w1 (.cells #[.int .i64 freq, .int .i64 1, .int .i64 0, .int .i64 0, .int .i64 0, .bool false, .slice none 0 0, .slice none 0 0, .slice none 0 0, .slice none 0 0, .slice none 0 0, .slice none 0 0, .slice none 0 0, .slice none 0 0, .slice none 0 0] 25)
  have Xp2 := Box.new w1 #[.int .i64 freq, .int .i64 1, .int .i64 0, .int .i64 0, .int .i64 0, .bool false, .slice none 0 0, .slice none 0 0, .slice none 0 0, .slice none 0 0, .slice none 0 0, .slice none 0 0, .slice none 0 0, .slice none 0 0, .slice none 0 0] 25
  have Rp2 := (plain_at w1 freq).below b2
  generalize hw2 : w1.alloc (.cells #[.int .i64 freq, .int .i64 1, .int .i64 0, .int .i64 0, .int .i64 0, .bool false, .slice none 0 0, .slice none 0 0, .slice none 0 0, .slice none 0 0, .slice none 0 0, .slice none 0 0, .slice none 0 0, .slice none 0 0, .slice none 0 0] 25) = w2 at *
  clear hw2
  have B2 := B1.trans (b2.mono B1.size)
  clear B1
  clear b2
  go_wp2_with fail
  refine (day_any start _ l1 u1).mono ?_
  rintro e w' ⟨rfl, rfl⟩
  go_wp2_with fail
  refine (date_yes d _ h1 h2).mono ?_
  rintro e w' ⟨rfl, rfl⟩
  go_wp2_with fail
  refine (date_yes (start / 86400) _ s1 s2).mono ?_
  rintro e w' ⟨rfl, rfl⟩
  go_wp2_with fail
  refine (may_yes start _ MY.out).mono ?_
  rintro e w' ⟨rfl, rfl⟩
  go_wp2_with fail
  refine (first_is _ (TT.out.on B2)).mono ?_
  rintro e w3 ⟨rfl, b3⟩
  have B3 := B2.trans (b3.mono B2.size)
  have Xp3 := Xp2.below b3
  have Rp3 := Rp2.below b3
  clear B2 Xp2 Rp2
  clear b3
  have pz0 : w3.cell? ⟨w1.heap.size, 0, none⟩ = some (.int .i64 freq) := Xp3.at_ 0 _ rfl
  have pz1 : w3.cell? ⟨w1.heap.size, 1, none⟩ = some (.int .i64 1) := Xp3.at_ 1 _ rfl
  have pz2 : w3.cell? ⟨w1.heap.size, 2, none⟩ = some (.int .i64 0) := Xp3.at_ 2 _ rfl
  have pz3 : w3.cell? ⟨w1.heap.size, 3, none⟩ = some (.int .i64 0) := Xp3.at_ 3 _ rfl
  have pz4 : w3.cell? ⟨w1.heap.size, 4, none⟩ = some (.int .i64 0) := Xp3.at_ 4 _ rfl
  have pz5 : w3.cell? ⟨w1.heap.size, 5, none⟩ = some (.bool false) := Xp3.at_ 5 _ rfl
  have pz6 : w3.cell? ⟨w1.heap.size, 6, none⟩ = some (.slice none 0 0) := Xp3.at_ 6 _ rfl
  have pz7 : w3.cell? ⟨w1.heap.size, 7, none⟩ = some (.slice none 0 0) := Xp3.at_ 7 _ rfl
  have pz8 : w3.cell? ⟨w1.heap.size, 8, none⟩ = some (.slice none 0 0) := Xp3.at_ 8 _ rfl
  have pz9 : w3.cell? ⟨w1.heap.size, 9, none⟩ = some (.slice none 0 0) := Xp3.at_ 9 _ rfl
  have pz10 : w3.cell? ⟨w1.heap.size, 10, none⟩ = some (.slice none 0 0) := Xp3.at_ 10 _ rfl
  have pz11 : w3.cell? ⟨w1.heap.size, 11, none⟩ = some (.slice none 0 0) := Xp3.at_ 11 _ rfl
  have pz12 : w3.cell? ⟨w1.heap.size, 12, none⟩ = some (.slice none 0 0) := Xp3.at_ 12 _ rfl
  have pz13 : w3.cell? ⟨w1.heap.size, 13, none⟩ = some (.slice none 0 0) := Xp3.at_ 13 _ rfl
  have pz14 : w3.cell? ⟨w1.heap.size, 14, none⟩ = some (.slice none 0 0) := Xp3.at_ 14 _ rfl
  go_wp2_with fail
  refine (fits_is _ nilS (plainR freq) start d false Rp3 FX.out).mono ?_
  rintro e w4 ⟨rfl, b4⟩
  clear pz0 pz1 pz2 pz3 pz4 pz5 pz6 pz7 pz8 pz9 pz10 pz11 pz12 pz13 pz14
  have B4 := B3.trans (b4.mono B3.size)
  have Xp4 := Xp3.below b4
  have Rp4 := Rp3.below b4
  clear B3 Xp3 Rp3
  clear b4
  go_wp2
  go_ret
  exact ⟨rfl, B4⟩
set_option maxRecDepth 100000 in
set_option maxHeartbeats 8000000 in
theorem plain_e1 (w : World) (T : Tabs w) (freq start d : Int) (l1 : -9223372036854775808 ≤ start) (u1 : start ≤ 9223372036854775807) (h1 : -719162 ≤ d) (h2 : d ≤ 2932896) (s1 : -719162 ≤ start / 86400) (s2 : start / 86400 ≤ 2932896) (hf1 : 1 ≤ freq) (hf2 : freq ≤ 7) (a1 : freq = 1) (m0 : Cv.mon d = Cv.mon (start / 86400)) (m1 : dom d = dom (start / 86400)) :
    Calls Tryz.prog 7 #[.int .i64 freq, .int .i64 start, .int .i64 d] w fun e w' => e = .returned (.bool true) ∧ Below w.heap.size w w' := by
  have TT := Lib.hid T
  clear T
  have MY := Lib.hid (show St.may start = true by rw [may_isday]; exact decide_eq_true ⟨s1, s2⟩)
  have FX := Lib.hid (show fitsB (plainR freq) start d = true by
    rw [plain_fits, show isday d = true from decide_eq_true ⟨h1, h2⟩, MY.out, show decide (1 ≤ freq ∧ freq ≤ 7) = true from decide_eq_true ⟨hf1, hf2⟩]
    show plainW freq (start / 86400) d = true
    unfold plainW
    rw [if_pos a1]; exact decide_eq_true ⟨m0, m1⟩)
  obtain ⟨y1, y2⟩ := yr_day d h1 h2
  have t1 : decide (freq < 1) = false := decide_eq_false (by omega)
  have t2 : decide (7 < freq) = false := decide_eq_false (by omega)
  have A1 := Lib.hid a1
  clear a1
  have M0 := Lib.hid m0
  clear m0
  have M1 := Lib.hid m1
  clear m1
  show Calls Tryz.prog 7 #[.int .i64 freq, .int .i64 start, .int .i64 d] w _
  go_enter Tryz.func7, Tryz.ntmps7
  have B0 := Below.refl w.heap.size w
  go_wp2_with fail
  refine (first_is _ (TT.out.on B0)).mono ?_
  rintro e w1 ⟨rfl, b1⟩
  have B1 := B0.trans (b1.mono B0.size)
  clear B0
  clear b1
  go_upto_region 4 with fail
  have b2 := alloc_below w1 (.cells #[.int .i64 freq, .int .i64 1, .int .i64 0, .int .i64 0, .int .i64 0, .bool false, .slice none 0 0, .slice none 0 0, .slice none 0 0, .slice none 0 0, .slice none 0 0, .slice none 0 0, .slice none 0 0, .slice none 0 0, .slice none 0 0] 25)
  have Xp2 := Box.new w1 #[.int .i64 freq, .int .i64 1, .int .i64 0, .int .i64 0, .int .i64 0, .bool false, .slice none 0 0, .slice none 0 0, .slice none 0 0, .slice none 0 0, .slice none 0 0, .slice none 0 0, .slice none 0 0, .slice none 0 0, .slice none 0 0] 25
  have Rp2 := (plain_at w1 freq).below b2
  generalize hw2 : w1.alloc (.cells #[.int .i64 freq, .int .i64 1, .int .i64 0, .int .i64 0, .int .i64 0, .bool false, .slice none 0 0, .slice none 0 0, .slice none 0 0, .slice none 0 0, .slice none 0 0, .slice none 0 0, .slice none 0 0, .slice none 0 0, .slice none 0 0] 25) = w2 at *
  clear hw2
  have B2 := B1.trans (b2.mono B1.size)
  clear B1
  clear b2
  go_wp2_with fail
  refine (day_any start _ l1 u1).mono ?_
  rintro e w' ⟨rfl, rfl⟩
  go_wp2_with fail
  refine (date_yes d _ h1 h2).mono ?_
  rintro e w' ⟨rfl, rfl⟩
  go_wp2_with fail
  refine (date_yes (start / 86400) _ s1 s2).mono ?_
  rintro e w' ⟨rfl, rfl⟩
  go_wp2_with fail
  refine (may_yes start _ MY.out).mono ?_
  rintro e w' ⟨rfl, rfl⟩
  go_upto_region 9 with fail
  obtain ⟨s, hs⟩ : ∃ s, start / 86400 = s := ⟨_, rfl⟩
  rw [hs]
  clear t1 t2 hf1 hf2
  have f1 : ((freq : Int) == 1) = true := by rw [beq_iff_eq]; exact A1.out
  have g0 : ((Cv.mon d : Int) == Cv.mon s) = true := by rw [beq_iff_eq]; rw [← hs]; exact M0.out
  have g1 : ((dom d : Int) == dom s) = true := by rw [beq_iff_eq]; rw [← hs]; exact M1.out
  clear hs
  go_wp2_with fail
  refine (first_is _ (TT.out.on B2)).mono ?_
  rintro e w3 ⟨rfl, b3⟩
  have B3 := B2.trans (b3.mono B2.size)
  have Xp3 := Xp2.below b3
  have Rp3 := Rp2.below b3
  clear B2 Xp2 Rp2
  clear b3
  have pz0 : w3.cell? ⟨w1.heap.size, 0, none⟩ = some (.int .i64 freq) := Xp3.at_ 0 _ rfl
  have pz1 : w3.cell? ⟨w1.heap.size, 1, none⟩ = some (.int .i64 1) := Xp3.at_ 1 _ rfl
  have pz2 : w3.cell? ⟨w1.heap.size, 2, none⟩ = some (.int .i64 0) := Xp3.at_ 2 _ rfl
  have pz3 : w3.cell? ⟨w1.heap.size, 3, none⟩ = some (.int .i64 0) := Xp3.at_ 3 _ rfl
  have pz4 : w3.cell? ⟨w1.heap.size, 4, none⟩ = some (.int .i64 0) := Xp3.at_ 4 _ rfl
  have pz5 : w3.cell? ⟨w1.heap.size, 5, none⟩ = some (.bool false) := Xp3.at_ 5 _ rfl
  have pz6 : w3.cell? ⟨w1.heap.size, 6, none⟩ = some (.slice none 0 0) := Xp3.at_ 6 _ rfl
  have pz7 : w3.cell? ⟨w1.heap.size, 7, none⟩ = some (.slice none 0 0) := Xp3.at_ 7 _ rfl
  have pz8 : w3.cell? ⟨w1.heap.size, 8, none⟩ = some (.slice none 0 0) := Xp3.at_ 8 _ rfl
  have pz9 : w3.cell? ⟨w1.heap.size, 9, none⟩ = some (.slice none 0 0) := Xp3.at_ 9 _ rfl
  have pz10 : w3.cell? ⟨w1.heap.size, 10, none⟩ = some (.slice none 0 0) := Xp3.at_ 10 _ rfl
  have pz11 : w3.cell? ⟨w1.heap.size, 11, none⟩ = some (.slice none 0 0) := Xp3.at_ 11 _ rfl
  have pz12 : w3.cell? ⟨w1.heap.size, 12, none⟩ = some (.slice none 0 0) := Xp3.at_ 12 _ rfl
  have pz13 : w3.cell? ⟨w1.heap.size, 13, none⟩ = some (.slice none 0 0) := Xp3.at_ 13 _ rfl
  have pz14 : w3.cell? ⟨w1.heap.size, 14, none⟩ = some (.slice none 0 0) := Xp3.at_ 14 _ rfl
  go_wp2_with fail
  refine (fits_is _ nilS (plainR freq) start d true Rp3 FX.out).mono ?_
  rintro e w4 ⟨rfl, b4⟩
  clear pz0 pz1 pz2 pz3 pz4 pz5 pz6 pz7 pz8 pz9 pz10 pz11 pz12 pz13 pz14
  have B4 := B3.trans (b4.mono B3.size)
  have Xp4 := Xp3.below b4
  have Rp4 := Rp3.below b4
  clear B3 Xp3 Rp3
  clear b4
  have y3 : decide (1 ≤ yr d) = true := decide_eq_true y1
  go_wp2
  go_ret
  exact ⟨rfl, B4⟩
set_option maxRecDepth 100000 in
set_option maxHeartbeats 8000000 in
theorem plain_e2 (w : World) (T : Tabs w) (freq start d : Int) (l1 : -9223372036854775808 ≤ start) (u1 : start ≤ 9223372036854775807) (h1 : -719162 ≤ d) (h2 : d ≤ 2932896) (s1 : -719162 ≤ start / 86400) (s2 : start / 86400 ≤ 2932896) (hf1 : 1 ≤ freq) (hf2 : freq ≤ 7) (a1 : freq = 1) (m0 : Cv.mon d = Cv.mon (start / 86400)) (m1 : ¬ dom d = dom (start / 86400)) :
    Calls Tryz.prog 7 #[.int .i64 freq, .int .i64 start, .int .i64 d] w fun e w' => e = .returned (.bool true) ∧ Below w.heap.size w w' := by
  have TT := Lib.hid T
  clear T
  have MY := Lib.hid (show St.may start = true by rw [may_isday]; exact decide_eq_true ⟨s1, s2⟩)
  have FX := Lib.hid (show fitsB (plainR freq) start d = false by
    rw [plain_fits, show isday d = true from decide_eq_true ⟨h1, h2⟩, MY.out, show decide (1 ≤ freq ∧ freq ≤ 7) = true from decide_eq_true ⟨hf1, hf2⟩]
    show plainW freq (start / 86400) d = false
    unfold plainW
    rw [if_pos a1]; exact decide_eq_false (fun g => m1 g.2))
  obtain ⟨y1, y2⟩ := yr_day d h1 h2
  have t1 : decide (freq < 1) = false := decide_eq_false (by omega)
  have t2 : decide (7 < freq) = false := decide_eq_false (by omega)
  have A1 := Lib.hid a1
  clear a1
  have M0 := Lib.hid m0
  clear m0
  have M1 := Lib.hid m1
  clear m1
  show Calls Tryz.prog 7 #[.int .i64 freq, .int .i64 start, .int .i64 d] w _
  go_enter Tryz.func7, Tryz.ntmps7
  have B0 := Below.refl w.heap.size w
  go_wp2_with fail
  refine (first_is _ (TT.out.on B0)).mono ?_
  rintro e w1 ⟨rfl, b1⟩
  have B1 := B0.trans (b1.mono B0.size)
  clear B0
  clear b1
  go_upto_region 4 with fail
  have b2 := alloc_below w1 (.cells #[.int .i64 freq, .int .i64 1, .int .i64 0, .int .i64 0, .int .i64 0, .bool false, .slice none 0 0, .slice none 0 0, .slice none 0 0, .slice none 0 0, .slice none 0 0, .slice none 0 0, .slice none 0 0, .slice none 0 0, .slice none 0 0] 25)
  have Xp2 := Box.new w1 #[.int .i64 freq, .int .i64 1, .int .i64 0, .int .i64 0, .int .i64 0, .bool false, .slice none 0 0, .slice none 0 0, .slice none 0 0, .slice none 0 0, .slice none 0 0, .slice none 0 0, .slice none 0 0, .slice none 0 0, .slice none 0 0] 25
  have Rp2 := (plain_at w1 freq).below b2
  generalize hw2 : w1.alloc (.cells #[.int .i64 freq, .int .i64 1, .int .i64 0, .int .i64 0, .int .i64 0, .bool false, .slice none 0 0, .slice none 0 0, .slice none 0 0, .slice none 0 0, .slice none 0 0, .slice none 0 0, .slice none 0 0, .slice none 0 0, .slice none 0 0] 25) = w2 at *
  clear hw2
  have B2 := B1.trans (b2.mono B1.size)
  clear B1
  clear b2
  go_wp2_with fail
  refine (day_any start _ l1 u1).mono ?_
  rintro e w' ⟨rfl, rfl⟩
  go_wp2_with fail
  refine (date_yes d _ h1 h2).mono ?_
  rintro e w' ⟨rfl, rfl⟩
  go_wp2_with fail
  refine (date_yes (start / 86400) _ s1 s2).mono ?_
  rintro e w' ⟨rfl, rfl⟩
  go_wp2_with fail
  refine (may_yes start _ MY.out).mono ?_
  rintro e w' ⟨rfl, rfl⟩
  go_upto_region 9 with fail
  obtain ⟨s, hs⟩ : ∃ s, start / 86400 = s := ⟨_, rfl⟩
  rw [hs]
  clear t1 t2 hf1 hf2
  have f1 : ((freq : Int) == 1) = true := by rw [beq_iff_eq]; exact A1.out
  have g0 : ((Cv.mon d : Int) == Cv.mon s) = true := by rw [beq_iff_eq]; rw [← hs]; exact M0.out
  have g1 : ((dom d : Int) == dom s) = false := by rw [beq_eq_false_iff_ne]; rw [← hs]; exact M1.out
  clear hs
  go_wp2_with fail
  refine (first_is _ (TT.out.on B2)).mono ?_
  rintro e w3 ⟨rfl, b3⟩
  have B3 := B2.trans (b3.mono B2.size)
  have Xp3 := Xp2.below b3
  have Rp3 := Rp2.below b3
  clear B2 Xp2 Rp2
  clear b3
  have pz0 : w3.cell? ⟨w1.heap.size, 0, none⟩ = some (.int .i64 freq) := Xp3.at_ 0 _ rfl
  have pz1 : w3.cell? ⟨w1.heap.size, 1, none⟩ = some (.int .i64 1) := Xp3.at_ 1 _ rfl
  have pz2 : w3.cell? ⟨w1.heap.size, 2, none⟩ = some (.int .i64 0) := Xp3.at_ 2 _ rfl
  have pz3 : w3.cell? ⟨w1.heap.size, 3, none⟩ = some (.int .i64 0) := Xp3.at_ 3 _ rfl
  have pz4 : w3.cell? ⟨w1.heap.size, 4, none⟩ = some (.int .i64 0) := Xp3.at_ 4 _ rfl
  have pz5 : w3.cell? ⟨w1.heap.size, 5, none⟩ = some (.bool false) := Xp3.at_ 5 _ rfl
  have pz6 : w3.cell? ⟨w1.heap.size, 6, none⟩ = some (.slice none 0 0) := Xp3.at_ 6 _ rfl
  have pz7 : w3.cell? ⟨w1.heap.size, 7, none⟩ = some (.slice none 0 0) := Xp3.at_ 7 _ rfl
  have pz8 : w3.cell? ⟨w1.heap.size, 8, none⟩ = some (.slice none 0 0) := Xp3.at_ 8 _ rfl
  have pz9 : w3.cell? ⟨w1.heap.size, 9, none⟩ = some (.slice none 0 0) := Xp3.at_ 9 _ rfl
  have pz10 : w3.cell? ⟨w1.heap.size, 10, none⟩ = some (.slice none 0 0) := Xp3.at_ 10 _ rfl
  have pz11 : w3.cell? ⟨w1.heap.size, 11, none⟩ = some (.slice none 0 0) := Xp3.at_ 11 _ rfl
  have pz12 : w3.cell? ⟨w1.heap.size, 12, none⟩ = some (.slice none 0 0) := Xp3.at_ 12 _ rfl
  have pz13 : w3.cell? ⟨w1.heap.size, 13, none⟩ = some (.slice none 0 0) := Xp3.at_ 13 _ rfl
  have pz14 : w3.cell? ⟨w1.heap.size, 14, none⟩ = some (.slice none 0 0) := Xp3.at_ 14 _ rfl
  go_wp2_with fail
  refine (fits_is _ nilS (plainR freq) start d false Rp3 FX.out).mono ?_
  rintro e w4 ⟨rfl, b4⟩
  clear pz0 pz1 pz2 pz3 pz4 pz5 pz6 pz7 pz8 pz9 pz10 pz11 pz12 pz13 pz14
  have B4 := B3.trans (b4.mono B3.size)
  have Xp4 := Xp3.below b4
  have Rp4 := Rp3.below b4
  clear B3 Xp3 Rp3
  clear b4
  have y3 : decide (1 ≤ yr d) = true := decide_eq_true y1
  go_wp2
  go_ret
  exact ⟨rfl, B4⟩
set_option maxRecDepth 100000 in
set_option maxHeartbeats 8000000 in
theorem plain_e3 (w : World) (T : Tabs w) (freq start d : Int) (l1 : -9223372036854775808 ≤ start) (u1 : start ≤ 9223372036854775807) (h1 : -719162 ≤ d) (h2 : d ≤ 2932896) (s1 : -719162 ≤ start / 86400) (s2 : start / 86400 ≤ 2932896) (hf1 : 1 ≤ freq) (hf2 : freq ≤ 7) (a1 : freq = 1) (m0 : ¬ Cv.mon d = Cv.mon (start / 86400)) :
    Calls Tryz.prog 7 #[.int .i64 freq, .int .i64 start, .int .i64 d] w fun e w' => e = .returned (.bool true) ∧ Below w.heap.size w w' := by
  have TT := Lib.hid T
  clear T
  have MY := Lib.hid (show St.may start = true by rw [may_isday]; exact decide_eq_true ⟨s1, s2⟩)
  have FX := Lib.hid (show fitsB (plainR freq) start d = false by
    rw [plain_fits, show isday d = true from decide_eq_true ⟨h1, h2⟩, MY.out, show decide (1 ≤ freq ∧ freq ≤ 7) = true from decide_eq_true ⟨hf1, hf2⟩]
    show plainW freq (start / 86400) d = false
    unfold plainW
    rw [if_pos a1]; exact decide_eq_false (fun g => m0 g.1))
  obtain ⟨y1, y2⟩ := yr_day d h1 h2
  have t1 : decide (freq < 1) = false := decide_eq_false (by omega)
  have t2 : decide (7 < freq) = false := decide_eq_false (by omega)
  have A1 := Lib.hid a1
  clear a1
  have M0 := Lib.hid m0
  clear m0
  show Calls Tryz.prog 7 #[.int .i64 freq, .int .i64 start, .int .i64 d] w _
  go_enter Tryz.func7, Tryz.ntmps7
  have B0 := Below.refl w.heap.size w
  go_wp2_with fail
  refine (first_is _ (TT.out.on B0)).mono ?_
  rintro e w1 ⟨rfl, b1⟩
  have B1 := B0.trans (b1.mono B0.size)
  clear B0
  clear b1
  go_upto_region 4 with fail
  have b2 := alloc_below w1 (.cells #[.int .i64 freq, .int .i64 1, .int .i64 0, .int .i64 0, .int .i64 0, .bool false, .slice none 0 0, .slice none 0 0, .slice none 0 0, .slice none 0 0, .slice none 0 0, .slice none 0 0, .slice none 0 0, .slice none 0 0, .slice none 0 0] 25)
  have Xp2 := Box.new w1 #[.int .i64 freq, .int .i64 1, .int .i64 0, .int .i64 0, .int .i64 0, .bool false, .slice none 0 0, .slice none 0 0, .slice none 0 0, .slice none 0 0, .slice none 0 0, .slice none 0 0, .slice none 0 0, .slice none 0 0, .slice none 0 0] 25
  have Rp2 := (plain_at w1 freq).below b2
  generalize hw2 : w1.alloc (.cells #[.int .i64 freq, .int .i64 1, .int .i64 0, .int .i64 0, .int .i64 0, .bool false, .slice none 0 0, .slice none 0 0, .slice none 0 0, .slice none 0 0, .slice none 0 0, .slice none 0 0, .slice none 0 0, .slice none 0 0, .slice none 0 0] 25) = w2 at *
  clear hw2
  have B2 := B1.trans (b2.mono B1.size)
  clear B1
  clear b2
  go_wp2_with fail
  refine (day_any start _ l1 u1).mono ?_
  rintro e w' ⟨rfl, rfl⟩
  go_wp2_with fail
  refine (date_yes d _ h1 h2).mono ?_
  rintro e w' ⟨rfl, rfl⟩
  go_wp2_with fail
  refine (date_yes (start / 86400) _ s1 s2).mono ?_
  rintro e w' ⟨rfl, rfl⟩
  go_wp2_with fail
  refine (may_yes start _ MY.out).mono ?_
  rintro e w' ⟨rfl, rfl⟩
  go_upto_region 9 with fail
  obtain ⟨s, hs⟩ : ∃ s, start / 86400 = s := ⟨_, rfl⟩
  rw [hs]
  clear t1 t2 hf1 hf2
  have f1 : ((freq : Int) == 1) = true := by rw [beq_iff_eq]; exact A1.out
  have g0 : ((Cv.mon d : Int) == Cv.mon s) = false := by rw [beq_eq_false_iff_ne]; rw [← hs]; exact M0.out
  clear hs
  go_wp2_with fail
  refine (first_is _ (TT.out.on B2)).mono ?_
  rintro e w3 ⟨rfl, b3⟩
  have B3 := B2.trans (b3.mono B2.size)
  have Xp3 := Xp2.below b3
  have Rp3 := Rp2.below b3
  clear B2 Xp2 Rp2
  clear b3
  have pz0 : w3.cell? ⟨w1.heap.size, 0, none⟩ = some (.int .i64 freq) := Xp3.at_ 0 _ rfl
  have pz1 : w3.cell? ⟨w1.heap.size, 1, none⟩ = some (.int .i64 1) := Xp3.at_ 1 _ rfl
  have pz2 : w3.cell? ⟨w1.heap.size, 2, none⟩ = some (.int .i64 0) := Xp3.at_ 2 _ rfl
  have pz3 : w3.cell? ⟨w1.heap.size, 3, none⟩ = some (.int .i64 0) := Xp3.at_ 3 _ rfl
  have pz4 : w3.cell? ⟨w1.heap.size, 4, none⟩ = some (.int .i64 0) := Xp3.at_ 4 _ rfl
  have pz5 : w3.cell? ⟨w1.heap.size, 5, none⟩ = some (.bool false) := Xp3.at_ 5 _ rfl
  have pz6 : w3.cell? ⟨w1.heap.size, 6, none⟩ = some (.slice none 0 0) := Xp3.at_ 6 _ rfl
  have pz7 : w3.cell? ⟨w1.heap.size, 7, none⟩ = some (.slice none 0 0) := Xp3.at_ 7 _ rfl
  have pz8 : w3.cell? ⟨w1.heap.size, 8, none⟩ = some (.slice none 0 0) := Xp3.at_ 8 _ rfl
  have pz9 : w3.cell? ⟨w1.heap.size, 9, none⟩ = some (.slice none 0 0) := Xp3.at_ 9 _ rfl
  have pz10 : w3.cell? ⟨w1.heap.size, 10, none⟩ = some (.slice none 0 0) := Xp3.at_ 10 _ rfl
  have pz11 : w3.cell? ⟨w1.heap.size, 11, none⟩ = some (.slice none 0 0) := Xp3.at_ 11 _ rfl
  have pz12 : w3.cell? ⟨w1.heap.size, 12, none⟩ = some (.slice none 0 0) := Xp3.at_ 12 _ rfl
  have pz13 : w3.cell? ⟨w1.heap.size, 13, none⟩ = some (.slice none 0 0) := Xp3.at_ 13 _ rfl
  have pz14 : w3.cell? ⟨w1.heap.size, 14, none⟩ = some (.slice none 0 0) := Xp3.at_ 14 _ rfl
  go_wp2_with fail
  refine (fits_is _ nilS (plainR freq) start d false Rp3 FX.out).mono ?_
  rintro e w4 ⟨rfl, b4⟩
  clear pz0 pz1 pz2 pz3 pz4 pz5 pz6 pz7 pz8 pz9 pz10 pz11 pz12 pz13 pz14
  have B4 := B3.trans (b4.mono B3.size)
  have Xp4 := Xp3.below b4
  have Rp4 := Rp3.below b4
  clear B3 Xp3 Rp3
  clear b4
  have y3 : decide (1 ≤ yr d) = true := decide_eq_true y1
  go_wp2
  go_ret
  exact ⟨rfl, B4⟩
set_option maxRecDepth 100000 in
set_option maxHeartbeats 8000000 in
theorem plain_e4 (w : World) (T : Tabs w) (freq start d : Int) (l1 : -9223372036854775808 ≤ start) (u1 : start ≤ 9223372036854775807) (h1 : -719162 ≤ d) (h2 : d ≤ 2932896) (s1 : -719162 ≤ start / 86400) (s2 : start / 86400 ≤ 2932896) (hf1 : 1 ≤ freq) (hf2 : freq ≤ 7) (a1 : ¬ freq = 1) (a2 : freq = 2) (m0 : dom d = dom (start / 86400)) :
    Calls Tryz.prog 7 #[.int .i64 freq, .int .i64 start, .int .i64 d] w fun e w' => e = .returned (.bool true) ∧ Below w.heap.size w w' := by
  have TT := Lib.hid T
  clear T
  have MY := Lib.hid (show St.may start = true by rw [may_isday]; exact decide_eq_true ⟨s1, s2⟩)
  have FX := Lib.hid (show fitsB (plainR freq) start d = true by
    rw [plain_fits, show isday d = true from decide_eq_true ⟨h1, h2⟩, MY.out, show decide (1 ≤ freq ∧ freq ≤ 7) = true from decide_eq_true ⟨hf1, hf2⟩]
    show plainW freq (start / 86400) d = true
    unfold plainW
    rw [if_neg a1, if_pos a2]; exact decide_eq_true m0)
  obtain ⟨y1, y2⟩ := yr_day d h1 h2
  have t1 : decide (freq < 1) = false := decide_eq_false (by omega)
  have t2 : decide (7 < freq) = false := decide_eq_false (by omega)
  have A1 := Lib.hid a1
  clear a1
  have A2 := Lib.hid a2
  clear a2
  have M0 := Lib.hid m0
  clear m0
  show Calls Tryz.prog 7 #[.int .i64 freq, .int .i64 start, .int .i64 d] w _
  go_enter Tryz.func7, Tryz.ntmps7
  have B0 := Below.refl w.heap.size w
  go_wp2_with fail
  refine (first_is _ (TT.out.on B0)).mono ?_
  rintro e w1 ⟨rfl, b1⟩
  have B1 := B0.trans (b1.mono B0.size)
  clear B0
  clear b1
  go_upto_region 4 with fail
  have b2 := alloc_below w1 (.cells #[.int .i64 freq, .int .i64 1, .int .i64 0, .int .i64 0, .int .i64 0, .bool false, .slice none 0 0, .slice none 0 0, .slice none 0 0, .slice none 0 0, .slice none 0 0, .slice none 0 0, .slice none 0 0, .slice none 0 0, .slice none 0 0] 25)
  have Xp2 := Box.new w1 #[.int .i64 freq, .int .i64 1, .int .i64 0, .int .i64 0, .int .i64 0, .bool false, .slice none 0 0, .slice none 0 0, .slice none 0 0, .slice none 0 0, .slice none 0 0, .slice none 0 0, .slice none 0 0, .slice none 0 0, .slice none 0 0] 25
  have Rp2 := (plain_at w1 freq).below b2
  generalize hw2 : w1.alloc (.cells #[.int .i64 freq, .int .i64 1, .int .i64 0, .int .i64 0, .int .i64 0, .bool false, .slice none 0 0, .slice none 0 0, .slice none 0 0, .slice none 0 0, .slice none 0 0, .slice none 0 0, .slice none 0 0, .slice none 0 0, .slice none 0 0] 25) = w2 at *
  clear hw2
  have B2 := B1.trans (b2.mono B1.size)
  clear B1
  clear b2
  go_wp2_with fail
  refine (day_any start _ l1 u1).mono ?_
  rintro e w' ⟨rfl, rfl⟩
  go_wp2_with fail
  refine (date_yes d _ h1 h2).mono ?_
  rintro e w' ⟨rfl, rfl⟩
  go_wp2_with fail
  refine (date_yes (start / 86400) _ s1 s2).mono ?_
  rintro e w' ⟨rfl, rfl⟩
  go_wp2_with fail
  refine (may_yes start _ MY.out).mono ?_
  rintro e w' ⟨rfl, rfl⟩
  go_upto_region 9 with fail
  obtain ⟨s, hs⟩ : ∃ s, start / 86400 = s := ⟨_, rfl⟩
  rw [hs]
  clear t1 t2 hf1 hf2
  have f1 : ((freq : Int) == 1) = false := by rw [beq_eq_false_iff_ne]; exact A1.out
  have f2 : ((freq : Int) == 2) = true := by rw [beq_iff_eq]; exact A2.out
  have g0 : ((dom d : Int) == dom s) = true := by rw [beq_iff_eq]; rw [← hs]; exact M0.out
  clear hs
  go_wp2_with fail
  refine (first_is _ (TT.out.on B2)).mono ?_
  rintro e w3 ⟨rfl, b3⟩
  have B3 := B2.trans (b3.mono B2.size)
  have Xp3 := Xp2.below b3
  have Rp3 := Rp2.below b3
  clear B2 Xp2 Rp2
  clear b3
  have pz0 : w3.cell? ⟨w1.heap.size, 0, none⟩ = some (.int .i64 freq) := Xp3.at_ 0 _ rfl
  have pz1 : w3.cell? ⟨w1.heap.size, 1, none⟩ = some (.int .i64 1) := Xp3.at_ 1 _ rfl
  have pz2 : w3.cell? ⟨w1.heap.size, 2, none⟩ = some (.int .i64 0) := Xp3.at_ 2 _ rfl
  have pz3 : w3.cell? ⟨w1.heap.size, 3, none⟩ = some (.int .i64 0) := Xp3.at_ 3 _ rfl
  have pz4 : w3.cell? ⟨w1.heap.size, 4, none⟩ = some (.int .i64 0) := Xp3.at_ 4 _ rfl
  have pz5 : w3.cell? ⟨w1.heap.size, 5, none⟩ = some (.bool false) := Xp3.at_ 5 _ rfl
  have pz6 : w3.cell? ⟨w1.heap.size, 6, none⟩ = some (.slice none 0 0) := Xp3.at_ 6 _ rfl
  have pz7 : w3.cell? ⟨w1.heap.size, 7, none⟩ = some (.slice none 0 0) := Xp3.at_ 7 _ rfl
  have pz8 : w3.cell? ⟨w1.heap.size, 8, none⟩ = some (.slice none 0 0) := Xp3.at_ 8 _ rfl
  have pz9 : w3.cell? ⟨w1.heap.size, 9, none⟩ = some (.slice none 0 0) := Xp3.at_ 9 _ rfl
  have pz10 : w3.cell? ⟨w1.heap.size, 10, none⟩ = some (.slice none 0 0) := Xp3.at_ 10 _ rfl
  have pz11 : w3.cell? ⟨w1.heap.size, 11, none⟩ = some (.slice none 0 0) := Xp3.at_ 11 _ rfl
  have pz12 : w3.cell? ⟨w1.heap.size, 12, none⟩ = some (.slice none 0 0) := Xp3.at_ 12 _ rfl
  have pz13 : w3.cell? ⟨w1.heap.size, 13, none⟩ = some (.slice none 0 0) := Xp3.at_ 13 _ rfl
  have pz14 : w3.cell? ⟨w1.heap.size, 14, none⟩ = some (.slice none 0 0) := Xp3.at_ 14 _ rfl
  go_wp2_with fail
  refine (fits_is _ nilS (plainR freq) start d true Rp3 FX.out).mono ?_
  rintro e w4 ⟨rfl, b4⟩
  clear pz0 pz1 pz2 pz3 pz4 pz5 pz6 pz7 pz8 pz9 pz10 pz11 pz12 pz13 pz14
  have B4 := B3.trans (b4.mono B3.size)
  have Xp4 := Xp3.below b4
  have Rp4 := Rp3.below b4
  clear B3 Xp3 Rp3
  clear b4
  have y3 : decide (1 ≤ yr d) = true := decide_eq_true y1
  go_wp2
  go_ret
  exact ⟨rfl, B4⟩
set_option maxRecDepth 100000 in
set_option maxHeartbeats 8000000 in
theorem plain_e5 (w : World) (T : Tabs w) (freq start d : Int) (l1 : -9223372036854775808 ≤ start) (u1 : start ≤ 9223372036854775807) (h1 : -719162 ≤ d) (h2 : d ≤ 2932896) (s1 : -719162 ≤ start / 86400) (s2 : start / 86400 ≤ 2932896) (hf1 : 1 ≤ freq) (hf2 : freq ≤ 7) (a1 : ¬ freq = 1) (a2 : freq = 2) (m0 : ¬ dom d = dom (start / 86400)) :
    Calls Tryz.prog 7 #[.int .i64 freq, .int .i64 start, .int .i64 d] w fun e w' => e = .returned (.bool true) ∧ Below w.heap.size w w' := by
  have TT := Lib.hid T
  clear T
  have MY := Lib.hid (show St.may start = true by rw [may_isday]; exact decide_eq_true ⟨s1, s2⟩)
  have FX := Lib.hid (show fitsB (plainR freq) start d = false by
    rw [plain_fits, show isday d = true from decide_eq_true ⟨h1, h2⟩, MY.out, show decide (1 ≤ freq ∧ freq ≤ 7) = true from decide_eq_true ⟨hf1, hf2⟩]
    show plainW freq (start / 86400) d = false
    unfold plainW
    rw [if_neg a1, if_pos a2]; exact decide_eq_false m0)
  obtain ⟨y1, y2⟩ := yr_day d h1 h2
  have t1 : decide (freq < 1) = false := decide_eq_false (by omega)
  have t2 : decide (7 < freq) = false := decide_eq_false (by omega)
  have A1 := Lib.hid a1
  clear a1
  have A2 := Lib.hid a2
  clear a2
  have M0 := Lib.hid m0
  clear m0
  show Calls Tryz.prog 7 #[.int .i64 freq, .int .i64 start, .int .i64 d] w _
  go_enter Tryz.func7, Tryz.ntmps7
  have B0 := Below.refl w.heap.size w
  go_wp2_with fail
  refine (first_is _ (TT.out.on B0)).mono ?_
  rintro e w1 ⟨rfl, b1⟩
  have B1 := B0.trans (b1.mono B0.size)
  clear B0
  clear b1
  go_upto_region 4 with fail
  have b2 := alloc_below w1 (.cells #[.int .i64 freq, .int .i64 1, .int .i64 0, .int .i64 0, .int .i64 0, .bool false, .slice none 0 0, .slice none 0 0, .slice none 0 0, .slice none 0 0, .slice none 0 0, .slice none 0 0, .slice none 0 0, .slice none 0 0, .slice none 0 0] 25)
  have Xp2 := Box.new w1 #[.int .i64 freq, .int .i64 1, .int .i64 0, .int .i64 0, .int .i64 0, .bool false, .slice none 0 0, .slice none 0 0, .slice none 0 0, .slice none 0 0, .slice none 0 0, .slice none 0 0, .slice none 0 0, .slice none 0 0, .slice none 0 0] 25
  have Rp2 := (plain_at w1 freq).below b2
  generalize hw2 : w1.alloc (.cells #[.int .i64 freq, .int .i64 1, .int .i64 0, .int .i64 0, .int .i64 0, .bool false, .slice none 0 0, .slice none 0 0, .slice none 0 0, .slice none 0 0, .slice none 0 0, .slice none 0 0, .slice none 0 0, .slice none 0 0, .slice none 0 0] 25) = w2 at *
  clear hw2
  have B2 := B1.trans (b2.mono B1.size)
  clear B1
  clear b2
  go_wp2_with fail
  refine (day_any start _ l1 u1).mono ?_
  rintro e w' ⟨rfl, rfl⟩
  go_wp2_with fail
  refine (date_yes d _ h1 h2).mono ?_
  rintro e w' ⟨rfl, rfl⟩
  go_wp2_with fail
  refine (date_yes (start / 86400) _ s1 s2).mono ?_
  rintro e w' ⟨rfl, rfl⟩
  go_wp2_with fail
  refine (may_yes start _ MY.out).mono ?_
  rintro e w' ⟨rfl, rfl⟩
  go_upto_region 9 with fail
  obtain ⟨s, hs⟩ : ∃ s, start / 86400 = s := ⟨_, rfl⟩
  rw [hs]
  clear t1 t2 hf1 hf2
  have f1 : ((freq : Int) == 1) = false := by rw [beq_eq_false_iff_ne]; exact A1.out
  have f2 : ((freq : Int) == 2) = true := by rw [beq_iff_eq]; exact A2.out
  have g0 : ((dom d : Int) == dom s) = false := by rw [beq_eq_false_iff_ne]; rw [← hs]; exact M0.out
  clear hs
  go_wp2_with fail
  refine (first_is _ (TT.out.on B2)).mono ?_
  rintro e w3 ⟨rfl, b3⟩
  have B3 := B2.trans (b3.mono B2.size)
  have Xp3 := Xp2.below b3
  have Rp3 := Rp2.below b3
  clear B2 Xp2 Rp2
  clear b3
  have pz0 : w3.cell? ⟨w1.heap.size, 0, none⟩ = some (.int .i64 freq) := Xp3.at_ 0 _ rfl
  have pz1 : w3.cell? ⟨w1.heap.size, 1, none⟩ = some (.int .i64 1) := Xp3.at_ 1 _ rfl
  have pz2 : w3.cell? ⟨w1.heap.size, 2, none⟩ = some (.int .i64 0) := Xp3.at_ 2 _ rfl
  have pz3 : w3.cell? ⟨w1.heap.size, 3, none⟩ = some (.int .i64 0) := Xp3.at_ 3 _ rfl
  have pz4 : w3.cell? ⟨w1.heap.size, 4, none⟩ = some (.int .i64 0) := Xp3.at_ 4 _ rfl
  have pz5 : w3.cell? ⟨w1.heap.size, 5, none⟩ = some (.bool false) := Xp3.at_ 5 _ rfl
  have pz6 : w3.cell? ⟨w1.heap.size, 6, none⟩ = some (.slice none 0 0) := Xp3.at_ 6 _ rfl
  have pz7 : w3.cell? ⟨w1.heap.size, 7, none⟩ = some (.slice none 0 0) := Xp3.at_ 7 _ rfl
  have pz8 : w3.cell? ⟨w1.heap.size, 8, none⟩ = some (.slice none 0 0) := Xp3.at_ 8 _ rfl
  have pz9 : w3.cell? ⟨w1.heap.size, 9, none⟩ = some (.slice none 0 0) := Xp3.at_ 9 _ rfl
  have pz10 : w3.cell? ⟨w1.heap.size, 10, none⟩ = some (.slice none 0 0) := Xp3.at_ 10 _ rfl
  have pz11 : w3.cell? ⟨w1.heap.size, 11, none⟩ = some (.slice none 0 0) := Xp3.at_ 11 _ rfl
  have pz12 : w3.cell? ⟨w1.heap.size, 12, none⟩ = some (.slice none 0 0) := Xp3.at_ 12 _ rfl
  have pz13 : w3.cell? ⟨w1.heap.size, 13, none⟩ = some (.slice none 0 0) := Xp3.at_ 13 _ rfl
  have pz14 : w3.cell? ⟨w1.heap.size, 14, none⟩ = some (.slice none 0 0) := Xp3.at_ 14 _ rfl
  go_wp2_with fail
  refine (fits_is _ nilS (plainR freq) start d false Rp3 FX.out).mono ?_
  rintro e w4 ⟨rfl, b4⟩
  clear pz0 pz1 pz2 pz3 pz4 pz5 pz6 pz7 pz8 pz9 pz10 pz11 pz12 pz13 pz14
  have B4 := B3.trans (b4.mono B3.size)
  have Xp4 := Xp3.below b4
  have Rp4 := Rp3.below b4
  clear B3 Xp3 Rp3
  clear b4
  have y3 : decide (1 ≤ yr d) = true := decide_eq_true y1
  go_wp2
  go_ret
  exact ⟨rfl, B4⟩
set_option maxRecDepth 100000 in
set_option maxHeartbeats 8000000 in
theorem plain_e6 (w : World) (T : Tabs w) (freq start d : Int) (l1 : -9223372036854775808 ≤ start) (u1 : start ≤ 9223372036854775807) (h1 : -719162 ≤ d) (h2 : d ≤ 2932896) (s1 : -719162 ≤ start / 86400) (s2 : start / 86400 ≤ 2932896) (hf1 : 1 ≤ freq) (hf2 : freq ≤ 7) (a1 : ¬ freq = 1) (a2 : ¬ freq = 2) (a3 : freq = 3) (m0 : wd d = wd (start / 86400)) :
    Calls Tryz.prog 7 #[.int .i64 freq, .int .i64 start, .int .i64 d] w fun e w' => e = .returned (.bool true) ∧ Below w.heap.size w w' := by
  have TT := Lib.hid T
  clear T
  have MY := Lib.hid (show St.may start = true by rw [may_isday]; exact decide_eq_true ⟨s1, s2⟩)
  have FX := Lib.hid (show fitsB (plainR freq) start d = true by
    rw [plain_fits, show isday d = true from decide_eq_true ⟨h1, h2⟩, MY.out, show decide (1 ≤ freq ∧ freq ≤ 7) = true from decide_eq_true ⟨hf1, hf2⟩]
    show plainW freq (start / 86400) d = true
    unfold plainW
    rw [if_neg a1, if_neg a2, if_pos a3]; exact decide_eq_true m0)
  obtain ⟨y1, y2⟩ := yr_day d h1 h2
  have t1 : decide (freq < 1) = false := decide_eq_false (by omega)
  have t2 : decide (7 < freq) = false := decide_eq_false (by omega)
  have A1 := Lib.hid a1
  clear a1
  have A2 := Lib.hid a2
  clear a2
  have A3 := Lib.hid a3
  clear a3
  have M0 := Lib.hid m0
  clear m0
  show Calls Tryz.prog 7 #[.int .i64 freq, .int .i64 start, .int .i64 d] w _
  go_enter Tryz.func7, Tryz.ntmps7
  have B0 := Below.refl w.heap.size w
  go_wp2_with fail
  refine (first_is _ (TT.out.on B0)).mono ?_
  rintro e w1 ⟨rfl, b1⟩
  have B1 := B0.trans (b1.mono B0.size)
  clear B0
  clear b1
  go_upto_region 4 with fail
  have b2 := alloc_below w1 (.cells #[.int .i64 freq, .int .i64 1, .int .i64 0, .int .i64 0, .int .i64 0, .bool false, .slice none 0 0, .slice none 0 0, .slice none 0 0, .slice none 0 0, .slice none 0 0, .slice none 0 0, .slice none 0 0, .slice none 0 0, .slice none 0 0] 25)
  have Xp2 := Box.new w1 #[.int .i64 freq, .int .i64 1, .int .i64 0, .int .i64 0, .int .i64 0, .bool false, .slice none 0 0, .slice none 0 0, .slice none 0 0, .slice none 0 0, .slice none 0 0, .slice none 0 0, .slice none 0 0, .slice none 0 0, .slice none 0 0] 25
  have Rp2 := (plain_at w1 freq).below b2
  generalize hw2 : w1.alloc (.cells #[.int .i64 freq, .int .i64 1, .int .i64 0, .int .i64 0, .int .i64 0, .bool false, .slice none 0 0, .slice none 0 0, .slice none 0 0, .slice none 0 0, .slice none 0 0, .slice none 0 0, .slice none 0 0, .slice none 0 0, .slice none 0 0] 25) = w2 at *
  clear hw2
  have B2 := B1.trans (b2.mono B1.size)
  clear B1
  clear b2
  go_wp2_with fail
  refine (day_any start _ l1 u1).mono ?_
  rintro e w' ⟨rfl, rfl⟩
  go_wp2_with fail
  refine (date_yes d _ h1 h2).mono ?_
  rintro e w' ⟨rfl, rfl⟩
  go_wp2_with fail
  refine (date_yes (start / 86400) _ s1 s2).mono ?_
  rintro e w' ⟨rfl, rfl⟩
  go_wp2_with fail
  refine (may_yes start _ MY.out).mono ?_
  rintro e w' ⟨rfl, rfl⟩
  go_upto_region 9 with fail
  obtain ⟨s, hs⟩ : ∃ s, start / 86400 = s := ⟨_, rfl⟩
  rw [hs]
  clear t1 t2 hf1 hf2
  have f1 : ((freq : Int) == 1) = false := by rw [beq_eq_false_iff_ne]; exact A1.out
  have f2 : ((freq : Int) == 2) = false := by rw [beq_eq_false_iff_ne]; exact A2.out
  have f3 : ((freq : Int) == 3) = true := by rw [beq_iff_eq]; exact A3.out
  have g0 : ((wd d : Int) == wd s) = true := by rw [beq_iff_eq]; rw [← hs]; exact M0.out
  clear hs
  go_wp2_with fail
  refine (weekday_any d _).mono ?_
  rintro e w' ⟨rfl, rfl⟩
  go_wp2_with fail
  refine (weekday_any s _).mono ?_
  rintro e w' ⟨rfl, rfl⟩
  go_wp2_with fail
  refine (first_is _ (TT.out.on B2)).mono ?_
  rintro e w3 ⟨rfl, b3⟩
  have B3 := B2.trans (b3.mono B2.size)
  have Xp3 := Xp2.below b3
  have Rp3 := Rp2.below b3
  clear B2 Xp2 Rp2
  clear b3
  have pz0 : w3.cell? ⟨w1.heap.size, 0, none⟩ = some (.int .i64 freq) := Xp3.at_ 0 _ rfl
  have pz1 : w3.cell? ⟨w1.heap.size, 1, none⟩ = some (.int .i64 1) := Xp3.at_ 1 _ rfl
  have pz2 : w3.cell? ⟨w1.heap.size, 2, none⟩ = some (.int .i64 0) := Xp3.at_ 2 _ rfl
  have pz3 : w3.cell? ⟨w1.heap.size, 3, none⟩ = some (.int .i64 0) := Xp3.at_ 3 _ rfl
  have pz4 : w3.cell? ⟨w1.heap.size, 4, none⟩ = some (.int .i64 0) := Xp3.at_ 4 _ rfl
  have pz5 : w3.cell? ⟨w1.heap.size, 5, none⟩ = some (.bool false) := Xp3.at_ 5 _ rfl
  have pz6 : w3.cell? ⟨w1.heap.size, 6, none⟩ = some (.slice none 0 0) := Xp3.at_ 6 _ rfl
  have pz7 : w3.cell? ⟨w1.heap.size, 7, none⟩ = some (.slice none 0 0) := Xp3.at_ 7 _ rfl
  have pz8 : w3.cell? ⟨w1.heap.size, 8, none⟩ = some (.slice none 0 0) := Xp3.at_ 8 _ rfl
  have pz9 : w3.cell? ⟨w1.heap.size, 9, none⟩ = some (.slice none 0 0) := Xp3.at_ 9 _ rfl
  have pz10 : w3.cell? ⟨w1.heap.size, 10, none⟩ = some (.slice none 0 0) := Xp3.at_ 10 _ rfl
  have pz11 : w3.cell? ⟨w1.heap.size, 11, none⟩ = some (.slice none 0 0) := Xp3.at_ 11 _ rfl
  have pz12 : w3.cell? ⟨w1.heap.size, 12, none⟩ = some (.slice none 0 0) := Xp3.at_ 12 _ rfl
  have pz13 : w3.cell? ⟨w1.heap.size, 13, none⟩ = some (.slice none 0 0) := Xp3.at_ 13 _ rfl
  have pz14 : w3.cell? ⟨w1.heap.size, 14, none⟩ = some (.slice none 0 0) := Xp3.at_ 14 _ rfl
  go_wp2_with fail
  refine (fits_is _ nilS (plainR freq) start d true Rp3 FX.out).mono ?_
  rintro e w4 ⟨rfl, b4⟩
  clear pz0 pz1 pz2 pz3 pz4 pz5 pz6 pz7 pz8 pz9 pz10 pz11 pz12 pz13 pz14
  have B4 := B3.trans (b4.mono B3.size)
  have Xp4 := Xp3.below b4
  have Rp4 := Rp3.below b4
  clear B3 Xp3 Rp3
  clear b4
  have y3 : decide (1 ≤ yr d) = true := decide_eq_true y1
  go_wp2
  go_ret
  exact ⟨rfl, B4⟩
set_option maxRecDepth 100000 in
set_option maxHeartbeats 8000000 in
theorem plain_e7 (w : World) (T : Tabs w) (freq start d : Int) (l1 : -9223372036854775808 ≤ start) (u1 : start ≤ 9223372036854775807) (h1 : -719162 ≤ d) (h2 : d ≤ 2932896) (s1 : -719162 ≤ start / 86400) (s2 : start / 86400 ≤ 2932896) (hf1 : 1 ≤ freq) (hf2 : freq ≤ 7) (a1 : ¬ freq = 1) (a2 : ¬ freq = 2) (a3 : freq = 3) (m0 : ¬ wd d = wd (start / 86400)) :
    Calls Tryz.prog 7 #[.int .i64 freq, .int .i64 start, .int .i64 d] w fun e w' => e = .returned (.bool true) ∧ Below w.heap.size w w' := by
  have TT := Lib.hid T
  clear T
  have MY := Lib.hid (show St.may start = true by rw [may_isday]; exact decide_eq_true ⟨s1, s2⟩)
  have FX := Lib.hid (show fitsB (plainR freq) start d = false by
    rw [plain_fits, show isday d = true from decide_eq_true ⟨h1, h2⟩, MY.out, show decide (1 ≤ freq ∧ freq ≤ 7) = true from decide_eq_true ⟨hf1, hf2⟩]
    show plainW freq (start / 86400) d = false
    unfold plainW
    rw [if_neg a1, if_neg a2, if_pos a3]; exact decide_eq_false m0)
  obtain ⟨y1, y2⟩ := yr_day d h1 h2
  have t1 : decide (freq < 1) = false := decide_eq_false (by omega)
  have t2 : decide (7 < freq) = false := decide_eq_false (by omega)
  have A1 := Lib.hid a1
  clear a1
  have A2 := Lib.hid a2
  clear a2
  have A3 := Lib.hid a3
  clear a3
  have M0 := Lib.hid m0
  clear m0
  show Calls Tryz.prog 7 #[.int .i64 freq, .int .i64 start, .int .i64 d] w _
  go_enter Tryz.func7, Tryz.ntmps7
  have B0 := Below.refl w.heap.size w
  go_wp2_with fail
  refine (first_is _ (TT.out.on B0)).mono ?_
  rintro e w1 ⟨rfl, b1⟩
  have B1 := B0.trans (b1.mono B0.size)
  clear B0
  clear b1
  go_upto_region 4 with fail
  have b2 := alloc_below w1 (.cells #[.int .i64 freq, .int .i64 1, .int .i64 0, .int .i64 0, .int .i64 0, .bool false, .slice none 0 0, .slice none 0 0, .slice none 0 0, .slice none 0 0, .slice none 0 0, .slice none 0 0, .slice none 0 0, .slice none 0 0, .slice none 0 0] 25)
  have Xp2 := Box.new w1 #[.int .i64 freq, .int .i64 1, .int .i64 0, .int .i64 0, .int .i64 0, .bool false, .slice none 0 0, .slice none 0 0, .slice none 0 0, .slice none 0 0, .slice none 0 0, .slice none 0 0, .slice none 0 0, .slice none 0 0, .slice none 0 0] 25
  have Rp2 := (plain_at w1 freq).below b2
  generalize hw2 : w1.alloc (.cells #[.int .i64 freq, .int .i64 1, .int .i64 0, .int .i64 0, .int .i64 0, .bool false, .slice none 0 0, .slice none 0 0, .slice none 0 0, .slice none 0 0, .slice none 0 0, .slice none 0 0, .slice none 0 0, .slice none 0 0, .slice none 0 0] 25) = w2 at *
  clear hw2
  have B2 := B1.trans (b2.mono B1.size)
  clear B1
  clear b2
  go_wp2_with fail
  refine (day_any start _ l1 u1).mono ?_
  rintro e w' ⟨rfl, rfl⟩
  go_wp2_with fail
  refine (date_yes d _ h1 h2).mono ?_
  rintro e w' ⟨rfl, rfl⟩
  go_wp2_with fail
  refine (date_yes (start / 86400) _ s1 s2).mono ?_
  rintro e w' ⟨rfl, rfl⟩
  go_wp2_with fail
  refine (may_yes start _ MY.out).mono ?_
  rintro e w' ⟨rfl, rfl⟩
  go_upto_region 9 with fail
  obtain ⟨s, hs⟩ : ∃ s, start / 86400 = s := ⟨_, rfl⟩
  rw [hs]
  clear t1 t2 hf1 hf2
  have f1 : ((freq : Int) == 1) = false := by rw [beq_eq_false_iff_ne]; exact A1.out
  have f2 : ((freq : Int) == 2) = false := by rw [beq_eq_false_iff_ne]; exact A2.out
  have f3 : ((freq : Int) == 3) = true := by rw [beq_iff_eq]; exact A3.out
  have g0 : ((wd d : Int) == wd s) = false := by rw [beq_eq_false_iff_ne]; rw [← hs]; exact M0.out
  clear hs
  go_wp2_with fail
  refine (weekday_any d _).mono ?_
  rintro e w' ⟨rfl, rfl⟩
  go_wp2_with fail
  refine (weekday_any s _).mono ?_
  rintro e w' ⟨rfl, rfl⟩
  go_wp2_with fail
  refine (first_is _ (TT.out.on B2)).mono ?_
  rintro e w3 ⟨rfl, b3⟩
  have B3 := B2.trans (b3.mono B2.size)
  have Xp3 := Xp2.below b3
  have Rp3 := Rp2.below b3
  clear B2 Xp2 Rp2
  clear b3
  have pz0 : w3.cell? ⟨w1.heap.size, 0, none⟩ = some (.int .i64 freq) := Xp3.at_ 0 _ rfl
  have pz1 : w3.cell? ⟨w1.heap.size, 1, none⟩ = some (.int .i64 1) := Xp3.at_ 1 _ rfl
  have pz2 : w3.cell? ⟨w1.heap.size, 2, none⟩ = some (.int .i64 0) := Xp3.at_ 2 _ rfl
  have pz3 : w3.cell? ⟨w1.heap.size, 3, none⟩ = some (.int .i64 0) := Xp3.at_ 3 _ rfl
  have pz4 : w3.cell? ⟨w1.heap.size, 4, none⟩ = some (.int .i64 0) := Xp3.at_ 4 _ rfl
  have pz5 : w3.cell? ⟨w1.heap.size, 5, none⟩ = some (.bool false) := Xp3.at_ 5 _ rfl
  have pz6 : w3.cell? ⟨w1.heap.size, 6, none⟩ = some (.slice none 0 0) := Xp3.at_ 6 _ rfl
  have pz7 : w3.cell? ⟨w1.heap.size, 7, none⟩ = some (.slice none 0 0) := Xp3.at_ 7 _ rfl
  have pz8 : w3.cell? ⟨w1.heap.size, 8, none⟩ = some (.slice none 0 0) := Xp3.at_ 8 _ rfl
  have pz9 : w3.cell? ⟨w1.heap.size, 9, none⟩ = some (.slice none 0 0) := Xp3.at_ 9 _ rfl
  have pz10 : w3.cell? ⟨w1.heap.size, 10, none⟩ = some (.slice none 0 0) := Xp3.at_ 10 _ rfl
  have pz11 : w3.cell? ⟨w1.heap.size, 11, none⟩ = some (.slice none 0 0) := Xp3.at_ 11 _ rfl
  have pz12 : w3.cell? ⟨w1.heap.size, 12, none⟩ = some (.slice none 0 0) := Xp3.at_ 12 _ rfl
  have pz13 : w3.cell? ⟨w1.heap.size, 13, none⟩ = some (.slice none 0 0) := Xp3.at_ 13 _ rfl
  have pz14 : w3.cell? ⟨w1.heap.size, 14, none⟩ = some (.slice none 0 0) := Xp3.at_ 14 _ rfl
  go_wp2_with fail
  refine (fits_is _ nilS (plainR freq) start d false Rp3 FX.out).mono ?_
  rintro e w4 ⟨rfl, b4⟩
  clear pz0 pz1 pz2 pz3 pz4 pz5 pz6 pz7 pz8 pz9 pz10 pz11 pz12 pz13 pz14
  have B4 := B3.trans (b4.mono B3.size)
  have Xp4 := Xp3.below b4
  have Rp4 := Rp3.below b4
  clear B3 Xp3 Rp3
  clear b4
  have y3 : decide (1 ≤ yr d) = true := decide_eq_true y1
  go_wp2
  go_ret
  exact ⟨rfl, B4⟩
set_option maxRecDepth 100000 in
set_option maxHeartbeats 8000000 in
theorem plain_e8 (w : World) (T : Tabs w) (freq start d : Int) (l1 : -9223372036854775808 ≤ start) (u1 : start ≤ 9223372036854775807) (h1 : -719162 ≤ d) (h2 : d ≤ 2932896) (s1 : -719162 ≤ start / 86400) (s2 : start / 86400 ≤ 2932896) (hf1 : 1 ≤ freq) (hf2 : freq ≤ 7) (a1 : ¬ freq = 1) (a2 : ¬ freq = 2) (a3 : ¬ freq = 3) :
    Calls Tryz.prog 7 #[.int .i64 freq, .int .i64 start, .int .i64 d] w fun e w' => e = .returned (.bool true) ∧ Below w.heap.size w w' := by
  have TT := Lib.hid T
  clear T
  have MY := Lib.hid (show St.may start = true by rw [may_isday]; exact decide_eq_true ⟨s1, s2⟩)
  have FX := Lib.hid (show fitsB (plainR freq) start d = true by
    rw [plain_fits, show isday d = true from decide_eq_true ⟨h1, h2⟩, MY.out, show decide (1 ≤ freq ∧ freq ≤ 7) = true from decide_eq_true ⟨hf1, hf2⟩]
    show plainW freq (start / 86400) d = true
    unfold plainW
    rw [if_neg a1, if_neg a2, if_neg a3])
  obtain ⟨y1, y2⟩ := yr_day d h1 h2
  have t1 : decide (freq < 1) = false := decide_eq_false (by omega)
  have t2 : decide (7 < freq) = false := decide_eq_false (by omega)
  have A1 := Lib.hid a1
  clear a1
  have A2 := Lib.hid a2
  clear a2
  have A3 := Lib.hid a3
  clear a3
  show Calls Tryz.prog 7 #[.int .i64 freq, .int .i64 start, .int .i64 d] w _
  go_enter Tryz.func7, Tryz.ntmps7
  have B0 := Below.refl w.heap.size w
  go_wp2_with fail
  refine (first_is _ (TT.out.on B0)).mono ?_
  rintro e w1 ⟨rfl, b1⟩
  have B1 := B0.trans (b1.mono B0.size)
  clear B0
  clear b1
  go_upto_region 4 with fail
  have b2 := alloc_below w1 (.cells #[.int .i64 freq, .int .i64 1, .int .i64 0, .int .i64 0, .int .i64 0, .bool false, .slice none 0 0, .slice none 0 0, .slice none 0 0, .slice none 0 0, .slice none 0 0, .slice none 0 0, .slice none 0 0, .slice none 0 0, .slice none 0 0] 25)
  have Xp2 := Box.new w1 #[.int .i64 freq, .int .i64 1, .int .i64 0, .int .i64 0, .int .i64 0, .bool false, .slice none 0 0, .slice none 0 0, .slice none 0 0, .slice none 0 0, .slice none 0 0, .slice none 0 0, .slice none 0 0, .slice none 0 0, .slice none 0 0] 25
  have Rp2 := (plain_at w1 freq).below b2
  generalize hw2 : w1.alloc (.cells #[.int .i64 freq, .int .i64 1, .int .i64 0, .int .i64 0, .int .i64 0, .bool false, .slice none 0 0, .slice none 0 0, .slice none 0 0, .slice none 0 0, .slice none 0 0, .slice none 0 0, .slice none 0 0, .slice none 0 0, .slice none 0 0] 25) = w2 at *
  clear hw2
  have B2 := B1.trans (b2.mono B1.size)
  clear B1
  clear b2
  go_wp2_with fail
  refine (day_any start _ l1 u1).mono ?_
  rintro e w' ⟨rfl, rfl⟩
  go_wp2_with fail
  refine (date_yes d _ h1 h2).mono ?_
  rintro e w' ⟨rfl, rfl⟩
  go_wp2_with fail
  refine (date_yes (start / 86400) _ s1 s2).mono ?_
  rintro e w' ⟨rfl, rfl⟩
  go_wp2_with fail
  refine (may_yes start _ MY.out).mono ?_
  rintro e w' ⟨rfl, rfl⟩
  go_upto_region 9 with fail
  obtain ⟨s, hs⟩ : ∃ s, start / 86400 = s := ⟨_, rfl⟩
  rw [hs]
  clear t1 t2 hf1 hf2
  have f1 : ((freq : Int) == 1) = false := by rw [beq_eq_false_iff_ne]; exact A1.out
  have f2 : ((freq : Int) == 2) = false := by rw [beq_eq_false_iff_ne]; exact A2.out
  have f3 : ((freq : Int) == 3) = false := by rw [beq_eq_false_iff_ne]; exact A3.out
  clear hs
  go_wp2_with fail
  refine (first_is _ (TT.out.on B2)).mono ?_
  rintro e w3 ⟨rfl, b3⟩
  have B3 := B2.trans (b3.mono B2.size)
  have Xp3 := Xp2.below b3
  have Rp3 := Rp2.below b3
  clear B2 Xp2 Rp2
  clear b3
  have pz0 : w3.cell? ⟨w1.heap.size, 0, none⟩ = some (.int .i64 freq) := Xp3.at_ 0 _ rfl
  have pz1 : w3.cell? ⟨w1.heap.size, 1, none⟩ = some (.int .i64 1) := Xp3.at_ 1 _ rfl
  have pz2 : w3.cell? ⟨w1.heap.size, 2, none⟩ = some (.int .i64 0) := Xp3.at_ 2 _ rfl
  have pz3 : w3.cell? ⟨w1.heap.size, 3, none⟩ = some (.int .i64 0) := Xp3.at_ 3 _ rfl
  have pz4 : w3.cell? ⟨w1.heap.size, 4, none⟩ = some (.int .i64 0) := Xp3.at_ 4 _ rfl
  have pz5 : w3.cell? ⟨w1.heap.size, 5, none⟩ = some (.bool false) := Xp3.at_ 5 _ rfl
  have pz6 : w3.cell? ⟨w1.heap.size, 6, none⟩ = some (.slice none 0 0) := Xp3.at_ 6 _ rfl
  have pz7 : w3.cell? ⟨w1.heap.size, 7, none⟩ = some (.slice none 0 0) := Xp3.at_ 7 _ rfl
  have pz8 : w3.cell? ⟨w1.heap.size, 8, none⟩ = some (.slice none 0 0) := Xp3.at_ 8 _ rfl
  have pz9 : w3.cell? ⟨w1.heap.size, 9, none⟩ = some (.slice none 0 0) := Xp3.at_ 9 _ rfl
  have pz10 : w3.cell? ⟨w1.heap.size, 10, none⟩ = some (.slice none 0 0) := Xp3.at_ 10 _ rfl
  have pz11 : w3.cell? ⟨w1.heap.size, 11, none⟩ = some (.slice none 0 0) := Xp3.at_ 11 _ rfl
  have pz12 : w3.cell? ⟨w1.heap.size, 12, none⟩ = some (.slice none 0 0) := Xp3.at_ 12 _ rfl
  have pz13 : w3.cell? ⟨w1.heap.size, 13, none⟩ = some (.slice none 0 0) := Xp3.at_ 13 _ rfl
  have pz14 : w3.cell? ⟨w1.heap.size, 14, none⟩ = some (.slice none 0 0) := Xp3.at_ 14 _ rfl
  go_wp2_with fail
  refine (fits_is _ nilS (plainR freq) start d true Rp3 FX.out).mono ?_
  rintro e w4 ⟨rfl, b4⟩
  clear pz0 pz1 pz2 pz3 pz4 pz5 pz6 pz7 pz8 pz9 pz10 pz11 pz12 pz13 pz14
  have B4 := B3.trans (b4.mono B3.size)
  have Xp4 := Xp3.below b4
  have Rp4 := Rp3.below b4
  clear B3 Xp3 Rp3
  clear b4
  have y3 : decide (1 ≤ yr d) = true := decide_eq_true y1
  go_wp2
  go_ret
  exact ⟨rfl, B4⟩
theorem plain_walk (w : World) (T : Tabs w) (freq start d : Int) (l1 : -9223372036854775808 ≤ start) (u1 : start ≤ 9223372036854775807) :
    Calls Tryz.prog 7 #[.int .i64 freq, .int .i64 start, .int .i64 d] w fun e w' => e = .returned (.bool true) ∧ Below w.heap.size w w' := by
  by_cases hd : -719162 ≤ d ∧ d ≤ 2932896
  · by_cases hs : -719162 ≤ start / 86400 ∧ start / 86400 ≤ 2932896
    · by_cases f1 : freq < 1
      · exact plain_c w T freq start d l1 u1 hd.1 hd.2 hs.1 hs.2 f1
      · by_cases f2 : 7 < freq
        · exact plain_d w T freq start d l1 u1 hd.1 hd.2 hs.1 hs.2 f2
        · have hf1 : 1 ≤ freq := by omega
          have hf2 : freq ≤ 7 := by omega
          by_cases a1 : freq = 1
          · by_cases m0 : Cv.mon d = Cv.mon (start / 86400)
            · by_cases m1 : dom d = dom (start / 86400)
              · exact plain_e1 w T freq start d l1 u1 hd.1 hd.2 hs.1 hs.2 hf1 hf2 a1 m0 m1
              · exact plain_e2 w T freq start d l1 u1 hd.1 hd.2 hs.1 hs.2 hf1 hf2 a1 m0 m1
            · exact plain_e3 w T freq start d l1 u1 hd.1 hd.2 hs.1 hs.2 hf1 hf2 a1 m0
          · by_cases a2 : freq = 2
            · by_cases m0 : dom d = dom (start / 86400)
              · exact plain_e4 w T freq start d l1 u1 hd.1 hd.2 hs.1 hs.2 hf1 hf2 a1 a2 m0
              · exact plain_e5 w T freq start d l1 u1 hd.1 hd.2 hs.1 hs.2 hf1 hf2 a1 a2 m0
            · by_cases a3 : freq = 3
              · by_cases m0 : wd d = wd (start / 86400)
                · exact plain_e6 w T freq start d l1 u1 hd.1 hd.2 hs.1 hs.2 hf1 hf2 a1 a2 a3 m0
                · exact plain_e7 w T freq start d l1 u1 hd.1 hd.2 hs.1 hs.2 hf1 hf2 a1 a2 a3 m0
              · exact plain_e8 w T freq start d l1 u1 hd.1 hd.2 hs.1 hs.2 hf1 hf2 a1 a2 a3
    · exact plain_b w T freq start d l1 u1 hd.1 hd.2 hs
  · exact plain_a w T freq start d l1 u1 hd
end Go.Proofs.YtkkmhjplfpdhcaaGreatDoor.Dd
