/- DaysWeeks answers true. -/
import Derived.Test.YtkkmhjplfpdhcaaGreatDoorDyFirst
set_option linter.unusedVariables false
namespace Go.Proofs.YtkkmhjplfpdhcaaGreatDoor.Dd
open Go.RowKit Cv St Ru

def eachC : Array Value := #[.int .i64 0, .int .i64 0, .int .i64 0, .int .i64 1, .int .i64 0, .int .i64 2, .int .i64 0, .int .i64 3, .int .i64 0, .int .i64 4, .int .i64 0, .int .i64 5, .int .i64 0, .int .i64 6]
theorem each_at (w : World) : DyAt (w.alloc (.cells eachC 48)) (some ⟨w.heap.size, 0, none⟩) 7 eachD :=
  ⟨rfl, fun _ => ⟨w.heap.size, 0, rfl, by simp, fun j hj => by
    have : j = 0 ∨ j = 1 ∨ j = 2 ∨ j = 3 ∨ j = 4 ∨ j = 5 ∨ j = 6 := by omega
    rcases this with rfl | rfl | rfl | rfl | rfl | rfl | rfl <;> exact ⟨by simp [go_sem, eachC, dat, eachD], by simp [go_sem, eachC, dat, eachD]⟩⟩⟩
theorem one_at (w : World) (x : Int) : IsAt (w.alloc (.cells #[.int .i64 x] 3)) (some ⟨w.heap.size, 0, none⟩) 1 [x] :=
  ⟨rfl, fun _ => ⟨w.heap.size, 0, rfl, by simp, fun j hj => by
    obtain rfl : j = 0 := by omega
    simp [go_sem, iat]⟩⟩
def wkS (gd g : Nat) : RS := ⟨none, 0, 0, some ⟨g, 0, none⟩, 1, 1, none, 0, 0, none, 0, 0, some ⟨gd, 0, none⟩, 7, 7, none, 0, 0, none, 0, 0, none, 0, 0, none, 0, 0⟩
theorem wkR_at {w : World} {gd g : Nat} {k x : Int} (hd : DyAt w (some ⟨gd, 0, none⟩) 7 eachD) (hi : IsAt w (some ⟨g, 0, none⟩) 1 [x]) : RuAt w (wkS gd g) (wkR k x) :=
  ⟨IsAt.nil _ _, hi, IsAt.nil _ _, IsAt.nil _ _, hd, IsAt.nil _ _, IsAt.nil _ _, IsAt.nil _ _, IsAt.nil _ _, Nat.zero_le _, show (1 : Nat) ≤ 140737488355328 by decide, Nat.zero_le _, Nat.zero_le _, show (7 : Nat) ≤ 140737488355328 by decide, Nat.zero_le _, Nat.zero_le _, Nat.zero_le _, Nat.zero_le _⟩

set_option maxRecDepth 100000 in
set_option maxHeartbeats 8000000 in
theorem weeks_a (w : World) (T : Tabs w) (start d k : Int) (h : ¬ (-719162 ≤ d ∧ d ≤ 2932896 ∧ 0 ≤ k ∧ k ≤ 6)) :
    Calls Tryz.prog 9 #[.int .i64 start, .int .i64 d, .int .i64 k] w fun e w' => e = .returned (.bool true) ∧ Below w.heap.size w w' := by
  have TT := Lib.hid T
  clear T
  have H := Lib.hid h
  have Z := Lib.hid (show ¬ (1 ≤ (0 : Int) ∧ (0 : Int) ≤ 9999 ∧ 0 ≤ k ∧ k ≤ 6) from fun g => by omega)
  clear h
  show Calls Tryz.prog 9 #[.int .i64 start, .int .i64 d, .int .i64 k] w _
  go_enter Tryz.func9, Tryz.ntmps9
  have B0 := Below.refl w.heap.size w
  go_wp2_with fail
  refine (first_is _ (TT.out.on B0)).mono ?_
  rintro e w1 ⟨rfl, b1⟩
  have B1 := B0.trans (b1.mono B0.size)
  clear B0
  clear b1
  go_wp2_with fail
  refine (week_no d k _ H.out).mono ?_
  rintro e w' ⟨rfl, rfl⟩
  go_wp2_with fail
  refine (weeks_no 0 k _ Z.out).mono ?_
  rintro e w' ⟨rfl, rfl⟩
  go_wp2_with fail
  refine (first_is _ (TT.out.on B1)).mono ?_
  rintro e w2 ⟨rfl, b2⟩
  have B2 := B1.trans (b2.mono B1.size)
  clear B1
  clear b2
  go_wp2
  go_ret
  exact ⟨rfl, B2⟩
set_option maxRecDepth 100000 in
set_option maxHeartbeats 8000000 in
theorem weeks_b (w : World) (T : Tabs w) (start d k : Int) (h1 : -719162 ≤ d) (h2 : d ≤ 2932896) (k1 : 0 ≤ k) (k2 : k ≤ 6) (hy : ¬ (1 ≤ wky d k ∧ wky d k ≤ 9999)) :
    Calls Tryz.prog 9 #[.int .i64 start, .int .i64 d, .int .i64 k] w fun e w' => e = .returned (.bool true) ∧ Below w.heap.size w w' := by
  have TT := Lib.hid T
  clear T
  have Z := Lib.hid (show ¬ (1 ≤ wky d k ∧ wky d k ≤ 9999 ∧ 0 ≤ k ∧ k ≤ 6) from fun g => hy ⟨g.1, g.2.1⟩)
  clear hy
  show Calls Tryz.prog 9 #[.int .i64 start, .int .i64 d, .int .i64 k] w _
  go_enter Tryz.func9, Tryz.ntmps9
  have B0 := Below.refl w.heap.size w
  go_wp2_with fail
  refine (first_is _ (TT.out.on B0)).mono ?_
  rintro e w1 ⟨rfl, b1⟩
  have B1 := B0.trans (b1.mono B0.size)
  clear B0
  clear b1
  go_wp2_with fail
  refine (week_yes d k _ h1 h2 k1 k2).mono ?_
  rintro e w' ⟨rfl, rfl⟩
  go_wp2_with fail
  refine (weeks_no (wky d k) k _ Z.out).mono ?_
  rintro e w' ⟨rfl, rfl⟩
  go_wp2_with fail
  refine (first_is _ (TT.out.on B1)).mono ?_
  rintro e w2 ⟨rfl, b2⟩
  have B2 := B1.trans (b2.mono B1.size)
  clear B1
  clear b2
  go_wp2
  go_ret
  exact ⟨rfl, B2⟩
set_option maxRecDepth 100000 in
set_option maxHeartbeats 8000000 in
theorem weeks_c (w : World) (T : Tabs w) (start d k : Int) (h1 : -719162 ≤ d) (h2 : d ≤ 2932896) (k1 : 0 ≤ k) (k2 : k ≤ 6) (y1 : 1 ≤ wky d k) (y2 : wky d k ≤ 9999) (hs : St.may start = false) :
    Calls Tryz.prog 9 #[.int .i64 start, .int .i64 d, .int .i64 k] w fun e w' => e = .returned (.bool true) ∧ Below w.heap.size w w' := by
  have TT := Lib.hid T
  clear T
  skip
  show Calls Tryz.prog 9 #[.int .i64 start, .int .i64 d, .int .i64 k] w _
  go_enter Tryz.func9, Tryz.ntmps9
  have B0 := Below.refl w.heap.size w
  go_wp2_with fail
  refine (first_is _ (TT.out.on B0)).mono ?_
  rintro e w1 ⟨rfl, b1⟩
  have B1 := B0.trans (b1.mono B0.size)
  clear B0
  clear b1
  go_wp2_with fail
  refine (week_yes d k _ h1 h2 k1 k2).mono ?_
  rintro e w' ⟨rfl, rfl⟩
  go_wp2_with fail
  refine (weeks_yes (wky d k) k _ y1 y2 k1 k2).mono ?_
  rintro e w' ⟨rfl, rfl⟩
  go_wp2_with fail
  refine (may_no start _ hs).mono ?_
  rintro e w' ⟨rfl, rfl⟩
  go_wp2_with fail
  refine (first_is _ (TT.out.on B1)).mono ?_
  rintro e w2 ⟨rfl, b2⟩
  have B2 := B1.trans (b2.mono B1.size)
  clear B1
  clear b2
  go_wp2
  go_ret
  exact ⟨rfl, B2⟩
set_option maxRecDepth 100000 in
set_option maxHeartbeats 8000000 in
theorem weeks_d (w : World) (T : Tabs w) (start d k : Int) (h1 : -719162 ≤ d) (h2 : d ≤ 2932896) (k1 : 0 ≤ k) (k2 : k ≤ 6) (y1 : 1 ≤ wky d k) (y2 : wky d k ≤ 9999) (hs : St.may start = true) :
    Calls Tryz.prog 9 #[.int .i64 start, .int .i64 d, .int .i64 k] w fun e w' => e = .returned (.bool true) ∧ Below w.heap.size w w' := by
  have TT := Lib.hid T
  clear T
  have W3 := wk_three (day := d) k1 k2
  obtain ⟨a1, a2, a3, a4⟩ := W3
  have hd := show isday d = true from decide_eq_true ⟨h1, h2⟩
  have hy := show isyear (wky d k) = true from decide_eq_true ⟨y1, y2⟩
  have F1 := wk_fits (start := start) hd hs k1 k2 a1 hy
  have F2 := wk_fits (start := start) hd hs k1 k2 a2 hy
  have F3 := wk_fits (start := start) hd hs k1 k2 a3 hy
  rw [decide_eq_true (.inl rfl)] at F1
  rw [decide_eq_true (.inr rfl)] at F2
  rw [decide_eq_false a4] at F3
  have wb := wkn_bd d k
  have ab := wks_bd (wky d k) k k1 k2
  clear a1 a2 a3 a4 hd hy
  show Calls Tryz.prog 9 #[.int .i64 start, .int .i64 d, .int .i64 k] w _
  go_enter Tryz.func9, Tryz.ntmps9
  have B0 := Below.refl w.heap.size w
  go_wp2_with fail
  refine (first_is _ (TT.out.on B0)).mono ?_
  rintro e w1 ⟨rfl, b1⟩
  have B1 := B0.trans (b1.mono B0.size)
  clear B0
  clear b1
  go_wp2_with fail
  refine (week_yes d k _ h1 h2 k1 k2).mono ?_
  rintro e w' ⟨rfl, rfl⟩
  go_wp2_with fail
  refine (weeks_yes (wky d k) k _ y1 y2 k1 k2).mono ?_
  rintro e w' ⟨rfl, rfl⟩
  go_wp2_with fail
  refine (may_yes start _ hs).mono ?_
  rintro e w' ⟨rfl, rfl⟩
  generalize wkn d k = n at *
  generalize wks (wky d k) k = all at *
  generalize wky d k = y at *
  have FA := Lib.hid F1
  have FB := Lib.hid F2
  have FC := Lib.hid F3
  clear F1 F2 F3
  go_upto_region 8 with fail
  have b2 := alloc_below w1 (.cells eachC 48)
  have DA2 := each_at w1
  unfold eachC at b2 DA2
  generalize hw2 : w1.alloc (.cells #[.int .i64 0, .int .i64 0, .int .i64 0, .int .i64 1, .int .i64 0, .int .i64 2, .int .i64 0, .int .i64 3, .int .i64 0, .int .i64 4, .int .i64 0, .int .i64 5, .int .i64 0, .int .i64 6] 48) = w2 at *
  clear hw2
  have B2 := B1.trans (b2.mono B1.size)
  clear B1
  clear b2
  go_upto_region 9 with fail
  have b3 := alloc_below w2 (.cells #[.int .i64 (n)] 3)
  have IA := one_at w2 (n)
  have DA3 := DA2.below b3
  clear DA2
  have SZ : (w2.alloc (.cells #[.int .i64 (n)] 3)).heap.size = w2.heap.size + 1 := by simp
  generalize hw3 : w2.alloc (.cells #[.int .i64 (n)] 3) = w3 at *
  clear hw3
  have B3 := B2.trans (b3.mono B2.size)
  clear B2
  clear b3
  have b4 := alloc_below w3 (.cells #[.int .i64 1, .int .i64 1, .int .i64 0, .int .i64 0, .int .i64 k, .bool false, .slice none 0 0, .slice (some ⟨w2.heap.size, 0, none⟩) 1 1, .slice none 0 0, .slice none 0 0, .slice (some ⟨w1.heap.size, 0, none⟩) 7 7, .slice none 0 0, .slice none 0 0, .slice none 0 0, .slice none 0 0] 25)
  have Xa4 := Box.new w3 #[.int .i64 1, .int .i64 1, .int .i64 0, .int .i64 0, .int .i64 k, .bool false, .slice none 0 0, .slice (some ⟨w2.heap.size, 0, none⟩) 1 1, .slice none 0 0, .slice none 0 0, .slice (some ⟨w1.heap.size, 0, none⟩) 7 7, .slice none 0 0, .slice none 0 0, .slice none 0 0, .slice none 0 0] 25
  have Ra4 := (wkR_at (k := k) DA3 IA).below b4
  clear IA
  have DA4 := DA3.below b4
  clear DA3
  generalize w3.alloc (.cells #[.int .i64 1, .int .i64 1, .int .i64 0, .int .i64 0, .int .i64 k, .bool false, .slice none 0 0, .slice (some ⟨w2.heap.size, 0, none⟩) 1 1, .slice none 0 0, .slice none 0 0, .slice (some ⟨w1.heap.size, 0, none⟩) 7 7, .slice none 0 0, .slice none 0 0, .slice none 0 0, .slice none 0 0] 25) = w4 at *
  have B4 := B3.trans (b4.mono B3.size)
  clear B3
  clear b4
  rw [SZ] at Xa4
  clear SZ
  go_upto_region 10 with fail
  have b5 := alloc_below w4 (.cells #[.int .i64 (n - all - 1)] 3)
  have IA := one_at w4 (n - all - 1)
  have DA5 := DA4.below b5
  clear DA4
  have SZ : (w4.alloc (.cells #[.int .i64 (n - all - 1)] 3)).heap.size = w4.heap.size + 1 := by simp
  generalize hw5 : w4.alloc (.cells #[.int .i64 (n - all - 1)] 3) = w5 at *
  clear hw5
  have B5 := B4.trans (b5.mono B4.size)
  have Xa5 := Xa4.below b5
  have Ra5 := Ra4.below b5
  clear B4 Xa4 Ra4
  clear b5
  have b6 := alloc_below w5 (.cells #[.int .i64 1, .int .i64 1, .int .i64 0, .int .i64 0, .int .i64 k, .bool false, .slice none 0 0, .slice (some ⟨w4.heap.size, 0, none⟩) 1 1, .slice none 0 0, .slice none 0 0, .slice (some ⟨w1.heap.size, 0, none⟩) 7 7, .slice none 0 0, .slice none 0 0, .slice none 0 0, .slice none 0 0] 25)
  have Xb6 := Box.new w5 #[.int .i64 1, .int .i64 1, .int .i64 0, .int .i64 0, .int .i64 k, .bool false, .slice none 0 0, .slice (some ⟨w4.heap.size, 0, none⟩) 1 1, .slice none 0 0, .slice none 0 0, .slice (some ⟨w1.heap.size, 0, none⟩) 7 7, .slice none 0 0, .slice none 0 0, .slice none 0 0, .slice none 0 0] 25
  have Rb6 := (wkR_at (k := k) DA5 IA).below b6
  clear IA
  have DA6 := DA5.below b6
  clear DA5
  generalize w5.alloc (.cells #[.int .i64 1, .int .i64 1, .int .i64 0, .int .i64 0, .int .i64 k, .bool false, .slice none 0 0, .slice (some ⟨w4.heap.size, 0, none⟩) 1 1, .slice none 0 0, .slice none 0 0, .slice (some ⟨w1.heap.size, 0, none⟩) 7 7, .slice none 0 0, .slice none 0 0, .slice none 0 0, .slice none 0 0] 25) = w6 at *
  have B6 := B5.trans (b6.mono B5.size)
  have Xa6 := Xa5.below b6
  have Ra6 := Ra5.below b6
  clear B5 Xa5 Ra5
  clear b6
  rw [SZ] at Xb6
  clear SZ
  have tm : n.tmod all = n % all := Int.tmod_eq_emod_of_nonneg (by omega)
  have eb : 0 ≤ n % all ∧ n % all ≤ 53 := by rcases ab with e | e <;> rw [e] <;> omega
  have zz : ((all : Int) == 0) = false := by rw [beq_eq_false_iff_ne]; omega
  go_upto_region 11 with fail
  have b7 := alloc_below w6 (.cells #[.int .i64 (n % all + 1)] 3)
  have IA := one_at w6 (n % all + 1)
  have DA7 := DA6.below b7
  clear DA6
  have SZ : (w6.alloc (.cells #[.int .i64 (n % all + 1)] 3)).heap.size = w6.heap.size + 1 := by simp
  generalize hw7 : w6.alloc (.cells #[.int .i64 (n % all + 1)] 3) = w7 at *
  clear hw7
  have B7 := B6.trans (b7.mono B6.size)
  have Xa7 := Xa6.below b7
  have Xb7 := Xb6.below b7
  have Ra7 := Ra6.below b7
  have Rb7 := Rb6.below b7
  clear B6 Xa6 Xb6 Ra6 Rb6
  clear b7
  have b8 := alloc_below w7 (.cells #[.int .i64 1, .int .i64 1, .int .i64 0, .int .i64 0, .int .i64 k, .bool false, .slice none 0 0, .slice (some ⟨w6.heap.size, 0, none⟩) 1 1, .slice none 0 0, .slice none 0 0, .slice (some ⟨w1.heap.size, 0, none⟩) 7 7, .slice none 0 0, .slice none 0 0, .slice none 0 0, .slice none 0 0] 25)
  have Xc8 := Box.new w7 #[.int .i64 1, .int .i64 1, .int .i64 0, .int .i64 0, .int .i64 k, .bool false, .slice none 0 0, .slice (some ⟨w6.heap.size, 0, none⟩) 1 1, .slice none 0 0, .slice none 0 0, .slice (some ⟨w1.heap.size, 0, none⟩) 7 7, .slice none 0 0, .slice none 0 0, .slice none 0 0, .slice none 0 0] 25
  have Rc8 := (wkR_at (k := k) DA7 IA).below b8
  clear IA
  have DA8 := DA7.below b8
  clear DA7
  generalize w7.alloc (.cells #[.int .i64 1, .int .i64 1, .int .i64 0, .int .i64 0, .int .i64 k, .bool false, .slice none 0 0, .slice (some ⟨w6.heap.size, 0, none⟩) 1 1, .slice none 0 0, .slice none 0 0, .slice (some ⟨w1.heap.size, 0, none⟩) 7 7, .slice none 0 0, .slice none 0 0, .slice none 0 0, .slice none 0 0] 25) = w8 at *
  have B8 := B7.trans (b8.mono B7.size)
  have Xa8 := Xa7.below b8
  have Xb8 := Xb7.below b8
  have Ra8 := Ra7.below b8
  have Rb8 := Rb7.below b8
  clear B7 Xa7 Xb7 Ra7 Rb7
  clear b8
  rw [SZ] at Xc8
  clear SZ
  go_wp2_with fail
  refine (first_is _ (TT.out.on B8)).mono ?_
  rintro e w9 ⟨rfl, b9⟩
  have B9 := B8.trans (b9.mono B8.size)
  have Xa9 := Xa8.below b9
  have Xb9 := Xb8.below b9
  have Xc9 := Xc8.below b9
  have Ra9 := Ra8.below b9
  have Rb9 := Rb8.below b9
  have Rc9 := Rc8.below b9
  clear B8 Xa8 Xb8 Xc8 Ra8 Rb8 Rc8
  clear b9
  have az0 : w9.cell? ⟨w2.heap.size + 1, 0, none⟩ = some (.int .i64 1) := Xa9.at_ 0 _ rfl
  have az1 : w9.cell? ⟨w2.heap.size + 1, 1, none⟩ = some (.int .i64 1) := Xa9.at_ 1 _ rfl
  have az2 : w9.cell? ⟨w2.heap.size + 1, 2, none⟩ = some (.int .i64 0) := Xa9.at_ 2 _ rfl
  have az3 : w9.cell? ⟨w2.heap.size + 1, 3, none⟩ = some (.int .i64 0) := Xa9.at_ 3 _ rfl
  have az4 : w9.cell? ⟨w2.heap.size + 1, 4, none⟩ = some (.int .i64 k) := Xa9.at_ 4 _ rfl
  have az5 : w9.cell? ⟨w2.heap.size + 1, 5, none⟩ = some (.bool false) := Xa9.at_ 5 _ rfl
  have az6 : w9.cell? ⟨w2.heap.size + 1, 6, none⟩ = some (.slice none 0 0) := Xa9.at_ 6 _ rfl
  have az7 : w9.cell? ⟨w2.heap.size + 1, 7, none⟩ = some (.slice (some ⟨w2.heap.size, 0, none⟩) 1 1) := Xa9.at_ 7 _ rfl
  have az8 : w9.cell? ⟨w2.heap.size + 1, 8, none⟩ = some (.slice none 0 0) := Xa9.at_ 8 _ rfl
  have az9 : w9.cell? ⟨w2.heap.size + 1, 9, none⟩ = some (.slice none 0 0) := Xa9.at_ 9 _ rfl
  have az10 : w9.cell? ⟨w2.heap.size + 1, 10, none⟩ = some (.slice (some ⟨w1.heap.size, 0, none⟩) 7 7) := Xa9.at_ 10 _ rfl
  have az11 : w9.cell? ⟨w2.heap.size + 1, 11, none⟩ = some (.slice none 0 0) := Xa9.at_ 11 _ rfl
  have az12 : w9.cell? ⟨w2.heap.size + 1, 12, none⟩ = some (.slice none 0 0) := Xa9.at_ 12 _ rfl
  have az13 : w9.cell? ⟨w2.heap.size + 1, 13, none⟩ = some (.slice none 0 0) := Xa9.at_ 13 _ rfl
  have az14 : w9.cell? ⟨w2.heap.size + 1, 14, none⟩ = some (.slice none 0 0) := Xa9.at_ 14 _ rfl
  go_wp2_with fail
  refine (fits_is _ (wkS w1.heap.size w2.heap.size) (wkR k n) start d true Ra9 FA.out).mono ?_
  rintro e w10 ⟨rfl, b10⟩
  clear az0 az1 az2 az3 az4 az5 az6 az7 az8 az9 az10 az11 az12 az13 az14
  have B10 := B9.trans (b10.mono B9.size)
  have Xa10 := Xa9.below b10
  have Xb10 := Xb9.below b10
  have Xc10 := Xc9.below b10
  have Ra10 := Ra9.below b10
  have Rb10 := Rb9.below b10
  have Rc10 := Rc9.below b10
  clear B9 Xa9 Xb9 Xc9 Ra9 Rb9 Rc9
  clear b10
  have bz0 : w10.cell? ⟨w4.heap.size + 1, 0, none⟩ = some (.int .i64 1) := Xb10.at_ 0 _ rfl
  have bz1 : w10.cell? ⟨w4.heap.size + 1, 1, none⟩ = some (.int .i64 1) := Xb10.at_ 1 _ rfl
  have bz2 : w10.cell? ⟨w4.heap.size + 1, 2, none⟩ = some (.int .i64 0) := Xb10.at_ 2 _ rfl
  have bz3 : w10.cell? ⟨w4.heap.size + 1, 3, none⟩ = some (.int .i64 0) := Xb10.at_ 3 _ rfl
  have bz4 : w10.cell? ⟨w4.heap.size + 1, 4, none⟩ = some (.int .i64 k) := Xb10.at_ 4 _ rfl
  have bz5 : w10.cell? ⟨w4.heap.size + 1, 5, none⟩ = some (.bool false) := Xb10.at_ 5 _ rfl
  have bz6 : w10.cell? ⟨w4.heap.size + 1, 6, none⟩ = some (.slice none 0 0) := Xb10.at_ 6 _ rfl
  have bz7 : w10.cell? ⟨w4.heap.size + 1, 7, none⟩ = some (.slice (some ⟨w4.heap.size, 0, none⟩) 1 1) := Xb10.at_ 7 _ rfl
  have bz8 : w10.cell? ⟨w4.heap.size + 1, 8, none⟩ = some (.slice none 0 0) := Xb10.at_ 8 _ rfl
  have bz9 : w10.cell? ⟨w4.heap.size + 1, 9, none⟩ = some (.slice none 0 0) := Xb10.at_ 9 _ rfl
  have bz10 : w10.cell? ⟨w4.heap.size + 1, 10, none⟩ = some (.slice (some ⟨w1.heap.size, 0, none⟩) 7 7) := Xb10.at_ 10 _ rfl
  have bz11 : w10.cell? ⟨w4.heap.size + 1, 11, none⟩ = some (.slice none 0 0) := Xb10.at_ 11 _ rfl
  have bz12 : w10.cell? ⟨w4.heap.size + 1, 12, none⟩ = some (.slice none 0 0) := Xb10.at_ 12 _ rfl
  have bz13 : w10.cell? ⟨w4.heap.size + 1, 13, none⟩ = some (.slice none 0 0) := Xb10.at_ 13 _ rfl
  have bz14 : w10.cell? ⟨w4.heap.size + 1, 14, none⟩ = some (.slice none 0 0) := Xb10.at_ 14 _ rfl
  go_wp2_with fail
  refine (fits_is _ (wkS w1.heap.size w4.heap.size) (wkR k (n - all - 1)) start d true Rb10 FB.out).mono ?_
  rintro e w11 ⟨rfl, b11⟩
  clear bz0 bz1 bz2 bz3 bz4 bz5 bz6 bz7 bz8 bz9 bz10 bz11 bz12 bz13 bz14
  have B11 := B10.trans (b11.mono B10.size)
  have Xa11 := Xa10.below b11
  have Xb11 := Xb10.below b11
  have Xc11 := Xc10.below b11
  have Ra11 := Ra10.below b11
  have Rb11 := Rb10.below b11
  have Rc11 := Rc10.below b11
  clear B10 Xa10 Xb10 Xc10 Ra10 Rb10 Rc10
  clear b11
  have cz0 : w11.cell? ⟨w6.heap.size + 1, 0, none⟩ = some (.int .i64 1) := Xc11.at_ 0 _ rfl
  have cz1 : w11.cell? ⟨w6.heap.size + 1, 1, none⟩ = some (.int .i64 1) := Xc11.at_ 1 _ rfl
  have cz2 : w11.cell? ⟨w6.heap.size + 1, 2, none⟩ = some (.int .i64 0) := Xc11.at_ 2 _ rfl
  have cz3 : w11.cell? ⟨w6.heap.size + 1, 3, none⟩ = some (.int .i64 0) := Xc11.at_ 3 _ rfl
  have cz4 : w11.cell? ⟨w6.heap.size + 1, 4, none⟩ = some (.int .i64 k) := Xc11.at_ 4 _ rfl
  have cz5 : w11.cell? ⟨w6.heap.size + 1, 5, none⟩ = some (.bool false) := Xc11.at_ 5 _ rfl
  have cz6 : w11.cell? ⟨w6.heap.size + 1, 6, none⟩ = some (.slice none 0 0) := Xc11.at_ 6 _ rfl
  have cz7 : w11.cell? ⟨w6.heap.size + 1, 7, none⟩ = some (.slice (some ⟨w6.heap.size, 0, none⟩) 1 1) := Xc11.at_ 7 _ rfl
  have cz8 : w11.cell? ⟨w6.heap.size + 1, 8, none⟩ = some (.slice none 0 0) := Xc11.at_ 8 _ rfl
  have cz9 : w11.cell? ⟨w6.heap.size + 1, 9, none⟩ = some (.slice none 0 0) := Xc11.at_ 9 _ rfl
  have cz10 : w11.cell? ⟨w6.heap.size + 1, 10, none⟩ = some (.slice (some ⟨w1.heap.size, 0, none⟩) 7 7) := Xc11.at_ 10 _ rfl
  have cz11 : w11.cell? ⟨w6.heap.size + 1, 11, none⟩ = some (.slice none 0 0) := Xc11.at_ 11 _ rfl
  have cz12 : w11.cell? ⟨w6.heap.size + 1, 12, none⟩ = some (.slice none 0 0) := Xc11.at_ 12 _ rfl
  have cz13 : w11.cell? ⟨w6.heap.size + 1, 13, none⟩ = some (.slice none 0 0) := Xc11.at_ 13 _ rfl
  have cz14 : w11.cell? ⟨w6.heap.size + 1, 14, none⟩ = some (.slice none 0 0) := Xc11.at_ 14 _ rfl
  go_wp2_with fail
  refine (fits_is _ (wkS w1.heap.size w6.heap.size) (wkR k (n % all + 1)) start d false Rc11 FC.out).mono ?_
  rintro e w12 ⟨rfl, b12⟩
  clear cz0 cz1 cz2 cz3 cz4 cz5 cz6 cz7 cz8 cz9 cz10 cz11 cz12 cz13 cz14
  have B12 := B11.trans (b12.mono B11.size)
  have Xa12 := Xa11.below b12
  have Xb12 := Xb11.below b12
  have Xc12 := Xc11.below b12
  have Ra12 := Ra11.below b12
  have Rb12 := Rb11.below b12
  have Rc12 := Rc11.below b12
  clear B11 Xa11 Xb11 Xc11 Ra11 Rb11 Rc11
  clear b12
  go_wp2
  go_ret
  exact ⟨rfl, B12⟩
theorem weeks_walk (w : World) (T : Tabs w) (start d k : Int) :
    Calls Tryz.prog 9 #[.int .i64 start, .int .i64 d, .int .i64 k] w fun e w' => e = .returned (.bool true) ∧ Below w.heap.size w w' := by
  by_cases h : -719162 ≤ d ∧ d ≤ 2932896 ∧ 0 ≤ k ∧ k ≤ 6
  · obtain ⟨h1, h2, k1, k2⟩ := h
    by_cases hy : 1 ≤ wky d k ∧ wky d k ≤ 9999
    · cases hs : St.may start
      · exact weeks_c w T start d k h1 h2 k1 k2 hy.1 hy.2 hs
      · exact weeks_d w T start d k h1 h2 k1 k2 hy.1 hy.2 hs
    · exact weeks_b w T start d k h1 h2 k1 k2 hy
  · exact weeks_a w T start d k h
end Go.Proofs.YtkkmhjplfpdhcaaGreatDoor.Dd
