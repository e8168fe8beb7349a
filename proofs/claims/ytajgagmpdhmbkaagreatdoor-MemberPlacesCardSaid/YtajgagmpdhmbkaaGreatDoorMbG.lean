/- voklaw7.first answers true. -/
import Derived.Test.YtajgagmpdhmbkaaGreatDoorMbF
import Derived.Test.YtajgagmpdhmbkaaGreatDoorMbL
import Derived.Test.YtajgagmpdhmbkaaGreatDoorMbEx
import Derived.Test.YtajgagmpdhmbkaaGreatDoorStX
set_option linter.unusedVariables false
namespace Go.Proofs.YtajgagmpdhmbkaaGreatDoor.Mb
open Go.RowKit Cv St Ru Dd

theorem sparse_take (s : ByteArray) (a b : Int) (h : St.parse s.data.toList = (a, b)) (hs : s.size ≤ 100) (w : World) : Calls Tryz.prog 58 #[.string s] w fun e w' => e = .returned (.tuple #[.int .i64 a, .int .i64 b]) ∧ Below w.heap.size w w' := by
  refine (St.parse_is s w w (by unfold maxLen; omega) (At.refl trivial) a b h).mono ?_
  rintro e w' ⟨rfl, b⟩
  exact ⟨rfl, b.below⟩
set_option maxRecDepth 100000 in
set_option maxHeartbeats 8000000 in
theorem first7_is (w : World) (T : Tabs w) : Calls Tryz.prog 22 #[] w fun e w' => e = .returned (.bool true) ∧ Below w.heap.size w w' := by
  have TT := Lib.hid T
  clear T
  show Calls Tryz.prog 22 #[] w _
  go_enter Tryz.func22, Tryz.ntmps22
  have B0 := Below.refl w.heap.size w
  go_wp2_with fail
  refine (parse_ok ⟨#[70, 82, 69, 81, 61, 77, 79, 78, 84, 72, 76, 89, 59, 66, 89, 68, 65, 89, 61, 77, 79, 44, 84, 85, 44, 87, 69, 44, 84, 72, 44, 70, 82, 59, 66, 89, 83, 69, 84, 80, 79, 83, 61, 45, 49]⟩ _ (TT.out.on B0) exR 0 0 ex_parse).mono ?_
  rintro e w1 ⟨⟨pa6, pn6, pc6, pa7, pn7, pc7, pa8, pn8, pc8, pa9, pn9, pc9, pa10, pn10, pc10, pa11, pn11, pc11, pa12, pn12, pc12, pa13, pn13, pc13, pa14, pn14, pc14⟩, he, hS, b1⟩
  replace he : e = .returned (.tuple #[.agg #[.int .i64 2, .int .i64 1, .int .i64 0, .int .i64 0, .int .i64 0, .bool false, .slice pa6 pn6 pc6, .slice pa7 pn7 pc7, .slice pa8 pn8 pc8, .slice pa9 pn9 pc9, .slice pa10 pn10 pc10, .slice pa11 pn11 pc11, .slice pa12 pn12 pc12, .slice pa13 pn13 pc13, .slice pa14 pn14 pc14], .int .i64 0, .int .i64 0]) := he
  subst he
  have B1 := B0.trans (b1.mono B0.size)
  clear B0
  clear b1
  go_upto_region 2 with fail
  have b2 := alloc_below w1 (.cells #[.int .i64 2, .int .i64 1, .int .i64 0, .int .i64 0, .int .i64 0, .bool false, .slice pa6 pn6 pc6, .slice pa7 pn7 pc7, .slice pa8 pn8 pc8, .slice pa9 pn9 pc9, .slice pa10 pn10 pc10, .slice pa11 pn11 pc11, .slice pa12 pn12 pc12, .slice pa13 pn13 pc13, .slice pa14 pn14 pc14] 25)
  have Xp2 := Box.new w1 #[.int .i64 2, .int .i64 1, .int .i64 0, .int .i64 0, .int .i64 0, .bool false, .slice pa6 pn6 pc6, .slice pa7 pn7 pc7, .slice pa8 pn8 pc8, .slice pa9 pn9 pc9, .slice pa10 pn10 pc10, .slice pa11 pn11 pc11, .slice pa12 pn12 pc12, .slice pa13 pn13 pc13, .slice pa14 pn14 pc14] 25
  have Rp2 := hS.below b2
  clear hS
  generalize w1.alloc (.cells #[.int .i64 2, .int .i64 1, .int .i64 0, .int .i64 0, .int .i64 0, .bool false, .slice pa6 pn6 pc6, .slice pa7 pn7 pc7, .slice pa8 pn8 pc8, .slice pa9 pn9 pc9, .slice pa10 pn10 pc10, .slice pa11 pn11 pc11, .slice pa12 pn12 pc12, .slice pa13 pn13 pc13, .slice pa14 pn14 pc14] 25) = w2 at *
  have B2 := B1.trans (b2.mono B1.size)
  clear B1
  clear b2
  go_wp2_with fail
  refine (sparse_take ⟨#[50, 48, 50, 54, 48, 49, 51, 48, 84, 48, 57, 48, 48, 48, 48]⟩ 1769763600 0 ex_s (by decide) _).mono ?_
  rintro e w3 ⟨rfl, b3⟩
  have B3 := B2.trans (b3.mono B2.size)
  have Xp3 := Xp2.below b3
  have Rp3 := Rp2.below b3
  clear B2 Xp2 Rp2
  clear b3
  go_wp2_with fail
  refine (sparse_take ⟨#[50, 48, 50, 54, 48, 50, 50, 55, 84, 48, 57, 48, 48, 48, 48]⟩ 1772182800 0 ex_a (by decide) _).mono ?_
  rintro e w4 ⟨rfl, b4⟩
  have B4 := B3.trans (b4.mono B3.size)
  have Xp4 := Xp3.below b4
  have Rp4 := Rp3.below b4
  clear B3 Xp3 Rp3
  clear b4
  go_wp2_with fail
  refine (sparse_take ⟨#[50, 48, 50, 54, 48, 50, 50, 54, 84, 48, 57, 48, 48, 48, 48]⟩ 1772096400 0 ex_b (by decide) _).mono ?_
  rintro e w5 ⟨rfl, b5⟩
  have B5 := B4.trans (b5.mono B4.size)
  have Xp5 := Xp4.below b5
  have Rp5 := Rp4.below b5
  clear B4 Xp4 Rp4
  clear b5
  have pz0 : w5.cell? ⟨w1.heap.size, 0, none⟩ = some (.int .i64 2) := Xp5.at_ 0 _ rfl
  have pz1 : w5.cell? ⟨w1.heap.size, 1, none⟩ = some (.int .i64 1) := Xp5.at_ 1 _ rfl
  have pz2 : w5.cell? ⟨w1.heap.size, 2, none⟩ = some (.int .i64 0) := Xp5.at_ 2 _ rfl
  have pz3 : w5.cell? ⟨w1.heap.size, 3, none⟩ = some (.int .i64 0) := Xp5.at_ 3 _ rfl
  have pz4 : w5.cell? ⟨w1.heap.size, 4, none⟩ = some (.int .i64 0) := Xp5.at_ 4 _ rfl
  have pz5 : w5.cell? ⟨w1.heap.size, 5, none⟩ = some (.bool false) := Xp5.at_ 5 _ rfl
  have pz6 : w5.cell? ⟨w1.heap.size, 6, none⟩ = some (.slice pa6 pn6 pc6) := Xp5.at_ 6 _ rfl
  have pz7 : w5.cell? ⟨w1.heap.size, 7, none⟩ = some (.slice pa7 pn7 pc7) := Xp5.at_ 7 _ rfl
  have pz8 : w5.cell? ⟨w1.heap.size, 8, none⟩ = some (.slice pa8 pn8 pc8) := Xp5.at_ 8 _ rfl
  have pz9 : w5.cell? ⟨w1.heap.size, 9, none⟩ = some (.slice pa9 pn9 pc9) := Xp5.at_ 9 _ rfl
  have pz10 : w5.cell? ⟨w1.heap.size, 10, none⟩ = some (.slice pa10 pn10 pc10) := Xp5.at_ 10 _ rfl
  have pz11 : w5.cell? ⟨w1.heap.size, 11, none⟩ = some (.slice pa11 pn11 pc11) := Xp5.at_ 11 _ rfl
  have pz12 : w5.cell? ⟨w1.heap.size, 12, none⟩ = some (.slice pa12 pn12 pc12) := Xp5.at_ 12 _ rfl
  have pz13 : w5.cell? ⟨w1.heap.size, 13, none⟩ = some (.slice pa13 pn13 pc13) := Xp5.at_ 13 _ rfl
  have pz14 : w5.cell? ⟨w1.heap.size, 14, none⟩ = some (.slice pa14 pn14 pc14) := Xp5.at_ 14 _ rfl
  go_wp2_with fail
  refine (has_is _ ⟨pa6, pn6, pc6, pa7, pn7, pc7, pa8, pn8, pc8, pa9, pn9, pc9, pa10, pn10, pc10, pa11, pn11, pc11, pa12, pn12, pc12, pa13, pn13, pc13, pa14, pn14, pc14⟩ exR 1769763600 1772182800 true Rp5 ex_ha).mono ?_
  rintro e w6 ⟨rfl, b6⟩
  clear pz0 pz1 pz2 pz3 pz4 pz5 pz6 pz7 pz8 pz9 pz10 pz11 pz12 pz13 pz14
  have B6 := B5.trans (b6.mono B5.size)
  have Xp6 := Xp5.below b6
  have Rp6 := Rp5.below b6
  clear B5 Xp5 Rp5
  clear b6
  have pz0 : w6.cell? ⟨w1.heap.size, 0, none⟩ = some (.int .i64 2) := Xp6.at_ 0 _ rfl
  have pz1 : w6.cell? ⟨w1.heap.size, 1, none⟩ = some (.int .i64 1) := Xp6.at_ 1 _ rfl
  have pz2 : w6.cell? ⟨w1.heap.size, 2, none⟩ = some (.int .i64 0) := Xp6.at_ 2 _ rfl
  have pz3 : w6.cell? ⟨w1.heap.size, 3, none⟩ = some (.int .i64 0) := Xp6.at_ 3 _ rfl
  have pz4 : w6.cell? ⟨w1.heap.size, 4, none⟩ = some (.int .i64 0) := Xp6.at_ 4 _ rfl
  have pz5 : w6.cell? ⟨w1.heap.size, 5, none⟩ = some (.bool false) := Xp6.at_ 5 _ rfl
  have pz6 : w6.cell? ⟨w1.heap.size, 6, none⟩ = some (.slice pa6 pn6 pc6) := Xp6.at_ 6 _ rfl
  have pz7 : w6.cell? ⟨w1.heap.size, 7, none⟩ = some (.slice pa7 pn7 pc7) := Xp6.at_ 7 _ rfl
  have pz8 : w6.cell? ⟨w1.heap.size, 8, none⟩ = some (.slice pa8 pn8 pc8) := Xp6.at_ 8 _ rfl
  have pz9 : w6.cell? ⟨w1.heap.size, 9, none⟩ = some (.slice pa9 pn9 pc9) := Xp6.at_ 9 _ rfl
  have pz10 : w6.cell? ⟨w1.heap.size, 10, none⟩ = some (.slice pa10 pn10 pc10) := Xp6.at_ 10 _ rfl
  have pz11 : w6.cell? ⟨w1.heap.size, 11, none⟩ = some (.slice pa11 pn11 pc11) := Xp6.at_ 11 _ rfl
  have pz12 : w6.cell? ⟨w1.heap.size, 12, none⟩ = some (.slice pa12 pn12 pc12) := Xp6.at_ 12 _ rfl
  have pz13 : w6.cell? ⟨w1.heap.size, 13, none⟩ = some (.slice pa13 pn13 pc13) := Xp6.at_ 13 _ rfl
  have pz14 : w6.cell? ⟨w1.heap.size, 14, none⟩ = some (.slice pa14 pn14 pc14) := Xp6.at_ 14 _ rfl
  go_wp2_with fail
  refine (has_is _ ⟨pa6, pn6, pc6, pa7, pn7, pc7, pa8, pn8, pc8, pa9, pn9, pc9, pa10, pn10, pc10, pa11, pn11, pc11, pa12, pn12, pc12, pa13, pn13, pc13, pa14, pn14, pc14⟩ exR 1769763600 1772096400 false Rp6 ex_hb).mono ?_
  rintro e w7 ⟨rfl, b7⟩
  clear pz0 pz1 pz2 pz3 pz4 pz5 pz6 pz7 pz8 pz9 pz10 pz11 pz12 pz13 pz14
  have B7 := B6.trans (b7.mono B6.size)
  have Xp7 := Xp6.below b7
  have Rp7 := Rp6.below b7
  clear B6 Xp6 Rp6
  clear b7
  have pz0 : w7.cell? ⟨w1.heap.size, 0, none⟩ = some (.int .i64 2) := Xp7.at_ 0 _ rfl
  have pz1 : w7.cell? ⟨w1.heap.size, 1, none⟩ = some (.int .i64 1) := Xp7.at_ 1 _ rfl
  have pz2 : w7.cell? ⟨w1.heap.size, 2, none⟩ = some (.int .i64 0) := Xp7.at_ 2 _ rfl
  have pz3 : w7.cell? ⟨w1.heap.size, 3, none⟩ = some (.int .i64 0) := Xp7.at_ 3 _ rfl
  have pz4 : w7.cell? ⟨w1.heap.size, 4, none⟩ = some (.int .i64 0) := Xp7.at_ 4 _ rfl
  have pz5 : w7.cell? ⟨w1.heap.size, 5, none⟩ = some (.bool false) := Xp7.at_ 5 _ rfl
  have pz6 : w7.cell? ⟨w1.heap.size, 6, none⟩ = some (.slice pa6 pn6 pc6) := Xp7.at_ 6 _ rfl
  have pz7 : w7.cell? ⟨w1.heap.size, 7, none⟩ = some (.slice pa7 pn7 pc7) := Xp7.at_ 7 _ rfl
  have pz8 : w7.cell? ⟨w1.heap.size, 8, none⟩ = some (.slice pa8 pn8 pc8) := Xp7.at_ 8 _ rfl
  have pz9 : w7.cell? ⟨w1.heap.size, 9, none⟩ = some (.slice pa9 pn9 pc9) := Xp7.at_ 9 _ rfl
  have pz10 : w7.cell? ⟨w1.heap.size, 10, none⟩ = some (.slice pa10 pn10 pc10) := Xp7.at_ 10 _ rfl
  have pz11 : w7.cell? ⟨w1.heap.size, 11, none⟩ = some (.slice pa11 pn11 pc11) := Xp7.at_ 11 _ rfl
  have pz12 : w7.cell? ⟨w1.heap.size, 12, none⟩ = some (.slice pa12 pn12 pc12) := Xp7.at_ 12 _ rfl
  have pz13 : w7.cell? ⟨w1.heap.size, 13, none⟩ = some (.slice pa13 pn13 pc13) := Xp7.at_ 13 _ rfl
  have pz14 : w7.cell? ⟨w1.heap.size, 14, none⟩ = some (.slice pa14 pn14 pc14) := Xp7.at_ 14 _ rfl
  go_wp2_with fail
  refine (raw_is _ ⟨pa6, pn6, pc6, pa7, pn7, pc7, pa8, pn8, pc8, pa9, pn9, pc9, pa10, pn10, pc10, pa11, pn11, pc11, pa12, pn12, pc12, pa13, pn13, pc13, pa14, pn14, pc14⟩ exR 1769763600 1772096400 true Rp7 ex_rb).mono ?_
  rintro e w8 ⟨rfl, b8⟩
  clear pz0 pz1 pz2 pz3 pz4 pz5 pz6 pz7 pz8 pz9 pz10 pz11 pz12 pz13 pz14
  have B8 := B7.trans (b8.mono B7.size)
  have Xp8 := Xp7.below b8
  have Rp8 := Rp7.below b8
  clear B7 Xp7 Rp7
  clear b8
  go_wp2
  go_ret
  exact ⟨rfl, B8⟩
end Go.Proofs.YtajgagmpdhmbkaaGreatDoor.Mb
