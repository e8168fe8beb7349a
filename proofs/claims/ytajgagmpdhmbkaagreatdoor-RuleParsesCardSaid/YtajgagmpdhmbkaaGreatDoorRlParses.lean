/- RuleParses answers true. -/
import Derived.Test.YtajgagmpdhmbkaaGreatDoorRuParse
import Derived.Test.YtajgagmpdhmbkaaGreatDoorRpY
import Derived.Test.YtajgagmpdhmbkaaGreatDoorRpU
set_option linter.unusedVariables false
namespace Go.Proofs.YtajgagmpdhmbkaaGreatDoor.Ru
open Go.RowKit Cv St Go.Proofs.YtajgagmpdhmbkaaGreatDoor.Fd

theorem rparse_ok (s : ByteArray) (w : World) (T : Tabs w) (r : Ru) (a x : Int) (h : ruParse s.data.toList = (r, a, x)) :
    Calls Tryz.prog 21 #[.string s] w fun e w' => ∃ S : RS, e = .returned (.tuple #[S.val r, .int .i64 a, .int .i64 x]) ∧ RuAt w' S r ∧ Below w.heap.size w w' := by
  have := rparse_any w T s
  rw [h] at this
  exact this
set_option maxRecDepth 100000 in
set_option maxHeartbeats 8000000 in
theorem parses_long (w : World) (T : Tabs w) (s : ByteArray) (hz : s.size ≤ maxLen) (hl : 5000 < s.size) :
    Calls Tryz.prog 4 #[.string s] w fun e w' => e = .returned (.bool true) ∧ Below w.heap.size w w' := by
  unfold maxLen at hz
  have TT := Lib.hid T
  have il : 5000 < (s.size : Int) := by omega
  clear T
  show Calls Tryz.prog 4 #[.string s] w _
  go_enter Tryz.func4, Tryz.ntmps4
  have B0 := Below.refl w.heap.size w
  go_wp2_with fail
  refine (first_is _ (TT.out.on B0)).mono ?_
  rintro e w1 ⟨rfl, b1⟩
  have B1 := B0.trans (b1.mono B0.size)
  clear B0
  clear b1
  go_wp2_with fail
  refine (first_is _ (TT.out.on B1)).mono ?_
  rintro e w2 ⟨rfl, b2⟩
  have B2 := B1.trans (b2.mono B1.size)
  clear B1
  clear b2
  go_wp2
  go_ret
  exact ⟨rfl, B2⟩
set_option maxRecDepth 100000 in
set_option maxHeartbeats 8000000 in
theorem parses_main (w : World) (T : Tabs w) (s : ByteArray) (hz : s.size ≤ maxLen) (hl : s.size ≤ 5000) :
    Calls Tryz.prog 4 #[.string s] w fun e w' => e = .returned (.bool true) ∧ Below w.heap.size w w' := by
  unfold maxLen at hz
  have TT := Lib.hid T
  have il : (s.size : Int) ≤ 5000 := by omega
  clear T
  obtain ⟨o, a, x, hp⟩ : ∃ o a x, ruParse s.data.toList = (o, a, x) := ⟨_, _, _, rfl⟩
  have HP := Lib.hid hp
  clear hp
  obtain ⟨ofreq, oitv, ocnt, otil, owkst, oends, omon, oweek, oyday, omday, oday, ohour, ominu, osec, opos⟩ := o
  show Calls Tryz.prog 4 #[.string s] w _
  go_enter Tryz.func4, Tryz.ntmps4
  have B0 := Below.refl w.heap.size w
  go_wp2_with fail
  refine (first_is _ (TT.out.on B0)).mono ?_
  rintro e w1 ⟨rfl, b1⟩
  have B1 := B0.trans (b1.mono B0.size)
  clear B0
  clear b1
  go_wp2_with fail
  refine (parse_ok s _ (TT.out.on B1) ⟨ofreq, oitv, ocnt, otil, owkst, oends, omon, oweek, oyday, omday, oday, ohour, ominu, osec, opos⟩ a x HP.out).mono ?_
  rintro e w2 ⟨⟨pa6, pn6, pc6, pa7, pn7, pc7, pa8, pn8, pc8, pa9, pn9, pc9, pa10, pn10, pc10, pa11, pn11, pc11, pa12, pn12, pc12, pa13, pn13, pc13, pa14, pn14, pc14⟩, he, hS, b2⟩
  replace he : e = .returned (.tuple #[.agg #[.int .i64 ofreq, .int .i64 oitv, .int .i64 ocnt, .int .i64 otil, .int .i64 owkst, .bool oends, .slice pa6 pn6 pc6, .slice pa7 pn7 pc7, .slice pa8 pn8 pc8, .slice pa9 pn9 pc9, .slice pa10 pn10 pc10, .slice pa11 pn11 pc11, .slice pa12 pn12 pc12, .slice pa13 pn13 pc13, .slice pa14 pn14 pc14], .int .i64 a, .int .i64 x]) := he
  subst he
  have B2 := B1.trans (b2.mono B1.size)
  clear B1
  clear b2
  go_upto_region 6 with fail
  have b3 := alloc_below w2 (.cells #[.int .i64 ofreq, .int .i64 oitv, .int .i64 ocnt, .int .i64 otil, .int .i64 owkst, .bool oends, .slice pa6 pn6 pc6, .slice pa7 pn7 pc7, .slice pa8 pn8 pc8, .slice pa9 pn9 pc9, .slice pa10 pn10 pc10, .slice pa11 pn11 pc11, .slice pa12 pn12 pc12, .slice pa13 pn13 pc13, .slice pa14 pn14 pc14] 25)
  have Xp3 := Box.new w2 #[.int .i64 ofreq, .int .i64 oitv, .int .i64 ocnt, .int .i64 otil, .int .i64 owkst, .bool oends, .slice pa6 pn6 pc6, .slice pa7 pn7 pc7, .slice pa8 pn8 pc8, .slice pa9 pn9 pc9, .slice pa10 pn10 pc10, .slice pa11 pn11 pc11, .slice pa12 pn12 pc12, .slice pa13 pn13 pc13, .slice pa14 pn14 pc14] 25
  have Rp3 := hS.below b3
  clear hS
  generalize w2.alloc (.cells #[.int .i64 ofreq, .int .i64 oitv, .int .i64 ocnt, .int .i64 otil, .int .i64 owkst, .bool oends, .slice pa6 pn6 pc6, .slice pa7 pn7 pc7, .slice pa8 pn8 pc8, .slice pa9 pn9 pc9, .slice pa10 pn10 pc10, .slice pa11 pn11 pc11, .slice pa12 pn12 pc12, .slice pa13 pn13 pc13, .slice pa14 pn14 pc14] 25) = w3 at *
  have B3 := B2.trans (b3.mono B2.size)
  clear B2
  clear b3
  go_wp2_with fail
  refine (rparse_ok s _ (TT.out.on B3) ⟨ofreq, oitv, ocnt, otil, owkst, oends, omon, oweek, oyday, omday, oday, ohour, ominu, osec, opos⟩ a x HP.out).mono ?_
  rintro e w4 ⟨⟨qa6, qn6, qc6, qa7, qn7, qc7, qa8, qn8, qc8, qa9, qn9, qc9, qa10, qn10, qc10, qa11, qn11, qc11, qa12, qn12, qc12, qa13, qn13, qc13, qa14, qn14, qc14⟩, he, hS, b4⟩
  replace he : e = .returned (.tuple #[.agg #[.int .i64 ofreq, .int .i64 oitv, .int .i64 ocnt, .int .i64 otil, .int .i64 owkst, .bool oends, .slice qa6 qn6 qc6, .slice qa7 qn7 qc7, .slice qa8 qn8 qc8, .slice qa9 qn9 qc9, .slice qa10 qn10 qc10, .slice qa11 qn11 qc11, .slice qa12 qn12 qc12, .slice qa13 qn13 qc13, .slice qa14 qn14 qc14], .int .i64 a, .int .i64 x]) := he
  subst he
  have B4 := B3.trans (b4.mono B3.size)
  have Xp4 := Xp3.below b4
  have Rp4 := Rp3.below b4
  clear B3 Xp3 Rp3
  clear b4
  go_upto_region 7 with fail
  have b5 := alloc_below w4 (.cells #[.int .i64 ofreq, .int .i64 oitv, .int .i64 ocnt, .int .i64 otil, .int .i64 owkst, .bool oends, .slice qa6 qn6 qc6, .slice qa7 qn7 qc7, .slice qa8 qn8 qc8, .slice qa9 qn9 qc9, .slice qa10 qn10 qc10, .slice qa11 qn11 qc11, .slice qa12 qn12 qc12, .slice qa13 qn13 qc13, .slice qa14 qn14 qc14] 25)
  have Xq5 := Box.new w4 #[.int .i64 ofreq, .int .i64 oitv, .int .i64 ocnt, .int .i64 otil, .int .i64 owkst, .bool oends, .slice qa6 qn6 qc6, .slice qa7 qn7 qc7, .slice qa8 qn8 qc8, .slice qa9 qn9 qc9, .slice qa10 qn10 qc10, .slice qa11 qn11 qc11, .slice qa12 qn12 qc12, .slice qa13 qn13 qc13, .slice qa14 qn14 qc14] 25
  have Rq5 := hS.below b5
  clear hS
  generalize w4.alloc (.cells #[.int .i64 ofreq, .int .i64 oitv, .int .i64 ocnt, .int .i64 otil, .int .i64 owkst, .bool oends, .slice qa6 qn6 qc6, .slice qa7 qn7 qc7, .slice qa8 qn8 qc8, .slice qa9 qn9 qc9, .slice qa10 qn10 qc10, .slice qa11 qn11 qc11, .slice qa12 qn12 qc12, .slice qa13 qn13 qc13, .slice qa14 qn14 qc14] 25) = w5 at *
  have B5 := B4.trans (b5.mono B4.size)
  have Xp5 := Xp4.below b5
  have Rp5 := Rp4.below b5
  clear B4 Xp4 Rp4
  clear b5
  have ea : ((a : Int) == a) = true := by simp
  have ex : ((x : Int) == x) = true := by simp
  go_wp2_with fail
  refine (first_is _ (TT.out.on B5)).mono ?_
  rintro e w6 ⟨rfl, b6⟩
  have B6 := B5.trans (b6.mono B5.size)
  have Xp6 := Xp5.below b6
  have Xq6 := Xq5.below b6
  have Rp6 := Rp5.below b6
  have Rq6 := Rq5.below b6
  clear B5 Xp5 Xq5 Rp5 Rq5
  clear b6
  have pz0 : w6.cell? ⟨w2.heap.size, 0, none⟩ = some (.int .i64 ofreq) := Xp6.at_ 0 _ rfl
  have pz1 : w6.cell? ⟨w2.heap.size, 1, none⟩ = some (.int .i64 oitv) := Xp6.at_ 1 _ rfl
  have pz2 : w6.cell? ⟨w2.heap.size, 2, none⟩ = some (.int .i64 ocnt) := Xp6.at_ 2 _ rfl
  have pz3 : w6.cell? ⟨w2.heap.size, 3, none⟩ = some (.int .i64 otil) := Xp6.at_ 3 _ rfl
  have pz4 : w6.cell? ⟨w2.heap.size, 4, none⟩ = some (.int .i64 owkst) := Xp6.at_ 4 _ rfl
  have pz5 : w6.cell? ⟨w2.heap.size, 5, none⟩ = some (.bool oends) := Xp6.at_ 5 _ rfl
  have pz6 : w6.cell? ⟨w2.heap.size, 6, none⟩ = some (.slice pa6 pn6 pc6) := Xp6.at_ 6 _ rfl
  have pz7 : w6.cell? ⟨w2.heap.size, 7, none⟩ = some (.slice pa7 pn7 pc7) := Xp6.at_ 7 _ rfl
  have pz8 : w6.cell? ⟨w2.heap.size, 8, none⟩ = some (.slice pa8 pn8 pc8) := Xp6.at_ 8 _ rfl
  have pz9 : w6.cell? ⟨w2.heap.size, 9, none⟩ = some (.slice pa9 pn9 pc9) := Xp6.at_ 9 _ rfl
  have pz10 : w6.cell? ⟨w2.heap.size, 10, none⟩ = some (.slice pa10 pn10 pc10) := Xp6.at_ 10 _ rfl
  have pz11 : w6.cell? ⟨w2.heap.size, 11, none⟩ = some (.slice pa11 pn11 pc11) := Xp6.at_ 11 _ rfl
  have pz12 : w6.cell? ⟨w2.heap.size, 12, none⟩ = some (.slice pa12 pn12 pc12) := Xp6.at_ 12 _ rfl
  have pz13 : w6.cell? ⟨w2.heap.size, 13, none⟩ = some (.slice pa13 pn13 pc13) := Xp6.at_ 13 _ rfl
  have pz14 : w6.cell? ⟨w2.heap.size, 14, none⟩ = some (.slice pa14 pn14 pc14) := Xp6.at_ 14 _ rfl
  have qz0 : w6.cell? ⟨w4.heap.size, 0, none⟩ = some (.int .i64 ofreq) := Xq6.at_ 0 _ rfl
  have qz1 : w6.cell? ⟨w4.heap.size, 1, none⟩ = some (.int .i64 oitv) := Xq6.at_ 1 _ rfl
  have qz2 : w6.cell? ⟨w4.heap.size, 2, none⟩ = some (.int .i64 ocnt) := Xq6.at_ 2 _ rfl
  have qz3 : w6.cell? ⟨w4.heap.size, 3, none⟩ = some (.int .i64 otil) := Xq6.at_ 3 _ rfl
  have qz4 : w6.cell? ⟨w4.heap.size, 4, none⟩ = some (.int .i64 owkst) := Xq6.at_ 4 _ rfl
  have qz5 : w6.cell? ⟨w4.heap.size, 5, none⟩ = some (.bool oends) := Xq6.at_ 5 _ rfl
  have qz6 : w6.cell? ⟨w4.heap.size, 6, none⟩ = some (.slice qa6 qn6 qc6) := Xq6.at_ 6 _ rfl
  have qz7 : w6.cell? ⟨w4.heap.size, 7, none⟩ = some (.slice qa7 qn7 qc7) := Xq6.at_ 7 _ rfl
  have qz8 : w6.cell? ⟨w4.heap.size, 8, none⟩ = some (.slice qa8 qn8 qc8) := Xq6.at_ 8 _ rfl
  have qz9 : w6.cell? ⟨w4.heap.size, 9, none⟩ = some (.slice qa9 qn9 qc9) := Xq6.at_ 9 _ rfl
  have qz10 : w6.cell? ⟨w4.heap.size, 10, none⟩ = some (.slice qa10 qn10 qc10) := Xq6.at_ 10 _ rfl
  have qz11 : w6.cell? ⟨w4.heap.size, 11, none⟩ = some (.slice qa11 qn11 qc11) := Xq6.at_ 11 _ rfl
  have qz12 : w6.cell? ⟨w4.heap.size, 12, none⟩ = some (.slice qa12 qn12 qc12) := Xq6.at_ 12 _ rfl
  have qz13 : w6.cell? ⟨w4.heap.size, 13, none⟩ = some (.slice qa13 qn13 qc13) := Xq6.at_ 13 _ rfl
  have qz14 : w6.cell? ⟨w4.heap.size, 14, none⟩ = some (.slice qa14 qn14 qc14) := Xq6.at_ 14 _ rfl
  go_wp2_with fail
  refine (rrule_is _ ⟨pa6, pn6, pc6, pa7, pn7, pc7, pa8, pn8, pc8, pa9, pn9, pc9, pa10, pn10, pc10, pa11, pn11, pc11, pa12, pn12, pc12, pa13, pn13, pc13, pa14, pn14, pc14⟩ ⟨qa6, qn6, qc6, qa7, qn7, qc7, qa8, qn8, qc8, qa9, qn9, qc9, qa10, qn10, qc10, qa11, qn11, qc11, qa12, qn12, qc12, qa13, qn13, qc13, qa14, qn14, qc14⟩ ⟨ofreq, oitv, ocnt, otil, owkst, oends, omon, oweek, oyday, omday, oday, ohour, ominu, osec, opos⟩ ⟨ofreq, oitv, ocnt, otil, owkst, oends, omon, oweek, oyday, omday, oday, ohour, ominu, osec, opos⟩ true Rp6 Rq6 (decide_eq_true rfl)).mono ?_
  rintro e w7 ⟨rfl, b7⟩
  clear pz0 pz1 pz2 pz3 pz4 pz5 pz6 pz7 pz8 pz9 pz10 pz11 pz12 pz13 pz14 qz0 qz1 qz2 qz3 qz4 qz5 qz6 qz7 qz8 qz9 qz10 qz11 qz12 qz13 qz14
  have B7 := B6.trans (b7.mono B6.size)
  have Xp7 := Xp6.below b7
  have Xq7 := Xq6.below b7
  have Rp7 := Rp6.below b7
  have Rq7 := Rq6.below b7
  clear B6 Xp6 Xq6 Rp6 Rq6
  clear b7
  go_wp2
  go_ret
  exact ⟨rfl, B7⟩
theorem parses_walk (w : World) (T : Tabs w) (s : ByteArray) (hz : s.size ≤ maxLen) :
    Calls Tryz.prog 4 #[.string s] w fun e w' => e = .returned (.bool true) ∧ Below w.heap.size w w' := by
  by_cases hl : 5000 < s.size
  · exact parses_long w T s hz hl
  · exact parses_main w T s hz (by omega)
end Go.Proofs.YtajgagmpdhmbkaaGreatDoor.Ru
