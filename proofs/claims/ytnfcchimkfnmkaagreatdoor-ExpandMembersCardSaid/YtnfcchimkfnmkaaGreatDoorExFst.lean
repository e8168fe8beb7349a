/- voklaw8.first answers true. -/
import Derived.Test.YtnfcchimkfnmkaaGreatDoorExL
import Derived.Test.YtnfcchimkfnmkaaGreatDoorExEx
set_option linter.unusedVariables false
namespace Go.Proofs.YtnfcchimkfnmkaaGreatDoor.Ex
open Go.RowKit Cv St Ru Dd Mb

set_option maxRecDepth 100000 in
set_option maxHeartbeats 16000000 in
theorem threeI (w : World) (x y z : Int) : IsAt (w.alloc (.cells #[.int .i64 x, .int .i64 y, .int .i64 z] 3)) (some ⟨w.heap.size, 0, none⟩) 3 [x, y, z] :=
  ⟨rfl, fun _ => ⟨w.heap.size, 0, rfl, by simp, fun j hj => by
    rcases (by omega : j = 0 ∨ j = 1 ∨ j = 2) with rfl | rfl | rfl <;> simp [go_sem, iat]⟩⟩
set_option maxRecDepth 100000 in
set_option maxHeartbeats 16000000 in
theorem first8_is (w : World) (T : Tabs w) : Calls Tryz.prog 11 #[] w fun e w' => e = .returned (.bool true) ∧ Below w.heap.size w w' := by
  have TT := Lib.hid T
  clear T
  show Calls Tryz.prog 11 #[] w _
  go_enter Tryz.func11, Tryz.ntmps11
  have B0 := Below.refl w.heap.size w
  go_wp2_with fail
  refine (parse_ok ⟨#[70, 82, 69, 81, 61, 68, 65, 73, 76, 89, 59, 67, 79, 85, 78, 84, 61, 51]⟩ _ (TT.out.on B0) exD 0 0 exD_parse).mono ?_
  rintro e w1 ⟨⟨pa6, pn6, pc6, pa7, pn7, pc7, pa8, pn8, pc8, pa9, pn9, pc9, pa10, pn10, pc10, pa11, pn11, pc11, pa12, pn12, pc12, pa13, pn13, pc13, pa14, pn14, pc14⟩, he, hS, b1⟩
  replace he : e = .returned (.tuple #[.agg #[.int .i64 4, .int .i64 1, .int .i64 3, .int .i64 0, .int .i64 0, .bool false, .slice pa6 pn6 pc6, .slice pa7 pn7 pc7, .slice pa8 pn8 pc8, .slice pa9 pn9 pc9, .slice pa10 pn10 pc10, .slice pa11 pn11 pc11, .slice pa12 pn12 pc12, .slice pa13 pn13 pc13, .slice pa14 pn14 pc14], .int .i64 0, .int .i64 0]) := he
  subst he
  have B1 := B0.trans (b1.mono B0.size)
  clear B0
  clear b1
  go_upto_region 2 with fail
  have b2 := alloc_below w1 (.cells #[.int .i64 4, .int .i64 1, .int .i64 3, .int .i64 0, .int .i64 0, .bool false, .slice pa6 pn6 pc6, .slice pa7 pn7 pc7, .slice pa8 pn8 pc8, .slice pa9 pn9 pc9, .slice pa10 pn10 pc10, .slice pa11 pn11 pc11, .slice pa12 pn12 pc12, .slice pa13 pn13 pc13, .slice pa14 pn14 pc14] 25)
  have Xp2 := Box.new w1 #[.int .i64 4, .int .i64 1, .int .i64 3, .int .i64 0, .int .i64 0, .bool false, .slice pa6 pn6 pc6, .slice pa7 pn7 pc7, .slice pa8 pn8 pc8, .slice pa9 pn9 pc9, .slice pa10 pn10 pc10, .slice pa11 pn11 pc11, .slice pa12 pn12 pc12, .slice pa13 pn13 pc13, .slice pa14 pn14 pc14] 25
  have Rp2 := hS.below b2
  clear hS
  generalize w1.alloc (.cells #[.int .i64 4, .int .i64 1, .int .i64 3, .int .i64 0, .int .i64 0, .bool false, .slice pa6 pn6 pc6, .slice pa7 pn7 pc7, .slice pa8 pn8 pc8, .slice pa9 pn9 pc9, .slice pa10 pn10 pc10, .slice pa11 pn11 pc11, .slice pa12 pn12 pc12, .slice pa13 pn13 pc13, .slice pa14 pn14 pc14] 25) = w2 at *
  have B2 := B1.trans (b2.mono B1.size)
  clear B1
  clear b2
  go_wp2_with fail
  refine (parse_ok ⟨#[70, 82, 69, 81, 61, 83, 69, 67, 79, 78, 68, 76, 89]⟩ _ (TT.out.on B2) exS 0 0 exS_parse).mono ?_
  rintro e w3 ⟨⟨qa6, qn6, qc6, qa7, qn7, qc7, qa8, qn8, qc8, qa9, qn9, qc9, qa10, qn10, qc10, qa11, qn11, qc11, qa12, qn12, qc12, qa13, qn13, qc13, qa14, qn14, qc14⟩, he, hS, b3⟩
  replace he : e = .returned (.tuple #[.agg #[.int .i64 7, .int .i64 1, .int .i64 0, .int .i64 0, .int .i64 0, .bool false, .slice qa6 qn6 qc6, .slice qa7 qn7 qc7, .slice qa8 qn8 qc8, .slice qa9 qn9 qc9, .slice qa10 qn10 qc10, .slice qa11 qn11 qc11, .slice qa12 qn12 qc12, .slice qa13 qn13 qc13, .slice qa14 qn14 qc14], .int .i64 0, .int .i64 0]) := he
  subst he
  have B3 := B2.trans (b3.mono B2.size)
  have Xp3 := Xp2.below b3
  have Rp3 := Rp2.below b3
  clear B2 Xp2 Rp2
  clear b3
  go_upto_region 3 with fail
  have b4 := alloc_below w3 (.cells #[.int .i64 7, .int .i64 1, .int .i64 0, .int .i64 0, .int .i64 0, .bool false, .slice qa6 qn6 qc6, .slice qa7 qn7 qc7, .slice qa8 qn8 qc8, .slice qa9 qn9 qc9, .slice qa10 qn10 qc10, .slice qa11 qn11 qc11, .slice qa12 qn12 qc12, .slice qa13 qn13 qc13, .slice qa14 qn14 qc14] 25)
  have Xq4 := Box.new w3 #[.int .i64 7, .int .i64 1, .int .i64 0, .int .i64 0, .int .i64 0, .bool false, .slice qa6 qn6 qc6, .slice qa7 qn7 qc7, .slice qa8 qn8 qc8, .slice qa9 qn9 qc9, .slice qa10 qn10 qc10, .slice qa11 qn11 qc11, .slice qa12 qn12 qc12, .slice qa13 qn13 qc13, .slice qa14 qn14 qc14] 25
  have Rq4 := hS.below b4
  clear hS
  generalize w3.alloc (.cells #[.int .i64 7, .int .i64 1, .int .i64 0, .int .i64 0, .int .i64 0, .bool false, .slice qa6 qn6 qc6, .slice qa7 qn7 qc7, .slice qa8 qn8 qc8, .slice qa9 qn9 qc9, .slice qa10 qn10 qc10, .slice qa11 qn11 qc11, .slice qa12 qn12 qc12, .slice qa13 qn13 qc13, .slice qa14 qn14 qc14] 25) = w4 at *
  have B4 := B3.trans (b4.mono B3.size)
  have Xp4 := Xp3.below b4
  have Rp4 := Rp3.below b4
  clear B3 Xp3 Rp3
  clear b4
  go_wp2_with fail
  refine (sparse_take ⟨#[50, 48, 50, 54, 48, 49, 48, 49, 84, 48, 48, 48, 48, 48, 48]⟩ 1767225600 0 ex8_a (by decide) _).mono ?_
  rintro e w5 ⟨rfl, b5⟩
  have B5 := B4.trans (b5.mono B4.size)
  have Xp5 := Xp4.below b5
  have Xq5 := Xq4.below b5
  have Rp5 := Rp4.below b5
  have Rq5 := Rq4.below b5
  clear B4 Xp4 Xq4 Rp4 Rq4
  clear b5
  go_wp2_with fail
  refine (sparse_take ⟨#[50, 48, 50, 55, 48, 49, 48, 49, 84, 48, 48, 48, 48, 48, 48]⟩ 1798761600 0 ex8_b (by decide) _).mono ?_
  rintro e w6 ⟨rfl, b6⟩
  have B6 := B5.trans (b6.mono B5.size)
  have Xp6 := Xp5.below b6
  have Xq6 := Xq5.below b6
  have Rp6 := Rp5.below b6
  have Rq6 := Rq5.below b6
  clear B5 Xp5 Xq5 Rp5 Rq5
  clear b6
  have pz0 : w6.cell? ⟨w1.heap.size, 0, none⟩ = some (.int .i64 4) := Xp6.at_ 0 _ rfl
  have pz1 : w6.cell? ⟨w1.heap.size, 1, none⟩ = some (.int .i64 1) := Xp6.at_ 1 _ rfl
  have pz2 : w6.cell? ⟨w1.heap.size, 2, none⟩ = some (.int .i64 3) := Xp6.at_ 2 _ rfl
  have pz3 : w6.cell? ⟨w1.heap.size, 3, none⟩ = some (.int .i64 0) := Xp6.at_ 3 _ rfl
  have pz4 : w6.cell? ⟨w1.heap.size, 4, none⟩ = some (.int .i64 0) := Xp6.at_ 4 _ rfl
  have pz5 : w6.cell? ⟨w1.heap.size, 5, none⟩ = some (.bool false) := Xp6.at_ 5 _ rfl
  have pz6 : w6.cell? ⟨w1.heap.size, 6, none⟩ = some (.slice pa6 pn6 pc6) := Xp6.at_ 6 _ rfl
  have pz7 : w6.cell? ⟨w1.heap.size, 7, none⟩ = some (.slice pa7 pn7 pc7) := Xp6.at_ 7 _ rfl
  have pz8 : w6.cell? ⟨w1.heap.size, 8, none⟩ = some (.slice pa8 pn8 pc8) := Xp6.at_ 8 _ rfl
  have pz9 : w6.cell? ⟨w1.heap.size, 9, none⟩ = some (.slice pa9 pn9 pc9) := Xp6.at_ 9 _ rfl
  have pz10 : w6.cell? ⟨w1.heap.size, 10, none⟩ = some (.slice pa10 pn10 pc10) := Xp6.at_ 10 _ rfl
  have pz11 : w6.cell? ⟨w1.heap.size, 11, none⟩ = some (.slice pa11 pn11 pc11) := Xp6.at_ 11 _ rfl
  have pz12 : w6.cell? ⟨w1.heap.size, 12, none⟩ = some (.slice pa12 pn12 pc12) := Xp6.at_ 12 _ rfl
  have pz13 : w6.cell? ⟨w1.heap.size, 13, none⟩ = some (.slice pa13 pn13 pc13) := Xp6.at_ 13 _ rfl
  have pz14 : w6.cell? ⟨w1.heap.size, 14, none⟩ = some (.slice pa14 pn14 pc14) := Xp6.at_ 14 _ rfl
  go_wp2_with fail
  refine (list_is _ ⟨pa6, pn6, pc6, pa7, pn7, pc7, pa8, pn8, pc8, pa9, pn9, pc9, pa10, pn10, pc10, pa11, pn11, pc11, pa12, pn12, pc12, pa13, pn13, pc13, pa14, pn14, pc14⟩ exD 1767225600 1798761600 10 _ Rp6 exD_list).mono ?_
  rintro e w7 ⟨A1, c1, he, i7, b7⟩
  replace he : e = .returned (.tuple #[.slice A1 3 c1, .int .i64 0]) := he
  subst he
  clear pz0 pz1 pz2 pz3 pz4 pz5 pz6 pz7 pz8 pz9 pz10 pz11 pz12 pz13 pz14
  have B7 := B6.trans (b7.mono B6.size)
  have Xp7 := Xp6.below b7
  have Xq7 := Xq6.below b7
  have Rp7 := Rp6.below b7
  have Rq7 := Rq6.below b7
  clear B6 Xp6 Xq6 Rp6 Rq6
  clear b7
  have I1 := Lib.hid i7
  clear i7
  have qz0 : w7.cell? ⟨w3.heap.size, 0, none⟩ = some (.int .i64 7) := Xq7.at_ 0 _ rfl
  have qz1 : w7.cell? ⟨w3.heap.size, 1, none⟩ = some (.int .i64 1) := Xq7.at_ 1 _ rfl
  have qz2 : w7.cell? ⟨w3.heap.size, 2, none⟩ = some (.int .i64 0) := Xq7.at_ 2 _ rfl
  have qz3 : w7.cell? ⟨w3.heap.size, 3, none⟩ = some (.int .i64 0) := Xq7.at_ 3 _ rfl
  have qz4 : w7.cell? ⟨w3.heap.size, 4, none⟩ = some (.int .i64 0) := Xq7.at_ 4 _ rfl
  have qz5 : w7.cell? ⟨w3.heap.size, 5, none⟩ = some (.bool false) := Xq7.at_ 5 _ rfl
  have qz6 : w7.cell? ⟨w3.heap.size, 6, none⟩ = some (.slice qa6 qn6 qc6) := Xq7.at_ 6 _ rfl
  have qz7 : w7.cell? ⟨w3.heap.size, 7, none⟩ = some (.slice qa7 qn7 qc7) := Xq7.at_ 7 _ rfl
  have qz8 : w7.cell? ⟨w3.heap.size, 8, none⟩ = some (.slice qa8 qn8 qc8) := Xq7.at_ 8 _ rfl
  have qz9 : w7.cell? ⟨w3.heap.size, 9, none⟩ = some (.slice qa9 qn9 qc9) := Xq7.at_ 9 _ rfl
  have qz10 : w7.cell? ⟨w3.heap.size, 10, none⟩ = some (.slice qa10 qn10 qc10) := Xq7.at_ 10 _ rfl
  have qz11 : w7.cell? ⟨w3.heap.size, 11, none⟩ = some (.slice qa11 qn11 qc11) := Xq7.at_ 11 _ rfl
  have qz12 : w7.cell? ⟨w3.heap.size, 12, none⟩ = some (.slice qa12 qn12 qc12) := Xq7.at_ 12 _ rfl
  have qz13 : w7.cell? ⟨w3.heap.size, 13, none⟩ = some (.slice qa13 qn13 qc13) := Xq7.at_ 13 _ rfl
  have qz14 : w7.cell? ⟨w3.heap.size, 14, none⟩ = some (.slice qa14 qn14 qc14) := Xq7.at_ 14 _ rfl
  go_wp2_with fail
  refine (list_is _ ⟨qa6, qn6, qc6, qa7, qn7, qc7, qa8, qn8, qc8, qa9, qn9, qc9, qa10, qn10, qc10, qa11, qn11, qc11, qa12, qn12, qc12, qa13, qn13, qc13, qa14, qn14, qc14⟩ exS 1767225600 1798761600 10 _ Rq7 exS_list).mono ?_
  rintro e w8 ⟨A2, c2, he, i8, b8⟩
  replace he : e = .returned (.tuple #[.slice A2 0 c2, .int .i64 10]) := he
  subst he
  clear qz0 qz1 qz2 qz3 qz4 qz5 qz6 qz7 qz8 qz9 qz10 qz11 qz12 qz13 qz14
  have B8 := B7.trans (b8.mono B7.size)
  have Xp8 := Xp7.below b8
  have Xq8 := Xq7.below b8
  have Rp8 := Rp7.below b8
  have Rq8 := Rq7.below b8
  clear B7 Xp7 Xq7 Rp7 Rq7
  have I1 := Lib.hid (I1.out.below b8)
  clear b8
  clear i8
  go_wp2_with fail
  refine (ints_any _ A1 _ 3 c1 3 3 [1767225600, 1767312000, 1767398400] [1767225600, 1767312000, 1767398400] (I1.out.below (alloc_below _ _)) (threeI w8 _ _ _) (by decide) (by decide)).mono ?_
  rintro e w9 ⟨he, b9⟩
  have he : e = .returned (.bool true) := by rw [he]; simp
  subst he
  have B9 := (B8.trans ((alloc_below w8 (.cells #[.int .i64 1767225600, .int .i64 1767312000, .int .i64 1767398400] 3)).mono B8.size)).trans (b9.mono (Nat.le_trans B8.size (alloc_below w8 (.cells #[.int .i64 1767225600, .int .i64 1767312000, .int .i64 1767398400] 3)).size))
  go_wp2
  go_ret
  exact ⟨rfl, B9⟩
end Go.Proofs.YtnfcchimkfnmkaaGreatDoor.Ex
