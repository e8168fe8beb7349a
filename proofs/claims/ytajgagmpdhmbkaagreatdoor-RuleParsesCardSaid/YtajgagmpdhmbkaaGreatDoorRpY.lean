/- voklaw5.first answers true. -/
import Derived.Test.YtajgagmpdhmbkaaGreatDoorRpZ
import Derived.Test.YtajgagmpdhmbkaaGreatDoorRuPrint
set_option linter.unusedVariables false
namespace Go.Proofs.YtajgagmpdhmbkaaGreatDoor.Ru
open Go.RowKit Cv St

def FstA (w : World) (p a e : Value) (wx : World) : Prop := ∃ (g : Nat) (S : RS), p = .pointer (some ⟨g, 0, none⟩) ∧ a = .int .i64 0 ∧ e = .int .i64 0 ∧ Box wx g (S.cells ruleA) ∧ RuAt wx S ruleA ∧ Below w.heap.size w wx
set_option maxRecDepth 100000 in
set_option maxHeartbeats 8000000 in
theorem first_is (w : World) (T : Tabs w) : Calls Tryz.prog 11 #[] w fun e w' => e = .returned (.bool true) ∧ Below w.heap.size w w' := by
  have TT := Lib.hid T
  clear T
  go_enter Tryz.func11, Tryz.ntmps11
  go_upto_region 1 with fail
  go_cut [1, 2, 3] (fun p a e wx => FstA w p a e wx)
  case first =>
    go_wp2_with fail
    refine (parse_ok ⟨#[70, 82, 69, 81, 61, 77, 79, 78, 84, 72, 76, 89, 59, 66, 89, 68, 65, 89, 61, 70, 82, 44, 45, 49, 77, 79, 59, 67, 79, 85, 78, 84, 61, 51]⟩ w TT.out ruleA 0 0 first_a).mono ?_
    rintro e w1 ⟨⟨a6, n6, c6, a7, n7, c7, a8, n8, c8, a9, n9, c9, a10, n10, c10, a11, n11, c11, a12, n12, c12, a13, n13, c13, a14, n14, c14⟩, he, hS, b1⟩
    replace he : e = .returned (.tuple #[.agg #[.int .i64 2, .int .i64 1, .int .i64 3, .int .i64 0, .int .i64 0, .bool false, .slice a6 n6 c6, .slice a7 n7 c7, .slice a8 n8 c8, .slice a9 n9 c9, .slice a10 n10 c10, .slice a11 n11 c11, .slice a12 n12 c12, .slice a13 n13 c13, .slice a14 n14 c14], .int .i64 0, .int .i64 0]) := he
    subst he
    have HS := Lib.hid hS
    clear hS
    go_wp2
    go_meet
    have hB := alloc_below w1 (.cells #[.int .i64 2, .int .i64 1, .int .i64 3, .int .i64 0, .int .i64 0, .bool false, .slice a6 n6 c6, .slice a7 n7 c7, .slice a8 n8 c8, .slice a9 n9 c9, .slice a10 n10 c10, .slice a11 n11 c11, .slice a12 n12 c12, .slice a13 n13 c13, .slice a14 n14 c14] 25)
    exact ⟨w1.heap.size, ⟨a6, n6, c6, a7, n7, c7, a8, n8, c8, a9, n9, c9, a10, n10, c10, a11, n11, c11, a12, n12, c12, a13, n13, c13, a14, n14, c14⟩, rfl, rfl, rfl, Box.new w1 #[.int .i64 2, .int .i64 1, .int .i64 3, .int .i64 0, .int .i64 0, .bool false, .slice a6 n6 c6, .slice a7 n7 c7, .slice a8 n8 c8, .slice a9 n9 c9, .slice a10 n10 c10, .slice a11 n11 c11, .slice a12 n12 c12, .slice a13 n13 c13, .slice a14 n14 c14] 25, HS.out.below hB, b1.trans (hB.mono b1.size)⟩
  case rest =>
    obtain ⟨g, S, rfl, rfl, rfl, X1, hS1, B1⟩ := hcut
    generalize wc = w1 at *
    have HS1 := Lib.hid hS1
    clear hS1
    go_upto_region 2 with fail
    go_cut [5, 6] (fun a e wx => a = .int .i64 0 ∧ e = .int .i64 1 ∧ Below w1.heap.size w1 wx)
    case first =>
      go_wp2_with fail
      refine (parse_ok ⟨#[70, 82, 69, 81, 61, 87, 69, 69, 75, 76, 89, 59, 66, 89, 87, 69, 69, 75, 78, 79, 61, 49]⟩ w1 (TT.out.on B1) zeroR 0 1 first_b).mono ?_
      rintro e w2 ⟨⟨a6, n6, c6, a7, n7, c7, a8, n8, c8, a9, n9, c9, a10, n10, c10, a11, n11, c11, a12, n12, c12, a13, n13, c13, a14, n14, c14⟩, he, hS, b2⟩
      replace he : e = .returned (.tuple #[.agg #[.int .i64 0, .int .i64 0, .int .i64 0, .int .i64 0, .int .i64 0, .bool false, .slice a6 n6 c6, .slice a7 n7 c7, .slice a8 n8 c8, .slice a9 n9 c9, .slice a10 n10 c10, .slice a11 n11 c11, .slice a12 n12 c12, .slice a13 n13 c13, .slice a14 n14 c14], .int .i64 0, .int .i64 1]) := he
      subst he
      clear hS
      go_wp2
      go_meet
      have hB := alloc_below w2 (.cells #[.int .i64 0, .int .i64 0, .int .i64 0, .int .i64 0, .int .i64 0, .bool false, .slice a6 n6 c6, .slice a7 n7 c7, .slice a8 n8 c8, .slice a9 n9 c9, .slice a10 n10 c10, .slice a11 n11 c11, .slice a12 n12 c12, .slice a13 n13 c13, .slice a14 n14 c14] 25)
      exact ⟨rfl, rfl, b2.trans (hB.mono b2.size)⟩
    case rest =>
      obtain ⟨rfl, rfl, b2⟩ := hcut
      generalize wc = w2 at *
      have B2 := B1.trans (b2.mono B1.size)
      have X2 := X1.below b2
      have HS2 := Lib.hid (HS1.out.below b2)
      clear B1 X1 HS1 b2
      go_upto_region 3 with fail
      go_cut [8, 9] (fun a e wx => a = .int .i64 1 ∧ e = .int .i64 4 ∧ Below w2.heap.size w2 wx)
      case first =>
        go_wp2_with fail
        refine (parse_ok ⟨#[70, 82, 69, 81, 61, 68, 65, 73, 76, 89, 59, 88]⟩ w2 (TT.out.on B2) zeroR 1 4 first_c).mono ?_
        rintro e w3 ⟨⟨a6, n6, c6, a7, n7, c7, a8, n8, c8, a9, n9, c9, a10, n10, c10, a11, n11, c11, a12, n12, c12, a13, n13, c13, a14, n14, c14⟩, he, hS, b3⟩
        replace he : e = .returned (.tuple #[.agg #[.int .i64 0, .int .i64 0, .int .i64 0, .int .i64 0, .int .i64 0, .bool false, .slice a6 n6 c6, .slice a7 n7 c7, .slice a8 n8 c8, .slice a9 n9 c9, .slice a10 n10 c10, .slice a11 n11 c11, .slice a12 n12 c12, .slice a13 n13 c13, .slice a14 n14 c14], .int .i64 1, .int .i64 4]) := he
        subst he
        clear hS
        go_wp2
        go_meet
        have hB := alloc_below w3 (.cells #[.int .i64 0, .int .i64 0, .int .i64 0, .int .i64 0, .int .i64 0, .bool false, .slice a6 n6 c6, .slice a7 n7 c7, .slice a8 n8 c8, .slice a9 n9 c9, .slice a10 n10 c10, .slice a11 n11 c11, .slice a12 n12 c12, .slice a13 n13 c13, .slice a14 n14 c14] 25)
        exact ⟨rfl, rfl, b3.trans (hB.mono b3.size)⟩
      case rest =>
        obtain ⟨rfl, rfl, b3⟩ := hcut
        generalize wc = w3 at *
        have B3 := B2.trans (b3.mono B2.size)
        have X3 := X2.below b3
        have h10 := (HS2.out.below b3).h10
        have hn := h10.1
        obtain ⟨b, off, ha, hb, hc⟩ := h10.2 (by rw [hn]; decide)
        have c0 : w3.cell? ⟨b, off, none⟩ = some (.int .i64 (-1)) := (hc 0 (by rw [hn]; decide)).1
        have c1 : w3.cell? ⟨b, off + 1, none⟩ = some (.int .i64 0) := (hc 0 (by rw [hn]; decide)).2
        have c2 : w3.cell? ⟨b, off + 2, none⟩ = some (.int .i64 0) := (hc 1 (by rw [hn]; decide)).1
        have c3 : w3.cell? ⟨b, off + 2 + 1, none⟩ = some (.int .i64 4) := (hc 1 (by rw [hn]; decide)).2
        have c4 : w3.cell? ⟨b, off + 3, none⟩ = some (.int .i64 4) := c3
        clear B2 X2 HS2 b3 hc h10
        obtain ⟨a6, n6, c6, a7, n7, c7, a8, n8, c8, a9, n9, c9, a10, n10, c10, a11, n11, c11, a12, n12, c12, a13, n13, c13, a14, n14, c14⟩ := S
        replace ha : a10 = some ⟨b, off, none⟩ := ha
        replace hn : n10 = 2 := hn
        subst ha hn
        have z0 : w3.cell? ⟨g, 0, none⟩ = some (.int .i64 2) := X3.at_ 0 _ rfl
        have z1 : w3.cell? ⟨g, 1, none⟩ = some (.int .i64 1) := X3.at_ 1 _ rfl
        have z2 : w3.cell? ⟨g, 2, none⟩ = some (.int .i64 3) := X3.at_ 2 _ rfl
        have z10 : w3.cell? ⟨g, 10, none⟩ = some (.slice (some ⟨b, off, none⟩) 2 c10) := X3.at_ 10 _ rfl
        clear X3
        go_wp2
        go_ret
        exact ⟨rfl, B3⟩
end Go.Proofs.YtajgagmpdhmbkaaGreatDoor.Ru
