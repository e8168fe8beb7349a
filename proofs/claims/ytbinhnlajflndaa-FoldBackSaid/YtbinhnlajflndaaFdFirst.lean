/- The walk of voklaw4's first. -/
import Derived.Test.YtbinhnlajflndaaFdSplit
import Derived.Test.YtbinhnlajflndaaFdName
set_option linter.unusedVariables false
namespace Go.Proofs.Ytbinhnlajflndaa.Fd
open Go.RowKit Cv St

/-- Split by names: the lines, the place and the error that it answers -/
theorem split_is (w : World) (A : Option Addr) (n c : Nat) (l : List UInt8) (L : List (List UInt8)) (N E : Int) (h : BsAt w A n l) (hnc : n ≤ c) (hn : n ≤ 9223372036854775807) (hL : splitL l = L) (hN : splitN l = N) (hE : splitE l = E) :
    Calls Try.prog 32 #[.slice A n c] w fun e w' => ∃ B d, e = .returned (.tuple #[.slice B (L.map str).length d, .int .i64 N, .int .i64 E]) ∧ SsAt w' B (L.map str).length (L.map str) ∧ Below w.heap.size w w' := by
  subst hL; subst hN; subst hE
  refine (split_any w A n c l h hnc hn).mono ?_
  rintro e w' ⟨v, rfl, ho, hb⟩
  obtain ⟨B, d, rfl, hs⟩ := ho.at_
  exact ⟨B, d, rfl, hs, hb⟩
def litB : List UInt8 := [65, 58, 49, 13, 10, 66, 58, 50, 10, 32, 51]
theorem lit_lines : lines [] litB = [[65, 58, 49], [66, 58, 50, 51]] := by
  unfold litB
  rw [lines_step (by decide), show put [] (strip (piece [65, 58, 49, 13, 10, 66, 58, 50, 10, 32, 51])) = [[65, 58, 49]] from by decide, show rest [65, 58, 49, 13, 10, 66, 58, 50, 10, 32, 51] = [66, 58, 50, 10, 32, 51] from by decide,
    lines_step (by decide), show put [[65, 58, 49]] (strip (piece [66, 58, 50, 10, 32, 51])) = [[65, 58, 49], [66, 58, 50]] from by decide, show rest [66, 58, 50, 10, 32, 51] = [32, 51] from by decide,
    lines_step (by decide), show put [[65, 58, 49], [66, 58, 50]] (strip (piece [32, 51])) = [[65, 58, 49], [66, 58, 50, 51]] from by decide, show rest [32, 51] = [] from by decide, lines_nil]
theorem lit_split : splitL litB = [[65, 58, 49], [66, 58, 50, 51]] ∧ splitN litB = 0 ∧ splitE litB = 0 := by
  have := split_good (l := litB) (by decide) (by decide)
  rw [lit_lines] at this
  exact this
theorem lit_eq (z : List UInt8) : ((str z).toList == z) = true := by rw [ByteArray.toList_eq, list_str]; simp
def litN : List UInt8 := [68, 84, 83, 84, 65, 82, 84, 59, 84, 90, 73, 68, 61, 49, 58, 50, 48, 50, 54, 48, 49, 48, 49, 84, 48, 48, 48, 48, 48, 48]
set_option maxRecDepth 100000 in
set_option maxHeartbeats 2000000 in
theorem first4_any (w : World) : Calls Try.prog 27 #[] w fun e w' => e = .returned (.bool true) ∧ Below w.heap.size w w' := by
  have kc := const_bytes
  have hl := lit_at w litB #[.int .u8 65, .int .u8 58, .int .u8 49, .int .u8 13, .int .u8 10, .int .u8 66, .int .u8 58, .int .u8 50, .int .u8 10, .int .u8 32, .int .u8 51] 5 (11, 12) rfl
  have ba := (Below.refl w.heap.size w).alloc (Nat.le_refl _) (.cells #[.int .u8 65, .int .u8 58, .int .u8 49, .int .u8 13, .int .u8 10, .int .u8 66, .int .u8 58, .int .u8 50, .int .u8 10, .int .u8 32, .int .u8 51] 5 (11, 12))
  have S := Lib.hid lit_split
  have H := Lib.hid (split_is _ (some ⟨w.heap.size, 0, none⟩) 11 11 litB _ _ _ hl (by omega) (by omega) S.out.1 S.out.2.1 S.out.2.2)
  have N := Lib.hid (fun w => name_is (str litN) [68, 84, 83, 84, 65, 82, 84] [84, 90, 73, 68, 61, 49] [50, 48, 50, 54, 48, 49, 48, 49, 84, 48, 48, 48, 48, 48, 48] true w (by rw [str_size]; decide) (by rw [list_str]; decide) (by rw [list_str]; decide) (by rw [list_str]; decide) (by rw [list_str]; decide))
  clear hl
  go_enter Try.func27, Try.ntmps27
  go_wp2_with fail
  refine H.out.mono ?_
  rintro e w1 ⟨B, d, rfl, hs, h1⟩
  go_wp2_with fail
  refine (N.out _).mono ?_
  rintro e w2 ⟨rfl, h2⟩
  have hs2 := hs.below h2
  obtain ⟨b, off, rfl, hlt, hc⟩ := hs2.2 (by decide)
  have c0 := hc 0 (by decide)
  have c1 := hc 1 (by decide)
  rw [Nat.add_zero] at c0
  have b2 := (ba.trans (h1.mono ba.size)).trans (h2.mono (by have := h1.size; have := ba.size; omega))
  replace c0 : w2.cell? ⟨b, off, none⟩ = some (.string (str [65, 58, 49])) := c0
  replace c1 : w2.cell? ⟨b, off + 1, none⟩ = some (.string (str [66, 58, 50, 51])) := c1
  have e1 := lit_eq [65, 58, 49]; have e2 := lit_eq [66, 58, 50, 51]; have e3 := lit_eq [68, 84, 83, 84, 65, 82, 84]; have e4 := lit_eq [84, 90, 73, 68, 61, 49]; have e5 := lit_eq [50, 48, 50, 54, 48, 49, 48, 49, 84, 48, 48, 48, 48, 48, 48]
  clear hc hs hs2 H N S kc
  go_wp2
  go_ret
  exact ⟨rfl, b2⟩
end Go.Proofs.Ytbinhnlajflndaa.Fd
