/- What chapter 7's example fixes. -/
import Derived.Test.YtajgagmpdhmbkaaGreatDoorMbLaw
set_option linter.unusedVariables false
namespace Go.Proofs.YtajgagmpdhmbkaaGreatDoor.Mb
open Cv St Ru Dd

def exR : Ru := ⟨2, 1, 0, 0, 0, false, [], [], [], [], [⟨0, 0⟩, ⟨0, 1⟩, ⟨0, 2⟩, ⟨0, 3⟩, ⟨0, 4⟩], [], [], [], [-1]⟩
def exT : List UInt8 := [70, 82, 69, 81, 61, 77, 79, 78, 84, 72, 76, 89, 59, 66, 89, 68, 65, 89, 61, 77, 79, 44, 84, 85, 44, 87, 69, 44, 84, 72, 44, 70, 82, 59, 66, 89, 83, 69, 84, 80, 79, 83, 61, 45, 49]
theorem itoa_m : Lib.itoa (-1) = [45, 49] := by
  unfold Lib.itoa
  rw [if_pos (by decide), show (-1 : Int).natAbs = 1 from rfl, Lib.decDigits_one (by decide)]; rfl
theorem ex_text : ruText exR = exT := by
  have p12 : listP 12 [-1] = [(12, [45, 49])] := by unfold listP commaL; rw [if_neg (by simp), List.map_singleton, itoa_m]; rfl
  have f : fieldsP exR = [(0, freqW 2), (8, sep 44 [wdayW 0, wdayW 1, wdayW 2, wdayW 3, wdayW 4]), (12, [45, 49])] := by
    unfold fieldsP exR
    rw [p12]
    rfl
  unfold ruText
  rw [f]
  decide
theorem ex_may : mayR exR = true := by decide +kernel
theorem ex_parse : ruParse exT = (exR, 0, 0) := by
  have h := print_parse ex_may
  rw [ex_text] at h
  exact h
-- 2026-01-30T09:00:00, 2026-02-27T09:00:00, 2026-02-26T09:00:00
theorem ex_s : St.parse [50, 48, 50, 54, 48, 49, 51, 48, 84, 48, 57, 48, 48, 48, 48] = (1769763600, 0) := by decide +kernel
theorem ex_a : St.parse [50, 48, 50, 54, 48, 50, 50, 55, 84, 48, 57, 48, 48, 48, 48] = (1772182800, 0) := by decide +kernel
theorem ex_b : St.parse [50, 48, 50, 54, 48, 50, 50, 54, 84, 48, 57, 48, 48, 48, 48] = (1772096400, 0) := by decide +kernel
theorem ex_ha : hasM exR 1769763600 1772182800 = true := by decide +kernel
theorem ex_hb : hasM exR 1769763600 1772096400 = false := by decide +kernel
theorem ex_rb : rawB exR 1769763600 1772096400 = true := by decide +kernel
end Go.Proofs.YtajgagmpdhmbkaaGreatDoor.Mb
