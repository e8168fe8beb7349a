/- What chapter 8's examples fix. -/
import Derived.Test.YtnfcchimkfnmkaaGreatDoorMbEx
import Derived.Test.YtnfcchimkfnmkaaGreatDoorExMathB
set_option linter.unusedVariables false
namespace Go.Proofs.YtnfcchimkfnmkaaGreatDoor.Ex
open Cv St Ru Dd Mb

def exD : Ru := ⟨4, 1, 3, 0, 0, false, [], [], [], [], [], [], [], [], []⟩
def exS : Ru := ⟨7, 1, 0, 0, 0, false, [], [], [], [], [], [], [], [], []⟩
def txD : List UInt8 := [70, 82, 69, 81, 61, 68, 65, 73, 76, 89, 59, 67, 79, 85, 78, 84, 61, 51]
def txS : List UInt8 := [70, 82, 69, 81, 61, 83, 69, 67, 79, 78, 68, 76, 89]
theorem itoa_3 : Lib.itoa 3 = [51] := by
  unfold Lib.itoa
  rw [if_neg (by decide), show (3 : Int).toNat = 3 from rfl, Lib.decDigits_one (by decide)]; rfl
theorem exD_may : mayR exD = true := by decide +kernel
theorem exS_may : mayR exS = true := by decide +kernel
theorem exS_text : ruText exS = txS := by decide +kernel
theorem exD_text : ruText exD = txD := by
  have f : fieldsP exD = [(0, freqW 4), (2, [51])] := by
    unfold fieldsP exD
    simp only [itoa_3]
    rfl
  unfold ruText
  rw [f]
  decide
theorem exD_parse : ruParse txD = (exD, 0, 0) := by
  have h := print_parse exD_may
  rw [exD_text] at h
  exact h
theorem exS_parse : ruParse txS = (exS, 0, 0) := by
  have h := print_parse exS_may
  rw [exS_text] at h
  exact h
theorem ex8_a : St.parse [50, 48, 50, 54, 48, 49, 48, 49, 84, 48, 48, 48, 48, 48, 48] = (1767225600, 0) := by decide +kernel
theorem ex8_b : St.parse [50, 48, 50, 55, 48, 49, 48, 49, 84, 48, 48, 48, 48, 48, 48] = (1798761600, 0) := by decide +kernel
theorem exD_list : listR exD 1767225600 1798761600 10 = ([1767225600, 1767312000, 1767398400], 0) := by
  have e : momL exD 1767225600 1767225600 1798761600 = [1767225600, 1767312000, 1767398400] := by
    have h : selL (hasM exD 1767225600) 1767225600 1767398401 = [1767225600, 1767312000, 1767398400] := by
      refine (sel_eq (by decide) fun x => ?_).symm
      have q : hasM exD 1767225600 x = hasM (dailyR 1) 1767225600 x := less_count (r := dailyR 1) (c := 3) (daily_may (by decide) (by decide)) exD_may
      rw [q, daily_has]
      constructor
      · intro hx
        have hx : x = 1767225600 ∨ x = 1767312000 ∨ x = 1767398400 := by simpa using hx
        have m : St.may x = true := decide_eq_true (by omega)
        rw [daily_raw (by decide) (by decide) (by decide) m]
        refine ⟨by omega, by omega, ?_⟩
        rcases hx with rfl | rfl | rfl <;> decide
      · rintro ⟨a, b, c⟩
        have m : St.may x = true := decide_eq_true (by omega)
        rw [daily_raw (by decide) (by decide) (by decide) m] at c
        simp only [Bool.and_eq_true, decide_eq_true_eq] at c
        have : x = 1767225600 ∨ x = 1767312000 ∨ x = 1767398400 := by omega
        simpa using this
    unfold momL cutL
    rw [if_neg (by decide), show hiR exD 1798761600 = 1798761600 from rfl, ← sel_cat (b := 1767398401) (by decide) (by decide), h]
    rfl
  unfold listR
  rw [if_neg (by decide +kernel), e]
  rfl
theorem exS_list : listR exS 1767225600 1798761600 10 = ([], 10) := by
  have l : (selL (hasM exS 1767225600) 1767225600 1767225611).length = 11 := by decide +kernel
  have e : (10 : Int) < (momL exS 1767225600 1767225600 1798761600).length := by
    unfold momL cutL
    rw [if_pos (by decide), show hiR exS 1798761600 = 1798761600 from rfl, ← sel_cat (b := 1767225611) (by decide) (by decide), List.length_append, l]
    omega
  unfold listR
  rw [if_neg (by decide +kernel), if_pos e]
end Go.Proofs.YtnfcchimkfnmkaaGreatDoor.Ex
