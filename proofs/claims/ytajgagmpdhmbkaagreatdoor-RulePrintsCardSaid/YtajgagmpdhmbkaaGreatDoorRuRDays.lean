/- A rule's text, day by day: plain mathematics for vokref4.Print's loop. -/
import Derived.Test.YtajgagmpdhmbkaaGreatDoorRuRList
set_option linter.unusedVariables false
namespace Go.Proofs.YtajgagmpdhmbkaaGreatDoor.Ru
open Go.RowKit Cv St

def preD (l : List Dy) (t : Nat) : List UInt8 := if t = 0 then [] else 59 :: nameK 8 ++ 61 :: sep 44 ((l.take t).map dayT)
theorem preD_0 (l : List Dy) : preD l 0 = [] := rfl
theorem preD_1 {l : List Dy} (h : 0 < l.length) : preD l 1 = [59, 66, 89, 68, 65, 89, 61] ++ dayT (dat l 0) := by
  cases l with
  | nil => simp at h
  | cons x l => simp [preD, sep, dat, nameK]
theorem preD_succ {l : List Dy} {t : Nat} (h : t < l.length) (h0 : 0 < t) : preD l (t + 1) = preD l t ++ 44 :: dayT (dat l t) := by
  unfold preD
  rw [if_neg (by omega), if_neg (by omega), dat_lt h, List.take_succ_eq_append_getElem h, List.map_append, List.map_singleton, sep_snoc]
  · simp
  · intro e
    have := congrArg List.length e
    rw [List.length_map, List.length_take] at this
    simp only [List.length_nil] at this
    omega
theorem preD_all (l : List Dy) : preD l l.length = partDy (nameK 8) l := by
  unfold preD partDy
  cases l with
  | nil => rfl
  | cons x l => rw [if_neg (by simp), if_neg (by simp), List.take_length]
theorem preD_len {l : List Dy} (hl : ∀ x ∈ l, -53 ≤ x.n ∧ x.n ≤ 53 ∧ 0 ≤ x.w ∧ x.w ≤ 6) {t : Nat} (ht : t ≤ 60) : (preD l t).length ≤ 700 := by
  unfold preD
  split
  · simp
  · have h := days_len11 (l := l.take t) fun x hx => hl x (List.mem_of_mem_take hx)
    have e : (l.take t).length ≤ t := by rw [List.length_take]; omega
    simp only [List.length_append, List.length_cons]
    have n8 : (nameK 8).length = 5 := rfl
    omega
end Go.Proofs.YtajgagmpdhmbkaaGreatDoor.Ru
