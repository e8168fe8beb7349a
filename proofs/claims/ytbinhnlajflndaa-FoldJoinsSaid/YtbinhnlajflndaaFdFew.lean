/- The walk of voklaw4's few. -/
import Derived.Test.YtbinhnlajflndaaFdJoin2
set_option linter.unusedVariables false
namespace Go.Proofs.Ytbinhnlajflndaa.Fd
open Go.RowKit Cv St

def sumTo (l : List ByteArray) : Nat → Nat
  | 0 => 0
  | k + 1 => sumTo l k + min (sat l k).size 6001
theorem sumTo_le (l : List ByteArray) : ∀ k, sumTo l k ≤ 6001 * k
  | 0 => Nat.le_refl _
  | k + 1 => by have := sumTo_le l k; unfold sumTo; omega
theorem sumTo_at (l : List ByteArray) : ∀ {k j : Nat}, j < k → sumTo l k ≤ 6000 → (sat l j).size ≤ 6000
  | 0, _, h, _ => by omega
  | k + 1, j, h, g => by
    unfold sumTo at g
    by_cases e : j = k
    · subst e; omega
    · exact sumTo_at l (k := k) (by omega) (by omega)
def fewS (l : List ByteArray) (n : Nat) : Bool := decide (n ≤ 300 ∧ sumTo l (min n 300) ≤ 6000)
theorem few_sizes {l : List ByteArray} {n : Nat} (e : n = l.length) (h : fewS l n = true) : n ≤ 300 ∧ ∀ j, (sat l j).size ≤ 6000 := by
  obtain ⟨h1, h2⟩ := of_decide_eq_true h
  refine ⟨h1, fun j => ?_⟩
  by_cases g : j < n
  · rw [Nat.min_eq_left h1] at h2
    exact sumTo_at l g h2
  · have : sat l j = ⟨#[]⟩ := by unfold sat; rw [List.getD_eq_getElem?_getD, List.getElem?_eq_none (by omega)]; rfl
    rw [this]; decide
set_option maxRecDepth 100000 in
set_option maxHeartbeats 2000000 in
theorem few_any (w : World) (A : Option Addr) (n c : Nat) (l : List ByteArray) (h : SsAt w A n l) (hn : n ≤ 9223372036854775807) (hz : ∀ j, (sat l j).size ≤ maxLen) :
    Calls Try.prog 28 #[.slice A n c] w fun e w' => e = .returned (.bool (fewS l n)) ∧ w = w' := by
  have HC := Lib.hid h.2
  have HZ := Lib.hid hz
  clear h hz
  go_enter Try.func28, Try.ntmps28
  go_wp2
  go_loop [3, 4] (fun s i => ∃ t : Nat, t ≤ n ∧ t ≤ 300 ∧ i = .int .i64 t ∧ s = .int .i64 (sumTo l t : Nat)) (fun _ i => n - (intOf i).toNat)
  case atStart => exact ⟨0, Nat.zero_le _, by omega, rfl, rfl⟩
  case round =>
    obtain ⟨t, ht, ht3, rfl, rfl⟩ := hrel
    have sl := sumTo_le l t
    by_cases hlt : t < n
    · by_cases h3 : t < 300
      · obtain ⟨b, off, rfl, hb, hcc⟩ := HC.out (by omega)
        have c0 := hcc t hlt
        have zs := HZ.out t
        unfold maxLen at zs
        obtain ⟨m, hm, hm2⟩ : ∃ m : Nat, min ((sat l t).size : Int) 6001 = (m : Int) ∧ m = min (sat l t).size 6001 := ⟨_, by omega, rfl⟩
        have m6 : m ≤ 6001 := by omega
        have SS := Lib.hid (show sumTo l (t + 1) = sumTo l t + m from by rw [hm2]; rfl)
        have h3' : (t : Int) < 300 := by omega
        clear hcc hm2
        generalize sumTo l t = q at *
        generalize sat l t = s at *
        go_wp2
        go_round
        case rel => exact ⟨t + 1, by omega, by omega, by go_num, by rw [SS.out]; go_num⟩
        case measure => simp [intOf]; omega
      · have e : t = 300 := by omega
        have F := Lib.hid (show false = fewS l n from no_bool (fun k => by omega))
        have h3' : (300 : Int) ≤ (t : Int) := by omega
        have hn3 : (300 : Int) < (n : Int) := by omega
        clear h3 e
        generalize sumTo l t = q at *
        go_wp2
        go_ret
        exact ⟨ret_bool F.out, rfl⟩
    · obtain rfl : n = t := by omega
      have mm : min n 300 = n := by omega
      by_cases h6 : sumTo l n ≤ 6000
      · have F := Lib.hid (show true = fewS l n from yes_bool ⟨ht3, by rw [mm]; exact h6⟩)
        have n3 : (n : Int) ≤ 300 := by omega
        have s6 : ((sumTo l n : Nat) : Int) ≤ 6000 := by omega
        clear mm h6
        generalize sumTo l n = q at *
        go_wp2
        go_ret
        exact ⟨ret_bool F.out, rfl⟩
      · have F := Lib.hid (show decide (((sumTo l n : Nat) : Int) ≤ 6000) = fewS l n from by
          rw [decide_eq_false (by omega)]; exact no_bool (fun k => h6 (by have := k.2; rwa [mm] at this)))
        have n3 : (n : Int) ≤ 300 := by omega
        have s6 : (6000 : Int) < ((sumTo l n : Nat) : Int) := by omega
        clear mm h6
        generalize sumTo l n = q at *
        go_wp2
        go_ret
        exact ⟨ret_bool F.out, rfl⟩
end Go.Proofs.Ytbinhnlajflndaa.Fd
