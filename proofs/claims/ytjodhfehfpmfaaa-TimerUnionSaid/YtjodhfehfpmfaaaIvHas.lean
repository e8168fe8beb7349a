/- vokref.Has. -/
import Derived.Test.YtjodhfehfpmfaaaIvMem
set_option linter.unusedVariables false
namespace Go.Proofs.Ytjodhfehfpmfaaa.Iv
open Go.RowKit

set_option maxRecDepth 100000 in
set_option maxHeartbeats 4000000 in
theorem has_any (w : World) (A : Option Addr) (n c : Nat) (l : List Int) (x : Int) (hA : IsAt w A n l) (hn : n ≤ 9223372036854775807) :
    Calls Try.prog 34 #[.slice A n c, .int .i64 x] w fun e w' => e = .returned (.bool (decide (x ∈ l))) ∧ Below w.heap.size w w' := by
  have HA := Lib.hid hA
  have LN := Lib.hid hA.1
  clear hA
  go_enter Try.func34, Try.ntmps34
  go_wp2
  go_loopw [5] (fun i wr => ∃ t : Nat, i = .int .i64 t ∧ t ≤ n ∧ Hid (∀ j, j < t → gt l j ≠ x) ∧ Below w.heap.size w wr) (fun i _ => n - (intOf i).toNat)
  case atStart => exact ⟨0, rfl, Nat.zero_le _, Lib.hid fun j hj => absurd hj (by omega), Below.refl _ _⟩
  case round =>
    obtain ⟨wo, rfl⟩ : ∃ wo : World, wo = wr := ⟨_, rfl⟩
    obtain ⟨t, rfl, ht, D, hB⟩ := hrel
    by_cases hlt : t < n
    · have s0 : decide ((t : Int) < n) = true := decide_eq_true (by omega)
      have s00 : decide (t < n) = true := decide_eq_true hlt
      have i5 : (t : Int) < n := by omega
      have W1 : IntKind.i64.wrap ((t : Int) + 1) = (t : Int) + 1 := IntWalk.i64_in _ (by omega)
      obtain ⟨b1, o1, rfl, hl1, hc1⟩ := HA.out.2 (by omega)
      have c0 := (hB.cell (p := ⟨b1, _, none⟩) hl1).trans (hc1 t hlt)
      have GM := Lib.hid (show gt l t ∈ l from gt_mem (by rw [← LN.out]; exact hlt))
      have ST := Lib.hid (fun (h : gt l t ≠ x) => show ∀ j, j < t + 1 → gt l j ≠ x from fun j hj => by
        by_cases e : j = t
        · subst e; exact h
        · exact D.out j (by omega))
      clear hc1 D
      generalize gt l t = y at *
      by_cases hy : y = x
      · have s1 : ((y : Int) == x) = true := by rw [beq_iff_eq]; exact hy
        have F := Lib.hid (show true = decide (x ∈ l) from yes_bool (hy ▸ GM.out))
        clear hy ST
        go_wp2
        go_ret
        exact ⟨ret_bool F.out, hB⟩
      · have s1 : ((y : Int) == x) = false := by rw [beq_eq_false_iff_ne]; exact hy
        have S2 := Lib.hid (ST.out hy)
        clear hy ST
        go_wp2
        go_roundw
        case rel => exact ⟨t + 1, by go_num, by omega, S2, hB⟩
        case measure => simp [intOf]; omega
    · obtain rfl : n = t := by omega
      have s0 : decide ((n : Int) < n) = false := decide_eq_false (by omega)
      have s00 : decide (n < n) = false := decide_eq_false (by omega)
      have F := Lib.hid (show false = decide (x ∈ l) from no_bool (fun e => by
        obtain ⟨j, hj, ej⟩ := List.getElem_of_mem e
        exact D.out j (by rw [LN.out]; exact hj) (by rw [gt_lt hj]; exact ej)))
      go_wp2
      go_ret
      exact ⟨ret_bool F.out, hB⟩
end Go.Proofs.Ytjodhfehfpmfaaa.Iv
