/- Pushes one after another, plain. -/
import Derived.Test.YtjodhfehfpmfaaaTiF
import Derived.Test.YtjodhfehfpmfaaaIvOp
set_option linter.unusedVariables false
namespace Go.Proofs.Ytjodhfehfpmfaaa.Ti
open Go.RowKit Iv

def itOf (o : Tg) : It := (o.1.2, o.2)
def pushN (ops : List Tg) : Nat → List It
  | 0 => []
  | t + 1 => insL (itOf (gt ops t)) (pushN ops t)
theorem pushN_srt (ops : List Tg) : ∀ t, Srt (pushN ops t)
  | 0 => List.Pairwise.nil
  | t + 1 => ins_srt _ (pushN_srt ops t)
theorem pushN_len (ops : List Tg) : ∀ t, (pushN ops t).length = t
  | 0 => rfl
  | t + 1 => by
    show (insL _ _).length = _
    rw [ins_len, pushN_len ops t]
theorem pushN_perm (ops : List Tg) : ∀ t, t ≤ ops.length → (pushN ops t).Perm ((ops.take t).map itOf)
  | 0, _ => by
    rw [List.take_zero]
    exact List.Perm.refl _
  | t + 1, h => by
    rw [List.take_succ_eq_append_getElem h, List.map_append]
    refine (ins_perm _ _).trans ?_
    rw [gt_lt h]
    exact (List.perm_append_comm (l₁ := [itOf ops[t]])).trans ((pushN_perm ops t (by omega)).append_right _)
theorem pushN_mem {ops : List Tg} {t : Nat} (ht : t ≤ ops.length) {x : It} : x ∈ pushN ops t ↔ ∃ j, j < t ∧ itOf (gt ops j) = x := by
  rw [(pushN_perm ops t ht).mem_iff, List.mem_map]
  constructor
  · rintro ⟨o, ho, e⟩
    obtain ⟨j, hj, f⟩ := List.mem_iff_getElem.1 ho
    have hj2 : j < t := by rw [List.length_take] at hj; omega
    exact ⟨j, hj2, by rw [gt_lt (by omega), ← e, ← f, List.getElem_take]⟩
  · rintro ⟨j, hj, e⟩
    refine ⟨gt ops j, ?_, e⟩
    rw [gt_lt (by omega)]
    exact List.mem_iff_getElem.2 ⟨j, by rw [List.length_take]; omega, by rw [List.getElem_take]⟩
theorem srt_head {a : It} {L : List It} (h : Srt (a :: L)) {x : It} (hx : x ∈ a :: L) : ltB x a = false := by
  rcases List.mem_cons.1 hx with rfl | hx
  · exact lt_irr _
  · exact (List.pairwise_cons.1 h).1 x hx
/-- has one of the first k operations this item? -/
def metB (ops : List Tg) (x : It) : Nat → Bool
  | 0 => false
  | k + 1 => metB ops x k || (decide ((gt ops k).1.2 = x.1) && decide ((gt ops k).2 = x.2))
theorem met_of {ops : List Tg} {x : It} : ∀ {t j : Nat}, j < t → itOf (gt ops j) = x → metB ops x t = true
  | t + 1, j, h, e => by
    unfold metB
    rcases Nat.lt_or_eq_of_le (Nat.lt_succ_iff.1 h) with q | q
    · rw [met_of q e]; rfl
    · subst q
      subst e
      simp [itOf]
end Go.Proofs.Ytjodhfehfpmfaaa.Ti
