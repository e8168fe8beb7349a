/- Plain mathematics of Add and Remove. -/
import Derived.Test.YtjodhfehfpmfaaaIvIns
import Derived.Test.YtjodhfehfpmfaaaIvFind
set_option linter.unusedVariables false
namespace Go.Proofs.Ytjodhfehfpmfaaa.Iv

theorem ins_mem {ow : List Int} {k : Nat} {x n : Int} : n ∈ insI ow k x ↔ n ∈ ow ∨ n = x := by
  unfold insI
  rw [List.mem_append, List.mem_cons]
  constructor
  · rintro (h | h | h)
    · exact .inl (List.mem_of_mem_take h)
    · exact .inr h
    · exact .inl (List.mem_of_mem_drop h)
  · rintro (h | h)
    · rw [← List.take_append_drop k ow] at h
      rcases List.mem_append.1 h with q | q
      · exact .inl q
      · exact .inr (.inr q)
    · exact .inr (.inl h)
theorem part_lt {ow : List Int} {x : Int} (h : ow.Pairwise (· < ·)) : ow.filter (fun t => decide (t < x)) = ow.take (ow.countP (· < x)) :=
  filter_take (h.imp fun {a b} q r => decide_eq_true (by have := of_decide_eq_true r; omega))
theorem part_ge {ow : List Int} {x : Int} (h : ow.Pairwise (· < ·)) : ow.filter (fun t => !decide (t < x)) = ow.drop (ow.countP (· < x)) := by
  rw [filter_drop (h.imp fun {a b} q r => by simp only [Bool.not_eq_true', decide_eq_false_iff_not] at r ⊢; omega)]
  simp
theorem ins_rise {ow : List Int} {x : Int} (h : ow.Pairwise (· < ·)) (hx : x ∉ ow) : (insI ow (ow.countP (· < x)) x).Pairwise (· < ·) := by
  have lo : ∀ a ∈ ow.take (ow.countP (· < x)), a < x := fun a ha => by
    rw [← part_lt h] at ha
    exact of_decide_eq_true (List.mem_filter.1 ha).2
  have hi : ∀ a ∈ ow.drop (ow.countP (· < x)), x < a := fun a ha => by
    have m := List.mem_of_mem_drop ha
    rw [← part_ge h] at ha
    have := (List.mem_filter.1 ha).2
    simp only [Bool.not_eq_true', decide_eq_false_iff_not] at this
    rcases Int.lt_or_eq_of_le (Int.not_lt.1 this) with q | q
    · exact q
    · rw [q] at hx; exact absurd m hx
  unfold insI
  rw [List.pairwise_append, List.pairwise_cons]
  refine ⟨h.sublist (List.take_sublist _ _), ⟨hi, h.sublist (List.drop_sublist _ _)⟩, fun a ha b hb => ?_⟩
  rcases List.mem_cons.1 hb with rfl | hb
  · exact lo a ha
  · have := lo a ha; have := hi b hb; omega
/-- the owners behind an Add -/
def addO (sp : List (Int × Int)) (owner : Int) (ow : List Int) : List Int := if sp = [] then ow else insI ow (ow.countP (· < owner)) owner
theorem add_nil {owner : Int} {all : List Tg} {ow : List Int} (h : SetOk all ow) : addL [] owner all = all :=
  (add_of h Norms.nil (fun _ _ _ hs => by cases hs) h.rises fun x => by simp).symm
theorem clash_owner {sp : List (Int × Int)} {owner : Int} {all : List Tg} {ow : List Int} (h : SetOk all ow) (ho : owner ∉ ow) : clashL owner sp all = clashL 0 sp all := by
  have e : ∀ l : List Tg, (∀ t ∈ l, t ∈ all) → clashL owner sp l = clashL 0 sp l := by
    intro l
    induction l with
    | nil => intro _; rfl
    | cons t l ih =>
      intro hl
      have tm := hl t List.mem_cons_self
      have n1 : t.2 ≠ owner := fun q => ho ((h.own owner).2 ⟨t, tm, q⟩)
      have n2 : t.2 ≠ 0 := by have := h.low t tm; omega
      have ih := ih fun x hx => hl x (List.mem_cons_of_mem _ hx)
      unfold clashL at ih ⊢
      rw [List.find?_cons, List.find?_cons, ih]
      simp only [n1, n2, ne_eq, not_false_eq_true, decide_true, Bool.true_and]
  exact e all fun _ q => q
/-- what a set is behind an Add of spans that are put together -/
def addR (sp : List (Int × Int)) (owner : Int) (all : List Tg) (ow : List Int) : List Tg × List Int := if addB sp owner all ow = true then (addL sp owner all, addO sp owner ow) else (all, ow)
theorem addB_low {sp : List (Int × Int)} {owner : Int} {all : List Tg} {ow : List Int} (h : ¬ 1 ≤ owner ∨ owner ∈ ow) : addB sp owner all ow = false := by
  unfold addB
  rcases h with h | h
  · rw [decide_eq_false h]; rfl
  · rw [show decide (owner ∉ ow) = false from decide_eq_false (fun q => q h)]; simp
theorem addB_some {sp : List (Int × Int)} {owner : Int} {all : List Tg} {ow : List Int} {t : Tg} (h : SetOk all ow) (ho : owner ∉ ow) (hc : clashL owner sp all = some t) : addB sp owner all ow = false := by
  unfold addB
  rw [← clash_owner h ho, hc]; simp
theorem addB_yes {sp : List (Int × Int)} {owner : Int} {all : List Tg} {ow : List Int} (h : SetOk all ow) (h1 : 1 ≤ owner) (ho : owner ∉ ow) (hc : clashL owner sp all = none) : addB sp owner all ow = true := by
  unfold addB
  rw [← clash_owner h ho, hc, decide_eq_true h1, decide_eq_true ho]; rfl
theorem addR_no {sp : List (Int × Int)} {owner : Int} {all : List Tg} {ow : List Int} (h : addB sp owner all ow = false) : addR sp owner all ow = (all, ow) := by unfold addR; rw [if_neg (by rw [h]; simp)]
theorem addR_yes {sp : List (Int × Int)} {owner : Int} {all : List Tg} {ow : List Int} (h : addB sp owner all ow = true) : addR sp owner all ow = (addL sp owner all, addO sp owner ow) := by unfold addR; rw [if_pos h]
theorem addO_ok {sp : List (Int × Int)} {owner : Int} {all : List Tg} {ow : List Int} (h : SetOk all ow) (hn : Norms sp) (h1 : 1 ≤ owner) (ho : owner ∉ ow) (hc : clashL owner sp all = none) : SetOk (addL sp owner all) (addO sp owner ow) := by
  have f : Free sp all := free_of h (by rw [← clash_owner h ho]; exact hc)
  by_cases e : sp = []
  · subst e
    rw [add_nil h]
    exact h
  · refine add_ok h hn f h1 ho ?_ fun n => ?_
    · unfold addO
      rw [if_neg e]
      exact ins_rise h.rise ho
    · unfold addO
      rw [if_neg e, ins_mem]
      exact ⟨fun q => q.imp_right fun z => ⟨z, e⟩, fun q => q.imp_right fun z => z.1⟩
theorem addO_len (sp : List (Int × Int)) (owner : Int) (ow : List Int) : (addO sp owner ow).length ≤ ow.length + 1 := by
  unfold addO
  split
  · omega
  · rw [insI_len]; omega
theorem addR_len (sp : List (Int × Int)) (owner : Int) (all : List Tg) (ow : List Int) : (addR sp owner all ow).1.length ≤ all.length + sp.length ∧ (addR sp owner all ow).2.length ≤ ow.length + 1 := by
  unfold addR
  split
  · exact ⟨by rw [add_len]; exact Nat.le_refl _, addO_len _ _ _⟩
  · exact ⟨Nat.le_add_right _ _, Nat.le_add_right _ _⟩
end Go.Proofs.Ytjodhfehfpmfaaa.Iv
