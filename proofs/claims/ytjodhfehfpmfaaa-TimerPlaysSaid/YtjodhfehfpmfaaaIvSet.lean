/- Plain mathematics of chapter 10: sets of spans with owners. -/
import Derived.Test.YtjodhfehfpmfaaaIvMath
set_option linter.unusedVariables false
namespace Go.Proofs.Ytjodhfehfpmfaaa.Iv

/-- a span and whose it is -/
abbrev Tg := (Int × Int) × Int
/-- do two spans overlap? -/
def ovB (a b : Int × Int) : Bool := decide (a.1 < b.2 ∧ b.1 < a.2)
theorem ov_iff {a b : Int × Int} : ovB a b = true ↔ a.1 < b.2 ∧ b.1 < a.2 := by unfold ovB; exact decide_eq_true_iff
/-- what a set is: spans that rise, of owners; the owners that have some, rising -/
structure SetOk (all : List Tg) (ow : List Int) : Prop where
  some_ : ∀ t ∈ all, t.1.1 < t.1.2
  apart : all.Pairwise fun a b => a.1.2 ≤ b.1.1
  low : ∀ t ∈ all, 1 ≤ t.2
  same : all.Pairwise fun a b => a.2 = b.2 → a.1.2 < b.1.1
  rise : ow.Pairwise (· < ·)
  own : ∀ n, n ∈ ow ↔ ∃ t ∈ all, t.2 = n
theorem SetOk.nil : SetOk [] [] :=
  ⟨fun _ h => (by cases h), List.Pairwise.nil, fun _ h => (by cases h), List.Pairwise.nil, List.Pairwise.nil, fun n => ⟨fun h => (by cases h), fun ⟨_, h, _⟩ => (by cases h)⟩⟩
theorem SetOk.rises {all : List Tg} {ow : List Int} (h : SetOk all ow) : all.Pairwise fun a b => a.1.1 < b.1.1 := by
  have := h.apart
  refine List.Pairwise.imp_of_mem (fun {a b} ha hb q => ?_) this
  have := h.some_ a ha
  omega
theorem SetOk.his {all : List Tg} {ow : List Int} (h : SetOk all ow) : all.Pairwise fun a b => a.1.2 < b.1.2 := by
  refine List.Pairwise.imp_of_mem (fun {a b} ha hb q => ?_) h.apart
  have := h.some_ b hb
  omega
/-- two lists that rise and hold the same are one -/
theorem rise_unique {α : Type} {lt : α → α → Prop} (asym : ∀ a b, lt a b → lt b a → False) : ∀ {l m : List α}, l.Pairwise lt → m.Pairwise lt → (∀ x, x ∈ l ↔ x ∈ m) → l = m
  | [], [], _, _, _ => rfl
  | [], b :: m, _, _, h => absurd ((h b).2 List.mem_cons_self) (by simp)
  | a :: l, [], _, _, h => absurd ((h a).1 List.mem_cons_self) (by simp)
  | a :: l, b :: m, hl, hm, h => by
    rw [List.pairwise_cons] at hl hm
    have e : a = b := by
      rcases List.mem_cons.1 ((h a).1 List.mem_cons_self) with p | p
      · exact p
      · rcases List.mem_cons.1 ((h b).2 List.mem_cons_self) with q | q
        · exact q.symm
        · exact (asym a b (hl.1 b q) (hm.1 a p)).elim
    subst e
    rw [rise_unique asym hl.2 hm.2 fun x => ?_]
    constructor
    · intro hx
      rcases List.mem_cons.1 ((h x).1 (List.mem_cons_of_mem _ hx)) with p | p
      · subst p; exact (asym x x (hl.1 x hx) (hl.1 x hx)).elim
      · exact p
    · intro hx
      rcases List.mem_cons.1 ((h x).2 (List.mem_cons_of_mem _ hx)) with p | p
      · subst p; exact (asym x x (hm.1 x hx) (hm.1 x hx)).elim
      · exact p
theorem tg_unique {l m : List Tg} (hl : l.Pairwise fun a b => a.1.1 < b.1.1) (hm : m.Pairwise fun a b => a.1.1 < b.1.1) (h : ∀ x, x ∈ l ↔ x ∈ m) : l = m :=
  rise_unique (lt := fun a b : Tg => a.1.1 < b.1.1) (fun a b h1 h2 => by omega) hl hm h
theorem int_unique {l m : List Int} (hl : l.Pairwise (· < ·)) (hm : m.Pairwise (· < ·)) (h : ∀ x, x ∈ l ↔ x ∈ m) : l = m :=
  rise_unique (lt := fun a b : Int => a < b) (fun a b h1 h2 => by omega) hl hm h
/-- Clash: the first that overlaps one of the spans, and is not but's -/
def clashL (but : Int) (sp : List (Int × Int)) (all : List Tg) : Option Tg := all.find? fun t => decide (t.2 ≠ but) && sp.any fun s => ovB t.1 s
/-- does some span overlap one of another owner's? -/
def addB (sp : List (Int × Int)) (owner : Int) (all : List Tg) (ow : List Int) : Bool := decide (1 ≤ owner) && decide (owner ∉ ow) && (clashL 0 sp all).isNone
theorem clash_none {but : Int} {sp : List (Int × Int)} {all : List Tg} : clashL but sp all = none ↔ ∀ t ∈ all, t.2 ≠ but → ∀ s ∈ sp, ovB t.1 s = false := by
  unfold clashL
  rw [List.find?_eq_none]
  constructor
  · intro h t ht n s hs
    have := h t ht
    simp only [Bool.and_eq_true, decide_eq_true_eq, not_and, Bool.not_eq_true] at this
    have := this n
    rw [List.any_eq_false] at this
    have := this s hs
    simpa using this
  · intro h t ht
    simp only [Bool.and_eq_true, decide_eq_true_eq, not_and, Bool.not_eq_true]
    intro n
    rw [List.any_eq_false]
    intro s hs
    rw [h t ht n s hs]
    simp
/-- what an owner is given: the spans, where they belong -/
def tagL (sp : List (Int × Int)) (owner : Int) : List Tg := sp.map fun s => (s, owner)
def addL (sp : List (Int × Int)) (owner : Int) (all : List Tg) : List Tg := (all ++ tagL sp owner).mergeSort fun a b => decide (a.1.1 ≤ b.1.1)
theorem mem_add {sp : List (Int × Int)} {owner : Int} {all : List Tg} {x : Tg} : x ∈ addL sp owner all ↔ x ∈ all ∨ (x.1 ∈ sp ∧ x.2 = owner) := by
  unfold addL tagL
  rw [(List.mergeSort_perm _ _).mem_iff, List.mem_append, List.mem_map]
  constructor
  · rintro (h | ⟨s, hs, rfl⟩)
    · exact .inl h
    · exact .inr ⟨hs, rfl⟩
  · rintro (h | ⟨hs, e⟩)
    · exact .inl h
    · exact .inr ⟨x.1, hs, by rw [← e]⟩
theorem add_len (sp : List (Int × Int)) (owner : Int) (all : List Tg) : (addL sp owner all).length = all.length + sp.length := by
  unfold addL tagL
  rw [(List.mergeSort_perm _ _).length_eq, List.length_append, List.length_map]
/-- none of them overlaps one that is there -/
def Free (sp : List (Int × Int)) (all : List Tg) : Prop := ∀ t ∈ all, ∀ s ∈ sp, ¬ (t.1.1 < s.2 ∧ s.1 < t.1.2)
theorem free_of {sp : List (Int × Int)} {all : List Tg} {ow : List Int} (h : SetOk all ow) (c : clashL 0 sp all = none) : Free sp all := fun t ht s hs q => by
  have := clash_none.1 c t ht (by have := h.low t ht; omega) s hs
  rw [ov_iff.2 q] at this
  cases this
theorem free_ne {sp : List (Int × Int)} {all : List Tg} {ow : List Int} (h : SetOk all ow) (hn : Norms sp) (f : Free sp all) {t : Tg} (ht : t ∈ all) {s : Int × Int} (hs : s ∈ sp) : t.1.1 ≠ s.1 := fun e => f t ht s hs ⟨by have := hn.some_ s hs; omega, by have := h.some_ t ht; omega⟩
theorem norms_rise {sp : List (Int × Int)} (hn : Norms sp) : sp.Pairwise fun a b => a.1 < b.1 :=
  List.Pairwise.imp_of_mem (fun {a b} ha hb q => by have := hn.some_ a ha; omega) hn.apart
/-- a list that holds what it should, and rises, is that of Add -/
theorem add_of {sp : List (Int × Int)} {owner : Int} {all m : List Tg} {ow : List Int} (h : SetOk all ow) (hn : Norms sp) (f : Free sp all) (hm : m.Pairwise fun a b => a.1.1 < b.1.1) (e : ∀ x, x ∈ m ↔ x ∈ all ∨ (x.1 ∈ sp ∧ x.2 = owner)) : m = addL sp owner all := by
  refine tg_unique hm ?_ fun x => (e x).trans mem_add.symm
  unfold addL
  have hs := List.pairwise_mergeSort (le := fun a b : Tg => decide (a.1.1 ≤ b.1.1)) (fun a b c h1 h2 => by simp at *; omega) (fun a b => by simp; omega) (all ++ tagL sp owner)
  have hp := List.mergeSort_perm (all ++ tagL sp owner) fun a b => decide (a.1.1 ≤ b.1.1)
  have ne : (all ++ tagL sp owner).Pairwise fun a b => a.1.1 ≠ b.1.1 := by
    rw [List.pairwise_append]
    refine ⟨h.rises.imp fun q => by omega, ?_, fun a ha b hb => ?_⟩
    · unfold tagL
      rw [List.pairwise_map]
      exact (norms_rise hn).imp fun q => by simp only; omega
    · obtain ⟨s, hs, rfl⟩ := List.mem_map.1 hb
      exact free_ne h hn f ha hs
  have ne2 := (hp.pairwise_iff (R := fun a b : Tg => a.1.1 ≠ b.1.1) fun {a b} q => Ne.symm q).2 ne
  exact (hs.and ne2).imp fun q => by have := of_decide_eq_true q.1; omega
theorem add_ok {sp : List (Int × Int)} {owner : Int} {all : List Tg} {ow ow' : List Int} (h : SetOk all ow) (hn : Norms sp) (f : Free sp all) (o1 : 1 ≤ owner) (o2 : owner ∉ ow) (hr : ow'.Pairwise (· < ·)) (hw : ∀ n, n ∈ ow' ↔ n ∈ ow ∨ (n = owner ∧ sp ≠ [])) : SetOk (addL sp owner all) ow' := by
  have ne : (all ++ tagL sp owner).Pairwise fun a b => a.1.1 ≠ b.1.1 := by
    rw [List.pairwise_append]
    refine ⟨h.rises.imp fun q => by omega, ?_, fun a ha b hb => ?_⟩
    · unfold tagL
      rw [List.pairwise_map]
      exact (norms_rise hn).imp fun q => by simp only; omega
    · obtain ⟨s, hs, rfl⟩ := List.mem_map.1 hb
      exact free_ne h hn f ha hs
  have hp := List.mergeSort_perm (all ++ tagL sp owner) fun a b => decide (a.1.1 ≤ b.1.1)
  have hs := List.pairwise_mergeSort (le := fun a b : Tg => decide (a.1.1 ≤ b.1.1)) (fun a b c h1 h2 => by simp at *; omega) (fun a b => by simp; omega) (all ++ tagL sp owner)
  have sm : ∀ t ∈ addL sp owner all, t.1.1 < t.1.2 := fun t ht => by
    rcases mem_add.1 ht with q | ⟨q, _⟩
    · exact h.some_ t q
    · exact hn.some_ _ q
  have dj : (all ++ tagL sp owner).Pairwise fun a b => (a.1.2 ≤ b.1.1 ∨ b.1.2 ≤ a.1.1) ∧ (a.2 = b.2 → a.1.2 < b.1.1 ∨ b.1.2 < a.1.1) := by
    rw [List.pairwise_append]
    refine ⟨(h.apart.and h.same).imp fun q => ⟨.inl q.1, fun e => .inl (q.2 e)⟩, ?_, fun a ha b hb => ?_⟩
    · unfold tagL
      rw [List.pairwise_map]
      exact hn.apart.imp fun q => ⟨.inl (by simp only; omega), fun _ => .inl q⟩
    · obtain ⟨s, hs, rfl⟩ := List.mem_map.1 hb
      have := f a ha s hs
      refine ⟨by simp only; omega, fun e => absurd ((h.own owner).2 ⟨a, ha, e⟩) o2⟩
  have dj2 := (hp.pairwise_iff (R := fun a b : Tg => (a.1.2 ≤ b.1.1 ∨ b.1.2 ≤ a.1.1) ∧ (a.2 = b.2 → a.1.2 < b.1.1 ∨ b.1.2 < a.1.1)) fun {a b} q => ⟨q.1.symm, fun e => (q.2 e.symm).symm⟩).2 dj
  have both := hs.and dj2
  refine ⟨sm, ?_, ?_, ?_, hr, fun n => ?_⟩
  · refine List.Pairwise.imp_of_mem (fun {a b} ha hb q => ?_) both
    have h1 := of_decide_eq_true q.1
    have := sm a ha
    have := sm b hb
    rcases q.2.1 with z | z
    · exact z
    · omega
  · intro t ht
    rcases mem_add.1 ht with q | ⟨_, q⟩
    · exact h.low t q
    · omega
  · refine List.Pairwise.imp_of_mem (fun {a b} ha hb q e => ?_) both
    have h1 := of_decide_eq_true q.1
    have := sm a ha
    have := sm b hb
    rcases q.2.2 e with z | z
    · exact z
    · omega
  · rw [hw, h.own]
    constructor
    · rintro (⟨t, ht, e⟩ | ⟨e, hne⟩)
      · exact ⟨t, mem_add.2 (.inl ht), e⟩
      · cases sp with
        | nil => exact absurd rfl hne
        | cons s sp => exact ⟨(s, owner), mem_add.2 (.inr ⟨List.mem_cons_self, rfl⟩), e.symm⟩
    · rintro ⟨t, ht, e⟩
      rcases mem_add.1 ht with q | ⟨q, q2⟩
      · exact .inl ⟨t, q, e⟩
      · exact .inr ⟨by omega, fun z => by rw [z] at q; cases q⟩
/-- Remove -/
def remL (owner : Int) (all : List Tg) : List Tg := all.filter fun t => decide (t.2 ≠ owner)
theorem rem_ok {owner : Int} {all : List Tg} {ow ow' : List Int} (h : SetOk all ow) (hr : ow'.Pairwise (· < ·)) (hw : ∀ n, n ∈ ow' ↔ n ∈ ow ∧ n ≠ owner) : SetOk (remL owner all) ow' := by
  have mm : ∀ t, t ∈ remL owner all ↔ t ∈ all ∧ t.2 ≠ owner := fun t => by unfold remL; rw [List.mem_filter, decide_eq_true_eq]
  have sub : (remL owner all).Sublist all := List.filter_sublist
  refine ⟨fun t ht => h.some_ t ((mm t).1 ht).1, h.apart.sublist sub, fun t ht => h.low t ((mm t).1 ht).1, h.same.sublist sub, hr, fun n => ?_⟩
  rw [hw, h.own]
  constructor
  · rintro ⟨⟨t, ht, e⟩, hn⟩
    exact ⟨t, (mm t).2 ⟨ht, by rw [e]; exact hn⟩, e⟩
  · rintro ⟨t, ht, e⟩
    exact ⟨⟨t, ((mm t).1 ht).1, e⟩, by rw [← e]; exact ((mm t).1 ht).2⟩
theorem rem_add {sp : List (Int × Int)} {owner : Int} {all : List Tg} {ow : List Int} (h : SetOk all ow) (hn : Norms sp) (f : Free sp all) (o2 : owner ∉ ow) : remL owner (addL sp owner all) = all := by
  have r : (addL sp owner all).Pairwise fun a b => a.1.1 < b.1.1 := by
    have hs := List.pairwise_mergeSort (le := fun a b : Tg => decide (a.1.1 ≤ b.1.1)) (fun a b c h1 h2 => by simp at *; omega) (fun a b => by simp; omega) (all ++ tagL sp owner)
    have hp := List.mergeSort_perm (all ++ tagL sp owner) fun a b => decide (a.1.1 ≤ b.1.1)
    have ne : (all ++ tagL sp owner).Pairwise fun a b => a.1.1 ≠ b.1.1 := by
      rw [List.pairwise_append]
      refine ⟨h.rises.imp fun q => by omega, ?_, fun a ha b hb => ?_⟩
      · unfold tagL
        rw [List.pairwise_map]
        exact (norms_rise hn).imp fun q => by simp only; omega
      · obtain ⟨s, hs, rfl⟩ := List.mem_map.1 hb
        exact free_ne h hn f ha hs
    have ne2 := (hp.pairwise_iff (R := fun a b : Tg => a.1.1 ≠ b.1.1) fun {a b} q => Ne.symm q).2 ne
    exact (hs.and ne2).imp fun q => by have := of_decide_eq_true q.1; omega
  refine tg_unique (r.sublist List.filter_sublist) h.rises fun x => ?_
  unfold remL
  rw [List.mem_filter, decide_eq_true_eq, mem_add]
  constructor
  · rintro ⟨q | q, z⟩
    · exact q
    · exact absurd q.2 z
  · intro q
    exact ⟨.inl q, fun e => o2 ((h.own owner).2 ⟨x, q, e⟩)⟩
theorem rem_none {owner : Int} {all : List Tg} {ow : List Int} (h : SetOk all ow) (o : owner ∉ ow) : remL owner all = all := by
  unfold remL
  rw [List.filter_eq_self]
  intro t ht
  exact decide_eq_true fun e => o ((h.own owner).2 ⟨t, ht, e⟩)
/-- how many it had -/
def hadL (owner : Int) (all : List Tg) : Nat := all.length - (remL owner all).length
theorem had_add {sp : List (Int × Int)} {owner : Int} {all : List Tg} {ow : List Int} (h : SetOk all ow) (hn : Norms sp) (f : Free sp all) (o2 : owner ∉ ow) : hadL owner (addL sp owner all) = sp.length := by
  unfold hadL
  rw [rem_add h hn f o2, add_len]
  omega
/-- Cut -/
def cutT (lo hi : Int) (t : Tg) : Int × Int := (max t.1.1 lo, min t.1.2 hi)
def cutL (lo hi : Int) (all : List Tg) : List (Int × Int) := normL (all.map (cutT lo hi))
/-- those that begin below hi and end above lo -/
def overL (lo hi : Int) (all : List Tg) : List Tg := all.filter fun t => decide (t.1.1 < hi) && decide (lo < t.1.2)
theorem mem_over {lo hi : Int} {all : List Tg} {t : Tg} : t ∈ overL lo hi all ↔ t ∈ all ∧ t.1.1 < hi ∧ lo < t.1.2 := by
  unfold overL
  rw [List.mem_filter, Bool.and_eq_true, decide_eq_true_eq, decide_eq_true_eq]
theorem cut_over (lo hi : Int) (all : List Tg) : normL ((overL lo hi all).map (cutT lo hi)) = cutL lo hi all := by
  refine norm_cov fun x => ?_
  unfold Cov
  constructor
  · rintro ⟨a, ha, q⟩
    obtain ⟨t, ht, rfl⟩ := List.mem_map.1 ha
    exact ⟨_, List.mem_map.2 ⟨t, (mem_over.1 ht).1, rfl⟩, q⟩
  · rintro ⟨a, ha, q⟩
    obtain ⟨t, ht, rfl⟩ := List.mem_map.1 ha
    refine ⟨_, List.mem_map.2 ⟨t, mem_over.2 ⟨ht, ?_⟩, rfl⟩, q⟩
    unfold cutT at q
    simp only at q
    omega
end Go.Proofs.Ytjodhfehfpmfaaa.Iv
