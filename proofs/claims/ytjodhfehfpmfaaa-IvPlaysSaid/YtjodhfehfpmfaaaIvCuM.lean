/- Plain mathematics of voklaw10.IvCuts: second by second. -/
import Derived.Test.YtjodhfehfpmfaaaIvAddM
set_option linter.unusedVariables false
namespace Go.Proofs.Ytjodhfehfpmfaaa.Iv

def inT (l : List Tg) (t : Int) : Bool := l.any fun x => decide (x.1.1 ≤ t) && decide (t < x.1.2)
def inS (l : List (Int × Int)) (t : Int) : Bool := l.any fun x => decide (x.1 ≤ t) && decide (t < x.2)
theorem any_take {α : Type} [Inhabited α] (p : α → Bool) {l : List α} {j : Nat} (h : j < l.length) : (l.take (j + 1)).any p = ((l.take j).any p || p (gt l j)) := by
  rw [List.take_succ_eq_append_getElem h, List.any_append, gt_lt h]
  simp
theorem inT_take {l : List Tg} {t : Int} {j : Nat} (h : j < l.length) : inT (l.take (j + 1)) t = (inT (l.take j) t || (decide ((gt l j).1.1 ≤ t) && decide (t < (gt l j).1.2))) := any_take _ h
theorem inS_take {l : List (Int × Int)} {t : Int} {j : Nat} (h : j < l.length) : inS (l.take (j + 1)) t = (inS (l.take j) t || (decide ((gt l j).1 ≤ t) && decide (t < (gt l j).2))) := any_take _ h
theorem inS_iff {l : List (Int × Int)} {t : Int} : inS l t = true ↔ Cov l t := by
  unfold inS Cov
  rw [List.any_eq_true]
  constructor
  · rintro ⟨x, hx, h⟩
    rw [Bool.and_eq_true, decide_eq_true_eq, decide_eq_true_eq] at h
    exact ⟨x, hx, h⟩
  · rintro ⟨x, hx, h⟩
    refine ⟨x, hx, ?_⟩
    rw [Bool.and_eq_true, decide_eq_true_eq, decide_eq_true_eq]
    exact h
theorem inT_iff {l : List Tg} {t : Int} : inT l t = true ↔ ∃ x ∈ l, x.1.1 ≤ t ∧ t < x.1.2 := by
  unfold inT
  rw [List.any_eq_true]
  constructor
  · rintro ⟨x, hx, h⟩
    rw [Bool.and_eq_true, decide_eq_true_eq, decide_eq_true_eq] at h
    exact ⟨x, hx, h⟩
  · rintro ⟨x, hx, h⟩
    refine ⟨x, hx, ?_⟩
    rw [Bool.and_eq_true, decide_eq_true_eq, decide_eq_true_eq]
    exact h
theorem cut_cov {lo hi t : Int} {all : List Tg} : Cov (cutL lo hi all) t ↔ (lo ≤ t ∧ t < hi) ∧ ∃ x ∈ all, x.1.1 ≤ t ∧ t < x.1.2 := by
  unfold cutL
  rw [(norm_is _).cov]
  unfold Cov
  constructor
  · rintro ⟨a, ha, h1, h2⟩
    obtain ⟨x, hx, rfl⟩ := List.mem_map.1 ha
    unfold cutT at h1 h2
    dsimp only at h1 h2
    exact ⟨⟨by omega, by omega⟩, x, hx, by omega, by omega⟩
  · rintro ⟨⟨h1, h2⟩, x, hx, h3, h4⟩
    refine ⟨_, List.mem_map.2 ⟨x, hx, rfl⟩, ?_, ?_⟩ <;> unfold cutT <;> dsimp only <;> omega
theorem cut_in {lo hi t : Int} {all : List Tg} (h1 : lo ≤ t) (h2 : t < hi) : inS (cutL lo hi all) t = inT all t := by
  rw [Bool.eq_iff_iff, inS_iff, inT_iff, cut_cov]
  exact ⟨fun h => h.2, fun h => ⟨⟨h1, h2⟩, h⟩⟩
theorem clash_in {t : Int} {all : List Tg} {ow : List Int} (h : SetOk all ow) : (clashL 0 [(t, t + 1)] all).isSome = inT all t := by
  rw [Bool.eq_iff_iff, inT_iff]
  unfold clashL
  rw [List.find?_isSome]
  constructor
  · rintro ⟨x, hx, hp⟩
    simp only [List.any_cons, List.any_nil, Bool.or_false, Bool.and_eq_true, ov_iff] at hp
    exact ⟨x, hx, by omega, by omega⟩
  · rintro ⟨x, hx, h1, h2⟩
    refine ⟨x, hx, ?_⟩
    have := h.low x hx
    simp only [List.any_cons, List.any_nil, Bool.or_false, Bool.and_eq_true, ov_iff, decide_eq_true_eq, ne_eq]
    exact ⟨by omega, by omega, by omega⟩
theorem norm_one (t : Int) : normL [(t, t + 1)] = [(t, t + 1)] := norms_norm ⟨by intro a ha; rw [List.mem_singleton.1 ha]; dsimp only; omega, by simp⟩
theorem cut_within {lo hi : Int} {all : List Tg} {a : Int × Int} (h : a ∈ cutL lo hi all) : a.1 < a.2 ∧ lo ≤ a.1 ∧ a.2 ≤ hi := by
  have s := (norm_is (all.map (cutT lo hi))).norms.some_ a h
  have c1 := (cut_cov (lo := lo) (hi := hi) (all := all) (t := a.1)).1 ⟨a, h, by omega, s⟩
  have c2 := (cut_cov (lo := lo) (hi := hi) (all := all) (t := a.2 - 1)).1 ⟨a, h, by omega, by omega⟩
  exact ⟨s, c1.1.1, by have := c2.1.2; omega⟩
end Go.Proofs.Ytjodhfehfpmfaaa.Iv
