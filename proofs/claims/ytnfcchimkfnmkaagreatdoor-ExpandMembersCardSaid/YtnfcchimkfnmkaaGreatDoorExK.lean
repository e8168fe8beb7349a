/- Plain mathematics of chapter 8: of what is gone through, what is told. -/
import Derived.Test.YtnfcchimkfnmkaaGreatDoorExMathB
set_option linter.unusedVariables false
namespace Go.Proofs.YtnfcchimkfnmkaaGreatDoor.Ex
open Cv St Ru Dd Mb

/-- those from a moment on -/
def fltF (f : Int) (l : List Int) : List Int := l.filter fun x => decide (f ≤ x)
def winF (f hi : Int) (l : List Int) : List Int := l.filter fun x => decide (f ≤ x ∧ x < hi)
theorem flt_yes {f x : Int} {l : List Int} (h : f ≤ x) : fltF f (l ++ [x]) = fltF f l ++ [x] := by unfold fltF; rw [List.filter_append]; simp [h]
theorem flt_no {f x : Int} {l : List Int} (h : x < f) : fltF f (l ++ [x]) = fltF f l := by unfold fltF; rw [List.filter_append]; simp; omega
theorem flt_win {f hi : Int} {l : List Int} (h : ∀ y ∈ fltF f l, y < hi) : fltF f l = winF f hi l := by
  unfold fltF winF at *
  refine List.filter_congr fun x hx => ?_
  by_cases c : f ≤ x
  · have := h x (List.mem_filter.2 ⟨hx, decide_eq_true c⟩)
    simp [c, this]
  · simp [c]
theorem win_pre {f hi : Int} {l m : List Int} (h : l <+: m) : winF f hi l <+: winF f hi m := by
  obtain ⟨t, rfl⟩ := h
  exact ⟨winF f hi t, by unfold winF; rw [List.filter_append]⟩
/-- room for one more, by Count -/
def Room (c : Int) (l : List Int) : Prop := c = 0 ∨ (l.length : Int) < c
theorem cut_of {c : Int} {l m : List Int} (h : l <+: m) (hr : c = 0 ∨ (l.length : Int) ≤ c) : l <+: cutL c m := by
  unfold cutL
  split
  · exact h
  · rename_i c0
    have : l.length ≤ c.toNat := by omega
    obtain ⟨t, rfl⟩ := h
    rw [List.take_append, List.take_of_length_le this]
    exact ⟨_, rfl⟩
theorem cut_eq {c : Int} {m : List Int} (h : Room c m) : cutL c m = m := by
  unfold cutL
  split
  · rfl
  · rename_i c0
    rcases h with h | h
    · exact absurd h c0
    · exact List.take_of_length_le (by omega)
/-- the next one is told -/
theorem mom_one {f hi c x : Int} {A pre : List Int} (hp : pre ++ [x] <+: A) (hx : f ≤ x) (hh : x < hi) (hl : ∀ y ∈ fltF f pre, y < hi) (hc : Room c (fltF f pre)) : fltF f pre ++ [x] <+: cutL c (winF f hi A) := by
  have e : fltF f pre ++ [x] = winF f hi (pre ++ [x]) := by
    rw [← flt_yes hx]
    refine flt_win fun y hy => ?_
    rw [flt_yes hx] at hy
    rcases List.mem_append.1 hy with q | q
    · exact hl y q
    · have : y = x := by simpa using q
      omega
  refine cut_of (e ▸ win_pre hp) ?_
  rcases hc with h | h
  · exact .inl h
  · right; rw [List.length_append]; simp; omega
/-- the next one is beyond the end: all is told -/
theorem mom_end {f hi c x : Int} {A pre : List Int} (hr : A.Pairwise (· < ·)) (hp : pre ++ [x] <+: A) (hh : hi ≤ x) (hl : ∀ y ∈ fltF f pre, y < hi) (hc : Room c (fltF f pre)) : fltF f pre = cutL c (winF f hi A) := by
  obtain ⟨t, rfl⟩ := hp
  have e : winF f hi (pre ++ [x] ++ t) = winF f hi pre := by
    unfold winF
    rw [List.append_assoc, List.filter_append]
    have : ([x] ++ t).filter (fun y => decide (f ≤ y ∧ y < hi)) = [] := by
      rw [List.filter_eq_nil_iff]
      intro y hy
      have hxy : x ≤ y := by
        rcases List.mem_append.1 hy with q | q
        · have : y = x := by simpa using q
          omega
        · have := (List.pairwise_append.1 hr).2.2 x (by simp) y q
          omega
      simp
      omega
    rw [this, List.append_nil]
  rw [e, ← flt_win hl, cut_eq hc]
/-- as many as Count says: all is told -/
theorem mom_cnt {f hi c x : Int} {A pre : List Int} (hp : fltF f pre ++ [x] <+: cutL c (winF f hi A)) (h0 : c ≠ 0) (h1 : 0 ≤ c) (hc : ((fltF f pre ++ [x]).length : Int) = c) : fltF f pre ++ [x] = cutL c (winF f hi A) := by
  refine hp.eq_of_length_le ?_
  unfold cutL
  rw [if_neg h0, List.length_take]
  omega
theorem mom_all {f hi c : Int} {A : List Int} (hl : ∀ y ∈ fltF f A, y < hi) (hc : Room c (fltF f A)) : fltF f A = cutL c (winF f hi A) := by
  rw [← flt_win hl, cut_eq hc]
theorem mom_win {r : Ru} {start from_ end_ : Int} (h : mayR r = true) (hf : St.may from_ = true) (hs : start ≤ from_) (hh : hiR r end_ ≤ 253402300800) : cutL r.cnt (winF from_ (hiR r end_) (arndL r start from_ (hiR r end_))) = momL r start from_ end_ := by
  unfold momL winF
  rw [arnd_win h hf hh, has_sel hs]
theorem room_more {c x : Int} {l : List Int} (h : Room c l) (hn : ((l ++ [x]).length : Int) ≠ c) : Room c (l ++ [x]) := by
  rw [List.length_append] at hn
  unfold Room
  rw [List.length_append]
  simp at hn ⊢
  rcases h with h | h
  · exact .inl h
  · right; omega
end Go.Proofs.YtnfcchimkfnmkaaGreatDoor.Ex
