/- What Next answers: its mathematics, its walk, and ExpandNext. -/
import Derived.Test.YtnfcchimkfnmkaaGreatDoorExMathB
import Derived.Test.YtnfcchimkfnmkaaGreatDoorExH
import Derived.RangeFuncNested
import Derived.RangeFuncBound
import Derived.RangeFuncCalls
import Derived.RangeFuncLeaves
import Derived.Shelf.Abstract
import Derived.Shelf.RegionOpen
import Derived.OwnWalkIn
import Derived.TacticsInMore
import Derived.LoopNIn
import Derived.LoopIn
import Derived.Test.YtnfcchimkfnmkaaGreatDoorExFst
set_option linter.unusedVariables false
namespace Go.Proofs.YtnfcchimkfnmkaaGreatDoor.Ex
open Cv St Ru Dd Mb

theorem mom_sub {r : Ru} {start from_ end_ x : Int} (h : x ∈ momL r start from_ end_) : from_ ≤ x ∧ x < hiR r end_ ∧ hasM r start x = true := by
  unfold momL cutL at h
  split at h
  · exact mem_sel.1 h
  · exact mem_sel.1 (List.mem_of_mem_take h)
theorem mom_rise (r : Ru) (start from_ end_ : Int) : (momL r start from_ end_).Pairwise (· < ·) := by
  unfold momL cutL
  split
  · exact sel_rise _ _ _
  · exact (sel_rise _ _ _).sublist (List.take_sublist _ _)
/-- expand.Next -/
def nextFrom (r : Ru) (start after : Int) : Int := if r.cnt = 0 then max start (after + 1) else start
def nextR (r : Ru) (start after end_ : Int) : Int × Bool :=
  if mayE r start end_ 1 = false ∨ end_ ≤ after then (0, false)
  else match (momL r start (nextFrom r start after) end_).filter (fun x => decide (after < x)) with
    | [] => (0, false)
    | x :: _ => (x, true)
end Go.Proofs.YtnfcchimkfnmkaaGreatDoor.Ex
namespace Go.Proofs.YtnfcchimkfnmkaaGreatDoor.Ex
open Cv St Ru Dd Mb

theorem mayE_of {r : Ru} {start end_ most : Int} (h : mayE r start end_ most = true) : mayR r = true ∧ St.may start = true ∧ St.may end_ = true ∧ end_ - start ≤ 316224000 ∧ 1 ≤ most ∧ most ≤ 4096 := by
  unfold mayE at h
  simp only [Bool.and_eq_true, decide_eq_true_eq] at h
  exact ⟨h.1.1.1.1, h.1.1.1.2, h.1.1.2, h.1.2, h.2⟩
theorem mayE_mk {r : Ru} {start end_ most : Int} (h1 : mayR r = true) (h2 : St.may start = true) (h3 : St.may end_ = true) (h4 : end_ - start ≤ 316224000) (h5 : 1 ≤ most) (h6 : most ≤ 4096) : mayE r start end_ most = true := by
  unfold mayE
  rw [h1, h2, h3, decide_eq_true h4, decide_eq_true (show 1 ≤ most ∧ most ≤ 4096 from ⟨h5, h6⟩)]
  rfl
/-- a list that is told: what it is -/
theorem list_ok {r : Ru} {start end_ most : Int} {l : List Int} (h : listR r start end_ most = (l, 0)) : mayE r start end_ most = true ∧ momL r start start end_ = l ∧ (l.length : Int) ≤ most := by
  unfold listR at h
  split at h
  · have := (Prod.mk.inj h).2; omega
  · rename_i c
    split at h
    · have := (Prod.mk.inj h).2; omega
    · rename_i d
      have e := (Prod.mk.inj h).1
      exact ⟨by simpa using c, e, by rw [e] at d; omega⟩
theorem list_mk {r : Ru} {start end_ most : Int} {l : List Int} (h : mayE r start end_ most = true) (e : momL r start start end_ = l) (d : (l.length : Int) ≤ most) : listR r start end_ most = (l, 0) := by
  unfold listR
  rw [if_neg (by rw [h]; decide), e, if_neg (by omega)]
theorem list_rise {r : Ru} {start end_ most : Int} {l : List Int} (h : listR r start end_ most = (l, 0)) : l.Pairwise (· < ·) := by
  rw [← (list_ok h).2.1]
  exact mom_rise _ _ _ _
/-- the first ones, as far as a bound -/
theorem filt_take {l : List Int} {u : Int} {n : Nat} (hr : l.Pairwise (· < ·)) (hn : n ≤ l.length) (h1 : ∀ j, j < n → iat l j ≤ u) (h2 : n = l.length ∨ u < iat l n) : l.filter (fun x => decide (x ≤ u)) = l.take n := by
  have e : l = l.take n ++ l.drop n := (List.take_append_drop n l).symm
  have a : (l.take n).filter (fun x => decide (x ≤ u)) = l.take n := by
    rw [List.filter_eq_self]
    intro x hx
    obtain ⟨j, hj, rfl⟩ := List.getElem_of_mem hx
    rw [List.length_take] at hj
    have := h1 j (by omega)
    rw [iat_lt (by omega)] at this
    rw [List.getElem_take]
    exact decide_eq_true this
  have b : (l.drop n).filter (fun x => decide (x ≤ u)) = [] := by
    rw [List.filter_eq_nil_iff]
    intro x hx
    obtain ⟨j, hj, rfl⟩ := List.getElem_of_mem hx
    rw [List.length_drop] at hj
    rcases h2 with h2 | h2
    · omega
    · rw [iat_lt (by omega)] at h2
      rw [List.getElem_drop]
      have : l[n] ≤ l[n + j] := by
        by_cases c : j = 0
        · subst c; exact Int.le_refl _
        · exact Int.le_of_lt (List.pairwise_iff_getElem.1 hr n (n + j) (by omega) (by omega) (by omega))
      simp
      omega
  conv => lhs; rw [e, List.filter_append, a, b, List.append_nil]
-- ExpandUntil
theorem until_ok {r : Ru} {start end_ u : Int} {l : List Int} (h : listR (freeR r) start end_ 4096 = (l, 0)) (mq : mayR (endR r u) = true) : listR (endR r u) start end_ 4096 = (l.filter (fun x => decide (x ≤ u)), 0) := by
  obtain ⟨h1, h2, h3⟩ := list_ok h
  obtain ⟨-, m2, m3, m4, -, -⟩ := mayE_of h1
  refine list_mk (mayE_mk mq m2 m3 m4 (by decide) (by decide)) ?_ (by have := List.length_filter_le (fun x => decide (x ≤ u)) l; omega)
  rw [← h2]
  have e1 : momL (freeR r) start start end_ = selL (hasM (freeR r) start) start end_ := rfl
  have e2 : momL (endR r u) start start end_ = selL (hasM (endR r u) start) start (min end_ (u + 1)) := rfl
  rw [e1, e2]
  refine (sel_eq ((sel_rise _ _ _).filter _) fun x => ?_).symm
  rw [List.mem_filter, mem_sel, ends_has mq]
  simp only [Bool.and_eq_true, decide_eq_true_eq]
  constructor
  · rintro ⟨⟨a, b, c⟩, d⟩; exact ⟨a, by omega, c, d⟩
  · rintro ⟨a, b, c, d⟩; exact ⟨⟨a, by omega, c⟩, d⟩
-- ExpandFronts
/-- up to an earlier end: the first ones -/
theorem mom_less {r : Ru} {start e1 e2 : Int} (h : e1 ≤ e2) : ∃ m k, momL r start start e2 = m ++ k ∧ momL r start start e1 = m ∧ ∀ x ∈ k, e1 ≤ x := by
  have hh : hiR r e1 ≤ hiR r e2 := by unfold hiR; split <;> omega
  by_cases c : hiR r e1 ≤ start
  · refine ⟨[], momL r start start e2, rfl, ?_, ?_⟩
    · unfold momL cutL
      rw [sel_nil c]
      simp
    · intro x hx
      obtain ⟨a, b, d⟩ := mom_sub hx
      rw [has_inA] at d
      simp only [Bool.and_eq_true, Bool.or_eq_true, decide_eq_true_eq] at d
      unfold hiR at b c
      by_cases e : r.ends = true
      · rw [if_pos e] at b c
        rcases d.1.2 with q | q
        · rw [e] at q; cases q
        · omega
      · rw [if_neg e] at b c
        omega
  · have cat := sel_cat (q := hasM r start) (a := start) (b := hiR r e1) (c := hiR r e2) (by omega) hh
    have far : ∀ x ∈ selL (hasM r start) (hiR r e1) (hiR r e2), e1 ≤ x := fun x hx => by
      obtain ⟨a, b, -⟩ := mem_sel.1 hx
      unfold hiR at a b
      by_cases e : r.ends = true
      · rw [if_pos e] at a b; omega
      · rw [if_neg e] at a b; omega
    unfold momL
    rw [← cat]
    unfold cutL
    split
    · exact ⟨_, _, rfl, rfl, far⟩
    · refine ⟨(selL (hasM r start) start (hiR r e1)).take r.cnt.toNat, (selL (hasM r start) (hiR r e1) (hiR r e2)).take (r.cnt.toNat - (selL (hasM r start) start (hiR r e1)).length), ?_, rfl, fun x hx => far x (List.mem_of_mem_take hx)⟩
      rw [List.take_append]
theorem fronts_ok {r : Ru} {start end_ less : Int} {l : List Int} (h : listR r start end_ 4096 = (l, 0)) (h0 : 0 ≤ less) (h1 : less ≤ end_ - start) :
    ∃ m k, l = m ++ k ∧ listR r start (end_ - less) 4096 = (m, 0) ∧ ∀ x ∈ k, end_ - less ≤ x := by
  obtain ⟨a1, a2, a3⟩ := list_ok h
  obtain ⟨m1, m2, m3, m4, -, -⟩ := mayE_of a1
  obtain ⟨m, k, b1, b2, b3⟩ := mom_less (r := r) (start := start) (show end_ - less ≤ end_ by omega)
  rw [a2] at b1
  have s1 := of_decide_eq_true m2
  have s2 := of_decide_eq_true m3
  refine ⟨m, k, b1, list_mk (mayE_mk m1 m2 (decide_eq_true (by omega)) (by omega) (by decide) (by decide)) b2 ?_, b3⟩
  have := congrArg List.length b1
  rw [List.length_append] at this
  omega
def cntR (r : Ru) (c : Int) : Ru := { r with cnt := c, ends := false, til := 0 }
theorem cnt_may {r : Ru} {c : Int} (h : mayR (freeR r) = true) (h1 : 1 ≤ c) (h2 : c ≤ 4096) : mayR (cntR r c) = true := by
  unfold mayR at h ⊢
  simp only [Bool.and_eq_true] at h ⊢
  obtain ⟨⟨⟨⟨⟨⟨a, b⟩, d⟩, e⟩, f⟩, g⟩, i⟩ := h
  refine ⟨⟨⟨⟨⟨⟨?_, b⟩, d⟩, e⟩, f⟩, g⟩, i⟩
  have a := of_decide_eq_true a
  refine decide_eq_true ?_
  have x1 : (freeR r).freq = (cntR r c).freq := rfl
  have x2 : (freeR r).itv = (cntR r c).itv := rfl
  have x3 : (freeR r).wkst = (cntR r c).wkst := rfl
  have x4 : (cntR r c).cnt = c := rfl
  rw [x4, ← x1, ← x2, ← x3]
  omega
/-- with a Count: the first so many -/
theorem counts_ok {r : Ru} {start end_ c : Int} {l : List Int} (h : listR (freeR r) start end_ 4096 = (l, 0)) (h1 : 1 ≤ c) (h2 : c ≤ 4096) : listR (cntR r c) start end_ 4096 = (l.take c.toNat, 0) := by
  obtain ⟨a1, a2, a3⟩ := list_ok h
  obtain ⟨m1, m2, m3, m4, -, -⟩ := mayE_of a1
  have mc := cnt_may m1 h1 h2
  refine list_mk (mayE_mk mc m2 m3 m4 (by decide) (by decide)) ?_ (by rw [List.length_take]; omega)
  rw [← a2]
  have e1 : momL (freeR r) start start end_ = selL (hasM (freeR r) start) start end_ := rfl
  have e2 : momL (cntR r c) start start end_ = cutL c (selL (hasM (cntR r c) start) start end_) := rfl
  rw [e1, e2]
  unfold cutL
  rw [if_neg (by omega)]
  congr 1
  exact sel_congr fun x _ _ => less_count (r := freeR r) (c := c) m1 mc
-- ExpandMembers
theorem members_in {r : Ru} {start end_ x : Int} {l : List Int} (h : listR r start end_ 4096 = (l, 0)) (hx : x ∈ l) : start ≤ x ∧ x < end_ ∧ hasM r start x = true := by
  rw [← (list_ok h).2.1] at hx
  obtain ⟨a, b, c⟩ := mom_sub hx
  refine ⟨a, ?_, c⟩
  unfold hiR at b
  split at b <;> omega
theorem members_all {r : Ru} {start end_ x : Int} {l : List Int} (h : listR r start end_ 4096 = (l, 0)) (hx : x < end_) (hh : hasM r start x = true) : x ∈ l ∨ (0 < r.cnt ∧ (l.length : Int) = r.cnt ∧ ∀ y ∈ l, y < x) := by
  obtain ⟨a1, a2, -⟩ := list_ok h
  have c0 := (freq_may (mayE_of a1).1).2.2.2.1
  have hs := hh
  rw [has_inA] at hs
  simp only [Bool.and_eq_true, Bool.or_eq_true, decide_eq_true_eq] at hs
  have m : x ∈ selL (hasM r start) start (hiR r end_) := by
    refine mem_sel.2 ⟨hs.1.1, ?_, hh⟩
    unfold hiR
    split
    · rename_i e
      rcases hs.1.2 with q | q
      · rw [e] at q; cases q
      · omega
    · exact hx
  rw [← a2]
  unfold momL cutL
  split
  · exact .inl m
  · rename_i c
    by_cases g : x ∈ (selL (hasM r start) start (hiR r end_)).take r.cnt.toNat
    · exact .inl g
    · right
      have sp : x ∈ (selL (hasM r start) start (hiR r end_)).drop r.cnt.toNat := by
        have e := List.take_append_drop r.cnt.toNat (selL (hasM r start) start (hiR r end_))
        rw [← e] at m
        rcases List.mem_append.1 m with q | q
        · exact absurd q g
        · exact q
      have len : r.cnt.toNat < (selL (hasM r start) start (hiR r end_)).length := by
        by_cases k : r.cnt.toNat < (selL (hasM r start) start (hiR r end_)).length
        · exact k
        · rw [List.drop_eq_nil_of_le (by omega)] at sp; cases sp
      refine ⟨by omega, by rw [List.length_take]; omega, fun y hy => ?_⟩
      have rs := sel_rise (hasM r start) start (hiR r end_)
      rw [← List.take_append_drop r.cnt.toNat (selL (hasM r start) start (hiR r end_))] at rs
      exact (List.pairwise_append.1 rs).2.2 y hy x sp
theorem members_cnt {r : Ru} {start end_ : Int} {l : List Int} (h : listR r start end_ 4096 = (l, 0)) (hc : r.cnt ≠ 0) : (l.length : Int) ≤ r.cnt := by
  obtain ⟨a1, a2, -⟩ := list_ok h
  have c0 := (freq_may (mayE_of a1).1).2.2.2.1
  rw [← a2]
  unfold momL cutL
  rw [if_neg hc, List.length_take]
  omega
-- ExpandNext
theorem next_ok {r : Ru} {start end_ : Int} {l : List Int} {i : Nat} (h : listR r start end_ 4096 = (l, 0)) (hi : i < l.length) :
    nextR r start (iat l i) end_ = (if h2 : i + 1 < l.length then (iat l (i + 1), true) else (0, false)) ∧ (-9223372036854775808 ≤ start - 1 → nextR r start (start - 1) end_ = (iat l 0, true)) := by
  obtain ⟨a1, a2, -⟩ := list_ok h
  obtain ⟨m1, m2, m3, m4, -, -⟩ := mayE_of a1
  have c0 := (freq_may m1).2.2.2.1
  have me : mayE r start end_ 1 = true := mayE_mk m1 m2 m3 m4 (by decide) (by decide)
  have rl := list_rise h
  have mi := members_in h (x := iat l i) (by rw [iat_lt hi]; exact List.getElem_mem _)
  -- behind x the list goes on as it does from there
  have key : ∀ x, start - 1 ≤ x → (momL r start (nextFrom r start x) end_).filter (fun y => decide (x < y)) = l.filter (fun y => decide (x < y)) := by
    intro x hx
    rw [← a2]
    unfold nextFrom momL cutL
    by_cases c : r.cnt = 0
    · rw [if_pos c, if_pos c, if_pos c]
      refine rise_ext ((sel_rise _ _ _).filter _) ((sel_rise _ _ _).filter _) fun y => ?_
      rw [List.mem_filter, List.mem_filter, mem_sel, mem_sel]
      simp only [decide_eq_true_eq]
      constructor
      · rintro ⟨⟨a, b, d⟩, e⟩; exact ⟨⟨by omega, b, d⟩, e⟩
      · rintro ⟨⟨a, b, d⟩, e⟩; exact ⟨⟨by omega, b, d⟩, e⟩
    · simp only [if_neg c]
  have step : ∀ x (k : Nat), start - 1 ≤ x → x < end_ → (∀ j, j < k → iat l j ≤ x) → (k = l.length ∨ x < iat l k) → k ≤ l.length → nextR r start x end_ = (if h2 : k < l.length then (iat l k, true) else (0, false)) := by
    intro x k hx he h1 h2 hk
    unfold nextR
    rw [if_neg (by rw [me]; simp; omega), key x hx]
    have e : l.filter (fun y => decide (x < y)) = l.drop k := by
      have t := filt_take rl hk h1 h2
      have e2 : l = l.take k ++ l.drop k := (List.take_append_drop k l).symm
      have a : (l.take k).filter (fun y => decide (x < y)) = [] := by
        rw [List.filter_eq_nil_iff]
        intro y hy
        obtain ⟨j, hj, rfl⟩ := List.getElem_of_mem hy
        rw [List.length_take] at hj
        have := h1 j (by omega)
        rw [iat_lt (by omega)] at this
        rw [List.getElem_take]
        simp
        omega
      have b : (l.drop k).filter (fun y => decide (x < y)) = l.drop k := by
        rw [List.filter_eq_self]
        intro y hy
        obtain ⟨j, hj, rfl⟩ := List.getElem_of_mem hy
        rw [List.length_drop] at hj
        rcases h2 with h2 | h2
        · omega
        · rw [iat_lt (by omega)] at h2
          rw [List.getElem_drop]
          have : l[k] ≤ l[k + j] := by
            by_cases c : j = 0
            · subst c; exact Int.le_refl _
            · exact Int.le_of_lt (List.pairwise_iff_getElem.1 rl k (k + j) (by omega) (by omega) (by omega))
          exact decide_eq_true (by omega)
      conv => lhs; rw [e2, List.filter_append, a, b, List.nil_append]
    rw [e]
    by_cases c : k < l.length
    · rw [dif_pos c, List.drop_eq_getElem_cons c, iat_lt c]
    · rw [dif_neg c, List.drop_eq_nil_of_le (by omega)]
  constructor
  · refine step (iat l i) (i + 1) (by omega) mi.2.1 (fun j hj => ?_) ?_ (by omega)
    · rw [iat_lt (by omega), iat_lt hi]
      by_cases c : j = i
      · subst c; exact Int.le_refl _
      · exact Int.le_of_lt (List.pairwise_iff_getElem.1 rl j i (by omega) hi (by omega))
    · by_cases c : i + 1 < l.length
      · right
        rw [iat_lt hi, iat_lt c]
        exact List.pairwise_iff_getElem.1 rl i (i + 1) hi c (by omega)
      · left; omega
  · intro _
    have f := members_in h (x := iat l 0) (by rw [iat_lt (by omega)]; exact List.getElem_mem _)
    have := step (start - 1) 0 (by omega) (by omega) (fun j hj => absurd hj (by omega)) (.inr (by omega)) (by omega)
    rw [this, dif_pos (by omega)]
end Go.Proofs.YtnfcchimkfnmkaaGreatDoor.Ex
namespace Go.Proofs.YtnfcchimkfnmkaaGreatDoor.Ex
open Go Go.RowKit Go.Shelf Cv St Ru Dd Mb
attribute [local go_sem] Oper.semAt_some

structure NextI (w : World) (after : Int) (E : Nat) (X : Nat → Prop) (pre : List Int) (W : World) : Prop where
  below : Below w.heap.size w W
  far : ∀ k, k < w.heap.size + 4 → ¬ X k
  size : E ≤ W.heap.size
  a : W.cell? ⟨w.heap.size + 1, 0, none⟩ = some (.int .i64 after)
  r2 : W.cell? ⟨w.heap.size + 1 + 1, 0, none⟩ = some (.int .i64 0)
  r3 : W.cell? ⟨w.heap.size + 1 + 1 + 1, 0, none⟩ = some (.bool false)
  f2 : W.frozen? ⟨w.heap.size + 1 + 1, 0, none⟩ = false
  f3 : W.frozen? ⟨w.heap.size + 1 + 1 + 1, 0, none⟩ = false
  le : ∀ y ∈ pre, y ≤ after
theorem nextI_foot {w : World} {after : Int} {E : Nat} (hE : w.heap.size + 4 ≤ E) : Foot (NextI w after E) := by
  intro X X' s W W' h hk hx
  have n1 := h.far (w.heap.size + 1) (by omega)
  have n2 := h.far (w.heap.size + 1 + 1) (by omega)
  have n3 := h.far (w.heap.size + 1 + 1 + 1) (by omega)
  refine ⟨h.below.trans ((hk.mono (Y := fun k => k < w.heap.size) fun k hk => h.far k (by omega)).below h.below.size), ?_, Nat.le_trans h.size hk.size, hk.cell n1 h.a, hk.cell n2 h.r2, hk.cell n3 h.r3, hk.frozen n2 h.r2 h.f2, hk.frozen n3 h.r3 h.f3, h.le⟩
  intro k hk' q
  have := h.size
  rcases hx k q with q | q
  · exact h.far k hk' q
  · omega
structure NextX (w : World) (z : Int × Bool) (c : Code) (X : Nat → Prop) (pre : List Int) (W : World) : Prop where
  e : c = .ret
  below : Below w.heap.size w W
  size : w.heap.size + 4 ≤ W.heap.size
  far : ∀ k, k < w.heap.size + 4 → ¬ X k
  r2 : W.cell? ⟨w.heap.size + 1 + 1, 0, none⟩ = some (.int .i64 z.1)
  r3 : W.cell? ⟨w.heap.size + 1 + 1 + 1, 0, none⟩ = some (.bool z.2)
theorem nextX_foot {w : World} {z : Int × Bool} (c : Code) : Foot (NextX w z c) := by
  intro X X' s W W' h hk hx
  have n2 := h.far (w.heap.size + 1 + 1) (by omega)
  have n3 := h.far (w.heap.size + 1 + 1 + 1) (by omega)
  refine ⟨h.e, h.below.trans ((hk.mono (Y := fun k => k < w.heap.size) fun k hk => h.far k (by omega)).below h.below.size), Nat.le_trans h.size hk.size, ?_, hk.cell n2 h.r2, hk.cell n3 h.r3⟩
  intro k hk' q
  have := h.size
  rcases hx k q with q | q
  · exact h.far k hk' q
  · omega
theorem next_hit {r : Ru} {start after end_ x : Int} {pre : List Int} (h : mayE r start end_ 1 = true) (ha : after < end_) (hp : pre ++ [x] <+: momL r start (nextFrom r start after) end_) (hl : ∀ y ∈ pre, y ≤ after) (hx : after < x) : nextR r start after end_ = (x, true) := by
  obtain ⟨t, ht⟩ := hp
  unfold nextR
  rw [if_neg (by rw [h]; simp; omega), ← ht, List.append_assoc, List.filter_append, List.filter_append]
  have e : pre.filter (fun y => decide (after < y)) = [] := by
    rw [List.filter_eq_nil_iff]
    intro y hy
    have := hl y hy
    simp
    omega
  rw [e]
  simp [hx]
theorem next_miss {r : Ru} {start after end_ : Int} (hl : ∀ y ∈ momL r start (nextFrom r start after) end_, y ≤ after) : nextR r start after end_ = (0, false) := by
  unfold nextR
  split
  · rfl
  · have e : (momL r start (nextFrom r start after) end_).filter (fun y => decide (after < y)) = [] := by
      rw [List.filter_eq_nil_iff]
      intro y hy
      have := hl y hy
      simp
      omega
    rw [e]
set_option maxRecDepth 100000 in
set_option maxHeartbeats 16000000 in
/-- expand.Next -/
theorem next_is (w : World) (S : RS) (r : Ru) (start after end_ : Int) (x : Int) (y : Bool) (h : RuAt w S r) (la : -9223372036854775808 ≤ after) (hx : nextR r start after end_ = (x, y)) :
    Calls Tryz.prog 17 #[S.val r, .int .i64 start, .int .i64 after, .int .i64 end_] w fun e w' => e = .returned (.tuple #[.int .i64 x, .bool y]) ∧ Below w.heap.size w w' := by
  have RA := Lib.hid h
  obtain ⟨m, hm⟩ : ∃ m, mayE r start end_ 1 = m := ⟨_, rfl⟩
  have X0 := Lib.hid (fun (e : m = false ∨ end_ ≤ after) => show ((0 : Int), false) = (x, y) by rw [← hx]; unfold nextR; rw [if_pos (by rw [hm]; exact e)])
  obtain ⟨f, hf⟩ : ∃ f, nextFrom r start after = f := ⟨_, rfl⟩
  obtain ⟨XS, hXS⟩ : ∃ l, momL r start f end_ = l := ⟨_, rfl⟩
  have XH := Lib.hid (fun (e : m = true) (ha : after < end_) (pre : List Int) (z : Int) (hp : pre ++ [z] <+: XS) (hl : ∀ y ∈ pre, y ≤ after) (hz : after < z) => show (z, true) = (x, y) by
    rw [← hx, next_hit (hm.trans e) ha (by rw [hf, hXS]; exact hp) hl hz])
  have XN := Lib.hid (fun (hl : ∀ y ∈ XS, y ≤ after) => show ((0 : Int), false) = (x, y) by rw [← hx, next_miss (by rw [hf, hXS]; exact hl)])
  have XM := Lib.hid (fun (e : m = true) => show mayR r = true ∧ St.may start = true ∧ St.may end_ = true by
    have u := hm.trans e
    unfold mayE at u
    simp only [Bool.and_eq_true, decide_eq_true_eq] at u
    exact ⟨u.1.1.1.1, u.1.1.1.2, u.1.1.2⟩)
  have HF := Lib.hid (show (r.cnt = 0 → max start (after + 1) = f) ∧ (r.cnt ≠ 0 → start = f) from ⟨fun q => by rw [← hf]; unfold nextFrom; rw [if_pos q], fun q => by rw [← hf]; unfold nextFrom; rw [if_neg q]⟩)
  have HM := Lib.hid hm
  have HXS := Lib.hid hXS
  clear h hx hm hXS hf
  obtain ⟨n, hn⟩ : ∃ n : Nat, 9 ≤ n := ⟨9, Nat.le_refl _⟩
  refine (callsIn_wide (n := n)).1 ?_
  obtain ⟨ra6, rn6, rc6, ra7, rn7, rc7, ra8, rn8, rc8, ra9, rn9, rc9, ra10, rn10, rc10, ra11, rn11, rc11, ra12, rn12, rc12, ra13, rn13, rc13, ra14, rn14, rc14⟩ := S
  obtain ⟨rfreq, ritv, rcnt, rtil, rwkst, rends, rmon, rweek, ryday, rmday, rday, rhour, rminu, rsec, rpos⟩ := r
  show CallsIn Fence.wide n Tryz.prog 17 #[.agg #[.int .i64 rfreq, .int .i64 ritv, .int .i64 rcnt, .int .i64 rtil, .int .i64 rwkst, .bool rends, .slice ra6 rn6 rc6, .slice ra7 rn7 rc7, .slice ra8 rn8 rc8, .slice ra9 rn9 rc9, .slice ra10 rn10 rc10, .slice ra11 rn11 rc11, .slice ra12 rn12 rc12, .slice ra13 rn13 rc13, .slice ra14 rn14 rc14], .int .i64 start, .int .i64 after, .int .i64 end_] w _
  refine callsIn_of_wp_marks Tryz.func17 rfl trivial ?_ rfl
  simp only [Tryz.ntmps17, List.size_toArray, List.length_cons, List.length_nil, Nat.reduceAdd, Nat.reduceSub, Array.replicate_succ, Array.replicate_zero, List.push_toArray, List.append_toArray, List.nil_append, List.cons_append]
  refine wpIn_wide.2 ?_
  go_upto_region 1 with fail
  obtain ⟨Xr0, ⟨m1, m2, m3⟩, ⟨f2, f3⟩, B0, E0⟩ := four_cells w #[.int .i64 rfreq, .int .i64 ritv, .int .i64 rcnt, .int .i64 rtil, .int .i64 rwkst, .bool rends, .slice ra6 rn6 rc6, .slice ra7 rn7 rc7, .slice ra8 rn8 rc8, .slice ra9 rn9 rc9, .slice ra10 rn10 rc10, .slice ra11 rn11 rc11, .slice ra12 rn12 rc12, .slice ra13 rn13 rc13, .slice ra14 rn14 rc14] (.int .i64 after) (.int .i64 0) (.bool false) 25 3 3 4 _ rfl
  generalize (((w.alloc (.cells #[.int .i64 rfreq, .int .i64 ritv, .int .i64 rcnt, .int .i64 rtil, .int .i64 rwkst, .bool rends, .slice ra6 rn6 rc6, .slice ra7 rn7 rc7, .slice ra8 rn8 rc8, .slice ra9 rn9 rc9, .slice ra10 rn10 rc10, .slice ra11 rn11 rc11, .slice ra12 rn12 rc12, .slice ra13 rn13 rc13, .slice ra14 rn14 rc14] 25)).alloc (.cells #[.int .i64 after] 3)).alloc (.cells #[.int .i64 0] 3)).alloc (.cells #[.bool false] 4) = w0 at *
  have rz0 : w0.cell? ⟨w.heap.size, 0, none⟩ = some (.int .i64 rfreq) := Xr0.at_ 0 _ rfl
  have rz1 : w0.cell? ⟨w.heap.size, 1, none⟩ = some (.int .i64 ritv) := Xr0.at_ 1 _ rfl
  have rz2 : w0.cell? ⟨w.heap.size, 2, none⟩ = some (.int .i64 rcnt) := Xr0.at_ 2 _ rfl
  have rz3 : w0.cell? ⟨w.heap.size, 3, none⟩ = some (.int .i64 rtil) := Xr0.at_ 3 _ rfl
  have rz4 : w0.cell? ⟨w.heap.size, 4, none⟩ = some (.int .i64 rwkst) := Xr0.at_ 4 _ rfl
  have rz5 : w0.cell? ⟨w.heap.size, 5, none⟩ = some (.bool rends) := Xr0.at_ 5 _ rfl
  have rz6 : w0.cell? ⟨w.heap.size, 6, none⟩ = some (.slice ra6 rn6 rc6) := Xr0.at_ 6 _ rfl
  have rz7 : w0.cell? ⟨w.heap.size, 7, none⟩ = some (.slice ra7 rn7 rc7) := Xr0.at_ 7 _ rfl
  have rz8 : w0.cell? ⟨w.heap.size, 8, none⟩ = some (.slice ra8 rn8 rc8) := Xr0.at_ 8 _ rfl
  have rz9 : w0.cell? ⟨w.heap.size, 9, none⟩ = some (.slice ra9 rn9 rc9) := Xr0.at_ 9 _ rfl
  have rz10 : w0.cell? ⟨w.heap.size, 10, none⟩ = some (.slice ra10 rn10 rc10) := Xr0.at_ 10 _ rfl
  have rz11 : w0.cell? ⟨w.heap.size, 11, none⟩ = some (.slice ra11 rn11 rc11) := Xr0.at_ 11 _ rfl
  have rz12 : w0.cell? ⟨w.heap.size, 12, none⟩ = some (.slice ra12 rn12 rc12) := Xr0.at_ 12 _ rfl
  have rz13 : w0.cell? ⟨w.heap.size, 13, none⟩ = some (.slice ra13 rn13 rc13) := Xr0.at_ 13 _ rfl
  have rz14 : w0.cell? ⟨w.heap.size, 14, none⟩ = some (.slice ra14 rn14 rc14) := Xr0.at_ 14 _ rfl
  go_wp2_with fail
  refine (emay_is _ ⟨ra6, rn6, rc6, ra7, rn7, rc7, ra8, rn8, rc8, ra9, rn9, rc9, ra10, rn10, rc10, ra11, rn11, rc11, ra12, rn12, rc12, ra13, rn13, rc13, ra14, rn14, rc14⟩ ⟨rfreq, ritv, rcnt, rtil, rwkst, rends, rmon, rweek, ryday, rmday, rday, rhour, rminu, rsec, rpos⟩ start end_ 1 m (RA.out.below B0) HM.out).mono ?_
  rintro e w1 ⟨rfl, b1⟩
  clear rz0 rz1 rz2 rz3 rz4 rz5 rz6 rz7 rz8 rz9 rz10 rz11 rz12 rz13 rz14
  have B1 := B0.trans (b1.mono B0.size)
  have Xr1 := Xr0.below b1
  have E1 := b1.size
  have m11 := (b1.cell (p := ⟨w.heap.size + 1, 0, none⟩) (by simp; omega)).trans m1
  have m21 := (b1.cell (p := ⟨w.heap.size + 1 + 1, 0, none⟩) (by simp; omega)).trans m2
  have m31 := (b1.cell (p := ⟨w.heap.size + 1 + 1 + 1, 0, none⟩) (by simp; omega)).trans m3
  have f21 := (b1.frozen (p := ⟨w.heap.size + 1 + 1, 0, none⟩) (by simp; omega)).trans f2
  have f31 := (b1.frozen (p := ⟨w.heap.size + 1 + 1 + 1, 0, none⟩) (by simp; omega)).trans f3
  clear b1 B0 Xr0 m1 m2 m3 f2 f3
  cases m
  · have E := Lib.hid (X0.out (.inl rfl))
    clear X0 XH XN XM HF HXS
    have q2 : ((w1.setCell ⟨w.heap.size + 1 + 1, 0, none⟩ (.int .i64 0)).setCell ⟨w.heap.size + 1 + 1 + 1, 0, none⟩ (.bool false)).cell? ⟨w.heap.size + 1 + 1, 0, none⟩ = some (.int .i64 0) := by rw [World.cell?_setCell_other _ _ _ _ (by simp)]; exact World.cell?_setCell_same' _ _ _ (by rw [m21]; rfl)
    have q3 : ((w1.setCell ⟨w.heap.size + 1 + 1, 0, none⟩ (.int .i64 0)).setCell ⟨w.heap.size + 1 + 1 + 1, 0, none⟩ (.bool false)).cell? ⟨w.heap.size + 1 + 1 + 1, 0, none⟩ = some (.bool false) := World.cell?_setCell_same' _ _ _ (by rw [World.cell?_setCell_other _ _ _ _ (by simp), m31]; rfl)
    have BF := (B1.setCell (p := ⟨w.heap.size + 1 + 1, 0, none⟩) (by simp <;> omega) (.int .i64 0)).setCell (p := ⟨w.heap.size + 1 + 1 + 1, 0, none⟩) (by simp <;> omega) (.bool false)
    go_wp2
    obtain ⟨e1, e2⟩ := Prod.mk.inj E.out
    subst e1 e2
    exact ⟨.tuple #[.int .i64 0, .bool false], by simp [results, Tryz.f17, go_sem, q2, q3], rfl, BF⟩
  · by_cases ha : end_ ≤ after
    · have t1 : decide (end_ ≤ after) = true := decide_eq_true ha
      have E := Lib.hid (X0.out (.inr ha))
      clear X0 XH XN XM HF HXS
      have q2 : ((w1.setCell ⟨w.heap.size + 1 + 1, 0, none⟩ (.int .i64 0)).setCell ⟨w.heap.size + 1 + 1 + 1, 0, none⟩ (.bool false)).cell? ⟨w.heap.size + 1 + 1, 0, none⟩ = some (.int .i64 0) := by rw [World.cell?_setCell_other _ _ _ _ (by simp)]; exact World.cell?_setCell_same' _ _ _ (by rw [m21]; rfl)
      have q3 : ((w1.setCell ⟨w.heap.size + 1 + 1, 0, none⟩ (.int .i64 0)).setCell ⟨w.heap.size + 1 + 1 + 1, 0, none⟩ (.bool false)).cell? ⟨w.heap.size + 1 + 1 + 1, 0, none⟩ = some (.bool false) := World.cell?_setCell_same' _ _ _ (by rw [World.cell?_setCell_other _ _ _ _ (by simp), m31]; rfl)
      have BF := (B1.setCell (p := ⟨w.heap.size + 1 + 1, 0, none⟩) (by simp <;> omega) (.int .i64 0)).setCell (p := ⟨w.heap.size + 1 + 1 + 1, 0, none⟩) (by simp <;> omega) (.bool false)
      go_wp2
      obtain ⟨e1, e2⟩ := Prod.mk.inj E.out
      subst e1 e2
      exact ⟨.tuple #[.int .i64 0, .bool false], by simp [results, Tryz.f17, go_sem, q2, q3], rfl, BF⟩
    · have t1 : decide (end_ ≤ after) = false := decide_eq_false ha
      obtain ⟨c1, c2, c3⟩ := XM.out rfl
      have ZH := Lib.hid (show ∀ (pre : List Int) (z : Int), pre ++ [z] <+: XS → (∀ y ∈ pre, y ≤ after) → after < z → (z, true) = (x, y) from fun pre z a b c => XH.out rfl (Int.not_le.1 ha) pre z a b c)
      have s1 := of_decide_eq_true c2
      have s2 := of_decide_eq_true c3
      have hb := hi_bd c1 c3
      have W1' : IntKind.i64.wrap (after + 1) = after + 1 := IntWalk.i64_in _ (by omega)
      have FB : start ≤ f ∧ St.may f = true := by
        have q := HF.out
        by_cases c : rcnt = 0
        · have e := q.1 c
          exact ⟨by omega, decide_eq_true (by omega)⟩
        · have e := q.2 c
          rw [← e]
          exact ⟨Int.le_refl _, c2⟩
      clear X0 XM XH
      have rz2 : w1.cell? ⟨w.heap.size, 2, none⟩ = some (.int .i64 rcnt) := Xr1.at_ 2 _ rfl
      go_upto_if 25 with fail
      go_cut [10] from 26 to 30 (fun v wx => v = .int .i64 f ∧ wx = w1)
      case first =>
        by_cases c : rcnt = 0
        · have t2 : ((rcnt : Int) == 0) = true := by rw [beq_iff_eq]; exact c
          have E := Lib.hid (HF.out.1 c)
          clear c
          go_wp2
          all_goals
            go_meet
            exact ⟨by rw [← E.out], rfl⟩
        · have t2 : ((rcnt : Int) == 0) = false := by rw [beq_eq_false_iff_ne]; exact c
          have E := Lib.hid (HF.out.2 c)
          clear c
          go_wp2
          go_meet
          exact ⟨by rw [← E.out], rfl⟩
      case rest =>
        obtain ⟨rfl, rfl⟩ := hcut
        clear rz2
        have rz0 : wc.cell? ⟨w.heap.size, 0, none⟩ = some (.int .i64 rfreq) := Xr1.at_ 0 _ rfl
        have rz1 : wc.cell? ⟨w.heap.size, 1, none⟩ = some (.int .i64 ritv) := Xr1.at_ 1 _ rfl
        have rz2 : wc.cell? ⟨w.heap.size, 2, none⟩ = some (.int .i64 rcnt) := Xr1.at_ 2 _ rfl
        have rz3 : wc.cell? ⟨w.heap.size, 3, none⟩ = some (.int .i64 rtil) := Xr1.at_ 3 _ rfl
        have rz4 : wc.cell? ⟨w.heap.size, 4, none⟩ = some (.int .i64 rwkst) := Xr1.at_ 4 _ rfl
        have rz5 : wc.cell? ⟨w.heap.size, 5, none⟩ = some (.bool rends) := Xr1.at_ 5 _ rfl
        have rz6 : wc.cell? ⟨w.heap.size, 6, none⟩ = some (.slice ra6 rn6 rc6) := Xr1.at_ 6 _ rfl
        have rz7 : wc.cell? ⟨w.heap.size, 7, none⟩ = some (.slice ra7 rn7 rc7) := Xr1.at_ 7 _ rfl
        have rz8 : wc.cell? ⟨w.heap.size, 8, none⟩ = some (.slice ra8 rn8 rc8) := Xr1.at_ 8 _ rfl
        have rz9 : wc.cell? ⟨w.heap.size, 9, none⟩ = some (.slice ra9 rn9 rc9) := Xr1.at_ 9 _ rfl
        have rz10 : wc.cell? ⟨w.heap.size, 10, none⟩ = some (.slice ra10 rn10 rc10) := Xr1.at_ 10 _ rfl
        have rz11 : wc.cell? ⟨w.heap.size, 11, none⟩ = some (.slice ra11 rn11 rc11) := Xr1.at_ 11 _ rfl
        have rz12 : wc.cell? ⟨w.heap.size, 12, none⟩ = some (.slice ra12 rn12 rc12) := Xr1.at_ 12 _ rfl
        have rz13 : wc.cell? ⟨w.heap.size, 13, none⟩ = some (.slice ra13 rn13 rc13) := Xr1.at_ 13 _ rfl
        have rz14 : wc.cell? ⟨w.heap.size, 14, none⟩ = some (.slice ra14 rn14 rc14) := Xr1.at_ 14 _ rfl
        go_wp2_with fail
        refine (moments_is _ ⟨ra6, rn6, rc6, ra7, rn7, rc7, ra8, rn8, rc8, ra9, rn9, rc9, ra10, rn10, rc10, ra11, rn11, rc11, ra12, rn12, rc12, ra13, rn13, rc13, ra14, rn14, rc14⟩ ⟨rfreq, ritv, rcnt, rtil, rwkst, rends, rmon, rweek, ryday, rmday, rday, rhour, rminu, rsec, rpos⟩ start f end_ c1).mono ?_
        rintro e w3 ⟨he, F4, b3⟩
        clear rz0 rz1 rz2 rz3 rz4 rz5 rz6 rz7 rz8 rz9 rz10 rz11 rz12 rz13 rz14
        have SB := B1.size
        have a1 := (b3.cell (p := ⟨w.heap.size + 1, 0, none⟩) (by simp; omega)).trans m11
        have a2 := (b3.cell (p := ⟨w.heap.size + 1 + 1, 0, none⟩) (by simp; omega)).trans m21
        have a3 := (b3.cell (p := ⟨w.heap.size + 1 + 1 + 1, 0, none⟩) (by simp; omega)).trans m31
        have g2 := (b3.frozen (p := ⟨w.heap.size + 1 + 1, 0, none⟩) (by simp; omega)).trans f21
        have g3 := (b3.frozen (p := ⟨w.heap.size + 1 + 1 + 1, 0, none⟩) (by simp; omega)).trans f31
        have B3 := B1.trans (b3.mono B1.size)
        have lt4 := F4.lt
        have E3 := b3.size
        obtain ⟨gf, lb, hv, hg, SEQ⟩ : ∃ gf lb, MomV wc.heap.size = .func (.func gf) #[] lb ∧ (∀ args w, (callFunc gf args).run Tryz.prog w = .ok (.enter gf args) w) ∧ SeqX Fence.wide (n - 1) Tryz.prog gf lb (setC w wc.heap.size) (InC w wc.heap.size ⟨ra6, rn6, rc6, ra7, rn7, rc7, ra8, rn8, rc8, ra9, rn9, rc9, ra10, rn10, rc10, ra11, rn11, rc11, ra12, rn12, rc12, ra13, rn13, rc13, ra14, rn14, rc14⟩ ⟨rfreq, ritv, rcnt, rtil, rwkst, rends, rmon, rweek, ryday, rmday, rday, rhour, rminu, rsec, rpos⟩ start f (hiR ⟨rfreq, ritv, rcnt, rtil, rwkst, rends, rmon, rweek, ryday, rmday, rday, rhour, rminu, rsec, rpos⟩ end_)) XS :=
          ⟨_, _, rfl, enters_of Tryz.func50 (by kernel_rfl) rfl, by rw [← HXS.out]; exact mom_seq w _ _ start f end_ wc.heap.size (n - 1) (by omega) RA.out c1 c2 FB.2 FB.1 hb.1 hb.2⟩
        rw [hv] at he
        subst he
        clear hv
        obtain ⟨hi, hhi⟩ : ∃ x, hiR ⟨rfreq, ritv, rcnt, rtil, rwkst, rends, rmon, rweek, ryday, rmday, rday, rhour, rminu, rsec, rpos⟩ end_ = x := ⟨_, rfl⟩
        rw [hhi] at SEQ F4
        have IC : InC w wc.heap.size ⟨ra6, rn6, rc6, ra7, rn7, rc7, ra8, rn8, rc8, ra9, rn9, rc9, ra10, rn10, rc10, ra11, rn11, rc11, ra12, rn12, rc12, ra13, rn13, rc13, ra14, rn14, rc14⟩ ⟨rfreq, ritv, rcnt, rtil, rwkst, rends, rmon, rweek, ryday, rmday, rday, rhour, rminu, rsec, rpos⟩ start f hi w3 := ⟨B1.size, B3, F4⟩
        clear hhi hb m11 m21 m31 f21 f31 b3 B1 Xr1 F4 HXS HF FB c1 c2 c3 s1 s2 W1'
        go_wp2
        refine wpIn_wide (n := n).1 ?_
        refine wpIn_rangeX (n := n) rfl (by omega) (gf := gf) (lb := lb) rfl trivial hg SEQ (fun k hk => by
            rcases hk with h | h <;> omega) (fun W' hk => IC.keeps hk fun k hc => by
            rcases hc with h | h <;> omega)
          (NextI w after w3.heap.size) (NextX w (x, y)) (nextI_foot (by omega)) nextX_foot
          ⟨B3, fun _ _ h => h, Nat.le_refl _, a1, a2, a3, g2, g3, fun _ h => by cases h⟩
          (fun z => { tmps := #[.agg #[.int .i64 rfreq, .int .i64 ritv, .int .i64 rcnt, .int .i64 rtil, .int .i64 rwkst, .bool rends, .slice ra6 rn6 rc6, .slice ra7 rn7 rc7, .slice ra8 rn8 rc8, .slice ra9 rn9 rc9, .slice ra10 rn10 rc10, .slice ra11 rn11 rc11, .slice ra12 rn12 rc12, .slice ra13 rn13 rc13, .slice ra14 rn14 rc14], .int .i64 start, .int .i64 after, .int .i64 end_, .pointer (some ⟨w.heap.size, 0, none⟩), undef, .pointer (some ⟨w.heap.size + 1, 0, none⟩), undef, .pointer (some ⟨w.heap.size + 1 + 1, 0, none⟩), .pointer (some ⟨w.heap.size + 1 + 1 + 1, 0, none⟩), .int .i64 f, .int .i64 z, .agg #[.int .i64 rfreq, .int .i64 ritv, .int .i64 rcnt, .int .i64 rtil, .int .i64 rwkst, .bool rends, .slice ra6 rn6 rc6, .slice ra7 rn7 rc7, .slice ra8 rn8 rc8, .slice ra9 rn9 rc9, .slice ra10 rn10 rc10, .slice ra11 rn11 rc11, .slice ra12 rn12 rc12, .slice ra13 rn13 rc13, .slice ra14 rn14 rc14], .int .i64 start, .int .i64 end_, .bool true, .bool false, .bool false, .int .i64 after, .int .i64 end_, .bool false, .bool false, .int .i64 start, .pointer (some ⟨w.heap.size, 2, none⟩), .int .i64 rcnt, .bool (rcnt == 0), u26, u27, u28, u29, .agg #[.int .i64 rfreq, .int .i64 ritv, .int .i64 rcnt, .int .i64 rtil, .int .i64 rwkst, .bool rends, .slice ra6 rn6 rc6, .slice ra7 rn7 rc7, .slice ra8 rn8 rc8, .slice ra9 rn9 rc9, .slice ra10 rn10 rc10, .slice ra11 rn11 rc11, .slice ra12 rn12 rc12, .slice ra13 rn13 rc13, .slice ra14 rn14 rc14], .int .i64 start, .int .i64 f, .int .i64 end_, .func (.func gf) #[] lb, .int .i64 z, undef, undef, undef, undef], defers := [] }) ?assign ?body ?done ?stop
        case assign =>
          intro l0 x W2 K hK
          gi_wp2
          exact hK
        case body =>
          rintro l0 X pre z W2 M hX hXC hXD hXL hpre
          have mm := M.a
          have mr2 := M.r2
          have mr3 := M.r3
          have mf2 := M.f2
          have mf3 := M.f3
          have sz := M.size
          have LE := Lib.hid M.le
          have n2 := M.far (w.heap.size + 1 + 1) (by omega)
          have n3 := M.far (w.heap.size + 1 + 1 + 1) (by omega)
          have MM := Lib.hid M
          clear M
          by_cases hc : after < z
          · have t0 : decide (after < z) = true := decide_eq_true hc
            have E := Lib.hid (ZH.out pre z hpre LE.out hc)
            clear hc
            have q2 : ((W2.setCell ⟨w.heap.size + 1 + 1, 0, none⟩ (.int .i64 z)).setCell ⟨w.heap.size + 1 + 1 + 1, 0, none⟩ (.bool true)).cell? ⟨w.heap.size + 1 + 1, 0, none⟩ = some (.int .i64 z) := by rw [World.cell?_setCell_other _ _ _ _ (by simp)]; exact World.cell?_setCell_same' _ _ _ (by rw [mr2]; rfl)
            have q3 : ((W2.setCell ⟨w.heap.size + 1 + 1, 0, none⟩ (.int .i64 z)).setCell ⟨w.heap.size + 1 + 1 + 1, 0, none⟩ (.bool true)).cell? ⟨w.heap.size + 1 + 1 + 1, 0, none⟩ = some (.bool true) := World.cell?_setCell_same' _ _ _ (by rw [World.cell?_setCell_other _ _ _ _ (by simp), mr3]; rfl)
            have BF := (MM.out.below.setCell (p := ⟨w.heap.size + 1 + 1, 0, none⟩) (by simp <;> omega) (.int .i64 z)).setCell (p := ⟨w.heap.size + 1 + 1 + 1, 0, none⟩) (by simp <;> omega) (.bool true)
            have nC : ∀ j, j < wc.heap.size → w.heap.size ≤ j → ¬ setC w wc.heap.size j := fun j a b h => by rcases h with h | h <;> omega
            have KF : Keeps (fun k => X k ∨ setC w wc.heap.size k) W2 ((W2.setCell ⟨w.heap.size + 1 + 1, 0, none⟩ (.int .i64 z)).setCell ⟨w.heap.size + 1 + 1 + 1, 0, none⟩ (.bool true)) :=
              (Keeps.setCell _ _ _ (fun h => h.elim n2 (nC _ (by simp; omega) (by simp; omega)))).trans (Keeps.setCell _ _ _ (fun h => h.elim n3 (nC _ (by simp; omega) (by simp; omega))))
            have FR := MM.out.far
            have SZ : w.heap.size + 4 ≤ ((W2.setCell ⟨w.heap.size + 1 + 1, 0, none⟩ (.int .i64 z)).setCell ⟨w.heap.size + 1 + 1 + 1, 0, none⟩ (.bool true)).heap.size := by simp; omega
            gi_wp2
            obtain ⟨e1, e2⟩ := Prod.mk.inj E.out
            subst e1 e2
            exact ⟨KF, rfl, BF, SZ, fun k h => FR k h, q2, q3⟩
          · have t0 : decide (after < z) = false := decide_eq_false hc
            have L := Lib.hid (show ∀ y ∈ pre ++ [z], y ≤ after from fun y hy => by
              rcases List.mem_append.1 hy with h | h
              · exact LE.out y h
              · rw [List.mem_singleton.1 h]; omega)
            clear hc
            gi_wp2
            exact ⟨Keeps.refl _ _, MM.out.below, MM.out.far, MM.out.size, mm, mr2, mr3, mf2, mf3, L.out⟩
        case done =>
          rintro D W3 hD M hK
          have E := Lib.hid (XN.out M.le)
          have mr2 := M.r2
          have mr3 := M.r3
          have mf2 := M.f2
          have mf3 := M.f3
          have sz := M.size
          have DL := (Array.getElem?_eq_some_iff.1 hK).1
          obtain ⟨W4, h4⟩ : ∃ W4, (W3.setCell ⟨w.heap.size + 1 + 1, 0, none⟩ (.int .i64 0)).setCell ⟨w.heap.size + 1 + 1 + 1, 0, none⟩ (.bool false) = W4 := ⟨_, rfl⟩
          have hK4 : W4.heap[D]? = some (.deferred (some [])) := by
            rw [← h4]
            exact (Below.heap_setCell _ _ _ _ (by simp; omega)).trans ((Below.heap_setCell _ _ _ _ (by simp; omega)).trans hK)
          have q2 : (W4.putObj D (.deferred none)).cell? ⟨w.heap.size + 1 + 1, 0, none⟩ = some (.int .i64 0) := by
            refine (World.cell?_of_block (w := W4) (World.putObj_heap_other (by simp; omega))).trans ?_
            rw [← h4, World.cell?_setCell_other _ _ _ _ (by simp)]
            exact World.cell?_setCell_same' _ _ _ (by rw [mr2]; rfl)
          have q3 : (W4.putObj D (.deferred none)).cell? ⟨w.heap.size + 1 + 1 + 1, 0, none⟩ = some (.bool false) := by
            refine (World.cell?_of_block (w := W4) (World.putObj_heap_other (by simp; omega))).trans ?_
            rw [← h4]
            exact World.cell?_setCell_same' _ _ _ (by rw [World.cell?_setCell_other _ _ _ _ (by simp), mr3]; rfl)
          have BF : Below w.heap.size w (W4.putObj D (.deferred none)) := by
            have b4 : Below w.heap.size w W4 := by
              rw [← h4]
              exact (M.below.setCell (p := ⟨w.heap.size + 1 + 1, 0, none⟩) (by simp <;> omega) _).setCell (p := ⟨w.heap.size + 1 + 1 + 1, 0, none⟩) (by simp <;> omega) _
            exact b4.trans ((Keeps.putObj (X := fun k => k < w.heap.size) W4 D _ (by omega)).below b4.size)
          clear M
          go_wp2
          refine ⟨by simp, .inl ⟨_, _, rfl, run_takeDeferred hK4, ?_⟩⟩
          obtain ⟨e1, e2⟩ := Prod.mk.inj E.out
          subst e1 e2
          exact ⟨.tuple #[.int .i64 0, .bool false], by simp [results, Tryz.f17, go_sem, q2, q3], rfl, BF⟩
        case stop =>
          rintro D cc pre W3 hD hpre M hK
          obtain rfl := M.e
          have sz := M.size
          have q2 : (W3.putObj D (.deferred none)).cell? ⟨w.heap.size + 1 + 1, 0, none⟩ = some (.int .i64 x) := (World.cell?_of_block (w := W3) (World.putObj_heap_other (by simp; omega))).trans M.r2
          have q3 : (W3.putObj D (.deferred none)).cell? ⟨w.heap.size + 1 + 1 + 1, 0, none⟩ = some (.bool y) := (World.cell?_of_block (w := W3) (World.putObj_heap_other (by simp; omega))).trans M.r3
          have BF : Below w.heap.size w (W3.putObj D (.deferred none)) := M.below.trans ((Keeps.putObj (X := fun k => k < w.heap.size) W3 D _ (by omega)).below M.below.size)
          clear M
          gi_wp2
          refine ⟨by simp, .inl ⟨_, _, rfl, run_takeDeferred hK, ?_⟩⟩
          exact ⟨.tuple #[.int .i64 x, .bool y], by simp [results, Tryz.f17, go_sem, q2, q3], rfl, BF⟩
end Go.Proofs.YtnfcchimkfnmkaaGreatDoor.Ex
namespace Go.Proofs.YtnfcchimkfnmkaaGreatDoor.Ex
open Go.RowKit Cv St Ru Dd Mb

theorem list_max {r : Ru} {start end_ : Int} {l : List Int} {x : Int} (hp : listR r start end_ 4096 = (l, x)) : (l.length : Int) ≤ 4096 := by
  unfold listR at hp
  split at hp
  · rw [← (Prod.mk.inj hp).1]; simp
  · split at hp
    · rw [← (Prod.mk.inj hp).1]; simp
    · rename_i d
      rw [← (Prod.mk.inj hp).1]; omega
/-- the cells of a list that is read -/
structure CellsAt (w : World) (bl off m : Nat) (l : List Int) : Prop where
  lt : bl < w.heap.size
  at_ : ∀ j, j < m → w.cell? ⟨bl, off + j, none⟩ = some (.int .i64 (iat l j))
theorem CellsAt.below {w w' : World} {bl off m : Nat} {l : List Int} (h : CellsAt w bl off m l) (hb : Below w.heap.size w w') : CellsAt w' bl off m l :=
  ⟨Nat.lt_of_lt_of_le h.lt hb.size, fun j hj => (hb.cell (p := ⟨bl, _, none⟩) h.lt).trans (h.at_ j hj)⟩
theorem cells_of {w : World} {A : Option Addr} {m : Nat} {l : List Int} (h : IsAt w A m l) (h0 : 0 < m) : ∃ bl off, A = some ⟨bl, off, none⟩ ∧ CellsAt w bl off m l := by
  obtain ⟨bl, off, e, lt, hc⟩ := h.2 h0
  exact ⟨bl, off, e, lt, hc⟩
set_option maxRecDepth 100000 in
set_option maxHeartbeats 16000000 in
theorem next_walk (w : World) (T : Tabs w) (S : RS) (r : Ru) (start end_ i : Int) (h : RuIn w S r) (l3 : -9223372036854775808 ≤ i) (u3 : i ≤ 9223372036854775807) :
    Calls Tryz.prog 6 #[S.val r, .int .i64 start, .int .i64 end_, .int .i64 i] w fun e w' => e = .returned (.bool true) ∧ Below w.heap.size w w' := by
  have TT := Lib.hid T
  have HK := Lib.hid h
  have FEW := Lib.hid (fun (e : fewB S = true) => h.few e)
  obtain ⟨⟨l, x⟩, hp⟩ : ∃ p, listR r start end_ 4096 = p := ⟨_, rfl⟩
  have HP := Lib.hid hp
  have LB4 := Lib.hid (list_max hp)
  have NO := Lib.hid (fun (e : x = 0) (t : Nat) (ht : t < l.length) => next_ok (r := r) (start := start) (end_ := end_) (l := l) (i := t) (by rw [hp, e]) ht)
  have ME := Lib.hid (fun (e : x = 0) (t : Nat) (ht : t < l.length) => show -62135596800 ≤ start ∧ start ≤ iat l t ∧ iat l t ≤ 253402300799 by
    have h0 : listR r start end_ 4096 = (l, 0) := by rw [hp, e]
    have a := members_in h0 (x := iat l t) (by rw [iat_lt ht]; exact List.getElem_mem _)
    obtain ⟨-, m2, m3, -, -, -⟩ := mayE_of (list_ok h0).1
    have s1 := of_decide_eq_true m2
    have s2 := of_decide_eq_true m3
    omega)
  clear hp
  clear h T
  obtain ⟨ra6, rn6, rc6, ra7, rn7, rc7, ra8, rn8, rc8, ra9, rn9, rc9, ra10, rn10, rc10, ra11, rn11, rc11, ra12, rn12, rc12, ra13, rn13, rc13, ra14, rn14, rc14⟩ := S
  obtain ⟨rfreq, ritv, rcnt, rtil, rwkst, rends, rmon, rweek, ryday, rmday, rday, rhour, rminu, rsec, rpos⟩ := r
  show Calls Tryz.prog 6 #[.agg #[.int .i64 rfreq, .int .i64 ritv, .int .i64 rcnt, .int .i64 rtil, .int .i64 rwkst, .bool rends, .slice ra6 rn6 rc6, .slice ra7 rn7 rc7, .slice ra8 rn8 rc8, .slice ra9 rn9 rc9, .slice ra10 rn10 rc10, .slice ra11 rn11 rc11, .slice ra12 rn12 rc12, .slice ra13 rn13 rc13, .slice ra14 rn14 rc14], .int .i64 start, .int .i64 end_, .int .i64 i] w _
  go_enter Tryz.func6, Tryz.ntmps6
  go_upto_region 1 with fail
  have B0 := alloc_below w (.cells #[.int .i64 rfreq, .int .i64 ritv, .int .i64 rcnt, .int .i64 rtil, .int .i64 rwkst, .bool rends, .slice ra6 rn6 rc6, .slice ra7 rn7 rc7, .slice ra8 rn8 rc8, .slice ra9 rn9 rc9, .slice ra10 rn10 rc10, .slice ra11 rn11 rc11, .slice ra12 rn12 rc12, .slice ra13 rn13 rc13, .slice ra14 rn14 rc14] 25)
  have Xr0 := Box.new w #[.int .i64 rfreq, .int .i64 ritv, .int .i64 rcnt, .int .i64 rtil, .int .i64 rwkst, .bool rends, .slice ra6 rn6 rc6, .slice ra7 rn7 rc7, .slice ra8 rn8 rc8, .slice ra9 rn9 rc9, .slice ra10 rn10 rc10, .slice ra11 rn11 rc11, .slice ra12 rn12 rc12, .slice ra13 rn13 rc13, .slice ra14 rn14 rc14] 25
  generalize w.alloc (.cells #[.int .i64 rfreq, .int .i64 ritv, .int .i64 rcnt, .int .i64 rtil, .int .i64 rwkst, .bool rends, .slice ra6 rn6 rc6, .slice ra7 rn7 rc7, .slice ra8 rn8 rc8, .slice ra9 rn9 rc9, .slice ra10 rn10 rc10, .slice ra11 rn11 rc11, .slice ra12 rn12 rc12, .slice ra13 rn13 rc13, .slice ra14 rn14 rc14] 25) = w0 at *
  go_wp2_with fail
  refine (first8_is _ (TT.out.on B0)).mono ?_
  rintro e w1 ⟨rfl, b1⟩
  have B1 := B0.trans (b1.mono B0.size)
  have Xr1 := Xr0.below b1
  clear B0 Xr0
  clear b1
  have rz0 : w1.cell? ⟨w.heap.size, 0, none⟩ = some (.int .i64 rfreq) := Xr1.at_ 0 _ rfl
  have rz1 : w1.cell? ⟨w.heap.size, 1, none⟩ = some (.int .i64 ritv) := Xr1.at_ 1 _ rfl
  have rz2 : w1.cell? ⟨w.heap.size, 2, none⟩ = some (.int .i64 rcnt) := Xr1.at_ 2 _ rfl
  have rz3 : w1.cell? ⟨w.heap.size, 3, none⟩ = some (.int .i64 rtil) := Xr1.at_ 3 _ rfl
  have rz4 : w1.cell? ⟨w.heap.size, 4, none⟩ = some (.int .i64 rwkst) := Xr1.at_ 4 _ rfl
  have rz5 : w1.cell? ⟨w.heap.size, 5, none⟩ = some (.bool rends) := Xr1.at_ 5 _ rfl
  have rz6 : w1.cell? ⟨w.heap.size, 6, none⟩ = some (.slice ra6 rn6 rc6) := Xr1.at_ 6 _ rfl
  have rz7 : w1.cell? ⟨w.heap.size, 7, none⟩ = some (.slice ra7 rn7 rc7) := Xr1.at_ 7 _ rfl
  have rz8 : w1.cell? ⟨w.heap.size, 8, none⟩ = some (.slice ra8 rn8 rc8) := Xr1.at_ 8 _ rfl
  have rz9 : w1.cell? ⟨w.heap.size, 9, none⟩ = some (.slice ra9 rn9 rc9) := Xr1.at_ 9 _ rfl
  have rz10 : w1.cell? ⟨w.heap.size, 10, none⟩ = some (.slice ra10 rn10 rc10) := Xr1.at_ 10 _ rfl
  have rz11 : w1.cell? ⟨w.heap.size, 11, none⟩ = some (.slice ra11 rn11 rc11) := Xr1.at_ 11 _ rfl
  have rz12 : w1.cell? ⟨w.heap.size, 12, none⟩ = some (.slice ra12 rn12 rc12) := Xr1.at_ 12 _ rfl
  have rz13 : w1.cell? ⟨w.heap.size, 13, none⟩ = some (.slice ra13 rn13 rc13) := Xr1.at_ 13 _ rfl
  have rz14 : w1.cell? ⟨w.heap.size, 14, none⟩ = some (.slice ra14 rn14 rc14) := Xr1.at_ 14 _ rfl
  go_wp2_with fail
  refine (light8_is _ ⟨ra6, rn6, rc6, ra7, rn7, rc7, ra8, rn8, rc8, ra9, rn9, rc9, ra10, rn10, rc10, ra11, rn11, rc11, ra12, rn12, rc12, ra13, rn13, rc13, ra14, rn14, rc14⟩ ⟨rfreq, ritv, rcnt, rtil, rwkst, rends, rmon, rweek, ryday, rmday, rday, rhour, rminu, rsec, rpos⟩ start end_ (in_below HK.out B1)).mono ?_
  rintro e w2 ⟨⟨lb, rfl, HB⟩, b2⟩
  clear rz0 rz1 rz2 rz3 rz4 rz5 rz6 rz7 rz8 rz9 rz10 rz11 rz12 rz13 rz14
  have B2 := B1.trans (b2.mono B1.size)
  have Xr2 := Xr1.below b2
  clear B1 Xr1
  clear b2
  have LB := Lib.hid HB
  clear HB
  cases lb
  · go_wp2_with fail
    refine (first8_is _ (TT.out.on B2)).mono ?_
    rintro e w3 ⟨rfl, b3⟩
    have B3 := B2.trans (b3.mono B2.size)
    have Xr3 := Xr2.below b3
    clear B2 Xr2
    clear b3
    go_wp2
    go_ret
    exact ⟨rfl, B3⟩
  · have X1 := Lib.hid (LB.out rfl)
    clear LB
    have RA := Lib.hid (FEW.out X1.out)
    have rz0 : w2.cell? ⟨w.heap.size, 0, none⟩ = some (.int .i64 rfreq) := Xr2.at_ 0 _ rfl
    have rz1 : w2.cell? ⟨w.heap.size, 1, none⟩ = some (.int .i64 ritv) := Xr2.at_ 1 _ rfl
    have rz2 : w2.cell? ⟨w.heap.size, 2, none⟩ = some (.int .i64 rcnt) := Xr2.at_ 2 _ rfl
    have rz3 : w2.cell? ⟨w.heap.size, 3, none⟩ = some (.int .i64 rtil) := Xr2.at_ 3 _ rfl
    have rz4 : w2.cell? ⟨w.heap.size, 4, none⟩ = some (.int .i64 rwkst) := Xr2.at_ 4 _ rfl
    have rz5 : w2.cell? ⟨w.heap.size, 5, none⟩ = some (.bool rends) := Xr2.at_ 5 _ rfl
    have rz6 : w2.cell? ⟨w.heap.size, 6, none⟩ = some (.slice ra6 rn6 rc6) := Xr2.at_ 6 _ rfl
    have rz7 : w2.cell? ⟨w.heap.size, 7, none⟩ = some (.slice ra7 rn7 rc7) := Xr2.at_ 7 _ rfl
    have rz8 : w2.cell? ⟨w.heap.size, 8, none⟩ = some (.slice ra8 rn8 rc8) := Xr2.at_ 8 _ rfl
    have rz9 : w2.cell? ⟨w.heap.size, 9, none⟩ = some (.slice ra9 rn9 rc9) := Xr2.at_ 9 _ rfl
    have rz10 : w2.cell? ⟨w.heap.size, 10, none⟩ = some (.slice ra10 rn10 rc10) := Xr2.at_ 10 _ rfl
    have rz11 : w2.cell? ⟨w.heap.size, 11, none⟩ = some (.slice ra11 rn11 rc11) := Xr2.at_ 11 _ rfl
    have rz12 : w2.cell? ⟨w.heap.size, 12, none⟩ = some (.slice ra12 rn12 rc12) := Xr2.at_ 12 _ rfl
    have rz13 : w2.cell? ⟨w.heap.size, 13, none⟩ = some (.slice ra13 rn13 rc13) := Xr2.at_ 13 _ rfl
    have rz14 : w2.cell? ⟨w.heap.size, 14, none⟩ = some (.slice ra14 rn14 rc14) := Xr2.at_ 14 _ rfl
    go_wp2_with fail
    refine (list_is _ ⟨ra6, rn6, rc6, ra7, rn7, rc7, ra8, rn8, rc8, ra9, rn9, rc9, ra10, rn10, rc10, ra11, rn11, rc11, ra12, rn12, rc12, ra13, rn13, rc13, ra14, rn14, rc14⟩ ⟨rfreq, ritv, rcnt, rtil, rwkst, rends, rmon, rweek, ryday, rmday, rday, rhour, rminu, rsec, rpos⟩ (start) (end_) (4096) (l, x) (RA.out.below B2) HP.out).mono ?_
    rintro e w3 ⟨A1, c1, he, i3, b3⟩
    replace he : e = .returned (.tuple #[.slice A1 (l : List Int).length c1, .int .i64 x]) := he
    replace i3 : IsAt w3 A1 (l : List Int).length l := i3
    subst he
    clear rz0 rz1 rz2 rz3 rz4 rz5 rz6 rz7 rz8 rz9 rz10 rz11 rz12 rz13 rz14
    have B3 := B2.trans (b3.mono B2.size)
    have Xr3 := Xr2.below b3
    clear B2 Xr2
    clear b3
    have K1 := Lib.hid i3
    clear i3
    obtain ⟨m, hm⟩ : ∃ m, l.length = m := ⟨_, rfl⟩
    have LM := Lib.hid hm
    have lm : (m : Int) ≤ 4096 := by rw [← hm]; exact LB4.out
    rw [hm] at K1 NO ME ⊢
    clear hm LB4
    by_cases x0 : x = 0
    · have t0 : (x != 0) = false := by rw [bne_eq_false_iff_eq]; exact x0
      have NO := Lib.hid (NO.out x0)
      have ME := Lib.hid (ME.out x0)
      clear x0
      by_cases i0 : i < 0
      · have t1 : decide (i < 0) = true := decide_eq_true i0
        clear i0
        go_wp2_with fail
        refine (first8_is _ (TT.out.on B3)).mono ?_
        rintro e w4 ⟨rfl, b4⟩
        have B4 := B3.trans (b4.mono B3.size)
        have Xr4 := Xr3.below b4
        clear B3 Xr3
        have K1 := Lib.hid (K1.out.below b4)
        clear b4
        go_wp2
        go_ret
        exact ⟨rfl, B4⟩
      · have t1 : decide (i < 0) = false := decide_eq_false i0
        by_cases i1 : (m : Int) ≤ i
        · have t2 : decide ((m : Int) ≤ i) = true := decide_eq_true i1
          clear i0 i1
          go_wp2_with fail
          refine (first8_is _ (TT.out.on B3)).mono ?_
          rintro e w4 ⟨rfl, b4⟩
          have B4 := B3.trans (b4.mono B3.size)
          have Xr4 := Xr3.below b4
          clear B3 Xr3
          have K1 := Lib.hid (K1.out.below b4)
          clear b4
          go_wp2
          go_ret
          exact ⟨rfl, B4⟩
        · have t2 : decide ((m : Int) ≤ i) = false := decide_eq_false i1
          obtain ⟨t, ht⟩ : ∃ t : Nat, i = t := ⟨i.toNat, by omega⟩
          subst ht
          have tm : t < m := by omega
          have t3 : decide (m ≤ t) = false := decide_eq_false (by omega)
          obtain ⟨me1, me2, me3⟩ := ME.out t tm
          obtain ⟨no1, no2⟩ := NO.out t tm
          have NA := Lib.hid no1
          have NB := Lib.hid (no2 (by omega))
          obtain ⟨bl, off, ea, ca⟩ := cells_of K1.out (show 0 < m by omega)
          subst ea
          have CA := Lib.hid ca
          have cc := ca.at_ t tm
          have W1 : IntKind.i64.wrap (start - 1) = start - 1 := IntWalk.i64_in _ (by omega)
          have W2 : IntKind.i64.wrap ((t : Int) + 1) = (t : Int) + 1 := IntWalk.i64_in _ (by omega)
          have TM := Lib.hid tm
          clear ca NO ME no1 no2 i0 i1 K1
          by_cases lst : t + 1 < m
          · have N1 := Lib.hid (show nextR ⟨rfreq, ritv, rcnt, rtil, rwkst, rends, rmon, rweek, ryday, rmday, rday, rhour, rminu, rsec, rpos⟩ start (iat l t) end_ = (iat l (t + 1), true) by rw [NA.out, dif_pos lst])
            have e0 : (((t : Int) + 1) == (m : Int)) = false := by rw [beq_eq_false_iff_ne]; omega
            have LS := Lib.hid lst
            clear lst NA
            have HT := Lib.hid (show -9223372036854775808 ≤ iat l t by omega)
            obtain ⟨g, hg⟩ : ∃ g, iat l t = g := ⟨_, rfl⟩
            have GG := Lib.hid hg
            rw [hg] at N1 HT me2 me3
            clear hg cc
            go_upto_region 8 with fail
            refine wp_region_late (fun _ => false) (fun v => Below w3.heap.size w3 v) (by kernel_rfl) ?_
            have D0 : Below w3.heap.size w3 w3.drew := (Below.refl _ _).drew
            refine Late.take 0 (.agg #[.int .i64 rfreq, .int .i64 ritv, .int .i64 rcnt, .int .i64 rtil, .int .i64 rwkst, .bool rends, .slice ra6 rn6 rc6, .slice ra7 rn7 rc7, .slice ra8 rn8 rc8, .slice ra9 rn9 rc9, .slice ra10 rn10 rc10, .slice ra11 rn11 rc11, .slice ra12 rn12 rc12, .slice ra13 rn13 rc13, .slice ra14 rn14 rc14]) rfl (by kernel_rfl) (by kernel_rfl) (by kernel_rfl) (by kernel_rfl) (fun _ _ _ h => h) (.inl ⟨rfl, fun w' hs => ?_⟩) D0 ?_
            · have XQ := Xr3.below hs
              have z0 : w'.cell? ⟨w.heap.size, 0, none⟩ = some (.int .i64 rfreq) := XQ.at_ 0 _ rfl
              have z1 : w'.cell? ⟨w.heap.size, 1, none⟩ = some (.int .i64 ritv) := XQ.at_ 1 _ rfl
              have z2 : w'.cell? ⟨w.heap.size, 2, none⟩ = some (.int .i64 rcnt) := XQ.at_ 2 _ rfl
              have z3 : w'.cell? ⟨w.heap.size, 3, none⟩ = some (.int .i64 rtil) := XQ.at_ 3 _ rfl
              have z4 : w'.cell? ⟨w.heap.size, 4, none⟩ = some (.int .i64 rwkst) := XQ.at_ 4 _ rfl
              have z5 : w'.cell? ⟨w.heap.size, 5, none⟩ = some (.bool rends) := XQ.at_ 5 _ rfl
              have z6 : w'.cell? ⟨w.heap.size, 6, none⟩ = some (.slice ra6 rn6 rc6) := XQ.at_ 6 _ rfl
              have z7 : w'.cell? ⟨w.heap.size, 7, none⟩ = some (.slice ra7 rn7 rc7) := XQ.at_ 7 _ rfl
              have z8 : w'.cell? ⟨w.heap.size, 8, none⟩ = some (.slice ra8 rn8 rc8) := XQ.at_ 8 _ rfl
              have z9 : w'.cell? ⟨w.heap.size, 9, none⟩ = some (.slice ra9 rn9 rc9) := XQ.at_ 9 _ rfl
              have z10 : w'.cell? ⟨w.heap.size, 10, none⟩ = some (.slice ra10 rn10 rc10) := XQ.at_ 10 _ rfl
              have z11 : w'.cell? ⟨w.heap.size, 11, none⟩ = some (.slice ra11 rn11 rc11) := XQ.at_ 11 _ rfl
              have z12 : w'.cell? ⟨w.heap.size, 12, none⟩ = some (.slice ra12 rn12 rc12) := XQ.at_ 12 _ rfl
              have z13 : w'.cell? ⟨w.heap.size, 13, none⟩ = some (.slice ra13 rn13 rc13) := XQ.at_ 13 _ rfl
              have z14 : w'.cell? ⟨w.heap.size, 14, none⟩ = some (.slice ra14 rn14 rc14) := XQ.at_ 14 _ rfl
              clear XQ
              go_simp
            refine Late.take 1 (.int .i64 start) rfl (by kernel_rfl) (by kernel_rfl) (by kernel_rfl) (by kernel_rfl) (fun _ _ _ h => h) (.inl ⟨rfl, fun w' hs => ?_⟩) D0 ?_
            · go_simp
            refine Late.take 2 (.slice (some ⟨bl, off, none⟩) m c1) rfl (by kernel_rfl) (by kernel_rfl) (by kernel_rfl) (by kernel_rfl) (fun _ _ _ h => h) (.inl ⟨rfl, fun w' hs => ?_⟩) D0 ?_
            · go_simp
            refine Late.take 3 (.int .i64 (t : Int)) rfl (by kernel_rfl) (by kernel_rfl) (by kernel_rfl) (by kernel_rfl) (fun _ _ _ h => h) (.inl ⟨rfl, fun w' hs => ?_⟩) D0 ?_
            · go_simp
            refine Late.take 4 (.pointer (some ⟨bl, off + t, none⟩)) rfl (by kernel_rfl) (by kernel_rfl) (by kernel_rfl) (by kernel_rfl) (fun _ _ _ h => h) (.inl ⟨rfl, fun w' hs => ?_⟩) D0 ?_
            · go_simp
            refine Late.take 5 (.int .i64 g) rfl (by kernel_rfl) (by kernel_rfl) (by kernel_rfl) (by kernel_rfl) (fun _ _ _ h => h) (.inl ⟨rfl, fun w' hs => ?_⟩) D0 ?_
            · have zz : w'.cell? ⟨bl, off + t, none⟩ = some (.int .i64 g) := by rw [← GG.out]; exact (CA.out.below hs).at_ t TM.out
              go_simp
            refine Late.take 6 (.int .i64 end_) rfl (by kernel_rfl) (by kernel_rfl) (by kernel_rfl) (by kernel_rfl) (fun _ _ _ h => h) (.inl ⟨rfl, fun w' hs => ?_⟩) D0 ?_
            · go_simp
            have C0 := B3.trans (D0.mono B3.size)
            refine Late.one 7 rfl (by kernel_rfl) rfl ?_
            go_simp
            refine (next_is _ ⟨ra6, rn6, rc6, ra7, rn7, rc7, ra8, rn8, rc8, ra9, rn9, rc9, ra10, rn10, rc10, ra11, rn11, rc11, ra12, rn12, rc12, ra13, rn13, rc13, ra14, rn14, rc14⟩ ⟨rfreq, ritv, rcnt, rtil, rwkst, rends, rmon, rweek, ryday, rmday, rday, rhour, rminu, rsec, rpos⟩ start g end_ (iat l (t + 1)) true (RA.out.below C0) HT.out N1.out).mono ?_
            rintro e w4 ⟨rfl, y4⟩
            have b4 := D0.trans (y4.mono D0.size)
            refine ⟨b4, ?_⟩
            refine Late.take 8 (.tuple #[.int .i64 (iat l (t + 1)), .bool true]) rfl (by kernel_rfl) (by kernel_rfl) (by kernel_rfl) (by kernel_rfl) (fun _ _ _ h => h) (.inl ⟨rfl, fun w' hs => ?_⟩) b4 ?_
            · go_simp
            refine Late.take 9 (.int .i64 (iat l (t + 1))) rfl (by kernel_rfl) (by kernel_rfl) (by kernel_rfl) (by kernel_rfl) (fun _ _ _ h => h) (.inl ⟨rfl, fun w' hs => ?_⟩) b4 ?_
            · go_simp
            refine Late.take 10 (.bool true) rfl (by kernel_rfl) (by kernel_rfl) (by kernel_rfl) (by kernel_rfl) (fun _ _ _ h => h) (.inl ⟨rfl, fun w' hs => ?_⟩) b4 ?_
            · go_simp
            refine Late.take 11 (.int .i64 (iat l (t + 1))) rfl (by kernel_rfl) (by kernel_rfl) (by kernel_rfl) (by kernel_rfl) (fun _ _ _ h => h) (.inl ⟨rfl, fun w' hs => ?_⟩) b4 ?_
            · go_simp
            refine Late.take 12 (.bool true) rfl (by kernel_rfl) (by kernel_rfl) (by kernel_rfl) (by kernel_rfl) (fun _ _ _ h => h) (.inl ⟨rfl, fun w' hs => ?_⟩) b4 ?_
            · go_simp
            refine Late.done (by kernel_rfl) ?_
            clear y4 C0
            have B4 := B3.trans (b4.mono B3.size)
            have Xr4 := Xr3.below b4
            clear B3 Xr3
            have CA := Lib.hid (CA.out.below b4)
            clear b4 D0
            have rz0 : w4.cell? ⟨w.heap.size, 0, none⟩ = some (.int .i64 rfreq) := Xr4.at_ 0 _ rfl
            have rz1 : w4.cell? ⟨w.heap.size, 1, none⟩ = some (.int .i64 ritv) := Xr4.at_ 1 _ rfl
            have rz2 : w4.cell? ⟨w.heap.size, 2, none⟩ = some (.int .i64 rcnt) := Xr4.at_ 2 _ rfl
            have rz3 : w4.cell? ⟨w.heap.size, 3, none⟩ = some (.int .i64 rtil) := Xr4.at_ 3 _ rfl
            have rz4 : w4.cell? ⟨w.heap.size, 4, none⟩ = some (.int .i64 rwkst) := Xr4.at_ 4 _ rfl
            have rz5 : w4.cell? ⟨w.heap.size, 5, none⟩ = some (.bool rends) := Xr4.at_ 5 _ rfl
            have rz6 : w4.cell? ⟨w.heap.size, 6, none⟩ = some (.slice ra6 rn6 rc6) := Xr4.at_ 6 _ rfl
            have rz7 : w4.cell? ⟨w.heap.size, 7, none⟩ = some (.slice ra7 rn7 rc7) := Xr4.at_ 7 _ rfl
            have rz8 : w4.cell? ⟨w.heap.size, 8, none⟩ = some (.slice ra8 rn8 rc8) := Xr4.at_ 8 _ rfl
            have rz9 : w4.cell? ⟨w.heap.size, 9, none⟩ = some (.slice ra9 rn9 rc9) := Xr4.at_ 9 _ rfl
            have rz10 : w4.cell? ⟨w.heap.size, 10, none⟩ = some (.slice ra10 rn10 rc10) := Xr4.at_ 10 _ rfl
            have rz11 : w4.cell? ⟨w.heap.size, 11, none⟩ = some (.slice ra11 rn11 rc11) := Xr4.at_ 11 _ rfl
            have rz12 : w4.cell? ⟨w.heap.size, 12, none⟩ = some (.slice ra12 rn12 rc12) := Xr4.at_ 12 _ rfl
            have rz13 : w4.cell? ⟨w.heap.size, 13, none⟩ = some (.slice ra13 rn13 rc13) := Xr4.at_ 13 _ rfl
            have rz14 : w4.cell? ⟨w.heap.size, 14, none⟩ = some (.slice ra14 rn14 rc14) := Xr4.at_ 14 _ rfl
            go_wp2_with fail
            refine (next_is _ ⟨ra6, rn6, rc6, ra7, rn7, rc7, ra8, rn8, rc8, ra9, rn9, rc9, ra10, rn10, rc10, ra11, rn11, rc11, ra12, rn12, rc12, ra13, rn13, rc13, ra14, rn14, rc14⟩ ⟨rfreq, ritv, rcnt, rtil, rwkst, rends, rmon, rweek, ryday, rmday, rday, rhour, rminu, rsec, rpos⟩ start (start - 1) end_ (iat l 0) true (RA.out.below B4) (by omega) NB.out).mono ?_
            rintro e w5 ⟨rfl, b5⟩
            clear rz0 rz1 rz2 rz3 rz4 rz5 rz6 rz7 rz8 rz9 rz10 rz11 rz12 rz13 rz14
            have B5 := B4.trans (b5.mono B4.size)
            have Xr5 := Xr4.below b5
            clear B4 Xr4
            have CA := Lib.hid (CA.out.below b5)
            clear b5
            have c0 := CA.out.at_ 0 (by omega)
            rw [Nat.add_zero] at c0
            go_wp2_with fail
            refine (first8_is _ (TT.out.on B5)).mono ?_
            rintro e w6 ⟨rfl, b6⟩
            have B6 := B5.trans (b6.mono B5.size)
            have Xr6 := Xr5.below b6
            clear B5 Xr5
            have CA := Lib.hid (CA.out.below b6)
            clear b6
            have c0 := CA.out.at_ 0 (by omega)
            rw [Nat.add_zero] at c0
            have c9 := CA.out.at_ (t + 1) LS.out
            have t5 : (t : Int) + 1 < m := by have := LS.out; omega
            have t6 : (0 : Int) ≤ (t : Int) + 1 := by omega
            go_wp2
            go_ret
            exact ⟨by simp, B6⟩
          · have N1 := Lib.hid (show nextR ⟨rfreq, ritv, rcnt, rtil, rwkst, rends, rmon, rweek, ryday, rmday, rday, rhour, rminu, rsec, rpos⟩ start (iat l t) end_ = (0, false) by rw [NA.out, dif_neg lst])
            have e0 : (((t : Int) + 1) == (m : Int)) = true := by rw [beq_iff_eq]; omega
            clear lst NA
            have HT := Lib.hid (show -9223372036854775808 ≤ iat l t by omega)
            obtain ⟨g, hg⟩ : ∃ g, iat l t = g := ⟨_, rfl⟩
            have GG := Lib.hid hg
            rw [hg] at N1 HT me2 me3
            clear hg cc
            go_upto_region 8 with fail
            refine wp_region_late (fun _ => false) (fun v => Below w3.heap.size w3 v) (by kernel_rfl) ?_
            have D0 : Below w3.heap.size w3 w3.drew := (Below.refl _ _).drew
            refine Late.take 0 (.agg #[.int .i64 rfreq, .int .i64 ritv, .int .i64 rcnt, .int .i64 rtil, .int .i64 rwkst, .bool rends, .slice ra6 rn6 rc6, .slice ra7 rn7 rc7, .slice ra8 rn8 rc8, .slice ra9 rn9 rc9, .slice ra10 rn10 rc10, .slice ra11 rn11 rc11, .slice ra12 rn12 rc12, .slice ra13 rn13 rc13, .slice ra14 rn14 rc14]) rfl (by kernel_rfl) (by kernel_rfl) (by kernel_rfl) (by kernel_rfl) (fun _ _ _ h => h) (.inl ⟨rfl, fun w' hs => ?_⟩) D0 ?_
            · have XQ := Xr3.below hs
              have z0 : w'.cell? ⟨w.heap.size, 0, none⟩ = some (.int .i64 rfreq) := XQ.at_ 0 _ rfl
              have z1 : w'.cell? ⟨w.heap.size, 1, none⟩ = some (.int .i64 ritv) := XQ.at_ 1 _ rfl
              have z2 : w'.cell? ⟨w.heap.size, 2, none⟩ = some (.int .i64 rcnt) := XQ.at_ 2 _ rfl
              have z3 : w'.cell? ⟨w.heap.size, 3, none⟩ = some (.int .i64 rtil) := XQ.at_ 3 _ rfl
              have z4 : w'.cell? ⟨w.heap.size, 4, none⟩ = some (.int .i64 rwkst) := XQ.at_ 4 _ rfl
              have z5 : w'.cell? ⟨w.heap.size, 5, none⟩ = some (.bool rends) := XQ.at_ 5 _ rfl
              have z6 : w'.cell? ⟨w.heap.size, 6, none⟩ = some (.slice ra6 rn6 rc6) := XQ.at_ 6 _ rfl
              have z7 : w'.cell? ⟨w.heap.size, 7, none⟩ = some (.slice ra7 rn7 rc7) := XQ.at_ 7 _ rfl
              have z8 : w'.cell? ⟨w.heap.size, 8, none⟩ = some (.slice ra8 rn8 rc8) := XQ.at_ 8 _ rfl
              have z9 : w'.cell? ⟨w.heap.size, 9, none⟩ = some (.slice ra9 rn9 rc9) := XQ.at_ 9 _ rfl
              have z10 : w'.cell? ⟨w.heap.size, 10, none⟩ = some (.slice ra10 rn10 rc10) := XQ.at_ 10 _ rfl
              have z11 : w'.cell? ⟨w.heap.size, 11, none⟩ = some (.slice ra11 rn11 rc11) := XQ.at_ 11 _ rfl
              have z12 : w'.cell? ⟨w.heap.size, 12, none⟩ = some (.slice ra12 rn12 rc12) := XQ.at_ 12 _ rfl
              have z13 : w'.cell? ⟨w.heap.size, 13, none⟩ = some (.slice ra13 rn13 rc13) := XQ.at_ 13 _ rfl
              have z14 : w'.cell? ⟨w.heap.size, 14, none⟩ = some (.slice ra14 rn14 rc14) := XQ.at_ 14 _ rfl
              clear XQ
              go_simp
            refine Late.take 1 (.int .i64 start) rfl (by kernel_rfl) (by kernel_rfl) (by kernel_rfl) (by kernel_rfl) (fun _ _ _ h => h) (.inl ⟨rfl, fun w' hs => ?_⟩) D0 ?_
            · go_simp
            refine Late.take 2 (.slice (some ⟨bl, off, none⟩) m c1) rfl (by kernel_rfl) (by kernel_rfl) (by kernel_rfl) (by kernel_rfl) (fun _ _ _ h => h) (.inl ⟨rfl, fun w' hs => ?_⟩) D0 ?_
            · go_simp
            refine Late.take 3 (.int .i64 (t : Int)) rfl (by kernel_rfl) (by kernel_rfl) (by kernel_rfl) (by kernel_rfl) (fun _ _ _ h => h) (.inl ⟨rfl, fun w' hs => ?_⟩) D0 ?_
            · go_simp
            refine Late.take 4 (.pointer (some ⟨bl, off + t, none⟩)) rfl (by kernel_rfl) (by kernel_rfl) (by kernel_rfl) (by kernel_rfl) (fun _ _ _ h => h) (.inl ⟨rfl, fun w' hs => ?_⟩) D0 ?_
            · go_simp
            refine Late.take 5 (.int .i64 g) rfl (by kernel_rfl) (by kernel_rfl) (by kernel_rfl) (by kernel_rfl) (fun _ _ _ h => h) (.inl ⟨rfl, fun w' hs => ?_⟩) D0 ?_
            · have zz : w'.cell? ⟨bl, off + t, none⟩ = some (.int .i64 g) := by rw [← GG.out]; exact (CA.out.below hs).at_ t TM.out
              go_simp
            refine Late.take 6 (.int .i64 end_) rfl (by kernel_rfl) (by kernel_rfl) (by kernel_rfl) (by kernel_rfl) (fun _ _ _ h => h) (.inl ⟨rfl, fun w' hs => ?_⟩) D0 ?_
            · go_simp
            have C0 := B3.trans (D0.mono B3.size)
            refine Late.one 7 rfl (by kernel_rfl) rfl ?_
            go_simp
            refine (next_is _ ⟨ra6, rn6, rc6, ra7, rn7, rc7, ra8, rn8, rc8, ra9, rn9, rc9, ra10, rn10, rc10, ra11, rn11, rc11, ra12, rn12, rc12, ra13, rn13, rc13, ra14, rn14, rc14⟩ ⟨rfreq, ritv, rcnt, rtil, rwkst, rends, rmon, rweek, ryday, rmday, rday, rhour, rminu, rsec, rpos⟩ start g end_ 0 false (RA.out.below C0) HT.out N1.out).mono ?_
            rintro e w4 ⟨rfl, y4⟩
            have b4 := D0.trans (y4.mono D0.size)
            refine ⟨b4, ?_⟩
            refine Late.take 8 (.tuple #[.int .i64 0, .bool false]) rfl (by kernel_rfl) (by kernel_rfl) (by kernel_rfl) (by kernel_rfl) (fun _ _ _ h => h) (.inl ⟨rfl, fun w' hs => ?_⟩) b4 ?_
            · go_simp
            refine Late.take 9 (.int .i64 0) rfl (by kernel_rfl) (by kernel_rfl) (by kernel_rfl) (by kernel_rfl) (fun _ _ _ h => h) (.inl ⟨rfl, fun w' hs => ?_⟩) b4 ?_
            · go_simp
            refine Late.take 10 (.bool false) rfl (by kernel_rfl) (by kernel_rfl) (by kernel_rfl) (by kernel_rfl) (fun _ _ _ h => h) (.inl ⟨rfl, fun w' hs => ?_⟩) b4 ?_
            · go_simp
            refine Late.take 11 (.int .i64 0) rfl (by kernel_rfl) (by kernel_rfl) (by kernel_rfl) (by kernel_rfl) (fun _ _ _ h => h) (.inl ⟨rfl, fun w' hs => ?_⟩) b4 ?_
            · go_simp
            refine Late.take 12 (.bool false) rfl (by kernel_rfl) (by kernel_rfl) (by kernel_rfl) (by kernel_rfl) (fun _ _ _ h => h) (.inl ⟨rfl, fun w' hs => ?_⟩) b4 ?_
            · go_simp
            refine Late.done (by kernel_rfl) ?_
            clear y4 C0
            have B4 := B3.trans (b4.mono B3.size)
            have Xr4 := Xr3.below b4
            clear B3 Xr3
            have CA := Lib.hid (CA.out.below b4)
            clear b4 D0
            have rz0 : w4.cell? ⟨w.heap.size, 0, none⟩ = some (.int .i64 rfreq) := Xr4.at_ 0 _ rfl
            have rz1 : w4.cell? ⟨w.heap.size, 1, none⟩ = some (.int .i64 ritv) := Xr4.at_ 1 _ rfl
            have rz2 : w4.cell? ⟨w.heap.size, 2, none⟩ = some (.int .i64 rcnt) := Xr4.at_ 2 _ rfl
            have rz3 : w4.cell? ⟨w.heap.size, 3, none⟩ = some (.int .i64 rtil) := Xr4.at_ 3 _ rfl
            have rz4 : w4.cell? ⟨w.heap.size, 4, none⟩ = some (.int .i64 rwkst) := Xr4.at_ 4 _ rfl
            have rz5 : w4.cell? ⟨w.heap.size, 5, none⟩ = some (.bool rends) := Xr4.at_ 5 _ rfl
            have rz6 : w4.cell? ⟨w.heap.size, 6, none⟩ = some (.slice ra6 rn6 rc6) := Xr4.at_ 6 _ rfl
            have rz7 : w4.cell? ⟨w.heap.size, 7, none⟩ = some (.slice ra7 rn7 rc7) := Xr4.at_ 7 _ rfl
            have rz8 : w4.cell? ⟨w.heap.size, 8, none⟩ = some (.slice ra8 rn8 rc8) := Xr4.at_ 8 _ rfl
            have rz9 : w4.cell? ⟨w.heap.size, 9, none⟩ = some (.slice ra9 rn9 rc9) := Xr4.at_ 9 _ rfl
            have rz10 : w4.cell? ⟨w.heap.size, 10, none⟩ = some (.slice ra10 rn10 rc10) := Xr4.at_ 10 _ rfl
            have rz11 : w4.cell? ⟨w.heap.size, 11, none⟩ = some (.slice ra11 rn11 rc11) := Xr4.at_ 11 _ rfl
            have rz12 : w4.cell? ⟨w.heap.size, 12, none⟩ = some (.slice ra12 rn12 rc12) := Xr4.at_ 12 _ rfl
            have rz13 : w4.cell? ⟨w.heap.size, 13, none⟩ = some (.slice ra13 rn13 rc13) := Xr4.at_ 13 _ rfl
            have rz14 : w4.cell? ⟨w.heap.size, 14, none⟩ = some (.slice ra14 rn14 rc14) := Xr4.at_ 14 _ rfl
            go_wp2_with fail
            refine (next_is _ ⟨ra6, rn6, rc6, ra7, rn7, rc7, ra8, rn8, rc8, ra9, rn9, rc9, ra10, rn10, rc10, ra11, rn11, rc11, ra12, rn12, rc12, ra13, rn13, rc13, ra14, rn14, rc14⟩ ⟨rfreq, ritv, rcnt, rtil, rwkst, rends, rmon, rweek, ryday, rmday, rday, rhour, rminu, rsec, rpos⟩ start (start - 1) end_ (iat l 0) true (RA.out.below B4) (by omega) NB.out).mono ?_
            rintro e w5 ⟨rfl, b5⟩
            clear rz0 rz1 rz2 rz3 rz4 rz5 rz6 rz7 rz8 rz9 rz10 rz11 rz12 rz13 rz14
            have B5 := B4.trans (b5.mono B4.size)
            have Xr5 := Xr4.below b5
            clear B4 Xr4
            have CA := Lib.hid (CA.out.below b5)
            clear b5
            have c0 := CA.out.at_ 0 (by omega)
            rw [Nat.add_zero] at c0
            go_wp2_with fail
            refine (first8_is _ (TT.out.on B5)).mono ?_
            rintro e w6 ⟨rfl, b6⟩
            have B6 := B5.trans (b6.mono B5.size)
            have Xr6 := Xr5.below b6
            clear B5 Xr5
            have CA := Lib.hid (CA.out.below b6)
            clear b6
            have c0 := CA.out.at_ 0 (by omega)
            rw [Nat.add_zero] at c0
            go_wp2
            go_ret
            exact ⟨by simp, B6⟩
    · have t0 : (x != 0) = true := by rw [bne_iff_ne]; exact x0
      clear x0 NO ME
      go_wp2_with fail
      refine (first8_is _ (TT.out.on B3)).mono ?_
      rintro e w4 ⟨rfl, b4⟩
      have B4 := B3.trans (b4.mono B3.size)
      have Xr4 := Xr3.below b4
      clear B3 Xr3
      have K1 := Lib.hid (K1.out.below b4)
      clear b4
      go_wp2
      go_ret
      exact ⟨rfl, B4⟩
end Go.Proofs.YtnfcchimkfnmkaaGreatDoor.Ex
