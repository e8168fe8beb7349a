/- Plain mathematics of chapter 10: searched by halves; the first clash, span by span. -/
import Derived.Test.YtjodhfehfpmfaaaIvSet
set_option linter.unusedVariables false
namespace Go.Proofs.Ytjodhfehfpmfaaa.Iv

theorem filter_drop {α : Type} {p : α → Bool} : ∀ {l : List α}, (l.Pairwise fun a b => p a = true → p b = true) → l.filter p = l.drop (l.countP fun t => !p t)
  | [], _ => rfl
  | a :: l, h => by
    rw [List.pairwise_cons] at h
    cases c : p a with
    | true =>
      have all : ∀ b ∈ l, p b = true := fun b hb => h.1 b hb c
      rw [List.filter_cons_of_pos c, List.filter_eq_self.2 all, List.countP_eq_zero.2, List.drop_zero]
      intro b hb
      rcases List.mem_cons.1 hb with rfl | hb
      · rw [c]; simp
      · rw [all b hb]; simp
    | false =>
      rw [List.filter_cons_of_neg (by rw [c]; simp), List.countP_cons_of_pos (by rw [c]; rfl), List.drop_succ_cons]
      exact filter_drop h.2
theorem filter_take {α : Type} {p : α → Bool} : ∀ {l : List α}, (l.Pairwise fun a b => p b = true → p a = true) → l.filter p = l.take (l.countP p)
  | [], _ => rfl
  | a :: l, h => by
    rw [List.pairwise_cons] at h
    cases c : p a with
    | true =>
      rw [List.filter_cons_of_pos c, List.countP_cons_of_pos c, List.take_succ_cons, filter_take h.2]
    | false =>
      have all : ∀ b ∈ l, ¬ p b = true := fun b hb q => by have := h.1 b hb q; rw [c] at this; cases this
      rw [List.filter_cons_of_neg (by rw [c]; simp), List.filter_eq_nil_iff.2 all, List.countP_eq_zero.2, List.take_zero]
      intro b hb
      rcases List.mem_cons.1 hb with rfl | hb
      · rw [c]; simp
      · exact all b hb
def fromB (lo : Int) (all : List Tg) : Nat := all.countP fun t => !decide (lo < t.1.2)
def toB (hi : Int) (all : List Tg) : Nat := all.countP fun t => !decide (hi ≤ t.1.1)
theorem from_le (lo : Int) (all : List Tg) : fromB lo all ≤ all.length := List.countP_le_length
theorem to_le (hi : Int) (all : List Tg) : toB hi all ≤ all.length := List.countP_le_length
theorem to_eq (hi : Int) (all : List Tg) : toB hi all = all.countP fun t => decide (t.1.1 < hi) := by
  unfold toB
  congr 1
  funext t
  by_cases q : t.1.1 < hi
  · rw [decide_eq_true q, decide_eq_false (by omega)]; rfl
  · rw [decide_eq_false q, decide_eq_true (by omega)]; rfl
theorem over_cut {lo hi : Int} {all : List Tg} {ow : List Int} (h : SetOk all ow) : overL lo hi all = (all.take (max (fromB lo all) (toB hi all))).drop (fromB lo all) := by
  have e1 : overL lo hi all = (all.filter fun t => decide (t.1.1 < hi)).filter fun t => decide (lo < t.1.2) := by
    unfold overL
    rw [List.filter_filter]
    refine List.filter_congr fun t _ => ?_
    rw [Bool.and_comm]
  have e2 : overL lo hi all = (all.filter fun t => decide (lo < t.1.2)).filter fun t => decide (t.1.1 < hi) := by
    unfold overL
    rw [List.filter_filter]
  have fd : (all.filter fun t => decide (lo < t.1.2)) = all.drop (fromB lo all) := filter_drop (h.his.imp fun {a b} q r => decide_eq_true (by have := of_decide_eq_true r; omega))
  have ft : (all.filter fun t => decide (t.1.1 < hi)) = all.take (toB hi all) := by
    rw [to_eq]
    exact filter_take (h.rises.imp fun {a b} q r => decide_eq_true (by have := of_decide_eq_true r; omega))
  by_cases c : fromB lo all ≤ toB hi all
  · rw [Nat.max_eq_right c, e1, ft]
    have sp : (all.take (toB hi all)).Pairwise fun a b => decide (lo < a.1.2) = true → decide (lo < b.1.2) = true := (h.his.imp fun {a b} q r => decide_eq_true (by have := of_decide_eq_true r; omega)).sublist (List.take_sublist _ _)
    rw [filter_drop sp]
    congr 1
    have cc : fromB lo all = (all.take (toB hi all)).countP (fun t => !decide (lo < t.1.2)) + (all.drop (toB hi all)).countP (fun t => !decide (lo < t.1.2)) := by
      unfold fromB
      rw [← List.countP_append, List.take_append_drop]
    have z : (all.drop (toB hi all)).countP (fun t => !decide (lo < t.1.2)) = 0 := by
      rw [List.countP_eq_zero]
      intro t ht
      have : t ∈ all.drop (fromB lo all) := by
        obtain ⟨d, hd⟩ : ∃ d, toB hi all = fromB lo all + d := ⟨toB hi all - fromB lo all, by omega⟩
        rw [hd, ← List.drop_drop] at ht
        exact List.mem_of_mem_drop ht
      rw [← fd] at this
      have := (List.mem_filter.1 this).2
      rw [this]
      simp
    omega
  · rw [Nat.max_eq_left (by omega), List.drop_eq_nil_of_le (by rw [List.length_take]; omega), e2, fd, List.filter_eq_nil_iff]
    intro t ht q
    have m1 : t ∈ all.drop (toB hi all) := by
      obtain ⟨d, hd⟩ : ∃ d, fromB lo all = toB hi all + d := ⟨fromB lo all - toB hi all, by omega⟩
      rw [hd, ← List.drop_drop] at ht
      exact List.mem_of_mem_drop ht
    have r := h.rises
    rw [← List.take_append_drop (toB hi all) all, ← ft] at r
    have := (List.pairwise_append.1 r).2.1
    -- behind the front none begins below hi
    have fn : ∀ t ∈ all.drop (toB hi all), ¬ t.1.1 < hi := by
      have e : (all.drop (toB hi all)).filter (fun t => decide (t.1.1 < hi)) = [] := by
        have w := congrArg List.length ft
        have w2 : all.filter (fun t => decide (t.1.1 < hi)) = (all.take (toB hi all)).filter (fun t => decide (t.1.1 < hi)) ++ (all.drop (toB hi all)).filter (fun t => decide (t.1.1 < hi)) := by rw [← List.filter_append, List.take_append_drop]
        have w3 : (all.take (toB hi all)).filter (fun t => decide (t.1.1 < hi)) = all.take (toB hi all) := by rw [← ft, List.filter_filter]; simp
        rw [ft, w3] at w2
        exact List.self_eq_append_right.1 w2
      intro t ht q
      have : t ∈ (all.drop (toB hi all)).filter (fun t => decide (t.1.1 < hi)) := List.mem_filter.2 ⟨ht, decide_eq_true q⟩
      rw [e] at this
      cases this
    exact fn t m1 (of_decide_eq_true q)
/-- what first tells: span by span -/
def firstL (but : Int) (sp : List (Int × Int)) (all : List Tg) : Option Tg := sp.findSome? fun s => (overL s.1 s.2 all).find? fun t => decide (t.2 ≠ but)
theorem over_ov {s : Int × Int} {all : List Tg} {t : Tg} : t ∈ overL s.1 s.2 all ↔ t ∈ all ∧ ovB t.1 s = true := by
  rw [mem_over, ov_iff]
theorem first_clash {but : Int} {sp : List (Int × Int)} {all : List Tg} {ow : List Int} (h : SetOk all ow) (hn : Norms sp) : firstL but sp all = clashL but sp all := by
  unfold firstL
  cases hc : clashL but sp all with
  | none =>
    rw [List.findSome?_eq_none_iff]
    intro s hs
    rw [List.find?_eq_none]
    intro t ht q
    have := clash_none.1 hc t (over_ov.1 ht).1 (of_decide_eq_true q) s hs
    rw [(over_ov.1 ht).2] at this
    cases this
  | some t =>
    unfold clashL at hc
    rw [List.find?_eq_some_iff_append] at hc
    obtain ⟨pt, as, bs, rfl, has⟩ := hc
    simp only [Bool.and_eq_true, decide_eq_true_eq, List.any_eq_true] at pt
    obtain ⟨tb, s1, hs1, ov1⟩ := pt
    have miss : ∀ a ∈ as, a.2 ≠ but → ∀ s ∈ sp, ovB a.1 s = false := by
      intro a ha n s hs
      have := has a ha
      simp only [Bool.not_eq_true', Bool.and_eq_false_iff, decide_eq_false_iff_not, List.any_eq_false] at this
      rcases this with q | q
      · exact absurd n q
      · have := q s hs
        simpa using this
    -- the first span that overlaps it
    cases hf : sp.find? (fun s => ovB t.1 s) with
    | none =>
      have := List.find?_eq_none.1 hf s1 hs1
      exact absurd ov1 this
    | some s =>
      rw [List.find?_eq_some_iff_append] at hf
      obtain ⟨ovs, l1, l2, rfl, hl1⟩ := hf
      rw [List.findSome?_eq_some_iff]
      refine ⟨l1, s, l2, rfl, ?_, ?_⟩
      · have e : overL s.1 s.2 (as ++ t :: bs) = overL s.1 s.2 as ++ t :: overL s.1 s.2 bs := by
          unfold overL
          rw [List.filter_append, List.filter_cons_of_pos]
          obtain ⟨a, b⟩ := ov_iff.1 ovs
          rw [decide_eq_true a, decide_eq_true b]
          rfl
        rw [e, List.find?_eq_some_iff_append]
        refine ⟨decide_eq_true tb, overL s.1 s.2 as, overL s.1 s.2 bs, rfl, ?_⟩
        intro a ha
        obtain ⟨ha1, ha2⟩ := over_ov.1 ha
        by_cases n : a.2 = but
        · simp [n]
        · have := miss a ha1 n s (by simp)
          rw [ha2] at this
          cases this
      · intro x hx
        rw [List.find?_eq_none]
        intro t' ht' q
        obtain ⟨m', ov'⟩ := over_ov.1 ht'
        have q := of_decide_eq_true q
        have xs := (List.pairwise_append.1 hn.apart).2.2 x hx s List.mem_cons_self
        have nt := hl1 x hx
        rcases List.mem_append.1 m' with m | m
        · have := miss t' m q x (by simp [hx])
          rw [ov'] at this
          cases this
        · rcases List.mem_cons.1 m with rfl | m
          · rw [ov'] at nt
            cases nt
          · have := (List.pairwise_cons.1 (List.pairwise_append.1 h.apart).2.1).1 t' m
            have := ov_iff.1 ov'
            have := ov_iff.1 ovs
            omega
theorem range_count {α : Type} [Inhabited α] (l : List α) (p : α → Bool) (n : Nat) (hn : n = l.length) : (List.range n).countP (fun i => p (l[i]?.getD default)) = l.countP p := by
  have e : l = (List.range n).map fun i => l[i]?.getD default := by
    refine List.ext_getElem (by simp [hn]) fun i h1 h2 => ?_
    simp [h1]
  conv => rhs; rw [e]
  rw [List.countP_map]
  rfl
end Go.Proofs.Ytjodhfehfpmfaaa.Iv
