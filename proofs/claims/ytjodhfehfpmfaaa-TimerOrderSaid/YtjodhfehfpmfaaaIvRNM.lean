/- Plain mathematics of vokref6.Norm: spans put in one by one. -/
import Derived.Test.YtjodhfehfpmfaaaIvNorm
set_option linter.unusedVariables false
namespace Go.Proofs.Ytjodhfehfpmfaaa.Iv
open Go.RowKit

/-- what has been put in -/
structure Srt (l s : List (Int × Int)) : Prop where
  perm : s.Perm (realL l)
  rise : s.Pairwise fun a b => a.1 ≤ b.1
theorem Srt.nil : Srt [] [] := ⟨by unfold realL; simp, List.Pairwise.nil⟩
theorem Srt.norm {l s : List (Int × Int)} (h : Srt l s) : jnL s = normL l := jn_norm h.perm h.rise
theorem Srt.len {l s : List (Int × Int)} (h : Srt l s) : s.length ≤ l.length := by
  rw [h.perm.length_eq]; unfold realL; exact List.length_filter_le _ _
theorem Srt.none {l s : List (Int × Int)} {t : Nat} (h : Srt (l.take t) s) (ht : t < l.length) (hx : (gt l t).2 ≤ (gt l t).1) : Srt (l.take (t + 1)) s := by
  refine ⟨?_, h.rise⟩
  have e : realL (l.take (t + 1)) = realL (l.take t) := by
    rw [gt_lt ht] at hx
    unfold realL
    rw [List.take_succ_eq_append_getElem ht, List.filter_append]
    simp
    omega
  rw [e]; exact h.perm
/-- x put in at k -/
def insL (x : Int × Int) (s : List (Int × Int)) (k : Nat) : List (Int × Int) := s.take k ++ x :: s.drop k
theorem Srt.put {l s : List (Int × Int)} {t k : Nat} (h : Srt (l.take t) s) (ht : t < l.length) (hx : ¬ (gt l t).2 ≤ (gt l t).1) (hk : k ≤ s.length) (hi : ∀ j, k ≤ j → j < s.length → (gt l t).1 < (gt s j).1) (lo : ∀ j, j + 1 = k → (gt s j).1 ≤ (gt l t).1) : Srt (l.take (t + 1)) (insL (gt l t) s k) := by
  have e : realL (l.take (t + 1)) = realL (l.take t) ++ [gt l t] := by
    rw [gt_lt ht] at hx ⊢
    unfold realL
    rw [List.take_succ_eq_append_getElem ht, List.filter_append]
    simp
    omega
  have hp := h.perm
  have hr := h.rise
  generalize gt l t = x at *
  refine ⟨?_, ?_⟩
  · rw [e]
    unfold insL
    refine (List.perm_middle).trans ?_
    rw [List.take_append_drop]
    exact (hp.cons x).trans (List.perm_append_singleton x _).symm
  · unfold insL
    have t1 : ∀ a ∈ s.take k, a.1 ≤ x.1 := fun a ha => by
      obtain ⟨i, hil, ei⟩ := List.getElem_of_mem ha
      rw [List.length_take] at hil
      obtain ⟨j, rfl⟩ : ∃ j, k = j + 1 := ⟨k - 1, by omega⟩
      have lj := lo j rfl
      rw [gt_lt (by omega)] at lj
      rw [List.getElem_take] at ei
      subst ei
      rcases Nat.lt_or_ge i j with q | q
      · have := List.pairwise_iff_getElem.1 hr i j (by omega) (by omega) q
        omega
      · obtain rfl : i = j := by omega
        exact lj
    have t2 : ∀ a ∈ s.drop k, x.1 < a.1 := fun a ha => by
      obtain ⟨i, hil, ei⟩ := List.getElem_of_mem ha
      rw [List.length_drop] at hil
      rw [List.getElem_drop] at ei
      subst ei
      have := hi (k + i) (by omega) (by omega)
      rwa [gt_lt (by omega)] at this
    rw [List.pairwise_append, List.pairwise_cons]
    refine ⟨hr.sublist (List.take_sublist _ _), ⟨fun a ha => by have := t2 a ha; omega, hr.sublist (List.drop_sublist _ _)⟩, fun a ha b hb => ?_⟩
    rcases List.mem_cons.1 hb with rfl | hb
    · exact t1 a ha
    · have := t1 a ha; have := t2 b hb; omega
theorem ins_len (x : Int × Int) (s : List (Int × Int)) (k : Nat) (hk : k ≤ s.length) : (insL x s k).length = k + (1 + (s.length - k)) := by
  unfold insL
  rw [List.length_append, List.length_cons, List.length_take, List.length_drop]; omega
theorem ins_cells (x : Int × Int) (s : List (Int × Int)) (k : Nat) : cellsL encS (insL x s k) = (cellsL encS s).take (k * 2) ++ (encS x ++ cellsL encS (s.drop k)) := by
  unfold insL
  rw [cells_app, cells_take (k := 2) (fun _ => rfl)]
  rfl
theorem own_cut {w : World} {base : Nat} {e : TypeId} {g n k cap sz : Nat} {xs : List Value} (h : w.ownsRow base e sz (.slice (some ⟨g, 0, none⟩) n cap) n xs) (hk : k ≤ n) : w.ownsRow base e sz (.slice (some ⟨g, 0, none⟩) k cap) k (xs.take (k * sz)) := by
  obtain ⟨h1, h2⟩ := h
  have hm : k * sz ≤ n * sz := Nat.mul_le_mul_right _ hk
  refine ⟨by rw [List.length_take]; omega, ?_⟩
  rcases h2 with ⟨q, _⟩ | ⟨g', cap', cur, q, a1, a2, a3, a4, a5, a6⟩
  · cases q
  · injection q with q1 q2 q3
    injection q1 with q1; injection q1 with q1 _
    subst q1 q3
    refine .inr ⟨g, cap, cur, rfl, a1, a2, by omega, a4, a5, ?_⟩
    rw [← a6, List.take_take]
    congr 1; omega
theorem lit_own (w : World) (x : Int × Int) : ((w.drew).alloc (.cells #[.int .i64 x.1, .int .i64 x.2] 40)).ownsRow w.heap.size 40 2 (.slice (some ⟨w.heap.size, 0, none⟩) 1 1) 1 (encS x) :=
  World.ownsRow_lit (base := w.heap.size) (e := 40) (size := 2) w.drew #[.int .i64 x.1, .int .i64 x.2] 1 (Nat.le_refl _) (by decide) rfl
end Go.Proofs.Ytjodhfehfpmfaaa.Iv
