/- Plain mathematics of chapter 10: spans put together. -/
import Derived.Below
set_option linter.unusedVariables false
namespace Go.Proofs.Ytjodhfehfpmfaaa.Iv

/-- does a second lie in one of the spans? -/
def Cov (l : List (Int × Int)) (x : Int) : Prop := ∃ a ∈ l, a.1 ≤ x ∧ x < a.2
/-- spans that are not none, rise and lie apart -/
structure Norms (s : List (Int × Int)) : Prop where
  some_ : ∀ a ∈ s, a.1 < a.2
  apart : s.Pairwise fun a b => a.2 < b.1
structure IsNorm (l s : List (Int × Int)) : Prop where
  norms : Norms s
  cov : ∀ x, Cov s x ↔ Cov l x
theorem Norms.tail {a : Int × Int} {s : List (Int × Int)} (h : Norms (a :: s)) : Norms s :=
  ⟨fun b hb => h.some_ b (List.mem_cons_of_mem _ hb), (List.pairwise_cons.1 h.apart).2⟩
theorem Norms.nil : Norms [] := ⟨fun _ h => (by cases h), List.Pairwise.nil⟩
theorem cov_nil (x : Int) : ¬ Cov [] x := fun ⟨_, h, _⟩ => (by cases h)
theorem cov_cons {a : Int × Int} {l : List (Int × Int)} {x : Int} : Cov (a :: l) x ↔ (a.1 ≤ x ∧ x < a.2) ∨ Cov l x := by
  unfold Cov
  constructor
  · rintro ⟨b, hb, h⟩
    rcases List.mem_cons.1 hb with rfl | hb
    · exact .inl h
    · exact .inr ⟨b, hb, h⟩
  · rintro (h | ⟨b, hb, h⟩)
    · exact ⟨a, List.mem_cons_self, h⟩
    · exact ⟨b, List.mem_cons_of_mem _ hb, h⟩
theorem cov_app {l m : List (Int × Int)} {x : Int} : Cov (l ++ m) x ↔ Cov l x ∨ Cov m x := by
  unfold Cov
  constructor
  · rintro ⟨b, hb, h⟩
    rcases List.mem_append.1 hb with hb | hb
    · exact .inl ⟨b, hb, h⟩
    · exact .inr ⟨b, hb, h⟩
  · rintro (⟨b, hb, h⟩ | ⟨b, hb, h⟩)
    · exact ⟨b, List.mem_append_left _ hb, h⟩
    · exact ⟨b, List.mem_append_right _ hb, h⟩
theorem norms_beyond {a : Int × Int} {s : List (Int × Int)} (h : Norms (a :: s)) {x : Int} (hx : Cov s x) : a.2 < x := by
  obtain ⟨c, hc, h1, h2⟩ := hx
  have := (List.pairwise_cons.1 h.apart).1 c hc
  omega
/-- one list alone is so put together -/
theorem norms_unique : ∀ {s t : List (Int × Int)}, Norms s → Norms t → (∀ x, Cov s x ↔ Cov t x) → s = t
  | [], [], _, _, _ => rfl
  | [], b :: t, _, ht, h => by
    have := ht.some_ b List.mem_cons_self
    exact absurd ((h b.1).2 (cov_cons.2 (.inl ⟨Int.le_refl _, this⟩))) (cov_nil _)
  | a :: s, [], hs, _, h => by
    have := hs.some_ a List.mem_cons_self
    exact absurd ((h a.1).1 (cov_cons.2 (.inl ⟨Int.le_refl _, this⟩))) (cov_nil _)
  | a :: s, b :: t, hs, ht, h => by
    have sa := hs.some_ a List.mem_cons_self
    have sb := ht.some_ b List.mem_cons_self
    have e1 : a.1 = b.1 := by
      have p := (h a.1).1 (cov_cons.2 (.inl ⟨Int.le_refl _, sa⟩))
      have q := (h b.1).2 (cov_cons.2 (.inl ⟨Int.le_refl _, sb⟩))
      rcases cov_cons.1 p with p | p <;> rcases cov_cons.1 q with q | q
      · omega
      · have := norms_beyond hs q; omega
      · have := norms_beyond ht p; omega
      · have := norms_beyond hs q; have := norms_beyond ht p; omega
    have e2 : a.2 = b.2 := by
      by_cases c : a.2 < b.2
      · have q := (h a.2).2 (cov_cons.2 (.inl ⟨by omega, c⟩))
        rcases cov_cons.1 q with q | q
        · omega
        · have := norms_beyond hs q; omega
      · by_cases c : b.2 < a.2
        · have q := (h b.2).1 (cov_cons.2 (.inl ⟨by omega, c⟩))
          rcases cov_cons.1 q with q | q
          · omega
          · have := norms_beyond ht q; omega
        · omega
    have ea : a = b := Prod.ext e1 e2
    subst ea
    rw [norms_unique hs.tail ht.tail fun x => ?_]
    have hx := h x
    rw [cov_cons, cov_cons] at hx
    constructor
    · intro q
      have := norms_beyond hs q
      rcases hx.1 (.inr q) with p | p
      · omega
      · exact p
    · intro q
      have := norms_beyond ht q
      rcases hx.2 (.inr q) with p | p
      · omega
      · exact p
theorem IsNorm.unique {l s t : List (Int × Int)} (h : IsNorm l s) (k : IsNorm l t) : s = t :=
  norms_unique h.norms k.norms fun x => (h.cov x).trans (k.cov x).symm
/-- one span behind those that are put together -/
def jnS (acc : List (Int × Int)) (x : Int × Int) : List (Int × Int) :=
  match acc.getLast? with
  | some z => if x.1 ≤ z.2 then acc.dropLast ++ [(z.1, max z.2 x.2)] else acc ++ [x]
  | none => [x]
def jnL (l : List (Int × Int)) : List (Int × Int) := l.foldl jnS []
theorem jn_take {l : List (Int × Int)} {k : Nat} (h : k < l.length) : jnL (l.take (k + 1)) = jnS (jnL (l.take k)) l[k] := by
  unfold jnL
  rw [List.take_succ_eq_append_getElem h, List.foldl_append]
  rfl
theorem jnS_len (acc : List (Int × Int)) (x : Int × Int) : (jnS acc x).length ≤ acc.length + 1 := by
  unfold jnS
  split
  · split
    · simp
    · simp
  · simp
theorem jnL_len (l : List (Int × Int)) : ∀ k, (jnL (l.take k)).length ≤ k
  | 0 => by rw [List.take_zero]; exact Nat.le_refl _
  | k + 1 => by
    by_cases h : k < l.length
    · rw [jn_take h]
      have := jnS_len (jnL (l.take k)) l[k]
      have := jnL_len l k
      omega
    · rw [List.take_of_length_le (by omega), ← List.take_of_length_le (l := l) (i := k) (by omega)]
      have := jnL_len l k
      omega
/-- what the spans put together so far are -/
structure JnInv (m s : List (Int × Int)) : Prop where
  norm : IsNorm m s
  low : ∀ a ∈ s, ∃ b ∈ m, b.1 = a.1
theorem jn_step {m s : List (Int × Int)} {x : Int × Int} (h : JnInv m s) (hx : x.1 < x.2) (ge : ∀ b ∈ m, b.1 ≤ x.1) : JnInv (m ++ [x]) (jnS s x) := by
  unfold jnS
  cases hs : s.getLast? with
  | none =>
    obtain rfl : s = [] := List.getLast?_eq_none_iff.1 hs
    refine ⟨⟨⟨fun a ha => by rw [List.mem_singleton.1 ha]; exact hx, List.pairwise_singleton _ _⟩, fun y => ?_⟩, fun a ha => ⟨x, by simp, by rw [List.mem_singleton.1 ha]⟩⟩
    rw [cov_app, ← h.norm.cov y]
    exact ⟨.inr, fun q => q.resolve_left (cov_nil _)⟩
  | some z =>
    obtain ⟨p, rfl⟩ := List.getLast?_eq_some_iff.1 hs
    have ap := List.pairwise_append.1 h.norm.norms.apart
    have zs := h.norm.norms.some_ z (by simp)
    obtain ⟨b, hb, eb⟩ := h.low z (by simp)
    have zx := ge b hb
    dsimp only
    split
    · rename_i c
      rw [List.dropLast_concat]
      refine ⟨⟨⟨fun a ha => ?_, ?_⟩, fun y => ?_⟩, fun a ha => ?_⟩
      · rcases List.mem_append.1 ha with q | q
        · exact h.norm.norms.some_ a (List.mem_append_left _ q)
        · rw [List.mem_singleton.1 q]; show z.1 < max z.2 x.2; omega
      · rw [List.pairwise_append]
        exact ⟨ap.1, List.pairwise_singleton _ _, fun a ha b hb => by rw [List.mem_singleton.1 hb]; exact ap.2.2 a ha z (List.mem_singleton.2 rfl)⟩
      · have hy := h.norm.cov y
        rw [cov_app] at hy
        rw [cov_app (m := [x]), ← hy, cov_app, cov_cons, cov_cons, cov_cons]
        have n := cov_nil y
        constructor
        · rintro (q | (q | q))
          · exact .inl (.inl q)
          · by_cases y2 : y < z.2
            · exact .inl (.inr (.inl ⟨q.1, y2⟩))
            · exact .inr (.inl ⟨by omega, by have := q.2; simp only at this; omega⟩)
          · exact absurd q n
        · rintro ((q | (q | q)) | (q | q))
          · exact .inl q
          · exact .inr (.inl ⟨q.1, by simp only; omega⟩)
          · exact absurd q n
          · exact .inr (.inl ⟨by simp only; omega, by simp only; omega⟩)
          · exact absurd q n
      · rcases List.mem_append.1 ha with q | q
        · obtain ⟨c, hc, e⟩ := h.low a (List.mem_append_left _ q)
          exact ⟨c, List.mem_append_left _ hc, e⟩
        · rw [List.mem_singleton.1 q]
          exact ⟨b, List.mem_append_left _ hb, eb⟩
    · rename_i c
      refine ⟨⟨⟨fun a ha => ?_, ?_⟩, fun y => ?_⟩, fun a ha => ?_⟩
      · rcases List.mem_append.1 ha with q | q
        · exact h.norm.norms.some_ a q
        · rw [List.mem_singleton.1 q]; exact hx
      · rw [List.pairwise_append]
        refine ⟨h.norm.norms.apart, List.pairwise_singleton _ _, fun a ha b hb => ?_⟩
        rw [List.mem_singleton.1 hb]
        rcases List.mem_append.1 ha with q | q
        · have := ap.2.2 a q z (List.mem_singleton.2 rfl); omega
        · rw [List.mem_singleton.1 q]; omega
      · rw [cov_app (m := [x]), h.norm.cov y, cov_app]
      · rcases List.mem_append.1 ha with q | q
        · obtain ⟨c, hc, e⟩ := h.low a q
          exact ⟨c, List.mem_append_left _ hc, e⟩
        · rw [List.mem_singleton.1 q]
          exact ⟨x, by simp, rfl⟩
theorem jn_inv {l : List (Int × Int)} (h0 : ∀ a ∈ l, a.1 < a.2) (hr : l.Pairwise fun a b => a.1 ≤ b.1) : ∀ k, k ≤ l.length → JnInv (l.take k) (jnL (l.take k))
  | 0, _ => by
    rw [List.take_zero]
    exact ⟨⟨Norms.nil, fun _ => Iff.rfl⟩, fun _ h => by cases h⟩
  | k + 1, hk => by
    have ih := jn_inv h0 hr k (by omega)
    rw [jn_take (by omega), List.take_succ_eq_append_getElem (by omega)]
    refine jn_step ih (h0 _ (List.getElem_mem _)) fun b hb => ?_
    have tk : l.take (k + 1) = l.take k ++ [l[k]] := List.take_succ_eq_append_getElem _
    have h2 := (List.pairwise_append.1 (tk ▸ hr.sublist (List.take_sublist (k + 1) l))).2.2
    exact h2 b hb _ (List.mem_singleton.2 rfl)
/-- those that are not none -/
def realL (l : List (Int × Int)) : List (Int × Int) := l.filter fun a => decide (a.1 < a.2)
theorem cov_real (l : List (Int × Int)) (x : Int) : Cov (realL l) x ↔ Cov l x := by
  unfold Cov realL
  constructor
  · rintro ⟨a, ha, h⟩; exact ⟨a, (List.mem_filter.1 ha).1, h⟩
  · rintro ⟨a, ha, h⟩; exact ⟨a, List.mem_filter.2 ⟨ha, decide_eq_true (by omega)⟩, h⟩
theorem cov_perm {l m : List (Int × Int)} (h : l.Perm m) (x : Int) : Cov l x ↔ Cov m x := by
  unfold Cov
  constructor
  · rintro ⟨a, ha, q⟩; exact ⟨a, h.mem_iff.1 ha, q⟩
  · rintro ⟨a, ha, q⟩; exact ⟨a, h.mem_iff.2 ha, q⟩
/-- whatever order of equals a sort takes -/
theorem jn_sorted {l m : List (Int × Int)} (hp : m.Perm (realL l)) (hr : m.Pairwise fun a b => a.1 ≤ b.1) : IsNorm l (jnL m) := by
  have h0 : ∀ a ∈ m, a.1 < a.2 := fun a ha => by
    have := (List.mem_filter.1 (hp.mem_iff.1 ha)).2
    exact of_decide_eq_true this
  have := (jn_inv h0 hr m.length (Nat.le_refl _)).norm
  rw [List.take_length] at this
  exact ⟨this.norms, fun x => (this.cov x).trans ((cov_perm hp x).trans (cov_real l x))⟩
/-- P10.1 -/
def normL (l : List (Int × Int)) : List (Int × Int) := jnL ((realL l).mergeSort fun a b => decide (a.1 ≤ b.1))
theorem norm_is (l : List (Int × Int)) : IsNorm l (normL l) := by
  refine jn_sorted (List.mergeSort_perm _ _) ?_
  have := List.pairwise_mergeSort (le := fun a b : Int × Int => decide (a.1 ≤ b.1)) (fun a b c h1 h2 => by simp at *; omega) (fun a b => by simp; omega) (realL l)
  exact this.imp fun h => of_decide_eq_true h
theorem IsNorm.eq {l s : List (Int × Int)} (h : IsNorm l s) : s = normL l := h.unique (norm_is l)
theorem jn_norm {l m : List (Int × Int)} (hp : m.Perm (realL l)) (hr : m.Pairwise fun a b => a.1 ≤ b.1) : jnL m = normL l := (jn_sorted hp hr).eq
theorem norm_len (l : List (Int × Int)) : (normL l).length ≤ l.length := by
  have h := jnL_len ((realL l).mergeSort fun a b => decide (a.1 ≤ b.1)) ((realL l).mergeSort fun a b => decide (a.1 ≤ b.1)).length
  rw [List.take_length] at h
  have h1 : ((realL l).mergeSort fun a b => decide (a.1 ≤ b.1)).length = (realL l).length := (List.mergeSort_perm _ _).length_eq
  have h2 : (realL l).length ≤ l.length := List.length_filter_le _ _
  unfold normL
  omega
/-- the ends are such as came in -/
theorem jnS_mem {acc : List (Int × Int)} {x : Int × Int} {P : Int → Prop} (ha : ∀ a ∈ acc, P a.1 ∧ P a.2) (hx : P x.1 ∧ P x.2) : ∀ a ∈ jnS acc x, P a.1 ∧ P a.2 := by
  unfold jnS
  intro a h
  cases hs : acc.getLast? with
  | none => rw [hs] at h; dsimp only at h; rw [List.mem_singleton.1 h]; exact hx
  | some z =>
    rw [hs] at h
    dsimp only at h
    obtain ⟨p, rfl⟩ := List.getLast?_eq_some_iff.1 hs
    split at h
    · rw [List.dropLast_concat] at h
      rcases List.mem_append.1 h with q | q
      · exact ha a (List.mem_append_left _ q)
      · rw [List.mem_singleton.1 q]
        have := ha z (by simp)
        refine ⟨this.1, ?_⟩
        show P (max z.2 x.2)
        rw [Int.max_def]
        split
        · exact hx.2
        · exact this.2
    · rcases List.mem_append.1 h with q | q
      · exact ha a q
      · rw [List.mem_singleton.1 q]; exact hx
theorem jnL_mem {l : List (Int × Int)} {P : Int → Prop} (hl : ∀ a ∈ l, P a.1 ∧ P a.2) : ∀ k, ∀ a ∈ jnL (l.take k), P a.1 ∧ P a.2
  | 0 => by rw [List.take_zero]; intro a h; cases h
  | k + 1 => by
    by_cases h : k < l.length
    · rw [jn_take h]
      exact jnS_mem (jnL_mem hl k) (hl _ (List.getElem_mem h))
    · have := jnL_mem hl k
      rw [List.take_of_length_le (by omega)] at this ⊢
      exact this
theorem norm_mem {l : List (Int × Int)} {P : Int → Prop} (hl : ∀ a ∈ l, P a.1 ∧ P a.2) : ∀ a ∈ normL l, P a.1 ∧ P a.2 := by
  unfold normL
  have := jnL_mem (l := (realL l).mergeSort fun a b => decide (a.1 ≤ b.1)) (P := P) (fun a ha => hl a (List.mem_filter.1 ((List.mergeSort_perm _ _).mem_iff.1 ha)).1) ((realL l).mergeSort fun a b => decide (a.1 ≤ b.1)).length
  rwa [List.take_length] at this
theorem norms_norm {s : List (Int × Int)} (h : Norms s) : normL s = s := (IsNorm.eq ⟨h, fun _ => Iff.rfl⟩).symm
theorem norm_cov {l m : List (Int × Int)} (h : ∀ x, Cov l x ↔ Cov m x) : normL l = normL m :=
  IsNorm.eq ⟨(norm_is l).norms, fun x => ((norm_is l).cov x).trans (h x)⟩
theorem norm_norm (l : List (Int × Int)) : normL (normL l) = normL l := norms_norm (norm_is l).norms
theorem norm_rev (l : List (Int × Int)) : normL l.reverse = normL l := norm_cov fun x => cov_perm (List.reverse_perm l) x
theorem norm_again {l : List (Int × Int)} {a : Int × Int} (h : a ∈ l) : normL (normL l ++ [a]) = normL l := by
  rw [← norm_norm l]
  refine norm_cov fun x => ?_
  rw [norm_norm, cov_app]
  constructor
  · rintro (q | q)
    · exact q
    · rw [(norm_is l).cov]
      obtain ⟨b, hb, q⟩ := q
      rw [List.mem_singleton.1 hb] at q
      exact ⟨a, h, q⟩
  · exact .inl
end Go.Proofs.Ytjodhfehfpmfaaa.Iv
