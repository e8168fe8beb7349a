/- Plain mathematics of chapter 11: heaps, sorted lists. -/
import Derived.Test.YtjodhfehfpmfaaaIvMem
set_option linter.unusedVariables false
namespace Go.Proofs.Ytjodhfehfpmfaaa.Ti
open Iv

abbrev It := Int × Int
/-- by At, then by ID -/
def ltB (a b : It) : Bool := decide (a.1 < b.1 ∨ a.1 = b.1 ∧ a.2 < b.2)
theorem ltB_t {a b : It} : ltB a b = true ↔ a.1 < b.1 ∨ a.1 = b.1 ∧ a.2 < b.2 := decide_eq_true_iff
theorem ltB_f {a b : It} : ltB a b = false ↔ b.1 < a.1 ∨ b.1 = a.1 ∧ b.2 ≤ a.2 := by
  rw [ltB, decide_eq_false_iff_not]; omega
theorem lt_irr (a : It) : ltB a a = false := by rw [ltB_f]; omega
theorem lt_asym {a b : It} (h : ltB a b = true) : ltB b a = false := by rw [ltB_t] at h; rw [ltB_f]; omega
theorem ge_trans {a b c : It} (h : ltB b a = false) (k : ltB c b = false) : ltB c a = false := by rw [ltB_f] at *; omega
theorem ge_anti {a b : It} (h : ltB b a = false) (k : ltB a b = false) : a = b := by
  rw [ltB_f] at *
  exact Prod.ext (by omega) (by omega)
theorem ge_of_lt {a b : It} (h : ltB a b = true) : ltB b a = false := lt_asym h

/-- two places changed -/
def swp (l : List It) (i j : Nat) : List It := (l.set i (gt l j)).set j (gt l i)
theorem swp_len (l : List It) (i j : Nat) : (swp l i j).length = l.length := by unfold swp; simp
theorem gt_set (l : List It) (i : Nat) (x : It) (k : Nat) : gt (l.set i x) k = if k = i ∧ i < l.length then x else gt l k := by
  unfold gt
  rw [List.getElem?_set]
  by_cases e : i = k
  · subst e
    by_cases h : i < l.length <;> simp [h]
  · rw [if_neg e, if_neg (fun q => e q.1.symm)]
theorem swp_i {l : List It} {i j : Nat} (hi : i < l.length) (hj : j < l.length) : gt (swp l i j) i = gt l j := by
  unfold swp
  rw [gt_set, gt_set]
  by_cases e : i = j
  · subst e; simp [hi]
  · simp [e, hi]
theorem swp_j {l : List It} {i j : Nat} (hi : i < l.length) (hj : j < l.length) : gt (swp l i j) j = gt l i := by
  unfold swp
  rw [gt_set]; simp [hj]
theorem swp_k {l : List It} {i j k : Nat} (h1 : k ≠ i) (h2 : k ≠ j) : gt (swp l i j) k = gt l k := by
  unfold swp
  rw [gt_set, gt_set]; simp [h1, h2]
theorem ext_gt {l m : List It} (hl : l.length = m.length) (h : ∀ k, k < l.length → gt l k = gt m k) : l = m := by
  refine List.ext_getElem hl fun k h1 h2 => ?_
  have := h k h1
  rwa [gt_lt h1, gt_lt h2] at this
theorem swp_perm {l : List It} {i j : Nat} (hi : i < l.length) (hj : j < l.length) : (swp l i j).Perm l := by
  unfold swp
  rw [gt_lt hi, gt_lt hj]
  exact List.set_set_perm hi hj
theorem swp_comm {l : List It} {i j : Nat} (hi : i < l.length) (hj : j < l.length) : swp l i j = swp l j i := by
  refine ext_gt (by rw [swp_len, swp_len]) fun k hk => ?_
  by_cases e : k = i
  · subst e; rw [swp_i hi hj, swp_j hj hi]
  · by_cases f : k = j
    · subst f; rw [swp_j hi hj, swp_i hj hi]
    · rw [swp_k e f, swp_k f e]

/-- from place i0 on (of the first n) no child is less than its father -/
def HeapFrom (l : List It) (n i0 : Nat) : Prop := ∀ c, 0 < c → c < n → i0 ≤ (c - 1) / 2 → ltB (gt l c) (gt l ((c - 1) / 2)) = false
/-- likewise, but for place j and its father -/
structure UpInv (l : List It) (j : Nat) : Prop where
  most : ∀ c, 0 < c → c < l.length → c ≠ j → ltB (gt l c) (gt l ((c - 1) / 2)) = false
  over : ∀ c, 0 < c → c < l.length → 0 < j → (c - 1) / 2 = j → ltB (gt l c) (gt l ((j - 1) / 2)) = false
theorem UpInv.done {l : List It} {j : Nat} (h : UpInv l j) (hj : j = 0 ∨ ltB (gt l j) (gt l ((j - 1) / 2)) = false) : HeapFrom l l.length 0 := fun c h0 hc _ => by
  by_cases e : c = j
  · subst e
    rcases hj with q | q
    · omega
    · exact q
  · exact h.most c h0 hc e
theorem UpInv.step {l : List It} {j : Nat} (h : UpInv l j) (hj : j < l.length) (j0 : 0 < j) (lt : ltB (gt l j) (gt l ((j - 1) / 2)) = true) : UpInv (swp l ((j - 1) / 2) j) ((j - 1) / 2) := by
  obtain ⟨i, hi⟩ : ∃ i, (j - 1) / 2 = i := ⟨_, rfl⟩
  rw [hi] at lt ⊢
  have ij : i < j := by omega
  have il : i < l.length := by omega
  refine ⟨fun c c0 cl ci => ?_, fun c c0 cl i0 ci => ?_⟩
  · rw [swp_len] at cl
    by_cases cj : c = j
    · subst cj
      rw [hi, swp_j il hj, swp_i il hj]
      exact lt_asym lt
    · rw [swp_k ci cj]
      by_cases p1 : (c - 1) / 2 = i
      · rw [p1, swp_i il hj]
        have := h.most c c0 cl cj
        rw [p1] at this
        exact ge_trans (lt_asym lt) this
      · by_cases p2 : (c - 1) / 2 = j
        · rw [p2, swp_j il hj]
          have := h.over c c0 cl j0 p2
          rwa [hi] at this
        · rw [swp_k p1 p2]
          exact h.most c c0 cl cj
  · rw [swp_len] at cl
    rw [swp_k (l := l) (i := i) (j := j) (k := (i - 1) / 2) (by omega) (by omega)]
    have oi := h.most i i0 il (by omega)
    by_cases cj : c = j
    · subst cj
      rw [swp_j il hj]
      exact oi
    · rw [swp_k (by omega) cj]
      have := h.most c c0 cl cj
      rw [ci] at this
      exact ge_trans oi this
theorem UpInv.start {l : List It} {x : It} (h : HeapFrom l l.length 0) : UpInv (l ++ [x]) l.length := by
  have g : ∀ k, k < l.length → gt (l ++ [x]) k = gt l k := fun k hk => by
    rw [gt_lt hk, gt_lt (by simp; omega), List.getElem_append_left hk]
  refine ⟨fun c c0 cl cj => ?_, fun c c0 cl j0 cj => ?_⟩
  · rw [List.length_append, List.length_singleton] at cl
    rw [g c (by omega), g _ (by omega)]
    exact h c c0 (by omega) (Nat.zero_le _)
  · rw [List.length_append, List.length_singleton] at cl
    omega
/-- down: place i is to be brought down, of those from i0 on -/
structure DnInv (l : List It) (n i0 i : Nat) : Prop where
  most : ∀ c, 0 < c → c < n → i0 ≤ (c - 1) / 2 → (c - 1) / 2 ≠ i → ltB (gt l c) (gt l ((c - 1) / 2)) = false
  over : ∀ c, 0 < c → c < n → (c - 1) / 2 = i → 0 < i → i0 ≤ (i - 1) / 2 → ltB (gt l c) (gt l ((i - 1) / 2)) = false
theorem DnInv.start {l : List It} {n i : Nat} (h : HeapFrom l n (i + 1)) : DnInv l n i i :=
  ⟨fun c c0 cn hc ne => h c c0 cn (by omega), fun c c0 cn hc i0 hi => by omega⟩
theorem DnInv.done {l : List It} {n i0 i : Nat} (h : DnInv l n i0 i) (hi : ∀ c, 0 < c → c < n → (c - 1) / 2 = i → ltB (gt l c) (gt l i) = false) : HeapFrom l n i0 := fun c c0 cn hc => by
  by_cases e : (c - 1) / 2 = i
  · rw [e]; exact hi c c0 cn e
  · exact h.most c c0 cn hc e
theorem DnInv.step {l : List It} {n i0 i j : Nat} (h : DnInv l n i0 i) (hn : n ≤ l.length) (hj : j < n) (ge : i0 ≤ i) (pj : (j - 1) / 2 = i) (j0 : 0 < j) (least : ∀ c, 0 < c → c < n → (c - 1) / 2 = i → ltB (gt l c) (gt l j) = false) (lt : ltB (gt l j) (gt l i) = true) : DnInv (swp l i j) n i0 j := by
  have ij : i < j := by omega
  have jl : j < l.length := by omega
  have il : i < l.length := by omega
  refine ⟨fun c c0 cn hc ne => ?_, fun c c0 cn hc _ hi => ?_⟩
  · by_cases ci : c = i
    · subst ci
      rw [swp_i il jl, swp_k (by omega) (by omega)]
      exact h.over j j0 hj pj c0 hc
    · by_cases p1 : (c - 1) / 2 = i
      · rw [p1, swp_i il jl]
        by_cases cj : c = j
        · subst cj
          rw [swp_j il jl]
          exact lt_asym lt
        · rw [swp_k ci cj]
          exact least c c0 cn p1
      · have cj : c ≠ j := fun e => p1 (by rw [e]; exact pj)
        rw [swp_k ci cj, swp_k p1 ne]
        exact h.most c c0 cn hc p1
  · rw [pj, swp_i il jl, swp_k (by omega) (by omega)]
    have := h.most c c0 cn (by omega) (by omega)
    rwa [hc] at this
/-- the first is the least -/
theorem heap_min {l : List It} (h : HeapFrom l l.length 0) : ∀ i, i < l.length → ltB (gt l i) (gt l 0) = false := by
  intro i
  induction i using Nat.strongRecOn with
  | ind i ih =>
    intro hi
    by_cases e : i = 0
    · subst e; exact lt_irr _
    · exact ge_trans (ih ((i - 1) / 2) (by omega) (by omega)) (h i (by omega) hi (Nat.zero_le _))
/-- rising -/
def Srt (l : List It) : Prop := l.Pairwise fun a b => ltB b a = false
theorem srt_unique : ∀ {l m : List It}, Srt l → Srt m → l.Perm m → l = m
  | [], m, _, _, p => (List.Perm.nil_eq p)
  | a :: l, [], _, _, p => absurd p.length_eq (by simp)
  | a :: l, b :: m, hl, hm, p => by
    have ha := List.pairwise_cons.1 hl
    have hb := List.pairwise_cons.1 hm
    have e : a = b := by
      have q1 : a ∈ b :: m := p.mem_iff.1 List.mem_cons_self
      have q2 : b ∈ a :: l := p.mem_iff.2 List.mem_cons_self
      rcases List.mem_cons.1 q1 with q1 | q1
      · exact q1
      · rcases List.mem_cons.1 q2 with q2 | q2
        · exact q2.symm
        · exact ge_anti (ha.1 b q2) (hb.1 a q1)
    subst e
    rw [srt_unique ha.2 hb.2 (List.perm_cons a |>.1 p)]
/-- one more, in its place -/
def insL (x : It) : List It → List It
  | [] => [x]
  | a :: l => if ltB a x = true then a :: insL x l else x :: a :: l
theorem ins_perm (x : It) : ∀ l, (insL x l).Perm (x :: l)
  | [] => List.Perm.refl _
  | a :: l => by
    unfold insL
    split
    · exact ((ins_perm x l).cons a).trans (List.Perm.swap x a l)
    · exact List.Perm.refl _
theorem ins_len (x : It) (l : List It) : (insL x l).length = l.length + 1 := (ins_perm x l).length_eq
theorem ins_srt (x : It) : ∀ {l}, Srt l → Srt (insL x l)
  | [], _ => List.pairwise_singleton _ _
  | a :: l, h => by
    have ha := List.pairwise_cons.1 h
    unfold insL
    split
    · rename_i q
      refine List.pairwise_cons.2 ⟨fun b hb => ?_, ins_srt x ha.2⟩
      rcases List.mem_cons.1 ((ins_perm x l).mem_iff.1 hb) with rfl | hb
      · exact lt_asym q
      · exact ha.1 b hb
    · rename_i q
      have q' : ltB a x = false := by simpa using q
      refine List.pairwise_cons.2 ⟨fun b hb => ?_, h⟩
      rcases List.mem_cons.1 hb with rfl | hb
      · exact q'
      · exact ge_trans q' (ha.1 b hb)
theorem ins_at (x : It) : ∀ {l : List It} {k : Nat}, k ≤ l.length → (∀ j, j < k → ltB (gt l j) x = true) → (k < l.length → ltB (gt l k) x = false) → insL x l = l.take k ++ x :: l.drop k
  | [], k, hk, _, _ => by
    obtain rfl : k = 0 := by simpa using hk
    rfl
  | a :: l, 0, _, _, h => by
    have := h (by simp)
    rw [show gt (a :: l) 0 = a from rfl] at this
    unfold insL
    rw [if_neg (by rw [this]; simp)]
    rfl
  | a :: l, k + 1, hk, h1, h2 => by
    have := h1 0 (by omega)
    rw [show gt (a :: l) 0 = a from rfl] at this
    unfold insL
    rw [if_pos this, ins_at x (l := l) (k := k) (by simpa using hk) (fun j hj => h1 (j + 1) (by omega)) (fun hl => h2 (by simpa using hl))]
    rfl
/-- what a heap holds, in order -/
structure QH (h L : List It) : Prop where
  perm : h.Perm L
  srt : Srt L
  heap : HeapFrom h h.length 0
theorem QH.nil : QH [] [] := ⟨List.Perm.refl _, List.Pairwise.nil, fun c _ h => by simp at h⟩
theorem QH.len {h L : List It} (q : QH h L) : h.length = L.length := q.perm.length_eq
theorem gt_mem' {l : List It} {i : Nat} (h : i < l.length) : gt l i ∈ l := by rw [gt_lt h]; exact List.getElem_mem h
theorem mem_gt {l : List It} {x : It} (h : x ∈ l) : ∃ i, i < l.length ∧ gt l i = x := by
  obtain ⟨i, hi, e⟩ := List.mem_iff_getElem.1 h
  exact ⟨i, hi, by rw [gt_lt hi, e]⟩
theorem QH.head {h : List It} {a : It} {L : List It} (q : QH h (a :: L)) : gt h 0 = a := by
  have hl : 0 < h.length := by rw [q.len]; simp
  have m : gt h 0 ∈ a :: L := q.perm.mem_iff.1 (gt_mem' hl)
  obtain ⟨i, hi, e⟩ := mem_gt (q.perm.mem_iff.2 (List.mem_cons_self : a ∈ a :: L))
  have h1 : ltB a (gt h 0) = false := by rw [← e]; exact heap_min q.heap i hi
  rcases List.mem_cons.1 m with m | m
  · exact m
  · exact ge_anti h1 ((List.pairwise_cons.1 q.srt).1 _ m)
theorem QH.push {h h' L : List It} {x : It} (q : QH h L) (p : h'.Perm (h ++ [x])) (hp : HeapFrom h' h'.length 0) : QH h' (insL x L) :=
  ⟨p.trans ((List.perm_append_comm.trans (q.perm.cons x)).trans (ins_perm x L).symm), ins_srt x q.srt, hp⟩
theorem QH.pop {h h' : List It} {a : It} {L : List It} (q : QH h (a :: L)) (p : (h' ++ [a]).Perm h) (hp : HeapFrom h' h'.length 0) : QH h' L :=
  ⟨(List.perm_cons a).1 ((List.perm_append_comm (l₁ := [a]) (l₂ := h')).trans (p.trans q.perm)), (List.pairwise_cons.1 q.srt).2, hp⟩
theorem QH.some {h L : List It} (q : QH h L) {f : It → Bool} {h' : List It} (p : h'.Perm (h.filter f)) (hp : HeapFrom h' h'.length 0) : QH h' (L.filter f) :=
  ⟨p.trans (q.perm.filter f), q.srt.filter _, hp⟩
theorem heapFrom_half (l : List It) {n i : Nat} (h : n ≤ 2 * i + 1) : HeapFrom l n i := fun c c0 cn hc => by omega
theorem HeapFrom.cut {l : List It} {n : Nat} (h : HeapFrom l n 0) (hn : n ≤ l.length) : HeapFrom (l.take n) (l.take n).length 0 := fun c c0 cn _ => by
  rw [List.length_take, Nat.min_eq_left hn] at cn
  have g : ∀ k, k < n → gt (l.take n) k = gt l k := fun k hk => by
    rw [gt_lt (l := l.take n) (by rw [List.length_take]; omega), gt_lt (l := l) (by omega), List.getElem_take]
  rw [g c cn, g _ (by omega)]
  exact h c c0 cn (Nat.zero_le _)
/-- the last to the front, to be brought down -/
theorem pop_start {l : List It} (h : HeapFrom l l.length 0) (h0 : 0 < l.length) : DnInv (swp l 0 (l.length - 1)) (l.length - 1) 0 0 := by
  refine ⟨fun c c0 cn _ ne => ?_, fun c c0 cn hc i0 _ => absurd i0 (by omega)⟩
  rw [swp_k (by omega) (by omega), swp_k ne (by omega)]
  exact h c c0 (by omega) (Nat.zero_le _)
theorem take_last {l : List It} (h : 0 < l.length) : l = l.take (l.length - 1) ++ [gt l (l.length - 1)] := by
  have e : l.drop (l.length - 1) = [gt l (l.length - 1)] := by
    rw [List.drop_eq_getElem_cons (by omega), gt_lt (by omega)]
    rw [List.drop_of_length_le (by omega)]
  rw [← e, List.take_append_drop]
end Go.Proofs.Ytjodhfehfpmfaaa.Ti
