/- Plain mathematics of (*Set).put: from behind, each span into its place. -/
import Derived.Test.YtjodhfehfpmfaaaIvFind
import Derived.Test.YtjodhfehfpmfaaaIvRow
set_option linter.unusedVariables false
namespace Go.Proofs.Ytjodhfehfpmfaaa.Iv

/-- what the row holds when k spans have been put, those that belong at e or behind -/
structure PutI (all : List Tg) (sp : List (Int × Int)) (owner : Int) (k e : Nat) (X : List Tg) : Prop where
  k_le : k ≤ sp.length
  e_le : e ≤ all.length
  len : X.length = all.length + sp.length
  front : X.take e = all.take e
  rise : (X.drop (e + (sp.length - k))).Pairwise fun a b => a.1.1 < b.1.1
  mem : ∀ x, x ∈ X.drop (e + (sp.length - k)) ↔ x ∈ all.drop e ∨ (x.1 ∈ sp.drop (sp.length - k) ∧ x.2 = owner)
  less : ∀ t ∈ all.take e, ∀ s ∈ sp.drop (sp.length - k), t.1.1 < s.1
  more : ∀ t ∈ all.drop e, ∀ s ∈ sp.take (sp.length - k), s.1 < t.1.1
theorem PutI.start {all : List Tg} {sp : List (Int × Int)} {owner : Int} {X : List Tg} (hX : X.length = all.length + sp.length) (hf : X.take all.length = all) : PutI all sp owner 0 all.length X := by
  refine ⟨Nat.zero_le _, Nat.le_refl _, hX, by rw [hf, List.take_length], ?_, fun x => ?_, ?_, ?_⟩
  · rw [List.drop_eq_nil_of_le (by omega)]; exact List.Pairwise.nil
  · rw [List.drop_eq_nil_of_le (by omega), List.drop_eq_nil_of_le (Nat.le_refl _), List.drop_eq_nil_of_le (by omega)]
    simp
  · intro t _ s hs
    rw [List.drop_eq_nil_of_le (by omega)] at hs
    cases hs
  · intro t ht
    rw [List.drop_eq_nil_of_le (Nat.le_refl _)] at ht
    cases ht
/-- the row behind a round -/
def putX (X : List Tg) (at_ i e : Nat) (x : Tg) : List Tg := (X.take (at_ + i + 1) ++ ((X.take e).drop at_ ++ X.drop (e + i + 1))).set (at_ + i) x
theorem putX_len {X : List Tg} {at_ i e : Nat} {x : Tg} (h1 : at_ ≤ e) (h2 : e + i + 1 ≤ X.length) : (putX X at_ i e x).length = X.length := by
  unfold putX
  simp only [List.length_set, List.length_append, List.length_take, List.length_drop]
  omega
theorem putX_drop {X : List Tg} {at_ i e : Nat} {x : Tg} (h1 : at_ ≤ e) (h2 : e + i + 1 ≤ X.length) : (putX X at_ i e x).drop (at_ + i) = x :: ((X.take e).drop at_ ++ X.drop (e + i + 1)) := by
  unfold putX
  have hl : at_ + i < (X.take (at_ + i + 1) ++ ((X.take e).drop at_ ++ X.drop (e + i + 1))).length := by
    simp only [List.length_append, List.length_take, List.length_drop]; omega
  rw [List.drop_eq_getElem_cons (by simpa using hl), List.getElem_set_self, List.drop_set, if_pos (by omega)]
  congr 1
  rw [List.drop_left' (by rw [List.length_take]; omega)]
theorem putX_take {X : List Tg} {at_ i e : Nat} {x : Tg} (h1 : at_ ≤ e) (h2 : e + i + 1 ≤ X.length) : (putX X at_ i e x).take at_ = X.take at_ := by
  unfold putX
  rw [List.take_set, List.set_eq_of_length_le (by rw [List.length_take]; omega), List.take_append_of_le_length (by rw [List.length_take]; omega), List.take_take, Nat.min_eq_left (by omega)]
/-- one round -/
theorem PutI.step {all : List Tg} {sp : List (Int × Int)} {owner : Int} {k e : Nat} {X : List Tg} {ow : List Int} (h : PutI all sp owner k e X) (ho : SetOk all ow) (hn : Norms sp) (f : Free sp all) {i : Nat} (hi : i + k + 1 = sp.length) (at_ : Nat) (ha : at_ = toB (gt sp i).1 (all.take e)) :
    at_ ≤ e ∧ e + i + 1 ≤ X.length ∧ PutI all sp owner (k + 1) at_ (putX X at_ i e (gt sp i, owner)) := by
  have il : i < sp.length := by omega
  have gm : gt sp i ∈ sp := gt_mem il
  have e1 : sp.length - k = i + 1 := by omega
  have e2 : sp.length - (k + 1) = i := by omega
  have hl := h.len
  have hel := h.e_le
  have ale : at_ ≤ e := by
    have := to_le (gt sp i).1 (all.take e)
    rw [List.length_take] at this
    omega
  have h2 : e + i + 1 ≤ X.length := by omega
  have rt : (all.take e).Pairwise fun a b => a.1.1 < b.1.1 := ho.rises.sublist (List.take_sublist _ _)
  -- at parts those that begin ahead of the span
  have ft : (all.take e).filter (fun t => decide (t.1.1 < (gt sp i).1)) = (all.take e).take at_ := by
    rw [ha, to_eq]
    exact filter_take (rt.imp fun {a b} q r => decide_eq_true (by have := of_decide_eq_true r; omega))
  have fd : (all.take e).filter (fun t => !decide (t.1.1 < (gt sp i).1)) = (all.take e).drop at_ := by
    rw [filter_drop (rt.imp fun {a b} q r => by simp only [Bool.not_eq_true', decide_eq_false_iff_not] at r ⊢; omega)]
    congr 1
    rw [ha, to_eq]
    simp
  have lo1 : ∀ t ∈ (all.take e).take at_, t.1.1 < (gt sp i).1 := fun t ht => by
    rw [← ft] at ht
    exact of_decide_eq_true (List.mem_filter.1 ht).2
  have hi1 : ∀ t ∈ (all.take e).drop at_, (gt sp i).1 < t.1.1 := fun t ht => by
    have m := List.mem_of_mem_take (List.mem_of_mem_drop ht)
    rw [← fd] at ht
    have := (List.mem_filter.1 ht).2
    simp only [Bool.not_eq_true', decide_eq_false_iff_not] at this
    have := free_ne ho hn f m gm
    omega
  have xt : (X.take e).drop at_ = (all.take e).drop at_ := by rw [h.front]
  have dr : (putX X at_ i e (gt sp i, owner)).drop (at_ + i) = (gt sp i, owner) :: ((all.take e).drop at_ ++ X.drop (e + (sp.length - k))) := by
    rw [putX_drop ale h2, xt, e1]
    rfl
  have dall : all.drop at_ = (all.take e).drop at_ ++ all.drop e := by
    conv => lhs; rw [← List.take_append_drop e all]
    rw [List.drop_append_of_le_length (by rw [List.length_take]; omega)]
  have tall : all.take at_ = (all.take e).take at_ := by rw [List.take_take, Nat.min_eq_left ale]
  have sd : sp.drop i = gt sp i :: sp.drop (i + 1) := by rw [List.drop_eq_getElem_cons il, gt_lt il]
  have sr := norms_rise hn
  have after : ∀ s ∈ sp.drop (i + 1), (gt sp i).1 < s.1 := fun s hs => by
    have := sr
    rw [← List.take_append_drop i sp, sd] at this
    exact (List.pairwise_cons.1 (List.pairwise_append.1 this).2.1).1 s hs
  have ahead : ∀ s ∈ sp.take i, s.1 < (gt sp i).1 := fun s hs => by
    have := sr
    rw [← List.take_append_drop i sp, sd] at this
    exact (List.pairwise_append.1 this).2.2 s hs _ List.mem_cons_self
  have gin : gt sp i ∈ sp.take (i + 1) := by rw [List.take_succ_eq_append_getElem il]; exact List.mem_append_right _ (by rw [gt_lt il]; exact List.mem_singleton.2 rfl)
  have mb : ∀ x ∈ X.drop (e + (sp.length - k)), (gt sp i).1 < x.1.1 := fun x hx => by
    rcases (h.mem x).1 hx with q | ⟨q, -⟩
    · refine h.more x q _ ?_
      rw [e1]; exact gin
    · rw [e1] at q
      exact after _ q
  refine ⟨ale, h2, ⟨by omega, by omega, by rw [putX_len ale h2]; exact hl, ?_, ?_, fun x => ?_, ?_, ?_⟩⟩
  · have := congrArg (List.take at_) h.front
    rw [List.take_take, List.take_take, Nat.min_eq_left ale] at this
    rw [putX_take ale h2, this]
  · rw [e2, dr, List.pairwise_cons, List.pairwise_append]
    refine ⟨fun x hx => ?_, rt.sublist (List.drop_sublist _ _), h.rise, fun a ha b hb => ?_⟩
    · rcases List.mem_append.1 hx with q | q
      · exact hi1 x q
      · exact mb x q
    · have am := List.mem_of_mem_drop ha
      rcases (h.mem b).1 hb with q | ⟨q, -⟩
      · have := ho.rises
        rw [← List.take_append_drop e all] at this
        exact (List.pairwise_append.1 this).2.2 a am b q
      · exact h.less a am _ q
  · rw [e2, dr, List.mem_cons, List.mem_append, h.mem, dall, List.mem_append, sd, List.mem_cons, e1]
    constructor
    · rintro (rfl | q | q | ⟨q, z⟩)
      · exact .inr ⟨.inl rfl, rfl⟩
      · exact .inl (.inl q)
      · exact .inl (.inr q)
      · exact .inr ⟨.inr q, z⟩
    · rintro ((q | q) | ⟨q | q, z⟩)
      · exact .inr (.inl q)
      · exact .inr (.inr (.inl q))
      · exact .inl (Prod.ext q z)
      · exact .inr (.inr (.inr ⟨q, z⟩))
  · intro t ht s hs
    rw [e2, sd] at hs
    rw [tall] at ht
    rcases List.mem_cons.1 hs with rfl | hs
    · exact lo1 t ht
    · refine h.less t (List.mem_of_mem_take ht) s ?_
      rw [e1]; exact hs
  · intro t ht s hs
    rw [e2] at hs
    rw [dall] at ht
    have sl := ahead s hs
    rcases List.mem_append.1 ht with q | q
    · have := hi1 t q; omega
    · have := h.more t q (gt sp i) (by rw [e1]; exact gin)
      omega
/-- all have been put -/
theorem PutI.done {all : List Tg} {sp : List (Int × Int)} {owner : Int} {e : Nat} {X : List Tg} {ow : List Int} (h : PutI all sp owner sp.length e X) (ho : SetOk all ow) (hn : Norms sp) (f : Free sp all) : X = addL sp owner all := by
  have hx : X = all.take e ++ X.drop e := by rw [← h.front, List.take_append_drop]
  have r := h.rise
  have m := h.mem
  rw [Nat.sub_self, Nat.add_zero] at r
  refine add_of ho hn f ?_ fun x => ?_
  · rw [hx, List.pairwise_append]
    refine ⟨ho.rises.sublist (List.take_sublist _ _), r, fun a ha b hb => ?_⟩
    have := (m b).1 (by rw [Nat.sub_self, Nat.add_zero]; exact hb)
    rcases this with q | ⟨q, -⟩
    · have := ho.rises
      rw [← List.take_append_drop e all] at this
      exact (List.pairwise_append.1 this).2.2 a ha b q
    · exact h.less a ha _ q
  · have := m x
    rw [Nat.sub_self, Nat.add_zero, List.drop_zero] at this
    rw [hx, List.mem_append, this]
    conv => rhs; rw [← List.take_append_drop e all, List.mem_append]
    rw [or_assoc]
theorem splice_cells {α : Type} {enc : α → List Value} {k : Nat} (hk : ∀ x, (enc x).length = k) (L cs : List α) (o : Nat) (h : o + cs.length ≤ L.length) : splice (cellsL enc L) (o * k) (cellsL enc cs) = cellsL enc (splice L o cs) := by
  unfold splice
  rw [cells_app, cells_app, cells_take hk, cells_len hk, ← Nat.add_mul]
  congr 2
  have e : cellsL enc L = cellsL enc (L.take (o + cs.length)) ++ cellsL enc (L.drop (o + cs.length)) := by rw [← cells_app, List.take_append_drop]
  rw [e, List.drop_left' (by rw [cells_len hk, List.length_take, Nat.min_eq_left h])]
theorem putX_splice {X : List Tg} {at_ i e : Nat} (x : Tg) (h1 : at_ ≤ e) (h2 : e + i + 1 ≤ X.length) : putX X at_ i e x = (splice X (at_ + i + 1) ((X.take e).drop at_)).set (at_ + i) x := by
  unfold putX splice
  have e1 : at_ + i + 1 + ((X.take e).drop at_).length = e + i + 1 := by rw [List.length_drop, List.length_take]; omega
  rw [e1]
end Go.Proofs.Ytjodhfehfpmfaaa.Iv
