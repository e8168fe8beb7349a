/- A region that draws: operations that read nothing may be taken ahead of all; what is taken need be waited for by those late ones alone that are not yet done. -/
import Derived.Test.YtjodhfehfpmfaaaIvTkA
set_option linter.unusedVariables false
namespace Go.Proofs.Ytjodhfehfpmfaaa.Iv
open Go.RowKit

section
variable {P : Program} {ops : Array Oper} {Q : Exit → Act → World → Prop} {md : Region.Mode} {S : World → Prop} {late : Nat → Bool}
def WL (md : Region.Mode) (ops : Array Oper) (late : Nat → Bool) (listed : Array Bool) (i : Nat) : Prop :=
  ∀ j u, ops[j]? = some u → j ≠ i → listed.getD j true = false → late j = true → ∃ x ∈ u.after, Region.binds md x = true ∧ x.on = i
def waitsLB (md : Region.Mode) (ops : Array Oper) (late : Nat → Bool) (listed : Array Bool) (i : Nat) : Bool :=
  (List.range ops.size).all fun j => !late j || listed.getD j true || j == i || ((ops[j]?).map fun o => o.after.any fun e => Region.binds md e && e.on == i).getD false
theorem wl_of {listed : Array Bool} {i : Nat} (h : waitsLB md ops late listed i = true) : WL md ops late listed i := by
  intro j u hu ne un hl
  have hj : j < ops.size := (Array.getElem?_eq_some_iff.1 hu).1
  have := List.all_eq_true.1 h j (List.mem_range.2 hj)
  rw [hl, hu, un] at this
  simp only [Bool.not_true, Bool.false_or, Option.map_some, Option.getD_some, Array.any_eq_true', Bool.or_eq_true, beq_iff_eq] at this
  rcases this with e | ⟨e, he, h2⟩
  · exact absurd e ne
  · rw [Bool.and_eq_true] at h2
    exact ⟨e, he, h2.1, by simpa using h2.2⟩
theorem Late.aheadL {i : Nat} {o : Oper} {v : Value} (ho : ops[i]? = some o) (nosel : ∀ (j : Nat) (u : Oper) cs b, ops[j]? = some u → u.op ≠ .select cs b)
    (pan : ∀ c a w, Q (.panic c) (a.put o.dst v) w → Q (.panic c) a w) (S' : World → Prop) (g : Nat) :
    ∀ {listed : Array Bool} {a : Act} {w : World}, (∀ j u, ops[j]? = some u → j ≠ i → listed.getD j true = false → (∀ e ∈ u.after, Region.binds md e = true → e.on ≠ i) → o.apart ops u = true) →
      i ∈ Region.ready md ops listed → YieldsIf P ops S' o v a → ((late i = true ∧ ∀ w, S' w) ∨ ((∀ w, S w → S' w) ∧ S w ∧ WL md ops late listed i)) → Late P md ops Q S late g (listed.setIfInBounds i true) (a.put o.dst v) w → Late P md ops Q S late (g + 1) listed a w := by
  induction g with
  | zero =>
    intro listed a w free rd yi hm H
    unfold Late
    refine ⟨fun e => absurd rd (by rw [e]; simp), fun j hj => ?_⟩
    by_cases e : j = i
    · subst e
      refine yi.wpOp ho (hm.elim (fun h => h.2 w) fun h => h.1 w h.2.1) ⟨hm.imp (fun h => h.1) fun h => h.2.1, H⟩
    · unfold Late at H
      have r := ready_mono hj e
      rw [H.1] at r; cases r
  | succ g ih =>
    intro listed a w free rd yi hm H
    unfold Late
    refine ⟨fun e => absurd rd (by rw [e]; simp), fun j hj => ?_⟩
    by_cases e : j = i
    · subst e; exact yi.wpOp ho (hm.elim (fun h => h.2 w) fun h => h.1 w h.2.1) ⟨hm.imp (fun h => h.1) fun h => h.2.1, H⟩
    · have H0 := H
      unfold Late at H0
      obtain ⟨open_, u, hu, met⟩ := mem_ready.1 hj
      have off : ∀ x ∈ u.after, Region.binds md x = true → x.on ≠ i := fun x hx hb q => by
        have m := met x hx hb
        rw [q] at m
        have op := (mem_ready.1 rd).1
        rcases Nat.lt_or_ge i listed.size with lt | ge
        · simp [lt] at m op; rw [m] at op; cases op
        · simp [Array.getElem?_eq_none ge] at m
      have step := wpOp_putIf hu (free j u hu e open_ off) (fun cs b => nosel i o cs b ho) (fun cs b => nosel j u cs b hu) pan yi (H0.2 j (ready_mono hj e))
      refine wpOp_mono (fun b v' q => ?_) step
      have hm2 : (late i = true ∧ ∀ w, S' w) ∨ ((∀ w, S w → S' w) ∧ S v' ∧ WL md ops late (listed.setIfInBounds j true) i) := by
        rcases hm with h | ⟨h1, h2, h3⟩
        · exact .inl h
        · refine .inr ⟨h1, ?_, fun k x hx ne un hl => h3 k x hx ne ?_ hl⟩
          · rcases q.2.1 with z | z
            · obtain ⟨x, hx, hb, z2⟩ := h3 j u hu e open_ z
              exact absurd z2 (off x hx hb)
            · exact z
          · by_cases jk : j = k
            · subst jk; exact open_
            · rw [getD_set_ne true jk] at un; exact un
      refine ⟨q.2.1, ih (fun k x hx ki un no => free k x hx ki ?_ no) (ready_mono rd (Ne.symm e)) q.1 hm2 (by rw [Array.setIfInBounds_comm _ _ e]; exact q.2.2)⟩
      by_cases jk : j = k
      · subst jk; exact open_
      · rw [getD_set_ne true jk] at un; exact un
/-- one that reads nothing -/
theorem tkP (i : Nat) {o : Oper} (ho : ops[i]? = some o) (v : Value) {g : Nat} {listed : Array Bool} {a : Act} {w : World} (hl : late i = true) (hy : YieldsIf P ops (fun _ => True) o v a) (h : Late P md ops Q S late g (listed.setIfInBounds i true) (a.put o.dst v) w)
    (hs : Region.noSelect ops = true := by kernel_rfl) (hf : Region.free md ops listed i = true := by kernel_rfl) (hr : (Region.ready md ops listed).contains i = true := by kernel_rfl)
    (pan : ∀ c a w, Q (.panic c) (a.put o.dst v) w → Q (.panic c) a w := by exact fun _ _ _ h => h) : Late P md ops Q S late (g + 1) listed a w :=
  Late.aheadL ho (Region.noSelect_spec hs) pan (fun _ => True) g (Region.free_spec ho hf) (by simpa using hr) hy (.inl ⟨hl, fun _ => trivial⟩) h
/-- one that reads -/
theorem tkL (i : Nat) {o : Oper} (ho : ops[i]? = some o) (v : Value) {g : Nat} {listed : Array Bool} {a : Act} {w : World} (hy : YieldsIf P ops S o v a) (hS : S w) (h : Late P md ops Q S late g (listed.setIfInBounds i true) (a.put o.dst v) w)
    (hs : Region.noSelect ops = true := by kernel_rfl) (hf : Region.free md ops listed i = true := by kernel_rfl) (hr : (Region.ready md ops listed).contains i = true := by kernel_rfl) (hw : waitsLB md ops late listed i = true := by kernel_rfl)
    (pan : ∀ c a w, Q (.panic c) (a.put o.dst v) w → Q (.panic c) a w := by exact fun _ _ _ h => h) : Late P md ops Q S late (g + 1) listed a w :=
  Late.aheadL ho (Region.noSelect_spec hs) pan S g (Region.free_spec ho hf) (by simpa using hr) hy (.inr ⟨fun _ h => h, hS, wl_of hw⟩) h
end
end Go.Proofs.Ytjodhfehfpmfaaa.Iv
