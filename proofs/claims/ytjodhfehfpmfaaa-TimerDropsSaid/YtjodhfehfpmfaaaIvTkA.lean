/- A region that draws: operations with a guard; what is taken ahead. -/
import Derived.Test.YtjodhfehfpmfaaaIvLate
set_option linter.unusedVariables false
namespace Go.Proofs.Ytjodhfehfpmfaaa.Iv
open Go.RowKit

section
variable {P : Program} {ops : Array Oper} {Q : Exit → Act → World → Prop} {md : Region.Mode} {S : World → Prop} {late : Nat → Bool}
/-- operation i alone is ready, and its guard is met -/
theorem late_oneG (i : Nat) {o : Oper} {g : Nat} {listed : Array Bool} {a : Act} {w : World} (ho : ops[i]? = some o) (hr : Region.ready md ops listed = [i]) (hg : Region.wanted o (yielded ops a.tmps) = true)
    (h : Oper.wp P o a w (fun b v => (late i = true ∨ S v) ∧ Late P md ops Q S late g (listed.setIfInBounds i true) b v) Q) : Late P md ops Q S late (g + 1) listed a w := by
  unfold Late
  refine ⟨fun e => absurd (hr ▸ e) (by simp), fun k hk => ?_⟩
  rw [hr] at hk
  obtain rfl := List.mem_singleton.1 hk
  unfold wpOp
  simp only [ho]
  rw [if_pos hg]
  exact .inl h
/-- two are ready, their guards are met -/
theorem late_twoG (i j : Nat) {oi oj : Oper} {g : Nat} {listed : Array Bool} {a : Act} {w : World} (hi : ops[i]? = some oi) (hj : ops[j]? = some oj) (hr : Region.ready md ops listed = [i, j]) (gi : Region.wanted oi (yielded ops a.tmps) = true) (gj : Region.wanted oj (yielded ops a.tmps) = true)
    (h1 : Oper.wp P oi a w (fun b v => (late i = true ∨ S v) ∧ Late P md ops Q S late g (listed.setIfInBounds i true) b v) Q)
    (h2 : Oper.wp P oj a w (fun b v => (late j = true ∨ S v) ∧ Late P md ops Q S late g (listed.setIfInBounds j true) b v) Q) : Late P md ops Q S late (g + 1) listed a w := by
  unfold Late
  refine ⟨fun e => absurd (hr ▸ e) (by simp), fun k hk => ?_⟩
  rw [hr] at hk
  rcases List.mem_cons.1 hk with rfl | hk
  · unfold wpOp
    simp only [hi]
    rw [if_pos gi]
    exact .inl h1
  · obtain rfl := List.mem_singleton.1 hk
    unfold wpOp
    simp only [hj]
    rw [if_pos gj]
    exact .inl h2
theorem tk (i : Nat) {o : Oper} (ho : ops[i]? = some o) (v : Value) {g : Nat} {listed : Array Bool} {a : Act} {w : World} (hy : YieldsIf P ops S o v a) (hS : S w) (h : Late P md ops Q S late g (listed.setIfInBounds i true) (a.put o.dst v) w)
    (hs : Region.noSelect ops = true := by kernel_rfl) (hf : Region.free md ops listed i = true := by kernel_rfl) (hr : (Region.ready md ops listed).contains i = true := by kernel_rfl) (hw : waitsB md ops late i = true := by kernel_rfl)
    (pan : ∀ c a w, Q (.panic c) (a.put o.dst v) w → Q (.panic c) a w := by exact fun _ _ _ h => h) : Late P md ops Q S late (g + 1) listed a w :=
  Late.take i v ho hs hf hr hw pan hy hS h
end
end Go.Proofs.Ytjodhfehfpmfaaa.Iv
