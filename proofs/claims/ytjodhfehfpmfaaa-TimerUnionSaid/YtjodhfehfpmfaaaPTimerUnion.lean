/- For every three lists of numbers, voklaw11.TimerUnion returns true: a merge rises, has each number of each list, and no other; of a merge and a list it is the merge of all. No condition. -/
import Derived.Test.YtjodhfehfpmfaaaRows
import Derived.WalkKit
import Derived.ProofKit
import Derived.OpenShut
import Derived.ChangeMaps5
import Derived.ShutString
import Derived.Test.YtjodhfehfpmfaaaLawPost
import Derived.Test.YtjodhfehfpmfaaaTiOpen
import Derived.Test.YtjodhfehfpmfaaaTiUn
namespace Go.Proofs.Ytjodhfehfpmfaaa.timerUnion
open Go.ChangeShapes Go.WideShapes Go.ChangeAt Go.RowKit Go.ChangeMaps
set_option linter.unusedVariables false

theorem own : ownKnob Try.prog.godebug = none := by kernel_rfl
set_option maxRecDepth 100000 in
theorem lifted (os : Os) (started : os.Started) (H : Type) (enc : TypeId × Value → H) :
    ReturnsInHanded {} Try.checked os 9 .any (Rows.timerUnionSpec.pre6 enc Try.prog Try.f9 Rows.timerUnionRow.domain false) (Rows.timerUnionSpec.post enc Try.prog Try.f9 false true false false) := by
  refine returnsInHanded_of_change (C := Try.checked) own started (by kernel_rfl) Try.func9
    (ChangeSpec.witness6 (enc := enc) (C := Try.checked) false ⟨#[], #[.slice none 0 0, .slice none 0 0, .slice none 0 0], []⟩ 8 (by kernel_rfl) (by kernel_rfl) (by kernel_rfl) (by kernel_rfl)) ?_
  intro W base args ds gs before hval0 hW hcnd _
  have hval : ∀ (j : Nat) t v, Try.f9.params[j]? = some t → args[j]? = some v → Value.okWide Try.prog W .any base t v := hval0
  have hW' := hW
  have hlt := hW.lt
  obtain ⟨p, q, hA0, hV, rfl, hfz, hnd⟩ := hW
  have hA : DataW.TrodAll enc Try.prog W 0 (fun _ => true) true Try.f9.params.toList args.toList ds p := hA0
  have hA1 := hA
  rw [Try.params9] at hA hval
  obtain ⟨v0, vs0, d0, ds0, p0, q0, hargs, rfl, rfl, h0, r0⟩ := trodAll_cons hA
  obtain ⟨v1, vs1, d1, ds1, p1, q1, rfl, rfl, rfl, h1, r1⟩ := trodAll_cons r0
  obtain ⟨v2, vs2, d2, ds2, p2, q2, rfl, rfl, rfl, h2, r2⟩ := trodAll_cons r1
  obtain ⟨rfl, rfl, rfl⟩ := trodAll_nil r2
  obtain rfl : args = #[v0, v1, v2] := by cases args; simp_all
  obtain ⟨rfl, rfl⟩ := trodVars_none hV
  obtain ⟨f0, g00⟩ := h0
  have e0 : v0.cells.toList = [v0] := Iv.cells_slice Try.underlying53 (hval 0 53 v0 rfl rfl)
  rw [e0] at g00
  obtain ⟨A0, n0, c0, y0, rfl, h0', k0, s0, r0'⟩ := Ti.is_open g00
  obtain ⟨f1, g01⟩ := h1
  have e1 : v1.cells.toList = [v1] := Iv.cells_slice Try.underlying53 (hval 1 53 v1 rfl rfl)
  rw [e1] at g01
  obtain ⟨A1, n1, c1, y1, rfl, h1', k1, s1, r1'⟩ := Ti.is_open g01
  obtain ⟨f2, g02⟩ := h2
  have e2 : v2.cells.toList = [v2] := Iv.cells_slice Try.underlying53 (hval 2 53 v2 rfl rfl)
  rw [e2] at g02
  obtain ⟨A2, n2, c2, y2, rfl, h2', k2, s2, r2'⟩ := Ti.is_open g02
  clear hA0 hval0
  refine (Ti.union_walk W A0 A1 A2 n0 n1 n2 c0 c1 c2 y0 y1 y2 h0' h1' h2' s0 s1 s2 r0' r1' r2').mono fun e W' ⟨he, hg⟩ => ?_
  subst he
  exact ⟨_, rfl, Law.post_bool (b := true) (pa := _) (pv := []) hW' rfl Try.underlying4 rfl (fun sp hsp => Iv.args_stay (by kernel_rfl) hg (fun t ht => by rw [Try.params9] at ht; revert t; decide +kernel) hA1 (fun x hx => hlt x (List.mem_append_left _ hx)) (fun x hx => hsp x (List.mem_append_left _ hx))) (fun _ _ => rfl) rfl hg⟩

theorem over : Rows.timerUnionRow.holds Try.pinned (OpenSpec.ofChange Rows.timerUnionSpec) :=
  OpenClaim.holds_of_wide 9 Try.f9 rfl rfl rfl rfl rfl rfl rfl ⟨rfl, rfl, rfl, rfl, rfl⟩ rfl rfl rfl rfl rfl (by kernel_rfl) Try.func9 (by kernel_rfl)
    (of_decide_eq_true (by kernel_rfl)) (by unfold Func.isWrapper; first | (rw [if_pos (by decide +kernel)]; kernel_rfl) | (rw [if_neg (by decide +kernel)]; exact ⟨rfl, rfl⟩))
    (fun os started H enc _ => lifted os started H enc)

theorem proved : Rows.TimerUnionSaid :=
  over
#print axioms proved
end Go.Proofs.Ytjodhfehfpmfaaa.timerUnion
