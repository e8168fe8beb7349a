/- For every list of calls, spans and owner, voklaw10.IvUndoes returns true: what is refused changes nothing, and clashes, or the owner is none or has some; what was added and is removed leaves all as it was. No condition. -/
import Derived.Test.YtjodhfehfpmfaaaRows
import Derived.WalkKit
import Derived.ProofKit
import Derived.OpenShut
import Derived.ChangeMaps5
import Derived.ShutString
import Derived.Test.YtjodhfehfpmfaaaLawPost
import Derived.Test.YtjodhfehfpmfaaaIvOp
import Derived.Test.YtjodhfehfpmfaaaIvUn
namespace Go.Proofs.Ytjodhfehfpmfaaa.ivUndoes
open Go.ChangeShapes Go.WideShapes Go.ChangeAt Go.RowKit Go.ChangeMaps
set_option linter.unusedVariables false

theorem own : ownKnob Try.prog.godebug = none := by kernel_rfl
set_option maxRecDepth 100000 in
theorem lifted (os : Os) (started : os.Started) (H : Type) (enc : TypeId × Value → H) :
    ReturnsInHanded {} Try.checked os 5 .any (Rows.ivUndoesSpec.pre6 enc Try.prog Try.f5 Rows.ivUndoesRow.domain false) (Rows.ivUndoesSpec.post enc Try.prog Try.f5 false true false false) := by
  refine returnsInHanded_of_change (C := Try.checked) own started (by kernel_rfl) Try.func5
    (ChangeSpec.witness6 (enc := enc) (C := Try.checked) false ⟨#[], #[.slice none 0 0, .slice none 0 0, .int .i64 0], []⟩ 8 (by kernel_rfl) (by kernel_rfl) (by kernel_rfl) (by kernel_rfl)) ?_
  intro W base args ds gs before hval0 hW hcnd _
  have hval : ∀ (j : Nat) t v, Try.f5.params[j]? = some t → args[j]? = some v → Value.okWide Try.prog W .any base t v := hval0
  have hW' := hW
  have hlt := hW.lt
  obtain ⟨p, q, hA0, hV, rfl, hfz, hnd⟩ := hW
  have hA : DataW.TrodAll enc Try.prog W 0 (fun _ => true) true Try.f5.params.toList args.toList ds p := hA0
  have hA1 := hA
  rw [Try.params5] at hA hval
  obtain ⟨v0, vs0, d0, ds0, p0, q0, hargs, rfl, rfl, h0, r0⟩ := trodAll_cons hA
  obtain ⟨v1, vs1, d1, ds1, p1, q1, rfl, rfl, rfl, h1, r1⟩ := trodAll_cons r0
  obtain ⟨v2, vs2, d2, ds2, p2, q2, rfl, rfl, rfl, h2, r2⟩ := trodAll_cons r1
  obtain ⟨rfl, rfl, rfl⟩ := trodAll_nil r2
  obtain rfl : args = #[v0, v1, v2] := by cases args; simp_all
  obtain ⟨rfl, rfl⟩ := trodVars_none hV
  obtain ⟨f0, g00⟩ := h0
  have e0 : v0.cells.toList = [v0] := Iv.cells_slice Try.underlying27 (hval 0 27 v0 rfl rfl)
  rw [e0] at g00
  obtain ⟨A0, n0, c0, y0, rfl, h0', k0, s0⟩ := Iv.op_open g00
  obtain ⟨f1, g01⟩ := h1
  have e1 : v1.cells.toList = [v1] := Iv.cells_slice Try.underlying22 (hval 1 22 v1 rfl rfl)
  rw [e1] at g01
  obtain ⟨A1, n1, c1, y1, rfl, h1', k1, s1⟩ := Iv.sp_open g01
  obtain ⟨a2, rfl, _, _, w2⟩ := open_int Try.underlying3 (hval 2 3 v2 rfl rfl) h2
  obtain ⟨l2, u2⟩ := bounds_i64 w2
  clear hA0 hval0
  refine (Iv.undoes_walk W A0 n0 c0 y0 A1 n1 c1 y1 a2 h0' s0 h1' (Iv.sp_zero h1') s1).mono fun e W' ⟨he, hg⟩ => ?_
  subst he
  exact ⟨_, rfl, Law.post_bool (b := true) (pa := _) (pv := []) hW' rfl Try.underlying4 rfl (fun sp hsp => Iv.args_stay (by kernel_rfl) hg (fun t ht => by rw [Try.params5] at ht; revert t; decide +kernel) hA1 (fun x hx => hlt x (List.mem_append_left _ hx)) (fun x hx => hsp x (List.mem_append_left _ hx))) (fun _ _ => rfl) rfl hg⟩

theorem over : Rows.ivUndoesRow.holds Try.pinned (OpenSpec.ofChange Rows.ivUndoesSpec) :=
  OpenClaim.holds_of_wide 5 Try.f5 rfl rfl rfl rfl rfl rfl rfl ⟨rfl, rfl, rfl, rfl, rfl⟩ rfl rfl rfl rfl rfl (by kernel_rfl) Try.func5 (by kernel_rfl)
    (of_decide_eq_true (by kernel_rfl)) (by unfold Func.isWrapper; first | (rw [if_pos (by decide +kernel)]; kernel_rfl) | (rw [if_neg (by decide +kernel)]; exact ⟨rfl, rfl⟩))
    (fun os started H enc _ => lifted os started H enc)

theorem proved : Rows.IvUndoesSaid :=
  over
#print axioms proved
end Go.Proofs.Ytjodhfehfpmfaaa.ivUndoes
