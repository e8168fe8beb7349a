/- For every size, every list of operations and every slice of bytes, voklaw14.DiskRoom returns true: what has room is there, at the end; what has not changes nothing; swapped it is just that, synced. No condition. -/
import Derived.Test.YtipefkjgfbgceaaRows
import Derived.WalkKit
import Derived.ProofKit
import Derived.OpenShut
import Derived.ChangeMaps5
import Derived.ShutString
import Derived.Test.YtipefkjgfbgceaaLawPost
import Derived.Test.YtipefkjgfbgceaaDkOpen
import Derived.Test.YtipefkjgfbgceaaDkRo
namespace Go.Proofs.Ytipefkjgfbgceaa.diskRoom
open Go.ChangeShapes Go.WideShapes Go.ChangeAt Go.RowKit Go.ChangeMaps
set_option linter.unusedVariables false

theorem own : ownKnob Try.prog.godebug = none := by kernel_rfl
set_option maxRecDepth 100000 in
theorem lifted (os : Os) (started : os.Started) (H : Type) (enc : TypeId × Value → H) :
    ReturnsInHanded {} Try.checked os 5 .any (Rows.diskRoomSpec.pre6 enc Try.prog Try.f5 Rows.diskRoomRow.domain false) (Rows.diskRoomSpec.post enc Try.prog Try.f5 false true false false) := by
  refine returnsInHanded_of_change (C := Try.checked) own started (by kernel_rfl) Try.func5
    (ChangeSpec.witness6 (enc := enc) (C := Try.checked) false ⟨#[], #[.int .i64 0, .slice none 0 0, .slice none 0 0], []⟩ 8 (by kernel_rfl) (by kernel_rfl) (by kernel_rfl) (by kernel_rfl)) ?_
  intro W base args ds gs before hval0 hW hcnd _
  have hval : ∀ (j : Nat) t v, Try.f5.params[j]? = some t → args[j]? = some v → Value.okWide Try.prog W .any base t v := hval0
  have hW' := hW
  have hlt := hW.lt
  obtain ⟨p, q, hA0, hV, rfl, hfz, hnd⟩ := hW
  have hA : DataW.TrodAll enc Try.prog W 0 (fun _ => true) true Try.f5.params.toList args.toList ds p := hA0
  have hA1 := hA
  rw [Try.params5] at hA hval
  obtain ⟨v0, vs0, d0, ds0, p0, q0, hargs, rfl, rfl, h0, r0⟩ := trodAll_cons hA
  obtain ⟨v1, vs1, d1, ds1, p1, q1, rfl, rfl, rfl, h1, r1⟩ := trodAll_cons r0
  obtain ⟨v2, vs2, d2, ds2, p2, q2, rfl, rfl, rfl, h2, r2⟩ := trodAll_cons r1
  obtain ⟨rfl, rfl, rfl⟩ := trodAll_nil r2
  obtain rfl : args = #[v0, v1, v2] := by cases args; simp_all
  obtain ⟨rfl, rfl⟩ := trodVars_none hV
  obtain ⟨a0, rfl, _, _, w0⟩ := open_int Try.underlying3 (hval 0 3 v0 rfl rfl) h0
  obtain ⟨l0, u0⟩ := bounds_i64 w0
  obtain ⟨f1, g01⟩ := h1
  have e1 : v1.cells.toList = [v1] := Dk.cells_slice Try.underlying22 (hval 1 22 v1 rfl rfl)
  rw [e1] at g01
  obtain ⟨A1, n1, c1, y1, rfl, h1', z1, k1, s1⟩ := Dk.os_open g01
  obtain ⟨f2, g02⟩ := h2
  have e2 : v2.cells.toList = [v2] := Dk.cells_slice Try.underlying30 (hval 2 30 v2 rfl rfl)
  rw [e2] at g02
  obtain ⟨A2, n2, c2, y2, rfl, h2', z2, k2, s2⟩ := Dk.by_open g02
  clear hA0 hval0
  refine (Dk.room_walk W a0 A1 n1 c1 y1 A2 n2 c2 y2 h1' (Nat.le_trans k1 s1) l0 u0 h2' z2 (Nat.le_trans k2 s2)).mono fun e W' ⟨he, hg⟩ => ?_
  subst he
  exact ⟨_, rfl, Law.post_bool (b := true) (pa := _) (pv := []) hW' rfl Try.underlying4 rfl (fun sp hsp => Dk.args_stay (by kernel_rfl) hg (fun t ht => by rw [Try.params5] at ht; revert t; decide +kernel) hA1 (fun x hx => hlt x (List.mem_append_left _ hx)) (fun x hx => hsp x (List.mem_append_left _ hx))) (fun _ _ => rfl) rfl hg⟩

theorem over : Rows.diskRoomRow.holds Try.pinned (OpenSpec.ofChange Rows.diskRoomSpec) :=
  OpenClaim.holds_of_wide 5 Try.f5 rfl rfl rfl rfl rfl rfl rfl ⟨rfl, rfl, rfl, rfl, rfl⟩ rfl rfl rfl rfl rfl (by kernel_rfl) Try.func5 (by kernel_rfl)
    (of_decide_eq_true (by kernel_rfl)) (by unfold Func.isWrapper; first | (rw [if_pos (by decide +kernel)]; kernel_rfl) | (rw [if_neg (by decide +kernel)]; exact ⟨rfl, rfl⟩))
    (fun os started H enc _ => lifted os started H enc)

theorem proved : Rows.DiskRoomSaid :=
  over
#print axioms proved
end Go.Proofs.Ytipefkjgfbgceaa.diskRoom
