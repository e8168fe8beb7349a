/- For every list of slices of bytes, voklaw13.FrameOwn returns true: what is told may be spoilt; neither the bytes nor another answer see it. No condition. -/
import Derived.Test.YtdaabjoiokgjlaaDoorRows
import Derived.Test.YtdaabjoiokgjlaaDoorTie
import Derived.Test.YtdaabjoiokgjlaaDoorCards
import Derived.WalkKit
import Derived.ProofKit
import Derived.OpenShut
import Derived.ChangeMaps5
import Derived.ShutString
import Derived.Test.YtdaabjoiokgjlaaDoorLawPost
import Derived.LaidMore
import Derived.Stop.LaidErr
import Derived.Lib.LaidTab
import Derived.SevenTiedAt
import Derived.Stop.Joined
import Derived.Test.YtdaabjoiokgjlaaDoorFrOpen
import Derived.Test.YtdaabjoiokgjlaaDoorFrOw
namespace Go.Proofs.YtdaabjoiokgjlaaDoor.frameOwn
open Go.ChangeShapes Go.WideShapes Go.ChangeAt Go.RowKit Go.ChangeMaps
set_option linter.unusedVariables false

theorem own : ownKnob Tryd.prog.godebug = none := by kernel_rfl
theorem tRests : (Tryd.prog.globals[0]?).map (·.type) = some 50 := by kernel_rfl
theorem tab_of {W : World} (h : laidMet Tryd.prog Rows.frameOwnRow.laid W) : Fr.Tab W :=
  Fr.tab_is (Lib.tabIs_of_head Fr.gRests tRests Tryd.underlying50 Tryd.underlying29 (by kernel_rfl) (by kernel_rfl) h)
theorem door_met (os : Os) (args : Array Value) : laidMet Tryd.prog Rows.frameOwnRow.laid ((World.doorLaid Tryd.prog 400 os).forCall (fun _ _ => 0) ⟨#[], args, []⟩).memory :=
  laidMet_of_run' 8 (by kernel_rfl) (by kernel_rfl)
set_option maxRecDepth 100000 in
theorem lifted (os : Os) (started : os.Started) (H : Type) (enc : TypeId × Value → H) :
    ReturnsInHanded {} Tryd.checked os 9 .any (fun w args => (Rows.frameOwnSpec.pre enc Tryd.prog Tryd.f9 [] false w args ∧ laidMet Tryd.prog Rows.frameOwnRow.laid w) ∧ sizedMet enc Tryd.prog Tryd.f9 (OpenSpec.ofChange Rows.frameOwnSpec) false w args)
      (Rows.frameOwnSpec.post enc Tryd.prog Tryd.f9 false true false false) := by
  refine returnsInHanded_of_change_and (C := Tryd.checked) (X := fun w _ => laidMet Tryd.prog Rows.frameOwnRow.laid w) (fun _ _ _ hh h => h.of_heap hh) own started (by kernel_rfl) Tryd.func9
    (ChangeSpec.witness_shaped (enc := enc) (C := Tryd.checked) (os := os) (X := fun w _ => laidMet Tryd.prog Rows.frameOwnRow.laid w) false (World.doorLaid Tryd.prog 400 os) #[.slice none 0 0] 8 rfl (World.shaped_of_RefB (by kernel_rfl) (by kernel_rfl)) (by kernel_rfl) (by kernel_rfl) (by kernel_rfl) (door_met os _)) ?_
  intro W base args ds gs before hval0 hW _ _ hL _
  have hval : ∀ (j : Nat) t v, Tryd.f9.params[j]? = some t → args[j]? = some v → Value.okWide Tryd.prog W .any base t v := hval0
  have T := tab_of hL
  have hW' := hW
  have hlt := hW.lt
  obtain ⟨p, q, hA0, hV, rfl, hfz, hnd⟩ := hW
  have hA : DataW.TrodAll enc Tryd.prog W 0 (fun _ => true) true Tryd.f9.params.toList args.toList ds p := hA0
  have hA1 := hA
  rw [Tryd.params9] at hA hval
  obtain ⟨v0, vs0, d0, ds0, p0, q0, hargs, rfl, rfl, h0, r0⟩ := trodAll_cons hA
  obtain ⟨rfl, rfl, rfl⟩ := trodAll_nil r0
  obtain rfl : args = #[v0] := by cases args; simp_all
  obtain ⟨rfl, rfl⟩ := trodVars_none hV
  obtain ⟨f0, g00⟩ := h0
  have e0 : v0.cells.toList = [v0] := Fr.cells_slice Tryd.underlying34 (hval 0 34 v0 rfl rfl)
  rw [e0] at g00
  obtain ⟨A0, n0, c0, y0, rfl, h0', z0, k0, s0, r0'⟩ := Fr.ls_open g00
  clear hA0 hval0
  refine (Fr.own_walk W T A0 n0 c0 y0 h0' (Nat.le_trans k0 s0) r0').mono fun e W' ⟨he, hg⟩ => ?_
  subst he
  exact ⟨_, rfl, Law.post_bool (b := true) (pa := _) (pv := []) hW' rfl Tryd.underlying4 rfl (fun sp hsp => Fr.args_stay (by kernel_rfl) hg (fun t ht => by rw [Tryd.params9] at ht; revert t; decide +kernel) hA1 (fun x hx => hlt x (List.mem_append_left _ hx)) (fun x hx => hsp x (List.mem_append_left _ hx))) (fun _ _ => rfl) rfl hg⟩

theorem over : Rows.frameOwnRow.holds Tryd.pinned (OpenSpec.ofChange Rows.frameOwnSpec) :=
  OpenClaim.holds_of_wide 9 Tryd.f9 rfl rfl rfl rfl rfl rfl rfl ⟨rfl, rfl, rfl, rfl, rfl⟩ rfl rfl rfl rfl rfl (by kernel_rfl) Tryd.func9 (by kernel_rfl)
    (of_decide_eq_true (by kernel_rfl)) (by unfold Func.isWrapper; first | (rw [if_pos (by decide +kernel)]; kernel_rfl) | (rw [if_neg (by decide +kernel)]; exact ⟨rfl, rfl⟩))
    (fun os started H enc _ => lifted os started H enc)

theorem proved : Rows.FrameOwnCardSaid :=
  Claim7.holds_tied_plain_at .later [] [.data] true (true, "be5e23d0bad65de0994dfced2019b9b1a99489d876c8916df09080dfe7b7a9d3") false
    over (fun _ h => by cases h) (by kernel_rfl) (fun _ h => by cases h) frameOwn_row_tie rfl ⟨rfl, rfl⟩ (by kernel_rfl) rfl
    (fun f fn hf hfn => by
      obtain rfl : f = 9 := Option.some.inj ((show Tryd.prog.funcNamed "convoker/voklaw13.FrameOwn" = some 9 by kernel_rfl).symm.trans hf) |>.symm
      obtain rfl : fn = Tryd.f9 := (Option.some.inj (Tryd.func9.symm.trans hfn)).symm
      exact ⟨by kernel_rfl, fun j t ht => by
        rw [Tryd.params9] at ht
        have hm : t ∈ ([34] : List Nat) := by simpa using Array.mem_of_getElem? ht
        have hall : (([34] : List Nat).all fun u => !Tryd.prog.wantsStandIn u) = true := by kernel_rfl
        exact (show Tryd.prog.wantsStandIn t = false by simpa using List.all_eq_true.1 hall t hm)⟩)
    (by kernel_rfl)
#print axioms proved
end Go.Proofs.YtdaabjoiokgjlaaDoor.frameOwn
