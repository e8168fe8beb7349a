/- Communication in one goroutine beside the plain walk: a walk of the machine of one (LoneTo) takes whole pieces of code by wp. -/
import Derived.ProofKit
import Derived.Conc.LoneCalls
import Derived.Conc.LoneSelect
import Derived.Conc.LoneSelectN
import Derived.Laws.Rows
import Derived.Test.YthonmfoajjhkdaaChecked
set_option linter.unusedVariables false
namespace Go.Proofs.Ythonmfoajjhkdaa.Bx
open Go.Conc Go.RowKit

section
variable {P : Program} {R : Goroutine → World → Prop} {b : Frame} {k : List Item} {cs : List Frame} {a : Act} {w : World}
theorem lone_trans {R' : Goroutine → World → Prop} {g : Goroutine} (h : LoneTo P R' g w) (hq : ∀ g' w', R' g' w' → LoneTo P R g' w') : LoneTo P R g w := by
  obtain ⟨g', w', hs, hr⟩ := h
  obtain ⟨g2, w2, hs2, hr2⟩ := hq _ _ hr
  exact ⟨g2, w2, hs.trans hs2, hr2⟩
/-- what is asked behind a piece of code -/
def QL (P : Program) (R : Goroutine → World → Prop) (b : Frame) (k : List Item) (cs : List Frame) : Exit → Act → World → Prop
  | .normal, a, w => LoneTo P R (G (b.at a k) cs) w
  | .exit id, a, w => ∃ k', exitTo id k = some k' ∧ LoneTo P R (G (b.at a k') cs) w
  | .ret, a, w => ∀ todo, R (G { b.at a todo with mode := .returning } cs) w
  | _, _, _ => False
theorem lone_wp {c : Code} (h : c.wp P (QL P R b k cs) a w) : LoneTo P R (G (b.at a (.code c :: k)) cs) w := by
  obtain ⟨e, a', w', hq, harr⟩ := h b k cs
  cases e with
  | normal =>
    obtain ⟨g2, w2, hs, hr⟩ := (show LoneTo P R (G (b.at a' k) cs) w' from hq)
    exact ⟨g2, w2, Steps.trans harr hs, hr⟩
  | exit id =>
    obtain ⟨k', hk, g2, w2, hs, hr⟩ := hq
    exact ⟨g2, w2, Steps.trans (harr k' hk) hs, hr⟩
  | ret =>
    obtain ⟨todo, hs⟩ := harr
    exact ⟨_, w', hs, hq todo⟩
  | goto l => exact hq.elim
  | panic ch => exact hq.elim
  | outgrown => exact hq.elim
/-- what is left of a region, by the plain walk -/
theorem lone_rest {ops : Array Oper} (m : Nat) {il : List Nat} (e : il = List.range' m (ops.toList.drop m).length) (h : wpList P ops (QL P R b k cs) (ops.toList.drop m) a w) : LoneTo P R (G (b.at a (.inRegion ops il :: k)) cs) w := by
  subst e
  have hw : wpOps P ops (QL P R b k cs) (List.range' m (ops.toList.drop m).length) a w := by
    rw [wpOps_eq_wpList (ops.toList.drop m) m (fun j => by simp)]
    exact h
  obtain ⟨e, a', w', hq, harr⟩ := wp_ops _ _ _ hw b k cs
  cases e with
  | normal =>
    obtain ⟨g2, w2, hs, hr⟩ := (show LoneTo P R (G (b.at a' k) cs) w' from hq)
    exact ⟨g2, w2, Steps.trans harr hs, hr⟩
  | exit id =>
    obtain ⟨k', hk, g2, w2, hs, hr⟩ := hq
    exact ⟨g2, w2, Steps.trans (harr k' hk) hs, hr⟩
  | ret =>
    obtain ⟨todo, hs⟩ := harr
    exact ⟨_, w', hs, hq todo⟩
  | goto l => exact hq.elim
  | panic ch => exact hq.elim
  | outgrown => exact hq.elim
/-- a loop whose rounds communicate -/
theorem lone_loop {c : Code} (I : Act → World → Prop) (μ : Act → World → Nat) (h0 : I a w)
    (round : ∀ a w, I a w → LoneTo P (fun g' w' => R g' w' ∨ ∃ a', g' = G (b.at a' (.inLoop c :: k)) cs ∧ I a' w' ∧ μ a' w' < μ a w) (G (b.at a (.code c :: .inLoop c :: k)) cs) w) :
    LoneTo P R (G (b.at a (.code (.loop c) :: k)) cs) w := by
  have key : ∀ n a w, μ a w = n → I a w → LoneTo P R (G (b.at a (.code c :: .inLoop c :: k)) cs) w := by
    intro n
    induction n using Nat.strongRecOn with
    | _ n ih =>
      intro a w hn hI
      refine lone_trans (round a w hI) ?_
      rintro g' w' (hr | ⟨a', rfl, hI', hlt⟩)
      · exact .done hr
      · exact .step step_inLoop (ih (μ a' w') (hn ▸ hlt) a' w' rfl hI')
  exact .step step_loop (key _ a w rfl h0)
/-- the end of a body -/
def LB (P : Program) (f : FuncId) (cs : List Frame) (Rr : Ending → World → Prop) (g' : Goroutine) (w' : World) : Prop :=
  ∃ e fr, g' = G fr cs ∧ Rr e w' ∧ fr.fn = f ∧ fr.leaving P w' e
theorem lb_ret {f : FuncId} {fn : Func} {Rr : Ending → World → Prop} (hb : b.fn = f) (hk : b.kind = .normal) (hf : P.funcs[f]? = some fn) (h : bodyPost P fn Rr .ret a w) : QL P (LB P f cs Rr) b k cs .ret a w := by
  obtain ⟨hd, v, hr, hR⟩ := h
  intro todo
  exact ⟨.returned v, _, rfl, hR, hb, rfl, hd, hk, fn, by show P.funcs[b.fn]? = _; rw [hb]; exact hf, hr⟩
/-- into a body -/
theorem calls_lone {f : FuncId} {fn : Func} {c : Code} {args : Array Value} {Rr : Ending → World → Prop} (hf : P.funcs[f]? = some fn) (hb : fn.body = some c)
    (hno : ∀ w', ¬ Rr .outgrown w')
    (h : ∀ (b : Frame) (cs : List Frame), b.fn = f → b.kind = .normal → LoneTo P (LB P f cs Rr) (G (b.at { tmps := args ++ Array.replicate (fn.ntmps - args.size) undef, defers := [] } [.code c]) cs) w) : Calls P f args w Rr := by
  refine calls_of_loneTo (fun cs => ?_) hno
  have := h { (default : Frame) with fn := f, kind := .normal } cs rfl rfl
  have e : Frame.enter P f args .normal = Frame.at { (default : Frame) with fn := f, kind := .normal } { tmps := args ++ Array.replicate (fn.ntmps - args.size) undef, defers := [] } [.code c] := by
    simp [Frame.enter, Frame.at, hf, hb]
  rw [e]
  exact this
end
end Go.Proofs.Ythonmfoajjhkdaa.Bx
