/- The walk of voklaw10.played: a set behind calls. -/
import Derived.Test.YtocfnnenechgmaaIvPlay
set_option linter.unusedVariables false
namespace Go.Proofs.Ytocfnnenechgmaa.Iv
open Go.RowKit

/-- what played tells -/
def PlayIs (w : World) (ops : List OpR) (e : Ending) (w' : World) : Prop :=
  Below w.heap.size w w' ∧ ((fewB ops = true ∧ ∃ p, e = .returned (.pointer (some ⟨p, 0, none⟩)) ∧ w.heap.size ≤ p ∧ SetIn (fun k => w.heap.size ≤ k) w' p (playN ops ops.length).1 (playN ops ops.length).2 ∧ (playN ops ops.length).1.length ≤ 3000 ∧ (playN ops ops.length).2.length ≤ 200) ∨ (fewB ops = false ∧ e = .returned (.pointer none)))
theorem OpAt.kl {W : World} {A : Option Addr} {n : Nat} {ops : List OpR} (h : OpAt W A n ops) : ∀ t, t < ops.length → (gt ops t).k = (gt ops t).l.length := fun t ht => by
  have e := h.1
  obtain ⟨b, o, -, -, hc⟩ := h.2 (by omega)
  obtain ⟨-, -, -, -, s, -⟩ := hc t (by omega)
  exact s.1
end Go.Proofs.Ytocfnnenechgmaa.Iv
