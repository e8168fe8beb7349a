/- A region that draws: operations with a guard. -/
import Derived.Test.YtjodhfehfpmfaaaIvTkA
import Derived.Test.YtjodhfehfpmfaaaIvTwo
set_option linter.unusedVariables false
namespace Go.Proofs.Ytjodhfehfpmfaaa.Iv
open Go.RowKit

theorem two_start {B : Nat} {w : World} {p : Nat} (S : SetIn (fun k => B ≤ k) w p [] []) (hz : B ≤ w.heap.size) : Two (w.alloc (.cells #[.slice none 0 0] 34)) p w.heap.size [] [] [] B 0 [] := by
  have sz : (w.alloc (.cells #[.slice none 0 0] 34)).heap.size = w.heap.size + 1 := by simp
  refine ⟨fun k => B ≤ k ∧ k < w.heap.size, fun k => k = w.heap.size, (S.mono fun k h1 h2 => ⟨h1, h2⟩).below (below_alloc _ _), ⟨none, 0, ?_, rfl, rfl, Nat.le_refl _, .inl ⟨rfl, rfl⟩⟩, fun k hk => ⟨fun e => by subst e; omega, hk.1, by omega⟩, fun k hk => ⟨by omega, by omega⟩, by omega, .inl rfl, fun j v hj => by simp at hj⟩
  exact new_row w 34 1 1 1 #[.slice none 0 0] #[] rfl (by unfold maxLen; decide)
end Go.Proofs.Ytjodhfehfpmfaaa.Iv
