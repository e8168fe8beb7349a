/- Appending spans that lie in memory to spans of one's own. -/
import Derived.Test.YtjodhfehfpmfaaaIvFi
set_option linter.unusedVariables false
namespace Go.Proofs.Ytjodhfehfpmfaaa.Iv
open Go.RowKit

theorem sp_cells {w : World} {a : Addr} {m : Nat} {l : List (Int × Int)} (h : SpAt w (some a) m l) (j : Nat) (u : Value) (hj : (cellsL encS l)[j]? = some u) : w.cell? (a.add j) = some u := by
  have e := h.1
  have hj2 : j < l.length * 2 := by have := (List.getElem?_eq_some_iff.1 hj).1; rwa [cells_len (k := 2) (fun _ => rfl)] at this
  obtain ⟨b', off, ea, hb, hc⟩ := h.2 (by omega)
  injection ea with ea
  subst ea
  have a := cells_get (enc := encS) (k := 2) (fun _ => rfl) l (j / 2) (j % 2) (by omega) (by omega)
  rw [show j / 2 * 2 + j % 2 = j by omega, hj] at a
  obtain ⟨c0, c1⟩ := hc (j / 2) (by omega)
  rw [addr_off]
  rcases (by omega : j % 2 = 0 ∨ j % 2 = 1) with q | q
  · rw [q] at a
    rw [show off + j = off + j / 2 * 2 by omega, c0]
    exact a.symm
  · rw [q] at a
    rw [show off + j = off + j / 2 * 2 + 1 by omega, c1]
    exact a.symm
theorem append_sps {ops : Array Oper} {rest : List Oper} {o : Oper} {a : Act} {Q : Exit → Act → World → Prop} {B : Nat} {w : World} (hgd : o.guard = none) (s x : Operand)
    (ho : o.op = .call { callee := .builtin .append, args := #[s, x], argTypes := #[22, 22] })
    (v : Value) (l : List (Int × Int)) (hs : a.eval s = v) (hown : OwnP B w v l) (hB : B ≤ w.heap.size) (ad : Addr) (m c : Nat) (l2 : List (Int × Int)) (h2 : SpAt w (some ad) m l2)
    (hx : a.eval x = .slice (some ad) m c) (hl : l.length + m ≤ 1000000)
    (h : ∀ v' w', OwnP B w' v' (l ++ l2) → Below B w w' → wpList Try.prog ops Q rest (a.put o.dst v') w') : wpList Try.prog ops Q (o :: rest) a w := by
  obtain ⟨i0, hi, hz0, hz1, hz2⟩ := info_parts info_sp
  have e2 := h2.1
  refine wpList_append_own _ hgd s x 22 ho B 40 i0 _ 2 16 Try.underlying22 hi hz0 hz1 hz2 rfl (by decide) v l.length (cellsL encS l) hs hown
    ad m c (cellsL encS l2) hx (by rw [cells_len (k := 2) (fun _ => rfl), e2]) (sp_cells h2) (cells_one encS_one l2) (by unfold maxLen; omega) (by omega) hB ?_
  intro v' w' hown' hg _
  refine h v' w' ?_ ((Below.refl _ _).grown hg hB fun _ hk => (World.ownsRow.lt hown _ hk).1)
  unfold OwnP
  rw [List.length_append, cells_app, ← e2]
  exact hown'
/-- a row of none, new -/
theorem own_empty (w : World) (B : Nat) (hB : B ≤ w.heap.size) : OwnP B (w.alloc (.cells #[] 40)) (.slice (some ⟨w.heap.size, 0, none⟩) 0 0) [] :=
  own_of (n := 0) (new_row w 40 2 0 0 #[] #[] rfl (by unfold maxLen; decide)) rfl (Nat.le_refl _) hB
theorem own_new {w : World} {A : Option Addr} {r : List (Int × Int)} (h : 0 < r.length → ∃ g, A = some ⟨g, 0, none⟩ ∧ w.heap.size ≤ g) : A = none → r.length = 0 := fun e => by
  rcases Nat.eq_zero_or_pos r.length with q | q
  · exact q
  · obtain ⟨g, z, -⟩ := h q
    rw [e] at z; cases z
end Go.Proofs.Ytjodhfehfpmfaaa.Iv
