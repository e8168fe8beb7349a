/- Spans that came in, opened; behind a law that makes memory of its own the arguments read as they did. -/
import Derived.Test.YtjodhfehfpmfaaaIvMem
import Derived.Lib.SmallJoins
import Derived.Deep.Slices
import Derived.Deep.Fields
import Derived.WideKeyArgs
import Derived.Below
import Derived.ProofKit
import Derived.Test.YtjodhfehfpmfaaaLawPost
set_option linter.unusedVariables false
namespace Go.Proofs.Ytjodhfehfpmfaaa.Iv
open Go.ChangeShapes Go.WideShapes Go.RowKit Go.Deep

theorem addr_add' (b off n : Nat) : (⟨b, off, none⟩ : Addr).add n = ⟨b, off + n, none⟩ := by
  unfold Addr.add; split
  · rename_i h; rw [h]; rfl
  · rfl
section
variable {H : Type} {enc : TypeId × Value → H} {P : Program} {W : World} {base : Nat} {spare : Nat → Bool} {held : Bool}
/-- the cells of a struct whose fields are ints are ints -/
theorem ints_of {e : TypeId} {fs : Array Field} {n : Nat} {cs : List Value} {x : DataW H × List MemPlace} (he : P.underlying e = some (.struct fs)) (hone : oneCellFields P fs = true) (hC : P.cellsOf e = fs.size)
    (hint : ∀ (j : Nat) (f : Field), fs[j]? = some f → P.underlying f.type = some (.int .i64)) (h : DataW.trod enc P W base spare held n e cs = some x) : ∀ j, j < fs.size → ∃ z : Int, cs[j]? = some (.int .i64 z) := by
  intro j hj
  obtain ⟨xs, m, rfl, _, hlen, hxs, hf⟩ := DataW.trod_struct he h
  have hfj : fs[j]? = some fs[j] := Array.getElem?_eq_getElem hj
  obtain ⟨ho, hk⟩ := hone_of hone j _ hfj
  have hjc : j < cs.length := by rw [hlen, hC]; exact hj
  have ht := hf j _ hfj
  rw [ho, hk, List.drop_eq_getElem_cons hjc, List.take_succ_cons, List.take_zero, List.getElem?_eq_getElem (by omega)] at ht
  obtain ⟨z, hz, _⟩ := DataW.trod_int (hint j _ hfj) ht
  refine ⟨z, ?_⟩
  rw [List.getElem?_eq_getElem hjc]
  injection hz with hz
  rw [hz]
theorem list_of {α : Type} (d : α) {Q : Nat → α → Prop} : ∀ {n : Nat}, (∀ i, i < n → ∃ s, Q i s) → ∃ l : List α, l.length = n ∧ ∀ i, i < n → Q i (l[i]?.getD d)
  | 0, _ => ⟨[], rfl, fun i h => by omega⟩
  | n + 1, h => by
    obtain ⟨l, hl, hq⟩ := list_of (n := n) d fun i hi => h i (by omega)
    obtain ⟨s, hs⟩ := h n (by omega)
    refine ⟨l ++ [s], by simp [hl], fun i hi => ?_⟩
    by_cases e : i = n
    · subst e; rw [← hl, List.getElem?_append_right (Nat.le_refl _)]; simpa [hl] using hs
    · rw [List.getElem?_append_left (by omega)]; exact hq i (by omega)
end
section
variable {H : Type} {enc : TypeId × Value → H} {W : World} {base : Nat} {spare : Nat → Bool} {held : Bool}
theorem sp_open {n : Nat} {v : Value} {y : DataW H × List MemPlace} (h : DataW.trod enc Try.prog W base spare held n 22 [v] = some y) :
    ∃ A k c l, v = .slice A k c ∧ SpAt W A k l ∧ (A = none → c = 0) ∧ k ≤ 9223372036854775807 := by
  rcases open_slice Try.underlying22 h with ⟨hc, _⟩ | ⟨a, len, cap, m, n', D, Pl, hc, _, hl, hm, hmm, _, hi⟩
  · injection hc with hc
    exact ⟨none, 0, 0, [], hc, SpAt.nil _ _, fun _ => rfl, by omega⟩
  · injection hc with hc
    have hlm : len ≤ m := by rw [hmm]; split <;> omega
    have each : ∀ i, i < len → ∃ s : Int × Int, W.cell? (a.add (i * 2)) = some (.int .i64 s.1) ∧ W.cell? ((a.add (i * 2)).add 1) = some (.int .i64 s.2) := fun i hi' => by
      obtain ⟨cs, hcs, ht⟩ := hi i (by omega)
      have e2 : Try.prog.cellsOf 40 = 2 := by kernel_rfl
      rw [e2] at hcs
      obtain ⟨_, hlen, hcell⟩ := World.cells?_some hcs
      have hz := ints_of Try.underlying40 (by kernel_rfl) (by kernel_rfl) (fun j f hj => by
        match j, hj with
        | 0, hj => cases hj; exact Try.underlying3
        | 1, hj => cases hj; exact Try.underlying3) ht
      obtain ⟨t, h0⟩ := hz 0 (by decide)
      obtain ⟨o, h1⟩ := hz 1 (by decide)
      refine ⟨(t, o), ?_, (hcell 1 (by omega)).trans h1⟩
      have := (hcell 0 (by omega)).trans h0
      rwa [show (a.add (i * 2)).add 0 = a.add (i * 2) from rfl] at this
    obtain ⟨l, hll, hall⟩ := list_of ((0, 0) : Int × Int) each
    refine ⟨some a, len, cap, l, hc, ⟨hll.symm, fun h0 => ?_⟩, (fun h => by cases h), (by unfold maxLen at hm; omega)⟩
    obtain ⟨b, off, spot⟩ := a
    have hs : spot = none := by have := World.cell?_spot (hall 0 h0).1; simpa [Addr.add] using this
    subst hs
    have hb : b < W.heap.size := by
      have := (hall 0 h0).1
      simp only [Nat.zero_mul, Addr.add, if_true] at this
      exact World.block_lt_of_cell? _ _ this
    refine ⟨b, off, rfl, hb, fun j hj => ?_⟩
    obtain ⟨c0, c1⟩ := hall j hj
    rw [addr_add'] at c0 c1
    rw [addr_add'] at c1
    exact ⟨c0, c1⟩
end
theorem sp_zero {W : World} {A : Option Addr} {n : Nat} {l : List (Int × Int)} (h : SpAt W A n l) : A = none → n = 0 := fun e => by
  rcases Nat.eq_zero_or_pos n with q | q
  · exact q
  · obtain ⟨b, o, z, -⟩ := h.2 q
    rw [e] at z; cases z
theorem cells_slice {P : Program} {w : World} {r : Reach} {base : Nat} {t e : TypeId} {v : Value} (ht : P.underlying t = some (.slice e)) (h : Value.okWide P w r base t v) : v.cells.toList = [v] := by
  obtain ⟨a, n, c, rfl⟩ := okWide_slice ht h; rfl
section
variable {H : Type} {enc : TypeId × Value → H} {P : Program}
theorem args_stay (hl : laidOutB P = true) {W W' : World} {sp : Nat → Bool} (hb : Below W.heap.size W W') : ∀ {ts : List TypeId} {vs : List Value} {ds : List (DataW H)} {ps : List MemPlace}, (∀ t ∈ ts, P.readableRec t = true ∧ t < P.types.size) →
    DataW.TrodAll enc P W 0 (fun _ => true) true ts vs ds ps → (∀ p ∈ ps, p.block < W.heap.size) → (∀ p ∈ ps, sp p.block = true) → DataW.TrodAll enc P W' 0 sp true ts vs ds ps
  | [], [], [], _, _, h, _, _ => h
  | t :: _, _ :: _, _ :: _, _, ht, ⟨p, q, h1, h2, e⟩, hlt, hs => by
    subst e
    obtain ⟨hr, hrow⟩ := ht t (List.mem_cons_self ..)
    refine ⟨p, q, Go.WideElems.Trod_stays hl hr hrow h1 (fun x hx => ?_) (fun x hx => hs x (List.mem_append_left _ hx)), args_stay hl hb (fun u hu => ht u (List.mem_cons_of_mem _ hu)) h2 (fun x hx => hlt x (List.mem_append_right _ hx)) (fun x hx => hs x (List.mem_append_right _ hx)), rfl⟩
    have := hlt x (List.mem_append_left _ hx)
    cases x with
    | cell b off => exact hb.cell (p := ⟨b, off, none⟩) this
    | map b => exact hb.block b this
end
end Go.Proofs.Ytjodhfehfpmfaaa.Iv
