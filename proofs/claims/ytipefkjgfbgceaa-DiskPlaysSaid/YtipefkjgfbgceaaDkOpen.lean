/- What came in, opened: slices of bytes, lists of operations; behind a law that makes memory of its own the arguments read as they did. -/
import Derived.Test.YtipefkjgfbgceaaDkF
import Derived.Lib.SmallJoins
import Derived.Deep.Slices
import Derived.Deep.Fields
import Derived.WideKeyArgs
import Derived.Below
import Derived.ProofKit
import Derived.OpenShut
import Derived.Test.YtipefkjgfbgceaaLawPost
set_option linter.unusedVariables false
namespace Go.Proofs.Ytipefkjgfbgceaa.Dk
open Go.ChangeShapes Go.WideShapes Go.RowKit Go.Deep Fr

theorem list_of {α : Type} (d : α) {Q : Nat → α → Prop} : ∀ {n : Nat}, (∀ i, i < n → ∃ s, Q i s) → ∃ l : List α, l.length = n ∧ ∀ i, i < n → Q i (l[i]?.getD d)
  | 0, _ => ⟨[], rfl, fun i h => by omega⟩
  | n + 1, h => by
    obtain ⟨l, hl, hq⟩ := list_of (n := n) d fun i hi => h i (by omega)
    obtain ⟨s, hs⟩ := h n (by omega)
    refine ⟨l ++ [s], by simp [hl], fun i hi => ?_⟩
    by_cases e : i = n
    · subst e; rw [← hl, List.getElem?_append_right (Nat.le_refl _)]; simpa [hl] using hs
    · rw [List.getElem?_append_left (by omega)]; exact hq i (by omega)
theorem gt_def {α : Type} [Inhabited α] (l : List α) (j : Nat) : l[j]?.getD default = gt l j := rfl
section
variable {H : Type} {enc : TypeId × Value → H} {W : World} {base : Nat} {spare : Nat → Bool} {held : Bool}
theorem by_open {n : Nat} {v : Value} {y : DataW H × List MemPlace} (h : DataW.trod enc Try.prog W base spare held n 30 [v] = some y) :
    ∃ A k c l, v = .slice A k c ∧ BsAt W A k l ∧ (A = none → c = 0) ∧ k ≤ c ∧ c ≤ 9223372036854775807 := by
  rcases open_slice Try.underlying30 h with ⟨hc, _⟩ | ⟨a, len, cap, m, n', D, Pl, hc, _, hl, hm, hmm, _, hi⟩
  · injection hc with hc
    exact ⟨none, 0, 0, [], hc, BsAt.nil _ _, fun _ => rfl, Nat.le_refl _, by omega⟩
  · injection hc with hc
    have hlm : len ≤ m := by rw [hmm]; split <;> omega
    have each : ∀ i, i < len → ∃ c : UInt8, W.cell? (a.add i) = some (.int .u8 (c.toNat : Int)) := fun i hi' => by
      obtain ⟨cs, hcs, ht⟩ := hi i (by omega)
      have e2 : Try.prog.cellsOf 5 = 1 := by kernel_rfl
      rw [e2, Nat.mul_one] at hcs
      obtain ⟨_, hlen, hcell⟩ := World.cells?_some hcs
      obtain ⟨x, rfl⟩ : ∃ x, cs = [x] := by
        match cs, hlen with
        | [x], _ => exact ⟨x, rfl⟩
      obtain ⟨z, hz, _, wz⟩ := DataW.trod_int Try.underlying5 ht
      injection hz with hz; subst hz
      have b := bounds_u8 wz
      refine ⟨UInt8.ofNat z.toNat, ?_⟩
      have := (hcell 0 (by omega))
      rw [show (a.add i).add 0 = a.add i from rfl] at this
      rw [this]
      have e : ((UInt8.ofNat z.toNat).toNat : Int) = z := by
        rw [UInt8.toNat_ofNat']; omega
      rw [e]; rfl
    obtain ⟨l, hll, hall⟩ := list_of (0 : UInt8) each
    refine ⟨some a, len, cap, l, hc, ⟨hll.symm, fun h0 => ?_⟩, (fun h => by cases h), hl, (by unfold maxLen at hm; omega)⟩
    obtain ⟨b, off, spot⟩ := a
    have hs : spot = none := by have := World.cell?_spot (hall 0 h0); simpa [Addr.add] using this
    subst hs
    have hb : b < W.heap.size := by
      have := hall 0 h0
      simp only [Addr.add, if_true] at this
      exact World.block_lt_of_cell? _ _ this
    refine ⟨b, off, rfl, hb, fun j hj => ?_⟩
    have := hall j hj
    rw [addr_off] at this
    rw [this, bv_lt (by omega)]
    rw [List.getElem?_eq_getElem (by omega)]
    rfl
theorem os_open {n : Nat} {v : Value} {y : DataW H × List MemPlace} (h : DataW.trod enc Try.prog W base spare held n 22 [v] = some y) :
    ∃ A k c S, v = .slice A k c ∧ OsAt W A k S ∧ (A = none → c = 0) ∧ k ≤ c ∧ c ≤ 9223372036854775807 := by
  rcases open_slice Try.underlying22 h with ⟨hc, _⟩ | ⟨a, len, cap, m, n', D, Pl, hc, _, hl, hm, hmm, _, hi⟩
  · injection hc with hc
    exact ⟨none, 0, 0, [], hc, OsAt.nil _ _, fun _ => rfl, Nat.le_refl _, by omega⟩
  · injection hc with hc
    have hlm : len ≤ m := by rw [hmm]; split <;> omega
    have each : ∀ i, i < len → ∃ s : OpS, W.cell? (a.add (i * 3)) = some (.int .i64 s.k) ∧ W.cell? ((a.add (i * 3)).add 1) = some (.int .i64 s.n) ∧ W.cell? ((a.add (i * 3)).add 2) = some (.slice s.A s.m s.c) ∧
        BsAt W s.A s.m s.b ∧ s.m ≤ s.c ∧ (s.A = none → s.c = 0) ∧ s.c ≤ 9223372036854775807 ∧ -9223372036854775808 ≤ s.n ∧ s.n ≤ 9223372036854775807 := fun i hi' => by
      obtain ⟨cs, hcs, ht⟩ := hi i (by omega)
      have e2 : Try.prog.cellsOf 34 = 3 := by kernel_rfl
      rw [e2] at hcs
      obtain ⟨_, hlen, hcell⟩ := World.cells?_some hcs
      match cs, hlen, ht, hcell with
      | [u0, u1, u2], _, ht, hcell =>
        obtain ⟨xs, m', rfl, _, hlen2, hxs, hf⟩ := DataW.trod_struct Try.underlying34 ht
        have hC : Try.prog.cellsOf 3 = 1 := by kernel_rfl
        have hD : Try.prog.cellsOf 30 = 1 := by kernel_rfl
        have each2 : ∀ j, j < 3 → ∃ x, xs[j]? = some x := fun j hj => ⟨xs[j]'(by rw [hxs]; exact hj), List.getElem?_eq_getElem _⟩
        obtain ⟨x0, y0⟩ := each2 0 (by decide)
        obtain ⟨x1, y1⟩ := each2 1 (by decide)
        obtain ⟨x2, y2⟩ := each2 2 (by decide)
        have t0 := (hf 0 _ rfl).trans y0
        have t1 := (hf 1 _ rfl).trans y1
        have t2 := (hf 2 _ rfl).trans y2
        change DataW.trod enc Try.prog W base spare held m' 3 (([u0, u1, u2].drop 0).take (Try.prog.cellsOf 3)) = some x0 at t0
        change DataW.trod enc Try.prog W base spare held m' 3 (([u0, u1, u2].drop 1).take (Try.prog.cellsOf 3)) = some x1 at t1
        change DataW.trod enc Try.prog W base spare held m' 30 (([u0, u1, u2].drop 2).take (Try.prog.cellsOf 30)) = some x2 at t2
        rw [hC] at t0 t1
        rw [hD] at t2
        obtain ⟨z0, e0, _, w0⟩ := DataW.trod_int Try.underlying3 t0
        obtain ⟨z1, e1, _, w1⟩ := DataW.trod_int Try.underlying3 t1
        obtain ⟨A, k, c, l, e3, h1, h2, h3, h4⟩ := by_open t2
        injection e0 with e0
        injection e1 with e1
        subst e0; subst e1; subst e3
        obtain ⟨b1, b2⟩ := bounds_i64 w1
        refine ⟨⟨z0, z1, A, k, c, l⟩, ?_, hcell 1 (by omega), hcell 2 (by omega), h1, h3, h2, h4, b1, b2⟩
        have := hcell 0 (by omega)
        rwa [show (a.add (i * 3)).add 0 = a.add (i * 3) from rfl] at this
    obtain ⟨l, hll, hall⟩ := list_of (default : OpS) each
    refine ⟨some a, len, cap, l, hc, ⟨hll.symm, fun h0 => ?_⟩, (fun h => by cases h), hl, (by unfold maxLen at hm; omega)⟩
    obtain ⟨b, off, spot⟩ := a
    have hs : spot = none := by have := World.cell?_spot (hall 0 h0).1; simpa [Addr.add] using this
    subst hs
    have hb : b < W.heap.size := by
      have := (hall 0 h0).1
      simp only [Nat.zero_mul, Addr.add, if_true] at this
      exact World.block_lt_of_cell? _ _ this
    refine ⟨b, off, rfl, hb, fun j hj => ?_⟩
    obtain ⟨c0, c1, c2, r⟩ := hall j hj
    rw [addr_off] at c0 c1 c2
    rw [addr_off] at c1 c2
    exact ⟨c0, c1, c2, r⟩
end
theorem cells_slice {P : Program} {w : World} {r : Reach} {base : Nat} {t e : TypeId} {v : Value} (ht : P.underlying t = some (.slice e)) (h : Value.okWide P w r base t v) : v.cells.toList = [v] := by
  obtain ⟨a, n, c, rfl⟩ := okWide_slice ht h; rfl
section
variable {H : Type} {enc : TypeId × Value → H} {P : Program}
theorem args_stay (hl : laidOutB P = true) {W W' : World} {sp : Nat → Bool} (hb : Below W.heap.size W W') : ∀ {ts : List TypeId} {vs : List Value} {ds : List (DataW H)} {ps : List MemPlace}, (∀ t ∈ ts, P.readableRec t = true ∧ t < P.types.size) →
    DataW.TrodAll enc P W 0 (fun _ => true) true ts vs ds ps → (∀ p ∈ ps, p.block < W.heap.size) → (∀ p ∈ ps, sp p.block = true) → DataW.TrodAll enc P W' 0 sp true ts vs ds ps
  | [], [], [], _, _, h, _, _ => h
  | t :: _, _ :: _, _ :: _, _, ht, ⟨p, q, h1, h2, e⟩, hlt, hs => by
    subst e
    obtain ⟨hr, hrow⟩ := ht t (List.mem_cons_self ..)
    refine ⟨p, q, Go.WideElems.Trod_stays hl hr hrow h1 (fun x hx => ?_) (fun x hx => hs x (List.mem_append_left _ hx)), args_stay hl hb (fun u hu => ht u (List.mem_cons_of_mem _ hu)) h2 (fun x hx => hlt x (List.mem_append_right _ hx)) (fun x hx => hs x (List.mem_append_right _ hx)), rfl⟩
    have := hlt x (List.mem_append_left _ hx)
    cases x with
    | cell b off => exact hb.cell (p := ⟨b, off, none⟩) this
    | map b => exact hb.block b this
end
end Go.Proofs.Ytipefkjgfbgceaa.Dk
