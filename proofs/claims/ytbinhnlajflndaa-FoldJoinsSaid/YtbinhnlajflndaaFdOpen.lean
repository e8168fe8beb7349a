/- Slices of bytes and of strings that came in, opened as lists; and behind a law that makes memory of its own the arguments read as they did. -/
import Derived.Test.YtbinhnlajflndaaFdMem
import Derived.Test.YtbinhnlajflndaaLawPost
import Derived.Lib.SmallJoins
import Derived.Deep.Slices
import Derived.Deep.Fields
import Derived.WideKeyArgs
import Derived.Below
import Derived.ProofKit
set_option linter.unusedVariables false
namespace Go.Proofs.Ytbinhnlajflndaa.Fd
open Go.ChangeShapes Go.WideShapes Go.RowKit Go.Deep Cv St

theorem addr_plus (b off n : Nat) : (⟨b, off, none⟩ : Addr).add n = ⟨b, off + n, none⟩ := by
  unfold Addr.add; split
  · rename_i h; rw [h]; rfl
  · rfl
theorem list_of {α : Type} (d : α) {Q : Nat → α → Prop} : ∀ {n : Nat}, (∀ i, i < n → ∃ s, Q i s) → ∃ l : List α, l.length = n ∧ ∀ i, i < n → Q i (l.getD i d)
  | 0, _ => ⟨[], rfl, fun i h => by omega⟩
  | n + 1, h => by
    obtain ⟨l, hl, hq⟩ := list_of (n := n) d fun i hi => h i (by omega)
    obtain ⟨s, hs⟩ := h n (by omega)
    refine ⟨l ++ [s], by simp [hl], fun i hi => ?_⟩
    rw [List.getD_eq_getElem?_getD]
    by_cases e : i = n
    · subst e; rw [← hl, List.getElem?_append_right (Nat.le_refl _)]; simpa [hl] using hs
    · rw [List.getElem?_append_left (by omega), ← List.getD_eq_getElem?_getD]; exact hq i (by omega)
section
variable {H : Type} {enc : TypeId × Value → H} {W : World} {base : Nat} {spare : Nat → Bool} {held : Bool}
theorem bs_open {n : Nat} {v : Value} {y : DataW H × List MemPlace} (h : DataW.trod enc Try.prog W base spare held n 38 [v] = some y) :
    ∃ A k c l, v = .slice A k c ∧ BsAt W A k l ∧ k ≤ c ∧ (A = none → c = 0) ∧ k ≤ 9223372036854775807 := by
  rcases open_slice Try.underlying38 h with ⟨hc, _⟩ | ⟨a, len, cap, m, n', D, Pl, hc, _, hl, hm, hmm, _, hi⟩
  · injection hc with hc
    exact ⟨none, 0, 0, [], hc, BsAt.nil _ _, Nat.le_refl _, fun _ => rfl, by omega⟩
  · injection hc with hc
    have hlm : len ≤ m := by rw [hmm]; split <;> omega
    have each : ∀ i, i < len → ∃ c : UInt8, W.cell? (a.add i) = some (.int .u8 (c.toNat : Int)) := fun i hi' => by
      obtain ⟨cs, hcs, ht⟩ := hi i (by omega)
      have e2 : Try.prog.cellsOf 5 = 1 := by kernel_rfl
      rw [e2, Nat.mul_one] at hcs
      obtain ⟨_, hlen, hcell⟩ := World.cells?_some hcs
      obtain ⟨x, rfl⟩ : ∃ x, cs = [x] := by
        match cs, hlen with
        | [x], _ => exact ⟨x, rfl⟩
      obtain ⟨z, hz, _, wz⟩ := DataW.trod_int Try.underlying5 ht
      injection hz with hz; subst hz
      have b := bounds_u8 wz
      refine ⟨UInt8.ofNat z.toNat, ?_⟩
      have := (hcell 0 (by omega))
      rw [show (a.add i).add 0 = a.add i from rfl] at this
      rw [this]
      have e : ((UInt8.ofNat z.toNat).toNat : Int) = z := by
        rw [UInt8.toNat_ofNat']; omega
      rw [e]; rfl
    obtain ⟨l, hll, hall⟩ := list_of (0 : UInt8) each
    refine ⟨some a, len, cap, l, hc, ⟨hll.symm, fun h0 => ?_⟩, hl, (fun h => by cases h), (by unfold maxLen at hm; omega)⟩
    obtain ⟨b, off, spot⟩ := a
    have hs : spot = none := by have := World.cell?_spot (hall 0 h0); simpa [Addr.add] using this
    subst hs
    have hb : b < W.heap.size := by
      have := hall 0 h0
      simp only [Addr.add, if_true] at this
      exact World.block_lt_of_cell? _ _ this
    refine ⟨b, off, rfl, hb, fun j hj => ?_⟩
    have := hall j hj
    rw [addr_plus] at this
    exact this
theorem ss_open {n : Nat} {v : Value} {y : DataW H × List MemPlace} (h : DataW.trod enc Try.prog W base spare held n 36 [v] = some y) :
    ∃ A k c l, v = .slice A k c ∧ SsAt W A k l ∧ (A = none → c = 0) ∧ k ≤ 9223372036854775807 ∧ ∀ j, (sat l j).size ≤ maxLen := by
  rcases open_slice Try.underlying36 h with ⟨hc, _⟩ | ⟨a, len, cap, m, n', D, Pl, hc, _, hl, hm, hmm, _, hi⟩
  · injection hc with hc
    exact ⟨none, 0, 0, [], hc, SsAt.nil _ _, fun _ => rfl, by omega, fun j => by unfold sat maxLen; simp; decide⟩
  · injection hc with hc
    have hlm : len ≤ m := by rw [hmm]; split <;> omega
    have each : ∀ i, i < len → ∃ c : ByteArray, W.cell? (a.add i) = some (.string c) ∧ c.size ≤ maxLen := fun i hi' => by
      obtain ⟨cs, hcs, ht⟩ := hi i (by omega)
      have e2 : Try.prog.cellsOf 9 = 1 := by kernel_rfl
      rw [e2, Nat.mul_one] at hcs
      obtain ⟨_, hlen, hcell⟩ := World.cells?_some hcs
      obtain ⟨x, rfl⟩ : ∃ x, cs = [x] := by
        match cs, hlen with
        | [x], _ => exact ⟨x, rfl⟩
      obtain ⟨z, hz, _, wz⟩ := DataW.trod_string Try.underlying9 ht
      injection hz with hz; subst hz
      refine ⟨z, ?_, wz⟩
      have := (hcell 0 (by omega))
      rw [show (a.add i).add 0 = a.add i from rfl] at this
      exact this
    obtain ⟨l, hll, hall⟩ := list_of (⟨#[]⟩ : ByteArray) each
    have sz : ∀ j, (sat l j).size ≤ maxLen := fun j => by
      by_cases hj : j < len
      · exact (hall j hj).2
      · have : sat l j = ⟨#[]⟩ := by unfold sat; rw [List.getD_eq_getElem?_getD, List.getElem?_eq_none (by omega)]; rfl
        rw [this]; decide
    refine ⟨some a, len, cap, l, hc, ⟨hll.symm, fun h0 => ?_⟩, (fun h => by cases h), (by unfold maxLen at hm; omega), sz⟩
    obtain ⟨b, off, spot⟩ := a
    have hs : spot = none := by have := World.cell?_spot (hall 0 h0).1; simpa [Addr.add] using this
    subst hs
    have hb : b < W.heap.size := by
      have := (hall 0 h0).1
      simp only [Addr.add, if_true] at this
      exact World.block_lt_of_cell? _ _ this
    refine ⟨b, off, rfl, hb, fun j hj => ?_⟩
    have := (hall j hj).1
    rw [addr_plus] at this
    exact this
end
theorem cells_slice {P : Program} {w : World} {r : Reach} {base : Nat} {t e : TypeId} {v : Value} (ht : P.underlying t = some (.slice e)) (h : Value.okWide P w r base t v) : v.cells.toList = [v] := by
  obtain ⟨a, n, c, rfl⟩ := okWide_slice ht h; rfl
section
variable {H : Type} {enc : TypeId × Value → H} {P : Program}
theorem args_stay (hl : laidOutB P = true) {W W' : World} {sp : Nat → Bool} (hb : Below W.heap.size W W') : ∀ {ts : List TypeId} {vs : List Value} {ds : List (DataW H)} {ps : List MemPlace}, (∀ t ∈ ts, P.readableRec t = true ∧ t < P.types.size) →
    DataW.TrodAll enc P W 0 (fun _ => true) true ts vs ds ps → (∀ p ∈ ps, p.block < W.heap.size) → (∀ p ∈ ps, sp p.block = true) → DataW.TrodAll enc P W' 0 sp true ts vs ds ps
  | [], [], [], _, _, h, _, _ => h
  | t :: _, _ :: _, _ :: _, _, ht, ⟨p, q, h1, h2, e⟩, hlt, hs => by
    subst e
    obtain ⟨hr, hrow⟩ := ht t (List.mem_cons_self ..)
    refine ⟨p, q, Go.WideElems.Trod_stays hl hr hrow h1 (fun x hx => ?_) (fun x hx => hs x (List.mem_append_left _ hx)), args_stay hl hb (fun u hu => ht u (List.mem_cons_of_mem _ hu)) h2 (fun x hx => hlt x (List.mem_append_right _ hx)) (fun x hx => hs x (List.mem_append_right _ hx)), rfl⟩
    have := hlt x (List.mem_append_left _ hx)
    cases x with
    | cell b off => exact hb.cell (p := ⟨b, off, none⟩) this
    | map b => exact hb.block b this
end
end Go.Proofs.Ytbinhnlajflndaa.Fd
