/- What came in, opened: slices of bytes and lists of them; behind a law that makes memory of its own the arguments read as they did; the table off the row. -/
import Derived.Test.YtniphbfoppocfaaDoorFrG
import Derived.Lib.SmallJoins
import Derived.Deep.Slices
import Derived.Deep.Fields
import Derived.WideKeyArgs
import Derived.Below
import Derived.ProofKit
import Derived.Test.YtniphbfoppocfaaDoorLawPost
set_option linter.unusedVariables false
namespace Go.Proofs.YtniphbfoppocfaaDoor.Fr
open Go.ChangeShapes Go.WideShapes Go.RowKit Go.Deep

theorem list_of {α : Type} (d : α) {Q : Nat → α → Prop} : ∀ {n : Nat}, (∀ i, i < n → ∃ s, Q i s) → ∃ l : List α, l.length = n ∧ ∀ i, i < n → Q i (l[i]?.getD d)
  | 0, _ => ⟨[], rfl, fun i h => by omega⟩
  | n + 1, h => by
    obtain ⟨l, hl, hq⟩ := list_of (n := n) d fun i hi => h i (by omega)
    obtain ⟨s, hs⟩ := h n (by omega)
    refine ⟨l ++ [s], by simp [hl], fun i hi => ?_⟩
    by_cases e : i = n
    · subst e; rw [← hl, List.getElem?_append_right (Nat.le_refl _)]; simpa [hl] using hs
    · rw [List.getElem?_append_left (by omega)]; exact hq i (by omega)
theorem gt_def {α : Type} [Inhabited α] (l : List α) (j : Nat) : l[j]?.getD default = gt l j := rfl
section
variable {H : Type} {enc : TypeId × Value → H} {W : World} {base : Nat} {spare : Nat → Bool} {held : Bool}
theorem by_open {n : Nat} {v : Value} {y : DataW H × List MemPlace} (h : DataW.trod enc Tryd.prog W base spare held n 22 [v] = some y) :
    ∃ A k c l, v = .slice A k c ∧ BsAt W A k l ∧ (A = none → c = 0) ∧ k ≤ c ∧ c ≤ 9223372036854775807 := by
  rcases open_slice Tryd.underlying22 h with ⟨hc, _⟩ | ⟨a, len, cap, m, n', D, Pl, hc, _, hl, hm, hmm, _, hi⟩
  · injection hc with hc
    exact ⟨none, 0, 0, [], hc, BsAt.nil _ _, fun _ => rfl, Nat.le_refl _, by omega⟩
  · injection hc with hc
    have hlm : len ≤ m := by rw [hmm]; split <;> omega
    have each : ∀ i, i < len → ∃ c : UInt8, W.cell? (a.add i) = some (.int .u8 (c.toNat : Int)) := fun i hi' => by
      obtain ⟨cs, hcs, ht⟩ := hi i (by omega)
      have e2 : Tryd.prog.cellsOf 5 = 1 := by kernel_rfl
      rw [e2, Nat.mul_one] at hcs
      obtain ⟨_, hlen, hcell⟩ := World.cells?_some hcs
      obtain ⟨x, rfl⟩ : ∃ x, cs = [x] := by
        match cs, hlen with
        | [x], _ => exact ⟨x, rfl⟩
      obtain ⟨z, hz, _, wz⟩ := DataW.trod_int Tryd.underlying5 ht
      injection hz with hz; subst hz
      have b := bounds_u8 wz
      refine ⟨UInt8.ofNat z.toNat, ?_⟩
      have := (hcell 0 (by omega))
      rw [show (a.add i).add 0 = a.add i from rfl] at this
      rw [this]
      have e : ((UInt8.ofNat z.toNat).toNat : Int) = z := by
        rw [UInt8.toNat_ofNat']; omega
      rw [e]; rfl
    obtain ⟨l, hll, hall⟩ := list_of (0 : UInt8) each
    refine ⟨some a, len, cap, l, hc, ⟨hll.symm, fun h0 => ?_⟩, (fun h => by cases h), hl, (by unfold maxLen at hm; omega)⟩
    obtain ⟨b, off, spot⟩ := a
    have hs : spot = none := by have := World.cell?_spot (hall 0 h0); simpa [Addr.add] using this
    subst hs
    have hb : b < W.heap.size := by
      have := hall 0 h0
      simp only [Addr.add, if_true] at this
      exact World.block_lt_of_cell? _ _ this
    refine ⟨b, off, rfl, hb, fun j hj => ?_⟩
    have := hall j hj
    rw [addr_off] at this
    rw [this, bv_lt (by omega)]
    rw [List.getElem?_eq_getElem (by omega)]
    rfl
theorem ls_open {n : Nat} {v : Value} {y : DataW H × List MemPlace} (h : DataW.trod enc Tryd.prog W base spare held n 40 [v] = some y) :
    ∃ A k c S, v = .slice A k c ∧ LsAt W A k S ∧ (A = none → c = 0) ∧ k ≤ c ∧ c ≤ 9223372036854775807 ∧ ∀ s ∈ S, s.c ≤ 9223372036854775807 := by
  rcases open_slice Tryd.underlying40 h with ⟨hc, _⟩ | ⟨a, len, cap, m, n', D, Pl, hc, _, hl, hm, hmm, _, hi⟩
  · injection hc with hc
    exact ⟨none, 0, 0, [], hc, LsAt.nil _ _, fun _ => rfl, Nat.le_refl _, by omega, fun s hs => by cases hs⟩
  · injection hc with hc
    have hlm : len ≤ m := by rw [hmm]; split <;> omega
    have each : ∀ i, i < len → ∃ s : SlB, W.cell? (a.add (i * 1)) = some s.val ∧ BsAt W s.A s.k s.l ∧ s.k ≤ s.c ∧ (s.A = none → s.c = 0) ∧ s.c ≤ 9223372036854775807 := fun i hi' => by
      obtain ⟨cs, hcs, ht⟩ := hi i (by omega)
      have e2 : Tryd.prog.cellsOf 22 = 1 := by kernel_rfl
      rw [e2] at hcs
      obtain ⟨_, hlen, hcell⟩ := World.cells?_some hcs
      match cs, hlen, ht, hcell with
      | [u], _, ht, hcell =>
        obtain ⟨A, k, c, l, rfl, h1, h2, h3, h4⟩ := by_open ht
        refine ⟨⟨A, k, c, l⟩, ?_, h1, h3, h2, h4⟩
        have := hcell 0 (by omega)
        rwa [show (a.add (i * 1)).add 0 = a.add (i * 1) from rfl] at this
    obtain ⟨l, hll, hall⟩ := list_of (default : SlB) each
    refine ⟨some a, len, cap, l, hc, ⟨hll.symm, fun h0 => ?_⟩, (fun h => by cases h), hl, (by unfold maxLen at hm; omega), fun s hs => ?_⟩
    · obtain ⟨b, off, spot⟩ := a
      have hs : spot = none := by have := World.cell?_spot (hall 0 h0).1; simpa [Addr.add] using this
      subst hs
      have hb : b < W.heap.size := by
        have := (hall 0 h0).1
        simp only [Nat.zero_mul, Addr.add, if_true] at this
        exact World.block_lt_of_cell? _ _ this
      refine ⟨b, off, rfl, hb, fun j hj => ?_⟩
      obtain ⟨c0, c1, c2, c3, -⟩ := hall j hj
      rw [addr_off, Nat.mul_one] at c0
      exact ⟨c0, c1, c2, c3⟩
    · obtain ⟨j, hj, e⟩ := List.mem_iff_getElem.1 hs
      have := hall j (by omega)
      rw [List.getElem?_eq_getElem hj, Option.getD_some, e] at this
      exact this.2.2.2.2
end
theorem cells_slice {P : Program} {w : World} {r : Reach} {base : Nat} {t e : TypeId} {v : Value} (ht : P.underlying t = some (.slice e)) (h : Value.okWide P w r base t v) : v.cells.toList = [v] := by
  obtain ⟨a, n, c, rfl⟩ := okWide_slice ht h; rfl
section
variable {H : Type} {enc : TypeId × Value → H} {P : Program}
theorem args_stay (hl : laidOutB P = true) {W W' : World} {sp : Nat → Bool} (hb : Below W.heap.size W W') : ∀ {ts : List TypeId} {vs : List Value} {ds : List (DataW H)} {ps : List MemPlace}, (∀ t ∈ ts, P.readableRec t = true ∧ t < P.types.size) →
    DataW.TrodAll enc P W 0 (fun _ => true) true ts vs ds ps → (∀ p ∈ ps, p.block < W.heap.size) → (∀ p ∈ ps, sp p.block = true) → DataW.TrodAll enc P W' 0 sp true ts vs ds ps
  | [], [], [], _, _, h, _, _ => h
  | t :: _, _ :: _, _ :: _, _, ht, ⟨p, q, h1, h2, e⟩, hlt, hs => by
    subst e
    obtain ⟨hr, hrow⟩ := ht t (List.mem_cons_self ..)
    refine ⟨p, q, Go.WideElems.Trod_stays hl hr hrow h1 (fun x hx => ?_) (fun x hx => hs x (List.mem_append_left _ hx)), args_stay hl hb (fun u hu => ht u (List.mem_cons_of_mem _ hu)) h2 (fun x hx => hlt x (List.mem_append_right _ hx)) (fun x hx => hs x (List.mem_append_right _ hx)), rfl⟩
    have := hlt x (List.mem_append_left _ hx)
    cases x with
    | cell b off => exact hb.cell (p := ⟨b, off, none⟩) this
    | map b => exact hb.block b this
end
theorem tab_is {W : World} (h : Lib.TabIs Tryd.prog W "convoker/frame.rests" .u32 (tabT.map (fun n : Nat => (n : Int)))) : Tab W := by
  have c := fun k (hk : k < 16) => h.cell gRests k (by simpa [tabT] using hk)
  refine ⟨World.block_lt_of_cell? _ _ (c 0 (by decide)), fun k hk => ?_⟩
  rw [c k hk, List.getD_eq_getElem?_getD, List.getElem?_map, List.getD_eq_getElem?_getD, List.getElem?_eq_getElem (show k < tabT.length from hk)]
  rfl
end Go.Proofs.YtniphbfoppocfaaDoor.Fr
