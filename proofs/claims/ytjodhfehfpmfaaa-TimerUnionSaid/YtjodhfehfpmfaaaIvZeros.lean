/- append of so many zeros behind a row of spans with owners. -/
import Derived.Test.YtjodhfehfpmfaaaIvSet2
import Derived.Lib.AppendZerosOnto
import Derived.Deep.RegionLaw
set_option linter.unusedVariables false
namespace Go.Proofs.Ytjodhfehfpmfaaa.Iv
open Go.RowKit

def zeroT : Tg := ((0, 0), 0)
theorem info_tg : (Try.prog.info? 42).map (fun i => (i.zero, i.size, i.bytes)) = some (some (.agg #[.int .i64 0, .int .i64 0, .int .i64 0]), 3, 24) := by kernel_rfl
theorem zeros_cells : ∀ k : Nat, (Builtin.zeroCells (Value.cells (.agg #[.int .i64 0, .int .i64 0, .int .i64 0])) k).toList = cellsL encT (List.replicate k zeroT) := fun k => by
  refine List.ext_getElem? fun j => ?_
  by_cases h : j < k * 3
  · have a := cells_get (enc := encT) (k := 3) (fun _ => rfl) (List.replicate k zeroT) (j / 3) (j % 3) (by rw [List.length_replicate]; omega) (by omega)
    rw [show j / 3 * 3 + j % 3 = j by omega] at a
    have g : gt (List.replicate k zeroT) (j / 3) = zeroT := by rw [gt_lt (by rw [List.length_replicate]; omega), List.getElem_replicate]
    rw [a, g]
    unfold Builtin.zeroCells
    have e : (Value.cells (.agg #[.int .i64 0, .int .i64 0, .int .i64 0])).size = 3 := rfl
    rw [e]
    have hz : ((Array.range (k * 3)).map fun i => (Value.cells (.agg #[.int .i64 0, .int .i64 0, .int .i64 0]))[i % 3]!).toList[j]? = some ((Value.cells (.agg #[.int .i64 0, .int .i64 0, .int .i64 0]))[j % 3]!) := by
      simp [h]
    rw [hz]
    rcases (by omega : j % 3 = 0 ∨ j % 3 = 1 ∨ j % 3 = 2) with q | q | q <;> rw [q] <;> rfl
  · rw [List.getElem?_eq_none (by rw [Array.length_toList, size_zeroCells]; show k * 3 ≤ j; omega), List.getElem?_eq_none (by rw [cells_len (k := 3) (fun _ => rfl), List.length_replicate]; omega)]
theorem new_row (w : World) (e : TypeId) (size n cap : Nat) (xs rest : Array Value) (hs : (xs ++ rest).size = cap * size) (hc : cap ≤ maxLen) : RowIs (w.alloc (.cells (xs ++ rest) e)) w.heap.size e size cap xs.toList :=
  ⟨⟨_, heap_alloc_new w _, hs, by rw [Array.toList_append]; simp⟩, hc⟩
/-- what an append of k zeros leaves -/
structure Zeroed (w : World) (A : Option Addr) (all : List Tg) (k : Nat) (v' : Value) (w' : World) (g c : Nat) : Prop where
  val : v' = .slice (some ⟨g, 0, none⟩) (all.length + k) c
  row : RowIs w' g 42 3 c (cellsL encT (all ++ List.replicate k zeroT))
  cap : all.length + k ≤ c
  whose : A = some ⟨g, 0, none⟩ ∨ w.heap.size ≤ g
  kp : Kp (fun j => A = some ⟨j, 0, none⟩) w w'
set_option maxRecDepth 100000 in
theorem run_zeros {F : Nat → Prop} (w : World) (A : Option Addr) (c k : Nat) (all : List Tg) (h : RowF F w 42 3 A all.length c (cellsL encT all)) (k0 : 0 < k) (hl : all.length + k ≤ 1000000) :
    ∃ v' w' g c', (∀ ty, (Builtin.append_ #[50, 3] ty #[.slice A all.length c, .int .i64 (k : Int)]).run Try.prog w = .ok v' w') ∧ Zeroed w A all k v' w' g c' := by
  obtain ⟨i0, hi, hz0, hz1, hz2⟩ := info_parts info_tg
  have ht := Try.underlying50
  have htn := Try.underlying3
  have cl := cells_len (enc := encT) (k := 3) (fun _ => rfl) all
  have zc := zeros_cells k
  rcases h.2.2 with ⟨rfl, rfl⟩ | ⟨g, rfl, f, r⟩
  · have a0 : all = [] := List.length_eq_zero_iff.1 (by have := h.2.1; omega)
    subst a0
    have hcap := grownCap_le_maxLen w k 0 42 (by unfold maxLen; omega)
    have hge := grownCap_ge w k 0 42
    have hr := fun ty => Lib.run_append_nil_zeros (P := Try.prog) w 50 3 ty 42 i0 _ .i64 .i64 ht htn hi hz0 k k0 (by omega) (by omega) (by rw [hz2]; omega)
    refine ⟨_, _, w.heap.size, grownCap w k 0 42, hr, ⟨by simp, ?_, by simpa using hge, .inr (Nat.le_refl _), Kp.of' ((Below.refl _ _).drew.alloc (Nat.le_refl _) _) |>.mono fun _ q => q.elim⟩⟩
    have := new_row w.drew 42 3 k (grownCap w k 0 42) (Builtin.zeroCells (Value.cells (.agg #[.int .i64 0, .int .i64 0, .int .i64 0])) k) (Builtin.zeroCells (Value.cells (.agg #[.int .i64 0, .int .i64 0, .int .i64 0])) (grownCap w k 0 42 - k)) (by
      rw [Array.size_append, size_zeroCells, size_zeroCells]
      show k * 3 + (grownCap w k 0 42 - k) * 3 = _
      omega) hcap
    rw [zc] at this
    exact this
  · by_cases room : all.length + k ≤ c
    · obtain ⟨cur, hg, hs, htk⟩ := r.ex
      have hst := run_storeCells_at Try.prog g (all.length * 3) 42 (cellsL encT (List.replicate k zeroT)) 0 cur w hg (by rw [cells_len (k := 3) (fun _ => rfl), List.length_replicate, hs]; omega) (cells_one encT_one _)
      simp only [Nat.add_zero] at hst
      have zl : (cellsL encT (List.replicate k zeroT)).length = k * 3 := by rw [cells_len (k := 3) (fun _ => rfl), List.length_replicate]
      refine ⟨.slice (some ⟨g, 0, none⟩) (all.length + k) c, w.setRow g (cur.toList.take (all.length * 3) ++ cellsL encT (List.replicate k zeroT) ++ cur.toList.drop (all.length * 3 + (cellsL encT (List.replicate k zeroT)).length)).toArray, g, c, fun ty => ?_, ⟨rfl, ⟨⟨_, setRow_heap w g cur _ _ (0, 0) hg, ?_, ?_⟩, r.room⟩, room, .inl rfl, (kp_setRow w g _).mono fun j q => by rw [q]⟩⟩
      · have hk : k ≠ 0 := by omega
        have hw : IntKind.i64.wrap (k : Int) = k := by rw [IntKind.wrap_i64]; omega
        have hneg : ¬ ((k : Int) < 0) := by omega
        have hns : ¬ (k * i0.size = 0) := Nat.mul_ne_zero hk (by omega)
        have h48i : ¬ (281474976710656 < (k : Int) * (i0.bytes : Int)) := by rw [hz2]; omega
        have zc2 : (Builtin.zeroCells (Value.cells (.agg #[.int .i64 0, .int .i64 0, .int .i64 0])) k) = (cellsL encT (List.replicate k zeroT)).toArray := by rw [← zc]
        have ad : (⟨g, 0, none⟩ : Addr).add (all.length * i0.size) = ⟨g, all.length * 3, none⟩ := by rw [hz1, addr_off, Nat.zero_add]
        simp [Builtin.append_, run_underlying ht, run_underlying htn, sizeOf, typeInfo, zeroValue, hi, hz0, asInt, asIntOf, hw, hneg, hns, h48i, room, ad]
        rw [zc, hst]
        simp [Result.andThen]
      · simp only [List.size_toArray, List.length_append, List.length_take, List.length_drop, Array.length_toList, zl]
        omega
      · rw [cells_app]
        have e : all.length * 3 = (cellsL encT all).length := cl.symm
        rw [List.length_append, e, htk]
        exact List.take_left' (by simp)
    · have hr := fun ty => Lib.run_append_grow_zeros (P := Try.prog) w 50 3 ty 42 i0 _ .i64 .i64 ht htn hi hz0 (some ⟨g, 0, none⟩) all.length c (cellsL encT all)
        (by have := run_firstCells_some (P := Try.prog) w.drew i0.size all.length ⟨g, 0, none⟩ all.length c (cellsL encT all) (by rw [hz1]; exact cl) (fun j u hj => by rw [addr_off, Nat.zero_add]; simpa using r.cell hj); exact this)
        k k0 (by omega) (by omega) (by omega) (by rw [hz2]; omega) (growslice_fits (by omega) (by rw [hz2]; omega))
      have hcap := grownCap_le_maxLen w (all.length + k) c 42 (by unfold maxLen; omega)
      have hge := grownCap_ge w (all.length + k) c 42
      refine ⟨_, _, w.heap.size, _, hr, ⟨rfl, ?_, hge, .inr (Nat.le_refl _), (Kp.of' ((Below.refl _ _).drew.alloc (Nat.le_refl _) _)).mono fun _ q => q.elim⟩⟩
      have := new_row w.drew 42 3 (all.length + k) (grownCap w (all.length + k) c 42) ((cellsL encT all).toArray ++ Builtin.zeroCells (Value.cells (.agg #[.int .i64 0, .int .i64 0, .int .i64 0])) k) (Builtin.zeroCells (Value.cells (.agg #[.int .i64 0, .int .i64 0, .int .i64 0])) (grownCap w (all.length + k) c 42 - (all.length + k))) (by
        rw [Array.size_append, Array.size_append, size_zeroCells, size_zeroCells, List.size_toArray, cl]
        show all.length * 3 + k * 3 + (grownCap w (all.length + k) c 42 - (all.length + k)) * 3 = _
        omega) hcap
      rw [Array.toList_append, zc] at this
      rw [cells_app]
      exact this
/-- .. as one step of a region that draws -/
theorem step_zeros {ops : Array Oper} {o : Oper} {a : Act} {w : World} {K : Act → World → Prop} {Q : Exit → Act → World → Prop} {E : Prop} {F : Nat → Prop} (hgd : o.guard = none) (s x : Operand)
    (ho : o.op = .call { callee := .builtin .append, args := #[s, x], argTypes := #[50, 3] }) (A : Option Addr) (c k : Nat) (all : List Tg) (hs : a.eval s = .slice A all.length c) (hx : a.eval x = .int .i64 (k : Int))
    (h : RowF F w 42 3 A all.length c (cellsL encT all)) (k0 : 0 < k) (hl : all.length + k ≤ 1000000) (hK : ∀ v' w' g c', Zeroed w A all k v' w' g c' → K (a.put o.dst v') w') :
    if Region.wanted o (yielded ops a.tmps) = true then Oper.wp Try.prog o a w K Q else E := by
  have hw : Region.wanted o (yielded ops a.tmps) = true := by simp [Region.wanted, hgd]
  rw [if_pos hw]
  obtain ⟨v', w', g, c', hrun, hz⟩ := run_zeros w A c k all h k0 hl
  unfold Oper.wp
  simp [execOp, ho, resolve, invoke, builtin, hs, hx, hrun, Result.andThen]
  exact hK _ _ _ _ hz
end Go.Proofs.Ytjodhfehfpmfaaa.Iv
