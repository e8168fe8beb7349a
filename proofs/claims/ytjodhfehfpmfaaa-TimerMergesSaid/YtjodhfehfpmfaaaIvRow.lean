/- Rows of memory that are written: a block whose first cells are known; copy, clear, append of zeros on it, at elements of k cells. -/
import Derived.Test.YtjodhfehfpmfaaaIvMem
import Derived.Laws.CopyOwn
import Derived.Lib.SliceRun
import Derived.Lib.AppendZerosOnto
import Derived.Deep.RegionLaw
set_option linter.unusedVariables false
namespace Go.Proofs.Ytjodhfehfpmfaaa.Iv
open Go.RowKit

/-- the first cells of block g are xs; all are of the element type e, cap elements of size cells -/
structure RowIs (w : World) (g : Nat) (e : TypeId) (size cap : Nat) (xs : List Value) : Prop where
  ex : ∃ cur : Array Value, w.heap[g]? = some (.cells cur e (0, 0)) ∧ cur.size = cap * size ∧ cur.toList.take xs.length = xs
  room : cap ≤ maxLen
theorem take_splice {α : Type} {L xs cs : List α} {o : Nat} (h : L.take xs.length = xs) (ho : o + cs.length ≤ xs.length) : (L.take o ++ cs ++ L.drop (o + cs.length)).take (splice xs o cs).length = splice xs o cs := by
  obtain ⟨r, rfl⟩ : ∃ r, L = xs ++ r := ⟨L.drop xs.length, by rw [← List.take_append_drop xs.length L, h]; simp⟩
  have hl : (splice xs o cs).length = xs.length := length_splice xs o cs ho
  rw [hl]
  unfold splice
  rw [List.take_append_of_le_length (show o ≤ xs.length by omega), List.drop_append_of_le_length ho, List.append_assoc, ← List.append_assoc cs, ← List.append_assoc (xs.take o)]
  exact List.take_left' (by simp; omega)
section
variable {P : Program} {w : World} {g cap size : Nat} {e : TypeId} {xs : List Value}
theorem RowIs.lt (h : RowIs w g e size cap xs) : g < w.heap.size := by
  obtain ⟨cur, hg, -⟩ := h.ex
  exact (Array.getElem?_eq_some_iff.1 hg).1
theorem RowIs.len (h : RowIs w g e size cap xs) : xs.length ≤ cap * size := by
  obtain ⟨cur, hg, hs, ht⟩ := h.ex
  rw [← ht, List.length_take, ← hs]
  simp
  omega
theorem RowIs.cell (h : RowIs w g e size cap xs) {j : Nat} {u : Value} (hj : xs[j]? = some u) : w.cell? ⟨g, j, none⟩ = some u := by
  obtain ⟨cur, hg, hs, ht⟩ := h.ex
  rw [cell_of_row w g j cur e (0, 0) hg]
  rw [← ht, List.getElem?_take] at hj
  split at hj
  · simpa using hj
  · cases hj
theorem RowIs.frozen (h : RowIs w g e size cap xs) (j : Nat) : w.frozen? ⟨g, j, none⟩ = false := by
  obtain ⟨cur, hg, -⟩ := h.ex
  simp [World.frozen?, hg]
theorem RowIs.on {w' : World} (h : RowIs w g e size cap xs) (hb : w'.heap[g]? = w.heap[g]?) : RowIs w' g e size cap xs := by
  obtain ⟨cur, hg, hs, ht⟩ := h.ex
  exact ⟨⟨cur, hb.trans hg, hs, ht⟩, h.room⟩
theorem RowIs.kp {F : Nat → Prop} {w' : World} (h : RowIs w g e size cap xs) (hb : Kp F w w') (hf : ¬ F g) : RowIs w' g e size cap xs := h.on (hb.block g h.lt hf)
theorem RowIs.below {w' : World} (h : RowIs w g e size cap xs) (hb : Below w.heap.size w w') : RowIs w' g e size cap xs := h.on (hb.block g h.lt)
theorem RowIs.cut (h : RowIs w g e size cap xs) (n : Nat) : RowIs w g e size cap (xs.take n) := by
  obtain ⟨cur, hg, hs, ht⟩ := h.ex
  refine ⟨⟨cur, hg, hs, ?_⟩, h.room⟩
  conv => rhs; rw [← ht]
  rw [List.take_take, List.length_take]
theorem RowIs.setRow (h : RowIs w g e size cap xs) (o : Nat) (cs : List Value) (ho : o + cs.length ≤ xs.length) (cur : Array Value) (hg : w.heap[g]? = some (.cells cur e (0, 0))) (hs : cur.size = cap * size) (ht : cur.toList.take xs.length = xs) :
    RowIs (w.setRow g (cur.toList.take o ++ cs ++ cur.toList.drop (o + cs.length)).toArray) g e size cap (splice xs o cs) := by
  have hl := h.len
  refine ⟨⟨_, setRow_heap w g cur _ e (0, 0) hg, ?_, ?_⟩, h.room⟩
  · simp
    omega
  · exact take_splice ht ho
theorem kp_setRow (w : World) (g : Nat) (cs : Array Value) : Kp (· = g) w (w.setRow g cs) := ⟨rfl, rfl, rfl, by simp [World.setRow], fun k _ hk => setRow_other w g k cs hk⟩
/-- cells are stored into a row -/
theorem RowIs.store (h : RowIs w g e size cap xs) (o : Nat) (cs : List Value) (ho : o + cs.length ≤ xs.length) (h1 : ∀ u ∈ cs, u.oneCell' = true) :
    ∃ w', (storeCells ⟨g, o, none⟩ cs 0).run P w = .ok () w' ∧ RowIs w' g e size cap (splice xs o cs) ∧ Kp (· = g) w w' := by
  obtain ⟨cur, hg, hs, ht⟩ := h.ex
  have hl := h.len
  have := run_storeCells_at P g o e cs 0 cur w hg (by omega) h1
  simp only [Nat.add_zero] at this
  exact ⟨_, this, h.setRow o cs ho cur hg hs ht, kp_setRow _ _ _⟩
theorem RowIs.setCell (h : RowIs w g e size cap xs) (j : Nat) (hj : j < xs.length) (u : Value) : RowIs (w.setCell ⟨g, j, none⟩ u) g e size cap (xs.set j u) ∧ Kp (· = g) w (w.setCell ⟨g, j, none⟩ u) := by
  obtain ⟨cur, hg, hs, ht⟩ := h.ex
  refine ⟨⟨⟨_, heap_setCell_same w g j cur e u hg, by simpa using hs, ?_⟩, h.room⟩, Kp.setCell (F := (· = g)) w _ rfl u⟩
  rw [Array.toList_setIfInBounds, List.length_set, List.take_set, ht]
/-- copy within a row -/
theorem RowIs.copy (h : RowIs w g e size cap xs) (t : TypeId) (i : TypeInfo) (ht : P.underlying t = some (.slice e)) (hi : P.info? e = some i) (hz : i.size = size) (o a n dLen dCap sLen sCap : Nat) (hn : n = Nat.min sLen dLen) (cs : List Value) (hcs : cs.length = n * size)
    (ho : o + cs.length ≤ xs.length) (ha : ∀ j u, cs[j]? = some u → xs[a + j]? = some u) (h1 : ∀ u ∈ cs, u.oneCell' = true) :
    ∃ w', (∀ ty, (Builtin.copy_ #[t, t] ty #[.slice (some ⟨g, o, none⟩) dLen dCap, .slice (some ⟨g, a, none⟩) sLen sCap]).run P w = .ok (goInt n) w') ∧ RowIs w' g e size cap (splice xs o cs) ∧ Kp (· = g) w w' := by
  obtain ⟨w', hr, hw, hk⟩ := h.store (P := P) o cs ho h1
  refine ⟨w', fun ty => ?_, hw, hk⟩
  have hl := run_firstCells_some (P := P) w size n ⟨g, a, none⟩ sLen sCap cs hcs (fun j u hj => by rw [addr_off]; exact h.cell (ha j u hj))
  simp [Builtin.copy_, run_underlying ht, Builtin.lenOf, sizeOf, typeInfo, hi, hz, ← hn, hl, hr]
/-- .. of no element: whatever the addresses -/
theorem copy_nothing (t ty : TypeId) (i : TypeInfo) (ht : P.underlying t = some (.slice e)) (hi : P.info? e = some i) (A A2 : Option Addr) (dLen dCap sLen sCap : Nat) (hn : Nat.min sLen dLen = 0) :
    (Builtin.copy_ #[t, t] ty #[.slice A dLen dCap, .slice A2 sLen sCap]).run P w = .ok (goInt 0) w := by
  have hl : ∀ a : Addr, (loadCells a 0).run P w = .ok #[] w := fun x => by simpa using run_loadCells_list (P := P) w x [] (by simp)
  cases A <;> cases A2 <;> simp [Builtin.copy_, run_underlying ht, Builtin.lenOf, Builtin.firstCells, sizeOf, typeInfo, hi, hn, storeCells, hl]
/-- clear -/
theorem RowIs.clear (h : RowIs w g e size cap xs) (t : TypeId) (z : Value) (ht : P.underlying t = some (.slice e)) (hv : ∀ w, (zeroValue e).run P w = .ok z w) (o n c : Nat) (hn : 0 < n) (hz : z.cells.size = size) (ho : o + n * size ≤ xs.length) (h1 : ∀ u ∈ (Builtin.zeroCells z.cells n).toList, u.oneCell' = true) :
    ∃ w', (∀ ty, (Builtin.clear_ #[t] ty #[.slice (some ⟨g, o, none⟩) n c]).run P w = .ok (.tuple #[]) w') ∧ RowIs w' g e size cap (splice xs o (Builtin.zeroCells z.cells n).toList) ∧ Kp (· = g) w w' := by
  obtain ⟨w', hr, hw, hk⟩ := h.store (P := P) o (Builtin.zeroCells z.cells n).toList (by rw [Array.length_toList, size_zeroCells, hz]; exact ho) h1
  refine ⟨w', fun ty => ?_, hw, hk⟩
  obtain ⟨m, rfl⟩ : ∃ m, n = m + 1 := ⟨n - 1, by omega⟩
  simp [Builtin.clear_, run_underlying ht, hv, hr]
end
/-- a row that is owned is a row -/
theorem row_of {w : World} {B : Nat} {e : TypeId} {size g n cap : Nat} {xs : List Value} (h : w.ownsRow B e size (.slice (some ⟨g, 0, none⟩) n cap) n xs) : RowIs w g e size cap xs ∧ xs.length = n * size ∧ n ≤ cap ∧ B ≤ g := by
  rcases h.2 with ⟨h', _⟩ | ⟨g', cap', cur, h', hb, hg, hnc, hcm, hcs, htake⟩
  · cases h'
  · injection h' with e1 e2 e3
    injection e1 with e1
    injection e1 with e1
    subst e1 e3
    exact ⟨⟨⟨cur, hg, hcs, by rw [h.1]; exact htake⟩, hcm⟩, h.1, hnc, hb⟩
theorem own_of {w : World} {B : Nat} {e : TypeId} {size g n cap : Nat} {xs : List Value} (h : RowIs w g e size cap xs) (hl : xs.length = n * size) (hn : n ≤ cap) (hB : B ≤ g) : w.ownsRow B e size (.slice (some ⟨g, 0, none⟩) n cap) n xs := by
  obtain ⟨cur, hg, hs, ht⟩ := h.ex
  exact ⟨hl, .inr ⟨g, cap, cur, rfl, hB, hg, hn, h.room, hs, by rw [← hl]; exact ht⟩⟩
theorem splice_take {α : Type} (xs cs : List α) (o : Nat) (h : o ≤ xs.length) : (splice xs o cs).take o = xs.take o := by
  unfold splice
  rw [List.take_append_of_le_length (by simp; omega), List.take_take, Nat.min_self]
theorem take_set_succ {α : Type} (X : List α) (m : Nat) (u : α) (h : m < X.length) : (X.set m u).take (m + 1) = X.take m ++ [u] := by
  rw [List.take_succ_eq_append_getElem (by simpa using h), List.take_set, List.set_eq_of_length_le (by simp; omega), List.getElem_set_self]
theorem drop_set_lt {α : Type} (X : List α) (m t : Nat) (u : α) (h : m < t) : (X.set m u).drop t = X.drop t := by
  rw [List.drop_set, if_pos h]
theorem setS_cells : ∀ (l : List (Int × Int)) (j : Nat) (u : Int × Int), j < l.length → ((cellsL encS l).set (j * 2) (.int .i64 u.1)).set (j * 2 + 1) (.int .i64 u.2) = cellsL encS (l.set j u)
  | [], j, x, h => by simp at h
  | s :: l, 0, x, _ => by simp [cellsL, encS]
  | s :: l, j + 1, x, h => by
    have ih := setS_cells l j x (by simpa using h)
    unfold cellsL at ih ⊢
    rw [List.set_cons_succ, List.flatMap_cons, List.flatMap_cons, ← ih, show (j + 1) * 2 + 1 = (j * 2 + 1) + 1 + 1 by omega, show (j + 1) * 2 = (j * 2) + 1 + 1 by omega]
    rfl
theorem setT_cells : ∀ (l : List Tg) (j : Nat) (u : Tg), j < l.length → (((cellsL encT l).set (j * 3) (.int .i64 u.1.1)).set (j * 3 + 1) (.int .i64 u.1.2)).set (j * 3 + 2) (.int .i64 u.2) = cellsL encT (l.set j u)
  | [], j, x, h => by simp at h
  | s :: l, 0, x, _ => by simp [cellsL, encT]
  | s :: l, j + 1, x, h => by
    have ih := setT_cells l j x (by simpa using h)
    unfold cellsL at ih ⊢
    rw [List.set_cons_succ, List.flatMap_cons, List.flatMap_cons, ← ih, show (j + 1) * 3 + 2 = (j * 3 + 2) + 1 + 1 + 1 by omega, show (j + 1) * 3 + 1 = (j * 3 + 1) + 1 + 1 + 1 by omega, show (j + 1) * 3 = (j * 3) + 1 + 1 + 1 by omega]
    rfl
/-- a span is stored in its place -/
theorem RowIs.setS {w : World} {g cap : Nat} {e : TypeId} {X : List (Int × Int)} (h : RowIs w g e 2 cap (cellsL encS X)) (j : Nat) (hj : j < X.length) (u : Int × Int) :
    RowIs ((w.setCell ⟨g, j * 2, none⟩ (.int .i64 u.1)).setCell ⟨g, j * 2 + 1, none⟩ (.int .i64 u.2)) g e 2 cap (cellsL encS (X.set j u)) ∧ Kp (· = g) w ((w.setCell ⟨g, j * 2, none⟩ (.int .i64 u.1)).setCell ⟨g, j * 2 + 1, none⟩ (.int .i64 u.2)) := by
  have hl := cells_len (enc := encS) (k := 2) (fun _ => rfl) X
  obtain ⟨r1, k1⟩ := h.setCell (j * 2) (by rw [hl]; omega) (.int .i64 u.1)
  obtain ⟨r2, k2⟩ := r1.setCell (j * 2 + 1) (by rw [List.length_set, hl]; omega) (.int .i64 u.2)
  rw [setS_cells X j u hj] at r2
  exact ⟨r2, k1.trans k2⟩
theorem RowIs.setT {w : World} {g cap : Nat} {e : TypeId} {X : List Tg} (h : RowIs w g e 3 cap (cellsL encT X)) (j : Nat) (hj : j < X.length) (u : Tg) :
    RowIs (((w.setCell ⟨g, j * 3, none⟩ (.int .i64 u.1.1)).setCell ⟨g, j * 3 + 1, none⟩ (.int .i64 u.1.2)).setCell ⟨g, j * 3 + 2, none⟩ (.int .i64 u.2)) g e 3 cap (cellsL encT (X.set j u)) ∧
      Kp (· = g) w (((w.setCell ⟨g, j * 3, none⟩ (.int .i64 u.1.1)).setCell ⟨g, j * 3 + 1, none⟩ (.int .i64 u.1.2)).setCell ⟨g, j * 3 + 2, none⟩ (.int .i64 u.2)) := by
  have hl := cells_len (enc := encT) (k := 3) (fun _ => rfl) X
  obtain ⟨r1, k1⟩ := h.setCell (j * 3) (by rw [hl]; omega) (.int .i64 u.1.1)
  obtain ⟨r2, k2⟩ := r1.setCell (j * 3 + 1) (by rw [List.length_set, hl]; omega) (.int .i64 u.1.2)
  obtain ⟨r3, k3⟩ := r2.setCell (j * 3 + 2) (by rw [List.length_set, List.length_set, hl]; omega) (.int .i64 u.2)
  rw [setT_cells X j u hj] at r3
  exact ⟨r3, k1.trans (k2.trans k3)⟩
end Go.Proofs.Ytjodhfehfpmfaaa.Iv
