/- The heap's own methods (Len, Less, Swap), by name through the interface; container/heap's up and down. -/
import Derived.Test.YtjodhfehfpmfaaaTiCmp
import Derived.Test.YtjodhfehfpmfaaaTiLate
import Derived.StillTailTactics
import Derived.Deep.CutRange
import Derived.LoopTactic
import Derived.BigQuiet
import Derived.Deep.QuietTactic
import Derived.Test.YtjodhfehfpmfaaaIvOver
set_option linter.unusedVariables false
namespace Go.Proofs.Ytjodhfehfpmfaaa.Ti
open Go.RowKit Go.Sort Iv

/-- the items at block g, as many as h -/
abbrev Its (w : World) (g cap : Nat) (h : List It) : Prop := RowIs w g 70 2 cap (cellsL Iv.encS h)
theorem its_cell {w : World} {g cap : Nat} {h : List It} (r : Its w g cap h) {j : Nat} (hj : j < h.length) : w.cell? ⟨g, j * 2, none⟩ = some (.int .i64 (gt h j).1) ∧ w.cell? ⟨g, j * 2 + 1, none⟩ = some (.int .i64 (gt h j).2) :=
  ⟨r.cell (cells_get (enc := Iv.encS) (k := 2) (fun _ => rfl) h j 0 hj (by omega)), r.cell (cells_get (enc := Iv.encS) (k := 2) (fun _ => rfl) h j 1 hj (by omega))⟩
theorem its_cap {w : World} {g cap : Nat} {h : List It} (r : Its w g cap h) : h.length ≤ cap := by
  have := r.len
  rw [cells_len (k := 2) (fun _ => rfl)] at this
  omega
theorem len_m (W : World) (A : Option Addr) (n c : Nat) : Calls Try.prog 163 #[.slice A n c] W fun e w' => e = .returned (.int .i64 n) ∧ W = w' := by
  go_enter Try.func163, Try.ntmps163
  go_wp2
  go_ret
  exact ⟨rfl, rfl⟩
set_option maxRecDepth 100000 in
set_option maxHeartbeats 4000000 in
theorem less_m (W : World) (g cap : Nat) (h : List It) (i j : Nat) (r : Its W g cap h) (hi : i < h.length) (hj : j < h.length) (hl : h.length ≤ 1000000) :
    Calls Try.prog 164 #[.slice (some ⟨g, 0, none⟩) h.length cap, .int .i64 i, .int .i64 j] W fun e w' => e = .returned (.bool (ltB (gt h i) (gt h j))) ∧ Below W.heap.size W w' := by
  obtain ⟨c0, c1⟩ := its_cell r hi
  obtain ⟨d0, d1⟩ := its_cell r hj
  have E := Lib.hid (cmpI_lt (gt h i) (gt h j))
  have CM := Lib.hid (fun W' => compare_is (gt h i) (gt h j) W')
  have gl := r.lt
  clear r
  generalize gt h i = x at *
  generalize gt h j = y at *
  generalize h.length = n at *
  have i1 : (i : Int) < n := by omega
  have j1 : (j : Int) < n := by omega
  go_enter Try.func164, Try.ntmps164
  go_wp2_with fail
  go_still_tail 8, (by kernel_rfl)
  change wpList _ _ _ _ _ W.drew
  go_wp2_with fail
  refine (CM.out _).mono ?_
  rintro e w' ⟨rfl, q, os, rfl⟩
  go_wp2
  go_ret
  exact ⟨by rw [← E.out]; rfl, below_grow W (1 + q) os⟩
set_option maxRecDepth 100000 in
set_option maxHeartbeats 4000000 in
theorem swap_m (W : World) (g cap : Nat) (h : List It) (i j : Nat) (r : Its W g cap h) (hi : i < h.length) (hj : j < h.length) (hl : h.length ≤ 1000000) :
    Calls Try.prog 165 #[.slice (some ⟨g, 0, none⟩) h.length cap, .int .i64 i, .int .i64 j] W fun e w' => e = .returned (.tuple #[]) ∧ Its w' g cap (swp h i j) ∧ Kp (· = g) W w' := by
  obtain ⟨c0, c1⟩ := its_cell r hi
  obtain ⟨d0, d1⟩ := its_cell r hj
  have gl := r.lt
  have ln : (cellsL Iv.encS h).length = h.length * 2 := cells_len (k := 2) (fun _ => rfl) h
  obtain ⟨a1, -⟩ := r.setCell (i * 2) (by rw [ln]; omega) (.int .i64 (gt h j).1)
  obtain ⟨a2, -⟩ := a1.setCell (i * 2 + 1) (by rw [List.length_set, ln]; omega) (.int .i64 (gt h j).2)
  obtain ⟨a3, -⟩ := a2.setCell (j * 2) (by rw [List.length_set, List.length_set, ln]; omega) (.int .i64 (gt h i).1)
  obtain ⟨v2, e2⟩ : ∃ v, (((cellsL Iv.encS h).set (i * 2) (.int .i64 (gt h j).1)).set (i * 2 + 1) (.int .i64 (gt h j).2))[j * 2]? = some v := ⟨_, List.getElem?_eq_getElem (by rw [List.length_set, List.length_set, ln]; omega)⟩
  obtain ⟨v3, e3⟩ : ∃ v, ((((cellsL Iv.encS h).set (i * 2) (.int .i64 (gt h j).1)).set (i * 2 + 1) (.int .i64 (gt h j).2)).set (j * 2) (.int .i64 (gt h i).1))[j * 2 + 1]? = some v := ⟨_, List.getElem?_eq_getElem (by rw [List.length_set, List.length_set, List.length_set, ln]; omega)⟩
  have C2 := a2.cell e2
  have F2 := a2.frozen (j * 2)
  have C3 := a3.cell e3
  have F3 := a3.frozen (j * 2 + 1)
  clear a1 a2 a3 e2 e3 ln
  have R0 := Lib.hid (show Its W.drew g cap h from r.below ((Below.refl W.heap.size W).drew))
  have y0 : ∀ o, W.frozen? ⟨g, o, none⟩ = false := r.frozen
  obtain ⟨s1, k1⟩ := R0.out.setS i hi (gt h j)
  have s1H := Lib.hid s1
  obtain ⟨s2, k2⟩ := s1.setS j (by rw [List.length_set]; exact hj) (gt h i)
  have FIN := Lib.hid (show Its _ g cap (swp h i j) ∧ Kp (· = g) W _ from ⟨s2, (Kp.of (Below.refl W.heap.size W).drew).trans (k1.trans k2)⟩)
  clear s1 s2 k1 k2 r
  generalize gt h i = x at *
  generalize gt h j = y at *
  generalize h.length = n at *
  have i1 : (i : Int) < n := by omega
  have j1 : (j : Int) < n := by omega
  go_enter Try.func165, Try.ntmps165
  go_upto_region 0 with fail
  refine wp_region_late (fun k => k != 7 && k != 11) (fun v => Below W.heap.size W v) (by kernel_rfl) ?_
  have D0 : Below W.heap.size W W.drew := (Below.refl _ _).drew
  have Z := Lib.hid (show ∀ v, Below W.heap.size W v → v.cell? ⟨g, i * 2, none⟩ = some (.int .i64 x.1) ∧ v.cell? ⟨g, i * 2 + 1, none⟩ = some (.int .i64 x.2) ∧ v.cell? ⟨g, j * 2, none⟩ = some (.int .i64 y.1) ∧ v.cell? ⟨g, j * 2 + 1, none⟩ = some (.int .i64 y.2) from fun v hv =>
    ⟨(hv.cell (p := ⟨g, _, none⟩) gl).trans c0, (hv.cell (p := ⟨g, _, none⟩) gl).trans c1, (hv.cell (p := ⟨g, _, none⟩) gl).trans d0, (hv.cell (p := ⟨g, _, none⟩) gl).trans d1⟩)
  refine tkP 0 rfl (.slice (some ⟨g, 0, none⟩) n cap) (by rfl) (.inl ⟨by kernel_rfl, fun w' _ => ?_⟩) ?_
  · go_simp
  refine tkP 1 rfl (.int .i64 i) (by rfl) (.inl ⟨by kernel_rfl, fun w' _ => ?_⟩) ?_
  · go_simp
  refine tkP 2 rfl (.slice (some ⟨g, 0, none⟩) n cap) (by rfl) (.inl ⟨by kernel_rfl, fun w' _ => ?_⟩) ?_
  · go_simp
  refine tkP 3 rfl (.int .i64 j) (by rfl) (.inl ⟨by kernel_rfl, fun w' _ => ?_⟩) ?_
  · go_simp
  refine tkP 4 rfl (.slice (some ⟨g, 0, none⟩) n cap) (by rfl) (.inl ⟨by kernel_rfl, fun w' _ => ?_⟩) ?_
  · go_simp
  refine tkP 5 rfl (.int .i64 j) (by rfl) (.inl ⟨by kernel_rfl, fun w' _ => ?_⟩) ?_
  · go_simp
  refine tkP 6 rfl (.pointer (some ⟨g, j * 2, none⟩)) (by rfl) (.inl ⟨by kernel_rfl, fun w' _ => ?_⟩) ?_
  · go_simp
  refine tkP 8 rfl (.slice (some ⟨g, 0, none⟩) n cap) (by rfl) (.inl ⟨by kernel_rfl, fun w' _ => ?_⟩) ?_
  · go_simp
  refine tkP 9 rfl (.int .i64 i) (by rfl) (.inl ⟨by kernel_rfl, fun w' _ => ?_⟩) ?_
  · go_simp
  refine tkP 10 rfl (.pointer (some ⟨g, i * 2, none⟩)) (by rfl) (.inl ⟨by kernel_rfl, fun w' _ => ?_⟩) ?_
  · go_simp
  refine tkL 7 rfl (.agg #[.int .i64 y.1, .int .i64 y.2]) (.inl ⟨by kernel_rfl, fun w' hs => ?_⟩) D0 ?_
  · obtain ⟨z0, z1, z2, z3⟩ := Z.out _ hs
    go_simp
  refine tkL 11 rfl (.agg #[.int .i64 x.1, .int .i64 x.2]) (.inl ⟨by kernel_rfl, fun w' hs => ?_⟩) D0 ?_
  · obtain ⟨z0, z1, z2, z3⟩ := Z.out _ hs
    go_simp
  refine tkP 12 rfl (.pointer (some ⟨g, i * 2, none⟩)) (by rfl) (.inl ⟨by kernel_rfl, fun w' _ => ?_⟩) ?_
  · go_simp
  refine Late.one 13 rfl (by kernel_rfl) rfl ?_
  go_simp
  refine Late.one 14 rfl (by kernel_rfl) rfl ?_
  go_simp
  refine Late.one 15 rfl (by kernel_rfl) rfl ?_
  go_simp
  refine Late.done (by kernel_rfl) ?_
  go_wp2
  go_end0
  exact ⟨rfl, FIN.out⟩
/-- the program's methods, by name, at a pointer to items -/
theorem m_len {W : World} {q : Nat} {v : Value} (h : W.cell? ⟨q, 0, none⟩ = some v) (f : Nat) : (method (f + 1) 110 (.pointer (some ⟨q, 0, none⟩)) "Len").run Try.prog W = .ok (163, v) W := by
  have e : (method (f + 1) 110 (.pointer (some ⟨q, 0, none⟩)) "Len").run Try.prog W = ((loadVar 106 ⟨q, 0, none⟩) >>= fun x => pure (163, x)).run Try.prog W := by kernel_rfl
  rw [e]
  simp [loadVar, h]
end Go.Proofs.Ytjodhfehfpmfaaa.Ti
