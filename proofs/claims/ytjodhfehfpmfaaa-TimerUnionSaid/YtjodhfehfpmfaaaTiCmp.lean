/- cmp.Or at two numbers; timer.compare; the heap's own methods Less, Swap, Len. -/
import Derived.Test.YtjodhfehfpmfaaaTiMath
import Derived.Test.YtjodhfehfpmfaaaIvSort
import Derived.Test.YtjodhfehfpmfaaaIvTkA
set_option linter.unusedVariables false
namespace Go.Proofs.Ytjodhfehfpmfaaa.Ti
open Go.RowKit Go.Sort Iv

/-- what timer.compare tells -/
def cmpI (x y : It) : Int := if Lib.compareInt x.1 y.1 = 0 then Lib.compareInt x.2 y.2 else Lib.compareInt x.1 y.1
theorem cmp_cases (x y : Int) : (x < y ∧ Lib.compareInt x y = -1) ∨ (x = y ∧ Lib.compareInt x y = 0) ∨ (y < x ∧ Lib.compareInt x y = 1) := by
  unfold Lib.compareInt
  rcases Int.lt_trichotomy x y with h | h | h
  · exact .inl ⟨h, by simp [h]⟩
  · subst h; exact .inr (.inl ⟨rfl, by simp⟩)
  · exact .inr (.inr ⟨h, by simp [h, Int.not_lt.2 (Int.le_of_lt h)]⟩)
theorem cmpI_lt (x y : It) : decide (cmpI x y < 0) = ltB x y := by
  unfold cmpI ltB
  rcases cmp_cases x.1 y.1 with ⟨h, e⟩ | ⟨h, e⟩ | ⟨h, e⟩ <;> rw [e]
  · simp [h]
  · rw [if_pos rfl]
    rcases cmp_cases x.2 y.2 with ⟨k, f⟩ | ⟨k, f⟩ | ⟨k, f⟩ <;> rw [f] <;> simp [h, k] <;> omega
  · simp; omega
theorem or_is (W : World) (g : Nat) (a b : Int) (h0 : W.cell? ⟨g, 0, none⟩ = some (.int .i64 a)) (h1 : W.cell? ⟨g, 1, none⟩ = some (.int .i64 b)) :
    Calls Try.prog 102 #[.slice (some ⟨g, 0, none⟩) 2 2] W fun e w' => e = .returned (.int .i64 (if a = 0 then b else a)) ∧ w' = W := by
  by_cases ha : a = 0
  · subst ha
    by_cases hb : b = 0
    · subst hb
      go_enter Try.func102, Try.ntmps102
      go_wp2
      refine wp_loop_rounds 3 ?_
      rw [rounds_succ]
      go_wp2
      rw [rounds_succ]
      go_wp2
      rw [rounds_succ]
      go_wp2
      go_ret
      exact ⟨rfl, rfl⟩
    · go_enter Try.func102, Try.ntmps102
      go_wp2
      refine wp_loop_rounds 3 ?_
      rw [rounds_succ]
      go_wp2
      rw [rounds_succ]
      go_wp2
      go_ret
      exact ⟨rfl, rfl⟩
  · go_enter Try.func102, Try.ntmps102
    go_wp2
    refine wp_loop_rounds 3 ?_
    rw [rounds_succ]
    go_wp2
    go_ret
    exact ⟨rfl, rfl⟩
set_option maxRecDepth 100000 in
set_option maxHeartbeats 4000000 in
/-- timer.compare -/
theorem compare_is (x y : It) (W : World) : Calls Try.prog 82 #[.agg #[.int .i64 x.1, .int .i64 x.2], .agg #[.int .i64 y.1, .int .i64 y.2]] W fun e w' => e = .returned (.int .i64 (cmpI x y)) ∧ ∃ q os', w' = grow (W.drewN q) os' := by
  have E := Lib.hid (show cmpI x y = if Lib.compareInt x.1 y.1 = 0 then Lib.compareInt x.2 y.2 else Lib.compareInt x.1 y.1 from rfl)
  have C1 := Lib.hid (fun W' => Try.cmp_Compare_int x.1 y.1 W')
  have C2 := Lib.hid (fun W' => Try.cmp_Compare_int x.2 y.2 W')
  generalize Lib.compareInt x.1 y.1 = a at *
  generalize Lib.compareInt x.2 y.2 = b at *
  go_enter Try.func82, Try.ntmps82
  go_upto_region 1 with fail
  obtain ⟨w2, hw2⟩ : ∃ w2 : World, w2 = (W.alloc (.cells #[.int .i64 x.1, .int .i64 x.2] 70)).alloc (.cells #[.int .i64 y.1, .int .i64 y.2] 70) := ⟨_, rfl⟩
  have G2 := Lib.hid (show ∃ os, w2 = grow W os from ⟨_, by rw [hw2, alloc_eq_grow, alloc_eq_grow, grow_grow]⟩)
  have s2 : w2.heap.size = W.heap.size + 2 := by rw [hw2]; simp
  have c0 : w2.cell? ⟨W.heap.size, 0, none⟩ = some (.int .i64 x.1) := by rw [hw2]; simp
  have c1 : w2.cell? ⟨W.heap.size, 1, none⟩ = some (.int .i64 x.2) := by rw [hw2]; simp
  have d0 : w2.cell? ⟨W.heap.size + 1, 0, none⟩ = some (.int .i64 y.1) := by rw [hw2]; simp
  have d1 : w2.cell? ⟨W.heap.size + 1, 1, none⟩ = some (.int .i64 y.2) := by rw [hw2]; simp
  rw [← hw2]
  clear hw2
  refine wp_region_late (fun _ => false) (fun v => Below w2.heap.size w2 v) (by kernel_rfl) ?_
  have D0 : Below w2.heap.size w2 w2.drew := (Below.refl _ _).drew
  have Z := Lib.hid (show ∀ v, Below w2.heap.size w2 v → v.cell? ⟨W.heap.size, 0, none⟩ = some (.int .i64 x.1) ∧ v.cell? ⟨W.heap.size, 1, none⟩ = some (.int .i64 x.2) ∧ v.cell? ⟨W.heap.size + 1, 0, none⟩ = some (.int .i64 y.1) ∧ v.cell? ⟨W.heap.size + 1, 1, none⟩ = some (.int .i64 y.2) from fun v hv =>
    ⟨(hv.cell (p := ⟨W.heap.size, 0, none⟩) (by simp only; omega)).trans c0, (hv.cell (p := ⟨W.heap.size, 1, none⟩) (by simp only; omega)).trans c1, (hv.cell (p := ⟨W.heap.size + 1, 0, none⟩) (by simp only; omega)).trans d0, (hv.cell (p := ⟨W.heap.size + 1, 1, none⟩) (by simp only; omega)).trans d1⟩)
  clear c0 c1 d0 d1 s2
  generalize W.heap.size = g at *
  generalize x.1 = x1 at *
  generalize x.2 = x2 at *
  generalize y.1 = y1 at *
  generalize y.2 = y2 at *
  refine tk 0 rfl (.pointer (some ⟨g, 0, none⟩)) (.inl ⟨by kernel_rfl, fun w' hs => ?_⟩) D0 ?_
  · obtain ⟨z0, z1, z2, z3⟩ := Z.out _ hs
    go_simp
  refine tk 1 rfl (.int .i64 x1) (.inl ⟨by kernel_rfl, fun w' hs => ?_⟩) D0 ?_
  · obtain ⟨z0, z1, z2, z3⟩ := Z.out _ hs
    go_simp
  refine tk 2 rfl (.pointer (some ⟨g + 1, 0, none⟩)) (.inl ⟨by kernel_rfl, fun w' hs => ?_⟩) D0 ?_
  · obtain ⟨z0, z1, z2, z3⟩ := Z.out _ hs
    go_simp
  refine tk 3 rfl (.int .i64 y1) (.inl ⟨by kernel_rfl, fun w' hs => ?_⟩) D0 ?_
  · obtain ⟨z0, z1, z2, z3⟩ := Z.out _ hs
    go_simp
  refine tk 5 rfl (.pointer (some ⟨g, 1, none⟩)) (.inl ⟨by kernel_rfl, fun w' hs => ?_⟩) D0 ?_
  · obtain ⟨z0, z1, z2, z3⟩ := Z.out _ hs
    go_simp
  refine tk 6 rfl (.int .i64 x2) (.inl ⟨by kernel_rfl, fun w' hs => ?_⟩) D0 ?_
  · obtain ⟨z0, z1, z2, z3⟩ := Z.out _ hs
    go_simp
  refine tk 7 rfl (.pointer (some ⟨g + 1, 1, none⟩)) (.inl ⟨by kernel_rfl, fun w' hs => ?_⟩) D0 ?_
  · obtain ⟨z0, z1, z2, z3⟩ := Z.out _ hs
    go_simp
  refine tk 8 rfl (.int .i64 y2) (.inl ⟨by kernel_rfl, fun w' hs => ?_⟩) D0 ?_
  · obtain ⟨z0, z1, z2, z3⟩ := Z.out _ hs
    go_simp
  refine Late.one 4 rfl (by kernel_rfl) rfl ?_
  go_simp
  refine (C1.out _).mono ?_
  rintro e w3 ⟨rfl, rfl⟩
  refine ⟨D0, ?_⟩
  refine Late.one 9 rfl (by kernel_rfl) rfl ?_
  go_simp
  refine (C2.out _).mono ?_
  rintro e w3 ⟨rfl, rfl⟩
  refine ⟨D0, ?_⟩
  refine Late.one 10 rfl (by kernel_rfl) rfl ?_
  go_simp
  have D1 := D0.alloc D0.size (.cells #[.int .i64 a, .int .i64 b] 3)
  refine ⟨D1, ?_⟩
  refine Late.one 11 rfl (by kernel_rfl) rfl ?_
  go_simp
  refine (or_is _ _ a b (by simp) (by simp)).mono ?_
  rintro e w3 ⟨rfl, rfl⟩
  refine ⟨D1, ?_⟩
  rw [← E.out]
  refine tk 12 rfl (.int .i64 (cmpI x y)) (.inl ⟨by kernel_rfl, fun w' hs => ?_⟩) D1 ?_
  · go_simp
  refine Late.done (by kernel_rfl) ?_
  go_wp2
  go_ret
  obtain ⟨os, rfl⟩ := G2.out
  exact ⟨rfl, 1, _, by rw [alloc_eq_grow, grow_grow]; rfl⟩
end Go.Proofs.Ytjodhfehfpmfaaa.Ti
