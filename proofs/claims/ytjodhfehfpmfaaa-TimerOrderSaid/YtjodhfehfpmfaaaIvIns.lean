/- slices.Insert, Delete and Clone on the rows of a set. -/
import Derived.Test.YtjodhfehfpmfaaaIvZeros
import Derived.Test.YtjodhfehfpmfaaaIvSet2
import Derived.Test.YtjodhfehfpmfaaaShelf
import Derived.Laws.IdiomCopy
set_option linter.unusedVariables false
namespace Go.Proofs.Ytjodhfehfpmfaaa.Iv
open Go.RowKit

theorem RowIs.full {w : World} {g cap size : Nat} {e : TypeId} {xs : List Value} (h : RowIs w g e size cap xs) : ∃ ys, ys.length = cap * size ∧ ys.take xs.length = xs ∧ RowIs w g e size cap ys := by
  obtain ⟨cur, hg, hs, ht⟩ := h.ex
  exact ⟨cur.toList, by simpa using hs, ht, ⟨⟨cur, hg, hs, List.take_length⟩, h.room⟩⟩
theorem splice_cons (ys : List Value) (o : Nat) (v : Value) (r : List Value) (h : o + (v :: r).length ≤ ys.length) : splice (ys.set o v) (o + 1) r = splice ys o (v :: r) := by
  have hl : (v :: r).length = r.length + 1 := rfl
  rw [hl] at h
  unfold splice
  rw [take_set_succ _ _ _ (by omega), drop_set_lt _ _ _ _ (by omega), hl]
  simp only [List.append_assoc, List.cons_append, List.nil_append]
  rw [show o + 1 + r.length = o + (r.length + 1) by omega]
theorem RowIs.setCells {g cap size : Nat} {e : TypeId} : ∀ (vs : List Value) (o : Nat) {w : World} {xs : List Value}, RowIs w g e size cap xs → o + vs.length ≤ xs.length → RowIs (w.setCells g o vs) g e size cap (splice xs o vs) ∧ Kp (· = g) w (w.setCells g o vs)
  | [], o, w, xs, h, _ => ⟨by
      have : splice xs o [] = xs := by simp [splice]
      rw [this]; exact h, Kp.refl _ _⟩
  | v :: r, o, w, xs, h, ho => by
    have hl : (v :: r).length = r.length + 1 := rfl
    obtain ⟨h1, k1⟩ := h.setCell o (by omega) v
    obtain ⟨h2, k2⟩ := RowIs.setCells r (o + 1) h1 (by rw [List.length_set]; omega)
    rw [splice_cons _ _ _ _ ho] at h2
    exact ⟨h2, k1.trans k2⟩
theorem kp_fresh {G : Nat → Prop} {w w1 w2 : World} (a : Kp G w w1) (b : Kp (· = w.heap.size) w1 w2) : Kp G w w2 :=
  ⟨b.os.trans a.os, b.tape.trans a.tape, b.output.trans a.output, Nat.le_trans a.size b.size, fun j hj hg => (b.block j (Nat.lt_of_lt_of_le hj a.size) (by omega)).trans (a.block j hj hg)⟩
/-- x put in at i -/
def insI (ow : List Int) (i : Nat) (x : Int) : List Int := ow.take i ++ x :: ow.drop i
theorem insI_len (ow : List Int) (i : Nat) (x : Int) : (insI ow i x).length = ow.length + 1 := by
  unfold insI
  rw [List.length_append, List.length_cons, List.length_take, List.length_drop]; omega
theorem cellsI_len (l : List Int) : (cellsL encI l).length = l.length := by rw [cells_len (k := 1) (fun _ => rfl), Nat.mul_one]
theorem cells_ins (ow : List Int) (i : Nat) (x : Int) : cellsL encI (insI ow i x) = (cellsL encI ow).take i ++ .int .i64 x :: (cellsL encI ow).drop i := by
  simp only [cellsI]
  unfold insI
  rw [List.map_append, List.map_cons, List.map_take, List.map_drop]
/-- the row behind both writes -/
theorem ins_splice {α : Type} (ys xs : List α) (i : Nat) (x : α) (h : ys.take xs.length = xs) (hi : i ≤ xs.length) (hl : xs.length + 1 ≤ ys.length) : (splice (splice ys (i + 1) (xs.drop i)) i [x]).take (xs.length + 1) = xs.take i ++ x :: xs.drop i := by
  have e1 : (splice ys (i + 1) (xs.drop i)).take i = xs.take i := by
    unfold splice
    rw [List.take_append_of_le_length (by rw [List.length_take]; omega), List.take_take, Nat.min_eq_left (by omega)]
    conv => rhs; rw [← h, List.take_take, Nat.min_eq_left hi]
  have e2 : (splice ys (i + 1) (xs.drop i)).drop (i + 1) = xs.drop i ++ ys.drop (i + 1 + (xs.drop i).length) := by
    unfold splice
    rw [List.drop_left' (by rw [List.length_take]; omega)]
  have e3 : splice (splice ys (i + 1) (xs.drop i)) i [x] = (xs.take i ++ x :: xs.drop i) ++ ys.drop (i + 1 + (xs.drop i).length) := by
    generalize splice ys (i + 1) (xs.drop i) = Y at e1 e2
    unfold splice
    rw [List.length_singleton, e1, e2]
    simp
  rw [e3, List.take_left' (by rw [List.length_append, List.length_cons, List.length_take, List.length_drop]; omega)]
theorem ins_end {α : Type} (ys xs : List α) (x : α) (h : ys.take xs.length = xs) (hl : xs.length + 1 ≤ ys.length) : (splice ys xs.length [x]).take (xs.length + 1) = xs ++ [x] := by
  unfold splice
  rw [h, List.length_singleton, ← List.append_assoc, List.take_left' (by simp)]
/-- what an insertion leaves -/
structure Insd (w : World) (O : Option Addr) (ow : List Int) (i : Nat) (x : Int) (e : Ending) (w' : World) (g d : Nat) : Prop where
  end_ : e = .returned (.slice (some ⟨g, 0, none⟩) (ow.length + 1) d)
  row : RowIs w' g 3 1 d (cellsL encI (insI ow i x))
  cap : ow.length + 1 ≤ d
  whose : O = some ⟨g, 0, none⟩ ∨ w.heap.size ≤ g
  kp : Kp (fun j => O = some ⟨j, 0, none⟩) w w'
theorem ins_is {F : Nat → Prop} (w : World) (O : Option Addr) (d : Nat) (ow : List Int) (i : Nat) (x : Int) (vb vc : Nat) (h : RowF F w 3 1 O ow.length d (cellsL encI ow)) (hv : RowIs w vb 3 1 1 [.int .i64 x]) (hvo : ∀ g, O = some ⟨g, 0, none⟩ → vb ≠ g) (hi : i ≤ ow.length) (hl : ow.length ≤ 900000) :
    Calls Try.prog 59 #[.slice O ow.length d, .int .i64 i, .slice (some ⟨vb, 0, none⟩) 1 vc] w fun e w' => ∃ g d', Insd w O ow i x e w' g d' := by
  have hd := h.2.1
  have cl := cellsI_len ow
  have hvs : ∀ j v, [Value.int .i64 x][j]? = some v → w.cell? ⟨vb, 0 + j, none⟩ = some v := fun j v hj => by rw [Nat.zero_add]; exact hv.cell hj
  have h1v : ∀ v ∈ [Value.int .i64 x], v.oneCell' = true := by intro v hv; rw [List.mem_singleton.1 hv]; rfl
  have h1c := cells_one encI_one ow
  by_cases hr : ow.length + 1 ≤ d
  · obtain ⟨g, rfl, -, r⟩ : ∃ g, O = some ⟨g, 0, none⟩ ∧ F g ∧ RowIs w g 3 1 d (cellsL encI ow) := by
      rcases h.2.2 with ⟨rfl, q⟩ | q
      · omega
      · exact q
    obtain ⟨ys, yl, yt, ry⟩ := r.full
    rw [Nat.mul_one] at yl
    have room := r.room
    have hm : d ≤ 9223372036854775807 := Nat.le_trans room (by unfold maxLen; decide)
    rw [cl] at yt
    have some_ : ∀ j, j < d → (w.cell? ⟨g, 0 + j, none⟩).isSome = true := fun j hj => by
      rw [Nat.zero_add, ry.cell (List.getElem?_eq_getElem (by omega))]; rfl
    have fz : ∀ j, w.frozen? ⟨g, j, none⟩ = false := ry.frozen
    by_cases he : i = ow.length
    · subst he
      refine (Try.slices_Insert_int_end_room g 0 ow.length d vb 0 1 vc [.int .i64 x] w (by omega) hr hm rfl (fun j hj => by rw [show 0 + ow.length + j = 0 + (ow.length + j) by omega]; exact some_ _ (by omega)) (fun j _ => fz _) hvs h1v).mono ?_
      rintro e w' ⟨rfl, rfl⟩
      have := ry.setCells [.int .i64 x] (0 + ow.length) (by rw [List.length_singleton]; omega)
      rw [Nat.zero_add] at this ⊢
      obtain ⟨r2, k2⟩ := this
      refine ⟨g, d, rfl, ?_, hr, .inl rfl, k2.mono fun j q => by rw [q]⟩
      have c2 := r2.cut (ow.length + 1)
      have := ins_end ys (cellsL encI ow) (.int .i64 x) (by rw [cl]; exact yt) (by rw [cl]; omega)
      rw [cl] at this
      rw [this] at c2
      rw [cells_ins, ← cl, List.take_length, List.drop_length]
      rw [← cl] at c2
      exact c2
    · obtain ⟨hg1, hg2⟩ : (∃ t k, w.shape? g = some (t, k) ∧ k ≠ 0) ∧ (∃ t k, w.shape? vb = some (t, k)) := by
        obtain ⟨cur, hg, hs, -⟩ := ry.ex
        obtain ⟨cur2, hg2, hs2, -⟩ := hv.ex
        refine ⟨⟨3, cur.size, ?_, by omega⟩, ⟨3, cur2.size, ?_⟩⟩
        · simp [World.shape?, hg]
        · simp [World.shape?, hg2]
      obtain ⟨tB, kB, hsb, hkB⟩ := hg1
      obtain ⟨tA, kA, hsa⟩ := hg2
      refine (Try.slices_Insert_int_shift g 0 ow.length d i vb 0 1 vc (cellsL encI ow) [.int .i64 x] w (by omega) (by omega) hr hm (hvo g rfl) cl rfl (fun j v hj => by rw [Nat.zero_add]; exact r.cell hj) (fun j hj => some_ j (by omega)) (fun j _ => fz _) hvs h1c h1v tA tB kA kB hsa hsb hkB (hv.frozen _) (hv.frozen _)).mono ?_
      rintro e w' ⟨rfl, rfl⟩
      have rd := ry.below ((Below.refl _ _).drew)
      obtain ⟨r2, k2⟩ := rd.setCells ((cellsL encI ow).drop i) (0 + (i + 1)) (by rw [List.length_drop, cl]; omega)
      obtain ⟨r3, k3⟩ := r2.setCells [.int .i64 x] (0 + i) (by rw [length_splice _ _ _ (by rw [List.length_drop, cl]; omega), List.length_singleton]; omega)
      refine ⟨g, d, rfl, ?_, hr, .inl rfl, (Kp.of ((Below.refl _ _).drew)).trans ((k2.trans k3).mono fun j q => by rw [q])⟩
      have c2 := r3.cut (ow.length + 1)
      have := ins_splice ys (cellsL encI ow) i (.int .i64 x) (by rw [cl]; exact yt) (by rw [cl]; omega) (by rw [cl]; omega)
      rw [cl] at this
      rw [Nat.zero_add, Nat.zero_add, this, ← cells_ins] at c2
      rw [Nat.zero_add, Nat.zero_add]
      exact c2
  · have gc1 := grownCap_ge w (ow.length + 1) d 3
    have gc2 := grownCap_le_maxLen w (ow.length + 1) d 3 (by unfold maxLen; omega)
    by_cases he : i = ow.length
    · subst he
      refine (Try.slices_Insert_int_end_grow O ow.length d vb 0 1 vc (cellsL encI ow) [.int .i64 x] w (by omega) hd (by omega) (by omega) cl rfl (fun q => by
        rcases h.2.2 with ⟨-, z⟩ | ⟨g, z, -⟩
        · omega
        · rw [q] at z; cases z) (fun a q j v hj => by
        rcases h.2.2 with ⟨z, -⟩ | ⟨g, z, -, r⟩
        · rw [q] at z; cases z
        · rw [z] at q; injection q with q; subst q
          rw [addr_off, Nat.zero_add]; exact r.cell hj) hvs h1v).mono ?_
      rintro e w' ⟨rfl, rfl⟩
      refine ⟨w.heap.size, _, rfl, ?_, gc1, .inr (Nat.le_refl _), (Kp.of ((Below.refl _ _).drew)).trans (Kp.of (below_alloc w.drew _))⟩
      have := new_row w.drew 3 1 (ow.length + 1) (grownCap w (ow.length + 1) d 3) (cellsL encI ow ++ [Value.int .i64 x]).toArray (Builtin.zeroCells (Value.int .i64 0).cells (grownCap w (ow.length + 1) d 3 - (ow.length + 1))) (by
        rw [Array.size_append, size_zeroCells, List.size_toArray, List.length_append, cl, List.length_singleton, show (Value.int IntKind.i64 0).cells.size = 1 from rfl]; omega) gc2
      rw [cells_ins, ← cl, List.take_length, List.drop_length, cl]
      exact this
    · obtain ⟨g, rfl, -, r⟩ : ∃ g, O = some ⟨g, 0, none⟩ ∧ F g ∧ RowIs w g 3 1 d (cellsL encI ow) := by
        rcases h.2.2 with ⟨rfl, q⟩ | q
        · omega
        · exact q
      refine (Try.slices_Insert_int_grow g 0 ow.length d i vb 0 1 vc (cellsL encI ow) [.int .i64 x] w (by omega) (by omega) hd (by omega) (by omega) cl rfl (fun j v hj => by rw [Nat.zero_add]; exact r.cell hj) hvs h1c h1v).mono ?_
      rintro e w' ⟨rfl, rfl⟩
      obtain ⟨G, hG⟩ : ∃ G, G = grownCap w (ow.length + 1) d 3 := ⟨_, rfl⟩
      rw [← hG] at gc1 gc2 ⊢
      have r0 := new_row w 3 1 G G (((cellsL encI ow).take i).toArray ++ Builtin.zeroCells (Value.int .i64 0).cells (ow.length + 1 - i) ++ Builtin.zeroCells (Value.int .i64 0).cells (G - (ow.length + 1))) #[] (by
        rw [Array.append_empty, Array.size_append, Array.size_append, size_zeroCells, size_zeroCells, List.size_toArray, List.length_take, cl, show (Value.int IntKind.i64 0).cells.size = 1 from rfl]; omega) gc2
      rw [Array.append_empty] at r0
      obtain ⟨Z, hZ⟩ : ∃ Z, Z = (((cellsL encI ow).take i).toArray ++ Builtin.zeroCells (Value.int .i64 0).cells (ow.length + 1 - i) ++ Builtin.zeroCells (Value.int .i64 0).cells (G - (ow.length + 1))) := ⟨_, rfl⟩
      have zl : Z.toList.length = G := by
        rw [hZ, Array.length_toList, Array.size_append, Array.size_append, size_zeroCells, size_zeroCells, List.size_toArray, List.length_take, cl, show (Value.int IntKind.i64 0).cells.size = 1 from rfl]; omega
      have zt : Z.toList.take i = (cellsL encI ow).take i := by
        rw [hZ, Array.toList_append, Array.toList_append, List.append_assoc]
        exact List.take_left' (by rw [List.length_take, cl]; omega)
      rw [← hZ] at r0 ⊢
      have rd := r0.below ((Below.refl _ _).drew)
      obtain ⟨r2, k2⟩ := rd.setCells [.int .i64 x] i (by rw [List.length_singleton]; omega)
      have r2d := r2.below ((Below.refl _ _).drew)
      have l2 : (splice Z.toList i [Value.int .i64 x]).length = G := by rw [length_splice _ _ _ (by rw [List.length_singleton]; omega)]; exact zl
      obtain ⟨r3, k3⟩ := r2d.setCells ((cellsL encI ow).drop i) (i + 1) (by rw [List.length_drop, cl]; omega)
      refine ⟨w.heap.size, G, rfl, ?_, gc1, .inr (Nat.le_refl _), ?_⟩
      · have c2 := r3.cut (ow.length + 1)
        have e0 : (splice Z.toList i [Value.int .i64 x]).take (i + 1) = (cellsL encI ow).take i ++ [.int .i64 x] := by
          unfold splice
          rw [zt, ← List.append_assoc, List.take_left' (by rw [List.length_append, List.length_take, cl, List.length_singleton]; omega)]
        have e1 : (splice (splice Z.toList i [Value.int .i64 x]) (i + 1) ((cellsL encI ow).drop i)).take (ow.length + 1) = (cellsL encI ow).take i ++ .int .i64 x :: (cellsL encI ow).drop i := by
          generalize splice Z.toList i [Value.int .i64 x] = Y at e0
          unfold splice
          rw [e0, ← List.append_assoc, List.take_left' (by simp only [List.length_append, List.length_take, List.length_drop, cl, List.length_singleton]; omega)]
          simp
        rw [e1, ← cells_ins] at c2
        exact c2
      · exact kp_fresh (Kp.of (below_alloc _ _)) ((Kp.of ((Below.refl _ _).drew)).trans (k2.trans ((Kp.of ((Below.refl _ _).drew)).trans k3)))
end Go.Proofs.Ytjodhfehfpmfaaa.Iv
