/- The small operations of a set: New, Len, List, Owners, Clash; the owner's place. -/
import Derived.Test.YtjodhfehfpmfaaaIvIns
import Derived.Test.YtjodhfehfpmfaaaIvFirst
import Derived.Test.YtjodhfehfpmfaaaIvNorm
set_option linter.unusedVariables false
namespace Go.Proofs.Ytjodhfehfpmfaaa.Iv
open Go.RowKit

/-- the owner's place among those that have spans -/
theorem find_q {F : Nat → Prop} (w : World) (O : Option Addr) (d : Nat) (ow : List Int) (x : Int) (h : RowF F w 3 1 O ow.length d (cellsL encI ow)) (hs : ow.Pairwise (· < ·)) (hl : ow.length ≤ 1000000) :
    Calls Try.prog 57 #[.slice O ow.length d, .int .i64 x] w fun e w' => e = .returned (.tuple #[.int .i64 (ow.countP (· < x) : Nat), .bool (ow.contains x)]) ∧ ∃ q, w' = w.drewN q := by
  by_cases h0 : ow.length = 0
  · have e0 : ow = [] := List.length_eq_zero_iff.1 h0
    subst e0
    refine (Try.slices_BinarySearch_int_empty O d x w).mono ?_
    rintro e w' ⟨rfl, rfl⟩
    exact ⟨rfl, 0, rfl⟩
  · obtain ⟨g, rfl, -, r⟩ : ∃ g, O = some ⟨g, 0, none⟩ ∧ F g ∧ RowIs w g 3 1 d (cellsL encI ow) := by
      rcases h.2.2 with ⟨rfl, q⟩ | q
      · have := h.2.1; omega
      · exact q
    refine (Try.slices_BinarySearch_int g 0 ow.length d ow x w (Nat.le_refl _) (by omega) (fun j hj => ?_) ?_).mono ?_
    · rw [Nat.zero_add]
      refine r.cell ?_
      rw [cellsI, List.getElem?_map, List.getElem?_eq_getElem hj, List.getD_eq_getElem?_getD, List.getElem?_eq_getElem hj]
      rfl
    · rw [List.take_length]
      exact hs.imp fun {a b} q => Int.le_of_lt q
    · rintro e w' ⟨rfl, q, rfl⟩
      rw [List.take_length]
      exact ⟨rfl, q, rfl⟩
theorem find_is {F : Nat → Prop} (w : World) (O : Option Addr) (d : Nat) (ow : List Int) (x : Int) (h : RowF F w 3 1 O ow.length d (cellsL encI ow)) (hs : ow.Pairwise (· < ·)) (hl : ow.length ≤ 1000000) :
    Calls Try.prog 57 #[.slice O ow.length d, .int .i64 x] w fun e w' => e = .returned (.tuple #[.int .i64 (ow.countP (· < x) : Nat), .bool (ow.contains x)]) ∧ Below w.heap.size w w' := by
  refine (find_q w O d ow x h hs hl).mono ?_
  rintro e w' ⟨rfl, q, rfl⟩
  exact ⟨rfl, below_drewN _ _ _⟩
/-- a new list of tags -/
def NewT (w : World) (l : List Tg) (e : Ending) (w' : World) : Prop := ∃ A c, e = .returned (.slice A l.length c) ∧ TgAt w' A l.length l ∧ (0 < l.length → ∃ g, A = some ⟨g, 0, none⟩ ∧ w.heap.size ≤ g) ∧ l.length ≤ c ∧ Below w.heap.size w w'
def NewI (w : World) (l : List Int) (e : Ending) (w' : World) : Prop := ∃ A c, e = .returned (.slice A l.length c) ∧ IsAt w' A l.length l ∧ (0 < l.length → ∃ g, A = some ⟨g, 0, none⟩ ∧ w.heap.size ≤ g) ∧ l.length ≤ c ∧ Below w.heap.size w w'
theorem cloneT_is {F : Nat → Prop} (w : World) (A : Option Addr) (c : Nat) (l : List Tg) (h : RowF F w 42 3 A l.length c (cellsL encT l)) (hl : l.length ≤ 1000000) :
    Calls Try.prog 68 #[.slice A l.length c] w (NewT w l) := by
  obtain ⟨i0, hi, hz0, hz1, hz2⟩ := info_parts info_tg
  rcases h.2.2 with ⟨rfl, q⟩ | ⟨g, rfl, -, r⟩
  · have e0 : l = [] := List.length_eq_zero_iff.1 (by have := h.2.1; omega)
    subst e0 q
    refine (Try.slices_Clone_nil_f68 0 0 w).mono ?_
    rintro e w' ⟨rfl, rfl⟩
    exact ⟨none, 0, rfl, TgAt.nil _ _, fun h => absurd h (by simp), Nat.le_refl _, Below.refl _ _⟩
  · refine (Try.slices_Clone_f68 i0 _ 3 24 hi hz0 hz1 hz2 rfl (by decide) Try.sizeOf42 g 0 l.length c (cellsL encT l) w (by rw [cells_len (k := 3) (fun _ => rfl)]) (by unfold maxLen; omega) (by omega) (fun j u hj => by rw [Nat.zero_add]; exact r.cell hj) (cells_one encT_one l)).mono ?_
    rintro e w' ⟨v', rfl, hown, hne, hb⟩
    rcases hown.2 with ⟨h', _⟩ | ⟨g, cap, cur, rfl, hbg, hg, hnc, hcm, hcs, htake⟩
    · exact absurd h' hne
    · obtain ⟨r, -, q, -⟩ := row_of hown
      exact ⟨_, cap, rfl, tg_of r, fun _ => ⟨g, rfl, hbg⟩, hnc, hb⟩
theorem cloneI_is {F : Nat → Prop} (w : World) (A : Option Addr) (c : Nat) (l : List Int) (h : RowF F w 3 1 A l.length c (cellsL encI l)) (hl : l.length ≤ 1000000) :
    Calls Try.prog 69 #[.slice A l.length c] w (NewI w l) := by
  obtain ⟨i0, hi, hz0, hz1, hz2⟩ := info_parts info_int
  rcases h.2.2 with ⟨rfl, q⟩ | ⟨g, rfl, -, r⟩
  · have e0 : l = [] := List.length_eq_zero_iff.1 (by have := h.2.1; omega)
    subst e0 q
    refine (Try.slices_Clone_nil_f69 0 0 w).mono ?_
    rintro e w' ⟨rfl, rfl⟩
    exact ⟨none, 0, rfl, IsAt.nil _ _, fun h => absurd h (by simp), Nat.le_refl _, Below.refl _ _⟩
  · refine (Try.slices_Clone_f69 i0 _ 1 8 hi hz0 hz1 hz2 rfl (by decide) Try.sizeOf3 g 0 l.length c (cellsL encI l) w (by rw [cells_len (k := 1) (fun _ => rfl)]) (by unfold maxLen; omega) (by omega) (fun j u hj => by rw [Nat.zero_add]; exact r.cell hj) (cells_one encI_one l)).mono ?_
    rintro e w' ⟨v', rfl, hown, hne, hb⟩
    rcases hown.2 with ⟨h', _⟩ | ⟨g, cap, cur, rfl, hbg, hg, hnc, hcm, hcs, htake⟩
    · exact absurd h' hne
    · obtain ⟨r, -, q, -⟩ := row_of hown
      exact ⟨_, cap, rfl, is_of r, fun _ => ⟨g, rfl, hbg⟩, hnc, hb⟩
set_option maxRecDepth 100000 in
/-- New -/
theorem new_is {F : Nat → Prop} (w : World) (hF : ∀ k, w.heap.size ≤ k → F k) : Calls Try.prog 16 #[] w fun e w' => e = .returned (.pointer (some ⟨w.heap.size, 0, none⟩)) ∧ SetIn F w' w.heap.size [] [] ∧ Below w.heap.size w w' := by
  go_enter Try.func16, Try.ntmps16
  go_wp2
  go_ret
  refine ⟨rfl, ⟨none, 0, none, 0, ?_, hF _ (Nat.le_refl _), ⟨rfl, Nat.le_refl _, .inl ⟨rfl, rfl⟩⟩, ⟨rfl, Nat.le_refl _, .inl ⟨rfl, rfl⟩⟩, SetOk.nil⟩, below_alloc _ _⟩
  exact new_row w 93 2 1 1 #[.slice none 0 0, .slice none 0 0] #[] rfl (by unfold maxLen; decide)
set_option maxRecDepth 100000 in
/-- Len -/
theorem len_is {F : Nat → Prop} (w : World) (p : Nat) (all : List Tg) (ow : List Int) (S : SetIn F w p all ow) : Calls Try.prog 32 #[.pointer (some ⟨p, 0, none⟩)] w fun e w' => e = .returned (.int .i64 (all.length : Nat)) ∧ w' = w := by
  obtain ⟨A, c, O, d, H⟩ := S
  have c0 := H.c0
  clear H
  generalize all.length = n at *
  go_enter Try.func32, Try.ntmps32
  go_wp2
  go_ret
  exact ⟨rfl, rfl⟩
set_option maxRecDepth 100000 in
/-- List -/
theorem list_is {F : Nat → Prop} (w : World) (p : Nat) (all : List Tg) (ow : List Int) (S : SetIn F w p all ow) (hl : all.length ≤ 1000000) : Calls Try.prog 28 #[.pointer (some ⟨p, 0, none⟩)] w (NewT w all) := by
  obtain ⟨A, c, O, d, H⟩ := S
  have c0 := H.c0
  have T := Lib.hid (cloneT_is w A c all H.tags hl)
  clear H
  go_enter Try.func28, Try.ntmps28
  go_wp2_with fail
  refine T.out.mono ?_
  rintro e w' ⟨A', c', rfl, h1, h2, h3, h4⟩
  have K := Lib.hid (show NewT w all (.returned (.slice A' all.length c')) w' from ⟨A', c', rfl, h1, h2, h3, h4⟩)
  clear h1 h2 h3 h4
  go_wp2
  go_ret
  exact K.out
set_option maxRecDepth 100000 in
/-- Owners -/
theorem owners_is {F : Nat → Prop} (w : World) (p : Nat) (all : List Tg) (ow : List Int) (S : SetIn F w p all ow) (hl : ow.length ≤ 1000000) : Calls Try.prog 30 #[.pointer (some ⟨p, 0, none⟩)] w (NewI w ow) := by
  obtain ⟨A, c, O, d, H⟩ := S
  have c0 := H.c1
  have T := Lib.hid (cloneI_is w O d ow H.nums hl)
  clear H
  go_enter Try.func30, Try.ntmps30
  go_wp2_with fail
  refine T.out.mono ?_
  rintro e w' ⟨A', c', rfl, h1, h2, h3, h4⟩
  have K := Lib.hid (show NewI w ow (.returned (.slice A' ow.length c')) w' from ⟨A', c', rfl, h1, h2, h3, h4⟩)
  clear h1 h2 h3 h4
  go_wp2
  go_ret
  exact K.out
theorem clash_ret {P : Program} {w : World} {r : Option Tg} {e : Ending} {w' : World} (h : e = .returned (tgV r)) (hb : Below w.heap.size w w') : ClashIs w r e w' := ⟨h, hb⟩
set_option maxRecDepth 100000 in
set_option maxHeartbeats 4000000 in
/-- Clash -/
theorem clash_is {F : Nat → Prop} (w : World) (p : Nat) (all : List Tg) (ow : List Int) (B : Option Addr) (n c : Nat) (l : List (Int × Int)) (but : Int) (S : SetIn F w p all ow) (hB : SpAt w B n l) (hz : B = none → n = 0) (hn : n ≤ 900000) (ha : all.length ≤ 1000000) :
    Calls Try.prog 22 #[.pointer (some ⟨p, 0, none⟩), .slice B n c, .int .i64 but] w (ClashIs w (clashL but (normL l) all)) := by
  have hc := first_clash (but := but) S.ok (norm_is l).norms
  have hlen := norm_len l
  have SS := Lib.hid S
  have HB := Lib.hid hB
  have HZ := Lib.hid hz
  have HC := Lib.hid hc
  have LN := Lib.hid (show (normL l).length ≤ n from by have := hB.1; omega)
  clear S hB hz hc hlen
  go_enter Try.func22, Try.ntmps22
  go_wp2_with fail
  obtain ⟨w0, hw0⟩ : ∃ w0 : World, w0 = w.alloc (.cells #[.int .i64 0, .int .i64 0, .int .i64 0] 42) := ⟨_, rfl⟩
  have BW := Lib.hid (show Below w.heap.size w w0 from hw0 ▸ below_alloc _ _)
  have z0 : w0.cell? ⟨w.heap.size, 0, none⟩ = some (.int .i64 0) := by rw [hw0]; simp
  have z1 : w0.cell? ⟨w.heap.size, 1, none⟩ = some (.int .i64 0) := by rw [hw0]; simp
  have z2 : w0.cell? ⟨w.heap.size, 2, none⟩ = some (.int .i64 0) := by rw [hw0]; simp
  have y0 : ∀ j, w0.frozen? ⟨w.heap.size, j, none⟩ = false := by intro j; rw [hw0]; simp
  have zl : w.heap.size < w0.heap.size := by rw [hw0]; simp
  rw [← hw0]
  refine (norm_any w0 B n c l (HB.out.below (hw0 ▸ below_alloc _ _)) HZ.out hn).mono ?_
  rintro e w2 ⟨A', c', rfl, h1, -, -, hb⟩
  have B2 := Lib.hid (BW.out.trans (hb.mono BW.out.size))
  have H1 := Lib.hid h1
  have x0 := (hb.cell (p := ⟨w.heap.size, 0, none⟩) zl).trans z0
  have x1 := (hb.cell (p := ⟨w.heap.size, 1, none⟩) zl).trans z1
  have x2 := (hb.cell (p := ⟨w.heap.size, 2, none⟩) zl).trans z2
  have f0 := (hb.frozen (p := ⟨w.heap.size, 0, none⟩) zl).trans (y0 0)
  have f1 := (hb.frozen (p := ⟨w.heap.size, 1, none⟩) zl).trans (y0 1)
  have f2 := (hb.frozen (p := ⟨w.heap.size, 2, none⟩) zl).trans (y0 2)
  have sz := hb.size
  generalize clashL but (normL l) all = r at *
  generalize (normL l).length = nl at *
  clear h1 hb z0 z1 z2 y0
  go_wp2_with fail
  refine (first_is w2 p all ow A' nl c' (normL l) but r (SS.out.below B2.out) H1.out (by have := LN.out; omega) ha HC.out).mono ?_
  rintro e w3 ⟨rfl, hb⟩
  have X0 := (hb.cell (p := ⟨w.heap.size, 0, none⟩) (Nat.lt_of_lt_of_le zl sz)).trans x0
  have X1 := (hb.cell (p := ⟨w.heap.size, 1, none⟩) (Nat.lt_of_lt_of_le zl sz)).trans x1
  have X2 := (hb.cell (p := ⟨w.heap.size, 2, none⟩) (Nat.lt_of_lt_of_le zl sz)).trans x2
  have F0 := (hb.frozen (p := ⟨w.heap.size, 0, none⟩) (Nat.lt_of_lt_of_le zl sz)).trans f0
  have F1 := (hb.frozen (p := ⟨w.heap.size, 1, none⟩) (Nat.lt_of_lt_of_le zl sz)).trans f1
  have F2 := (hb.frozen (p := ⟨w.heap.size, 2, none⟩) (Nat.lt_of_lt_of_le zl sz)).trans f2
  have B3 := Lib.hid (B2.out.trans (hb.mono B2.out.size))
  clear x0 x1 x2 f0 f1 f2 hb
  cases r with
  | none =>
    unfold tgV
    go_wp2_with fail
    obtain ⟨k0, k1, k2⟩ := cells3 (.int .i64 0) (.int .i64 0) (.int .i64 0) X0 X1 X2 (Below.refl _ _)
    refine bodyPost_ret (v := tgV none) (by simp [results, Try.results22, go_sem, k0, k1, k2, tgV]) rfl ⟨rfl, ?_⟩
    exact (B3.out.setCell (Nat.le_refl _) _ |>.setCell (Nat.le_refl _) _ |>.setCell (Nat.le_refl _) _)
  | some t =>
    unfold tgV
    go_wp2_with fail
    obtain ⟨k0, k1, k2⟩ := cells3 (.int .i64 t.1.1) (.int .i64 t.1.2) (.int .i64 t.2) X0 X1 X2 (Below.refl _ _)
    refine bodyPost_ret (v := tgV (some t)) (by simp [results, Try.results22, go_sem, k0, k1, k2, tgV]) rfl ⟨rfl, ?_⟩
    exact (B3.out.setCell (Nat.le_refl _) _ |>.setCell (Nat.le_refl _) _ |>.setCell (Nat.le_refl _) _)
end Go.Proofs.Ytjodhfehfpmfaaa.Iv
