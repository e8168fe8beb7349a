/- The walk of (*Set).first: the first that overlaps. -/
import Derived.Test.YtjodhfehfpmfaaaIvOver
set_option linter.unusedVariables false
namespace Go.Proofs.Ytjodhfehfpmfaaa.Iv
open Go.RowKit

def tgV : Option Tg → Value
  | some t => .tuple #[.agg #[.int .i64 t.1.1, .int .i64 t.1.2, .int .i64 t.2], .bool true]
  | none => .tuple #[.agg #[.int .i64 0, .int .i64 0, .int .i64 0], .bool false]
/-- what first and Clash tell -/
def ClashIs (w : World) (r : Option Tg) (e : Ending) (w' : World) : Prop := e = .returned (tgV r) ∧ Below w.heap.size w w'
theorem find_none {but : Int} {m : List Tg} {k : Nat} (hk : m.length = k) (h : ∀ i, i < k → (gt m i).2 = but) : (m.find? fun t => decide (t.2 ≠ but)) = none := by
  rw [List.find?_eq_none]
  intro t ht
  obtain ⟨j, hj, rfl⟩ := List.mem_iff_getElem.1 ht
  have := h j (by omega)
  rw [gt_lt hj] at this
  simp [this]
theorem find_some {but : Int} {m : List Tg} {j : Nat} (hj : j < m.length) (h : ∀ i, i < j → (gt m i).2 = but) (hn : (gt m j).2 ≠ but) : (m.find? fun t => decide (t.2 ≠ but)) = some (gt m j) := by
  rw [List.find?_eq_some_iff_getElem]
  refine ⟨decide_eq_true hn, j, hj, (gt_lt hj).symm, fun i hi => ?_⟩
  have := h i hi
  rw [gt_lt (by omega)] at this
  simp [this]
theorem some_take {but : Int} {sp : List (Int × Int)} {all : List Tg} {t : Nat} (ht : t < sp.length) (h : firstL but (sp.take t) all = none) : firstL but (sp.take (t + 1)) all = (overL (gt sp t).1 (gt sp t).2 all).find? fun t => decide (t.2 ≠ but) := by
  unfold firstL at h ⊢
  rw [List.take_succ_eq_append_getElem ht, List.findSome?_append, h, gt_lt ht]
  simp
theorem some_all {but : Int} {sp : List (Int × Int)} {all : List Tg} {t : Nat} {x : Tg} (h : firstL but (sp.take t) all = some x) : firstL but sp all = some x := by
  unfold firstL at h ⊢
  rw [← List.take_append_drop t sp, List.findSome?_append, h]
  rfl
/-- three cells written -/
theorem cells3 {w : World} {b : Nat} {a0 a1 a2 : Value} (x y z : Value) (h0 : w.cell? ⟨b, 0, none⟩ = some a0) (h1 : w.cell? ⟨b, 1, none⟩ = some a1) (h2 : w.cell? ⟨b, 2, none⟩ = some a2) {w' : World} (hb : Below (b + 1) (((w.setCell ⟨b, 0, none⟩ x).setCell ⟨b, 1, none⟩ y).setCell ⟨b, 2, none⟩ z) w') :
    w'.cell? ⟨b, 0, none⟩ = some x ∧ w'.cell? ⟨b, 1, none⟩ = some y ∧ w'.cell? ⟨b, 2, none⟩ = some z := by
  have k1 : (w.setCell ⟨b, 0, none⟩ x).cell? ⟨b, 1, none⟩ = some a1 := (World.cell?_setCell_other _ _ _ _ (by simp)).trans h1
  have k2 : ((w.setCell ⟨b, 0, none⟩ x).setCell ⟨b, 1, none⟩ y).cell? ⟨b, 2, none⟩ = some a2 := (World.cell?_setCell_other _ _ _ _ (by simp)).trans ((World.cell?_setCell_other _ _ _ _ (by simp)).trans h2)
  refine ⟨(hb.cell (p := ⟨b, _, none⟩) (Nat.lt_succ_self _)).trans ?_, (hb.cell (p := ⟨b, _, none⟩) (Nat.lt_succ_self _)).trans ?_, (hb.cell (p := ⟨b, _, none⟩) (Nat.lt_succ_self _)).trans ?_⟩
  · exact (World.cell?_setCell_other _ _ _ _ (by simp)).trans ((World.cell?_setCell_other _ _ _ _ (by simp)).trans (World.cell?_setCell_same _ _ _ h0))
  · exact (World.cell?_setCell_other _ _ _ _ (by simp)).trans (World.cell?_setCell_same _ _ _ k1)
  · exact World.cell?_setCell_same _ _ _ k2
set_option maxRecDepth 100000 in
set_option maxHeartbeats 4000000 in
/-- (*Set).first -/
theorem first_is {F : Nat → Prop} (w : World) (p : Nat) (all : List Tg) (ow : List Int) (B : Option Addr) (n c : Nat) (sp : List (Int × Int)) (but : Int) (r : Option Tg) (S : SetIn F w p all ow) (hB : SpAt w B n sp) (hn : n ≤ 1000000) (ha : all.length ≤ 1000000) (hr : firstL but sp all = r) :
    Calls Try.prog 58 #[.pointer (some ⟨p, 0, none⟩), .slice B n c, .int .i64 but] w (ClashIs w r) := by
  have SS := Lib.hid S
  have KB := Lib.hid hB
  have LN := Lib.hid hB.1
  have HR := Lib.hid hr
  have b0 := below_alloc w (.cells #[.int .i64 0, .int .i64 0, .int .i64 0] 42)
  have B0 := Lib.hid b0
  clear S hB hr b0
  go_enter Try.func58, Try.ntmps58
  go_wp2
  obtain ⟨w0, hw0⟩ : ∃ w0 : World, w0 = w.alloc (.cells #[.int .i64 0, .int .i64 0, .int .i64 0] 42) := ⟨_, rfl⟩
  have z0 : w0.cell? ⟨w.heap.size, 0, none⟩ = some (.int .i64 0) := by rw [hw0]; simp
  have z1 : w0.cell? ⟨w.heap.size, 1, none⟩ = some (.int .i64 0) := by rw [hw0]; simp
  have z2 : w0.cell? ⟨w.heap.size, 2, none⟩ = some (.int .i64 0) := by rw [hw0]; simp
  have y0 : w0.frozen? ⟨w.heap.size, 0, none⟩ = false := by rw [hw0]; simp
  have y1 : w0.frozen? ⟨w.heap.size, 1, none⟩ = false := by rw [hw0]; simp
  have y2 : w0.frozen? ⟨w.heap.size, 2, none⟩ = false := by rw [hw0]; simp
  have zl : w.heap.size < w0.heap.size := by rw [hw0]; simp
  rw [← hw0]
  have BW := Lib.hid (show Below w.heap.size w w0 from hw0 ▸ B0.out)
  clear hw0 B0
  go_loopw [14] (fun i wr => ∃ t : Nat, i = .int .i64 t ∧ t ≤ n ∧ Hid (firstL but (sp.take t) all = none) ∧ Below w0.heap.size w0 wr) (fun i _ => n - (intOf i).toNat)
  case atStart => exact ⟨0, rfl, Nat.zero_le _, Lib.hid rfl, Below.refl _ _⟩
  case round =>
    obtain ⟨wo, rfl⟩ : ∃ wo : World, wo = wr := ⟨_, rfl⟩
    obtain ⟨t, rfl, ht, D, hB⟩ := hrel
    have ST := Lib.hid (hB.trans (Below.refl _ _))
    by_cases hlt : t < n
    · obtain ⟨b1, o1, rfl, hl1, hc1⟩ := KB.out.2 (by omega)
      obtain ⟨c0, c1⟩ := hc1 t hlt
      replace c0 := (hB.cell (p := ⟨b1, _, none⟩) (Nat.lt_of_lt_of_le hl1 BW.out.size)).trans ((BW.out.cell (p := ⟨b1, _, none⟩) hl1).trans c0)
      replace c1 := (hB.cell (p := ⟨b1, _, none⟩) (Nat.lt_of_lt_of_le hl1 BW.out.size)).trans ((BW.out.cell (p := ⟨b1, _, none⟩) hl1).trans c1)
      have TK := Lib.hid (some_take (by rw [← LN.out]; exact hlt) D.out)
      clear hc1 D
      have s0 : decide ((t : Int) < n) = true := decide_eq_true (by omega)
      have s00 : decide (t < n) = true := decide_eq_true hlt
      have i5 : (t : Int) < n := by omega
      have ba := below_alloc wo (.cells #[.int .i64 (gt sp t).1, .int .i64 (gt sp t).2] 40)
      have BA := Lib.hid ba
      have SZ := hB.size
      clear ba
      generalize gt sp t = x at *
      go_wp2_with fail
      refine (over_is (F := F) _ p all ow x.1 x.2 (SS.out.below (BW.out.trans ((hB.trans (BA.out.mono SZ)).mono BW.out.size))) ha).mono ?_
      rintro e w2 ⟨A', c', rfl, T2, hb2⟩
      have B2 := Lib.hid (hB.trans ((BA.out.trans (hb2.mono BA.out.size)).mono SZ))
      have T2H := Lib.hid T2
      clear T2 hb2 BA hB c0 c1 ST
      have OL := show (overL x.1 x.2 all).length ≤ all.length from List.length_filter_le _ _
      generalize overL x.1 x.2 all = m at *
      generalize hk : m.length = k at *
      have MK := Lib.hid hk
      clear hk
      go_wp2
      go_loopw [25] (fun i wr => ∃ j : Nat, i = .int .i64 j ∧ j ≤ k ∧ Hid (∀ i, i < j → (gt m i).2 = but) ∧ Below w2.heap.size w2 wr) (fun i _ => k - (intOf i).toNat)
      case atStart => exact ⟨0, rfl, Nat.zero_le _, Lib.hid (fun i hi => absurd hi (by omega)), Below.refl _ _⟩
      case round =>
        obtain ⟨wi, rfl⟩ : ∃ wi : World, wi = wr := ⟨_, rfl⟩
        obtain ⟨j, rfl, hj, DJ, hJ⟩ := hrel
        by_cases hlj : j < k
        · obtain ⟨b3, o3, rfl, hl3, hc3⟩ := T2H.out.2 (by omega)
          obtain ⟨d0, d1, d2⟩ := hc3 j hlj
          replace d0 := (hJ.cell (p := ⟨b3, _, none⟩) hl3).trans d0
          replace d1 := (hJ.cell (p := ⟨b3, _, none⟩) hl3).trans d1
          replace d2 := (hJ.cell (p := ⟨b3, _, none⟩) hl3).trans d2
          have s1 : decide ((j : Int) < k) = true := decide_eq_true (by omega)
          have s11 : decide (j < k) = true := decide_eq_true hlj
          have i6 : (j : Int) < k := by omega
          have B3 := Lib.hid (B2.out.trans ((hJ.mono B2.out.size)))
          have FS := Lib.hid (fun (h : (gt m j).2 ≠ but) => find_some (by rw [MK.out]; exact hlj) DJ.out h)
          have FN := Lib.hid (fun (h : (gt m j).2 = but) => show ∀ i, i < j + 1 → (gt m i).2 = but from fun i hi => by
            by_cases q : i = j
            · subst q; exact h
            · exact DJ.out i (by omega))
          clear hc3 DJ
          have wl : w.heap.size < wi.heap.size := Nat.lt_of_lt_of_le zl B3.out.size
          have ne : w.heap.size ≠ wi.heap.size := by omega
          have q0 := (B3.out.cell (p := ⟨w.heap.size, 0, none⟩) zl).trans z0
          have q1 := (B3.out.cell (p := ⟨w.heap.size, 1, none⟩) zl).trans z1
          have q2 := (B3.out.cell (p := ⟨w.heap.size, 2, none⟩) zl).trans z2
          have r0 := (B3.out.frozen (p := ⟨w.heap.size, 0, none⟩) zl).trans y0
          have r1 := (B3.out.frozen (p := ⟨w.heap.size, 1, none⟩) zl).trans y1
          have r2 := (B3.out.frozen (p := ⟨w.heap.size, 2, none⟩) zl).trans y2
          generalize gt m j = u at *
          by_cases e : u.2 = but
          · have s2 : ((u.2 : Int) != but) = false := by rw [bne_eq_false_iff_eq]; exact e
            have F2 := Lib.hid (FN.out e)
            clear FS FN e
            go_wp2
            go_roundw
            case rel => exact ⟨j + 1, by go_num, by omega, F2, hJ.trans ((below_alloc _ _).mono hJ.size)⟩
            case measure => simp [intOf]; omega
          · have s2 : ((u.2 : Int) != but) = true := by rw [bne_iff_ne]; exact e
            have F2 := Lib.hid (show some u = r by rw [← HR.out]; exact (some_all (TK.out.trans (FS.out e))).symm)
            clear FS FN e
            go_wp2
            rw [← F2.out]
            obtain ⟨k0, k1, k2⟩ := cells3 (.int .i64 u.1.1) (.int .i64 u.1.2) (.int .i64 u.2) q0 q1 q2 ((Below.refl _ _).alloc (by simp [World.setCell]; omega) (.cells #[.int .i64 u.1.1, .int .i64 u.1.2, .int .i64 u.2] 42))
            refine bodyPost_ret (v := tgV (some u)) (by simp [results, Try.results58, go_sem, k0, k1, k2, tgV]) rfl ⟨rfl, ?_⟩
            exact BW.out.trans ((((B3.out.mono BW.out.size).setCell (Nat.le_refl _) _).setCell (Nat.le_refl _) _).setCell (Nat.le_refl _) _ |>.alloc (by simp [World.setCell]; omega) _)
        · obtain rfl : k = j := by omega
          have s1 : decide ((k : Int) < k) = false := decide_eq_false (by omega)
          have s11 : decide (k < k) = false := decide_eq_false (by omega)
          have D2 := Lib.hid (TK.out.trans (find_none MK.out DJ.out))
          go_wp2
          go_roundw
          case rel => exact ⟨t + 1, by go_num, by omega, D2, B2.out.trans (hJ.mono B2.out.size)⟩
          case measure => simp [intOf]; omega
    · obtain rfl : n = t := by omega
      have s0 : decide ((n : Int) < n) = false := decide_eq_false (by omega)
      have s00 : decide (n < n) = false := decide_eq_false (by omega)
      have E := Lib.hid (show none = r by rw [← HR.out, ← D.out, List.take_of_length_le (by rw [← LN.out]; exact Nat.le_refl _)])
      have wl : w.heap.size < wo.heap.size := Nat.lt_of_lt_of_le zl hB.size
      have q0 := (hB.cell (p := ⟨w.heap.size, 0, none⟩) zl).trans z0
      have q1 := (hB.cell (p := ⟨w.heap.size, 1, none⟩) zl).trans z1
      have q2 := (hB.cell (p := ⟨w.heap.size, 2, none⟩) zl).trans z2
      have r0 := (hB.frozen (p := ⟨w.heap.size, 0, none⟩) zl).trans y0
      have r1 := (hB.frozen (p := ⟨w.heap.size, 1, none⟩) zl).trans y1
      have r2 := (hB.frozen (p := ⟨w.heap.size, 2, none⟩) zl).trans y2
      go_wp2
      rw [← E.out]
      obtain ⟨k0, k1, k2⟩ := cells3 (.int .i64 0) (.int .i64 0) (.int .i64 0) q0 q1 q2 (Below.refl _ _)
      refine bodyPost_ret (v := tgV none) (by simp [results, Try.results58, go_sem, k0, k1, k2, tgV]) rfl ⟨rfl, ?_⟩
      exact BW.out.trans ((hB.mono BW.out.size).setCell (Nat.le_refl _) _ |>.setCell (Nat.le_refl _) _ |>.setCell (Nat.le_refl _) _)
end Go.Proofs.Ytjodhfehfpmfaaa.Iv
