/- vokref10.Set: Cut, Owners, Clash. -/
import Derived.Test.YtjodhfehfpmfaaaIvRR
import Derived.Deep.RegionHeldLaw
set_option linter.unusedVariables false
namespace Go.Proofs.Ytjodhfehfpmfaaa.Iv
open Go.RowKit

set_option maxRecDepth 100000 in
set_option maxHeartbeats 4000000 in
/-- Cut -/
theorem rcut_is {G : Nat → Prop} (w : World) (r : Nat) (all : List Tg) (lo hi : Int) (R : RefIn G w r all) (hn : all.length ≤ 100000) :
    Calls Try.prog 25 #[.pointer (some ⟨r, 0, none⟩), .int .i64 lo, .int .i64 hi] w (NewS w (cutL lo hi all)) := by
  obtain ⟨A, c, H⟩ := R
  have p0 := H.c0
  have rl := H.box.lt
  have TA := Lib.hid H.tg
  clear H
  have CO := Lib.hid (show normL (all.map (cutT lo hi)) = cutL lo hi all from rfl)
  have RT := Lib.hid (fun (t : Nat) (h : t < all.length) => map_take_succ (m := all) h (cutT lo hi))
  generalize hk : all.length = n at *
  have LN := Lib.hid hk
  clear hk
  go_enter Try.func25, Try.ntmps25
  go_wp2
  go_loopw [7, 8] (fun ov i wr => ∃ (t : Nat) (v : Value), v = ov ∧ i = .int .i64 t ∧ t ≤ n ∧ Hid (OwnP w.heap.size wr v ((all.take t).map (cutT lo hi))) ∧ Below w.heap.size w wr) (fun v i _ => n - (intOf i).toNat)
  case atStart => exact ⟨0, _, rfl, rfl, Nat.zero_le _, Lib.hid (OwnP.nil _ _), Below.refl _ _⟩
  case round =>
    obtain ⟨wo, rfl⟩ : ∃ wo : World, wo = wr := ⟨_, rfl⟩
    obtain ⟨t, v, rfl, rfl, ht, OV, hB⟩ := hrel
    have q0 := (hB.cell (p := ⟨r, 0, none⟩) rl).trans p0
    by_cases hlt : t < n
    · have s0 : decide ((t : Int) < n) = true := decide_eq_true (by omega)
      have s00 : decide (t < n) = true := decide_eq_true hlt
      have i5 : (t : Int) < n := by omega
      have W1 : IntKind.i64.wrap ((t : Int) + 1) = (t : Int) + 1 := IntWalk.i64_in _ (by omega)
      obtain ⟨b1, o1, rfl, hl1, hc1⟩ := TA.out.2 (by omega)
      obtain ⟨c0, c1, -⟩ := hc1 t hlt
      replace c0 := (hB.cell (p := ⟨b1, _, none⟩) hl1).trans c0
      replace c1 := (hB.cell (p := ⟨b1, _, none⟩) hl1).trans c1
      obtain ⟨x0, hx0⟩ : ∃ x, gt all t = x := ⟨_, rfl⟩
      have ST := Lib.hid (RT.out t hlt)
      rw [hx0] at ST c0 c1
      have LA0 := Lib.hid (show ((all.take t).map (cutT lo hi)).length ≤ t by rw [List.length_map, List.length_take]; omega)
      have SZ := hB.size
      have OVH := Lib.hid OV.out
      have LIT := Lib.hid (lit_own wo (cutT lo hi x0))
      have NW := Lib.hid (World.ownsRow.cells LIT.out (g := wo.heap.size) rfl)
      have BX := Lib.hid ((hB.drew).alloc SZ (.cells #[.int .i64 (cutT lo hi x0).1, .int .i64 (cutT lo hi x0).2] 40))
      have LA : wo.heap.size + 1 = ((wo.drew).alloc (.cells #[.int .i64 (cutT lo hi x0).1, .int .i64 (cutT lo hi x0).2] 40)).heap.size := by simp
      have SZB : w.heap.size ≤ ((wo.drew).alloc (.cells #[.int .i64 (cutT lo hi x0).1, .int .i64 (cutT lo hi x0).2] 40)).heap.size := by omega
      obtain ⟨i0, hi0, hz0, hz1, hz2⟩ := info_parts info_sp
      clear hc1 hB
      generalize (all.take t).map (cutT lo hi) = acc at *
      have SZA := Lib.hid (show acc.length + 1 ≤ maxLen by unfold maxLen; have := LA0.out; omega)
      have SZC := Lib.hid (show (acc.length + 1) * 16 ≤ 140737488355328 by have := LA0.out; omega)
      have OD3 := Lib.hid (World.ownsRow.alloc (World.ownsRow.drew OVH.out) (.cells #[.int .i64 (cutT lo hi x0).1, .int .i64 (cutT lo hi x0).2] 40))
      have HX := Lib.hid hx0
      have bW : Below wo.heap.size wo ((wo.drew).alloc (.cells #[.int .i64 (cutT lo hi x0).1, .int .i64 (cutT lo hi x0).2] 40)) := ((Below.refl _ _).drew).alloc (Nat.le_refl _) _
      have hne : ∀ k, k < w.heap.size → some k ≠ v.ownBlock := fun k hk e => by have := (World.ownsRow.lt OVH.out k e.symm).1; omega
      have KEEP : ∀ w4, World.grownBy ((wo.drew).alloc (.cells #[.int .i64 (cutT lo hi x0).1, .int .i64 (cutT lo hi x0).2] 40)) w4 v.ownBlock → w4.cell? ⟨r, 0, none⟩ = some (.slice (some ⟨b1, o1, none⟩) n c) ∧ w4.cell? ⟨b1, o1 + t * 3, none⟩ = some (.int .i64 x0.1.1) ∧ w4.cell? ⟨b1, o1 + t * 3 + 1, none⟩ = some (.int .i64 x0.1.2) := fun w4 g =>
        ⟨(World.grownBy.cell_far g ⟨r, 0, none⟩ (Nat.lt_of_lt_of_le rl SZB) (hne r rl)).trans ((bW.cell (p := ⟨r, 0, none⟩) (Nat.lt_of_lt_of_le rl SZ)).trans q0),
         (World.grownBy.cell_far g ⟨b1, o1 + t * 3, none⟩ (Nat.lt_of_lt_of_le hl1 SZB) (hne b1 hl1)).trans ((bW.cell (p := ⟨b1, o1 + t * 3, none⟩) (Nat.lt_of_lt_of_le hl1 SZ)).trans c0),
         (World.grownBy.cell_far g ⟨b1, o1 + t * 3 + 1, none⟩ (Nat.lt_of_lt_of_le hl1 SZB) (hne b1 hl1)).trans ((bW.cell (p := ⟨b1, o1 + t * 3 + 1, none⟩) (Nat.lt_of_lt_of_le hl1 SZ)).trans c1)⟩
      clear bW hne
      rcases OV.out.form with ⟨rfl, -⟩ | ⟨g3, cap3, rfl, -⟩
      all_goals
        clear OV
        go_upto_region 5 with fail
        go_region_held_law (fun w' => w'.cell? ⟨r, 0, none⟩ = some (.slice (some ⟨b1, o1, none⟩) n c) ∧ w'.cell? ⟨b1, o1 + t * 3, none⟩ = some (.int .i64 x0.1.1) ∧ w'.cell? ⟨b1, o1 + t * 3 + 1, none⟩ = some (.int .i64 x0.1.2)) (first | exact KEEP _ hgr4 | go_keep)
          (first | (refine step_own (by rfl) (.tmp 18) (.tmp 42) _ (by rfl) w.heap.size 40 i0 _ 2 16 Try.underlying22 hi0 hz0 hz1 hz2 rfl (by omega) _ acc.length (cellsL encS acc) (by rfl) OD3.out ⟨wo.heap.size, 0, none⟩ 1 1 (encS (cutT lo hi x0)) (by rfl) (by rfl) NW.out (encS_all _) SZA.out SZC.out SZB ?_; intro v4 w4 hown4 hgr4) | fail)
        all_goals
          have OW := Lib.hid (show OwnP w.heap.size w4 v4 ((all.take (t + 1)).map (cutT lo hi)) by
            rw [ST.out]
            unfold OwnP
            have e1 : cellsL encS [cutT lo hi x0] = encS (cutT lo hi x0) := by unfold cellsL; simp
            rw [List.length_append, cells_app, e1]; exact hown4)
          have BW := Lib.hid (BX.out.grown hgr4 SZB (fun j hj => (World.ownsRow.lt OD3.out j hj).1))
          clear hown4 hgr4 KEEP
          go_wp2
          go_roundw
          case rel => exact ⟨t + 1, _, rfl, by go_num, by omega, OW, BW.out⟩
          case measure => simp [intOf]; omega
    · obtain rfl : n = t := by omega
      have s0 : decide ((n : Int) < n) = false := decide_eq_false (by omega)
      have s00 : decide (n < n) = false := decide_eq_false (by omega)
      rw [List.take_of_length_le (by rw [LN.out]; exact Nat.le_refl _)] at OV
      have CL := Lib.hid (show (all.map (cutT lo hi)).length = n by rw [List.length_map, LN.out])
      have BO := Lib.hid hB
      have COH := Lib.hid CO.out
      generalize all.map (cutT lo hi) = acc at *
      obtain ⟨A5, c5, rfl, i5, n5⟩ := own_any OV.out
      have HN := Lib.hid (refnorm_is wo A5 acc.length c5 acc i5 (by have := CL.out; omega))
      clear OV i5 n5 hB CO
      go_wp2_with fail
      refine HN.out.mono ?_
      rintro e w2 ⟨A6, c6, rfl, i6, f6, l6, b6⟩
      have sz := BO.out.size
      have RES := Lib.hid (show NewS w (cutL lo hi all) (.returned (.slice A6 (cutL lo hi all).length c6)) w2 from by
        rw [COH.out] at i6 f6 l6
        exact ⟨A6, c6, rfl, i6, fun h => by obtain ⟨g, e, q⟩ := f6 h; exact ⟨g, e, by omega⟩, l6, BO.out.trans (b6.mono sz)⟩)
      rw [COH.out]
      clear i6 f6 l6 b6
      go_wp2
      go_ret
      exact RES.out
theorem ow_sort {all : List Tg} {ow : List Int} (h : SetOk all ow) : sortU iltB (all.map fun t => t.2) = ow := by
  obtain ⟨a, -, c⟩ := sort_all (l := all.map fun t => t.2)
  refine int_unique a h.rise fun x => ?_
  rw [c, h.own, List.mem_map]
theorem mapI_take {m : List Tg} {t : Nat} (h : t < m.length) : (m.take (t + 1)).map (fun t => t.2) = (m.take t).map (fun t => t.2) ++ [(gt m t).2] := by
  rw [List.take_succ_eq_append_getElem h, List.map_append, gt_lt h]; rfl
set_option maxRecDepth 100000 in
set_option maxHeartbeats 4000000 in
/-- Owners -/
theorem rowners_is {G : Nat → Prop} (w : World) (r : Nat) (all : List Tg) (ow : List Int) (R : RefIn G w r all) (ok : SetOk all ow) (hn : all.length ≤ 100000) :
    Calls Try.prog 31 #[.pointer (some ⟨r, 0, none⟩)] w fun e w' => ∃ A c, e = .returned (.slice A ow.length c) ∧ IsAt w' A ow.length ow ∧ Below w.heap.size w w' := by
  obtain ⟨A, c, H⟩ := R
  have p0 := H.c0
  have rl := H.box.lt
  have TA := Lib.hid H.tg
  clear H
  have CO := Lib.hid (ow_sort ok)
  have RT := Lib.hid (fun (t : Nat) (h : t < all.length) => mapI_take (m := all) h)
  clear ok
  generalize hk : all.length = n at *
  have LN := Lib.hid hk
  clear hk
  go_enter Try.func31, Try.ntmps31
  go_wp2
  go_loopw [3, 4] (fun v i wr => ∃ t : Nat, i = .int .i64 t ∧ t ≤ n ∧ Hid (OwnI w wr v ((all.take t).map fun t => t.2)) ∧ Below w.heap.size w wr) (fun v i _ => n - (intOf i).toNat)
  case atStart => exact ⟨0, rfl, Nat.zero_le _, Lib.hid (OwnI.nil _ _), Below.refl _ _⟩
  case round =>
    obtain ⟨wo, rfl⟩ : ∃ wo : World, wo = wr := ⟨_, rfl⟩
    obtain ⟨t, rfl, ht, OV, hB⟩ := hrel
    have q0 := (hB.cell (p := ⟨r, 0, none⟩) rl).trans p0
    by_cases hlt : t < n
    · have s0 : decide ((t : Int) < n) = true := decide_eq_true (by omega)
      have s00 : decide (t < n) = true := decide_eq_true hlt
      have i5 : (t : Int) < n := by omega
      have W1 : IntKind.i64.wrap ((t : Int) + 1) = (t : Int) + 1 := IntWalk.i64_in _ (by omega)
      obtain ⟨b1, o1, rfl, hl1, hc1⟩ := TA.out.2 (by omega)
      obtain ⟨-, -, c2⟩ := hc1 t hlt
      replace c2 := (hB.cell (p := ⟨b1, _, none⟩) hl1).trans c2
      have ST := Lib.hid (RT.out t hlt)
      have LA := Lib.hid (show ((all.take t).map fun t => t.2).length ≤ t by rw [List.length_map, List.length_take]; omega)
      have BO := Lib.hid hB
      clear hc1
      generalize (gt all t).2 = x at *
      generalize ((all.take t).map fun t => t.2) = acc at *
      have OVH := Lib.hid OV.out
      obtain ⟨A3, c3, rfl, -⟩ := OV.out.at_
      clear OV hB
      go_wp2_with (at_builtin; refine append_num rfl _ _ rfl _ acc rfl OVH.out BO.out x _ _ rfl (by have := LA.out; omega) ?_)
      intro v4 w4 ow4 hb4
      rw [← ST.out] at ow4
      have OW := Lib.hid ow4
      have B4 := Lib.hid hb4
      clear ow4 hb4
      go_wp2
      go_roundw
      case rel => exact ⟨t + 1, by go_num, by omega, OW, B4.out⟩
      case measure => simp [intOf]; omega
    · obtain rfl : n = t := by omega
      have s0 : decide ((n : Int) < n) = false := decide_eq_false (by omega)
      have s00 : decide (n < n) = false := decide_eq_false (by omega)
      rw [List.take_of_length_le (by rw [LN.out]; exact Nat.le_refl _)] at OV
      have CL := Lib.hid (show (all.map fun t => t.2).length = n by rw [List.length_map, LN.out])
      have BO := Lib.hid hB
      have COH := Lib.hid CO.out
      generalize (all.map fun t => t.2) = acc at *
      obtain ⟨A5, c5, rfl, i5, -⟩ := OV.out.at_
      have HN := Lib.hid (sorted_is wo A5 acc.length c5 acc i5 (by have := CL.out; omega))
      clear OV i5 hB CO
      go_wp2_with fail
      refine HN.out.mono ?_
      rintro e w2 ⟨v6, rfl, o6, b6⟩
      rw [COH.out] at o6
      obtain ⟨A6, c6, rfl, i6, -⟩ := o6.at_
      have RES := Lib.hid (show ∃ A c, Ending.returned (.slice A6 ow.length c6) = .returned (.slice A ow.length c) ∧ IsAt w2 A ow.length ow ∧ Below w.heap.size w w2 from ⟨A6, c6, rfl, i6, BO.out.trans (b6.mono BO.out.size)⟩)
      clear i6 o6 b6
      go_wp2
      go_ret
      exact RES.out
end Go.Proofs.Ytjodhfehfpmfaaa.Iv
