/- ExpandFronts answers true: up to an earlier end the list is the first ones of those, with a Count the first so many of those without. -/
import Derived.Test.YtnfcchimkfnmkaaGreatDoorExMathB
import Derived.Test.YtnfcchimkfnmkaaGreatDoorExH
import Derived.RangeFuncNested
import Derived.RangeFuncBound
import Derived.RangeFuncCalls
import Derived.RangeFuncLeaves
import Derived.Shelf.Abstract
import Derived.Shelf.RegionOpen
import Derived.OwnWalkIn
import Derived.TacticsInMore
import Derived.LoopNIn
import Derived.LoopIn
import Derived.Maps.AppendAt
import Derived.ArgAppend
import Derived.Test.YtnfcchimkfnmkaaGreatDoorExFst
import Derived.Test.YtnfcchimkfnmkaaGreatDoorRuCopyO
set_option linter.unusedVariables false
namespace Go.Proofs.YtnfcchimkfnmkaaGreatDoor.Ex
open Cv St Ru Dd Mb

theorem mom_sub {r : Ru} {start from_ end_ x : Int} (h : x ∈ momL r start from_ end_) : from_ ≤ x ∧ x < hiR r end_ ∧ hasM r start x = true := by
  unfold momL cutL at h
  split at h
  · exact mem_sel.1 h
  · exact mem_sel.1 (List.mem_of_mem_take h)
end Go.Proofs.YtnfcchimkfnmkaaGreatDoor.Ex
namespace Go.Proofs.YtnfcchimkfnmkaaGreatDoor.Ex
open Cv St Ru Dd Mb

theorem mayE_of {r : Ru} {start end_ most : Int} (h : mayE r start end_ most = true) : mayR r = true ∧ St.may start = true ∧ St.may end_ = true ∧ end_ - start ≤ 316224000 ∧ 1 ≤ most ∧ most ≤ 4096 := by
  unfold mayE at h
  simp only [Bool.and_eq_true, decide_eq_true_eq] at h
  exact ⟨h.1.1.1.1, h.1.1.1.2, h.1.1.2, h.1.2, h.2⟩
theorem mayE_mk {r : Ru} {start end_ most : Int} (h1 : mayR r = true) (h2 : St.may start = true) (h3 : St.may end_ = true) (h4 : end_ - start ≤ 316224000) (h5 : 1 ≤ most) (h6 : most ≤ 4096) : mayE r start end_ most = true := by
  unfold mayE
  rw [h1, h2, h3, decide_eq_true h4, decide_eq_true (show 1 ≤ most ∧ most ≤ 4096 from ⟨h5, h6⟩)]
  rfl
/-- a list that is told: what it is -/
theorem list_ok {r : Ru} {start end_ most : Int} {l : List Int} (h : listR r start end_ most = (l, 0)) : mayE r start end_ most = true ∧ momL r start start end_ = l ∧ (l.length : Int) ≤ most := by
  unfold listR at h
  split at h
  · have := (Prod.mk.inj h).2; omega
  · rename_i c
    split at h
    · have := (Prod.mk.inj h).2; omega
    · rename_i d
      have e := (Prod.mk.inj h).1
      exact ⟨by simpa using c, e, by rw [e] at d; omega⟩
theorem list_mk {r : Ru} {start end_ most : Int} {l : List Int} (h : mayE r start end_ most = true) (e : momL r start start end_ = l) (d : (l.length : Int) ≤ most) : listR r start end_ most = (l, 0) := by
  unfold listR
  rw [if_neg (by rw [h]; decide), e, if_neg (by omega)]
/-- up to an earlier end: the first ones -/
theorem mom_less {r : Ru} {start e1 e2 : Int} (h : e1 ≤ e2) : ∃ m k, momL r start start e2 = m ++ k ∧ momL r start start e1 = m ∧ ∀ x ∈ k, e1 ≤ x := by
  have hh : hiR r e1 ≤ hiR r e2 := by unfold hiR; split <;> omega
  by_cases c : hiR r e1 ≤ start
  · refine ⟨[], momL r start start e2, rfl, ?_, ?_⟩
    · unfold momL cutL
      rw [sel_nil c]
      simp
    · intro x hx
      obtain ⟨a, b, d⟩ := mom_sub hx
      rw [has_inA] at d
      simp only [Bool.and_eq_true, Bool.or_eq_true, decide_eq_true_eq] at d
      unfold hiR at b c
      by_cases e : r.ends = true
      · rw [if_pos e] at b c
        rcases d.1.2 with q | q
        · rw [e] at q; cases q
        · omega
      · rw [if_neg e] at b c
        omega
  · have cat := sel_cat (q := hasM r start) (a := start) (b := hiR r e1) (c := hiR r e2) (by omega) hh
    have far : ∀ x ∈ selL (hasM r start) (hiR r e1) (hiR r e2), e1 ≤ x := fun x hx => by
      obtain ⟨a, b, -⟩ := mem_sel.1 hx
      unfold hiR at a b
      by_cases e : r.ends = true
      · rw [if_pos e] at a b; omega
      · rw [if_neg e] at a b; omega
    unfold momL
    rw [← cat]
    unfold cutL
    split
    · exact ⟨_, _, rfl, rfl, far⟩
    · refine ⟨(selL (hasM r start) start (hiR r e1)).take r.cnt.toNat, (selL (hasM r start) (hiR r e1) (hiR r e2)).take (r.cnt.toNat - (selL (hasM r start) start (hiR r e1)).length), ?_, rfl, fun x hx => far x (List.mem_of_mem_take hx)⟩
      rw [List.take_append]
theorem fronts_ok {r : Ru} {start end_ less : Int} {l : List Int} (h : listR r start end_ 4096 = (l, 0)) (h0 : 0 ≤ less) (h1 : less ≤ end_ - start) :
    ∃ m k, l = m ++ k ∧ listR r start (end_ - less) 4096 = (m, 0) ∧ ∀ x ∈ k, end_ - less ≤ x := by
  obtain ⟨a1, a2, a3⟩ := list_ok h
  obtain ⟨m1, m2, m3, m4, -, -⟩ := mayE_of a1
  obtain ⟨m, k, b1, b2, b3⟩ := mom_less (r := r) (start := start) (show end_ - less ≤ end_ by omega)
  rw [a2] at b1
  have s1 := of_decide_eq_true m2
  have s2 := of_decide_eq_true m3
  refine ⟨m, k, b1, list_mk (mayE_mk m1 m2 (decide_eq_true (by omega)) (by omega) (by decide) (by decide)) b2 ?_, b3⟩
  have := congrArg List.length b1
  rw [List.length_append] at this
  omega
def cntR (r : Ru) (c : Int) : Ru := { r with cnt := c, ends := false, til := 0 }
theorem cnt_may {r : Ru} {c : Int} (h : mayR (freeR r) = true) (h1 : 1 ≤ c) (h2 : c ≤ 4096) : mayR (cntR r c) = true := by
  unfold mayR at h ⊢
  simp only [Bool.and_eq_true] at h ⊢
  obtain ⟨⟨⟨⟨⟨⟨a, b⟩, d⟩, e⟩, f⟩, g⟩, i⟩ := h
  refine ⟨⟨⟨⟨⟨⟨?_, b⟩, d⟩, e⟩, f⟩, g⟩, i⟩
  have a := of_decide_eq_true a
  refine decide_eq_true ?_
  have x1 : (freeR r).freq = (cntR r c).freq := rfl
  have x2 : (freeR r).itv = (cntR r c).itv := rfl
  have x3 : (freeR r).wkst = (cntR r c).wkst := rfl
  have x4 : (cntR r c).cnt = c := rfl
  rw [x4, ← x1, ← x2, ← x3]
  omega
/-- with a Count: the first so many -/
theorem counts_ok {r : Ru} {start end_ c : Int} {l : List Int} (h : listR (freeR r) start end_ 4096 = (l, 0)) (h1 : 1 ≤ c) (h2 : c ≤ 4096) : listR (cntR r c) start end_ 4096 = (l.take c.toNat, 0) := by
  obtain ⟨a1, a2, a3⟩ := list_ok h
  obtain ⟨m1, m2, m3, m4, -, -⟩ := mayE_of a1
  have mc := cnt_may m1 h1 h2
  refine list_mk (mayE_mk mc m2 m3 m4 (by decide) (by decide)) ?_ (by rw [List.length_take]; omega)
  rw [← a2]
  have e1 : momL (freeR r) start start end_ = selL (hasM (freeR r) start) start end_ := rfl
  have e2 : momL (cntR r c) start start end_ = cutL c (selL (hasM (cntR r c) start) start end_) := rfl
  rw [e1, e2]
  unfold cutL
  rw [if_neg (by omega)]
  congr 1
  exact sel_congr fun x _ _ => less_count (r := freeR r) (c := c) m1 mc
-- ExpandMembers
end Go.Proofs.YtnfcchimkfnmkaaGreatDoor.Ex
namespace Go.Proofs.YtnfcchimkfnmkaaGreatDoor.Ex
open Go Go.RowKit Go.Shelf Cv St Ru Dd Mb
attribute [local go_sem] Oper.semAt_some

theorem row_atc {w : World} {B : Nat} {v : Value} {l : List Int} (h : w.ownsRow B 3 1 v l.length (l.map (Value.int .i64))) : ∃ A c, v = .slice A l.length c ∧ IsAt w A l.length l ∧ Fresh B A ∧ l.length ≤ c := by
  rcases h.2 with ⟨rfl, h0⟩ | ⟨g, cap, cur, rfl, hb, hg, hnc, hcm, -⟩
  · have e : l = [] := List.length_eq_zero_iff.1 h0
    subst e
    exact ⟨none, 0, rfl, IsAt.nil _ _, fun b off e => (by cases e), Nat.le_refl _⟩
  · refine ⟨some ⟨g, 0, none⟩, cap, rfl, ⟨rfl, fun h0 => ⟨g, 0, rfl, (World.ownsRow.lt h g rfl).2, fun j hj => ?_⟩⟩, fun b off e => (by cases e; exact ⟨hb, rfl⟩), hnc⟩
    rw [Nat.zero_add, World.ownsRow.cellAt h j (by omega), iat_lt hj]
    simp [hj]
/-- what List answers -/
def ListC (w : World) (p : List Int × Int) (e : Ending) (w' : World) : Prop := ∃ A c, e = .returned (.tuple #[.slice A p.1.length c, .int .i64 p.2]) ∧ IsAt w' A p.1.length p.1 ∧ p.1.length ≤ c ∧ Below w.heap.size w w'
theorem listC_nil {w w' : World} {p : List Int × Int} {x : Int} (h : ([], x) = p) (hb : Below w.heap.size w w') : ListC w p (.returned (.tuple #[.slice none 0 0, .int .i64 x])) w' := by
  subst h
  exact ⟨none, 0, rfl, IsAt.nil _ _, Nat.le_refl _, hb⟩
set_option maxRecDepth 100000 in
set_option maxHeartbeats 16000000 in
/-- expand.List -/
theorem listC_is (w : World) (S : RS) (r : Ru) (start end_ most : Int) (q : List Int × Int) (h : RuAt w S r) (hx : listR r start end_ most = q) :
    Calls Tryz.prog 14 #[S.val r, .int .i64 start, .int .i64 end_, .int .i64 most] w (ListC w q) := by
  have RA := Lib.hid h
  obtain ⟨m, hm⟩ : ∃ m, mayE r start end_ most = m := ⟨_, rfl⟩
  obtain ⟨XS, hXS⟩ : ∃ l, momL r start start end_ = l := ⟨_, rfl⟩
  have X0 := Lib.hid (fun (e : m = false) => show ([], 1) = q by rw [← hx]; unfold listR; rw [if_pos (hm.trans e)])
  have X1 := Lib.hid (fun (e : m = true) (g : most < XS.length) => show ([], 10) = q by rw [← hx]; unfold listR; rw [hXS, if_neg (by rw [hm, e]; decide), if_pos g])
  have X2 := Lib.hid (fun (e : m = true) (g : ¬ most < XS.length) => show (XS, 0) = q by rw [← hx]; unfold listR; rw [hXS, if_neg (by rw [hm, e]; decide), if_neg g])
  have XM := Lib.hid (fun (e : m = true) => show mayR r = true ∧ St.may start = true ∧ St.may end_ = true ∧ 1 ≤ most ∧ most ≤ 4096 by
    have u := hm.trans e
    unfold mayE at u
    simp only [Bool.and_eq_true, decide_eq_true_eq] at u
    exact ⟨u.1.1.1.1, u.1.1.1.2, u.1.1.2, u.2.1, u.2.2⟩)
  have HM := Lib.hid hm
  have HXS := Lib.hid hXS
  clear h hx hm hXS
  obtain ⟨n, hn⟩ : ∃ n : Nat, 9 ≤ n := ⟨9, Nat.le_refl _⟩
  refine (callsIn_wide (n := n)).1 ?_
  obtain ⟨ra6, rn6, rc6, ra7, rn7, rc7, ra8, rn8, rc8, ra9, rn9, rc9, ra10, rn10, rc10, ra11, rn11, rc11, ra12, rn12, rc12, ra13, rn13, rc13, ra14, rn14, rc14⟩ := S
  obtain ⟨rfreq, ritv, rcnt, rtil, rwkst, rends, rmon, rweek, ryday, rmday, rday, rhour, rminu, rsec, rpos⟩ := r
  show CallsIn Fence.wide n Tryz.prog 14 #[.agg #[.int .i64 rfreq, .int .i64 ritv, .int .i64 rcnt, .int .i64 rtil, .int .i64 rwkst, .bool rends, .slice ra6 rn6 rc6, .slice ra7 rn7 rc7, .slice ra8 rn8 rc8, .slice ra9 rn9 rc9, .slice ra10 rn10 rc10, .slice ra11 rn11 rc11, .slice ra12 rn12 rc12, .slice ra13 rn13 rc13, .slice ra14 rn14 rc14], .int .i64 start, .int .i64 end_, .int .i64 most] w _
  refine callsIn_of_wp_marks Tryz.func14 rfl trivial ?_ rfl
  simp only [Tryz.ntmps14, List.size_toArray, List.length_cons, List.length_nil, Nat.reduceAdd, Nat.reduceSub, Array.replicate_succ, Array.replicate_zero, List.push_toArray, List.append_toArray, List.nil_append, List.cons_append]
  refine wpIn_wide.2 ?_
  go_upto_region 1 with fail
  obtain ⟨Xr0, ⟨m1, m2, m3⟩, ⟨f2, f3⟩, B0, E0⟩ := four_cells w #[.int .i64 rfreq, .int .i64 ritv, .int .i64 rcnt, .int .i64 rtil, .int .i64 rwkst, .bool rends, .slice ra6 rn6 rc6, .slice ra7 rn7 rc7, .slice ra8 rn8 rc8, .slice ra9 rn9 rc9, .slice ra10 rn10 rc10, .slice ra11 rn11 rc11, .slice ra12 rn12 rc12, .slice ra13 rn13 rc13, .slice ra14 rn14 rc14] (.int .i64 most) (.slice none 0 0) (.int .i64 0) 25 3 22 29 _ rfl
  generalize (((w.alloc (.cells #[.int .i64 rfreq, .int .i64 ritv, .int .i64 rcnt, .int .i64 rtil, .int .i64 rwkst, .bool rends, .slice ra6 rn6 rc6, .slice ra7 rn7 rc7, .slice ra8 rn8 rc8, .slice ra9 rn9 rc9, .slice ra10 rn10 rc10, .slice ra11 rn11 rc11, .slice ra12 rn12 rc12, .slice ra13 rn13 rc13, .slice ra14 rn14 rc14] 25)).alloc (.cells #[.int .i64 most] 3)).alloc (.cells #[.slice none 0 0] 22)).alloc (.cells #[.int .i64 0] 29) = w0 at *
  have rz0 : w0.cell? ⟨w.heap.size, 0, none⟩ = some (.int .i64 rfreq) := Xr0.at_ 0 _ rfl
  have rz1 : w0.cell? ⟨w.heap.size, 1, none⟩ = some (.int .i64 ritv) := Xr0.at_ 1 _ rfl
  have rz2 : w0.cell? ⟨w.heap.size, 2, none⟩ = some (.int .i64 rcnt) := Xr0.at_ 2 _ rfl
  have rz3 : w0.cell? ⟨w.heap.size, 3, none⟩ = some (.int .i64 rtil) := Xr0.at_ 3 _ rfl
  have rz4 : w0.cell? ⟨w.heap.size, 4, none⟩ = some (.int .i64 rwkst) := Xr0.at_ 4 _ rfl
  have rz5 : w0.cell? ⟨w.heap.size, 5, none⟩ = some (.bool rends) := Xr0.at_ 5 _ rfl
  have rz6 : w0.cell? ⟨w.heap.size, 6, none⟩ = some (.slice ra6 rn6 rc6) := Xr0.at_ 6 _ rfl
  have rz7 : w0.cell? ⟨w.heap.size, 7, none⟩ = some (.slice ra7 rn7 rc7) := Xr0.at_ 7 _ rfl
  have rz8 : w0.cell? ⟨w.heap.size, 8, none⟩ = some (.slice ra8 rn8 rc8) := Xr0.at_ 8 _ rfl
  have rz9 : w0.cell? ⟨w.heap.size, 9, none⟩ = some (.slice ra9 rn9 rc9) := Xr0.at_ 9 _ rfl
  have rz10 : w0.cell? ⟨w.heap.size, 10, none⟩ = some (.slice ra10 rn10 rc10) := Xr0.at_ 10 _ rfl
  have rz11 : w0.cell? ⟨w.heap.size, 11, none⟩ = some (.slice ra11 rn11 rc11) := Xr0.at_ 11 _ rfl
  have rz12 : w0.cell? ⟨w.heap.size, 12, none⟩ = some (.slice ra12 rn12 rc12) := Xr0.at_ 12 _ rfl
  have rz13 : w0.cell? ⟨w.heap.size, 13, none⟩ = some (.slice ra13 rn13 rc13) := Xr0.at_ 13 _ rfl
  have rz14 : w0.cell? ⟨w.heap.size, 14, none⟩ = some (.slice ra14 rn14 rc14) := Xr0.at_ 14 _ rfl
  go_wp2_with fail
  refine (emay_is _ ⟨ra6, rn6, rc6, ra7, rn7, rc7, ra8, rn8, rc8, ra9, rn9, rc9, ra10, rn10, rc10, ra11, rn11, rc11, ra12, rn12, rc12, ra13, rn13, rc13, ra14, rn14, rc14⟩ ⟨rfreq, ritv, rcnt, rtil, rwkst, rends, rmon, rweek, ryday, rmday, rday, rhour, rminu, rsec, rpos⟩ start end_ most m (RA.out.below B0) HM.out).mono ?_
  rintro e w1 ⟨rfl, b1⟩
  clear rz0 rz1 rz2 rz3 rz4 rz5 rz6 rz7 rz8 rz9 rz10 rz11 rz12 rz13 rz14
  have B1 := B0.trans (b1.mono B0.size)
  have Xr1 := Xr0.below b1
  have E1 := b1.size
  have m11 := (b1.cell (p := ⟨w.heap.size + 1, 0, none⟩) (by simp; omega)).trans m1
  have m21 := (b1.cell (p := ⟨w.heap.size + 1 + 1, 0, none⟩) (by simp; omega)).trans m2
  have m31 := (b1.cell (p := ⟨w.heap.size + 1 + 1 + 1, 0, none⟩) (by simp; omega)).trans m3
  have f21 := (b1.frozen (p := ⟨w.heap.size + 1 + 1, 0, none⟩) (by simp; omega)).trans f2
  have f31 := (b1.frozen (p := ⟨w.heap.size + 1 + 1 + 1, 0, none⟩) (by simp; omega)).trans f3
  clear b1 B0 Xr0 m1 m2 m3 f2 f3
  cases m
  · have E := Lib.hid (X0.out rfl)
    have q2 : ((w1.setCell ⟨w.heap.size + 1 + 1, 0, none⟩ (.slice none 0 0)).setCell ⟨w.heap.size + 1 + 1 + 1, 0, none⟩ (.int .i64 1)).cell? ⟨w.heap.size + 1 + 1, 0, none⟩ = some (.slice none 0 0) := by rw [World.cell?_setCell_other _ _ _ _ (by simp)]; exact World.cell?_setCell_same' _ _ _ (by rw [m21]; rfl)
    have q3 : ((w1.setCell ⟨w.heap.size + 1 + 1, 0, none⟩ (.slice none 0 0)).setCell ⟨w.heap.size + 1 + 1 + 1, 0, none⟩ (.int .i64 1)).cell? ⟨w.heap.size + 1 + 1 + 1, 0, none⟩ = some (.int .i64 1) := World.cell?_setCell_same' _ _ _ (by rw [World.cell?_setCell_other _ _ _ _ (by simp), m31]; rfl)
    have BF := (B1.setCell (p := ⟨w.heap.size + 1 + 1, 0, none⟩) (by simp <;> omega) (.slice none 0 0)).setCell (p := ⟨w.heap.size + 1 + 1 + 1, 0, none⟩) (by simp <;> omega) (.int .i64 1)
    go_wp2
    exact ⟨.tuple #[.slice none 0 0, .int .i64 1], by simp [results, Tryz.f14, go_sem, q2, q3], listC_nil E.out BF⟩
  · obtain ⟨c1, c2, c3, c4, c5⟩ := XM.out rfl
    have Z1 := Lib.hid (show most < (XS.length : Int) → (([] : List Int), (10 : Int)) = q from fun g => X1.out rfl g)
    have Z2 := Lib.hid (show (XS.length : Int) ≤ most → (XS, (0 : Int)) = q from fun g => by first | exact X2.out rfl g | exact X2.out rfl (Int.not_lt.2 g))
    clear X0 XM X1 X2
    go_upto_region 4 with fail
    have y2 := alloc_below w1 (.cells #[.slice none 0 0] 22)
    have g4 : (w1.alloc (.cells #[.slice none 0 0] 22)).cell? ⟨w1.heap.size, 0, none⟩ = some (.slice none 0 0) := by rw [World.cell?_alloc_new]; rfl
    have f4 : (w1.alloc (.cells #[.slice none 0 0] 22)).frozen? ⟨w1.heap.size, 0, none⟩ = false := by simp [go_sem]
    have E2 : (w1.alloc (.cells #[.slice none 0 0] 22)).heap.size = w1.heap.size + 1 := by simp
    generalize w1.alloc (.cells #[.slice none 0 0] 22) = w2 at *
    have B2 := B1.trans (y2.mono B1.size)
    have Xr2 := Xr1.below y2
    have rz0 : w2.cell? ⟨w.heap.size, 0, none⟩ = some (.int .i64 rfreq) := Xr2.at_ 0 _ rfl
    have rz1 : w2.cell? ⟨w.heap.size, 1, none⟩ = some (.int .i64 ritv) := Xr2.at_ 1 _ rfl
    have rz2 : w2.cell? ⟨w.heap.size, 2, none⟩ = some (.int .i64 rcnt) := Xr2.at_ 2 _ rfl
    have rz3 : w2.cell? ⟨w.heap.size, 3, none⟩ = some (.int .i64 rtil) := Xr2.at_ 3 _ rfl
    have rz4 : w2.cell? ⟨w.heap.size, 4, none⟩ = some (.int .i64 rwkst) := Xr2.at_ 4 _ rfl
    have rz5 : w2.cell? ⟨w.heap.size, 5, none⟩ = some (.bool rends) := Xr2.at_ 5 _ rfl
    have rz6 : w2.cell? ⟨w.heap.size, 6, none⟩ = some (.slice ra6 rn6 rc6) := Xr2.at_ 6 _ rfl
    have rz7 : w2.cell? ⟨w.heap.size, 7, none⟩ = some (.slice ra7 rn7 rc7) := Xr2.at_ 7 _ rfl
    have rz8 : w2.cell? ⟨w.heap.size, 8, none⟩ = some (.slice ra8 rn8 rc8) := Xr2.at_ 8 _ rfl
    have rz9 : w2.cell? ⟨w.heap.size, 9, none⟩ = some (.slice ra9 rn9 rc9) := Xr2.at_ 9 _ rfl
    have rz10 : w2.cell? ⟨w.heap.size, 10, none⟩ = some (.slice ra10 rn10 rc10) := Xr2.at_ 10 _ rfl
    have rz11 : w2.cell? ⟨w.heap.size, 11, none⟩ = some (.slice ra11 rn11 rc11) := Xr2.at_ 11 _ rfl
    have rz12 : w2.cell? ⟨w.heap.size, 12, none⟩ = some (.slice ra12 rn12 rc12) := Xr2.at_ 12 _ rfl
    have rz13 : w2.cell? ⟨w.heap.size, 13, none⟩ = some (.slice ra13 rn13 rc13) := Xr2.at_ 13 _ rfl
    have rz14 : w2.cell? ⟨w.heap.size, 14, none⟩ = some (.slice ra14 rn14 rc14) := Xr2.at_ 14 _ rfl
    go_wp2_with fail
    refine (moments_is _ ⟨ra6, rn6, rc6, ra7, rn7, rc7, ra8, rn8, rc8, ra9, rn9, rc9, ra10, rn10, rc10, ra11, rn11, rc11, ra12, rn12, rc12, ra13, rn13, rc13, ra14, rn14, rc14⟩ ⟨rfreq, ritv, rcnt, rtil, rwkst, rends, rmon, rweek, ryday, rmday, rday, rhour, rminu, rsec, rpos⟩ start start end_ c1).mono ?_
    rintro e w3 ⟨he, F4, b3⟩
    clear rz0 rz1 rz2 rz3 rz4 rz5 rz6 rz7 rz8 rz9 rz10 rz11 rz12 rz13 rz14
    have b23 := y2.trans (b3.mono y2.size)
    have m1 := (b23.cell (p := ⟨w.heap.size + 1, 0, none⟩) (by simp; omega)).trans m11
    have m2 := (b23.cell (p := ⟨w.heap.size + 1 + 1, 0, none⟩) (by simp; omega)).trans m21
    have m3 := (b23.cell (p := ⟨w.heap.size + 1 + 1 + 1, 0, none⟩) (by simp; omega)).trans m31
    have f2 := (b23.frozen (p := ⟨w.heap.size + 1 + 1, 0, none⟩) (by simp; omega)).trans f21
    have f3 := (b23.frozen (p := ⟨w.heap.size + 1 + 1 + 1, 0, none⟩) (by simp; omega)).trans f31
    have g43 := (b3.cell (p := ⟨w1.heap.size, 0, none⟩) (by simp; omega)).trans g4
    have f43 := (b3.frozen (p := ⟨w1.heap.size, 0, none⟩) (by simp; omega)).trans f4
    have B3 := B2.trans (b3.mono B2.size)
    have lt4 := F4.lt
    have hb := hi_bd c1 c3
    obtain ⟨gf, lb, hv, hg, SEQ⟩ : ∃ gf lb, MomV w2.heap.size = .func (.func gf) #[] lb ∧ (∀ args w, (callFunc gf args).run Tryz.prog w = .ok (.enter gf args) w) ∧ SeqX Fence.wide (n - 1) Tryz.prog gf lb (setC w w2.heap.size) (InC w w2.heap.size ⟨ra6, rn6, rc6, ra7, rn7, rc7, ra8, rn8, rc8, ra9, rn9, rc9, ra10, rn10, rc10, ra11, rn11, rc11, ra12, rn12, rc12, ra13, rn13, rc13, ra14, rn14, rc14⟩ ⟨rfreq, ritv, rcnt, rtil, rwkst, rends, rmon, rweek, ryday, rmday, rday, rhour, rminu, rsec, rpos⟩ start start (hiR ⟨rfreq, ritv, rcnt, rtil, rwkst, rends, rmon, rweek, ryday, rmday, rday, rhour, rminu, rsec, rpos⟩ end_)) XS :=
      ⟨_, _, rfl, enters_of Tryz.func50 (by kernel_rfl) rfl, by rw [← HXS.out]; exact mom_seq w _ _ start start end_ w2.heap.size (n - 1) (by omega) RA.out c1 c2 c2 (Int.le_refl _) hb.1 hb.2⟩
    rw [hv] at he
    subst he
    clear hv
    obtain ⟨hi, hhi⟩ : ∃ x, hiR ⟨rfreq, ritv, rcnt, rtil, rwkst, rends, rmon, rweek, ryday, rmday, rday, rhour, rminu, rsec, rpos⟩ end_ = x := ⟨_, rfl⟩
    rw [hhi] at SEQ F4
    have IC : InC w w2.heap.size ⟨ra6, rn6, rc6, ra7, rn7, rc7, ra8, rn8, rc8, ra9, rn9, rc9, ra10, rn10, rc10, ra11, rn11, rc11, ra12, rn12, rc12, ra13, rn13, rc13, ra14, rn14, rc14⟩ ⟨rfreq, ritv, rcnt, rtil, rwkst, rends, rmon, rweek, ryday, rmday, rday, rhour, rminu, rsec, rpos⟩ start start hi w3 := ⟨B2.size, B3, F4⟩
    have E3 := b3.size
    have SB := B1.size
    clear hhi hb m11 m21 m31 f21 f31 g4 f4 b23 y2 b3 B1 B2 Xr1 Xr2 F4 HXS
    go_wp2
    refine wpIn_wide (n := n).1 ?_
    refine wpIn_rangeX (n := n) rfl (by omega) (gf := gf) (lb := lb) rfl trivial hg SEQ (fun k hk => by
        rcases hk with h | h <;> omega) (fun W' hk => IC.keeps hk fun k hc => by
        rcases hc with h | h <;> omega)
      (ListI w most w1.heap.size w3.heap.size) (ListX w most XS) (listI_foot (by omega) (by omega)) listX_foot
      ⟨B3, fun _ _ h => h, Nat.le_refl _, m1, m2, m3, f2, f3, ⟨_, g43, World.ownsRow_nil _ _ _ _, fun g e => by cases e⟩, f43, by simp; omega⟩
      (fun x => { tmps := #[.agg #[.int .i64 rfreq, .int .i64 ritv, .int .i64 rcnt, .int .i64 rtil, .int .i64 rwkst, .bool rends, .slice ra6 rn6 rc6, .slice ra7 rn7 rc7, .slice ra8 rn8 rc8, .slice ra9 rn9 rc9, .slice ra10 rn10 rc10, .slice ra11 rn11 rc11, .slice ra12 rn12 rc12, .slice ra13 rn13 rc13, .slice ra14 rn14 rc14], .int .i64 start, .int .i64 end_, .int .i64 most, .pointer (some ⟨w.heap.size, 0, none⟩), undef, undef, .pointer (some ⟨w.heap.size + 1, 0, none⟩), .pointer (some ⟨w.heap.size + 1 + 1, 0, none⟩), .pointer (some ⟨w.heap.size + 1 + 1 + 1, 0, none⟩), .pointer (some ⟨w1.heap.size, 0, none⟩), .int .i64 x, .agg #[.int .i64 rfreq, .int .i64 ritv, .int .i64 rcnt, .int .i64 rtil, .int .i64 rwkst, .bool rends, .slice ra6 rn6 rc6, .slice ra7 rn7 rc7, .slice ra8 rn8 rc8, .slice ra9 rn9 rc9, .slice ra10 rn10 rc10, .slice ra11 rn11 rc11, .slice ra12 rn12 rc12, .slice ra13 rn13 rc13, .slice ra14 rn14 rc14], .int .i64 start, .int .i64 end_, .int .i64 most, .bool true, .bool false, .agg #[.int .i64 rfreq, .int .i64 ritv, .int .i64 rcnt, .int .i64 rtil, .int .i64 rwkst, .bool rends, .slice ra6 rn6 rc6, .slice ra7 rn7 rc7, .slice ra8 rn8 rc8, .slice ra9 rn9 rc9, .slice ra10 rn10 rc10, .slice ra11 rn11 rc11, .slice ra12 rn12 rc12, .slice ra13 rn13 rc13, .slice ra14 rn14 rc14], .int .i64 start, .int .i64 start, .int .i64 end_, .func (.func gf) #[] lb, .int .i64 x, undef, undef, undef, undef, undef, undef, undef, undef, undef], defers := [] }) ?assign ?body ?done ?stop
    case assign =>
      intro l0 x W2 K hK
      gi_wp2
      exact hK
    case body =>
      rintro l0 X pre x W2 M hX hXC hXD hXL hpre
      obtain ⟨v, v1, v2, v3⟩ := M.v
      obtain ⟨A, c, rfl, ia, fr⟩ := row_at v2
      have mm := M.m
      have mr2 := M.r2
      have mr3 := M.r3
      have mf2 := M.f2
      have mf3 := M.f3
      have mf4 := M.f4
      have sz := M.size
      have LE := M.le
      have n2 := M.far (w.heap.size + 1 + 1) (.inl (by omega))
      have n3 := M.far (w.heap.size + 1 + 1 + 1) (.inl (by omega))
      have n4 := M.far w1.heap.size (.inr rfl)
      obtain ⟨k, hk⟩ : ∃ k, pre.length = k := ⟨_, rfl⟩
      have HK := Lib.hid hk
      rw [hk] at v1 LE
      have V2 := Lib.hid v2
      have IA := Lib.hid ia
      have V3 := Lib.hid v3
      have MM := Lib.hid M
      have LONG := Lib.hid (fun (q : (k : Int) = most) => show most < XS.length by
        have := hpre.length_le
        rw [List.length_append, hk] at this
        simp at this
        omega)
      clear v2 ia v3 M hk fr
      by_cases hc : (k : Int) = most
      · have t0 : ((k : Int) == most) = true := by rw [beq_iff_eq]; exact hc
        have L := Lib.hid (LONG.out hc)
        clear LONG hc
        have q2 : ((W2.setCell ⟨w.heap.size + 1 + 1, 0, none⟩ (.slice none 0 0)).setCell ⟨w.heap.size + 1 + 1 + 1, 0, none⟩ (.int .i64 10)).cell? ⟨w.heap.size + 1 + 1, 0, none⟩ = some (.slice none 0 0) := by rw [World.cell?_setCell_other _ _ _ _ (by simp)]; exact World.cell?_setCell_same' _ _ _ (by rw [mr2]; rfl)
        have q3 : ((W2.setCell ⟨w.heap.size + 1 + 1, 0, none⟩ (.slice none 0 0)).setCell ⟨w.heap.size + 1 + 1 + 1, 0, none⟩ (.int .i64 10)).cell? ⟨w.heap.size + 1 + 1 + 1, 0, none⟩ = some (.int .i64 10) := World.cell?_setCell_same' _ _ _ (by rw [World.cell?_setCell_other _ _ _ _ (by simp), mr3]; rfl)
        have BF := (MM.out.below.setCell (p := ⟨w.heap.size + 1 + 1, 0, none⟩) (by simp <;> omega) (.slice none 0 0)).setCell (p := ⟨w.heap.size + 1 + 1 + 1, 0, none⟩) (by simp <;> omega) (.int .i64 10)
        have nC : ∀ j, j < w1.heap.size + 1 → w.heap.size ≤ j → ¬ setC w w2.heap.size j := fun j a b h => by rcases h with h | h <;> omega
        have KF : Keeps (fun k => X k ∨ setC w w2.heap.size k) W2 ((W2.setCell ⟨w.heap.size + 1 + 1, 0, none⟩ (.slice none 0 0)).setCell ⟨w.heap.size + 1 + 1 + 1, 0, none⟩ (.int .i64 10)) :=
          (Keeps.setCell _ _ _ (fun h => h.elim n2 (nC _ (by simp; omega) (by simp; omega)))).trans (Keeps.setCell _ _ _ (fun h => h.elim n3 (nC _ (by simp; omega) (by simp; omega))))
        have FR := MM.out.far
        have SZ : w.heap.size + 4 ≤ ((W2.setCell ⟨w.heap.size + 1 + 1, 0, none⟩ (.slice none 0 0)).setCell ⟨w.heap.size + 1 + 1 + 1, 0, none⟩ (.int .i64 10)).heap.size := by simp; omega
        gi_wp2
        exact ⟨KF, rfl, BF, SZ, fun k h => FR k (.inl h), q2, q3, L.out⟩
      · have t0 : ((k : Int) == most) = false := by rw [beq_eq_false_iff_ne]; exact hc
        have L := Lib.hid (show ((pre ++ [x]).length : Int) ≤ most by rw [List.length_append, HK.out]; simp; omega)
        clear LONG hc
        gi_wp2_with (gi_at_builtin; refine wpListIn_append_x _ rfl _ _ rfl w3.heap.size _ pre (by rw [HK.out]; rfl) (World.ownsRow.alloc V2.out _) ⟨W2.heap.size, 0, none⟩ 1 x rfl (cell_one_new _ _ _) (by simp; omega) (by have := HK.out; omega) ?_; intro v' w5 hown' hgrow hnew; obtain ⟨g', cap', rfl⟩ := ownsRow_succ (k := k) (by have q := hown'; rw [List.length_append, HK.out] at q; exact q); have K5 : Keeps (fun j => X j ∨ j < w3.heap.size) W2 w5 := (Keeps.alloc W2 _).trans (Keeps.grown hgrow (fun b e h => h.elim (V3.out b e) (fun h => by have := (World.ownsRow.lt V2.out b e).1; omega))); have G5 := K5.cell (p := ⟨w1.heap.size, 0, none⟩) (.inr (by simp; omega)) v1; have F5 := K5.frozen (p := ⟨w1.heap.size, 0, none⟩) (.inr (by simp; omega)) v1 mf4; have HN := Lib.hid hnew; have HO := Lib.hid hown'; clear hnew hown' hgrow)
        have KF : Keeps (fun k => X k ∨ setC w w2.heap.size k) W2 (w5.setCell ⟨w1.heap.size, 0, none⟩ (.slice (some ⟨g', 0, none⟩) (k + 1) cap')) :=
          (K5.mono (Y := fun k => X k ∨ setC w w2.heap.size k) fun j h => by
            rcases h with h | h | h
            · exact .inl h
            · exact .inr (by omega)
            · exact .inr (by omega)).trans (Keeps.setCell _ _ _ (fun h => by
            rcases h with h | h | h
            · exact n4 h
            · simp at h; omega
            · simp at h; omega))
        have RW : w5.ownsRow w3.heap.size 3 1 (.slice (some ⟨g', 0, none⟩) (k + 1) cap') (pre ++ [x]).length ((pre ++ [x]).map (Value.int .i64)) := HO.out
        have SK := K5.size
        refine ⟨KF, ⟨(MM.out.below.trans ((K5.mono (Y := fun j => j < w.heap.size) (fun j h => .inr (by omega))).below MM.out.below.size)).setCell (p := ⟨w1.heap.size, 0, none⟩) (by simp; omega) _, MM.out.far, by simp; omega, ?_, ?_, ?_, ?_, ?_, ⟨_, World.cell?_setCell_same' _ _ _ (by rw [G5]; rfl), row_keeps RW fun b o e ho => (Below.heap_setCell _ _ _ _ (by have := (World.ownsRow.lt RW b e).1; simp; omega)).trans ho, fun b e hb => ?_⟩, by rw [World.frozen?_setCell]; exact F5, L.out⟩⟩
        · rw [World.cell?_setCell_other _ _ _ _ (by simp <;> omega)]; exact K5.cell (.inr (by simp; omega)) mm
        · rw [World.cell?_setCell_other _ _ _ _ (by simp <;> omega)]; exact K5.cell (.inr (by simp; omega)) mr2
        · rw [World.cell?_setCell_other _ _ _ _ (by simp <;> omega)]; exact K5.cell (.inr (by simp; omega)) mr3
        · rw [World.frozen?_setCell]; exact K5.frozen (.inr (by simp; omega)) mr2 mf2
        · rw [World.frozen?_setCell]; exact K5.frozen (.inr (by simp; omega)) mr3 mf3
        · rcases HN.out b e with q | q
          · exact V3.out b q hb
          · have := hX b hb
            simp at q
            omega
    case done =>
      rintro D W3 hD M hK
      obtain ⟨v, v1, v2, v3⟩ := M.v
      obtain ⟨A, c, rfl, -, -, cap⟩ := row_atc v2
      have LE := M.le
      have E := Lib.hid (Z2.out LE)
      have mr2 := M.r2
      have mr3 := M.r3
      have mf2 := M.f2
      have mf3 := M.f3
      have sz := M.size
      have DL := (Array.getElem?_eq_some_iff.1 hK).1
      obtain ⟨W4, h4⟩ : ∃ W4, (W3.setCell ⟨w.heap.size + 1 + 1, 0, none⟩ (.slice A XS.length c)).setCell ⟨w.heap.size + 1 + 1 + 1, 0, none⟩ (.int .i64 0) = W4 := ⟨_, rfl⟩
      have hK4 : W4.heap[D]? = some (.deferred (some [])) := by
        rw [← h4]
        exact (Below.heap_setCell _ _ _ _ (by simp; omega)).trans ((Below.heap_setCell _ _ _ _ (by simp; omega)).trans hK)
      have q2 : (W4.putObj D (.deferred none)).cell? ⟨w.heap.size + 1 + 1, 0, none⟩ = some (.slice A XS.length c) := by
        refine (World.cell?_of_block (w := W4) (World.putObj_heap_other (by simp; omega))).trans ?_
        rw [← h4, World.cell?_setCell_other _ _ _ _ (by simp)]
        exact World.cell?_setCell_same' _ _ _ (by rw [mr2]; rfl)
      have q3 : (W4.putObj D (.deferred none)).cell? ⟨w.heap.size + 1 + 1 + 1, 0, none⟩ = some (.int .i64 0) := by
        refine (World.cell?_of_block (w := W4) (World.putObj_heap_other (by simp; omega))).trans ?_
        rw [← h4]
        exact World.cell?_setCell_same' _ _ _ (by rw [World.cell?_setCell_other _ _ _ _ (by simp), mr3]; rfl)
      have RW := row_keeps (w' := W4.putObj D (.deferred none)) v2 fun b o e ho => by
        have lo := (World.ownsRow.lt v2 b e).1
        have nd : b ≠ D := v3 b e
        rw [World.putObj_heap_other nd, ← h4]
        exact (Below.heap_setCell _ _ _ _ (by simp; omega)).trans ((Below.heap_setCell _ _ _ _ (by simp; omega)).trans ho)
      obtain ⟨A2, c2, e2, ia, -⟩ := row_at RW
      injection e2 with e3 _ e4
      subst e3 e4
      have BF : Below w.heap.size w (W4.putObj D (.deferred none)) := by
        have b4 : Below w.heap.size w W4 := by
          rw [← h4]
          exact (M.below.setCell (p := ⟨w.heap.size + 1 + 1, 0, none⟩) (by simp <;> omega) _).setCell (p := ⟨w.heap.size + 1 + 1 + 1, 0, none⟩) (by simp <;> omega) _
        exact b4.trans ((Keeps.putObj (X := fun k => k < w.heap.size) W4 D _ (by omega)).below b4.size)
      have IA := Lib.hid ia
      clear ia v2 v3 RW M
      go_wp2
      refine ⟨by simp, .inl ⟨_, _, rfl, run_takeDeferred hK4, ?_⟩⟩
      have eq := E.out
      subst eq
      exact ⟨.tuple #[.slice A XS.length c, .int .i64 0], by simp [results, Tryz.f14, go_sem, q2, q3], A, c, rfl, IA.out, cap, BF⟩
    case stop =>
      rintro D cc pre W3 hD hpre M hK
      obtain rfl := M.e
      have E := Lib.hid (Z1.out M.long)
      have sz := M.size
      have q2 : (W3.putObj D (.deferred none)).cell? ⟨w.heap.size + 1 + 1, 0, none⟩ = some (.slice none 0 0) := (World.cell?_of_block (w := W3) (World.putObj_heap_other (by simp; omega))).trans M.r2
      have q3 : (W3.putObj D (.deferred none)).cell? ⟨w.heap.size + 1 + 1 + 1, 0, none⟩ = some (.int .i64 10) := (World.cell?_of_block (w := W3) (World.putObj_heap_other (by simp; omega))).trans M.r3
      have BF : Below w.heap.size w (W3.putObj D (.deferred none)) := M.below.trans ((Keeps.putObj (X := fun k => k < w.heap.size) W3 D _ (by omega)).below M.below.size)
      clear M
      gi_wp2
      refine ⟨by simp, .inl ⟨_, _, rfl, run_takeDeferred hK, ?_⟩⟩
      exact ⟨.tuple #[.slice none 0 0, .int .i64 10], by simp [results, Tryz.f14, go_sem, q2, q3], listC_nil E.out BF⟩
end Go.Proofs.YtnfcchimkfnmkaaGreatDoor.Ex
namespace Go.Proofs.YtnfcchimkfnmkaaGreatDoor.Ex
open Go.RowKit Cv St Ru Dd Mb

theorem list_max {r : Ru} {start end_ : Int} {l : List Int} {x : Int} (hp : listR r start end_ 4096 = (l, x)) : (l.length : Int) ≤ 4096 := by
  unfold listR at hp
  split at hp
  · rw [← (Prod.mk.inj hp).1]; simp
  · split at hp
    · rw [← (Prod.mk.inj hp).1]; simp
    · rename_i d
      rw [← (Prod.mk.inj hp).1]; omega
theorem ints_hid (w : World) (A B : Option Addr) (n c m d : Nat) (l k : List Int) (hl : IsAt w A n l) (hk : IsAt w B m k) (h1 : n ≤ 9223372036854775807) (h2 : m ≤ 9223372036854775807) (p : Bool) (hp : decide (l = k) = p) :
    Calls Tryz.prog 19 #[.slice A n c, .slice B m d] w fun e w' => e = .returned (.bool p) ∧ Below w.heap.size w w' := hp ▸ ints_any w A B n c m d l k hl hk h1 h2
theorem is_take {W : World} {A : Option Addr} {n m : Nat} {l : List Int} (h : IsAt W A n l) (hm : m ≤ n) : IsAt W A m (l.take m) := by
  refine ⟨by rw [List.length_take]; have := h.1; omega, fun h0 => ?_⟩
  obtain ⟨b, off, e, hlt, hc⟩ := h.2 (by omega)
  refine ⟨b, off, e, hlt, fun j hj => ?_⟩
  rw [hc j (by omega), iat_lt (by have := h.1; omega), iat_lt (by rw [List.length_take]; have := h.1; omega), List.getElem_take]
/-- the cells of a list that is read -/
structure CellsAt (w : World) (bl off m : Nat) (l : List Int) : Prop where
  lt : bl < w.heap.size
  at_ : ∀ j, j < m → w.cell? ⟨bl, off + j, none⟩ = some (.int .i64 (iat l j))
theorem CellsAt.below {w w' : World} {bl off m : Nat} {l : List Int} (h : CellsAt w bl off m l) (hb : Below w.heap.size w w') : CellsAt w' bl off m l :=
  ⟨Nat.lt_of_lt_of_le h.lt hb.size, fun j hj => (hb.cell (p := ⟨bl, _, none⟩) h.lt).trans (h.at_ j hj)⟩
theorem cells_of {w : World} {A : Option Addr} {m : Nat} {l : List Int} (h : IsAt w A m l) (h0 : 0 < m) : ∃ bl off, A = some ⟨bl, off, none⟩ ∧ CellsAt w bl off m l := by
  obtain ⟨bl, off, e, lt, hc⟩ := h.2 h0
  exact ⟨bl, off, e, lt, hc⟩
structure FrontOk (start end_ less v : Int) (l m : List Int) (y : Int) : Prop where
  y0 : y = 0
  len : m.length ≤ l.length
  take : l.take m.length = m
  far : m.length < l.length → v ≤ iat l m.length
theorem front_ok {r : Ru} {start end_ less d v y : Int} {l m : List Int} (h : listR r start end_ 4096 = (l, 0)) (hd : IntKind.i64.wrap (end_ - start) = d) (hv : IntKind.i64.wrap (end_ - less) = v) (hm : listR r start v 4096 = (m, y)) (h0 : 0 ≤ less) (h1 : less ≤ d) : FrontOk start end_ less v l m y := by
  obtain ⟨-, m2, m3, m4, -, -⟩ := mayE_of (list_ok h).1
  have s1 := of_decide_eq_true m2
  have s2 := of_decide_eq_true m3
  rw [IntWalk.i64_in _ (by omega)] at hd
  rw [IntWalk.i64_in _ (by omega)] at hv
  obtain ⟨a, k, e, g, f⟩ := fronts_ok h h0 (by omega : less ≤ end_ - start)
  rw [hv] at g f
  rw [g] at hm
  obtain ⟨rfl, rfl⟩ := Prod.mk.inj hm
  refine ⟨rfl, by rw [e, List.length_append]; omega, by rw [e]; simp, fun q => ?_⟩
  have q2 := q
  rw [e, List.length_append] at q2
  rw [iat_lt q]
  refine f _ ?_
  have : l[a.length] = k[0]'(by omega) := by
    simp only [e]
    rw [List.getElem_append_right (Nat.le_refl _)]
    simp
  rw [this]
  exact List.getElem_mem _
set_option maxRecDepth 100000 in
set_option maxHeartbeats 16000000 in
theorem fronts_walk (w : World) (T : Tabs w) (S : RS) (r : Ru) (start end_ less count : Int) (h : RuIn w S r) :
    Calls Tryz.prog 5 #[S.val r, .int .i64 start, .int .i64 end_, .int .i64 less, .int .i64 count] w fun e w' => e = .returned (.bool true) ∧ Below w.heap.size w w' := by
  have TT := Lib.hid T
  have HK := Lib.hid h
  have FEW := Lib.hid (fun (e : fewB S = true) => h.few e)
  obtain ⟨⟨l, x⟩, hp⟩ : ∃ p, listR r start end_ 4096 = p := ⟨_, rfl⟩
  have HP := Lib.hid hp
  have LB4 := Lib.hid (list_max hp)
  obtain ⟨d, hd⟩ : ∃ d, IntKind.i64.wrap (end_ - start) = d := ⟨_, rfl⟩
  obtain ⟨v, hv⟩ : ∃ v, IntKind.i64.wrap (end_ - less) = v := ⟨_, rfl⟩
  have WD := Lib.hid hd
  have WV := Lib.hid hv
  obtain ⟨⟨m, y⟩, hm⟩ : ∃ p, listR r start v 4096 = p := ⟨_, rfl⟩
  have HM := Lib.hid hm
  have FO := Lib.hid (fun (e : x = 0) (g0 : 0 ≤ less) (g1 : less ≤ d) => front_ok (r := r) (l := l) (show listR r start end_ 4096 = (l, 0) by rw [hp, e]) hd hv hm g0 g1)
  obtain ⟨⟨qx, z⟩, hq⟩ : ∃ p, listR (cntR r count) start end_ 4096 = p := ⟨_, rfl⟩
  have HQ := Lib.hid hq
  obtain ⟨⟨px, u⟩, hf⟩ : ∃ p, listR (freeR r) start end_ 4096 = p := ⟨_, rfl⟩
  have HF := Lib.hid hf
  have PB4 := Lib.hid (list_max hf)
  have CO := Lib.hid (fun (e : u = 0) (g0 : 1 ≤ count) (g1 : count ≤ 4096) => show qx = px.take count.toNat ∧ z = 0 by
    have c := counts_ok (r := r) (start := start) (end_ := end_) (c := count) (l := px) (by rw [hf, e]) g0 g1
    rw [hq] at c
    exact ⟨(Prod.mk.inj c).1, (Prod.mk.inj c).2⟩)
  clear hp hd hv hm hq hf
  clear h T
  obtain ⟨ra6, rn6, rc6, ra7, rn7, rc7, ra8, rn8, rc8, ra9, rn9, rc9, ra10, rn10, rc10, ra11, rn11, rc11, ra12, rn12, rc12, ra13, rn13, rc13, ra14, rn14, rc14⟩ := S
  obtain ⟨rfreq, ritv, rcnt, rtil, rwkst, rends, rmon, rweek, ryday, rmday, rday, rhour, rminu, rsec, rpos⟩ := r
  show Calls Tryz.prog 5 #[.agg #[.int .i64 rfreq, .int .i64 ritv, .int .i64 rcnt, .int .i64 rtil, .int .i64 rwkst, .bool rends, .slice ra6 rn6 rc6, .slice ra7 rn7 rc7, .slice ra8 rn8 rc8, .slice ra9 rn9 rc9, .slice ra10 rn10 rc10, .slice ra11 rn11 rc11, .slice ra12 rn12 rc12, .slice ra13 rn13 rc13, .slice ra14 rn14 rc14], .int .i64 start, .int .i64 end_, .int .i64 less, .int .i64 count] w _
  go_enter Tryz.func5, Tryz.ntmps5
  go_upto_region 1 with fail
  have B0 := alloc_below w (.cells #[.int .i64 rfreq, .int .i64 ritv, .int .i64 rcnt, .int .i64 rtil, .int .i64 rwkst, .bool rends, .slice ra6 rn6 rc6, .slice ra7 rn7 rc7, .slice ra8 rn8 rc8, .slice ra9 rn9 rc9, .slice ra10 rn10 rc10, .slice ra11 rn11 rc11, .slice ra12 rn12 rc12, .slice ra13 rn13 rc13, .slice ra14 rn14 rc14] 25)
  have Xr0 := Box.new w #[.int .i64 rfreq, .int .i64 ritv, .int .i64 rcnt, .int .i64 rtil, .int .i64 rwkst, .bool rends, .slice ra6 rn6 rc6, .slice ra7 rn7 rc7, .slice ra8 rn8 rc8, .slice ra9 rn9 rc9, .slice ra10 rn10 rc10, .slice ra11 rn11 rc11, .slice ra12 rn12 rc12, .slice ra13 rn13 rc13, .slice ra14 rn14 rc14] 25
  generalize w.alloc (.cells #[.int .i64 rfreq, .int .i64 ritv, .int .i64 rcnt, .int .i64 rtil, .int .i64 rwkst, .bool rends, .slice ra6 rn6 rc6, .slice ra7 rn7 rc7, .slice ra8 rn8 rc8, .slice ra9 rn9 rc9, .slice ra10 rn10 rc10, .slice ra11 rn11 rc11, .slice ra12 rn12 rc12, .slice ra13 rn13 rc13, .slice ra14 rn14 rc14] 25) = w0 at *
  go_wp2_with fail
  refine (first8_is _ (TT.out.on B0)).mono ?_
  rintro e w1 ⟨rfl, b1⟩
  have B1 := B0.trans (b1.mono B0.size)
  have Xr1 := Xr0.below b1
  clear B0 Xr0
  clear b1
  have HQ := Lib.hid (show listR ⟨rfreq, ritv, count, 0, rwkst, false, rmon, rweek, ryday, rmday, rday, rhour, rminu, rsec, rpos⟩ start end_ 4096 = (qx, z) from HQ.out)
  have HF := Lib.hid (show listR ⟨rfreq, ritv, 0, 0, rwkst, false, rmon, rweek, ryday, rmday, rday, rhour, rminu, rsec, rpos⟩ start end_ 4096 = (px, u) from HF.out)
  have rz0 : w1.cell? ⟨w.heap.size, 0, none⟩ = some (.int .i64 rfreq) := Xr1.at_ 0 _ rfl
  have rz1 : w1.cell? ⟨w.heap.size, 1, none⟩ = some (.int .i64 ritv) := Xr1.at_ 1 _ rfl
  have rz2 : w1.cell? ⟨w.heap.size, 2, none⟩ = some (.int .i64 rcnt) := Xr1.at_ 2 _ rfl
  have rz3 : w1.cell? ⟨w.heap.size, 3, none⟩ = some (.int .i64 rtil) := Xr1.at_ 3 _ rfl
  have rz4 : w1.cell? ⟨w.heap.size, 4, none⟩ = some (.int .i64 rwkst) := Xr1.at_ 4 _ rfl
  have rz5 : w1.cell? ⟨w.heap.size, 5, none⟩ = some (.bool rends) := Xr1.at_ 5 _ rfl
  have rz6 : w1.cell? ⟨w.heap.size, 6, none⟩ = some (.slice ra6 rn6 rc6) := Xr1.at_ 6 _ rfl
  have rz7 : w1.cell? ⟨w.heap.size, 7, none⟩ = some (.slice ra7 rn7 rc7) := Xr1.at_ 7 _ rfl
  have rz8 : w1.cell? ⟨w.heap.size, 8, none⟩ = some (.slice ra8 rn8 rc8) := Xr1.at_ 8 _ rfl
  have rz9 : w1.cell? ⟨w.heap.size, 9, none⟩ = some (.slice ra9 rn9 rc9) := Xr1.at_ 9 _ rfl
  have rz10 : w1.cell? ⟨w.heap.size, 10, none⟩ = some (.slice ra10 rn10 rc10) := Xr1.at_ 10 _ rfl
  have rz11 : w1.cell? ⟨w.heap.size, 11, none⟩ = some (.slice ra11 rn11 rc11) := Xr1.at_ 11 _ rfl
  have rz12 : w1.cell? ⟨w.heap.size, 12, none⟩ = some (.slice ra12 rn12 rc12) := Xr1.at_ 12 _ rfl
  have rz13 : w1.cell? ⟨w.heap.size, 13, none⟩ = some (.slice ra13 rn13 rc13) := Xr1.at_ 13 _ rfl
  have rz14 : w1.cell? ⟨w.heap.size, 14, none⟩ = some (.slice ra14 rn14 rc14) := Xr1.at_ 14 _ rfl
  go_wp2_with fail
  refine (light8_is _ ⟨ra6, rn6, rc6, ra7, rn7, rc7, ra8, rn8, rc8, ra9, rn9, rc9, ra10, rn10, rc10, ra11, rn11, rc11, ra12, rn12, rc12, ra13, rn13, rc13, ra14, rn14, rc14⟩ ⟨rfreq, ritv, rcnt, rtil, rwkst, rends, rmon, rweek, ryday, rmday, rday, rhour, rminu, rsec, rpos⟩ start end_ (in_below HK.out B1)).mono ?_
  rintro e w2 ⟨⟨lb, rfl, HB⟩, b2⟩
  clear rz0 rz1 rz2 rz3 rz4 rz5 rz6 rz7 rz8 rz9 rz10 rz11 rz12 rz13 rz14
  have B2 := B1.trans (b2.mono B1.size)
  have Xr2 := Xr1.below b2
  clear B1 Xr1
  clear b2
  have LB := Lib.hid HB
  clear HB
  cases lb
  · go_wp2_with fail
    refine (first8_is _ (TT.out.on B2)).mono ?_
    rintro e w3 ⟨rfl, b3⟩
    have B3 := B2.trans (b3.mono B2.size)
    have Xr3 := Xr2.below b3
    clear B2 Xr2
    clear b3
    go_wp2
    go_ret
    exact ⟨rfl, B3⟩
  · have X1 := Lib.hid (LB.out rfl)
    clear LB
    have RA := Lib.hid (FEW.out X1.out)
    have WDo := WD.out
    by_cases h0 : less < 0
    · have t0 : decide (less < 0) = true := decide_eq_true h0
      clear h0
      go_wp2_with fail
      refine (first8_is _ (TT.out.on B2)).mono ?_
      rintro e w3 ⟨rfl, b3⟩
      have B3 := B2.trans (b3.mono B2.size)
      have Xr3 := Xr2.below b3
      clear B2 Xr2
      clear b3
      go_wp2
      go_ret
      exact ⟨rfl, B3⟩
    have t0 : decide (less < 0) = false := decide_eq_false h0
    by_cases h1 : d < less
    · have t1 : decide (d < less) = true := decide_eq_true h1
      clear h1
      go_wp2_with fail
      refine (first8_is _ (TT.out.on B2)).mono ?_
      rintro e w3 ⟨rfl, b3⟩
      have B3 := B2.trans (b3.mono B2.size)
      have Xr3 := Xr2.below b3
      clear B2 Xr2
      clear b3
      go_wp2
      go_ret
      exact ⟨rfl, B3⟩
    have t1 : decide (d < less) = false := decide_eq_false h1
    by_cases h2 : count < 1
    · have t2 : decide (count < 1) = true := decide_eq_true h2
      clear h2
      go_wp2_with fail
      refine (first8_is _ (TT.out.on B2)).mono ?_
      rintro e w3 ⟨rfl, b3⟩
      have B3 := B2.trans (b3.mono B2.size)
      have Xr3 := Xr2.below b3
      clear B2 Xr2
      clear b3
      go_wp2
      go_ret
      exact ⟨rfl, B3⟩
    have t2 : decide (count < 1) = false := decide_eq_false h2
    by_cases h3 : 4096 < count
    · have t3 : decide (4096 < count) = true := decide_eq_true h3
      clear h3
      go_wp2_with fail
      refine (first8_is _ (TT.out.on B2)).mono ?_
      rintro e w3 ⟨rfl, b3⟩
      have B3 := B2.trans (b3.mono B2.size)
      have Xr3 := Xr2.below b3
      clear B2 Xr2
      clear b3
      go_wp2
      go_ret
      exact ⟨rfl, B3⟩
    have t3 : decide (4096 < count) = false := decide_eq_false h3
    have FO := Lib.hid (fun (e : x = 0) => FO.out e (by omega) (by omega))
    have CO := Lib.hid (fun (e : u = 0) => CO.out e (by omega) (by omega))
    have CB := Lib.hid (show 1 ≤ count ∧ count ≤ 4096 by omega)
    clear h0 h1 h2 h3
    have rz0 : w2.cell? ⟨w.heap.size, 0, none⟩ = some (.int .i64 rfreq) := Xr2.at_ 0 _ rfl
    have rz1 : w2.cell? ⟨w.heap.size, 1, none⟩ = some (.int .i64 ritv) := Xr2.at_ 1 _ rfl
    have rz2 : w2.cell? ⟨w.heap.size, 2, none⟩ = some (.int .i64 rcnt) := Xr2.at_ 2 _ rfl
    have rz3 : w2.cell? ⟨w.heap.size, 3, none⟩ = some (.int .i64 rtil) := Xr2.at_ 3 _ rfl
    have rz4 : w2.cell? ⟨w.heap.size, 4, none⟩ = some (.int .i64 rwkst) := Xr2.at_ 4 _ rfl
    have rz5 : w2.cell? ⟨w.heap.size, 5, none⟩ = some (.bool rends) := Xr2.at_ 5 _ rfl
    have rz6 : w2.cell? ⟨w.heap.size, 6, none⟩ = some (.slice ra6 rn6 rc6) := Xr2.at_ 6 _ rfl
    have rz7 : w2.cell? ⟨w.heap.size, 7, none⟩ = some (.slice ra7 rn7 rc7) := Xr2.at_ 7 _ rfl
    have rz8 : w2.cell? ⟨w.heap.size, 8, none⟩ = some (.slice ra8 rn8 rc8) := Xr2.at_ 8 _ rfl
    have rz9 : w2.cell? ⟨w.heap.size, 9, none⟩ = some (.slice ra9 rn9 rc9) := Xr2.at_ 9 _ rfl
    have rz10 : w2.cell? ⟨w.heap.size, 10, none⟩ = some (.slice ra10 rn10 rc10) := Xr2.at_ 10 _ rfl
    have rz11 : w2.cell? ⟨w.heap.size, 11, none⟩ = some (.slice ra11 rn11 rc11) := Xr2.at_ 11 _ rfl
    have rz12 : w2.cell? ⟨w.heap.size, 12, none⟩ = some (.slice ra12 rn12 rc12) := Xr2.at_ 12 _ rfl
    have rz13 : w2.cell? ⟨w.heap.size, 13, none⟩ = some (.slice ra13 rn13 rc13) := Xr2.at_ 13 _ rfl
    have rz14 : w2.cell? ⟨w.heap.size, 14, none⟩ = some (.slice ra14 rn14 rc14) := Xr2.at_ 14 _ rfl
    go_wp2_with fail
    refine (listC_is _ ⟨ra6, rn6, rc6, ra7, rn7, rc7, ra8, rn8, rc8, ra9, rn9, rc9, ra10, rn10, rc10, ra11, rn11, rc11, ra12, rn12, rc12, ra13, rn13, rc13, ra14, rn14, rc14⟩ ⟨rfreq, ritv, rcnt, rtil, rwkst, rends, rmon, rweek, ryday, rmday, rday, rhour, rminu, rsec, rpos⟩ (start) (end_) (4096) (l, x) (RA.out.below B2) HP.out).mono ?_
    rintro e w3 ⟨A1, c1, he, i3, q1, b3⟩
    replace he : e = .returned (.tuple #[.slice A1 (l : List Int).length c1, .int .i64 x]) := he
    replace i3 : IsAt w3 A1 (l : List Int).length l := i3
    replace q1 : (l : List Int).length ≤ c1 := q1
    subst he
    clear rz0 rz1 rz2 rz3 rz4 rz5 rz6 rz7 rz8 rz9 rz10 rz11 rz12 rz13 rz14
    have B3 := B2.trans (b3.mono B2.size)
    have Xr3 := Xr2.below b3
    clear B2 Xr2
    clear b3
    have K1 := Lib.hid i3
    clear i3
    clear WDo t0 t1 t2 t3
    have WVo := WV.out
    have rz0 : w3.cell? ⟨w.heap.size, 0, none⟩ = some (.int .i64 rfreq) := Xr3.at_ 0 _ rfl
    have rz1 : w3.cell? ⟨w.heap.size, 1, none⟩ = some (.int .i64 ritv) := Xr3.at_ 1 _ rfl
    have rz2 : w3.cell? ⟨w.heap.size, 2, none⟩ = some (.int .i64 rcnt) := Xr3.at_ 2 _ rfl
    have rz3 : w3.cell? ⟨w.heap.size, 3, none⟩ = some (.int .i64 rtil) := Xr3.at_ 3 _ rfl
    have rz4 : w3.cell? ⟨w.heap.size, 4, none⟩ = some (.int .i64 rwkst) := Xr3.at_ 4 _ rfl
    have rz5 : w3.cell? ⟨w.heap.size, 5, none⟩ = some (.bool rends) := Xr3.at_ 5 _ rfl
    have rz6 : w3.cell? ⟨w.heap.size, 6, none⟩ = some (.slice ra6 rn6 rc6) := Xr3.at_ 6 _ rfl
    have rz7 : w3.cell? ⟨w.heap.size, 7, none⟩ = some (.slice ra7 rn7 rc7) := Xr3.at_ 7 _ rfl
    have rz8 : w3.cell? ⟨w.heap.size, 8, none⟩ = some (.slice ra8 rn8 rc8) := Xr3.at_ 8 _ rfl
    have rz9 : w3.cell? ⟨w.heap.size, 9, none⟩ = some (.slice ra9 rn9 rc9) := Xr3.at_ 9 _ rfl
    have rz10 : w3.cell? ⟨w.heap.size, 10, none⟩ = some (.slice ra10 rn10 rc10) := Xr3.at_ 10 _ rfl
    have rz11 : w3.cell? ⟨w.heap.size, 11, none⟩ = some (.slice ra11 rn11 rc11) := Xr3.at_ 11 _ rfl
    have rz12 : w3.cell? ⟨w.heap.size, 12, none⟩ = some (.slice ra12 rn12 rc12) := Xr3.at_ 12 _ rfl
    have rz13 : w3.cell? ⟨w.heap.size, 13, none⟩ = some (.slice ra13 rn13 rc13) := Xr3.at_ 13 _ rfl
    have rz14 : w3.cell? ⟨w.heap.size, 14, none⟩ = some (.slice ra14 rn14 rc14) := Xr3.at_ 14 _ rfl
    go_wp2_with fail
    refine (list_is _ ⟨ra6, rn6, rc6, ra7, rn7, rc7, ra8, rn8, rc8, ra9, rn9, rc9, ra10, rn10, rc10, ra11, rn11, rc11, ra12, rn12, rc12, ra13, rn13, rc13, ra14, rn14, rc14⟩ ⟨rfreq, ritv, rcnt, rtil, rwkst, rends, rmon, rweek, ryday, rmday, rday, rhour, rminu, rsec, rpos⟩ (start) (v) (4096) (m, y) (RA.out.below B3) HM.out).mono ?_
    rintro e w4 ⟨A2, c2, he, i4, b4⟩
    replace he : e = .returned (.tuple #[.slice A2 (m : List Int).length c2, .int .i64 y]) := he
    replace i4 : IsAt w4 A2 (m : List Int).length m := i4
    subst he
    clear rz0 rz1 rz2 rz3 rz4 rz5 rz6 rz7 rz8 rz9 rz10 rz11 rz12 rz13 rz14
    have B4 := B3.trans (b4.mono B3.size)
    have Xr4 := Xr3.below b4
    clear B3 Xr3
    have K1 := Lib.hid (K1.out.below b4)
    clear b4
    have K2 := Lib.hid i4
    clear i4
    obtain ⟨lk, hlk⟩ : ∃ k, l.length = k := ⟨_, rfl⟩
    have LK := Lib.hid hlk
    obtain ⟨mk, hmk⟩ : ∃ k, m.length = k := ⟨_, rfl⟩
    have MKo := Lib.hid hmk
    have lb : (lk : Int) ≤ 4096 := by rw [← hlk]; exact LB4.out
    rw [hlk] at K1 q1 ⊢
    rw [hmk] at K2 ⊢
    clear hlk hmk LB4
    by_cases x0 : x = 0
    rotate_left
    · have t0 : (x != 0) = true := by rw [bne_iff_ne]; exact x0
      clear x0 FO CO
      go_wp2_with fail
      refine (first8_is _ (TT.out.on B4)).mono ?_
      rintro e w5 ⟨rfl, b5⟩
      have B5 := B4.trans (b5.mono B4.size)
      have Xr5 := Xr4.below b5
      clear B4 Xr4
      have K1 := Lib.hid (K1.out.below b5)
      have K2 := Lib.hid (K2.out.below b5)
      clear b5
      go_wp2
      go_ret
      exact ⟨rfl, B5⟩
    have t0 : (x != 0) = false := by rw [bne_eq_false_iff_eq]; exact x0
    obtain ⟨y0, f1, f2, f3⟩ := FO.out x0
    subst y0
    rw [LK.out, MKo.out] at f1 f3
    rw [MKo.out] at f2
    have F2 := Lib.hid f2
    have F3 := Lib.hid f3
    have F1 := Lib.hid f1
    clear x0 FO f2 f3
    go_upto_region 9 with fail
    go_cut [102] from 67 to 102 (fun s wx => s = .bool false ∧ Below w4.heap.size w4 wx)
    case first =>
      have g1 : decide ((lk : Int) < (mk : Int)) = false := decide_eq_false (by omega)
      have g2 : decide (lk < mk) = false := decide_eq_false (by omega)
      have g3 : (mk : Int) ≤ (c1 : Int) := by omega
      have g4 : mk ≤ c1 := by omega
      have EQ := Lib.hid (show decide (m = l.take mk) = true from decide_eq_true F2.out.symm)
      go_wp2_with fail
      refine (ints_hid _ A2 A1 mk c2 mk c1 m (l.take mk) K2.out (is_take K1.out F1.out) (by omega) (by omega) true EQ.out).mono ?_
      rintro e w5 ⟨rfl, b5⟩
      by_cases lt : mk < lk
      · have f3 := F3.out lt
        obtain ⟨bl, off, ea, ca⟩ := cells_of (K1.out.below b5) (show 0 < lk by omega)
        subst ea
        have cc := ca.at_ mk lt
        generalize iat l mk = g at *
        have g5 : decide ((mk : Int) < (lk : Int)) = true := decide_eq_true (by omega)
        have g6 : decide (mk < lk) = true := decide_eq_true lt
        have g7 : decide (lk ≤ mk) = false := decide_eq_false (by omega)
        have g8 : decide (g < v) = false := decide_eq_false (by omega)
        have g9 : (mk : Int) < lk := by omega
        clear ca lt f3
        go_wp2
        go_meet
        exact ⟨rfl, b5⟩
      · have g5 : decide ((mk : Int) < (lk : Int)) = false := decide_eq_false (by omega)
        have g6 : decide (mk < lk) = false := decide_eq_false lt
        clear lt
        go_wp2
        go_meet
        exact ⟨rfl, b5⟩
    case rest =>
      obtain ⟨rfl, b5⟩ := hcut
      rename World => w5
      have B5 := B4.trans (b5.mono B4.size)
      have Xr5 := Xr4.below b5
      clear B4 Xr4
      have K1 := Lib.hid (K1.out.below b5)
      have K2 := Lib.hid (K2.out.below b5)
      clear b5
      clear K1 K2 q1 f1 F1 F2 F3 WVo WV HM HP lb
      have rz0 : w5.cell? ⟨w.heap.size, 0, none⟩ = some (.int .i64 rfreq) := Xr5.at_ 0 _ rfl
      have rz1 : w5.cell? ⟨w.heap.size, 1, none⟩ = some (.int .i64 ritv) := Xr5.at_ 1 _ rfl
      have rz2 : w5.cell? ⟨w.heap.size, 2, none⟩ = some (.int .i64 rcnt) := Xr5.at_ 2 _ rfl
      have rz3 : w5.cell? ⟨w.heap.size, 3, none⟩ = some (.int .i64 rtil) := Xr5.at_ 3 _ rfl
      have rz4 : w5.cell? ⟨w.heap.size, 4, none⟩ = some (.int .i64 rwkst) := Xr5.at_ 4 _ rfl
      have rz5 : w5.cell? ⟨w.heap.size, 5, none⟩ = some (.bool rends) := Xr5.at_ 5 _ rfl
      have rz6 : w5.cell? ⟨w.heap.size, 6, none⟩ = some (.slice ra6 rn6 rc6) := Xr5.at_ 6 _ rfl
      have rz7 : w5.cell? ⟨w.heap.size, 7, none⟩ = some (.slice ra7 rn7 rc7) := Xr5.at_ 7 _ rfl
      have rz8 : w5.cell? ⟨w.heap.size, 8, none⟩ = some (.slice ra8 rn8 rc8) := Xr5.at_ 8 _ rfl
      have rz9 : w5.cell? ⟨w.heap.size, 9, none⟩ = some (.slice ra9 rn9 rc9) := Xr5.at_ 9 _ rfl
      have rz10 : w5.cell? ⟨w.heap.size, 10, none⟩ = some (.slice ra10 rn10 rc10) := Xr5.at_ 10 _ rfl
      have rz11 : w5.cell? ⟨w.heap.size, 11, none⟩ = some (.slice ra11 rn11 rc11) := Xr5.at_ 11 _ rfl
      have rz12 : w5.cell? ⟨w.heap.size, 12, none⟩ = some (.slice ra12 rn12 rc12) := Xr5.at_ 12 _ rfl
      have rz13 : w5.cell? ⟨w.heap.size, 13, none⟩ = some (.slice ra13 rn13 rc13) := Xr5.at_ 13 _ rfl
      have rz14 : w5.cell? ⟨w.heap.size, 14, none⟩ = some (.slice ra14 rn14 rc14) := Xr5.at_ 14 _ rfl
      go_wp2_with fail
      refine (copyR_own _ ⟨ra6, rn6, rc6, ra7, rn7, rc7, ra8, rn8, rc8, ra9, rn9, rc9, ra10, rn10, rc10, ra11, rn11, rc11, ra12, rn12, rc12, ra13, rn13, rc13, ra14, rn14, rc14⟩ ⟨rfreq, ritv, rcnt, rtil, rwkst, rends, rmon, rweek, ryday, rmday, rday, rhour, rminu, rsec, rpos⟩ (in_below HK.out B5) X1.out).mono ?_
      rintro e w6 ⟨⟨aa6, an6, ac6, aa7, an7, ac7, aa8, an8, ac8, aa9, an9, ac9, aa10, an10, ac10, aa11, an11, ac11, aa12, an12, ac12, aa13, an13, ac13, aa14, an14, ac14⟩, he, hS, b6, ow⟩
      replace he : e = .returned (.agg #[.int .i64 rfreq, .int .i64 ritv, .int .i64 rcnt, .int .i64 rtil, .int .i64 rwkst, .bool rends, .slice aa6 an6 ac6, .slice aa7 an7 ac7, .slice aa8 an8 ac8, .slice aa9 an9 ac9, .slice aa10 an10 ac10, .slice aa11 an11 ac11, .slice aa12 an12 ac12, .slice aa13 an13 ac13, .slice aa14 an14 ac14]) := he
      subst he
      clear rz0 rz1 rz2 rz3 rz4 rz5 rz6 rz7 rz8 rz9 rz10 rz11 rz12 rz13 rz14
      have B6 := B5.trans (b6.mono B5.size)
      have Xr6 := Xr5.below b6
      clear B5 Xr5
      clear b6
      have hQ : RuAt w6 ⟨aa6, an6, ac6, aa7, an7, ac7, aa8, an8, ac8, aa9, an9, ac9, aa10, an10, ac10, aa11, an11, ac11, aa12, an12, ac12, aa13, an13, ac13, aa14, an14, ac14⟩ ⟨rfreq, ritv, count, 0, rwkst, false, rmon, rweek, ryday, rmday, rday, rhour, rminu, rsec, rpos⟩ := ⟨hS.h6, hS.h7, hS.h8, hS.h9, hS.h10, hS.h11, hS.h12, hS.h13, hS.h14, hS.l6, hS.l7, hS.l8, hS.l9, hS.l10, hS.l11, hS.l12, hS.l13, hS.l14⟩
      clear hS ow
      go_upto_region 13 with fail
      have b7 := alloc_below w6 (.cells #[.int .i64 rfreq, .int .i64 ritv, .int .i64 count, .int .i64 0, .int .i64 rwkst, .bool false, .slice aa6 an6 ac6, .slice aa7 an7 ac7, .slice aa8 an8 ac8, .slice aa9 an9 ac9, .slice aa10 an10 ac10, .slice aa11 an11 ac11, .slice aa12 an12 ac12, .slice aa13 an13 ac13, .slice aa14 an14 ac14] 25)
      have Xa7 := Box.new w6 #[.int .i64 rfreq, .int .i64 ritv, .int .i64 count, .int .i64 0, .int .i64 rwkst, .bool false, .slice aa6 an6 ac6, .slice aa7 an7 ac7, .slice aa8 an8 ac8, .slice aa9 an9 ac9, .slice aa10 an10 ac10, .slice aa11 an11 ac11, .slice aa12 an12 ac12, .slice aa13 an13 ac13, .slice aa14 an14 ac14] 25
      have Ra7 := hQ.below b7
      clear hQ
      generalize w6.alloc (.cells #[.int .i64 rfreq, .int .i64 ritv, .int .i64 count, .int .i64 0, .int .i64 rwkst, .bool false, .slice aa6 an6 ac6, .slice aa7 an7 ac7, .slice aa8 an8 ac8, .slice aa9 an9 ac9, .slice aa10 an10 ac10, .slice aa11 an11 ac11, .slice aa12 an12 ac12, .slice aa13 an13 ac13, .slice aa14 an14 ac14] 25) = w7 at *
      have B7 := B6.trans (b7.mono B6.size)
      have Xr7 := Xr6.below b7
      clear B6 Xr6
      clear b7
      as_aux_lemma =>
        have rz0 : w7.cell? ⟨w.heap.size, 0, none⟩ = some (.int .i64 rfreq) := Xr7.at_ 0 _ rfl
        have rz1 : w7.cell? ⟨w.heap.size, 1, none⟩ = some (.int .i64 ritv) := Xr7.at_ 1 _ rfl
        have rz2 : w7.cell? ⟨w.heap.size, 2, none⟩ = some (.int .i64 rcnt) := Xr7.at_ 2 _ rfl
        have rz3 : w7.cell? ⟨w.heap.size, 3, none⟩ = some (.int .i64 rtil) := Xr7.at_ 3 _ rfl
        have rz4 : w7.cell? ⟨w.heap.size, 4, none⟩ = some (.int .i64 rwkst) := Xr7.at_ 4 _ rfl
        have rz5 : w7.cell? ⟨w.heap.size, 5, none⟩ = some (.bool rends) := Xr7.at_ 5 _ rfl
        have rz6 : w7.cell? ⟨w.heap.size, 6, none⟩ = some (.slice ra6 rn6 rc6) := Xr7.at_ 6 _ rfl
        have rz7 : w7.cell? ⟨w.heap.size, 7, none⟩ = some (.slice ra7 rn7 rc7) := Xr7.at_ 7 _ rfl
        have rz8 : w7.cell? ⟨w.heap.size, 8, none⟩ = some (.slice ra8 rn8 rc8) := Xr7.at_ 8 _ rfl
        have rz9 : w7.cell? ⟨w.heap.size, 9, none⟩ = some (.slice ra9 rn9 rc9) := Xr7.at_ 9 _ rfl
        have rz10 : w7.cell? ⟨w.heap.size, 10, none⟩ = some (.slice ra10 rn10 rc10) := Xr7.at_ 10 _ rfl
        have rz11 : w7.cell? ⟨w.heap.size, 11, none⟩ = some (.slice ra11 rn11 rc11) := Xr7.at_ 11 _ rfl
        have rz12 : w7.cell? ⟨w.heap.size, 12, none⟩ = some (.slice ra12 rn12 rc12) := Xr7.at_ 12 _ rfl
        have rz13 : w7.cell? ⟨w.heap.size, 13, none⟩ = some (.slice ra13 rn13 rc13) := Xr7.at_ 13 _ rfl
        have rz14 : w7.cell? ⟨w.heap.size, 14, none⟩ = some (.slice ra14 rn14 rc14) := Xr7.at_ 14 _ rfl
        go_wp2_with fail
        refine (copyR_own _ ⟨ra6, rn6, rc6, ra7, rn7, rc7, ra8, rn8, rc8, ra9, rn9, rc9, ra10, rn10, rc10, ra11, rn11, rc11, ra12, rn12, rc12, ra13, rn13, rc13, ra14, rn14, rc14⟩ ⟨rfreq, ritv, rcnt, rtil, rwkst, rends, rmon, rweek, ryday, rmday, rday, rhour, rminu, rsec, rpos⟩ (in_below HK.out B7) X1.out).mono ?_
        rintro e w8 ⟨⟨ba6, bn6, bc6, ba7, bn7, bc7, ba8, bn8, bc8, ba9, bn9, bc9, ba10, bn10, bc10, ba11, bn11, bc11, ba12, bn12, bc12, ba13, bn13, bc13, ba14, bn14, bc14⟩, he, hS, b8, ow⟩
        replace he : e = .returned (.agg #[.int .i64 rfreq, .int .i64 ritv, .int .i64 rcnt, .int .i64 rtil, .int .i64 rwkst, .bool rends, .slice ba6 bn6 bc6, .slice ba7 bn7 bc7, .slice ba8 bn8 bc8, .slice ba9 bn9 bc9, .slice ba10 bn10 bc10, .slice ba11 bn11 bc11, .slice ba12 bn12 bc12, .slice ba13 bn13 bc13, .slice ba14 bn14 bc14]) := he
        subst he
        clear rz0 rz1 rz2 rz3 rz4 rz5 rz6 rz7 rz8 rz9 rz10 rz11 rz12 rz13 rz14
        have B8 := B7.trans (b8.mono B7.size)
        have Xr8 := Xr7.below b8
        have Xa8 := Xa7.below b8
        have Ra8 := Ra7.below b8
        clear B7 Xr7 Xa7 Ra7
        clear b8
        have hQ : RuAt w8 ⟨ba6, bn6, bc6, ba7, bn7, bc7, ba8, bn8, bc8, ba9, bn9, bc9, ba10, bn10, bc10, ba11, bn11, bc11, ba12, bn12, bc12, ba13, bn13, bc13, ba14, bn14, bc14⟩ ⟨rfreq, ritv, 0, 0, rwkst, false, rmon, rweek, ryday, rmday, rday, rhour, rminu, rsec, rpos⟩ := ⟨hS.h6, hS.h7, hS.h8, hS.h9, hS.h10, hS.h11, hS.h12, hS.h13, hS.h14, hS.l6, hS.l7, hS.l8, hS.l9, hS.l10, hS.l11, hS.l12, hS.l13, hS.l14⟩
        clear hS ow
        go_upto_region 15 with fail
        have b9 := alloc_below w8 (.cells #[.int .i64 rfreq, .int .i64 ritv, .int .i64 0, .int .i64 0, .int .i64 rwkst, .bool false, .slice ba6 bn6 bc6, .slice ba7 bn7 bc7, .slice ba8 bn8 bc8, .slice ba9 bn9 bc9, .slice ba10 bn10 bc10, .slice ba11 bn11 bc11, .slice ba12 bn12 bc12, .slice ba13 bn13 bc13, .slice ba14 bn14 bc14] 25)
        have Xb9 := Box.new w8 #[.int .i64 rfreq, .int .i64 ritv, .int .i64 0, .int .i64 0, .int .i64 rwkst, .bool false, .slice ba6 bn6 bc6, .slice ba7 bn7 bc7, .slice ba8 bn8 bc8, .slice ba9 bn9 bc9, .slice ba10 bn10 bc10, .slice ba11 bn11 bc11, .slice ba12 bn12 bc12, .slice ba13 bn13 bc13, .slice ba14 bn14 bc14] 25
        have Rb9 := hQ.below b9
        clear hQ
        generalize w8.alloc (.cells #[.int .i64 rfreq, .int .i64 ritv, .int .i64 0, .int .i64 0, .int .i64 rwkst, .bool false, .slice ba6 bn6 bc6, .slice ba7 bn7 bc7, .slice ba8 bn8 bc8, .slice ba9 bn9 bc9, .slice ba10 bn10 bc10, .slice ba11 bn11 bc11, .slice ba12 bn12 bc12, .slice ba13 bn13 bc13, .slice ba14 bn14 bc14] 25) = w9 at *
        have B9 := B8.trans (b9.mono B8.size)
        have Xr9 := Xr8.below b9
        have Xa9 := Xa8.below b9
        have Ra9 := Ra8.below b9
        clear B8 Xr8 Xa8 Ra8
        clear b9
        clear Xr9
        as_aux_lemma =>
          have az0 : w9.cell? ⟨w6.heap.size, 0, none⟩ = some (.int .i64 rfreq) := Xa9.at_ 0 _ rfl
          have az1 : w9.cell? ⟨w6.heap.size, 1, none⟩ = some (.int .i64 ritv) := Xa9.at_ 1 _ rfl
          have az2 : w9.cell? ⟨w6.heap.size, 2, none⟩ = some (.int .i64 count) := Xa9.at_ 2 _ rfl
          have az3 : w9.cell? ⟨w6.heap.size, 3, none⟩ = some (.int .i64 0) := Xa9.at_ 3 _ rfl
          have az4 : w9.cell? ⟨w6.heap.size, 4, none⟩ = some (.int .i64 rwkst) := Xa9.at_ 4 _ rfl
          have az5 : w9.cell? ⟨w6.heap.size, 5, none⟩ = some (.bool false) := Xa9.at_ 5 _ rfl
          have az6 : w9.cell? ⟨w6.heap.size, 6, none⟩ = some (.slice aa6 an6 ac6) := Xa9.at_ 6 _ rfl
          have az7 : w9.cell? ⟨w6.heap.size, 7, none⟩ = some (.slice aa7 an7 ac7) := Xa9.at_ 7 _ rfl
          have az8 : w9.cell? ⟨w6.heap.size, 8, none⟩ = some (.slice aa8 an8 ac8) := Xa9.at_ 8 _ rfl
          have az9 : w9.cell? ⟨w6.heap.size, 9, none⟩ = some (.slice aa9 an9 ac9) := Xa9.at_ 9 _ rfl
          have az10 : w9.cell? ⟨w6.heap.size, 10, none⟩ = some (.slice aa10 an10 ac10) := Xa9.at_ 10 _ rfl
          have az11 : w9.cell? ⟨w6.heap.size, 11, none⟩ = some (.slice aa11 an11 ac11) := Xa9.at_ 11 _ rfl
          have az12 : w9.cell? ⟨w6.heap.size, 12, none⟩ = some (.slice aa12 an12 ac12) := Xa9.at_ 12 _ rfl
          have az13 : w9.cell? ⟨w6.heap.size, 13, none⟩ = some (.slice aa13 an13 ac13) := Xa9.at_ 13 _ rfl
          have az14 : w9.cell? ⟨w6.heap.size, 14, none⟩ = some (.slice aa14 an14 ac14) := Xa9.at_ 14 _ rfl
          go_wp2_with fail
          refine (list_is _ ⟨aa6, an6, ac6, aa7, an7, ac7, aa8, an8, ac8, aa9, an9, ac9, aa10, an10, ac10, aa11, an11, ac11, aa12, an12, ac12, aa13, an13, ac13, aa14, an14, ac14⟩ ⟨rfreq, ritv, count, 0, rwkst, false, rmon, rweek, ryday, rmday, rday, rhour, rminu, rsec, rpos⟩ (start) (end_) (4096) (qx, z) (Ra9) HQ.out).mono ?_
          rintro e w10 ⟨A3, c3, he, i10, b10⟩
          replace he : e = .returned (.tuple #[.slice A3 (qx : List Int).length c3, .int .i64 z]) := he
          replace i10 : IsAt w10 A3 (qx : List Int).length qx := i10
          subst he
          clear az0 az1 az2 az3 az4 az5 az6 az7 az8 az9 az10 az11 az12 az13 az14
          have B10 := B9.trans (b10.mono B9.size)
          have Xa10 := Xa9.below b10
          have Xb10 := Xb9.below b10
          have Ra10 := Ra9.below b10
          have Rb10 := Rb9.below b10
          clear B9 Xa9 Xb9 Ra9 Rb9
          clear b10
          have K3 := Lib.hid i10
          clear i10
          clear Xa10 Ra10
          have bz0 : w10.cell? ⟨w8.heap.size, 0, none⟩ = some (.int .i64 rfreq) := Xb10.at_ 0 _ rfl
          have bz1 : w10.cell? ⟨w8.heap.size, 1, none⟩ = some (.int .i64 ritv) := Xb10.at_ 1 _ rfl
          have bz2 : w10.cell? ⟨w8.heap.size, 2, none⟩ = some (.int .i64 0) := Xb10.at_ 2 _ rfl
          have bz3 : w10.cell? ⟨w8.heap.size, 3, none⟩ = some (.int .i64 0) := Xb10.at_ 3 _ rfl
          have bz4 : w10.cell? ⟨w8.heap.size, 4, none⟩ = some (.int .i64 rwkst) := Xb10.at_ 4 _ rfl
          have bz5 : w10.cell? ⟨w8.heap.size, 5, none⟩ = some (.bool false) := Xb10.at_ 5 _ rfl
          have bz6 : w10.cell? ⟨w8.heap.size, 6, none⟩ = some (.slice ba6 bn6 bc6) := Xb10.at_ 6 _ rfl
          have bz7 : w10.cell? ⟨w8.heap.size, 7, none⟩ = some (.slice ba7 bn7 bc7) := Xb10.at_ 7 _ rfl
          have bz8 : w10.cell? ⟨w8.heap.size, 8, none⟩ = some (.slice ba8 bn8 bc8) := Xb10.at_ 8 _ rfl
          have bz9 : w10.cell? ⟨w8.heap.size, 9, none⟩ = some (.slice ba9 bn9 bc9) := Xb10.at_ 9 _ rfl
          have bz10 : w10.cell? ⟨w8.heap.size, 10, none⟩ = some (.slice ba10 bn10 bc10) := Xb10.at_ 10 _ rfl
          have bz11 : w10.cell? ⟨w8.heap.size, 11, none⟩ = some (.slice ba11 bn11 bc11) := Xb10.at_ 11 _ rfl
          have bz12 : w10.cell? ⟨w8.heap.size, 12, none⟩ = some (.slice ba12 bn12 bc12) := Xb10.at_ 12 _ rfl
          have bz13 : w10.cell? ⟨w8.heap.size, 13, none⟩ = some (.slice ba13 bn13 bc13) := Xb10.at_ 13 _ rfl
          have bz14 : w10.cell? ⟨w8.heap.size, 14, none⟩ = some (.slice ba14 bn14 bc14) := Xb10.at_ 14 _ rfl
          go_wp2_with fail
          refine (listC_is _ ⟨ba6, bn6, bc6, ba7, bn7, bc7, ba8, bn8, bc8, ba9, bn9, bc9, ba10, bn10, bc10, ba11, bn11, bc11, ba12, bn12, bc12, ba13, bn13, bc13, ba14, bn14, bc14⟩ ⟨rfreq, ritv, 0, 0, rwkst, false, rmon, rweek, ryday, rmday, rday, rhour, rminu, rsec, rpos⟩ (start) (end_) (4096) (px, u) (Rb10) HF.out).mono ?_
          rintro e w11 ⟨A4, c4, he, i11, q4, b11⟩
          replace he : e = .returned (.tuple #[.slice A4 (px : List Int).length c4, .int .i64 u]) := he
          replace i11 : IsAt w11 A4 (px : List Int).length px := i11
          replace q4 : (px : List Int).length ≤ c4 := q4
          subst he
          clear bz0 bz1 bz2 bz3 bz4 bz5 bz6 bz7 bz8 bz9 bz10 bz11 bz12 bz13 bz14
          have B11 := B10.trans (b11.mono B10.size)
          have Xb11 := Xb10.below b11
          have Rb11 := Rb10.below b11
          clear B10 Xb10 Rb10
          have K3 := Lib.hid (K3.out.below b11)
          clear b11
          have K4 := Lib.hid i11
          clear i11
          clear Xb11 Rb11
          obtain ⟨kp, hkp⟩ : ∃ k, px.length = k := ⟨_, rfl⟩
          have KP := Lib.hid hkp
          have kb : (kp : Int) ≤ 4096 := by rw [← hkp]; exact PB4.out
          rw [hkp] at K4 q4 ⊢
          clear hkp PB4
          go_wp2_with fail
          refine (first8_is _ (TT.out.on B11)).mono ?_
          rintro e w12 ⟨rfl, b12⟩
          have B12 := B11.trans (b12.mono B11.size)
          clear B11
          have K3 := Lib.hid (K3.out.below b12)
          have K4 := Lib.hid (K4.out.below b12)
          clear b12
          by_cases u0 : u = 0
          rotate_left
          · have t1 : (u != 0) = true := by rw [bne_iff_ne]; exact u0
            go_wp2
            go_ret
            exact ⟨rfl, B12⟩
          have t1 : (u != 0) = false := by rw [bne_eq_false_iff_eq]; exact u0
          obtain ⟨eq, ez⟩ := CO.out u0
          subst ez
          obtain ⟨cb1, cb2⟩ := CB.out
          obtain ⟨t, ht⟩ : ∃ t : Nat, min count (kp : Int) = (t : Int) := ⟨(min count (kp : Int)).toNat, by omega⟩
          have tk : t ≤ kp := by omega
          have tt : px.take count.toNat = px.take t := by
            by_cases c : count ≤ (kp : Int)
            · rw [show t = count.toNat by omega]
            · rw [List.take_of_length_le (by rw [KP.out]; omega), List.take_of_length_le (by rw [KP.out]; omega)]
          rw [tt] at eq
          have EQ := Lib.hid (show decide (qx = px.take t) = true from decide_eq_true eq)
          have qt : qx.length = t := by rw [eq, List.length_take, KP.out]; omega
          rw [qt] at K3 ⊢
          have TK := Lib.hid tk
          have g3 : (t : Int) ≤ (c4 : Int) := by omega
          have g4 : t ≤ c4 := by omega
          have g0 : (0 : Int) ≤ (t : Int) := by omega
          clear eq qt tt u0 CO
          go_wp2_with fail
          refine (ints_hid _ A3 A4 t c3 t c4 qx (px.take t) K3.out (is_take K4.out TK.out) (by omega) (by omega) true EQ.out).mono ?_
          rintro e w13 ⟨rfl, b13⟩
          have B13 := B12.trans (b13.mono B12.size)
          clear B12
          have K3 := Lib.hid (K3.out.below b13)
          have K4 := Lib.hid (K4.out.below b13)
          clear b13
          go_wp2
          go_ret
          exact ⟨rfl, B13⟩
end Go.Proofs.YtnfcchimkfnmkaaGreatDoor.Ex
