/- ExpandLater answers true: from one of its own members on, by an interval of 1 and without Count and Pos, a rule that tells all its days and times tells just the rest. -/
import Derived.Test.YtnfcchimkfnmkaaGreatDoorExMathB
import Derived.Test.YtnfcchimkfnmkaaGreatDoorExH
import Derived.RangeFuncNested
import Derived.RangeFuncBound
import Derived.RangeFuncCalls
import Derived.RangeFuncLeaves
import Derived.Shelf.Abstract
import Derived.Shelf.RegionOpen
import Derived.OwnWalkIn
import Derived.TacticsInMore
import Derived.LoopNIn
import Derived.LoopIn
import Derived.Maps.AppendAt
import Derived.ArgAppend
import Derived.Test.YtnfcchimkfnmkaaGreatDoorExFst
import Derived.Test.YtnfcchimkfnmkaaGreatDoorRuCopyO
set_option linter.unusedVariables false
namespace Go.Proofs.YtnfcchimkfnmkaaGreatDoor.Ex
open Cv St Ru Dd Mb

theorem mom_sub {r : Ru} {start from_ end_ x : Int} (h : x ∈ momL r start from_ end_) : from_ ≤ x ∧ x < hiR r end_ ∧ hasM r start x = true := by
  unfold momL cutL at h
  split at h
  · exact mem_sel.1 h
  · exact mem_sel.1 (List.mem_of_mem_take h)
theorem mom_rise (r : Ru) (start from_ end_ : Int) : (momL r start from_ end_).Pairwise (· < ·) := by
  unfold momL cutL
  split
  · exact sel_rise _ _ _
  · exact (sel_rise _ _ _).sublist (List.take_sublist _ _)
end Go.Proofs.YtnfcchimkfnmkaaGreatDoor.Ex
namespace Go.Proofs.YtnfcchimkfnmkaaGreatDoor.Ex
open Cv St Ru Dd Mb

theorem mayE_of {r : Ru} {start end_ most : Int} (h : mayE r start end_ most = true) : mayR r = true ∧ St.may start = true ∧ St.may end_ = true ∧ end_ - start ≤ 316224000 ∧ 1 ≤ most ∧ most ≤ 4096 := by
  unfold mayE at h
  simp only [Bool.and_eq_true, decide_eq_true_eq] at h
  exact ⟨h.1.1.1.1, h.1.1.1.2, h.1.1.2, h.1.2, h.2⟩
theorem mayE_mk {r : Ru} {start end_ most : Int} (h1 : mayR r = true) (h2 : St.may start = true) (h3 : St.may end_ = true) (h4 : end_ - start ≤ 316224000) (h5 : 1 ≤ most) (h6 : most ≤ 4096) : mayE r start end_ most = true := by
  unfold mayE
  rw [h1, h2, h3, decide_eq_true h4, decide_eq_true (show 1 ≤ most ∧ most ≤ 4096 from ⟨h5, h6⟩)]
  rfl
/-- a list that is told: what it is -/
theorem list_ok {r : Ru} {start end_ most : Int} {l : List Int} (h : listR r start end_ most = (l, 0)) : mayE r start end_ most = true ∧ momL r start start end_ = l ∧ (l.length : Int) ≤ most := by
  unfold listR at h
  split at h
  · have := (Prod.mk.inj h).2; omega
  · rename_i c
    split at h
    · have := (Prod.mk.inj h).2; omega
    · rename_i d
      have e := (Prod.mk.inj h).1
      exact ⟨by simpa using c, e, by rw [e] at d; omega⟩
theorem list_mk {r : Ru} {start end_ most : Int} {l : List Int} (h : mayE r start end_ most = true) (e : momL r start start end_ = l) (d : (l.length : Int) ≤ most) : listR r start end_ most = (l, 0) := by
  unfold listR
  rw [if_neg (by rw [h]; decide), e, if_neg (by omega)]
theorem list_rise {r : Ru} {start end_ most : Int} {l : List Int} (h : listR r start end_ most = (l, 0)) : l.Pairwise (· < ·) := by
  rw [← (list_ok h).2.1]
  exact mom_rise _ _ _ _
theorem members_in {r : Ru} {start end_ x : Int} {l : List Int} (h : listR r start end_ 4096 = (l, 0)) (hx : x ∈ l) : start ≤ x ∧ x < end_ ∧ hasM r start x = true := by
  rw [← (list_ok h).2.1] at hx
  obtain ⟨a, b, c⟩ := mom_sub hx
  refine ⟨a, ?_, c⟩
  unfold hiR at b
  split at b <;> omega
end Go.Proofs.YtnfcchimkfnmkaaGreatDoor.Ex
namespace Go.Proofs.YtnfcchimkfnmkaaGreatDoor.Ex
open Cv St Ru Dd Mb

-- ExpandEvery
def laterR (r : Ru) : Ru := { r with cnt := 0, ends := false, til := 0, pos := [], itv := 1 }
def wholeB (r : Ru) : Bool := decide (0 < r.yday.length + r.mday.length + r.day.length) && decide (0 < r.hour.length) && decide (0 < r.minu.length) && decide (0 < r.sec.length)
theorem later_raw {r : Ru} {a b t : Int} (hw : wholeB r = true) (ha : St.may a = true) (hb : St.may b = true) : rawB (laterR r) a t = rawB (laterR r) b t := by
  unfold wholeB at hw
  simp only [Bool.and_eq_true, decide_eq_true_eq] at hw
  obtain ⟨⟨⟨w1, w2⟩, w3⟩, w4⟩ := hw
  have n2 : r.hour ≠ [] := fun e => by rw [e] at w2; simp at w2
  have n3 : r.minu ≠ [] := fun e => by rw [e] at w3; simp at w3
  have n4 : r.sec ≠ [] := fun e => by rw [e] at w4; simp at w4
  have th : ∀ u, timH (laterR r) u = r.hour := fun u => if_pos n2
  have tm : ∀ u, timM (laterR r) u = r.minu := fun u => if_pos n3
  have ts : ∀ u, timS (laterR r) u = r.sec := fun u => if_pos n4
  have st : ∀ u n, startB (laterR r) u n = true := fun u n => if_pos w1
  have mo : ∀ u : Int, u % (laterR r).itv = 0 := fun u => Int.emod_one u
  unfold rawB inPer fitsB fitB
  simp only [th, tm, ts, st, mo, ha, hb]
theorem drop_at {l : List Int} {i : Nat} (hr : l.Pairwise (· < ·)) (hi : i < l.length) {x : Int} : x ∈ l.drop i ↔ x ∈ l ∧ iat l i ≤ x := by
  have e : l = l.take i ++ l.drop i := (List.take_append_drop i l).symm
  rw [iat_lt hi]
  constructor
  · intro h
    refine ⟨List.mem_of_mem_drop h, ?_⟩
    obtain ⟨j, hj, rfl⟩ := List.getElem_of_mem h
    rw [List.length_drop] at hj
    rw [List.getElem_drop]
    by_cases c : j = 0
    · subst c; exact Int.le_refl _
    · exact Int.le_of_lt (List.pairwise_iff_getElem.1 hr i (i + j) hi (by omega) (by omega))
  · rintro ⟨h, g⟩
    obtain ⟨j, hj, rfl⟩ := List.getElem_of_mem h
    have c : i ≤ j := by
      by_cases c : i ≤ j
      · exact c
      · have := List.pairwise_iff_getElem.1 hr j i hj hi (by omega)
        omega
    rw [List.mem_iff_getElem]
    exact ⟨j - i, by rw [List.length_drop]; omega, by rw [List.getElem_drop]; congr 1; omega⟩
theorem later_ok {r : Ru} {start end_ : Int} {l : List Int} {i : Nat} (h : listR (laterR r) start end_ 4096 = (l, 0)) (hw : wholeB r = true) (hi : i < l.length) :
    listR (laterR r) (iat l i) end_ 4096 = (l.drop i, 0) := by
  obtain ⟨h1, h2, h3⟩ := list_ok h
  obtain ⟨m1, m2, m3, m4, -, -⟩ := mayE_of h1
  have mi := members_in h (x := iat l i) (by rw [iat_lt hi]; exact List.getElem_mem _)
  have s1 := of_decide_eq_true m2
  have s2 := of_decide_eq_true m3
  have mx : St.may (iat l i) = true := decide_eq_true (by omega)
  refine list_mk (mayE_mk m1 mx m3 (by omega) (by decide) (by decide)) ?_ (by rw [List.length_drop]; omega)
  have e1 : ∀ u, momL (laterR r) u u end_ = selL (hasM (laterR r) u) u end_ := fun u => rfl
  have rl := list_rise h
  rw [e1] at h2 ⊢
  refine (sel_eq (rl.sublist (List.drop_sublist i l)) fun x => ?_).symm
  rw [drop_at rl hi]
  have hx : ∀ u, hasM (laterR r) u x = (decide (u ≤ x) && rawB (laterR r) u x) := fun u => by
    unfold hasM laterR
    simp
  have mem : x ∈ l ↔ start ≤ x ∧ x < end_ ∧ hasM (laterR r) start x = true := by rw [← mem_sel, h2]
  rw [mem, hx, hx, later_raw hw m2 mx]
  simp only [Bool.and_eq_true, decide_eq_true_eq]
  generalize iat l i = g at *
  constructor
  · rintro ⟨⟨a, b, c, d⟩, e⟩; exact ⟨e, b, e, d⟩
  · rintro ⟨a, b, c, d⟩; exact ⟨⟨by omega, b, by omega, d⟩, a⟩
end Go.Proofs.YtnfcchimkfnmkaaGreatDoor.Ex
namespace Go.Proofs.YtnfcchimkfnmkaaGreatDoor.Ex
open Go Go.RowKit Go.Shelf Cv St Ru Dd Mb
attribute [local go_sem] Oper.semAt_some

theorem row_atc {w : World} {B : Nat} {v : Value} {l : List Int} (h : w.ownsRow B 3 1 v l.length (l.map (Value.int .i64))) : ∃ A c, v = .slice A l.length c ∧ IsAt w A l.length l ∧ Fresh B A ∧ l.length ≤ c := by
  rcases h.2 with ⟨rfl, h0⟩ | ⟨g, cap, cur, rfl, hb, hg, hnc, hcm, -⟩
  · have e : l = [] := List.length_eq_zero_iff.1 h0
    subst e
    exact ⟨none, 0, rfl, IsAt.nil _ _, fun b off e => (by cases e), Nat.le_refl _⟩
  · refine ⟨some ⟨g, 0, none⟩, cap, rfl, ⟨rfl, fun h0 => ⟨g, 0, rfl, (World.ownsRow.lt h g rfl).2, fun j hj => ?_⟩⟩, fun b off e => (by cases e; exact ⟨hb, rfl⟩), hnc⟩
    rw [Nat.zero_add, World.ownsRow.cellAt h j (by omega), iat_lt hj]
    simp [hj]
/-- what List answers -/
def ListC (w : World) (p : List Int × Int) (e : Ending) (w' : World) : Prop := ∃ A c, e = .returned (.tuple #[.slice A p.1.length c, .int .i64 p.2]) ∧ IsAt w' A p.1.length p.1 ∧ p.1.length ≤ c ∧ Below w.heap.size w w'
theorem listC_nil {w w' : World} {p : List Int × Int} {x : Int} (h : ([], x) = p) (hb : Below w.heap.size w w') : ListC w p (.returned (.tuple #[.slice none 0 0, .int .i64 x])) w' := by
  subst h
  exact ⟨none, 0, rfl, IsAt.nil _ _, Nat.le_refl _, hb⟩
set_option maxRecDepth 100000 in
set_option maxHeartbeats 16000000 in
/-- expand.List -/
theorem listC_is (w : World) (S : RS) (r : Ru) (start end_ most : Int) (q : List Int × Int) (h : RuAt w S r) (hx : listR r start end_ most = q) :
    Calls Tryz.prog 14 #[S.val r, .int .i64 start, .int .i64 end_, .int .i64 most] w (ListC w q) := by
  have RA := Lib.hid h
  obtain ⟨m, hm⟩ : ∃ m, mayE r start end_ most = m := ⟨_, rfl⟩
  obtain ⟨XS, hXS⟩ : ∃ l, momL r start start end_ = l := ⟨_, rfl⟩
  have X0 := Lib.hid (fun (e : m = false) => show ([], 1) = q by rw [← hx]; unfold listR; rw [if_pos (hm.trans e)])
  have X1 := Lib.hid (fun (e : m = true) (g : most < XS.length) => show ([], 10) = q by rw [← hx]; unfold listR; rw [hXS, if_neg (by rw [hm, e]; decide), if_pos g])
  have X2 := Lib.hid (fun (e : m = true) (g : ¬ most < XS.length) => show (XS, 0) = q by rw [← hx]; unfold listR; rw [hXS, if_neg (by rw [hm, e]; decide), if_neg g])
  have XM := Lib.hid (fun (e : m = true) => show mayR r = true ∧ St.may start = true ∧ St.may end_ = true ∧ 1 ≤ most ∧ most ≤ 4096 by
    have u := hm.trans e
    unfold mayE at u
    simp only [Bool.and_eq_true, decide_eq_true_eq] at u
    exact ⟨u.1.1.1.1, u.1.1.1.2, u.1.1.2, u.2.1, u.2.2⟩)
  have HM := Lib.hid hm
  have HXS := Lib.hid hXS
  clear h hx hm hXS
  obtain ⟨n, hn⟩ : ∃ n : Nat, 9 ≤ n := ⟨9, Nat.le_refl _⟩
  refine (callsIn_wide (n := n)).1 ?_
  obtain ⟨ra6, rn6, rc6, ra7, rn7, rc7, ra8, rn8, rc8, ra9, rn9, rc9, ra10, rn10, rc10, ra11, rn11, rc11, ra12, rn12, rc12, ra13, rn13, rc13, ra14, rn14, rc14⟩ := S
  obtain ⟨rfreq, ritv, rcnt, rtil, rwkst, rends, rmon, rweek, ryday, rmday, rday, rhour, rminu, rsec, rpos⟩ := r
  show CallsIn Fence.wide n Tryz.prog 14 #[.agg #[.int .i64 rfreq, .int .i64 ritv, .int .i64 rcnt, .int .i64 rtil, .int .i64 rwkst, .bool rends, .slice ra6 rn6 rc6, .slice ra7 rn7 rc7, .slice ra8 rn8 rc8, .slice ra9 rn9 rc9, .slice ra10 rn10 rc10, .slice ra11 rn11 rc11, .slice ra12 rn12 rc12, .slice ra13 rn13 rc13, .slice ra14 rn14 rc14], .int .i64 start, .int .i64 end_, .int .i64 most] w _
  refine callsIn_of_wp_marks Tryz.func14 rfl trivial ?_ rfl
  simp only [Tryz.ntmps14, List.size_toArray, List.length_cons, List.length_nil, Nat.reduceAdd, Nat.reduceSub, Array.replicate_succ, Array.replicate_zero, List.push_toArray, List.append_toArray, List.nil_append, List.cons_append]
  refine wpIn_wide.2 ?_
  go_upto_region 1 with fail
  obtain ⟨Xr0, ⟨m1, m2, m3⟩, ⟨f2, f3⟩, B0, E0⟩ := four_cells w #[.int .i64 rfreq, .int .i64 ritv, .int .i64 rcnt, .int .i64 rtil, .int .i64 rwkst, .bool rends, .slice ra6 rn6 rc6, .slice ra7 rn7 rc7, .slice ra8 rn8 rc8, .slice ra9 rn9 rc9, .slice ra10 rn10 rc10, .slice ra11 rn11 rc11, .slice ra12 rn12 rc12, .slice ra13 rn13 rc13, .slice ra14 rn14 rc14] (.int .i64 most) (.slice none 0 0) (.int .i64 0) 25 3 22 29 _ rfl
  generalize (((w.alloc (.cells #[.int .i64 rfreq, .int .i64 ritv, .int .i64 rcnt, .int .i64 rtil, .int .i64 rwkst, .bool rends, .slice ra6 rn6 rc6, .slice ra7 rn7 rc7, .slice ra8 rn8 rc8, .slice ra9 rn9 rc9, .slice ra10 rn10 rc10, .slice ra11 rn11 rc11, .slice ra12 rn12 rc12, .slice ra13 rn13 rc13, .slice ra14 rn14 rc14] 25)).alloc (.cells #[.int .i64 most] 3)).alloc (.cells #[.slice none 0 0] 22)).alloc (.cells #[.int .i64 0] 29) = w0 at *
  have rz0 : w0.cell? ⟨w.heap.size, 0, none⟩ = some (.int .i64 rfreq) := Xr0.at_ 0 _ rfl
  have rz1 : w0.cell? ⟨w.heap.size, 1, none⟩ = some (.int .i64 ritv) := Xr0.at_ 1 _ rfl
  have rz2 : w0.cell? ⟨w.heap.size, 2, none⟩ = some (.int .i64 rcnt) := Xr0.at_ 2 _ rfl
  have rz3 : w0.cell? ⟨w.heap.size, 3, none⟩ = some (.int .i64 rtil) := Xr0.at_ 3 _ rfl
  have rz4 : w0.cell? ⟨w.heap.size, 4, none⟩ = some (.int .i64 rwkst) := Xr0.at_ 4 _ rfl
  have rz5 : w0.cell? ⟨w.heap.size, 5, none⟩ = some (.bool rends) := Xr0.at_ 5 _ rfl
  have rz6 : w0.cell? ⟨w.heap.size, 6, none⟩ = some (.slice ra6 rn6 rc6) := Xr0.at_ 6 _ rfl
  have rz7 : w0.cell? ⟨w.heap.size, 7, none⟩ = some (.slice ra7 rn7 rc7) := Xr0.at_ 7 _ rfl
  have rz8 : w0.cell? ⟨w.heap.size, 8, none⟩ = some (.slice ra8 rn8 rc8) := Xr0.at_ 8 _ rfl
  have rz9 : w0.cell? ⟨w.heap.size, 9, none⟩ = some (.slice ra9 rn9 rc9) := Xr0.at_ 9 _ rfl
  have rz10 : w0.cell? ⟨w.heap.size, 10, none⟩ = some (.slice ra10 rn10 rc10) := Xr0.at_ 10 _ rfl
  have rz11 : w0.cell? ⟨w.heap.size, 11, none⟩ = some (.slice ra11 rn11 rc11) := Xr0.at_ 11 _ rfl
  have rz12 : w0.cell? ⟨w.heap.size, 12, none⟩ = some (.slice ra12 rn12 rc12) := Xr0.at_ 12 _ rfl
  have rz13 : w0.cell? ⟨w.heap.size, 13, none⟩ = some (.slice ra13 rn13 rc13) := Xr0.at_ 13 _ rfl
  have rz14 : w0.cell? ⟨w.heap.size, 14, none⟩ = some (.slice ra14 rn14 rc14) := Xr0.at_ 14 _ rfl
  go_wp2_with fail
  refine (emay_is _ ⟨ra6, rn6, rc6, ra7, rn7, rc7, ra8, rn8, rc8, ra9, rn9, rc9, ra10, rn10, rc10, ra11, rn11, rc11, ra12, rn12, rc12, ra13, rn13, rc13, ra14, rn14, rc14⟩ ⟨rfreq, ritv, rcnt, rtil, rwkst, rends, rmon, rweek, ryday, rmday, rday, rhour, rminu, rsec, rpos⟩ start end_ most m (RA.out.below B0) HM.out).mono ?_
  rintro e w1 ⟨rfl, b1⟩
  clear rz0 rz1 rz2 rz3 rz4 rz5 rz6 rz7 rz8 rz9 rz10 rz11 rz12 rz13 rz14
  have B1 := B0.trans (b1.mono B0.size)
  have Xr1 := Xr0.below b1
  have E1 := b1.size
  have m11 := (b1.cell (p := ⟨w.heap.size + 1, 0, none⟩) (by simp; omega)).trans m1
  have m21 := (b1.cell (p := ⟨w.heap.size + 1 + 1, 0, none⟩) (by simp; omega)).trans m2
  have m31 := (b1.cell (p := ⟨w.heap.size + 1 + 1 + 1, 0, none⟩) (by simp; omega)).trans m3
  have f21 := (b1.frozen (p := ⟨w.heap.size + 1 + 1, 0, none⟩) (by simp; omega)).trans f2
  have f31 := (b1.frozen (p := ⟨w.heap.size + 1 + 1 + 1, 0, none⟩) (by simp; omega)).trans f3
  clear b1 B0 Xr0 m1 m2 m3 f2 f3
  cases m
  · have E := Lib.hid (X0.out rfl)
    have q2 : ((w1.setCell ⟨w.heap.size + 1 + 1, 0, none⟩ (.slice none 0 0)).setCell ⟨w.heap.size + 1 + 1 + 1, 0, none⟩ (.int .i64 1)).cell? ⟨w.heap.size + 1 + 1, 0, none⟩ = some (.slice none 0 0) := by rw [World.cell?_setCell_other _ _ _ _ (by simp)]; exact World.cell?_setCell_same' _ _ _ (by rw [m21]; rfl)
    have q3 : ((w1.setCell ⟨w.heap.size + 1 + 1, 0, none⟩ (.slice none 0 0)).setCell ⟨w.heap.size + 1 + 1 + 1, 0, none⟩ (.int .i64 1)).cell? ⟨w.heap.size + 1 + 1 + 1, 0, none⟩ = some (.int .i64 1) := World.cell?_setCell_same' _ _ _ (by rw [World.cell?_setCell_other _ _ _ _ (by simp), m31]; rfl)
    have BF := (B1.setCell (p := ⟨w.heap.size + 1 + 1, 0, none⟩) (by simp <;> omega) (.slice none 0 0)).setCell (p := ⟨w.heap.size + 1 + 1 + 1, 0, none⟩) (by simp <;> omega) (.int .i64 1)
    go_wp2
    exact ⟨.tuple #[.slice none 0 0, .int .i64 1], by simp [results, Tryz.f14, go_sem, q2, q3], listC_nil E.out BF⟩
  · obtain ⟨c1, c2, c3, c4, c5⟩ := XM.out rfl
    have Z1 := Lib.hid (show most < (XS.length : Int) → (([] : List Int), (10 : Int)) = q from fun g => X1.out rfl g)
    have Z2 := Lib.hid (show (XS.length : Int) ≤ most → (XS, (0 : Int)) = q from fun g => by first | exact X2.out rfl g | exact X2.out rfl (Int.not_lt.2 g))
    clear X0 XM X1 X2
    go_upto_region 4 with fail
    have y2 := alloc_below w1 (.cells #[.slice none 0 0] 22)
    have g4 : (w1.alloc (.cells #[.slice none 0 0] 22)).cell? ⟨w1.heap.size, 0, none⟩ = some (.slice none 0 0) := by rw [World.cell?_alloc_new]; rfl
    have f4 : (w1.alloc (.cells #[.slice none 0 0] 22)).frozen? ⟨w1.heap.size, 0, none⟩ = false := by simp [go_sem]
    have E2 : (w1.alloc (.cells #[.slice none 0 0] 22)).heap.size = w1.heap.size + 1 := by simp
    generalize w1.alloc (.cells #[.slice none 0 0] 22) = w2 at *
    have B2 := B1.trans (y2.mono B1.size)
    have Xr2 := Xr1.below y2
    have rz0 : w2.cell? ⟨w.heap.size, 0, none⟩ = some (.int .i64 rfreq) := Xr2.at_ 0 _ rfl
    have rz1 : w2.cell? ⟨w.heap.size, 1, none⟩ = some (.int .i64 ritv) := Xr2.at_ 1 _ rfl
    have rz2 : w2.cell? ⟨w.heap.size, 2, none⟩ = some (.int .i64 rcnt) := Xr2.at_ 2 _ rfl
    have rz3 : w2.cell? ⟨w.heap.size, 3, none⟩ = some (.int .i64 rtil) := Xr2.at_ 3 _ rfl
    have rz4 : w2.cell? ⟨w.heap.size, 4, none⟩ = some (.int .i64 rwkst) := Xr2.at_ 4 _ rfl
    have rz5 : w2.cell? ⟨w.heap.size, 5, none⟩ = some (.bool rends) := Xr2.at_ 5 _ rfl
    have rz6 : w2.cell? ⟨w.heap.size, 6, none⟩ = some (.slice ra6 rn6 rc6) := Xr2.at_ 6 _ rfl
    have rz7 : w2.cell? ⟨w.heap.size, 7, none⟩ = some (.slice ra7 rn7 rc7) := Xr2.at_ 7 _ rfl
    have rz8 : w2.cell? ⟨w.heap.size, 8, none⟩ = some (.slice ra8 rn8 rc8) := Xr2.at_ 8 _ rfl
    have rz9 : w2.cell? ⟨w.heap.size, 9, none⟩ = some (.slice ra9 rn9 rc9) := Xr2.at_ 9 _ rfl
    have rz10 : w2.cell? ⟨w.heap.size, 10, none⟩ = some (.slice ra10 rn10 rc10) := Xr2.at_ 10 _ rfl
    have rz11 : w2.cell? ⟨w.heap.size, 11, none⟩ = some (.slice ra11 rn11 rc11) := Xr2.at_ 11 _ rfl
    have rz12 : w2.cell? ⟨w.heap.size, 12, none⟩ = some (.slice ra12 rn12 rc12) := Xr2.at_ 12 _ rfl
    have rz13 : w2.cell? ⟨w.heap.size, 13, none⟩ = some (.slice ra13 rn13 rc13) := Xr2.at_ 13 _ rfl
    have rz14 : w2.cell? ⟨w.heap.size, 14, none⟩ = some (.slice ra14 rn14 rc14) := Xr2.at_ 14 _ rfl
    go_wp2_with fail
    refine (moments_is _ ⟨ra6, rn6, rc6, ra7, rn7, rc7, ra8, rn8, rc8, ra9, rn9, rc9, ra10, rn10, rc10, ra11, rn11, rc11, ra12, rn12, rc12, ra13, rn13, rc13, ra14, rn14, rc14⟩ ⟨rfreq, ritv, rcnt, rtil, rwkst, rends, rmon, rweek, ryday, rmday, rday, rhour, rminu, rsec, rpos⟩ start start end_ c1).mono ?_
    rintro e w3 ⟨he, F4, b3⟩
    clear rz0 rz1 rz2 rz3 rz4 rz5 rz6 rz7 rz8 rz9 rz10 rz11 rz12 rz13 rz14
    have b23 := y2.trans (b3.mono y2.size)
    have m1 := (b23.cell (p := ⟨w.heap.size + 1, 0, none⟩) (by simp; omega)).trans m11
    have m2 := (b23.cell (p := ⟨w.heap.size + 1 + 1, 0, none⟩) (by simp; omega)).trans m21
    have m3 := (b23.cell (p := ⟨w.heap.size + 1 + 1 + 1, 0, none⟩) (by simp; omega)).trans m31
    have f2 := (b23.frozen (p := ⟨w.heap.size + 1 + 1, 0, none⟩) (by simp; omega)).trans f21
    have f3 := (b23.frozen (p := ⟨w.heap.size + 1 + 1 + 1, 0, none⟩) (by simp; omega)).trans f31
    have g43 := (b3.cell (p := ⟨w1.heap.size, 0, none⟩) (by simp; omega)).trans g4
    have f43 := (b3.frozen (p := ⟨w1.heap.size, 0, none⟩) (by simp; omega)).trans f4
    have B3 := B2.trans (b3.mono B2.size)
    have lt4 := F4.lt
    have hb := hi_bd c1 c3
    obtain ⟨gf, lb, hv, hg, SEQ⟩ : ∃ gf lb, MomV w2.heap.size = .func (.func gf) #[] lb ∧ (∀ args w, (callFunc gf args).run Tryz.prog w = .ok (.enter gf args) w) ∧ SeqX Fence.wide (n - 1) Tryz.prog gf lb (setC w w2.heap.size) (InC w w2.heap.size ⟨ra6, rn6, rc6, ra7, rn7, rc7, ra8, rn8, rc8, ra9, rn9, rc9, ra10, rn10, rc10, ra11, rn11, rc11, ra12, rn12, rc12, ra13, rn13, rc13, ra14, rn14, rc14⟩ ⟨rfreq, ritv, rcnt, rtil, rwkst, rends, rmon, rweek, ryday, rmday, rday, rhour, rminu, rsec, rpos⟩ start start (hiR ⟨rfreq, ritv, rcnt, rtil, rwkst, rends, rmon, rweek, ryday, rmday, rday, rhour, rminu, rsec, rpos⟩ end_)) XS :=
      ⟨_, _, rfl, enters_of Tryz.func50 (by kernel_rfl) rfl, by rw [← HXS.out]; exact mom_seq w _ _ start start end_ w2.heap.size (n - 1) (by omega) RA.out c1 c2 c2 (Int.le_refl _) hb.1 hb.2⟩
    rw [hv] at he
    subst he
    clear hv
    obtain ⟨hi, hhi⟩ : ∃ x, hiR ⟨rfreq, ritv, rcnt, rtil, rwkst, rends, rmon, rweek, ryday, rmday, rday, rhour, rminu, rsec, rpos⟩ end_ = x := ⟨_, rfl⟩
    rw [hhi] at SEQ F4
    have IC : InC w w2.heap.size ⟨ra6, rn6, rc6, ra7, rn7, rc7, ra8, rn8, rc8, ra9, rn9, rc9, ra10, rn10, rc10, ra11, rn11, rc11, ra12, rn12, rc12, ra13, rn13, rc13, ra14, rn14, rc14⟩ ⟨rfreq, ritv, rcnt, rtil, rwkst, rends, rmon, rweek, ryday, rmday, rday, rhour, rminu, rsec, rpos⟩ start start hi w3 := ⟨B2.size, B3, F4⟩
    have E3 := b3.size
    have SB := B1.size
    clear hhi hb m11 m21 m31 f21 f31 g4 f4 b23 y2 b3 B1 B2 Xr1 Xr2 F4 HXS
    go_wp2
    refine wpIn_wide (n := n).1 ?_
    refine wpIn_rangeX (n := n) rfl (by omega) (gf := gf) (lb := lb) rfl trivial hg SEQ (fun k hk => by
        rcases hk with h | h <;> omega) (fun W' hk => IC.keeps hk fun k hc => by
        rcases hc with h | h <;> omega)
      (ListI w most w1.heap.size w3.heap.size) (ListX w most XS) (listI_foot (by omega) (by omega)) listX_foot
      ⟨B3, fun _ _ h => h, Nat.le_refl _, m1, m2, m3, f2, f3, ⟨_, g43, World.ownsRow_nil _ _ _ _, fun g e => by cases e⟩, f43, by simp; omega⟩
      (fun x => { tmps := #[.agg #[.int .i64 rfreq, .int .i64 ritv, .int .i64 rcnt, .int .i64 rtil, .int .i64 rwkst, .bool rends, .slice ra6 rn6 rc6, .slice ra7 rn7 rc7, .slice ra8 rn8 rc8, .slice ra9 rn9 rc9, .slice ra10 rn10 rc10, .slice ra11 rn11 rc11, .slice ra12 rn12 rc12, .slice ra13 rn13 rc13, .slice ra14 rn14 rc14], .int .i64 start, .int .i64 end_, .int .i64 most, .pointer (some ⟨w.heap.size, 0, none⟩), undef, undef, .pointer (some ⟨w.heap.size + 1, 0, none⟩), .pointer (some ⟨w.heap.size + 1 + 1, 0, none⟩), .pointer (some ⟨w.heap.size + 1 + 1 + 1, 0, none⟩), .pointer (some ⟨w1.heap.size, 0, none⟩), .int .i64 x, .agg #[.int .i64 rfreq, .int .i64 ritv, .int .i64 rcnt, .int .i64 rtil, .int .i64 rwkst, .bool rends, .slice ra6 rn6 rc6, .slice ra7 rn7 rc7, .slice ra8 rn8 rc8, .slice ra9 rn9 rc9, .slice ra10 rn10 rc10, .slice ra11 rn11 rc11, .slice ra12 rn12 rc12, .slice ra13 rn13 rc13, .slice ra14 rn14 rc14], .int .i64 start, .int .i64 end_, .int .i64 most, .bool true, .bool false, .agg #[.int .i64 rfreq, .int .i64 ritv, .int .i64 rcnt, .int .i64 rtil, .int .i64 rwkst, .bool rends, .slice ra6 rn6 rc6, .slice ra7 rn7 rc7, .slice ra8 rn8 rc8, .slice ra9 rn9 rc9, .slice ra10 rn10 rc10, .slice ra11 rn11 rc11, .slice ra12 rn12 rc12, .slice ra13 rn13 rc13, .slice ra14 rn14 rc14], .int .i64 start, .int .i64 start, .int .i64 end_, .func (.func gf) #[] lb, .int .i64 x, undef, undef, undef, undef, undef, undef, undef, undef, undef], defers := [] }) ?assign ?body ?done ?stop
    case assign =>
      intro l0 x W2 K hK
      gi_wp2
      exact hK
    case body =>
      rintro l0 X pre x W2 M hX hXC hXD hXL hpre
      obtain ⟨v, v1, v2, v3⟩ := M.v
      obtain ⟨A, c, rfl, ia, fr⟩ := row_at v2
      have mm := M.m
      have mr2 := M.r2
      have mr3 := M.r3
      have mf2 := M.f2
      have mf3 := M.f3
      have mf4 := M.f4
      have sz := M.size
      have LE := M.le
      have n2 := M.far (w.heap.size + 1 + 1) (.inl (by omega))
      have n3 := M.far (w.heap.size + 1 + 1 + 1) (.inl (by omega))
      have n4 := M.far w1.heap.size (.inr rfl)
      obtain ⟨k, hk⟩ : ∃ k, pre.length = k := ⟨_, rfl⟩
      have HK := Lib.hid hk
      rw [hk] at v1 LE
      have V2 := Lib.hid v2
      have IA := Lib.hid ia
      have V3 := Lib.hid v3
      have MM := Lib.hid M
      have LONG := Lib.hid (fun (q : (k : Int) = most) => show most < XS.length by
        have := hpre.length_le
        rw [List.length_append, hk] at this
        simp at this
        omega)
      clear v2 ia v3 M hk fr
      by_cases hc : (k : Int) = most
      · have t0 : ((k : Int) == most) = true := by rw [beq_iff_eq]; exact hc
        have L := Lib.hid (LONG.out hc)
        clear LONG hc
        have q2 : ((W2.setCell ⟨w.heap.size + 1 + 1, 0, none⟩ (.slice none 0 0)).setCell ⟨w.heap.size + 1 + 1 + 1, 0, none⟩ (.int .i64 10)).cell? ⟨w.heap.size + 1 + 1, 0, none⟩ = some (.slice none 0 0) := by rw [World.cell?_setCell_other _ _ _ _ (by simp)]; exact World.cell?_setCell_same' _ _ _ (by rw [mr2]; rfl)
        have q3 : ((W2.setCell ⟨w.heap.size + 1 + 1, 0, none⟩ (.slice none 0 0)).setCell ⟨w.heap.size + 1 + 1 + 1, 0, none⟩ (.int .i64 10)).cell? ⟨w.heap.size + 1 + 1 + 1, 0, none⟩ = some (.int .i64 10) := World.cell?_setCell_same' _ _ _ (by rw [World.cell?_setCell_other _ _ _ _ (by simp), mr3]; rfl)
        have BF := (MM.out.below.setCell (p := ⟨w.heap.size + 1 + 1, 0, none⟩) (by simp <;> omega) (.slice none 0 0)).setCell (p := ⟨w.heap.size + 1 + 1 + 1, 0, none⟩) (by simp <;> omega) (.int .i64 10)
        have nC : ∀ j, j < w1.heap.size + 1 → w.heap.size ≤ j → ¬ setC w w2.heap.size j := fun j a b h => by rcases h with h | h <;> omega
        have KF : Keeps (fun k => X k ∨ setC w w2.heap.size k) W2 ((W2.setCell ⟨w.heap.size + 1 + 1, 0, none⟩ (.slice none 0 0)).setCell ⟨w.heap.size + 1 + 1 + 1, 0, none⟩ (.int .i64 10)) :=
          (Keeps.setCell _ _ _ (fun h => h.elim n2 (nC _ (by simp; omega) (by simp; omega)))).trans (Keeps.setCell _ _ _ (fun h => h.elim n3 (nC _ (by simp; omega) (by simp; omega))))
        have FR := MM.out.far
        have SZ : w.heap.size + 4 ≤ ((W2.setCell ⟨w.heap.size + 1 + 1, 0, none⟩ (.slice none 0 0)).setCell ⟨w.heap.size + 1 + 1 + 1, 0, none⟩ (.int .i64 10)).heap.size := by simp; omega
        gi_wp2
        exact ⟨KF, rfl, BF, SZ, fun k h => FR k (.inl h), q2, q3, L.out⟩
      · have t0 : ((k : Int) == most) = false := by rw [beq_eq_false_iff_ne]; exact hc
        have L := Lib.hid (show ((pre ++ [x]).length : Int) ≤ most by rw [List.length_append, HK.out]; simp; omega)
        clear LONG hc
        gi_wp2_with (gi_at_builtin; refine wpListIn_append_x _ rfl _ _ rfl w3.heap.size _ pre (by rw [HK.out]; rfl) (World.ownsRow.alloc V2.out _) ⟨W2.heap.size, 0, none⟩ 1 x rfl (cell_one_new _ _ _) (by simp; omega) (by have := HK.out; omega) ?_; intro v' w5 hown' hgrow hnew; obtain ⟨g', cap', rfl⟩ := ownsRow_succ (k := k) (by have q := hown'; rw [List.length_append, HK.out] at q; exact q); have K5 : Keeps (fun j => X j ∨ j < w3.heap.size) W2 w5 := (Keeps.alloc W2 _).trans (Keeps.grown hgrow (fun b e h => h.elim (V3.out b e) (fun h => by have := (World.ownsRow.lt V2.out b e).1; omega))); have G5 := K5.cell (p := ⟨w1.heap.size, 0, none⟩) (.inr (by simp; omega)) v1; have F5 := K5.frozen (p := ⟨w1.heap.size, 0, none⟩) (.inr (by simp; omega)) v1 mf4; have HN := Lib.hid hnew; have HO := Lib.hid hown'; clear hnew hown' hgrow)
        have KF : Keeps (fun k => X k ∨ setC w w2.heap.size k) W2 (w5.setCell ⟨w1.heap.size, 0, none⟩ (.slice (some ⟨g', 0, none⟩) (k + 1) cap')) :=
          (K5.mono (Y := fun k => X k ∨ setC w w2.heap.size k) fun j h => by
            rcases h with h | h | h
            · exact .inl h
            · exact .inr (by omega)
            · exact .inr (by omega)).trans (Keeps.setCell _ _ _ (fun h => by
            rcases h with h | h | h
            · exact n4 h
            · simp at h; omega
            · simp at h; omega))
        have RW : w5.ownsRow w3.heap.size 3 1 (.slice (some ⟨g', 0, none⟩) (k + 1) cap') (pre ++ [x]).length ((pre ++ [x]).map (Value.int .i64)) := HO.out
        have SK := K5.size
        refine ⟨KF, ⟨(MM.out.below.trans ((K5.mono (Y := fun j => j < w.heap.size) (fun j h => .inr (by omega))).below MM.out.below.size)).setCell (p := ⟨w1.heap.size, 0, none⟩) (by simp; omega) _, MM.out.far, by simp; omega, ?_, ?_, ?_, ?_, ?_, ⟨_, World.cell?_setCell_same' _ _ _ (by rw [G5]; rfl), row_keeps RW fun b o e ho => (Below.heap_setCell _ _ _ _ (by have := (World.ownsRow.lt RW b e).1; simp; omega)).trans ho, fun b e hb => ?_⟩, by rw [World.frozen?_setCell]; exact F5, L.out⟩⟩
        · rw [World.cell?_setCell_other _ _ _ _ (by simp <;> omega)]; exact K5.cell (.inr (by simp; omega)) mm
        · rw [World.cell?_setCell_other _ _ _ _ (by simp <;> omega)]; exact K5.cell (.inr (by simp; omega)) mr2
        · rw [World.cell?_setCell_other _ _ _ _ (by simp <;> omega)]; exact K5.cell (.inr (by simp; omega)) mr3
        · rw [World.frozen?_setCell]; exact K5.frozen (.inr (by simp; omega)) mr2 mf2
        · rw [World.frozen?_setCell]; exact K5.frozen (.inr (by simp; omega)) mr3 mf3
        · rcases HN.out b e with q | q
          · exact V3.out b q hb
          · have := hX b hb
            simp at q
            omega
    case done =>
      rintro D W3 hD M hK
      obtain ⟨v, v1, v2, v3⟩ := M.v
      obtain ⟨A, c, rfl, -, -, cap⟩ := row_atc v2
      have LE := M.le
      have E := Lib.hid (Z2.out LE)
      have mr2 := M.r2
      have mr3 := M.r3
      have mf2 := M.f2
      have mf3 := M.f3
      have sz := M.size
      have DL := (Array.getElem?_eq_some_iff.1 hK).1
      obtain ⟨W4, h4⟩ : ∃ W4, (W3.setCell ⟨w.heap.size + 1 + 1, 0, none⟩ (.slice A XS.length c)).setCell ⟨w.heap.size + 1 + 1 + 1, 0, none⟩ (.int .i64 0) = W4 := ⟨_, rfl⟩
      have hK4 : W4.heap[D]? = some (.deferred (some [])) := by
        rw [← h4]
        exact (Below.heap_setCell _ _ _ _ (by simp; omega)).trans ((Below.heap_setCell _ _ _ _ (by simp; omega)).trans hK)
      have q2 : (W4.putObj D (.deferred none)).cell? ⟨w.heap.size + 1 + 1, 0, none⟩ = some (.slice A XS.length c) := by
        refine (World.cell?_of_block (w := W4) (World.putObj_heap_other (by simp; omega))).trans ?_
        rw [← h4, World.cell?_setCell_other _ _ _ _ (by simp)]
        exact World.cell?_setCell_same' _ _ _ (by rw [mr2]; rfl)
      have q3 : (W4.putObj D (.deferred none)).cell? ⟨w.heap.size + 1 + 1 + 1, 0, none⟩ = some (.int .i64 0) := by
        refine (World.cell?_of_block (w := W4) (World.putObj_heap_other (by simp; omega))).trans ?_
        rw [← h4]
        exact World.cell?_setCell_same' _ _ _ (by rw [World.cell?_setCell_other _ _ _ _ (by simp), mr3]; rfl)
      have RW := row_keeps (w' := W4.putObj D (.deferred none)) v2 fun b o e ho => by
        have lo := (World.ownsRow.lt v2 b e).1
        have nd : b ≠ D := v3 b e
        rw [World.putObj_heap_other nd, ← h4]
        exact (Below.heap_setCell _ _ _ _ (by simp; omega)).trans ((Below.heap_setCell _ _ _ _ (by simp; omega)).trans ho)
      obtain ⟨A2, c2, e2, ia, -⟩ := row_at RW
      injection e2 with e3 _ e4
      subst e3 e4
      have BF : Below w.heap.size w (W4.putObj D (.deferred none)) := by
        have b4 : Below w.heap.size w W4 := by
          rw [← h4]
          exact (M.below.setCell (p := ⟨w.heap.size + 1 + 1, 0, none⟩) (by simp <;> omega) _).setCell (p := ⟨w.heap.size + 1 + 1 + 1, 0, none⟩) (by simp <;> omega) _
        exact b4.trans ((Keeps.putObj (X := fun k => k < w.heap.size) W4 D _ (by omega)).below b4.size)
      have IA := Lib.hid ia
      clear ia v2 v3 RW M
      go_wp2
      refine ⟨by simp, .inl ⟨_, _, rfl, run_takeDeferred hK4, ?_⟩⟩
      have eq := E.out
      subst eq
      exact ⟨.tuple #[.slice A XS.length c, .int .i64 0], by simp [results, Tryz.f14, go_sem, q2, q3], A, c, rfl, IA.out, cap, BF⟩
    case stop =>
      rintro D cc pre W3 hD hpre M hK
      obtain rfl := M.e
      have E := Lib.hid (Z1.out M.long)
      have sz := M.size
      have q2 : (W3.putObj D (.deferred none)).cell? ⟨w.heap.size + 1 + 1, 0, none⟩ = some (.slice none 0 0) := (World.cell?_of_block (w := W3) (World.putObj_heap_other (by simp; omega))).trans M.r2
      have q3 : (W3.putObj D (.deferred none)).cell? ⟨w.heap.size + 1 + 1 + 1, 0, none⟩ = some (.int .i64 10) := (World.cell?_of_block (w := W3) (World.putObj_heap_other (by simp; omega))).trans M.r3
      have BF : Below w.heap.size w (W3.putObj D (.deferred none)) := M.below.trans ((Keeps.putObj (X := fun k => k < w.heap.size) W3 D _ (by omega)).below M.below.size)
      clear M
      gi_wp2
      refine ⟨by simp, .inl ⟨_, _, rfl, run_takeDeferred hK, ?_⟩⟩
      exact ⟨.tuple #[.slice none 0 0, .int .i64 10], by simp [results, Tryz.f14, go_sem, q2, q3], listC_nil E.out BF⟩
end Go.Proofs.YtnfcchimkfnmkaaGreatDoor.Ex
namespace Go.Proofs.YtnfcchimkfnmkaaGreatDoor.Ex
open Go.RowKit Cv St Ru Dd Mb

theorem list_max {r : Ru} {start end_ : Int} {l : List Int} {x : Int} (hp : listR r start end_ 4096 = (l, x)) : (l.length : Int) ≤ 4096 := by
  unfold listR at hp
  split at hp
  · rw [← (Prod.mk.inj hp).1]; simp
  · split at hp
    · rw [← (Prod.mk.inj hp).1]; simp
    · rename_i d
      rw [← (Prod.mk.inj hp).1]; omega
theorem ints_hid (w : World) (A B : Option Addr) (n c m d : Nat) (l k : List Int) (hl : IsAt w A n l) (hk : IsAt w B m k) (h1 : n ≤ 9223372036854775807) (h2 : m ≤ 9223372036854775807) (p : Bool) (hp : decide (l = k) = p) :
    Calls Tryz.prog 19 #[.slice A n c, .slice B m d] w fun e w' => e = .returned (.bool p) ∧ Below w.heap.size w w' := hp ▸ ints_any w A B n c m d l k hl hk h1 h2
/-- the cells of a list that is read -/
structure CellsAt (w : World) (bl off m : Nat) (l : List Int) : Prop where
  lt : bl < w.heap.size
  at_ : ∀ j, j < m → w.cell? ⟨bl, off + j, none⟩ = some (.int .i64 (iat l j))
theorem CellsAt.below {w w' : World} {bl off m : Nat} {l : List Int} (h : CellsAt w bl off m l) (hb : Below w.heap.size w w') : CellsAt w' bl off m l :=
  ⟨Nat.lt_of_lt_of_le h.lt hb.size, fun j hj => (hb.cell (p := ⟨bl, _, none⟩) h.lt).trans (h.at_ j hj)⟩
theorem cells_of {w : World} {A : Option Addr} {m : Nat} {l : List Int} (h : IsAt w A m l) (h0 : 0 < m) : ∃ bl off, A = some ⟨bl, off, none⟩ ∧ CellsAt w bl off m l := by
  obtain ⟨bl, off, e, lt, hc⟩ := h.2 h0
  exact ⟨bl, off, e, lt, hc⟩
/-- what is left behind the first ones -/
theorem is_drop {W : World} {bl off n t : Nat} {l : List Int} (h : IsAt W (some ⟨bl, off, none⟩) n l) (ht : t ≤ n) : IsAt W (some ⟨bl, off + t, none⟩) (n - t) (l.drop t) := by
  refine ⟨by rw [List.length_drop]; have := h.1; omega, fun h0 => ?_⟩
  obtain ⟨b, o, e, hlt, hc⟩ := h.2 (by omega)
  injection e with e
  injection e with e1 e2 e3
  subst e1 e2
  refine ⟨bl, off + t, rfl, hlt, fun j hj => ?_⟩
  rw [show off + t + j = off + (t + j) by omega, hc (t + j) (by omega), iat_lt (by have := h.1; omega), iat_lt (by rw [List.length_drop]; have := h.1; omega), List.getElem_drop]
set_option maxRecDepth 100000 in
set_option maxHeartbeats 16000000 in
theorem whole_is (w : World) (S : RS) (r : Ru) (x : Bool) (h : RuAt w S r) (hx : wholeB r = x) :
    Calls Tryz.prog 24 #[S.val r] w fun e w' => e = .returned (.bool x) ∧ Below w.heap.size w w' := by
  have e8 := h.h8.1; have e9 := h.h9.1; have e10 := h.h10.1; have e11 := h.h11.1; have e12 := h.h12.1; have e13 := h.h13.1
  have m8 := h.l8; have m9 := h.l9; have m10 := h.l10; have m11 := h.l11; have m12 := h.l12; have m13 := h.l13
  have XF := Lib.hid hx
  clear h hx
  obtain ⟨ra6, rn6, rc6, ra7, rn7, rc7, ra8, rn8, rc8, ra9, rn9, rc9, ra10, rn10, rc10, ra11, rn11, rc11, ra12, rn12, rc12, ra13, rn13, rc13, ra14, rn14, rc14⟩ := S
  obtain ⟨rfreq, ritv, rcnt, rtil, rwkst, rends, rmon, rweek, ryday, rmday, rday, rhour, rminu, rsec, rpos⟩ := r
  simp only at e8 e9 e10 e11 e12 e13 m8 m9 m10 m11 m12 m13
  have XF := Lib.hid (show (decide (0 < rn8 + rn9 + rn10) && decide (0 < rn11) && decide (0 < rn12) && decide (0 < rn13)) = x by rw [e8, e9, e10, e11, e12, e13]; exact XF.out)
  clear e8 e9 e10 e11 e12 e13
  have W1 : IntKind.i64.wrap ((rn8 : Int) + rn9) = (rn8 : Int) + rn9 := IntWalk.i64_in _ (by omega)
  have W2 : IntKind.i64.wrap ((rn8 : Int) + rn9 + rn10) = (rn8 : Int) + rn9 + rn10 := IntWalk.i64_in _ (by omega)
  show Calls Tryz.prog 24 #[.agg #[.int .i64 rfreq, .int .i64 ritv, .int .i64 rcnt, .int .i64 rtil, .int .i64 rwkst, .bool rends, .slice ra6 rn6 rc6, .slice ra7 rn7 rc7, .slice ra8 rn8 rc8, .slice ra9 rn9 rc9, .slice ra10 rn10 rc10, .slice ra11 rn11 rc11, .slice ra12 rn12 rc12, .slice ra13 rn13 rc13, .slice ra14 rn14 rc14]] w _
  go_enter Tryz.func24, Tryz.ntmps24
  go_upto_region 1 with fail
  have B0 := alloc_below w (.cells #[.int .i64 rfreq, .int .i64 ritv, .int .i64 rcnt, .int .i64 rtil, .int .i64 rwkst, .bool rends, .slice ra6 rn6 rc6, .slice ra7 rn7 rc7, .slice ra8 rn8 rc8, .slice ra9 rn9 rc9, .slice ra10 rn10 rc10, .slice ra11 rn11 rc11, .slice ra12 rn12 rc12, .slice ra13 rn13 rc13, .slice ra14 rn14 rc14] 25)
  have Xr0 := Box.new w #[.int .i64 rfreq, .int .i64 ritv, .int .i64 rcnt, .int .i64 rtil, .int .i64 rwkst, .bool rends, .slice ra6 rn6 rc6, .slice ra7 rn7 rc7, .slice ra8 rn8 rc8, .slice ra9 rn9 rc9, .slice ra10 rn10 rc10, .slice ra11 rn11 rc11, .slice ra12 rn12 rc12, .slice ra13 rn13 rc13, .slice ra14 rn14 rc14] 25
  generalize w.alloc (.cells #[.int .i64 rfreq, .int .i64 ritv, .int .i64 rcnt, .int .i64 rtil, .int .i64 rwkst, .bool rends, .slice ra6 rn6 rc6, .slice ra7 rn7 rc7, .slice ra8 rn8 rc8, .slice ra9 rn9 rc9, .slice ra10 rn10 rc10, .slice ra11 rn11 rc11, .slice ra12 rn12 rc12, .slice ra13 rn13 rc13, .slice ra14 rn14 rc14] 25) = w0 at *
  have rz0 : w0.cell? ⟨w.heap.size, 0, none⟩ = some (.int .i64 rfreq) := Xr0.at_ 0 _ rfl
  have rz1 : w0.cell? ⟨w.heap.size, 1, none⟩ = some (.int .i64 ritv) := Xr0.at_ 1 _ rfl
  have rz2 : w0.cell? ⟨w.heap.size, 2, none⟩ = some (.int .i64 rcnt) := Xr0.at_ 2 _ rfl
  have rz3 : w0.cell? ⟨w.heap.size, 3, none⟩ = some (.int .i64 rtil) := Xr0.at_ 3 _ rfl
  have rz4 : w0.cell? ⟨w.heap.size, 4, none⟩ = some (.int .i64 rwkst) := Xr0.at_ 4 _ rfl
  have rz5 : w0.cell? ⟨w.heap.size, 5, none⟩ = some (.bool rends) := Xr0.at_ 5 _ rfl
  have rz6 : w0.cell? ⟨w.heap.size, 6, none⟩ = some (.slice ra6 rn6 rc6) := Xr0.at_ 6 _ rfl
  have rz7 : w0.cell? ⟨w.heap.size, 7, none⟩ = some (.slice ra7 rn7 rc7) := Xr0.at_ 7 _ rfl
  have rz8 : w0.cell? ⟨w.heap.size, 8, none⟩ = some (.slice ra8 rn8 rc8) := Xr0.at_ 8 _ rfl
  have rz9 : w0.cell? ⟨w.heap.size, 9, none⟩ = some (.slice ra9 rn9 rc9) := Xr0.at_ 9 _ rfl
  have rz10 : w0.cell? ⟨w.heap.size, 10, none⟩ = some (.slice ra10 rn10 rc10) := Xr0.at_ 10 _ rfl
  have rz11 : w0.cell? ⟨w.heap.size, 11, none⟩ = some (.slice ra11 rn11 rc11) := Xr0.at_ 11 _ rfl
  have rz12 : w0.cell? ⟨w.heap.size, 12, none⟩ = some (.slice ra12 rn12 rc12) := Xr0.at_ 12 _ rfl
  have rz13 : w0.cell? ⟨w.heap.size, 13, none⟩ = some (.slice ra13 rn13 rc13) := Xr0.at_ 13 _ rfl
  have rz14 : w0.cell? ⟨w.heap.size, 14, none⟩ = some (.slice ra14 rn14 rc14) := Xr0.at_ 14 _ rfl
  by_cases h0 : 0 < rn8 + rn9 + rn10
  rotate_left
  · have t0 : decide ((0 : Int) < (rn8 : Int) + rn9 + rn10) = false := decide_eq_false (by omega)
    have q0 : decide (0 < rn8 + rn9 + rn10) = false := decide_eq_false h0
    rw [q0] at XF
    clear h0
    go_wp2
    go_ret
    exact ⟨by rw [← XF.out]; simp, B0⟩
  have t0 : decide ((0 : Int) < (rn8 : Int) + rn9 + rn10) = true := decide_eq_true (by omega)
  have q0 : decide (0 < rn8 + rn9 + rn10) = true := decide_eq_true h0
  rw [q0] at XF
  clear h0
  by_cases h1 : 0 < rn11
  rotate_left
  · have t1 : decide ((0 : Int) < (rn11 : Int)) = false := decide_eq_false (by omega)
    have q1 : decide (0 < rn11) = false := decide_eq_false h1
    rw [q1] at XF
    clear h1
    go_wp2
    go_ret
    exact ⟨by rw [← XF.out]; simp, B0⟩
  have t1 : decide ((0 : Int) < (rn11 : Int)) = true := decide_eq_true (by omega)
  have q1 : decide (0 < rn11) = true := decide_eq_true h1
  rw [q1] at XF
  clear h1
  by_cases h2 : 0 < rn12
  rotate_left
  · have t2 : decide ((0 : Int) < (rn12 : Int)) = false := decide_eq_false (by omega)
    have q2 : decide (0 < rn12) = false := decide_eq_false h2
    rw [q2] at XF
    clear h2
    go_wp2
    go_ret
    exact ⟨by rw [← XF.out]; simp, B0⟩
  have t2 : decide ((0 : Int) < (rn12 : Int)) = true := decide_eq_true (by omega)
  have q2 : decide (0 < rn12) = true := decide_eq_true h2
  rw [q2] at XF
  clear h2
  by_cases h3 : 0 < rn13
  rotate_left
  · have t3 : decide ((0 : Int) < (rn13 : Int)) = false := decide_eq_false (by omega)
    have q3 : decide (0 < rn13) = false := decide_eq_false h3
    rw [q3] at XF
    clear h3
    go_wp2
    go_ret
    exact ⟨by rw [← XF.out]; simp, B0⟩
  have t3 : decide ((0 : Int) < (rn13 : Int)) = true := decide_eq_true (by omega)
  have q3 : decide (0 < rn13) = true := decide_eq_true h3
  rw [q3] at XF
  clear h3
  go_wp2
  go_ret
  exact ⟨by rw [← XF.out]; simp, B0⟩
set_option maxRecDepth 100000 in
set_option maxHeartbeats 16000000 in
theorem later_walk (w : World) (T : Tabs w) (S : RS) (r : Ru) (start end_ i : Int) (h : RuIn w S r) (l3 : -9223372036854775808 ≤ i) (u3 : i ≤ 9223372036854775807) :
    Calls Tryz.prog 9 #[S.val r, .int .i64 start, .int .i64 end_, .int .i64 i] w fun e w' => e = .returned (.bool true) ∧ Below w.heap.size w w' := by
  have TT := Lib.hid T
  have HK := Lib.hid h
  have FEW := Lib.hid (fun (e : fewB S = true) => h.few e)
  obtain ⟨⟨l, x⟩, hp⟩ : ∃ p, listR (laterR r) start end_ 4096 = p := ⟨_, rfl⟩
  have HP := Lib.hid hp
  have LB4 := Lib.hid (list_max hp)
  obtain ⟨wb, hwb⟩ : ∃ b, wholeB (laterR r) = b := ⟨_, rfl⟩
  have HW := Lib.hid hwb
  have LO := Lib.hid (fun (e : x = 0) (g : wb = true) (t : Nat) (ht : t < l.length) => later_ok (r := laterR r) (start := start) (end_ := end_) (l := l) (i := t) (show listR (laterR r) start end_ 4096 = (l, 0) by rw [hp, e]) (hwb.trans g) ht)
  clear hp hwb
  clear h T
  obtain ⟨ra6, rn6, rc6, ra7, rn7, rc7, ra8, rn8, rc8, ra9, rn9, rc9, ra10, rn10, rc10, ra11, rn11, rc11, ra12, rn12, rc12, ra13, rn13, rc13, ra14, rn14, rc14⟩ := S
  obtain ⟨rfreq, ritv, rcnt, rtil, rwkst, rends, rmon, rweek, ryday, rmday, rday, rhour, rminu, rsec, rpos⟩ := r
  show Calls Tryz.prog 9 #[.agg #[.int .i64 rfreq, .int .i64 ritv, .int .i64 rcnt, .int .i64 rtil, .int .i64 rwkst, .bool rends, .slice ra6 rn6 rc6, .slice ra7 rn7 rc7, .slice ra8 rn8 rc8, .slice ra9 rn9 rc9, .slice ra10 rn10 rc10, .slice ra11 rn11 rc11, .slice ra12 rn12 rc12, .slice ra13 rn13 rc13, .slice ra14 rn14 rc14], .int .i64 start, .int .i64 end_, .int .i64 i] w _
  go_enter Tryz.func9, Tryz.ntmps9
  go_upto_region 1 with fail
  have B0 := alloc_below w (.cells #[.int .i64 rfreq, .int .i64 ritv, .int .i64 rcnt, .int .i64 rtil, .int .i64 rwkst, .bool rends, .slice ra6 rn6 rc6, .slice ra7 rn7 rc7, .slice ra8 rn8 rc8, .slice ra9 rn9 rc9, .slice ra10 rn10 rc10, .slice ra11 rn11 rc11, .slice ra12 rn12 rc12, .slice ra13 rn13 rc13, .slice ra14 rn14 rc14] 25)
  have Xr0 := Box.new w #[.int .i64 rfreq, .int .i64 ritv, .int .i64 rcnt, .int .i64 rtil, .int .i64 rwkst, .bool rends, .slice ra6 rn6 rc6, .slice ra7 rn7 rc7, .slice ra8 rn8 rc8, .slice ra9 rn9 rc9, .slice ra10 rn10 rc10, .slice ra11 rn11 rc11, .slice ra12 rn12 rc12, .slice ra13 rn13 rc13, .slice ra14 rn14 rc14] 25
  generalize w.alloc (.cells #[.int .i64 rfreq, .int .i64 ritv, .int .i64 rcnt, .int .i64 rtil, .int .i64 rwkst, .bool rends, .slice ra6 rn6 rc6, .slice ra7 rn7 rc7, .slice ra8 rn8 rc8, .slice ra9 rn9 rc9, .slice ra10 rn10 rc10, .slice ra11 rn11 rc11, .slice ra12 rn12 rc12, .slice ra13 rn13 rc13, .slice ra14 rn14 rc14] 25) = w0 at *
  go_wp2_with fail
  refine (first8_is _ (TT.out.on B0)).mono ?_
  rintro e w1 ⟨rfl, b1⟩
  have B1 := B0.trans (b1.mono B0.size)
  have Xr1 := Xr0.below b1
  clear B0 Xr0
  clear b1
  have HP := Lib.hid (show listR ⟨rfreq, 1, 0, 0, rwkst, false, rmon, rweek, ryday, rmday, rday, rhour, rminu, rsec, []⟩ start end_ 4096 = (l, x) from HP.out)
  have HW := Lib.hid (show wholeB ⟨rfreq, 1, 0, 0, rwkst, false, rmon, rweek, ryday, rmday, rday, rhour, rminu, rsec, []⟩ = wb from HW.out)
  have LO := Lib.hid (show x = 0 → wb = true → ∀ t : Nat, t < l.length → listR ⟨rfreq, 1, 0, 0, rwkst, false, rmon, rweek, ryday, rmday, rday, rhour, rminu, rsec, []⟩ (iat l t) end_ 4096 = (l.drop t, 0) from LO.out)
  have rz0 : w1.cell? ⟨w.heap.size, 0, none⟩ = some (.int .i64 rfreq) := Xr1.at_ 0 _ rfl
  have rz1 : w1.cell? ⟨w.heap.size, 1, none⟩ = some (.int .i64 ritv) := Xr1.at_ 1 _ rfl
  have rz2 : w1.cell? ⟨w.heap.size, 2, none⟩ = some (.int .i64 rcnt) := Xr1.at_ 2 _ rfl
  have rz3 : w1.cell? ⟨w.heap.size, 3, none⟩ = some (.int .i64 rtil) := Xr1.at_ 3 _ rfl
  have rz4 : w1.cell? ⟨w.heap.size, 4, none⟩ = some (.int .i64 rwkst) := Xr1.at_ 4 _ rfl
  have rz5 : w1.cell? ⟨w.heap.size, 5, none⟩ = some (.bool rends) := Xr1.at_ 5 _ rfl
  have rz6 : w1.cell? ⟨w.heap.size, 6, none⟩ = some (.slice ra6 rn6 rc6) := Xr1.at_ 6 _ rfl
  have rz7 : w1.cell? ⟨w.heap.size, 7, none⟩ = some (.slice ra7 rn7 rc7) := Xr1.at_ 7 _ rfl
  have rz8 : w1.cell? ⟨w.heap.size, 8, none⟩ = some (.slice ra8 rn8 rc8) := Xr1.at_ 8 _ rfl
  have rz9 : w1.cell? ⟨w.heap.size, 9, none⟩ = some (.slice ra9 rn9 rc9) := Xr1.at_ 9 _ rfl
  have rz10 : w1.cell? ⟨w.heap.size, 10, none⟩ = some (.slice ra10 rn10 rc10) := Xr1.at_ 10 _ rfl
  have rz11 : w1.cell? ⟨w.heap.size, 11, none⟩ = some (.slice ra11 rn11 rc11) := Xr1.at_ 11 _ rfl
  have rz12 : w1.cell? ⟨w.heap.size, 12, none⟩ = some (.slice ra12 rn12 rc12) := Xr1.at_ 12 _ rfl
  have rz13 : w1.cell? ⟨w.heap.size, 13, none⟩ = some (.slice ra13 rn13 rc13) := Xr1.at_ 13 _ rfl
  have rz14 : w1.cell? ⟨w.heap.size, 14, none⟩ = some (.slice ra14 rn14 rc14) := Xr1.at_ 14 _ rfl
  go_wp2_with fail
  refine (light8_is _ ⟨ra6, rn6, rc6, ra7, rn7, rc7, ra8, rn8, rc8, ra9, rn9, rc9, ra10, rn10, rc10, ra11, rn11, rc11, ra12, rn12, rc12, ra13, rn13, rc13, ra14, rn14, rc14⟩ ⟨rfreq, ritv, rcnt, rtil, rwkst, rends, rmon, rweek, ryday, rmday, rday, rhour, rminu, rsec, rpos⟩ start end_ (in_below HK.out B1)).mono ?_
  rintro e w2 ⟨⟨lb, rfl, HB⟩, b2⟩
  clear rz0 rz1 rz2 rz3 rz4 rz5 rz6 rz7 rz8 rz9 rz10 rz11 rz12 rz13 rz14
  have B2 := B1.trans (b2.mono B1.size)
  have Xr2 := Xr1.below b2
  clear B1 Xr1
  clear b2
  have LB := Lib.hid HB
  clear HB
  cases lb
  · go_wp2_with fail
    refine (first8_is _ (TT.out.on B2)).mono ?_
    rintro e w3 ⟨rfl, b3⟩
    have B3 := B2.trans (b3.mono B2.size)
    have Xr3 := Xr2.below b3
    clear B2 Xr2
    clear b3
    go_wp2
    go_ret
    exact ⟨rfl, B3⟩
  · have X1 := Lib.hid (LB.out rfl)
    clear LB
    have RA := Lib.hid (FEW.out X1.out)
    have rz0 : w2.cell? ⟨w.heap.size, 0, none⟩ = some (.int .i64 rfreq) := Xr2.at_ 0 _ rfl
    have rz1 : w2.cell? ⟨w.heap.size, 1, none⟩ = some (.int .i64 ritv) := Xr2.at_ 1 _ rfl
    have rz2 : w2.cell? ⟨w.heap.size, 2, none⟩ = some (.int .i64 rcnt) := Xr2.at_ 2 _ rfl
    have rz3 : w2.cell? ⟨w.heap.size, 3, none⟩ = some (.int .i64 rtil) := Xr2.at_ 3 _ rfl
    have rz4 : w2.cell? ⟨w.heap.size, 4, none⟩ = some (.int .i64 rwkst) := Xr2.at_ 4 _ rfl
    have rz5 : w2.cell? ⟨w.heap.size, 5, none⟩ = some (.bool rends) := Xr2.at_ 5 _ rfl
    have rz6 : w2.cell? ⟨w.heap.size, 6, none⟩ = some (.slice ra6 rn6 rc6) := Xr2.at_ 6 _ rfl
    have rz7 : w2.cell? ⟨w.heap.size, 7, none⟩ = some (.slice ra7 rn7 rc7) := Xr2.at_ 7 _ rfl
    have rz8 : w2.cell? ⟨w.heap.size, 8, none⟩ = some (.slice ra8 rn8 rc8) := Xr2.at_ 8 _ rfl
    have rz9 : w2.cell? ⟨w.heap.size, 9, none⟩ = some (.slice ra9 rn9 rc9) := Xr2.at_ 9 _ rfl
    have rz10 : w2.cell? ⟨w.heap.size, 10, none⟩ = some (.slice ra10 rn10 rc10) := Xr2.at_ 10 _ rfl
    have rz11 : w2.cell? ⟨w.heap.size, 11, none⟩ = some (.slice ra11 rn11 rc11) := Xr2.at_ 11 _ rfl
    have rz12 : w2.cell? ⟨w.heap.size, 12, none⟩ = some (.slice ra12 rn12 rc12) := Xr2.at_ 12 _ rfl
    have rz13 : w2.cell? ⟨w.heap.size, 13, none⟩ = some (.slice ra13 rn13 rc13) := Xr2.at_ 13 _ rfl
    have rz14 : w2.cell? ⟨w.heap.size, 14, none⟩ = some (.slice ra14 rn14 rc14) := Xr2.at_ 14 _ rfl
    go_wp2_with fail
    refine (copyR_own _ ⟨ra6, rn6, rc6, ra7, rn7, rc7, ra8, rn8, rc8, ra9, rn9, rc9, ra10, rn10, rc10, ra11, rn11, rc11, ra12, rn12, rc12, ra13, rn13, rc13, ra14, rn14, rc14⟩ ⟨rfreq, ritv, rcnt, rtil, rwkst, rends, rmon, rweek, ryday, rmday, rday, rhour, rminu, rsec, rpos⟩ (in_below HK.out B2) X1.out).mono ?_
    rintro e w3 ⟨⟨aa6, an6, ac6, aa7, an7, ac7, aa8, an8, ac8, aa9, an9, ac9, aa10, an10, ac10, aa11, an11, ac11, aa12, an12, ac12, aa13, an13, ac13, aa14, an14, ac14⟩, he, hS, b3, ow⟩
    replace he : e = .returned (.agg #[.int .i64 rfreq, .int .i64 ritv, .int .i64 rcnt, .int .i64 rtil, .int .i64 rwkst, .bool rends, .slice aa6 an6 ac6, .slice aa7 an7 ac7, .slice aa8 an8 ac8, .slice aa9 an9 ac9, .slice aa10 an10 ac10, .slice aa11 an11 ac11, .slice aa12 an12 ac12, .slice aa13 an13 ac13, .slice aa14 an14 ac14]) := he
    subst he
    clear rz0 rz1 rz2 rz3 rz4 rz5 rz6 rz7 rz8 rz9 rz10 rz11 rz12 rz13 rz14
    have B3 := B2.trans (b3.mono B2.size)
    have Xr3 := Xr2.below b3
    clear B2 Xr2
    clear b3
    have hQ : RuAt w3 ⟨aa6, an6, ac6, aa7, an7, ac7, aa8, an8, ac8, aa9, an9, ac9, aa10, an10, ac10, aa11, an11, ac11, aa12, an12, ac12, aa13, an13, ac13, none, 0, 0⟩ ⟨rfreq, 1, 0, 0, rwkst, false, rmon, rweek, ryday, rmday, rday, rhour, rminu, rsec, []⟩ := ⟨hS.h6, hS.h7, hS.h8, hS.h9, hS.h10, hS.h11, hS.h12, hS.h13, IsAt.nil _ _, hS.l6, hS.l7, hS.l8, hS.l9, hS.l10, hS.l11, hS.l12, hS.l13, Nat.zero_le _⟩
    clear hS ow
    go_upto_region 7 with fail
    have b4 := alloc_below w3 (.cells #[.int .i64 rfreq, .int .i64 1, .int .i64 0, .int .i64 0, .int .i64 rwkst, .bool false, .slice aa6 an6 ac6, .slice aa7 an7 ac7, .slice aa8 an8 ac8, .slice aa9 an9 ac9, .slice aa10 an10 ac10, .slice aa11 an11 ac11, .slice aa12 an12 ac12, .slice aa13 an13 ac13, .slice none 0 0] 25)
    have Xa4 := Box.new w3 #[.int .i64 rfreq, .int .i64 1, .int .i64 0, .int .i64 0, .int .i64 rwkst, .bool false, .slice aa6 an6 ac6, .slice aa7 an7 ac7, .slice aa8 an8 ac8, .slice aa9 an9 ac9, .slice aa10 an10 ac10, .slice aa11 an11 ac11, .slice aa12 an12 ac12, .slice aa13 an13 ac13, .slice none 0 0] 25
    have Ra4 := hQ.below b4
    clear hQ
    generalize w3.alloc (.cells #[.int .i64 rfreq, .int .i64 1, .int .i64 0, .int .i64 0, .int .i64 rwkst, .bool false, .slice aa6 an6 ac6, .slice aa7 an7 ac7, .slice aa8 an8 ac8, .slice aa9 an9 ac9, .slice aa10 an10 ac10, .slice aa11 an11 ac11, .slice aa12 an12 ac12, .slice aa13 an13 ac13, .slice none 0 0] 25) = w4 at *
    have B4 := B3.trans (b4.mono B3.size)
    have Xr4 := Xr3.below b4
    clear B3 Xr3
    clear b4
    clear Xr4
    as_aux_lemma =>
      have az0 : w4.cell? ⟨w3.heap.size, 0, none⟩ = some (.int .i64 rfreq) := Xa4.at_ 0 _ rfl
      have az1 : w4.cell? ⟨w3.heap.size, 1, none⟩ = some (.int .i64 1) := Xa4.at_ 1 _ rfl
      have az2 : w4.cell? ⟨w3.heap.size, 2, none⟩ = some (.int .i64 0) := Xa4.at_ 2 _ rfl
      have az3 : w4.cell? ⟨w3.heap.size, 3, none⟩ = some (.int .i64 0) := Xa4.at_ 3 _ rfl
      have az4 : w4.cell? ⟨w3.heap.size, 4, none⟩ = some (.int .i64 rwkst) := Xa4.at_ 4 _ rfl
      have az5 : w4.cell? ⟨w3.heap.size, 5, none⟩ = some (.bool false) := Xa4.at_ 5 _ rfl
      have az6 : w4.cell? ⟨w3.heap.size, 6, none⟩ = some (.slice aa6 an6 ac6) := Xa4.at_ 6 _ rfl
      have az7 : w4.cell? ⟨w3.heap.size, 7, none⟩ = some (.slice aa7 an7 ac7) := Xa4.at_ 7 _ rfl
      have az8 : w4.cell? ⟨w3.heap.size, 8, none⟩ = some (.slice aa8 an8 ac8) := Xa4.at_ 8 _ rfl
      have az9 : w4.cell? ⟨w3.heap.size, 9, none⟩ = some (.slice aa9 an9 ac9) := Xa4.at_ 9 _ rfl
      have az10 : w4.cell? ⟨w3.heap.size, 10, none⟩ = some (.slice aa10 an10 ac10) := Xa4.at_ 10 _ rfl
      have az11 : w4.cell? ⟨w3.heap.size, 11, none⟩ = some (.slice aa11 an11 ac11) := Xa4.at_ 11 _ rfl
      have az12 : w4.cell? ⟨w3.heap.size, 12, none⟩ = some (.slice aa12 an12 ac12) := Xa4.at_ 12 _ rfl
      have az13 : w4.cell? ⟨w3.heap.size, 13, none⟩ = some (.slice aa13 an13 ac13) := Xa4.at_ 13 _ rfl
      have az14 : w4.cell? ⟨w3.heap.size, 14, none⟩ = some (.slice none 0 0) := Xa4.at_ 14 _ rfl
      go_wp2_with fail
      refine (listC_is _ ⟨aa6, an6, ac6, aa7, an7, ac7, aa8, an8, ac8, aa9, an9, ac9, aa10, an10, ac10, aa11, an11, ac11, aa12, an12, ac12, aa13, an13, ac13, none, 0, 0⟩ ⟨rfreq, 1, 0, 0, rwkst, false, rmon, rweek, ryday, rmday, rday, rhour, rminu, rsec, []⟩ (start) (end_) (4096) (l, x) (Ra4) HP.out).mono ?_
      rintro e w5 ⟨A1, c1, he, i5, q1, b5⟩
      replace he : e = .returned (.tuple #[.slice A1 (l : List Int).length c1, .int .i64 x]) := he
      replace i5 : IsAt w5 A1 (l : List Int).length l := i5
      replace q1 : (l : List Int).length ≤ c1 := q1
      subst he
      clear az0 az1 az2 az3 az4 az5 az6 az7 az8 az9 az10 az11 az12 az13 az14
      have B5 := B4.trans (b5.mono B4.size)
      have Xa5 := Xa4.below b5
      have Ra5 := Ra4.below b5
      clear B4 Xa4 Ra4
      clear b5
      have K1 := Lib.hid i5
      clear i5
      obtain ⟨m, hm⟩ : ∃ m, l.length = m := ⟨_, rfl⟩
      have LM := Lib.hid hm
      have lm : (m : Int) ≤ 4096 := by rw [← hm]; exact LB4.out
      rw [hm] at K1 LO q1 ⊢
      clear hm LB4
      by_cases x0 : x = 0
      rotate_left
      · have t0 : (x != 0) = true := by rw [bne_iff_ne]; exact x0
        clear x0 LO
        go_wp2_with fail
        refine (first8_is _ (TT.out.on B5)).mono ?_
        rintro e w6 ⟨rfl, b6⟩
        have B6 := B5.trans (b6.mono B5.size)
        have Xa6 := Xa5.below b6
        have Ra6 := Ra5.below b6
        clear B5 Xa5 Ra5
        have K1 := Lib.hid (K1.out.below b6)
        clear b6
        go_wp2
        go_ret
        exact ⟨rfl, B6⟩
      have t0 : (x != 0) = false := by rw [bne_eq_false_iff_eq]; exact x0
      have LO := Lib.hid (LO.out x0)
      clear x0
      by_cases i0 : i < 0
      · have t1 : decide (i < 0) = true := decide_eq_true i0
        clear i0
        go_wp2_with fail
        refine (first8_is _ (TT.out.on B5)).mono ?_
        rintro e w6 ⟨rfl, b6⟩
        have B6 := B5.trans (b6.mono B5.size)
        have Xa6 := Xa5.below b6
        have Ra6 := Ra5.below b6
        clear B5 Xa5 Ra5
        have K1 := Lib.hid (K1.out.below b6)
        clear b6
        go_wp2
        go_ret
        exact ⟨rfl, B6⟩
      have t1 : decide (i < 0) = false := decide_eq_false i0
      by_cases i1 : (m : Int) ≤ i
      · have t2 : decide ((m : Int) ≤ i) = true := decide_eq_true i1
        clear i0 i1
        go_wp2_with fail
        refine (first8_is _ (TT.out.on B5)).mono ?_
        rintro e w6 ⟨rfl, b6⟩
        have B6 := B5.trans (b6.mono B5.size)
        have Xa6 := Xa5.below b6
        have Ra6 := Ra5.below b6
        clear B5 Xa5 Ra5
        have K1 := Lib.hid (K1.out.below b6)
        clear b6
        go_wp2
        go_ret
        exact ⟨rfl, B6⟩
      have t2 : decide ((m : Int) ≤ i) = false := decide_eq_false i1
      obtain ⟨t, ht⟩ : ∃ t : Nat, i = t := ⟨i.toNat, by omega⟩
      subst ht
      have tm : t < m := by omega
      have t3 : decide (m ≤ t) = false := decide_eq_false (by omega)
      have TM := Lib.hid tm
      clear i0 i1
      have az0 : w5.cell? ⟨w3.heap.size, 0, none⟩ = some (.int .i64 rfreq) := Xa5.at_ 0 _ rfl
      have az1 : w5.cell? ⟨w3.heap.size, 1, none⟩ = some (.int .i64 1) := Xa5.at_ 1 _ rfl
      have az2 : w5.cell? ⟨w3.heap.size, 2, none⟩ = some (.int .i64 0) := Xa5.at_ 2 _ rfl
      have az3 : w5.cell? ⟨w3.heap.size, 3, none⟩ = some (.int .i64 0) := Xa5.at_ 3 _ rfl
      have az4 : w5.cell? ⟨w3.heap.size, 4, none⟩ = some (.int .i64 rwkst) := Xa5.at_ 4 _ rfl
      have az5 : w5.cell? ⟨w3.heap.size, 5, none⟩ = some (.bool false) := Xa5.at_ 5 _ rfl
      have az6 : w5.cell? ⟨w3.heap.size, 6, none⟩ = some (.slice aa6 an6 ac6) := Xa5.at_ 6 _ rfl
      have az7 : w5.cell? ⟨w3.heap.size, 7, none⟩ = some (.slice aa7 an7 ac7) := Xa5.at_ 7 _ rfl
      have az8 : w5.cell? ⟨w3.heap.size, 8, none⟩ = some (.slice aa8 an8 ac8) := Xa5.at_ 8 _ rfl
      have az9 : w5.cell? ⟨w3.heap.size, 9, none⟩ = some (.slice aa9 an9 ac9) := Xa5.at_ 9 _ rfl
      have az10 : w5.cell? ⟨w3.heap.size, 10, none⟩ = some (.slice aa10 an10 ac10) := Xa5.at_ 10 _ rfl
      have az11 : w5.cell? ⟨w3.heap.size, 11, none⟩ = some (.slice aa11 an11 ac11) := Xa5.at_ 11 _ rfl
      have az12 : w5.cell? ⟨w3.heap.size, 12, none⟩ = some (.slice aa12 an12 ac12) := Xa5.at_ 12 _ rfl
      have az13 : w5.cell? ⟨w3.heap.size, 13, none⟩ = some (.slice aa13 an13 ac13) := Xa5.at_ 13 _ rfl
      have az14 : w5.cell? ⟨w3.heap.size, 14, none⟩ = some (.slice none 0 0) := Xa5.at_ 14 _ rfl
      go_wp2_with fail
      refine (whole_is _ ⟨aa6, an6, ac6, aa7, an7, ac7, aa8, an8, ac8, aa9, an9, ac9, aa10, an10, ac10, aa11, an11, ac11, aa12, an12, ac12, aa13, an13, ac13, none, 0, 0⟩ ⟨rfreq, 1, 0, 0, rwkst, false, rmon, rweek, ryday, rmday, rday, rhour, rminu, rsec, []⟩ wb Ra5 HW.out).mono ?_
      rintro e w6 ⟨rfl, b6⟩
      clear az0 az1 az2 az3 az4 az5 az6 az7 az8 az9 az10 az11 az12 az13 az14
      have B6 := B5.trans (b6.mono B5.size)
      have Xa6 := Xa5.below b6
      have Ra6 := Ra5.below b6
      clear B5 Xa5 Ra5
      have K1 := Lib.hid (K1.out.below b6)
      clear b6
      cases wb
      · go_wp2_with fail
        refine (first8_is _ (TT.out.on B6)).mono ?_
        rintro e w7 ⟨rfl, b7⟩
        have B7 := B6.trans (b7.mono B6.size)
        have Xa7 := Xa6.below b7
        have Ra7 := Ra6.below b7
        clear B6 Xa6 Ra6
        have K1 := Lib.hid (K1.out.below b7)
        clear b7
        go_wp2
        go_ret
        exact ⟨rfl, B7⟩
      · have LQ := Lib.hid (LO.out rfl t tm)
        obtain ⟨bl, off, ea, ca⟩ := cells_of K1.out (show 0 < m by omega)
        subst ea
        have CA := Lib.hid ca
        have cc := ca.at_ t tm
        clear ca LO
        obtain ⟨g, hg⟩ : ∃ g, iat l t = g := ⟨_, rfl⟩
        have GG := Lib.hid hg
        rw [hg] at LQ
        clear hg cc
        go_upto_region 10 with fail
        refine wp_region_late (fun _ => false) (fun v => Below w6.heap.size w6 v) (by kernel_rfl) ?_
        have D0 : Below w6.heap.size w6 w6.drew := (Below.refl _ _).drew
        refine Late.take 0 (.agg #[.int .i64 rfreq, .int .i64 1, .int .i64 0, .int .i64 0, .int .i64 rwkst, .bool false, .slice aa6 an6 ac6, .slice aa7 an7 ac7, .slice aa8 an8 ac8, .slice aa9 an9 ac9, .slice aa10 an10 ac10, .slice aa11 an11 ac11, .slice aa12 an12 ac12, .slice aa13 an13 ac13, .slice none 0 0]) rfl (by kernel_rfl) (by kernel_rfl) (by kernel_rfl) (by kernel_rfl) (fun _ _ _ h => h) (.inl ⟨rfl, fun w' hs => ?_⟩) D0 ?_
        · have XQ := Xa6.below hs
          have z0 : w'.cell? ⟨w3.heap.size, 0, none⟩ = some (.int .i64 rfreq) := XQ.at_ 0 _ rfl
          have z1 : w'.cell? ⟨w3.heap.size, 1, none⟩ = some (.int .i64 1) := XQ.at_ 1 _ rfl
          have z2 : w'.cell? ⟨w3.heap.size, 2, none⟩ = some (.int .i64 0) := XQ.at_ 2 _ rfl
          have z3 : w'.cell? ⟨w3.heap.size, 3, none⟩ = some (.int .i64 0) := XQ.at_ 3 _ rfl
          have z4 : w'.cell? ⟨w3.heap.size, 4, none⟩ = some (.int .i64 rwkst) := XQ.at_ 4 _ rfl
          have z5 : w'.cell? ⟨w3.heap.size, 5, none⟩ = some (.bool false) := XQ.at_ 5 _ rfl
          have z6 : w'.cell? ⟨w3.heap.size, 6, none⟩ = some (.slice aa6 an6 ac6) := XQ.at_ 6 _ rfl
          have z7 : w'.cell? ⟨w3.heap.size, 7, none⟩ = some (.slice aa7 an7 ac7) := XQ.at_ 7 _ rfl
          have z8 : w'.cell? ⟨w3.heap.size, 8, none⟩ = some (.slice aa8 an8 ac8) := XQ.at_ 8 _ rfl
          have z9 : w'.cell? ⟨w3.heap.size, 9, none⟩ = some (.slice aa9 an9 ac9) := XQ.at_ 9 _ rfl
          have z10 : w'.cell? ⟨w3.heap.size, 10, none⟩ = some (.slice aa10 an10 ac10) := XQ.at_ 10 _ rfl
          have z11 : w'.cell? ⟨w3.heap.size, 11, none⟩ = some (.slice aa11 an11 ac11) := XQ.at_ 11 _ rfl
          have z12 : w'.cell? ⟨w3.heap.size, 12, none⟩ = some (.slice aa12 an12 ac12) := XQ.at_ 12 _ rfl
          have z13 : w'.cell? ⟨w3.heap.size, 13, none⟩ = some (.slice aa13 an13 ac13) := XQ.at_ 13 _ rfl
          have z14 : w'.cell? ⟨w3.heap.size, 14, none⟩ = some (.slice none 0 0) := XQ.at_ 14 _ rfl
          clear XQ
          go_simp
        refine Late.take 1 (.slice (some ⟨bl, off, none⟩) m c1) rfl (by kernel_rfl) (by kernel_rfl) (by kernel_rfl) (by kernel_rfl) (fun _ _ _ h => h) (.inl ⟨rfl, fun w' hs => ?_⟩) D0 ?_
        · go_simp
        refine Late.take 2 (.int .i64 (t : Int)) rfl (by kernel_rfl) (by kernel_rfl) (by kernel_rfl) (by kernel_rfl) (fun _ _ _ h => h) (.inl ⟨rfl, fun w' hs => ?_⟩) D0 ?_
        · go_simp
        refine Late.take 3 (.pointer (some ⟨bl, off + t, none⟩)) rfl (by kernel_rfl) (by kernel_rfl) (by kernel_rfl) (by kernel_rfl) (fun _ _ _ h => h) (.inl ⟨rfl, fun w' hs => ?_⟩) D0 ?_
        · go_simp
        refine Late.take 4 (.int .i64 g) rfl (by kernel_rfl) (by kernel_rfl) (by kernel_rfl) (by kernel_rfl) (fun _ _ _ h => h) (.inl ⟨rfl, fun w' hs => ?_⟩) D0 ?_
        · have zz : w'.cell? ⟨bl, off + t, none⟩ = some (.int .i64 g) := by rw [← GG.out]; exact (CA.out.below hs).at_ t TM.out
          go_simp
        refine Late.take 5 (.int .i64 end_) rfl (by kernel_rfl) (by kernel_rfl) (by kernel_rfl) (by kernel_rfl) (fun _ _ _ h => h) (.inl ⟨rfl, fun w' hs => ?_⟩) D0 ?_
        · go_simp
        refine Late.one 6 rfl (by kernel_rfl) rfl ?_
        go_simp
        refine (list_is _ ⟨aa6, an6, ac6, aa7, an7, ac7, aa8, an8, ac8, aa9, an9, ac9, aa10, an10, ac10, aa11, an11, ac11, aa12, an12, ac12, aa13, an13, ac13, none, 0, 0⟩ ⟨rfreq, 1, 0, 0, rwkst, false, rmon, rweek, ryday, rmday, rday, rhour, rminu, rsec, []⟩ g end_ 4096 (l.drop t, 0) (Ra6.below D0) LQ.out).mono ?_
        rintro e w7 ⟨A2, c2, he, i7, y7⟩
        replace he : e = .returned (.tuple #[.slice A2 (l.drop t).length c2, .int .i64 0]) := he
        replace i7 : IsAt w7 A2 (l.drop t).length (l.drop t) := i7
        rw [show (l.drop t).length = m - t by rw [List.length_drop, LM.out]] at he i7
        subst he
        have b7 := D0.trans (y7.mono D0.size)
        refine ⟨b7, ?_⟩
        refine Late.take 7 (.tuple #[.slice A2 (m - t) c2, .int .i64 0]) rfl (by kernel_rfl) (by kernel_rfl) (by kernel_rfl) (by kernel_rfl) (fun _ _ _ h => h) (.inl ⟨rfl, fun w' hs => ?_⟩) b7 ?_
        · go_simp
        refine Late.take 8 (.slice A2 (m - t) c2) rfl (by kernel_rfl) (by kernel_rfl) (by kernel_rfl) (by kernel_rfl) (fun _ _ _ h => h) (.inl ⟨rfl, fun w' hs => ?_⟩) b7 ?_
        · go_simp
        refine Late.take 9 (.int .i64 0) rfl (by kernel_rfl) (by kernel_rfl) (by kernel_rfl) (by kernel_rfl) (fun _ _ _ h => h) (.inl ⟨rfl, fun w' hs => ?_⟩) b7 ?_
        · go_simp
        refine Late.take 10 (.slice A2 (m - t) c2) rfl (by kernel_rfl) (by kernel_rfl) (by kernel_rfl) (by kernel_rfl) (fun _ _ _ h => h) (.inl ⟨rfl, fun w' hs => ?_⟩) b7 ?_
        · go_simp
        refine Late.take 11 (.int .i64 0) rfl (by kernel_rfl) (by kernel_rfl) (by kernel_rfl) (by kernel_rfl) (fun _ _ _ h => h) (.inl ⟨rfl, fun w' hs => ?_⟩) b7 ?_
        · go_simp
        refine Late.done (by kernel_rfl) ?_
        clear y7
        have K2 := Lib.hid i7
        clear i7
        have B7 := B6.trans (b7.mono B6.size)
        have Xa7 := Xa6.below b7
        have Ra7 := Ra6.below b7
        clear B6 Xa6 Ra6
        have CA := Lib.hid (CA.out.below b7)
        have K1 := Lib.hid (K1.out.below b7)
        clear b7 D0
        clear Xa7 Ra7
        go_wp2_with fail
        refine (first8_is _ (TT.out.on B7)).mono ?_
        rintro e w8 ⟨rfl, b8⟩
        have B8 := B7.trans (b8.mono B7.size)
        clear B7
        have CA := Lib.hid (CA.out.below b8)
        have K1 := Lib.hid (K1.out.below b8)
        have K2 := Lib.hid (K2.out.below b8)
        clear b8
        have tl : (t : Int) ≤ (m : Int) := by have := TM.out; omega
        have tl2 : t ≤ m := by have := TM.out; omega
        have tl3 : (m : Int) ≤ (c1 : Int) := by omega
        have tl4 : (t : Int) ≤ (c1 : Int) := by omega
        have tl5 : t ≤ c1 := by omega
        go_wp2_with fail
        refine (ints_hid _ A2 _ (m - t) c2 (m - t) (c1 - t) (l.drop t) (l.drop t) K2.out (is_drop K1.out tl2) (by omega) (by omega) true (decide_eq_true rfl)).mono ?_
        rintro e w9 ⟨rfl, b9⟩
        have B9 := B8.trans (b9.mono B8.size)
        clear B8
        have CA := Lib.hid (CA.out.below b9)
        have K1 := Lib.hid (K1.out.below b9)
        have K2 := Lib.hid (K2.out.below b9)
        clear b9
        go_wp2
        go_ret
        exact ⟨rfl, B9⟩
end Go.Proofs.YtnfcchimkfnmkaaGreatDoor.Ex
