/- vokref10.Set: Clash. -/
import Derived.Test.YtjodhfehfpmfaaaIvRef
import Derived.Test.YtjodhfehfpmfaaaIvCuM
import Derived.Test.YtjodhfehfpmfaaaIvOps
set_option linter.unusedVariables false
namespace Go.Proofs.Ytjodhfehfpmfaaa.Iv
open Go.RowKit

def mtB (but : Int) (x : Tg) (sp : List (Int × Int)) : Bool := decide (x.2 ≠ but) && sp.any fun s => ovB x.1 s
theorem mt_take {but : Int} {x : Tg} {sp : List (Int × Int)} {j : Nat} (h : j < sp.length) : mtB but x (sp.take (j + 1)) = (mtB but x (sp.take j) || (decide (x.2 ≠ but) && ovB x.1 (gt sp j))) := by
  unfold mtB
  rw [any_take _ h]
  cases decide (x.2 ≠ but) <;> simp
theorem clash_mt (but : Int) (sp : List (Int × Int)) (all : List Tg) : clashL but sp all = all.find? fun t => mtB but t sp := rfl
theorem mt_nil (but : Int) (x : Tg) : mtB but x [] = false := by unfold mtB; simp
theorem mt_more {but : Int} {x : Tg} {sp : List (Int × Int)} {j : Nat} (h : mtB but x (sp.take j) = true) : mtB but x sp = true := by
  unfold mtB at h ⊢
  rw [Bool.and_eq_true] at h ⊢
  refine ⟨h.1, ?_⟩
  obtain ⟨s, hs, hp⟩ := List.any_eq_true.1 h.2
  exact List.any_eq_true.2 ⟨s, List.mem_of_mem_take hs, hp⟩
theorem fnd_gt {α : Type} [Inhabited α] {p : α → Bool} {m : List α} {j : Nat} (hj : j < m.length) (h : ∀ i, i < j → p (gt m i) = false) (hp : p (gt m j) = true) : m.find? p = some (gt m j) := by
  rw [List.find?_eq_some_iff_getElem]
  refine ⟨hp, j, hj, (gt_lt hj).symm, fun i hi => ?_⟩
  have := h i hi
  rw [gt_lt (by omega)] at this
  rw [this]; rfl
theorem fnd_no {α : Type} [Inhabited α] {p : α → Bool} {m : List α} (h : ∀ i, i < m.length → p (gt m i) = false) : m.find? p = none := by
  rw [List.find?_eq_none]
  intro x hx
  obtain ⟨i, hi, e⟩ := List.getElem_of_mem hx
  have := h i hi
  rw [gt_lt hi, e] at this
  rw [this]; simp
set_option maxRecDepth 100000 in
set_option maxHeartbeats 8000000 in
theorem rclash_is {G : Nat → Prop} (w : World) (r : Nat) (all : List Tg) (B : Option Addr) (n c : Nat) (l : List (Int × Int)) (but : Int) (R : RefIn G w r all) (hB : SpAt w B n l) (hn : n ≤ 900000) (ha : all.length ≤ 1000000) :
    Calls Try.prog 23 #[.pointer (some ⟨r, 0, none⟩), .slice B n c, .int .i64 but] w (ClashIs w (clashL but (normL l) all)) := by
  obtain ⟨A, cA, H⟩ := R
  have p0 := H.c0
  have rl := H.box.lt
  have TA := Lib.hid H.tg
  have HB := Lib.hid hB
  have NL := Lib.hid (norm_len l)
  have LL := Lib.hid hB.1
  clear H hB
  obtain ⟨w0, hw0⟩ : ∃ w0 : World, w0 = w.alloc (.cells #[.int .i64 0, .int .i64 0, .int .i64 0] 45) := ⟨_, rfl⟩
  have BW := Lib.hid (show Below w.heap.size w w0 from hw0 ▸ below_alloc _ _)
  have z0 : w0.cell? ⟨w.heap.size, 0, none⟩ = some (.int .i64 0) := by rw [hw0]; simp
  have z1 : w0.cell? ⟨w.heap.size, 1, none⟩ = some (.int .i64 0) := by rw [hw0]; simp
  have z2 : w0.cell? ⟨w.heap.size, 2, none⟩ = some (.int .i64 0) := by rw [hw0]; simp
  have y0 : ∀ j, w0.frozen? ⟨w.heap.size, j, none⟩ = false := by intro j; rw [hw0]; simp
  have zl : w.heap.size < w0.heap.size := by rw [hw0]; simp
  go_enter Try.func23, Try.ntmps23
  go_wp2_with fail
  rw [← hw0]
  clear hw0
  refine (refnorm_is w0 B n c l (HB.out.below BW.out) hn).mono ?_
  rintro e w1 ⟨A1, c1, rfl, h1, -, -, b1⟩
  have P1 := Lib.hid h1
  have B01 := Lib.hid b1
  have B1 := Lib.hid (BW.out.trans (b1.mono BW.out.size))
  have q0 := (B1.out.cell (p := ⟨r, 0, none⟩) rl).trans p0
  have T1 := Lib.hid (TA.out.below B1.out)
  have x0 := (b1.cell (p := ⟨w.heap.size, 0, none⟩) zl).trans z0
  have x1 := (b1.cell (p := ⟨w.heap.size, 1, none⟩) zl).trans z1
  have x2 := (b1.cell (p := ⟨w.heap.size, 2, none⟩) zl).trans z2
  have f0 := (b1.frozen (p := ⟨w.heap.size, 0, none⟩) zl).trans (y0 0)
  have f1 := (b1.frozen (p := ⟨w.heap.size, 1, none⟩) zl).trans (y0 1)
  have f2 := (b1.frozen (p := ⟨w.heap.size, 2, none⟩) zl).trans (y0 2)
  have zl1 := Nat.lt_of_lt_of_le zl b1.size
  have rl1 := Nat.lt_of_lt_of_le rl B1.out.size
  have CM := Lib.hid (clash_mt but (normL l) all)
  clear h1 b1 z0 z1 z2 y0 p0 TA HB BW B01
  generalize normL l = sp at *
  generalize hk : all.length = k at *
  have HK := Lib.hid hk
  generalize hms : sp.length = m at *
  have HS := Lib.hid hms
  have mb : m ≤ 900000 := by have := NL.out; have := LL.out; omega
  clear hk hms
  go_wp2_with fail
  go_loopw [9] (fun i wr => ∃ t : Nat, i = .int .i64 t ∧ t ≤ k ∧ Hid (∀ i, i < t → mtB but (gt all i) sp = false) ∧ Below w1.heap.size w1 wr) (fun i _ => k - (intOf i).toNat)
  case atStart => exact ⟨0, rfl, Nat.zero_le _, Lib.hid fun i h => absurd h (by omega), Below.refl _ _⟩
  case round =>
    obtain ⟨wo, rfl⟩ : ∃ wo : World, wo = wr := ⟨_, rfl⟩
    obtain ⟨t, rfl, ht, D, hB⟩ := hrel
    have BO := Lib.hid hB
    have r0 := (hB.cell (p := ⟨r, 0, none⟩) rl1).trans q0
    have PO := Lib.hid (P1.out.below hB)
    by_cases hlt : t < k
    · obtain ⟨b1, o1, rfl, hl1, hc1⟩ := T1.out.2 (by omega)
      obtain ⟨e0, e1, e2⟩ := hc1 t hlt
      have C0 := (hB.cell (p := ⟨b1, _, none⟩) hl1).trans e0
      have C1 := (hB.cell (p := ⟨b1, _, none⟩) hl1).trans e1
      have C2 := (hB.cell (p := ⟨b1, _, none⟩) hl1).trans e2
      have hl1o := Nat.lt_of_lt_of_le hl1 hB.size
      have rlo := Nat.lt_of_lt_of_le rl1 hB.size
      have FG := Lib.hid (fun (h : mtB but (gt all t) sp = true) => fnd_gt (p := fun t => mtB but t sp) (m := all) (j := t) (by rw [HK.out]; exact hlt) D.out h)
      have FN := Lib.hid (fun (h : mtB but (gt all t) sp = false) => show ∀ i, i < t + 1 → mtB but (gt all i) sp = false from fun i hi => by
        by_cases q : i = t
        · subst q; exact h
        · exact D.out i (by omega))
      clear hc1 e0 e1 e2 hB D
      generalize gt all t = x at *
      have i5 : (t : Int) < k := by omega
      have s5 : decide ((t : Int) < k) = true := decide_eq_true (by omega)
      have s55 : decide (t < k) = true := decide_eq_true hlt
      have W1 : IntKind.i64.wrap ((t : Int) + 1) = (t : Int) + 1 := IntWalk.i64_in _ (by omega)
      go_wp2_with fail
      go_loopw [10] (fun i wr => ∃ j : Nat, i = .int .i64 j ∧ j ≤ m ∧ Hid (mtB but x (sp.take j) = false) ∧ Below wo.heap.size wo wr) (fun i _ => m - (intOf i).toNat)
      case atStart => exact ⟨0, rfl, Nat.zero_le _, Lib.hid (mt_nil but x), Below.refl _ _⟩
      case round =>
        obtain ⟨wi, rfl⟩ : ∃ wi : World, wi = wr := ⟨_, rfl⟩
        obtain ⟨j, rfl, hj, hq, hI⟩ := hrel
        have c0 := (hI.cell (p := ⟨b1, _, none⟩) hl1o).trans C0
        have c1 := (hI.cell (p := ⟨b1, _, none⟩) hl1o).trans C1
        have c2 := (hI.cell (p := ⟨b1, _, none⟩) hl1o).trans C2
        have u0 := (hI.cell (p := ⟨r, 0, none⟩) rlo).trans r0
        by_cases hlj : j < m
        · obtain ⟨b2, o2, rfl, hl2, hc2⟩ := PO.out.2 (by omega)
          obtain ⟨d0, d1⟩ := hc2 j hlj
          replace d0 := (hI.cell (p := ⟨b2, _, none⟩) hl2).trans d0
          replace d1 := (hI.cell (p := ⟨b2, _, none⟩) hl2).trans d1
          have ST := Lib.hid (mt_take (but := but) (x := x) (show j < sp.length by rw [HS.out]; exact hlj))
          clear hc2
          generalize gt sp j = y at *
          have i6 : (j : Int) < m := by omega
          have s6 : decide ((j : Int) < m) = true := decide_eq_true (by omega)
          have s66 : decide (j < m) = true := decide_eq_true hlj
          have W2 : IntKind.i64.wrap ((j : Int) + 1) = (j : Int) + 1 := IntWalk.i64_in _ (by omega)
          by_cases g2 : x.2 = but
          · have s7 : ((x.2 : Int) != but) = false := by rw [bne_eq_false_iff_eq]; exact g2
            have Q2 := Lib.hid (show mtB but x (sp.take (j + 1)) = false by rw [ST.out, hq.out, decide_eq_false (by intro h; exact h g2)]; rfl)
            clear g2
            go_wp2
            go_big_quiet (fail)
            go_wp2
            go_roundw
            case rel => exact ⟨j + 1, by go_num, by omega, Q2, hI.trans (below_drewN _ _ _)⟩
            case measure => simp [intOf]; omega
          · have s7 : ((x.2 : Int) != but) = true := by rw [bne_iff_ne]; exact g2
            have dt := decide_eq_true (show x.2 ≠ but from g2)
            have BI := Lib.hid (BO.out.trans (hI.mono BO.out.size))
            have szi := BI.out.size
            have ID := Lib.hid (hI.trans ((Below.refl wi.heap.size wi).drew.mono hI.size))
            clear g2
            go_wp2_with fail
            go_still_tail 23, (by kernel_rfl)
            change wpList _ _ _ _ _ wi.drew
            generalize hwd : wi.drew = wd at *
            have WD := Lib.hid (show Below wi.heap.size wi wd from hwd ▸ (Below.refl wi.heap.size wi).drew)
            go_wp2_with fail
            refine (roverlap_is wd x.1 y).mono ?_
            rintro e w3 ⟨rfl, b3⟩
            have B3 := Lib.hid (ID.out.trans (b3.mono ID.out.size))
            have B13 := Lib.hid ((BI.out.trans (WD.out.mono szi)).trans (b3.mono (Nat.le_trans szi WD.out.size)))
            have v0 := (b3.cell (p := ⟨b1, _, none⟩) (Nat.lt_of_lt_of_le (Nat.lt_of_lt_of_le hl1o hI.size) WD.out.size)).trans ((WD.out.cell (p := ⟨b1, _, none⟩) (Nat.lt_of_lt_of_le hl1o hI.size)).trans c0)
            have v1 := (b3.cell (p := ⟨b1, _, none⟩) (Nat.lt_of_lt_of_le (Nat.lt_of_lt_of_le hl1o hI.size) WD.out.size)).trans ((WD.out.cell (p := ⟨b1, _, none⟩) (Nat.lt_of_lt_of_le hl1o hI.size)).trans c1)
            have v2 := (b3.cell (p := ⟨b1, _, none⟩) (Nat.lt_of_lt_of_le (Nat.lt_of_lt_of_le hl1o hI.size) WD.out.size)).trans ((WD.out.cell (p := ⟨b1, _, none⟩) (Nat.lt_of_lt_of_le hl1o hI.size)).trans c2)
            have v3 := (b3.cell (p := ⟨r, 0, none⟩) (Nat.lt_of_lt_of_le (Nat.lt_of_lt_of_le rlo hI.size) WD.out.size)).trans ((WD.out.cell (p := ⟨r, 0, none⟩) (Nat.lt_of_lt_of_le rlo hI.size)).trans u0)
            clear b3 c0 c1 c2 u0 d0 d1 hwd
            cases ho : ovB x.1 y with
            | false =>
              have Q2 := Lib.hid (show mtB but x (sp.take (j + 1)) = false by rw [ST.out, hq.out, ho]; simp)
              clear ho dt
              go_wp2_with fail
              go_roundw
              case rel => exact ⟨j + 1, by go_num, by omega, Q2, B3.out⟩
              case measure => simp [intOf]; omega
            | true =>
              have Q2 := Lib.hid (show clashL but sp all = some x by
                rw [CM.out]
                exact FG.out (mt_more (j := j + 1) (by rw [ST.out, ho, dt]; simp)))
              have g0 := (B13.out.cell (p := ⟨w.heap.size, 0, none⟩) zl1).trans x0
              have g1 := (B13.out.cell (p := ⟨w.heap.size, 1, none⟩) zl1).trans x1
              have g2 := (B13.out.cell (p := ⟨w.heap.size, 2, none⟩) zl1).trans x2
              have h0 := (B13.out.frozen (p := ⟨w.heap.size, 0, none⟩) zl1).trans f0
              have h1 := (B13.out.frozen (p := ⟨w.heap.size, 1, none⟩) zl1).trans f1
              have h2 := (B13.out.frozen (p := ⟨w.heap.size, 2, none⟩) zl1).trans f2
              have BF := Lib.hid (B1.out.trans (B13.out.mono B1.out.size))
              clear ho dt
              go_wp2_with fail
              rw [Q2.out]
              obtain ⟨k0, k1, k2⟩ := cells3 (.int .i64 x.1.1) (.int .i64 x.1.2) (.int .i64 x.2) g0 g1 g2 (Below.refl _ _)
              refine bodyPost_ret (v := tgV (some x)) (by simp [results, Try.results23, go_sem, k0, k1, k2, tgV]) rfl ⟨rfl, ?_⟩
              exact (BF.out.setCell (Nat.le_refl _) _ |>.setCell (Nat.le_refl _) _ |>.setCell (Nat.le_refl _) _)
        · obtain rfl : m = j := by omega
          have s6 : decide ((m : Int) < m) = false := decide_eq_false (by omega)
          have s66 : decide (m < m) = false := decide_eq_false (by omega)
          have D2 := Lib.hid (FN.out (by have := hq.out; rwa [List.take_of_length_le (by rw [HS.out]; exact Nat.le_refl _)] at this))
          have B1I := Lib.hid (BO.out.trans (hI.mono BO.out.size))
          clear hI hq
          go_wp2_with fail
          go_roundw
          case rel => exact ⟨t + 1, by go_num, by omega, D2, B1I.out⟩
          case measure => simp [intOf]; omega
    · obtain rfl : k = t := by omega
      have s5 : decide ((k : Int) < k) = false := decide_eq_false (by omega)
      have s55 : decide (k < k) = false := decide_eq_false (by omega)
      have E := Lib.hid (show clashL but sp all = none by rw [CM.out]; exact fnd_no (by rw [HK.out]; exact D.out))
      have g0 := (hB.cell (p := ⟨w.heap.size, 0, none⟩) zl1).trans x0
      have g1 := (hB.cell (p := ⟨w.heap.size, 1, none⟩) zl1).trans x1
      have g2 := (hB.cell (p := ⟨w.heap.size, 2, none⟩) zl1).trans x2
      have h0 := (hB.frozen (p := ⟨w.heap.size, 0, none⟩) zl1).trans f0
      have h1 := (hB.frozen (p := ⟨w.heap.size, 1, none⟩) zl1).trans f1
      have h2 := (hB.frozen (p := ⟨w.heap.size, 2, none⟩) zl1).trans f2
      have BF := Lib.hid (B1.out.trans (hB.mono B1.out.size))
      clear hB D
      go_wp2_with fail
      rw [E.out]
      obtain ⟨k0, k1, k2⟩ := cells3 (.int .i64 0) (.int .i64 0) (.int .i64 0) g0 g1 g2 (Below.refl _ _)
      refine bodyPost_ret (v := tgV none) (by simp [results, Try.results23, go_sem, k0, k1, k2, tgV]) rfl ⟨rfl, ?_⟩
      exact (BF.out.setCell (Nat.le_refl _) _ |>.setCell (Nat.le_refl _) _ |>.setCell (Nat.le_refl _) _)
end Go.Proofs.Ytjodhfehfpmfaaa.Iv
