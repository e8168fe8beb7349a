/- MemberLess answers true. -/
import Derived.Test.YtajgagmpdhmbkaaGreatDoorMbIn
set_option linter.unusedVariables false
namespace Go.Proofs.YtajgagmpdhmbkaaGreatDoor.Mb
open Go.RowKit Cv St Ru Dd

set_option maxRecDepth 100000 in
set_option maxHeartbeats 16000000 in
theorem less_walk (w : World) (T : Tabs w) (S : RS) (r : Ru) (start t count : Int) (h : RuIn w S r) :
    Calls Tryz.prog 6 #[S.val r, .int .i64 start, .int .i64 t, .int .i64 count] w fun e w' => e = .returned (.bool true) ∧ Below w.heap.size w w' := by
  have TT := Lib.hid T
  have HK := Lib.hid h
  have FEW := Lib.hid (fun (e : fewB S = true) => h.few e)
  obtain ⟨x, hx⟩ : ∃ x, hasM r start t = x := ⟨_, rfl⟩
  obtain ⟨y, hy⟩ : ∃ y, rawB r start t = y := ⟨_, rfl⟩
  obtain ⟨z, hz⟩ : ∃ z, inM r start t = z := ⟨_, rfl⟩
  obtain ⟨m, hm⟩ : ∃ m, mayR r = m := ⟨_, rfl⟩
  obtain ⟨mq, hmq⟩ : ∃ m, mayR { r with cnt := count } = m := ⟨_, rfl⟩
  obtain ⟨xq, hxq⟩ : ∃ x, hasM { r with cnt := count } start t = x := ⟨_, rfl⟩
  have HX := Lib.hid hx
  have HY := Lib.hid hy
  have HM := Lib.hid hm
  have HMQ := Lib.hid hmq
  have HXQ := Lib.hid hxq
  have ZZ := Lib.hid (show (y && decide (start ≤ t) && (!r.ends || decide (t ≤ r.til))) = z by rw [← hy, ← hz]; rfl)
  have XZ := Lib.hid (show (x = true → z = true) ∧ (r.pos = [] → x = z) by rw [← hx, ← hz]; exact ⟨has_in, has_plain⟩)
  have XQ := Lib.hid (fun (e : m = true) (f : mq = true) => show xq = x by rw [← hx, ← hxq]; exact less_count (hm.trans e) (hmq.trans f))
  have E14 := Lib.hid h.h14.1
  clear hx hy hz hm hmq hxq
  clear h T
  obtain ⟨ra6, rn6, rc6, ra7, rn7, rc7, ra8, rn8, rc8, ra9, rn9, rc9, ra10, rn10, rc10, ra11, rn11, rc11, ra12, rn12, rc12, ra13, rn13, rc13, ra14, rn14, rc14⟩ := S
  obtain ⟨rfreq, ritv, rcnt, rtil, rwkst, rends, rmon, rweek, ryday, rmday, rday, rhour, rminu, rsec, rpos⟩ := r
  show Calls Tryz.prog 6 #[.agg #[.int .i64 rfreq, .int .i64 ritv, .int .i64 rcnt, .int .i64 rtil, .int .i64 rwkst, .bool rends, .slice ra6 rn6 rc6, .slice ra7 rn7 rc7, .slice ra8 rn8 rc8, .slice ra9 rn9 rc9, .slice ra10 rn10 rc10, .slice ra11 rn11 rc11, .slice ra12 rn12 rc12, .slice ra13 rn13 rc13, .slice ra14 rn14 rc14], .int .i64 start, .int .i64 t, .int .i64 count] w _
  go_enter Tryz.func6, Tryz.ntmps6
  go_upto_region 1 with fail
  have B0 := alloc_below w (.cells #[.int .i64 rfreq, .int .i64 ritv, .int .i64 rcnt, .int .i64 rtil, .int .i64 rwkst, .bool rends, .slice ra6 rn6 rc6, .slice ra7 rn7 rc7, .slice ra8 rn8 rc8, .slice ra9 rn9 rc9, .slice ra10 rn10 rc10, .slice ra11 rn11 rc11, .slice ra12 rn12 rc12, .slice ra13 rn13 rc13, .slice ra14 rn14 rc14] 25)
  have Xr0 := Box.new w #[.int .i64 rfreq, .int .i64 ritv, .int .i64 rcnt, .int .i64 rtil, .int .i64 rwkst, .bool rends, .slice ra6 rn6 rc6, .slice ra7 rn7 rc7, .slice ra8 rn8 rc8, .slice ra9 rn9 rc9, .slice ra10 rn10 rc10, .slice ra11 rn11 rc11, .slice ra12 rn12 rc12, .slice ra13 rn13 rc13, .slice ra14 rn14 rc14] 25
  generalize w.alloc (.cells #[.int .i64 rfreq, .int .i64 ritv, .int .i64 rcnt, .int .i64 rtil, .int .i64 rwkst, .bool rends, .slice ra6 rn6 rc6, .slice ra7 rn7 rc7, .slice ra8 rn8 rc8, .slice ra9 rn9 rc9, .slice ra10 rn10 rc10, .slice ra11 rn11 rc11, .slice ra12 rn12 rc12, .slice ra13 rn13 rc13, .slice ra14 rn14 rc14] 25) = w0 at *
  go_wp2_with fail
  refine (first7_is _ (TT.out.on B0)).mono ?_
  rintro e w1 ⟨rfl, b1⟩
  have B1 := B0.trans (b1.mono B0.size)
  have Xr1 := Xr0.below b1
  clear B0 Xr0
  clear b1
  have ZZ := Lib.hid (show (y && decide (start ≤ t) && (!rends || decide (t ≤ rtil))) = z from ZZ.out)
  have E14 := Lib.hid (show rn14 = rpos.length from E14.out)
  have XZ := Lib.hid (show (x = true → z = true) ∧ (rpos = [] → x = z) from XZ.out)
  have rz0 : w1.cell? ⟨w.heap.size, 0, none⟩ = some (.int .i64 rfreq) := Xr1.at_ 0 _ rfl
  have rz1 : w1.cell? ⟨w.heap.size, 1, none⟩ = some (.int .i64 ritv) := Xr1.at_ 1 _ rfl
  have rz2 : w1.cell? ⟨w.heap.size, 2, none⟩ = some (.int .i64 rcnt) := Xr1.at_ 2 _ rfl
  have rz3 : w1.cell? ⟨w.heap.size, 3, none⟩ = some (.int .i64 rtil) := Xr1.at_ 3 _ rfl
  have rz4 : w1.cell? ⟨w.heap.size, 4, none⟩ = some (.int .i64 rwkst) := Xr1.at_ 4 _ rfl
  have rz5 : w1.cell? ⟨w.heap.size, 5, none⟩ = some (.bool rends) := Xr1.at_ 5 _ rfl
  have rz6 : w1.cell? ⟨w.heap.size, 6, none⟩ = some (.slice ra6 rn6 rc6) := Xr1.at_ 6 _ rfl
  have rz7 : w1.cell? ⟨w.heap.size, 7, none⟩ = some (.slice ra7 rn7 rc7) := Xr1.at_ 7 _ rfl
  have rz8 : w1.cell? ⟨w.heap.size, 8, none⟩ = some (.slice ra8 rn8 rc8) := Xr1.at_ 8 _ rfl
  have rz9 : w1.cell? ⟨w.heap.size, 9, none⟩ = some (.slice ra9 rn9 rc9) := Xr1.at_ 9 _ rfl
  have rz10 : w1.cell? ⟨w.heap.size, 10, none⟩ = some (.slice ra10 rn10 rc10) := Xr1.at_ 10 _ rfl
  have rz11 : w1.cell? ⟨w.heap.size, 11, none⟩ = some (.slice ra11 rn11 rc11) := Xr1.at_ 11 _ rfl
  have rz12 : w1.cell? ⟨w.heap.size, 12, none⟩ = some (.slice ra12 rn12 rc12) := Xr1.at_ 12 _ rfl
  have rz13 : w1.cell? ⟨w.heap.size, 13, none⟩ = some (.slice ra13 rn13 rc13) := Xr1.at_ 13 _ rfl
  have rz14 : w1.cell? ⟨w.heap.size, 14, none⟩ = some (.slice ra14 rn14 rc14) := Xr1.at_ 14 _ rfl
  go_wp2_with fail
  refine (light_is _ ⟨ra6, rn6, rc6, ra7, rn7, rc7, ra8, rn8, rc8, ra9, rn9, rc9, ra10, rn10, rc10, ra11, rn11, rc11, ra12, rn12, rc12, ra13, rn13, rc13, ra14, rn14, rc14⟩ ⟨rfreq, ritv, rcnt, rtil, rwkst, rends, rmon, rweek, ryday, rmday, rday, rhour, rminu, rsec, rpos⟩ start (in_below HK.out B1)).mono ?_
  rintro e w2 ⟨⟨lb, rfl, HB⟩, b2⟩
  clear rz0 rz1 rz2 rz3 rz4 rz5 rz6 rz7 rz8 rz9 rz10 rz11 rz12 rz13 rz14
  have B2 := B1.trans (b2.mono B1.size)
  have Xr2 := Xr1.below b2
  clear B1 Xr1
  clear b2
  have LB := Lib.hid HB
  clear HB
  cases lb
  · go_wp2_with fail
    refine (first7_is _ (TT.out.on B2)).mono ?_
    rintro e w3 ⟨rfl, b3⟩
    have B3 := B2.trans (b3.mono B2.size)
    have Xr3 := Xr2.below b3
    clear B2 Xr2
    clear b3
    go_wp2
    go_ret
    exact ⟨rfl, B3⟩
  · have X1 := Lib.hid (LB.out rfl)
    clear LB
    have RA := Lib.hid (FEW.out X1.out)
    have rz0 : w2.cell? ⟨w.heap.size, 0, none⟩ = some (.int .i64 rfreq) := Xr2.at_ 0 _ rfl
    have rz1 : w2.cell? ⟨w.heap.size, 1, none⟩ = some (.int .i64 ritv) := Xr2.at_ 1 _ rfl
    have rz2 : w2.cell? ⟨w.heap.size, 2, none⟩ = some (.int .i64 rcnt) := Xr2.at_ 2 _ rfl
    have rz3 : w2.cell? ⟨w.heap.size, 3, none⟩ = some (.int .i64 rtil) := Xr2.at_ 3 _ rfl
    have rz4 : w2.cell? ⟨w.heap.size, 4, none⟩ = some (.int .i64 rwkst) := Xr2.at_ 4 _ rfl
    have rz5 : w2.cell? ⟨w.heap.size, 5, none⟩ = some (.bool rends) := Xr2.at_ 5 _ rfl
    have rz6 : w2.cell? ⟨w.heap.size, 6, none⟩ = some (.slice ra6 rn6 rc6) := Xr2.at_ 6 _ rfl
    have rz7 : w2.cell? ⟨w.heap.size, 7, none⟩ = some (.slice ra7 rn7 rc7) := Xr2.at_ 7 _ rfl
    have rz8 : w2.cell? ⟨w.heap.size, 8, none⟩ = some (.slice ra8 rn8 rc8) := Xr2.at_ 8 _ rfl
    have rz9 : w2.cell? ⟨w.heap.size, 9, none⟩ = some (.slice ra9 rn9 rc9) := Xr2.at_ 9 _ rfl
    have rz10 : w2.cell? ⟨w.heap.size, 10, none⟩ = some (.slice ra10 rn10 rc10) := Xr2.at_ 10 _ rfl
    have rz11 : w2.cell? ⟨w.heap.size, 11, none⟩ = some (.slice ra11 rn11 rc11) := Xr2.at_ 11 _ rfl
    have rz12 : w2.cell? ⟨w.heap.size, 12, none⟩ = some (.slice ra12 rn12 rc12) := Xr2.at_ 12 _ rfl
    have rz13 : w2.cell? ⟨w.heap.size, 13, none⟩ = some (.slice ra13 rn13 rc13) := Xr2.at_ 13 _ rfl
    have rz14 : w2.cell? ⟨w.heap.size, 14, none⟩ = some (.slice ra14 rn14 rc14) := Xr2.at_ 14 _ rfl
    go_wp2_with fail
    refine (has_is _ ⟨ra6, rn6, rc6, ra7, rn7, rc7, ra8, rn8, rc8, ra9, rn9, rc9, ra10, rn10, rc10, ra11, rn11, rc11, ra12, rn12, rc12, ra13, rn13, rc13, ra14, rn14, rc14⟩ ⟨rfreq, ritv, rcnt, rtil, rwkst, rends, rmon, rweek, ryday, rmday, rday, rhour, rminu, rsec, rpos⟩ start t x (RA.out.below B2) HX.out).mono ?_
    rintro e w3 ⟨rfl, b3⟩
    clear rz0 rz1 rz2 rz3 rz4 rz5 rz6 rz7 rz8 rz9 rz10 rz11 rz12 rz13 rz14
    have B3 := B2.trans (b3.mono B2.size)
    have Xr3 := Xr2.below b3
    clear B2 Xr2
    clear b3
    have rz0 : w3.cell? ⟨w.heap.size, 0, none⟩ = some (.int .i64 rfreq) := Xr3.at_ 0 _ rfl
    have rz1 : w3.cell? ⟨w.heap.size, 1, none⟩ = some (.int .i64 ritv) := Xr3.at_ 1 _ rfl
    have rz2 : w3.cell? ⟨w.heap.size, 2, none⟩ = some (.int .i64 rcnt) := Xr3.at_ 2 _ rfl
    have rz3 : w3.cell? ⟨w.heap.size, 3, none⟩ = some (.int .i64 rtil) := Xr3.at_ 3 _ rfl
    have rz4 : w3.cell? ⟨w.heap.size, 4, none⟩ = some (.int .i64 rwkst) := Xr3.at_ 4 _ rfl
    have rz5 : w3.cell? ⟨w.heap.size, 5, none⟩ = some (.bool rends) := Xr3.at_ 5 _ rfl
    have rz6 : w3.cell? ⟨w.heap.size, 6, none⟩ = some (.slice ra6 rn6 rc6) := Xr3.at_ 6 _ rfl
    have rz7 : w3.cell? ⟨w.heap.size, 7, none⟩ = some (.slice ra7 rn7 rc7) := Xr3.at_ 7 _ rfl
    have rz8 : w3.cell? ⟨w.heap.size, 8, none⟩ = some (.slice ra8 rn8 rc8) := Xr3.at_ 8 _ rfl
    have rz9 : w3.cell? ⟨w.heap.size, 9, none⟩ = some (.slice ra9 rn9 rc9) := Xr3.at_ 9 _ rfl
    have rz10 : w3.cell? ⟨w.heap.size, 10, none⟩ = some (.slice ra10 rn10 rc10) := Xr3.at_ 10 _ rfl
    have rz11 : w3.cell? ⟨w.heap.size, 11, none⟩ = some (.slice ra11 rn11 rc11) := Xr3.at_ 11 _ rfl
    have rz12 : w3.cell? ⟨w.heap.size, 12, none⟩ = some (.slice ra12 rn12 rc12) := Xr3.at_ 12 _ rfl
    have rz13 : w3.cell? ⟨w.heap.size, 13, none⟩ = some (.slice ra13 rn13 rc13) := Xr3.at_ 13 _ rfl
    have rz14 : w3.cell? ⟨w.heap.size, 14, none⟩ = some (.slice ra14 rn14 rc14) := Xr3.at_ 14 _ rfl
    go_wp2_with fail
    refine (raw_is _ ⟨ra6, rn6, rc6, ra7, rn7, rc7, ra8, rn8, rc8, ra9, rn9, rc9, ra10, rn10, rc10, ra11, rn11, rc11, ra12, rn12, rc12, ra13, rn13, rc13, ra14, rn14, rc14⟩ ⟨rfreq, ritv, rcnt, rtil, rwkst, rends, rmon, rweek, ryday, rmday, rday, rhour, rminu, rsec, rpos⟩ start t y (RA.out.below B3) HY.out).mono ?_
    rintro e w4 ⟨rfl, b4⟩
    clear rz0 rz1 rz2 rz3 rz4 rz5 rz6 rz7 rz8 rz9 rz10 rz11 rz12 rz13 rz14
    have B4 := B3.trans (b4.mono B3.size)
    have Xr4 := Xr3.below b4
    clear B3 Xr3
    clear b4
    go_upto_region 7 with fail
    go_cut [11] (fun v wx => v = .bool z ∧ Below w4.heap.size w4 wx)
    case first =>
      have rz0 : w4.cell? ⟨w.heap.size, 0, none⟩ = some (.int .i64 rfreq) := Xr4.at_ 0 _ rfl
      have rz1 : w4.cell? ⟨w.heap.size, 1, none⟩ = some (.int .i64 ritv) := Xr4.at_ 1 _ rfl
      have rz2 : w4.cell? ⟨w.heap.size, 2, none⟩ = some (.int .i64 rcnt) := Xr4.at_ 2 _ rfl
      have rz3 : w4.cell? ⟨w.heap.size, 3, none⟩ = some (.int .i64 rtil) := Xr4.at_ 3 _ rfl
      have rz4 : w4.cell? ⟨w.heap.size, 4, none⟩ = some (.int .i64 rwkst) := Xr4.at_ 4 _ rfl
      have rz5 : w4.cell? ⟨w.heap.size, 5, none⟩ = some (.bool rends) := Xr4.at_ 5 _ rfl
      have rz6 : w4.cell? ⟨w.heap.size, 6, none⟩ = some (.slice ra6 rn6 rc6) := Xr4.at_ 6 _ rfl
      have rz7 : w4.cell? ⟨w.heap.size, 7, none⟩ = some (.slice ra7 rn7 rc7) := Xr4.at_ 7 _ rfl
      have rz8 : w4.cell? ⟨w.heap.size, 8, none⟩ = some (.slice ra8 rn8 rc8) := Xr4.at_ 8 _ rfl
      have rz9 : w4.cell? ⟨w.heap.size, 9, none⟩ = some (.slice ra9 rn9 rc9) := Xr4.at_ 9 _ rfl
      have rz10 : w4.cell? ⟨w.heap.size, 10, none⟩ = some (.slice ra10 rn10 rc10) := Xr4.at_ 10 _ rfl
      have rz11 : w4.cell? ⟨w.heap.size, 11, none⟩ = some (.slice ra11 rn11 rc11) := Xr4.at_ 11 _ rfl
      have rz12 : w4.cell? ⟨w.heap.size, 12, none⟩ = some (.slice ra12 rn12 rc12) := Xr4.at_ 12 _ rfl
      have rz13 : w4.cell? ⟨w.heap.size, 13, none⟩ = some (.slice ra13 rn13 rc13) := Xr4.at_ 13 _ rfl
      have rz14 : w4.cell? ⟨w.heap.size, 14, none⟩ = some (.slice ra14 rn14 rc14) := Xr4.at_ 14 _ rfl
      cases y
      · have E := Lib.hid (show false = z from ZZ.out)
        go_wp2
        go_meet
        exact ⟨by rw [← E.out], Below.refl _ _⟩
      · by_cases c1 : start ≤ t
        · have t1 : decide (start ≤ t) = true := decide_eq_true c1
          by_cases c2 : t ≤ rtil
          · have t2 : decide (t ≤ rtil) = true := decide_eq_true c2
            cases rends
            · have E := Lib.hid (show true = z by have := ZZ.out; rw [t1, t2] at this; exact this)
              go_wp2
              go_meet
              exact ⟨by rw [← E.out], Below.refl _ _⟩
            · have E := Lib.hid (show true = z by have := ZZ.out; rw [t1, t2] at this; exact this)
              go_wp2
              go_meet
              exact ⟨by rw [← E.out], Below.refl _ _⟩
          · have t2 : decide (t ≤ rtil) = false := decide_eq_false c2
            cases rends
            · have E := Lib.hid (show true = z by have := ZZ.out; rw [t1, t2] at this; exact this)
              go_wp2
              go_meet
              exact ⟨by rw [← E.out], Below.refl _ _⟩
            · have E := Lib.hid (show false = z by have := ZZ.out; rw [t1, t2] at this; exact this)
              go_wp2
              go_meet
              exact ⟨by rw [← E.out], Below.refl _ _⟩
        · have t1 : decide (start ≤ t) = false := decide_eq_false c1
          have E := Lib.hid (show false = z by have := ZZ.out; rw [t1] at this; exact this)
          go_wp2
          go_meet
          exact ⟨by rw [← E.out], Below.refl _ _⟩
    case rest =>
      obtain ⟨rfl, b5⟩ := hcut
      generalize wc = w5 at *
      have B5 := B4.trans (b5.mono B4.size)
      have Xr5 := Xr4.below b5
      clear B4 Xr4
      clear b5
      go_upto_region 8 with fail
      go_cut [60] (fun v wx => v = .bool false ∧ Below w5.heap.size w5 wx)
      case first =>
        have rz14 : w5.cell? ⟨w.heap.size, 14, none⟩ = some (.slice ra14 rn14 rc14) := Xr5.at_ 14 _ rfl
        cases x
        · cases z
          · by_cases c3 : rn14 = 0
            · have t5 : ((rn14 : Int) == 0) = true := by rw [beq_iff_eq]; omega
              clear c3
              go_wp2
              go_meet
              exact ⟨rfl, Below.refl _ _⟩
            · have t5 : ((rn14 : Int) == 0) = false := by rw [beq_eq_false_iff_ne]; omega
              clear c3
              go_wp2
              go_meet
              exact ⟨rfl, Below.refl _ _⟩
          · have c3 : ¬ rn14 = 0 := fun e => by have := XZ.out.2 (List.length_eq_zero_iff.1 (by rw [← E14.out]; exact e)); cases this
            have t5 : ((rn14 : Int) == 0) = false := by rw [beq_eq_false_iff_ne]; omega
            clear c3
            go_wp2
            go_meet
            exact ⟨rfl, Below.refl _ _⟩
        · cases z
          · have := XZ.out.1 rfl
            cases this
          · by_cases c3 : rn14 = 0
            · have t5 : ((rn14 : Int) == 0) = true := by rw [beq_iff_eq]; omega
              clear c3
              go_wp2
              go_meet
              exact ⟨rfl, Below.refl _ _⟩
            · have t5 : ((rn14 : Int) == 0) = false := by rw [beq_eq_false_iff_ne]; omega
              clear c3
              go_wp2
              go_meet
              exact ⟨rfl, Below.refl _ _⟩
      case rest =>
        obtain ⟨rfl, b6⟩ := hcut
        generalize wc = w6 at *
        have B6 := B5.trans (b6.mono B5.size)
        have Xr6 := Xr5.below b6
        clear B5 Xr5
        clear b6
        have rz0 : w6.cell? ⟨w.heap.size, 0, none⟩ = some (.int .i64 rfreq) := Xr6.at_ 0 _ rfl
        have rz1 : w6.cell? ⟨w.heap.size, 1, none⟩ = some (.int .i64 ritv) := Xr6.at_ 1 _ rfl
        have rz2 : w6.cell? ⟨w.heap.size, 2, none⟩ = some (.int .i64 rcnt) := Xr6.at_ 2 _ rfl
        have rz3 : w6.cell? ⟨w.heap.size, 3, none⟩ = some (.int .i64 rtil) := Xr6.at_ 3 _ rfl
        have rz4 : w6.cell? ⟨w.heap.size, 4, none⟩ = some (.int .i64 rwkst) := Xr6.at_ 4 _ rfl
        have rz5 : w6.cell? ⟨w.heap.size, 5, none⟩ = some (.bool rends) := Xr6.at_ 5 _ rfl
        have rz6 : w6.cell? ⟨w.heap.size, 6, none⟩ = some (.slice ra6 rn6 rc6) := Xr6.at_ 6 _ rfl
        have rz7 : w6.cell? ⟨w.heap.size, 7, none⟩ = some (.slice ra7 rn7 rc7) := Xr6.at_ 7 _ rfl
        have rz8 : w6.cell? ⟨w.heap.size, 8, none⟩ = some (.slice ra8 rn8 rc8) := Xr6.at_ 8 _ rfl
        have rz9 : w6.cell? ⟨w.heap.size, 9, none⟩ = some (.slice ra9 rn9 rc9) := Xr6.at_ 9 _ rfl
        have rz10 : w6.cell? ⟨w.heap.size, 10, none⟩ = some (.slice ra10 rn10 rc10) := Xr6.at_ 10 _ rfl
        have rz11 : w6.cell? ⟨w.heap.size, 11, none⟩ = some (.slice ra11 rn11 rc11) := Xr6.at_ 11 _ rfl
        have rz12 : w6.cell? ⟨w.heap.size, 12, none⟩ = some (.slice ra12 rn12 rc12) := Xr6.at_ 12 _ rfl
        have rz13 : w6.cell? ⟨w.heap.size, 13, none⟩ = some (.slice ra13 rn13 rc13) := Xr6.at_ 13 _ rfl
        have rz14 : w6.cell? ⟨w.heap.size, 14, none⟩ = some (.slice ra14 rn14 rc14) := Xr6.at_ 14 _ rfl
        go_wp2_with fail
        refine (copyR_own _ ⟨ra6, rn6, rc6, ra7, rn7, rc7, ra8, rn8, rc8, ra9, rn9, rc9, ra10, rn10, rc10, ra11, rn11, rc11, ra12, rn12, rc12, ra13, rn13, rc13, ra14, rn14, rc14⟩ ⟨rfreq, ritv, rcnt, rtil, rwkst, rends, rmon, rweek, ryday, rmday, rday, rhour, rminu, rsec, rpos⟩ (in_below HK.out B6) X1.out).mono ?_
        rintro e w7 ⟨⟨qa6, qn6, qc6, qa7, qn7, qc7, qa8, qn8, qc8, qa9, qn9, qc9, qa10, qn10, qc10, qa11, qn11, qc11, qa12, qn12, qc12, qa13, qn13, qc13, qa14, qn14, qc14⟩, he, hS, b7, ow⟩
        replace he : e = .returned (.agg #[.int .i64 rfreq, .int .i64 ritv, .int .i64 rcnt, .int .i64 rtil, .int .i64 rwkst, .bool rends, .slice qa6 qn6 qc6, .slice qa7 qn7 qc7, .slice qa8 qn8 qc8, .slice qa9 qn9 qc9, .slice qa10 qn10 qc10, .slice qa11 qn11 qc11, .slice qa12 qn12 qc12, .slice qa13 qn13 qc13, .slice qa14 qn14 qc14]) := he
        subst he
        clear rz0 rz1 rz2 rz3 rz4 rz5 rz6 rz7 rz8 rz9 rz10 rz11 rz12 rz13 rz14
        have B7 := B6.trans (b7.mono B6.size)
        have Xr7 := Xr6.below b7
        clear B6 Xr6
        clear b7
        have hQ : RuAt w7 ⟨qa6, qn6, qc6, qa7, qn7, qc7, qa8, qn8, qc8, qa9, qn9, qc9, qa10, qn10, qc10, qa11, qn11, qc11, qa12, qn12, qc12, qa13, qn13, qc13, qa14, qn14, qc14⟩ ⟨rfreq, ritv, count, rtil, rwkst, rends, rmon, rweek, ryday, rmday, rday, rhour, rminu, rsec, rpos⟩ := ⟨hS.h6, hS.h7, hS.h8, hS.h9, hS.h10, hS.h11, hS.h12, hS.h13, hS.h14, hS.l6, hS.l7, hS.l8, hS.l9, hS.l10, hS.l11, hS.l12, hS.l13, hS.l14⟩
        clear hS
        go_upto_region 12 with fail
        have b8 := alloc_below w7 (.cells #[.int .i64 rfreq, .int .i64 ritv, .int .i64 count, .int .i64 rtil, .int .i64 rwkst, .bool rends, .slice qa6 qn6 qc6, .slice qa7 qn7 qc7, .slice qa8 qn8 qc8, .slice qa9 qn9 qc9, .slice qa10 qn10 qc10, .slice qa11 qn11 qc11, .slice qa12 qn12 qc12, .slice qa13 qn13 qc13, .slice qa14 qn14 qc14] 25)
        have Xq8 := Box.new w7 #[.int .i64 rfreq, .int .i64 ritv, .int .i64 count, .int .i64 rtil, .int .i64 rwkst, .bool rends, .slice qa6 qn6 qc6, .slice qa7 qn7 qc7, .slice qa8 qn8 qc8, .slice qa9 qn9 qc9, .slice qa10 qn10 qc10, .slice qa11 qn11 qc11, .slice qa12 qn12 qc12, .slice qa13 qn13 qc13, .slice qa14 qn14 qc14] 25
        have Rq8 := hQ.below b8
        clear hQ
        generalize w7.alloc (.cells #[.int .i64 rfreq, .int .i64 ritv, .int .i64 count, .int .i64 rtil, .int .i64 rwkst, .bool rends, .slice qa6 qn6 qc6, .slice qa7 qn7 qc7, .slice qa8 qn8 qc8, .slice qa9 qn9 qc9, .slice qa10 qn10 qc10, .slice qa11 qn11 qc11, .slice qa12 qn12 qc12, .slice qa13 qn13 qc13, .slice qa14 qn14 qc14] 25) = w8 at *
        have B8 := B7.trans (b8.mono B7.size)
        have Xr8 := Xr7.below b8
        clear B7 Xr7
        clear b8
        go_wp2_with fail
        refine (first7_is _ (TT.out.on B8)).mono ?_
        rintro e w9 ⟨rfl, b9⟩
        have B9 := B8.trans (b9.mono B8.size)
        have Xr9 := Xr8.below b9
        have Xq9 := Xq8.below b9
        have Rq9 := Rq8.below b9
        clear B8 Xr8 Xq8 Rq8
        clear b9
        have rz0 : w9.cell? ⟨w.heap.size, 0, none⟩ = some (.int .i64 rfreq) := Xr9.at_ 0 _ rfl
        have rz1 : w9.cell? ⟨w.heap.size, 1, none⟩ = some (.int .i64 ritv) := Xr9.at_ 1 _ rfl
        have rz2 : w9.cell? ⟨w.heap.size, 2, none⟩ = some (.int .i64 rcnt) := Xr9.at_ 2 _ rfl
        have rz3 : w9.cell? ⟨w.heap.size, 3, none⟩ = some (.int .i64 rtil) := Xr9.at_ 3 _ rfl
        have rz4 : w9.cell? ⟨w.heap.size, 4, none⟩ = some (.int .i64 rwkst) := Xr9.at_ 4 _ rfl
        have rz5 : w9.cell? ⟨w.heap.size, 5, none⟩ = some (.bool rends) := Xr9.at_ 5 _ rfl
        have rz6 : w9.cell? ⟨w.heap.size, 6, none⟩ = some (.slice ra6 rn6 rc6) := Xr9.at_ 6 _ rfl
        have rz7 : w9.cell? ⟨w.heap.size, 7, none⟩ = some (.slice ra7 rn7 rc7) := Xr9.at_ 7 _ rfl
        have rz8 : w9.cell? ⟨w.heap.size, 8, none⟩ = some (.slice ra8 rn8 rc8) := Xr9.at_ 8 _ rfl
        have rz9 : w9.cell? ⟨w.heap.size, 9, none⟩ = some (.slice ra9 rn9 rc9) := Xr9.at_ 9 _ rfl
        have rz10 : w9.cell? ⟨w.heap.size, 10, none⟩ = some (.slice ra10 rn10 rc10) := Xr9.at_ 10 _ rfl
        have rz11 : w9.cell? ⟨w.heap.size, 11, none⟩ = some (.slice ra11 rn11 rc11) := Xr9.at_ 11 _ rfl
        have rz12 : w9.cell? ⟨w.heap.size, 12, none⟩ = some (.slice ra12 rn12 rc12) := Xr9.at_ 12 _ rfl
        have rz13 : w9.cell? ⟨w.heap.size, 13, none⟩ = some (.slice ra13 rn13 rc13) := Xr9.at_ 13 _ rfl
        have rz14 : w9.cell? ⟨w.heap.size, 14, none⟩ = some (.slice ra14 rn14 rc14) := Xr9.at_ 14 _ rfl
        go_wp2_with fail
        refine (may_r _ ⟨ra6, rn6, rc6, ra7, rn7, rc7, ra8, rn8, rc8, ra9, rn9, rc9, ra10, rn10, rc10, ra11, rn11, rc11, ra12, rn12, rc12, ra13, rn13, rc13, ra14, rn14, rc14⟩ ⟨rfreq, ritv, rcnt, rtil, rwkst, rends, rmon, rweek, ryday, rmday, rday, rhour, rminu, rsec, rpos⟩ m (RA.out.below B9) HM.out).mono ?_
        rintro e w10 ⟨rfl, b10⟩
        clear rz0 rz1 rz2 rz3 rz4 rz5 rz6 rz7 rz8 rz9 rz10 rz11 rz12 rz13 rz14
        have B10 := B9.trans (b10.mono B9.size)
        have Xr10 := Xr9.below b10
        have Xq10 := Xq9.below b10
        have Rq10 := Rq9.below b10
        clear B9 Xr9 Xq9 Rq9
        clear b10
        cases m
        · go_wp2
          go_ret
          exact ⟨rfl, B10⟩
        · have qz0 : w10.cell? ⟨w7.heap.size, 0, none⟩ = some (.int .i64 rfreq) := Xq10.at_ 0 _ rfl
          have qz1 : w10.cell? ⟨w7.heap.size, 1, none⟩ = some (.int .i64 ritv) := Xq10.at_ 1 _ rfl
          have qz2 : w10.cell? ⟨w7.heap.size, 2, none⟩ = some (.int .i64 count) := Xq10.at_ 2 _ rfl
          have qz3 : w10.cell? ⟨w7.heap.size, 3, none⟩ = some (.int .i64 rtil) := Xq10.at_ 3 _ rfl
          have qz4 : w10.cell? ⟨w7.heap.size, 4, none⟩ = some (.int .i64 rwkst) := Xq10.at_ 4 _ rfl
          have qz5 : w10.cell? ⟨w7.heap.size, 5, none⟩ = some (.bool rends) := Xq10.at_ 5 _ rfl
          have qz6 : w10.cell? ⟨w7.heap.size, 6, none⟩ = some (.slice qa6 qn6 qc6) := Xq10.at_ 6 _ rfl
          have qz7 : w10.cell? ⟨w7.heap.size, 7, none⟩ = some (.slice qa7 qn7 qc7) := Xq10.at_ 7 _ rfl
          have qz8 : w10.cell? ⟨w7.heap.size, 8, none⟩ = some (.slice qa8 qn8 qc8) := Xq10.at_ 8 _ rfl
          have qz9 : w10.cell? ⟨w7.heap.size, 9, none⟩ = some (.slice qa9 qn9 qc9) := Xq10.at_ 9 _ rfl
          have qz10 : w10.cell? ⟨w7.heap.size, 10, none⟩ = some (.slice qa10 qn10 qc10) := Xq10.at_ 10 _ rfl
          have qz11 : w10.cell? ⟨w7.heap.size, 11, none⟩ = some (.slice qa11 qn11 qc11) := Xq10.at_ 11 _ rfl
          have qz12 : w10.cell? ⟨w7.heap.size, 12, none⟩ = some (.slice qa12 qn12 qc12) := Xq10.at_ 12 _ rfl
          have qz13 : w10.cell? ⟨w7.heap.size, 13, none⟩ = some (.slice qa13 qn13 qc13) := Xq10.at_ 13 _ rfl
          have qz14 : w10.cell? ⟨w7.heap.size, 14, none⟩ = some (.slice qa14 qn14 qc14) := Xq10.at_ 14 _ rfl
          go_wp2_with fail
          refine (may_r _ ⟨qa6, qn6, qc6, qa7, qn7, qc7, qa8, qn8, qc8, qa9, qn9, qc9, qa10, qn10, qc10, qa11, qn11, qc11, qa12, qn12, qc12, qa13, qn13, qc13, qa14, qn14, qc14⟩ ⟨rfreq, ritv, count, rtil, rwkst, rends, rmon, rweek, ryday, rmday, rday, rhour, rminu, rsec, rpos⟩ mq Rq10 HMQ.out).mono ?_
          rintro e w11 ⟨rfl, b11⟩
          clear qz0 qz1 qz2 qz3 qz4 qz5 qz6 qz7 qz8 qz9 qz10 qz11 qz12 qz13 qz14
          have B11 := B10.trans (b11.mono B10.size)
          have Xr11 := Xr10.below b11
          have Xq11 := Xq10.below b11
          have Rq11 := Rq10.below b11
          clear B10 Xr10 Xq10 Rq10
          clear b11
          cases mq
          · go_wp2
            go_ret
            exact ⟨rfl, B11⟩
          · have E := Lib.hid (show xq = x from XQ.out (by trivial) (by trivial))
            have HXQ := Lib.hid (HXQ.out.trans E.out)
            have qz0 : w11.cell? ⟨w7.heap.size, 0, none⟩ = some (.int .i64 rfreq) := Xq11.at_ 0 _ rfl
            have qz1 : w11.cell? ⟨w7.heap.size, 1, none⟩ = some (.int .i64 ritv) := Xq11.at_ 1 _ rfl
            have qz2 : w11.cell? ⟨w7.heap.size, 2, none⟩ = some (.int .i64 count) := Xq11.at_ 2 _ rfl
            have qz3 : w11.cell? ⟨w7.heap.size, 3, none⟩ = some (.int .i64 rtil) := Xq11.at_ 3 _ rfl
            have qz4 : w11.cell? ⟨w7.heap.size, 4, none⟩ = some (.int .i64 rwkst) := Xq11.at_ 4 _ rfl
            have qz5 : w11.cell? ⟨w7.heap.size, 5, none⟩ = some (.bool rends) := Xq11.at_ 5 _ rfl
            have qz6 : w11.cell? ⟨w7.heap.size, 6, none⟩ = some (.slice qa6 qn6 qc6) := Xq11.at_ 6 _ rfl
            have qz7 : w11.cell? ⟨w7.heap.size, 7, none⟩ = some (.slice qa7 qn7 qc7) := Xq11.at_ 7 _ rfl
            have qz8 : w11.cell? ⟨w7.heap.size, 8, none⟩ = some (.slice qa8 qn8 qc8) := Xq11.at_ 8 _ rfl
            have qz9 : w11.cell? ⟨w7.heap.size, 9, none⟩ = some (.slice qa9 qn9 qc9) := Xq11.at_ 9 _ rfl
            have qz10 : w11.cell? ⟨w7.heap.size, 10, none⟩ = some (.slice qa10 qn10 qc10) := Xq11.at_ 10 _ rfl
            have qz11 : w11.cell? ⟨w7.heap.size, 11, none⟩ = some (.slice qa11 qn11 qc11) := Xq11.at_ 11 _ rfl
            have qz12 : w11.cell? ⟨w7.heap.size, 12, none⟩ = some (.slice qa12 qn12 qc12) := Xq11.at_ 12 _ rfl
            have qz13 : w11.cell? ⟨w7.heap.size, 13, none⟩ = some (.slice qa13 qn13 qc13) := Xq11.at_ 13 _ rfl
            have qz14 : w11.cell? ⟨w7.heap.size, 14, none⟩ = some (.slice qa14 qn14 qc14) := Xq11.at_ 14 _ rfl
            go_wp2_with fail
            refine (has_is _ ⟨qa6, qn6, qc6, qa7, qn7, qc7, qa8, qn8, qc8, qa9, qn9, qc9, qa10, qn10, qc10, qa11, qn11, qc11, qa12, qn12, qc12, qa13, qn13, qc13, qa14, qn14, qc14⟩ ⟨rfreq, ritv, count, rtil, rwkst, rends, rmon, rweek, ryday, rmday, rday, rhour, rminu, rsec, rpos⟩ start t x Rq11 HXQ.out).mono ?_
            rintro e w12 ⟨rfl, b12⟩
            clear qz0 qz1 qz2 qz3 qz4 qz5 qz6 qz7 qz8 qz9 qz10 qz11 qz12 qz13 qz14
            have B12 := B11.trans (b12.mono B11.size)
            have Xr12 := Xr11.below b12
            have Xq12 := Xq11.below b12
            have Rq12 := Rq11.below b12
            clear B11 Xr11 Xq11 Rq11
            clear b12
            cases x
            · go_wp2
              go_ret
              exact ⟨rfl, B12⟩
            · go_wp2
              go_ret
              exact ⟨rfl, B12⟩
end Go.Proofs.YtajgagmpdhmbkaaGreatDoor.Mb
