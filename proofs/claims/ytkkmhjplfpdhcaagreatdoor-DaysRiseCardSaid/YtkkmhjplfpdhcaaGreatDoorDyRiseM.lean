/- DaysRise answers true. -/
import Derived.Test.YtkkmhjplfpdhcaaGreatDoorDyRiseX
set_option linter.unusedVariables false
namespace Go.Proofs.YtkkmhjplfpdhcaaGreatDoor.Dd
open Go.RowKit Cv St Ru

set_option maxRecDepth 100000 in
set_option maxHeartbeats 8000000 in
theorem rise_h (w : World) (T : Tabs w) (S : RS) (r : Ru) (start t more : Int) (h : RuIn w S r) (l1 : -9223372036854775808 ≤ start) (u1 : start ≤ 9223372036854775807) (l2 : -9223372036854775808 ≤ t) (u2 : t ≤ 9223372036854775807) (l3 : -9223372036854775808 ≤ more) (u3 : more ≤ 9223372036854775807) (hx1 : fewB S = true) (c1 : 0 ≤ more) (c2 : more ≤ 5000000) (c3 : t ≤ 250000000000) (a b lo hi : Int) (h1 : perR r start t = (a, true)) (h2 : perR r start start = (0, true)) (h3 : perR r start (t + more) = (b, true)) (hab : a ≤ b) (h4 : daysR r t = (lo, hi)) (hl : lo ≤ t / 86400) (hh : t / 86400 ≤ hi) (ll : -719162 ≤ lo) (lh : hi ≤ 2932896) (tl : -62135596800 ≤ t) (hf : 4 < r.freq) (hlh : lo = hi) :
    Calls Tryz.prog 4 #[S.val r, .int .i64 start, .int .i64 t, .int .i64 more] w fun e w' => e = .returned (.bool true) ∧ Below w.heap.size w w' := by
  have TT := Lib.hid T
  have HK := Lib.hid h
  have X1 := Lib.hid hx1
  have RA0 := Lib.hid (h.few hx1)
  have F1 := Lib.hid h1
  have F2 := Lib.hid h2
  have F3 := Lib.hid h3
  have F4 := Lib.hid h4
  clear h1 h2 h3 h4
  have HL := Lib.hid hlh
  clear hlh
  clear h T hx1
  replace hf : 4 < r.freq := hf
  obtain ⟨ra6, rn6, rc6, ra7, rn7, rc7, ra8, rn8, rc8, ra9, rn9, rc9, ra10, rn10, rc10, ra11, rn11, rc11, ra12, rn12, rc12, ra13, rn13, rc13, ra14, rn14, rc14⟩ := S
  obtain ⟨rfreq, ritv, rcnt, rtil, rwkst, rends, rmon, rweek, ryday, rmday, rday, rhour, rminu, rsec, rpos⟩ := r
  show Calls Tryz.prog 4 #[.agg #[.int .i64 rfreq, .int .i64 ritv, .int .i64 rcnt, .int .i64 rtil, .int .i64 rwkst, .bool rends, .slice ra6 rn6 rc6, .slice ra7 rn7 rc7, .slice ra8 rn8 rc8, .slice ra9 rn9 rc9, .slice ra10 rn10 rc10, .slice ra11 rn11 rc11, .slice ra12 rn12 rc12, .slice ra13 rn13 rc13, .slice ra14 rn14 rc14], .int .i64 start, .int .i64 t, .int .i64 more] w _
  go_enter Tryz.func4, Tryz.ntmps4
  go_upto_region 1 with fail
  have B0 := alloc_below w (.cells #[.int .i64 rfreq, .int .i64 ritv, .int .i64 rcnt, .int .i64 rtil, .int .i64 rwkst, .bool rends, .slice ra6 rn6 rc6, .slice ra7 rn7 rc7, .slice ra8 rn8 rc8, .slice ra9 rn9 rc9, .slice ra10 rn10 rc10, .slice ra11 rn11 rc11, .slice ra12 rn12 rc12, .slice ra13 rn13 rc13, .slice ra14 rn14 rc14] 25)
  have Xr0 := Box.new w #[.int .i64 rfreq, .int .i64 ritv, .int .i64 rcnt, .int .i64 rtil, .int .i64 rwkst, .bool rends, .slice ra6 rn6 rc6, .slice ra7 rn7 rc7, .slice ra8 rn8 rc8, .slice ra9 rn9 rc9, .slice ra10 rn10 rc10, .slice ra11 rn11 rc11, .slice ra12 rn12 rc12, .slice ra13 rn13 rc13, .slice ra14 rn14 rc14] 25
  generalize w.alloc (.cells #[.int .i64 rfreq, .int .i64 ritv, .int .i64 rcnt, .int .i64 rtil, .int .i64 rwkst, .bool rends, .slice ra6 rn6 rc6, .slice ra7 rn7 rc7, .slice ra8 rn8 rc8, .slice ra9 rn9 rc9, .slice ra10 rn10 rc10, .slice ra11 rn11 rc11, .slice ra12 rn12 rc12, .slice ra13 rn13 rc13, .slice ra14 rn14 rc14] 25) = w0 at *
  go_wp2_with fail
  refine (first_is _ (TT.out.on B0)).mono ?_
  rintro e w1 ⟨rfl, b1⟩
  have B1 := B0.trans (b1.mono B0.size)
  have Xr1 := Xr0.below b1
  clear B0 Xr0
  clear b1
  have Rr1 := RA0.out.below B1
  clear RA0
  have rz0 : w1.cell? ⟨w.heap.size, 0, none⟩ = some (.int .i64 rfreq) := Xr1.at_ 0 _ rfl
  have rz1 : w1.cell? ⟨w.heap.size, 1, none⟩ = some (.int .i64 ritv) := Xr1.at_ 1 _ rfl
  have rz2 : w1.cell? ⟨w.heap.size, 2, none⟩ = some (.int .i64 rcnt) := Xr1.at_ 2 _ rfl
  have rz3 : w1.cell? ⟨w.heap.size, 3, none⟩ = some (.int .i64 rtil) := Xr1.at_ 3 _ rfl
  have rz4 : w1.cell? ⟨w.heap.size, 4, none⟩ = some (.int .i64 rwkst) := Xr1.at_ 4 _ rfl
  have rz5 : w1.cell? ⟨w.heap.size, 5, none⟩ = some (.bool rends) := Xr1.at_ 5 _ rfl
  have rz6 : w1.cell? ⟨w.heap.size, 6, none⟩ = some (.slice ra6 rn6 rc6) := Xr1.at_ 6 _ rfl
  have rz7 : w1.cell? ⟨w.heap.size, 7, none⟩ = some (.slice ra7 rn7 rc7) := Xr1.at_ 7 _ rfl
  have rz8 : w1.cell? ⟨w.heap.size, 8, none⟩ = some (.slice ra8 rn8 rc8) := Xr1.at_ 8 _ rfl
  have rz9 : w1.cell? ⟨w.heap.size, 9, none⟩ = some (.slice ra9 rn9 rc9) := Xr1.at_ 9 _ rfl
  have rz10 : w1.cell? ⟨w.heap.size, 10, none⟩ = some (.slice ra10 rn10 rc10) := Xr1.at_ 10 _ rfl
  have rz11 : w1.cell? ⟨w.heap.size, 11, none⟩ = some (.slice ra11 rn11 rc11) := Xr1.at_ 11 _ rfl
  have rz12 : w1.cell? ⟨w.heap.size, 12, none⟩ = some (.slice ra12 rn12 rc12) := Xr1.at_ 12 _ rfl
  have rz13 : w1.cell? ⟨w.heap.size, 13, none⟩ = some (.slice ra13 rn13 rc13) := Xr1.at_ 13 _ rfl
  have rz14 : w1.cell? ⟨w.heap.size, 14, none⟩ = some (.slice ra14 rn14 rc14) := Xr1.at_ 14 _ rfl
  go_wp2_with fail
  refine (few_is _ ⟨ra6, rn6, rc6, ra7, rn7, rc7, ra8, rn8, rc8, ra9, rn9, rc9, ra10, rn10, rc10, ra11, rn11, rc11, ra12, rn12, rc12, ra13, rn13, rc13, ra14, rn14, rc14⟩ ⟨rfreq, ritv, rcnt, rtil, rwkst, rends, rmon, rweek, ryday, rmday, rday, rhour, rminu, rsec, rpos⟩ true HK.out.k6 HK.out.k7 HK.out.k8 HK.out.k9 HK.out.k10 HK.out.k11 HK.out.k12 HK.out.k13 HK.out.k14 X1.out).mono ?_
  rintro e w2 ⟨rfl, b2⟩
  clear rz0 rz1 rz2 rz3 rz4 rz5 rz6 rz7 rz8 rz9 rz10 rz11 rz12 rz13 rz14
  have B2 := B1.trans (b2.mono B1.size)
  have Xr2 := Xr1.below b2
  have Rr2 := Rr1.below b2
  clear B1 Xr1 Rr1
  clear b2
  have c1 : decide (more < 0) = false := decide_eq_false (by omega)
  have c2 : decide (5000000 < more) = false := decide_eq_false (by omega)
  replace hf : 4 < rfreq := hf
  have rz0 : w2.cell? ⟨w.heap.size, 0, none⟩ = some (.int .i64 rfreq) := Xr2.at_ 0 _ rfl
  have rz1 : w2.cell? ⟨w.heap.size, 1, none⟩ = some (.int .i64 ritv) := Xr2.at_ 1 _ rfl
  have rz2 : w2.cell? ⟨w.heap.size, 2, none⟩ = some (.int .i64 rcnt) := Xr2.at_ 2 _ rfl
  have rz3 : w2.cell? ⟨w.heap.size, 3, none⟩ = some (.int .i64 rtil) := Xr2.at_ 3 _ rfl
  have rz4 : w2.cell? ⟨w.heap.size, 4, none⟩ = some (.int .i64 rwkst) := Xr2.at_ 4 _ rfl
  have rz5 : w2.cell? ⟨w.heap.size, 5, none⟩ = some (.bool rends) := Xr2.at_ 5 _ rfl
  have rz6 : w2.cell? ⟨w.heap.size, 6, none⟩ = some (.slice ra6 rn6 rc6) := Xr2.at_ 6 _ rfl
  have rz7 : w2.cell? ⟨w.heap.size, 7, none⟩ = some (.slice ra7 rn7 rc7) := Xr2.at_ 7 _ rfl
  have rz8 : w2.cell? ⟨w.heap.size, 8, none⟩ = some (.slice ra8 rn8 rc8) := Xr2.at_ 8 _ rfl
  have rz9 : w2.cell? ⟨w.heap.size, 9, none⟩ = some (.slice ra9 rn9 rc9) := Xr2.at_ 9 _ rfl
  have rz10 : w2.cell? ⟨w.heap.size, 10, none⟩ = some (.slice ra10 rn10 rc10) := Xr2.at_ 10 _ rfl
  have rz11 : w2.cell? ⟨w.heap.size, 11, none⟩ = some (.slice ra11 rn11 rc11) := Xr2.at_ 11 _ rfl
  have rz12 : w2.cell? ⟨w.heap.size, 12, none⟩ = some (.slice ra12 rn12 rc12) := Xr2.at_ 12 _ rfl
  have rz13 : w2.cell? ⟨w.heap.size, 13, none⟩ = some (.slice ra13 rn13 rc13) := Xr2.at_ 13 _ rfl
  have rz14 : w2.cell? ⟨w.heap.size, 14, none⟩ = some (.slice ra14 rn14 rc14) := Xr2.at_ 14 _ rfl
  go_wp2_with fail
  refine (periodP_is _ ⟨ra6, rn6, rc6, ra7, rn7, rc7, ra8, rn8, rc8, ra9, rn9, rc9, ra10, rn10, rc10, ra11, rn11, rc11, ra12, rn12, rc12, ra13, rn13, rc13, ra14, rn14, rc14⟩ ⟨rfreq, ritv, rcnt, rtil, rwkst, rends, rmon, rweek, ryday, rmday, rday, rhour, rminu, rsec, rpos⟩ start t a true Rr2 F1.out).mono ?_
  rintro e w3 ⟨rfl, b3⟩
  clear rz0 rz1 rz2 rz3 rz4 rz5 rz6 rz7 rz8 rz9 rz10 rz11 rz12 rz13 rz14
  have B3 := B2.trans (b3.mono B2.size)
  have Xr3 := Xr2.below b3
  have Rr3 := Rr2.below b3
  clear B2 Xr2 Rr2
  clear b3
  have rz0 : w3.cell? ⟨w.heap.size, 0, none⟩ = some (.int .i64 rfreq) := Xr3.at_ 0 _ rfl
  have rz1 : w3.cell? ⟨w.heap.size, 1, none⟩ = some (.int .i64 ritv) := Xr3.at_ 1 _ rfl
  have rz2 : w3.cell? ⟨w.heap.size, 2, none⟩ = some (.int .i64 rcnt) := Xr3.at_ 2 _ rfl
  have rz3 : w3.cell? ⟨w.heap.size, 3, none⟩ = some (.int .i64 rtil) := Xr3.at_ 3 _ rfl
  have rz4 : w3.cell? ⟨w.heap.size, 4, none⟩ = some (.int .i64 rwkst) := Xr3.at_ 4 _ rfl
  have rz5 : w3.cell? ⟨w.heap.size, 5, none⟩ = some (.bool rends) := Xr3.at_ 5 _ rfl
  have rz6 : w3.cell? ⟨w.heap.size, 6, none⟩ = some (.slice ra6 rn6 rc6) := Xr3.at_ 6 _ rfl
  have rz7 : w3.cell? ⟨w.heap.size, 7, none⟩ = some (.slice ra7 rn7 rc7) := Xr3.at_ 7 _ rfl
  have rz8 : w3.cell? ⟨w.heap.size, 8, none⟩ = some (.slice ra8 rn8 rc8) := Xr3.at_ 8 _ rfl
  have rz9 : w3.cell? ⟨w.heap.size, 9, none⟩ = some (.slice ra9 rn9 rc9) := Xr3.at_ 9 _ rfl
  have rz10 : w3.cell? ⟨w.heap.size, 10, none⟩ = some (.slice ra10 rn10 rc10) := Xr3.at_ 10 _ rfl
  have rz11 : w3.cell? ⟨w.heap.size, 11, none⟩ = some (.slice ra11 rn11 rc11) := Xr3.at_ 11 _ rfl
  have rz12 : w3.cell? ⟨w.heap.size, 12, none⟩ = some (.slice ra12 rn12 rc12) := Xr3.at_ 12 _ rfl
  have rz13 : w3.cell? ⟨w.heap.size, 13, none⟩ = some (.slice ra13 rn13 rc13) := Xr3.at_ 13 _ rfl
  have rz14 : w3.cell? ⟨w.heap.size, 14, none⟩ = some (.slice ra14 rn14 rc14) := Xr3.at_ 14 _ rfl
  go_wp2_with fail
  refine (periodP_is _ ⟨ra6, rn6, rc6, ra7, rn7, rc7, ra8, rn8, rc8, ra9, rn9, rc9, ra10, rn10, rc10, ra11, rn11, rc11, ra12, rn12, rc12, ra13, rn13, rc13, ra14, rn14, rc14⟩ ⟨rfreq, ritv, rcnt, rtil, rwkst, rends, rmon, rweek, ryday, rmday, rday, rhour, rminu, rsec, rpos⟩ start start 0 true Rr3 F2.out).mono ?_
  rintro e w4 ⟨rfl, b4⟩
  clear rz0 rz1 rz2 rz3 rz4 rz5 rz6 rz7 rz8 rz9 rz10 rz11 rz12 rz13 rz14
  have B4 := B3.trans (b4.mono B3.size)
  have Xr4 := Xr3.below b4
  have Rr4 := Rr3.below b4
  clear B3 Xr3 Rr3
  clear b4
  have rz0 : w4.cell? ⟨w.heap.size, 0, none⟩ = some (.int .i64 rfreq) := Xr4.at_ 0 _ rfl
  have rz1 : w4.cell? ⟨w.heap.size, 1, none⟩ = some (.int .i64 ritv) := Xr4.at_ 1 _ rfl
  have rz2 : w4.cell? ⟨w.heap.size, 2, none⟩ = some (.int .i64 rcnt) := Xr4.at_ 2 _ rfl
  have rz3 : w4.cell? ⟨w.heap.size, 3, none⟩ = some (.int .i64 rtil) := Xr4.at_ 3 _ rfl
  have rz4 : w4.cell? ⟨w.heap.size, 4, none⟩ = some (.int .i64 rwkst) := Xr4.at_ 4 _ rfl
  have rz5 : w4.cell? ⟨w.heap.size, 5, none⟩ = some (.bool rends) := Xr4.at_ 5 _ rfl
  have rz6 : w4.cell? ⟨w.heap.size, 6, none⟩ = some (.slice ra6 rn6 rc6) := Xr4.at_ 6 _ rfl
  have rz7 : w4.cell? ⟨w.heap.size, 7, none⟩ = some (.slice ra7 rn7 rc7) := Xr4.at_ 7 _ rfl
  have rz8 : w4.cell? ⟨w.heap.size, 8, none⟩ = some (.slice ra8 rn8 rc8) := Xr4.at_ 8 _ rfl
  have rz9 : w4.cell? ⟨w.heap.size, 9, none⟩ = some (.slice ra9 rn9 rc9) := Xr4.at_ 9 _ rfl
  have rz10 : w4.cell? ⟨w.heap.size, 10, none⟩ = some (.slice ra10 rn10 rc10) := Xr4.at_ 10 _ rfl
  have rz11 : w4.cell? ⟨w.heap.size, 11, none⟩ = some (.slice ra11 rn11 rc11) := Xr4.at_ 11 _ rfl
  have rz12 : w4.cell? ⟨w.heap.size, 12, none⟩ = some (.slice ra12 rn12 rc12) := Xr4.at_ 12 _ rfl
  have rz13 : w4.cell? ⟨w.heap.size, 13, none⟩ = some (.slice ra13 rn13 rc13) := Xr4.at_ 13 _ rfl
  have rz14 : w4.cell? ⟨w.heap.size, 14, none⟩ = some (.slice ra14 rn14 rc14) := Xr4.at_ 14 _ rfl
  go_wp2_with fail
  refine (periodP_is _ ⟨ra6, rn6, rc6, ra7, rn7, rc7, ra8, rn8, rc8, ra9, rn9, rc9, ra10, rn10, rc10, ra11, rn11, rc11, ra12, rn12, rc12, ra13, rn13, rc13, ra14, rn14, rc14⟩ ⟨rfreq, ritv, rcnt, rtil, rwkst, rends, rmon, rweek, ryday, rmday, rday, rhour, rminu, rsec, rpos⟩ start (t + more) b true Rr4 F3.out).mono ?_
  rintro e w5 ⟨rfl, b5⟩
  clear rz0 rz1 rz2 rz3 rz4 rz5 rz6 rz7 rz8 rz9 rz10 rz11 rz12 rz13 rz14
  have B5 := B4.trans (b5.mono B4.size)
  have Xr5 := Xr4.below b5
  have Rr5 := Rr4.below b5
  clear B4 Xr4 Rr4
  clear b5
  have c4 : decide (250000000000 < t) = false := decide_eq_false (by omega)
  have c5 : decide (b < a) = false := decide_eq_false (by omega)
  have rz0 : w5.cell? ⟨w.heap.size, 0, none⟩ = some (.int .i64 rfreq) := Xr5.at_ 0 _ rfl
  have rz1 : w5.cell? ⟨w.heap.size, 1, none⟩ = some (.int .i64 ritv) := Xr5.at_ 1 _ rfl
  have rz2 : w5.cell? ⟨w.heap.size, 2, none⟩ = some (.int .i64 rcnt) := Xr5.at_ 2 _ rfl
  have rz3 : w5.cell? ⟨w.heap.size, 3, none⟩ = some (.int .i64 rtil) := Xr5.at_ 3 _ rfl
  have rz4 : w5.cell? ⟨w.heap.size, 4, none⟩ = some (.int .i64 rwkst) := Xr5.at_ 4 _ rfl
  have rz5 : w5.cell? ⟨w.heap.size, 5, none⟩ = some (.bool rends) := Xr5.at_ 5 _ rfl
  have rz6 : w5.cell? ⟨w.heap.size, 6, none⟩ = some (.slice ra6 rn6 rc6) := Xr5.at_ 6 _ rfl
  have rz7 : w5.cell? ⟨w.heap.size, 7, none⟩ = some (.slice ra7 rn7 rc7) := Xr5.at_ 7 _ rfl
  have rz8 : w5.cell? ⟨w.heap.size, 8, none⟩ = some (.slice ra8 rn8 rc8) := Xr5.at_ 8 _ rfl
  have rz9 : w5.cell? ⟨w.heap.size, 9, none⟩ = some (.slice ra9 rn9 rc9) := Xr5.at_ 9 _ rfl
  have rz10 : w5.cell? ⟨w.heap.size, 10, none⟩ = some (.slice ra10 rn10 rc10) := Xr5.at_ 10 _ rfl
  have rz11 : w5.cell? ⟨w.heap.size, 11, none⟩ = some (.slice ra11 rn11 rc11) := Xr5.at_ 11 _ rfl
  have rz12 : w5.cell? ⟨w.heap.size, 12, none⟩ = some (.slice ra12 rn12 rc12) := Xr5.at_ 12 _ rfl
  have rz13 : w5.cell? ⟨w.heap.size, 13, none⟩ = some (.slice ra13 rn13 rc13) := Xr5.at_ 13 _ rfl
  have rz14 : w5.cell? ⟨w.heap.size, 14, none⟩ = some (.slice ra14 rn14 rc14) := Xr5.at_ 14 _ rfl
  go_wp2_with fail
  refine (daysP_is _ ⟨ra6, rn6, rc6, ra7, rn7, rc7, ra8, rn8, rc8, ra9, rn9, rc9, ra10, rn10, rc10, ra11, rn11, rc11, ra12, rn12, rc12, ra13, rn13, rc13, ra14, rn14, rc14⟩ ⟨rfreq, ritv, rcnt, rtil, rwkst, rends, rmon, rweek, ryday, rmday, rday, rhour, rminu, rsec, rpos⟩ t lo hi Rr5 F4.out).mono ?_
  rintro e w6 ⟨rfl, b6⟩
  clear rz0 rz1 rz2 rz3 rz4 rz5 rz6 rz7 rz8 rz9 rz10 rz11 rz12 rz13 rz14
  have B6 := B5.trans (b6.mono B5.size)
  have Xr6 := Xr5.below b6
  have Rr6 := Rr5.below b6
  clear B5 Xr5 Rr5
  clear b6
  go_wp2_with fail
  refine (day_any t _ l2 u2).mono ?_
  rintro e w' ⟨rfl, rfl⟩
  have c6 : decide (t / 86400 < lo) = false := decide_eq_false (by omega)
  have c7 : decide (hi < t / 86400) = false := decide_eq_false (by omega)
  have rz0 : w6.cell? ⟨w.heap.size, 0, none⟩ = some (.int .i64 rfreq) := Xr6.at_ 0 _ rfl
  have c8 : decide (4 < rfreq) = true := decide_eq_true hf
  go_wp2_with fail
  refine (first_is _ (TT.out.on B6)).mono ?_
  rintro e w7 ⟨rfl, b7⟩
  have B7 := B6.trans (b7.mono B6.size)
  have Xr7 := Xr6.below b7
  have Rr7 := Rr6.below b7
  clear B6 Xr6 Rr6
  clear b7
  have c9 : ((lo : Int) == hi) = true := by rw [beq_iff_eq]; exact HL.out
  go_wp2
  go_ret
  exact ⟨rfl, B7⟩
end Go.Proofs.YtkkmhjplfpdhcaaGreatDoor.Dd
namespace Go.Proofs.YtkkmhjplfpdhcaaGreatDoor.Dd
open Go.RowKit Cv St Ru

set_option maxRecDepth 100000 in
set_option maxHeartbeats 8000000 in
theorem rise_i (w : World) (T : Tabs w) (S : RS) (r : Ru) (start t more : Int) (h : RuIn w S r) (l1 : -9223372036854775808 ≤ start) (u1 : start ≤ 9223372036854775807) (l2 : -9223372036854775808 ≤ t) (u2 : t ≤ 9223372036854775807) (l3 : -9223372036854775808 ≤ more) (u3 : more ≤ 9223372036854775807) (hx1 : fewB S = true) (c1 : 0 ≤ more) (c2 : more ≤ 5000000) (c3 : t ≤ 250000000000) (a b lo hi p u : Int) (q v : Bool) (h1 : perR r start t = (a, true)) (h2 : perR r start start = (0, true)) (h3 : perR r start (t + more) = (b, true)) (hab : a ≤ b) (h4 : daysR r t = (lo, hi)) (hl : lo ≤ t / 86400) (hh : t / 86400 ≤ hi) (ll : -719162 ≤ lo) (lh : hi ≤ 2932896) (tl : -62135596800 ≤ t) (hf : r.freq ≤ 4) (h5 : perR r start (lo * 86400) = (a, true)) (h6 : perR r start (hi * 86400 + 86399) = (a, true)) (h7 : perR r start (lo * 86400 - 1) = (p, q)) (h8 : perR r start (hi * 86400 + 86400) = (u, v)) (hp : q = true → p = a - 1) (hu : v = true → u = a + 1) (ab : -2000000000000 ≤ a ∧ a ≤ 2000000000000) :
    Calls Tryz.prog 4 #[S.val r, .int .i64 start, .int .i64 t, .int .i64 more] w fun e w' => e = .returned (.bool true) ∧ Below w.heap.size w w' := by
  have TT := Lib.hid T
  have HK := Lib.hid h
  have X1 := Lib.hid hx1
  have RA0 := Lib.hid (h.few hx1)
  have F1 := Lib.hid h1
  have F2 := Lib.hid h2
  have F3 := Lib.hid h3
  have F4 := Lib.hid h4
  have F5 := Lib.hid h5
  have F6 := Lib.hid h6
  have F7 := Lib.hid h7
  have F8 := Lib.hid h8
  clear h1 h2 h3 h4 h5 h6 h7 h8
  have HP := Lib.hid hp
  have HU := Lib.hid hu
  clear hp hu
  clear h T hx1
  replace hf : r.freq ≤ 4 := hf
  obtain ⟨ra6, rn6, rc6, ra7, rn7, rc7, ra8, rn8, rc8, ra9, rn9, rc9, ra10, rn10, rc10, ra11, rn11, rc11, ra12, rn12, rc12, ra13, rn13, rc13, ra14, rn14, rc14⟩ := S
  obtain ⟨rfreq, ritv, rcnt, rtil, rwkst, rends, rmon, rweek, ryday, rmday, rday, rhour, rminu, rsec, rpos⟩ := r
  show Calls Tryz.prog 4 #[.agg #[.int .i64 rfreq, .int .i64 ritv, .int .i64 rcnt, .int .i64 rtil, .int .i64 rwkst, .bool rends, .slice ra6 rn6 rc6, .slice ra7 rn7 rc7, .slice ra8 rn8 rc8, .slice ra9 rn9 rc9, .slice ra10 rn10 rc10, .slice ra11 rn11 rc11, .slice ra12 rn12 rc12, .slice ra13 rn13 rc13, .slice ra14 rn14 rc14], .int .i64 start, .int .i64 t, .int .i64 more] w _
  go_enter Tryz.func4, Tryz.ntmps4
  go_upto_region 1 with fail
  have B0 := alloc_below w (.cells #[.int .i64 rfreq, .int .i64 ritv, .int .i64 rcnt, .int .i64 rtil, .int .i64 rwkst, .bool rends, .slice ra6 rn6 rc6, .slice ra7 rn7 rc7, .slice ra8 rn8 rc8, .slice ra9 rn9 rc9, .slice ra10 rn10 rc10, .slice ra11 rn11 rc11, .slice ra12 rn12 rc12, .slice ra13 rn13 rc13, .slice ra14 rn14 rc14] 25)
  have Xr0 := Box.new w #[.int .i64 rfreq, .int .i64 ritv, .int .i64 rcnt, .int .i64 rtil, .int .i64 rwkst, .bool rends, .slice ra6 rn6 rc6, .slice ra7 rn7 rc7, .slice ra8 rn8 rc8, .slice ra9 rn9 rc9, .slice ra10 rn10 rc10, .slice ra11 rn11 rc11, .slice ra12 rn12 rc12, .slice ra13 rn13 rc13, .slice ra14 rn14 rc14] 25
  generalize w.alloc (.cells #[.int .i64 rfreq, .int .i64 ritv, .int .i64 rcnt, .int .i64 rtil, .int .i64 rwkst, .bool rends, .slice ra6 rn6 rc6, .slice ra7 rn7 rc7, .slice ra8 rn8 rc8, .slice ra9 rn9 rc9, .slice ra10 rn10 rc10, .slice ra11 rn11 rc11, .slice ra12 rn12 rc12, .slice ra13 rn13 rc13, .slice ra14 rn14 rc14] 25) = w0 at *
  go_wp2_with fail
  refine (first_is _ (TT.out.on B0)).mono ?_
  rintro e w1 ⟨rfl, b1⟩
  have B1 := B0.trans (b1.mono B0.size)
  have Xr1 := Xr0.below b1
  clear B0 Xr0
  clear b1
  have Rr1 := RA0.out.below B1
  clear RA0
  have rz0 : w1.cell? ⟨w.heap.size, 0, none⟩ = some (.int .i64 rfreq) := Xr1.at_ 0 _ rfl
  have rz1 : w1.cell? ⟨w.heap.size, 1, none⟩ = some (.int .i64 ritv) := Xr1.at_ 1 _ rfl
  have rz2 : w1.cell? ⟨w.heap.size, 2, none⟩ = some (.int .i64 rcnt) := Xr1.at_ 2 _ rfl
  have rz3 : w1.cell? ⟨w.heap.size, 3, none⟩ = some (.int .i64 rtil) := Xr1.at_ 3 _ rfl
  have rz4 : w1.cell? ⟨w.heap.size, 4, none⟩ = some (.int .i64 rwkst) := Xr1.at_ 4 _ rfl
  have rz5 : w1.cell? ⟨w.heap.size, 5, none⟩ = some (.bool rends) := Xr1.at_ 5 _ rfl
  have rz6 : w1.cell? ⟨w.heap.size, 6, none⟩ = some (.slice ra6 rn6 rc6) := Xr1.at_ 6 _ rfl
  have rz7 : w1.cell? ⟨w.heap.size, 7, none⟩ = some (.slice ra7 rn7 rc7) := Xr1.at_ 7 _ rfl
  have rz8 : w1.cell? ⟨w.heap.size, 8, none⟩ = some (.slice ra8 rn8 rc8) := Xr1.at_ 8 _ rfl
  have rz9 : w1.cell? ⟨w.heap.size, 9, none⟩ = some (.slice ra9 rn9 rc9) := Xr1.at_ 9 _ rfl
  have rz10 : w1.cell? ⟨w.heap.size, 10, none⟩ = some (.slice ra10 rn10 rc10) := Xr1.at_ 10 _ rfl
  have rz11 : w1.cell? ⟨w.heap.size, 11, none⟩ = some (.slice ra11 rn11 rc11) := Xr1.at_ 11 _ rfl
  have rz12 : w1.cell? ⟨w.heap.size, 12, none⟩ = some (.slice ra12 rn12 rc12) := Xr1.at_ 12 _ rfl
  have rz13 : w1.cell? ⟨w.heap.size, 13, none⟩ = some (.slice ra13 rn13 rc13) := Xr1.at_ 13 _ rfl
  have rz14 : w1.cell? ⟨w.heap.size, 14, none⟩ = some (.slice ra14 rn14 rc14) := Xr1.at_ 14 _ rfl
  go_wp2_with fail
  refine (few_is _ ⟨ra6, rn6, rc6, ra7, rn7, rc7, ra8, rn8, rc8, ra9, rn9, rc9, ra10, rn10, rc10, ra11, rn11, rc11, ra12, rn12, rc12, ra13, rn13, rc13, ra14, rn14, rc14⟩ ⟨rfreq, ritv, rcnt, rtil, rwkst, rends, rmon, rweek, ryday, rmday, rday, rhour, rminu, rsec, rpos⟩ true HK.out.k6 HK.out.k7 HK.out.k8 HK.out.k9 HK.out.k10 HK.out.k11 HK.out.k12 HK.out.k13 HK.out.k14 X1.out).mono ?_
  rintro e w2 ⟨rfl, b2⟩
  clear rz0 rz1 rz2 rz3 rz4 rz5 rz6 rz7 rz8 rz9 rz10 rz11 rz12 rz13 rz14
  have B2 := B1.trans (b2.mono B1.size)
  have Xr2 := Xr1.below b2
  have Rr2 := Rr1.below b2
  clear B1 Xr1 Rr1
  clear b2
  have c1 : decide (more < 0) = false := decide_eq_false (by omega)
  have c2 : decide (5000000 < more) = false := decide_eq_false (by omega)
  replace hf : rfreq ≤ 4 := hf
  have rz0 : w2.cell? ⟨w.heap.size, 0, none⟩ = some (.int .i64 rfreq) := Xr2.at_ 0 _ rfl
  have rz1 : w2.cell? ⟨w.heap.size, 1, none⟩ = some (.int .i64 ritv) := Xr2.at_ 1 _ rfl
  have rz2 : w2.cell? ⟨w.heap.size, 2, none⟩ = some (.int .i64 rcnt) := Xr2.at_ 2 _ rfl
  have rz3 : w2.cell? ⟨w.heap.size, 3, none⟩ = some (.int .i64 rtil) := Xr2.at_ 3 _ rfl
  have rz4 : w2.cell? ⟨w.heap.size, 4, none⟩ = some (.int .i64 rwkst) := Xr2.at_ 4 _ rfl
  have rz5 : w2.cell? ⟨w.heap.size, 5, none⟩ = some (.bool rends) := Xr2.at_ 5 _ rfl
  have rz6 : w2.cell? ⟨w.heap.size, 6, none⟩ = some (.slice ra6 rn6 rc6) := Xr2.at_ 6 _ rfl
  have rz7 : w2.cell? ⟨w.heap.size, 7, none⟩ = some (.slice ra7 rn7 rc7) := Xr2.at_ 7 _ rfl
  have rz8 : w2.cell? ⟨w.heap.size, 8, none⟩ = some (.slice ra8 rn8 rc8) := Xr2.at_ 8 _ rfl
  have rz9 : w2.cell? ⟨w.heap.size, 9, none⟩ = some (.slice ra9 rn9 rc9) := Xr2.at_ 9 _ rfl
  have rz10 : w2.cell? ⟨w.heap.size, 10, none⟩ = some (.slice ra10 rn10 rc10) := Xr2.at_ 10 _ rfl
  have rz11 : w2.cell? ⟨w.heap.size, 11, none⟩ = some (.slice ra11 rn11 rc11) := Xr2.at_ 11 _ rfl
  have rz12 : w2.cell? ⟨w.heap.size, 12, none⟩ = some (.slice ra12 rn12 rc12) := Xr2.at_ 12 _ rfl
  have rz13 : w2.cell? ⟨w.heap.size, 13, none⟩ = some (.slice ra13 rn13 rc13) := Xr2.at_ 13 _ rfl
  have rz14 : w2.cell? ⟨w.heap.size, 14, none⟩ = some (.slice ra14 rn14 rc14) := Xr2.at_ 14 _ rfl
  go_wp2_with fail
  refine (periodP_is _ ⟨ra6, rn6, rc6, ra7, rn7, rc7, ra8, rn8, rc8, ra9, rn9, rc9, ra10, rn10, rc10, ra11, rn11, rc11, ra12, rn12, rc12, ra13, rn13, rc13, ra14, rn14, rc14⟩ ⟨rfreq, ritv, rcnt, rtil, rwkst, rends, rmon, rweek, ryday, rmday, rday, rhour, rminu, rsec, rpos⟩ start t a true Rr2 F1.out).mono ?_
  rintro e w3 ⟨rfl, b3⟩
  clear rz0 rz1 rz2 rz3 rz4 rz5 rz6 rz7 rz8 rz9 rz10 rz11 rz12 rz13 rz14
  have B3 := B2.trans (b3.mono B2.size)
  have Xr3 := Xr2.below b3
  have Rr3 := Rr2.below b3
  clear B2 Xr2 Rr2
  clear b3
  have rz0 : w3.cell? ⟨w.heap.size, 0, none⟩ = some (.int .i64 rfreq) := Xr3.at_ 0 _ rfl
  have rz1 : w3.cell? ⟨w.heap.size, 1, none⟩ = some (.int .i64 ritv) := Xr3.at_ 1 _ rfl
  have rz2 : w3.cell? ⟨w.heap.size, 2, none⟩ = some (.int .i64 rcnt) := Xr3.at_ 2 _ rfl
  have rz3 : w3.cell? ⟨w.heap.size, 3, none⟩ = some (.int .i64 rtil) := Xr3.at_ 3 _ rfl
  have rz4 : w3.cell? ⟨w.heap.size, 4, none⟩ = some (.int .i64 rwkst) := Xr3.at_ 4 _ rfl
  have rz5 : w3.cell? ⟨w.heap.size, 5, none⟩ = some (.bool rends) := Xr3.at_ 5 _ rfl
  have rz6 : w3.cell? ⟨w.heap.size, 6, none⟩ = some (.slice ra6 rn6 rc6) := Xr3.at_ 6 _ rfl
  have rz7 : w3.cell? ⟨w.heap.size, 7, none⟩ = some (.slice ra7 rn7 rc7) := Xr3.at_ 7 _ rfl
  have rz8 : w3.cell? ⟨w.heap.size, 8, none⟩ = some (.slice ra8 rn8 rc8) := Xr3.at_ 8 _ rfl
  have rz9 : w3.cell? ⟨w.heap.size, 9, none⟩ = some (.slice ra9 rn9 rc9) := Xr3.at_ 9 _ rfl
  have rz10 : w3.cell? ⟨w.heap.size, 10, none⟩ = some (.slice ra10 rn10 rc10) := Xr3.at_ 10 _ rfl
  have rz11 : w3.cell? ⟨w.heap.size, 11, none⟩ = some (.slice ra11 rn11 rc11) := Xr3.at_ 11 _ rfl
  have rz12 : w3.cell? ⟨w.heap.size, 12, none⟩ = some (.slice ra12 rn12 rc12) := Xr3.at_ 12 _ rfl
  have rz13 : w3.cell? ⟨w.heap.size, 13, none⟩ = some (.slice ra13 rn13 rc13) := Xr3.at_ 13 _ rfl
  have rz14 : w3.cell? ⟨w.heap.size, 14, none⟩ = some (.slice ra14 rn14 rc14) := Xr3.at_ 14 _ rfl
  go_wp2_with fail
  refine (periodP_is _ ⟨ra6, rn6, rc6, ra7, rn7, rc7, ra8, rn8, rc8, ra9, rn9, rc9, ra10, rn10, rc10, ra11, rn11, rc11, ra12, rn12, rc12, ra13, rn13, rc13, ra14, rn14, rc14⟩ ⟨rfreq, ritv, rcnt, rtil, rwkst, rends, rmon, rweek, ryday, rmday, rday, rhour, rminu, rsec, rpos⟩ start start 0 true Rr3 F2.out).mono ?_
  rintro e w4 ⟨rfl, b4⟩
  clear rz0 rz1 rz2 rz3 rz4 rz5 rz6 rz7 rz8 rz9 rz10 rz11 rz12 rz13 rz14
  have B4 := B3.trans (b4.mono B3.size)
  have Xr4 := Xr3.below b4
  have Rr4 := Rr3.below b4
  clear B3 Xr3 Rr3
  clear b4
  have rz0 : w4.cell? ⟨w.heap.size, 0, none⟩ = some (.int .i64 rfreq) := Xr4.at_ 0 _ rfl
  have rz1 : w4.cell? ⟨w.heap.size, 1, none⟩ = some (.int .i64 ritv) := Xr4.at_ 1 _ rfl
  have rz2 : w4.cell? ⟨w.heap.size, 2, none⟩ = some (.int .i64 rcnt) := Xr4.at_ 2 _ rfl
  have rz3 : w4.cell? ⟨w.heap.size, 3, none⟩ = some (.int .i64 rtil) := Xr4.at_ 3 _ rfl
  have rz4 : w4.cell? ⟨w.heap.size, 4, none⟩ = some (.int .i64 rwkst) := Xr4.at_ 4 _ rfl
  have rz5 : w4.cell? ⟨w.heap.size, 5, none⟩ = some (.bool rends) := Xr4.at_ 5 _ rfl
  have rz6 : w4.cell? ⟨w.heap.size, 6, none⟩ = some (.slice ra6 rn6 rc6) := Xr4.at_ 6 _ rfl
  have rz7 : w4.cell? ⟨w.heap.size, 7, none⟩ = some (.slice ra7 rn7 rc7) := Xr4.at_ 7 _ rfl
  have rz8 : w4.cell? ⟨w.heap.size, 8, none⟩ = some (.slice ra8 rn8 rc8) := Xr4.at_ 8 _ rfl
  have rz9 : w4.cell? ⟨w.heap.size, 9, none⟩ = some (.slice ra9 rn9 rc9) := Xr4.at_ 9 _ rfl
  have rz10 : w4.cell? ⟨w.heap.size, 10, none⟩ = some (.slice ra10 rn10 rc10) := Xr4.at_ 10 _ rfl
  have rz11 : w4.cell? ⟨w.heap.size, 11, none⟩ = some (.slice ra11 rn11 rc11) := Xr4.at_ 11 _ rfl
  have rz12 : w4.cell? ⟨w.heap.size, 12, none⟩ = some (.slice ra12 rn12 rc12) := Xr4.at_ 12 _ rfl
  have rz13 : w4.cell? ⟨w.heap.size, 13, none⟩ = some (.slice ra13 rn13 rc13) := Xr4.at_ 13 _ rfl
  have rz14 : w4.cell? ⟨w.heap.size, 14, none⟩ = some (.slice ra14 rn14 rc14) := Xr4.at_ 14 _ rfl
  go_wp2_with fail
  refine (periodP_is _ ⟨ra6, rn6, rc6, ra7, rn7, rc7, ra8, rn8, rc8, ra9, rn9, rc9, ra10, rn10, rc10, ra11, rn11, rc11, ra12, rn12, rc12, ra13, rn13, rc13, ra14, rn14, rc14⟩ ⟨rfreq, ritv, rcnt, rtil, rwkst, rends, rmon, rweek, ryday, rmday, rday, rhour, rminu, rsec, rpos⟩ start (t + more) b true Rr4 F3.out).mono ?_
  rintro e w5 ⟨rfl, b5⟩
  clear rz0 rz1 rz2 rz3 rz4 rz5 rz6 rz7 rz8 rz9 rz10 rz11 rz12 rz13 rz14
  have B5 := B4.trans (b5.mono B4.size)
  have Xr5 := Xr4.below b5
  have Rr5 := Rr4.below b5
  clear B4 Xr4 Rr4
  clear b5
  have c4 : decide (250000000000 < t) = false := decide_eq_false (by omega)
  have c5 : decide (b < a) = false := decide_eq_false (by omega)
  have rz0 : w5.cell? ⟨w.heap.size, 0, none⟩ = some (.int .i64 rfreq) := Xr5.at_ 0 _ rfl
  have rz1 : w5.cell? ⟨w.heap.size, 1, none⟩ = some (.int .i64 ritv) := Xr5.at_ 1 _ rfl
  have rz2 : w5.cell? ⟨w.heap.size, 2, none⟩ = some (.int .i64 rcnt) := Xr5.at_ 2 _ rfl
  have rz3 : w5.cell? ⟨w.heap.size, 3, none⟩ = some (.int .i64 rtil) := Xr5.at_ 3 _ rfl
  have rz4 : w5.cell? ⟨w.heap.size, 4, none⟩ = some (.int .i64 rwkst) := Xr5.at_ 4 _ rfl
  have rz5 : w5.cell? ⟨w.heap.size, 5, none⟩ = some (.bool rends) := Xr5.at_ 5 _ rfl
  have rz6 : w5.cell? ⟨w.heap.size, 6, none⟩ = some (.slice ra6 rn6 rc6) := Xr5.at_ 6 _ rfl
  have rz7 : w5.cell? ⟨w.heap.size, 7, none⟩ = some (.slice ra7 rn7 rc7) := Xr5.at_ 7 _ rfl
  have rz8 : w5.cell? ⟨w.heap.size, 8, none⟩ = some (.slice ra8 rn8 rc8) := Xr5.at_ 8 _ rfl
  have rz9 : w5.cell? ⟨w.heap.size, 9, none⟩ = some (.slice ra9 rn9 rc9) := Xr5.at_ 9 _ rfl
  have rz10 : w5.cell? ⟨w.heap.size, 10, none⟩ = some (.slice ra10 rn10 rc10) := Xr5.at_ 10 _ rfl
  have rz11 : w5.cell? ⟨w.heap.size, 11, none⟩ = some (.slice ra11 rn11 rc11) := Xr5.at_ 11 _ rfl
  have rz12 : w5.cell? ⟨w.heap.size, 12, none⟩ = some (.slice ra12 rn12 rc12) := Xr5.at_ 12 _ rfl
  have rz13 : w5.cell? ⟨w.heap.size, 13, none⟩ = some (.slice ra13 rn13 rc13) := Xr5.at_ 13 _ rfl
  have rz14 : w5.cell? ⟨w.heap.size, 14, none⟩ = some (.slice ra14 rn14 rc14) := Xr5.at_ 14 _ rfl
  go_wp2_with fail
  refine (daysP_is _ ⟨ra6, rn6, rc6, ra7, rn7, rc7, ra8, rn8, rc8, ra9, rn9, rc9, ra10, rn10, rc10, ra11, rn11, rc11, ra12, rn12, rc12, ra13, rn13, rc13, ra14, rn14, rc14⟩ ⟨rfreq, ritv, rcnt, rtil, rwkst, rends, rmon, rweek, ryday, rmday, rday, rhour, rminu, rsec, rpos⟩ t lo hi Rr5 F4.out).mono ?_
  rintro e w6 ⟨rfl, b6⟩
  clear rz0 rz1 rz2 rz3 rz4 rz5 rz6 rz7 rz8 rz9 rz10 rz11 rz12 rz13 rz14
  have B6 := B5.trans (b6.mono B5.size)
  have Xr6 := Xr5.below b6
  have Rr6 := Rr5.below b6
  clear B5 Xr5 Rr5
  clear b6
  go_wp2_with fail
  refine (day_any t _ l2 u2).mono ?_
  rintro e w' ⟨rfl, rfl⟩
  have c6 : decide (t / 86400 < lo) = false := decide_eq_false (by omega)
  have c7 : decide (hi < t / 86400) = false := decide_eq_false (by omega)
  have rz0 : w6.cell? ⟨w.heap.size, 0, none⟩ = some (.int .i64 rfreq) := Xr6.at_ 0 _ rfl
  have c8 : decide (4 < rfreq) = false := decide_eq_false (by omega)
  go_upto_region 18 with fail
  clear rz0 c1 c2 c4 c5 c6 c7 c8
  as_aux_lemma =>
    have rz0 : w6.cell? ⟨w.heap.size, 0, none⟩ = some (.int .i64 rfreq) := Xr6.at_ 0 _ rfl
    have rz1 : w6.cell? ⟨w.heap.size, 1, none⟩ = some (.int .i64 ritv) := Xr6.at_ 1 _ rfl
    have rz2 : w6.cell? ⟨w.heap.size, 2, none⟩ = some (.int .i64 rcnt) := Xr6.at_ 2 _ rfl
    have rz3 : w6.cell? ⟨w.heap.size, 3, none⟩ = some (.int .i64 rtil) := Xr6.at_ 3 _ rfl
    have rz4 : w6.cell? ⟨w.heap.size, 4, none⟩ = some (.int .i64 rwkst) := Xr6.at_ 4 _ rfl
    have rz5 : w6.cell? ⟨w.heap.size, 5, none⟩ = some (.bool rends) := Xr6.at_ 5 _ rfl
    have rz6 : w6.cell? ⟨w.heap.size, 6, none⟩ = some (.slice ra6 rn6 rc6) := Xr6.at_ 6 _ rfl
    have rz7 : w6.cell? ⟨w.heap.size, 7, none⟩ = some (.slice ra7 rn7 rc7) := Xr6.at_ 7 _ rfl
    have rz8 : w6.cell? ⟨w.heap.size, 8, none⟩ = some (.slice ra8 rn8 rc8) := Xr6.at_ 8 _ rfl
    have rz9 : w6.cell? ⟨w.heap.size, 9, none⟩ = some (.slice ra9 rn9 rc9) := Xr6.at_ 9 _ rfl
    have rz10 : w6.cell? ⟨w.heap.size, 10, none⟩ = some (.slice ra10 rn10 rc10) := Xr6.at_ 10 _ rfl
    have rz11 : w6.cell? ⟨w.heap.size, 11, none⟩ = some (.slice ra11 rn11 rc11) := Xr6.at_ 11 _ rfl
    have rz12 : w6.cell? ⟨w.heap.size, 12, none⟩ = some (.slice ra12 rn12 rc12) := Xr6.at_ 12 _ rfl
    have rz13 : w6.cell? ⟨w.heap.size, 13, none⟩ = some (.slice ra13 rn13 rc13) := Xr6.at_ 13 _ rfl
    have rz14 : w6.cell? ⟨w.heap.size, 14, none⟩ = some (.slice ra14 rn14 rc14) := Xr6.at_ 14 _ rfl
    go_wp2_with fail
    refine (periodP_is _ ⟨ra6, rn6, rc6, ra7, rn7, rc7, ra8, rn8, rc8, ra9, rn9, rc9, ra10, rn10, rc10, ra11, rn11, rc11, ra12, rn12, rc12, ra13, rn13, rc13, ra14, rn14, rc14⟩ ⟨rfreq, ritv, rcnt, rtil, rwkst, rends, rmon, rweek, ryday, rmday, rday, rhour, rminu, rsec, rpos⟩ start (lo * 86400) a true Rr6 F5.out).mono ?_
    rintro e w7 ⟨rfl, b7⟩
    clear rz0 rz1 rz2 rz3 rz4 rz5 rz6 rz7 rz8 rz9 rz10 rz11 rz12 rz13 rz14
    have B7 := B6.trans (b7.mono B6.size)
    have Xr7 := Xr6.below b7
    have Rr7 := Rr6.below b7
    clear B6 Xr6 Rr6
    clear b7
    have rz0 : w7.cell? ⟨w.heap.size, 0, none⟩ = some (.int .i64 rfreq) := Xr7.at_ 0 _ rfl
    have rz1 : w7.cell? ⟨w.heap.size, 1, none⟩ = some (.int .i64 ritv) := Xr7.at_ 1 _ rfl
    have rz2 : w7.cell? ⟨w.heap.size, 2, none⟩ = some (.int .i64 rcnt) := Xr7.at_ 2 _ rfl
    have rz3 : w7.cell? ⟨w.heap.size, 3, none⟩ = some (.int .i64 rtil) := Xr7.at_ 3 _ rfl
    have rz4 : w7.cell? ⟨w.heap.size, 4, none⟩ = some (.int .i64 rwkst) := Xr7.at_ 4 _ rfl
    have rz5 : w7.cell? ⟨w.heap.size, 5, none⟩ = some (.bool rends) := Xr7.at_ 5 _ rfl
    have rz6 : w7.cell? ⟨w.heap.size, 6, none⟩ = some (.slice ra6 rn6 rc6) := Xr7.at_ 6 _ rfl
    have rz7 : w7.cell? ⟨w.heap.size, 7, none⟩ = some (.slice ra7 rn7 rc7) := Xr7.at_ 7 _ rfl
    have rz8 : w7.cell? ⟨w.heap.size, 8, none⟩ = some (.slice ra8 rn8 rc8) := Xr7.at_ 8 _ rfl
    have rz9 : w7.cell? ⟨w.heap.size, 9, none⟩ = some (.slice ra9 rn9 rc9) := Xr7.at_ 9 _ rfl
    have rz10 : w7.cell? ⟨w.heap.size, 10, none⟩ = some (.slice ra10 rn10 rc10) := Xr7.at_ 10 _ rfl
    have rz11 : w7.cell? ⟨w.heap.size, 11, none⟩ = some (.slice ra11 rn11 rc11) := Xr7.at_ 11 _ rfl
    have rz12 : w7.cell? ⟨w.heap.size, 12, none⟩ = some (.slice ra12 rn12 rc12) := Xr7.at_ 12 _ rfl
    have rz13 : w7.cell? ⟨w.heap.size, 13, none⟩ = some (.slice ra13 rn13 rc13) := Xr7.at_ 13 _ rfl
    have rz14 : w7.cell? ⟨w.heap.size, 14, none⟩ = some (.slice ra14 rn14 rc14) := Xr7.at_ 14 _ rfl
    go_wp2_with fail
    refine (periodP_is _ ⟨ra6, rn6, rc6, ra7, rn7, rc7, ra8, rn8, rc8, ra9, rn9, rc9, ra10, rn10, rc10, ra11, rn11, rc11, ra12, rn12, rc12, ra13, rn13, rc13, ra14, rn14, rc14⟩ ⟨rfreq, ritv, rcnt, rtil, rwkst, rends, rmon, rweek, ryday, rmday, rday, rhour, rminu, rsec, rpos⟩ start (hi * 86400 + 86399) a true Rr7 F6.out).mono ?_
    rintro e w8 ⟨rfl, b8⟩
    clear rz0 rz1 rz2 rz3 rz4 rz5 rz6 rz7 rz8 rz9 rz10 rz11 rz12 rz13 rz14
    have B8 := B7.trans (b8.mono B7.size)
    have Xr8 := Xr7.below b8
    have Rr8 := Rr7.below b8
    clear B7 Xr7 Rr7
    clear b8
    have rz0 : w8.cell? ⟨w.heap.size, 0, none⟩ = some (.int .i64 rfreq) := Xr8.at_ 0 _ rfl
    have rz1 : w8.cell? ⟨w.heap.size, 1, none⟩ = some (.int .i64 ritv) := Xr8.at_ 1 _ rfl
    have rz2 : w8.cell? ⟨w.heap.size, 2, none⟩ = some (.int .i64 rcnt) := Xr8.at_ 2 _ rfl
    have rz3 : w8.cell? ⟨w.heap.size, 3, none⟩ = some (.int .i64 rtil) := Xr8.at_ 3 _ rfl
    have rz4 : w8.cell? ⟨w.heap.size, 4, none⟩ = some (.int .i64 rwkst) := Xr8.at_ 4 _ rfl
    have rz5 : w8.cell? ⟨w.heap.size, 5, none⟩ = some (.bool rends) := Xr8.at_ 5 _ rfl
    have rz6 : w8.cell? ⟨w.heap.size, 6, none⟩ = some (.slice ra6 rn6 rc6) := Xr8.at_ 6 _ rfl
    have rz7 : w8.cell? ⟨w.heap.size, 7, none⟩ = some (.slice ra7 rn7 rc7) := Xr8.at_ 7 _ rfl
    have rz8 : w8.cell? ⟨w.heap.size, 8, none⟩ = some (.slice ra8 rn8 rc8) := Xr8.at_ 8 _ rfl
    have rz9 : w8.cell? ⟨w.heap.size, 9, none⟩ = some (.slice ra9 rn9 rc9) := Xr8.at_ 9 _ rfl
    have rz10 : w8.cell? ⟨w.heap.size, 10, none⟩ = some (.slice ra10 rn10 rc10) := Xr8.at_ 10 _ rfl
    have rz11 : w8.cell? ⟨w.heap.size, 11, none⟩ = some (.slice ra11 rn11 rc11) := Xr8.at_ 11 _ rfl
    have rz12 : w8.cell? ⟨w.heap.size, 12, none⟩ = some (.slice ra12 rn12 rc12) := Xr8.at_ 12 _ rfl
    have rz13 : w8.cell? ⟨w.heap.size, 13, none⟩ = some (.slice ra13 rn13 rc13) := Xr8.at_ 13 _ rfl
    have rz14 : w8.cell? ⟨w.heap.size, 14, none⟩ = some (.slice ra14 rn14 rc14) := Xr8.at_ 14 _ rfl
    go_wp2_with fail
    refine (periodP_is _ ⟨ra6, rn6, rc6, ra7, rn7, rc7, ra8, rn8, rc8, ra9, rn9, rc9, ra10, rn10, rc10, ra11, rn11, rc11, ra12, rn12, rc12, ra13, rn13, rc13, ra14, rn14, rc14⟩ ⟨rfreq, ritv, rcnt, rtil, rwkst, rends, rmon, rweek, ryday, rmday, rday, rhour, rminu, rsec, rpos⟩ start (lo * 86400 - 1) p q Rr8 F7.out).mono ?_
    rintro e w9 ⟨rfl, b9⟩
    clear rz0 rz1 rz2 rz3 rz4 rz5 rz6 rz7 rz8 rz9 rz10 rz11 rz12 rz13 rz14
    have B9 := B8.trans (b9.mono B8.size)
    have Xr9 := Xr8.below b9
    have Rr9 := Rr8.below b9
    clear B8 Xr8 Rr8
    clear b9
    have rz0 : w9.cell? ⟨w.heap.size, 0, none⟩ = some (.int .i64 rfreq) := Xr9.at_ 0 _ rfl
    have rz1 : w9.cell? ⟨w.heap.size, 1, none⟩ = some (.int .i64 ritv) := Xr9.at_ 1 _ rfl
    have rz2 : w9.cell? ⟨w.heap.size, 2, none⟩ = some (.int .i64 rcnt) := Xr9.at_ 2 _ rfl
    have rz3 : w9.cell? ⟨w.heap.size, 3, none⟩ = some (.int .i64 rtil) := Xr9.at_ 3 _ rfl
    have rz4 : w9.cell? ⟨w.heap.size, 4, none⟩ = some (.int .i64 rwkst) := Xr9.at_ 4 _ rfl
    have rz5 : w9.cell? ⟨w.heap.size, 5, none⟩ = some (.bool rends) := Xr9.at_ 5 _ rfl
    have rz6 : w9.cell? ⟨w.heap.size, 6, none⟩ = some (.slice ra6 rn6 rc6) := Xr9.at_ 6 _ rfl
    have rz7 : w9.cell? ⟨w.heap.size, 7, none⟩ = some (.slice ra7 rn7 rc7) := Xr9.at_ 7 _ rfl
    have rz8 : w9.cell? ⟨w.heap.size, 8, none⟩ = some (.slice ra8 rn8 rc8) := Xr9.at_ 8 _ rfl
    have rz9 : w9.cell? ⟨w.heap.size, 9, none⟩ = some (.slice ra9 rn9 rc9) := Xr9.at_ 9 _ rfl
    have rz10 : w9.cell? ⟨w.heap.size, 10, none⟩ = some (.slice ra10 rn10 rc10) := Xr9.at_ 10 _ rfl
    have rz11 : w9.cell? ⟨w.heap.size, 11, none⟩ = some (.slice ra11 rn11 rc11) := Xr9.at_ 11 _ rfl
    have rz12 : w9.cell? ⟨w.heap.size, 12, none⟩ = some (.slice ra12 rn12 rc12) := Xr9.at_ 12 _ rfl
    have rz13 : w9.cell? ⟨w.heap.size, 13, none⟩ = some (.slice ra13 rn13 rc13) := Xr9.at_ 13 _ rfl
    have rz14 : w9.cell? ⟨w.heap.size, 14, none⟩ = some (.slice ra14 rn14 rc14) := Xr9.at_ 14 _ rfl
    go_wp2_with fail
    refine (periodP_is _ ⟨ra6, rn6, rc6, ra7, rn7, rc7, ra8, rn8, rc8, ra9, rn9, rc9, ra10, rn10, rc10, ra11, rn11, rc11, ra12, rn12, rc12, ra13, rn13, rc13, ra14, rn14, rc14⟩ ⟨rfreq, ritv, rcnt, rtil, rwkst, rends, rmon, rweek, ryday, rmday, rday, rhour, rminu, rsec, rpos⟩ start (hi * 86400 + 86400) u v Rr9 F8.out).mono ?_
    rintro e w10 ⟨rfl, b10⟩
    clear rz0 rz1 rz2 rz3 rz4 rz5 rz6 rz7 rz8 rz9 rz10 rz11 rz12 rz13 rz14
    have B10 := B9.trans (b10.mono B9.size)
    have Xr10 := Xr9.below b10
    have Rr10 := Rr9.below b10
    clear B9 Xr9 Rr9
    clear b10
    as_aux_lemma =>
      go_wp2_with fail
      refine (first_is _ (TT.out.on B10)).mono ?_
      rintro e w11 ⟨rfl, b11⟩
      have B11 := B10.trans (b11.mono B10.size)
      have Xr11 := Xr10.below b11
      have Rr11 := Rr10.below b11
      clear B10 Xr10 Rr10
      clear b11
      have e1 : ((a : Int) == a) = true := by rw [beq_iff_eq]
      clear F1 F2 F3 F4 F5 F6 F7 F8 HK
      cases q
      · cases v
        · go_wp2
          go_ret
          exact ⟨rfl, B11⟩
        · have e3 : ((u : Int) == a + 1) = true := by rw [beq_iff_eq]; exact HU.out rfl
          go_wp2
          go_ret
          exact ⟨rfl, B11⟩
      · have e2 : ((p : Int) == a - 1) = true := by rw [beq_iff_eq]; exact HP.out rfl
        cases v
        · go_wp2
          go_ret
          exact ⟨rfl, B11⟩
        · have e3 : ((u : Int) == a + 1) = true := by rw [beq_iff_eq]; exact HU.out rfl
          go_wp2
          go_ret
          exact ⟨rfl, B11⟩
end Go.Proofs.YtkkmhjplfpdhcaaGreatDoor.Dd
namespace Go.Proofs.YtkkmhjplfpdhcaaGreatDoor.Dd
open Go.RowKit Cv St Ru

theorem rise_walk (w : World) (T : Tabs w) (S : RS) (r : Ru) (start t more : Int) (h : RuIn w S r) (l1 : -9223372036854775808 ≤ start) (u1 : start ≤ 9223372036854775807) (l2 : -9223372036854775808 ≤ t) (u2 : t ≤ 9223372036854775807) (l3 : -9223372036854775808 ≤ more) (u3 : more ≤ 9223372036854775807) :
    Calls Tryz.prog 4 #[S.val r, .int .i64 start, .int .i64 t, .int .i64 more] w fun e w' => e = .returned (.bool true) ∧ Below w.heap.size w w' := by
  cases hx : fewB S
  · exact rise_a w T S r start t more h l1 u1 l2 u2 l3 u3 hx
  by_cases c1 : more < 0
  · exact rise_b w T S r start t more h l1 u1 l2 u2 l3 u3 hx c1
  by_cases c2 : 5000000 < more
  · exact rise_c w T S r start t more h l1 u1 l2 u2 l3 u3 hx c2
  have c1 : 0 ≤ more := by omega
  have c2 : more ≤ 5000000 := by omega
  obtain ⟨a, e, h1⟩ : ∃ a e, perR r start t = (a, e) := ⟨_, _, rfl⟩
  obtain ⟨z, f, h2⟩ : ∃ a e, perR r start start = (a, e) := ⟨_, _, rfl⟩
  obtain ⟨b, g, h3⟩ : ∃ a e, perR r start (IntKind.i64.wrap (t + more)) = (a, e) := ⟨_, _, rfl⟩
  by_cases he : e = true
  · by_cases hf : f = true
    · by_cases c3 : 250000000000 < t
      · exact rise_f w T S r start t more h l1 u1 l2 u2 l3 u3 hx c1 c2 a z b e f g h1 h2 h3 he hf c3
      · have c3 : t ≤ 250000000000 := by omega
        by_cases hg : g = true
        · subst he; subst hf; subst hg
          have q1 := perR_e h1
          simp only [Bool.and_eq_true] at q1
          obtain ⟨⟨hm, hs⟩, ht⟩ := q1
          have tb := of_decide_eq_true ht
          have wr : IntKind.i64.wrap (t + more) = t + more := IntWalk.i64_in _ (by omega)
          rw [wr] at h3
          have q3 := perR_e h3
          simp only [Bool.and_eq_true] at q3
          have hg := q3.2
          have ea := perR_1 h1
          have eb := perR_1 h3
          have ez := perR_1 h2
          obtain rfl : z = 0 := by omega
          have hab : a ≤ b := by have := per_mono (r := r) (a := t) (b := t + more) (by omega); omega
          obtain ⟨lo, hlo⟩ : ∃ x, max (pfirst r (t / 86400)) (-719162) = x := ⟨_, rfl⟩
          obtain ⟨hi, hhi⟩ : ∃ x, min (plast r (t / 86400)) 2932896 = x := ⟨_, rfl⟩
          have dr := daysR_yes hm ht
          rw [hlo, hhi] at dr
          obtain ⟨d1, d2, d3, d4⟩ := rise_days (r := r) ht
          rw [hlo] at d1 d3
          rw [hhi] at d2 d4
          by_cases h4 : 4 < r.freq
          · exact rise_h w T S r start t more h l1 u1 l2 u2 l3 u3 hx c1 c2 c3 a b lo hi h1 h2 h3 hab dr d1 d2 d3 d4 tb.1 h4 (by rw [← hlo, ← hhi]; exact rise_late h4 ht)
          · have h4 : r.freq ≤ 4 := by omega
            obtain ⟨s1, s2, s3, s4⟩ := rise_same h4 ht hlo hhi
            have pa := per_bd hm ht
            have pb := per_bd hm hs
            obtain ⟨p, q, h7⟩ : ∃ a e, perR r start (lo * 86400 - 1) = (a, e) := ⟨_, _, rfl⟩
            obtain ⟨u, v, h8⟩ : ∃ a e, perR r start (hi * 86400 + 86400) = (a, e) := ⟨_, _, rfl⟩
            refine rise_i w T S r start t more h l1 u1 l2 u2 l3 u3 hx c1 c2 c3 a b lo hi p u q v h1 h2 h3 hab dr d1 d2 d3 d4 tb.1 h4 ?_ ?_ h7 h8 ?_ ?_ (by omega)
            · rw [perR_yes hm hs (may_of (by omega)), s1, ← ea]
            · rw [perR_yes hm hs (may_of (by omega)), s2, ← ea]
            · rintro rfl
              have m := perR_e h7
              simp only [Bool.and_eq_true] at m
              have m := of_decide_eq_true m.2
              have := s3 (by omega)
              have := perR_1 h7
              omega
            · rintro rfl
              have m := perR_e h8
              simp only [Bool.and_eq_true] at m
              have m := of_decide_eq_true m.2
              have := s4 (by omega)
              have := perR_1 h8
              omega
        · exact rise_g w T S r start t more h l1 u1 l2 u2 l3 u3 hx c1 c2 a z b e f g h1 h2 h3 he hf c3 (by simpa using hg)
    · exact rise_e w T S r start t more h l1 u1 l2 u2 l3 u3 hx c1 c2 a z b e f g h1 h2 h3 he (by simpa using hf)
  · exact rise_d w T S r start t more h l1 u1 l2 u2 l3 u3 hx c1 c2 a z b e f g h1 h2 h3 (by simpa using he)
end Go.Proofs.YtkkmhjplfpdhcaaGreatDoor.Dd
