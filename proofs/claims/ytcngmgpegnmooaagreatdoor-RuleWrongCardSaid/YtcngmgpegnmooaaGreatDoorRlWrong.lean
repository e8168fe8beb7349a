/- RuleWrong answers true. -/
import Derived.Test.YtcngmgpegnmooaaGreatDoorRuPrint
import Derived.Test.YtcngmgpegnmooaaGreatDoorRpZ
import Derived.Test.YtcngmgpegnmooaaGreatDoorRpT
import Derived.Test.YtcngmgpegnmooaaGreatDoorRuLaws
import Derived.Test.YtcngmgpegnmooaaGreatDoorRuOwn2
import Derived.Deep.DeepCutAuto
import Derived.Deep.CutBlock
set_option linter.unusedVariables false
namespace Go.Proofs.YtcngmgpegnmooaaGreatDoor.Ru
open Go.RowKit Cv St Go.Proofs.YtcngmgpegnmooaaGreatDoor.Fd

theorem RuIn.below {W w : World} {S : RS} {r : Ru} (h : RuIn W S r) (hb : Below W.heap.size W w) : RuIn w S r :=
  ⟨h.h6.below hb, h.h7.below hb, h.h8.below hb, h.h9.below hb, h.h10.below hb, h.h11.below hb, h.h12.below hb, h.h13.below hb, h.h14.below hb, h.k6, h.k7, h.k8, h.k9, h.k10, h.k11, h.k12, h.k13, h.k14, h.y6, h.y7, h.y8, h.y9, h.y10, h.y11, h.y12, h.y13, h.y14, h.i0, h.i1, h.i2, h.i3, h.i4⟩

set_option maxRecDepth 100000 in
set_option maxHeartbeats 8000000 in
theorem wrong_few (w : World) (T : Tabs w) (S : RS) (r : Ru) (k : Int) (h : RuIn w S r) (hx1 : fewB S = false) :
    Calls Tryz.prog 7 #[S.val r, .int .i64 k] w fun e w' => e = .returned (.bool true) ∧ Below w.heap.size w w' := by
  have TT := Lib.hid T
  have HK := Lib.hid h
  have X1 := Lib.hid hx1
  clear h T hx1
  obtain ⟨ra6, rn6, rc6, ra7, rn7, rc7, ra8, rn8, rc8, ra9, rn9, rc9, ra10, rn10, rc10, ra11, rn11, rc11, ra12, rn12, rc12, ra13, rn13, rc13, ra14, rn14, rc14⟩ := S
  obtain ⟨rfreq, ritv, rcnt, rtil, rwkst, rends, rmon, rweek, ryday, rmday, rday, rhour, rminu, rsec, rpos⟩ := r
  show Calls Tryz.prog 7 #[.agg #[.int .i64 rfreq, .int .i64 ritv, .int .i64 rcnt, .int .i64 rtil, .int .i64 rwkst, .bool rends, .slice ra6 rn6 rc6, .slice ra7 rn7 rc7, .slice ra8 rn8 rc8, .slice ra9 rn9 rc9, .slice ra10 rn10 rc10, .slice ra11 rn11 rc11, .slice ra12 rn12 rc12, .slice ra13 rn13 rc13, .slice ra14 rn14 rc14], .int .i64 k] w _
  go_enter Tryz.func7, Tryz.ntmps7
  go_upto_region 1 with fail
  have B0 := alloc_below w (.cells #[.int .i64 rfreq, .int .i64 ritv, .int .i64 rcnt, .int .i64 rtil, .int .i64 rwkst, .bool rends, .slice ra6 rn6 rc6, .slice ra7 rn7 rc7, .slice ra8 rn8 rc8, .slice ra9 rn9 rc9, .slice ra10 rn10 rc10, .slice ra11 rn11 rc11, .slice ra12 rn12 rc12, .slice ra13 rn13 rc13, .slice ra14 rn14 rc14] 25)
  have Xr0 := Box.new w #[.int .i64 rfreq, .int .i64 ritv, .int .i64 rcnt, .int .i64 rtil, .int .i64 rwkst, .bool rends, .slice ra6 rn6 rc6, .slice ra7 rn7 rc7, .slice ra8 rn8 rc8, .slice ra9 rn9 rc9, .slice ra10 rn10 rc10, .slice ra11 rn11 rc11, .slice ra12 rn12 rc12, .slice ra13 rn13 rc13, .slice ra14 rn14 rc14] 25
  generalize w.alloc (.cells #[.int .i64 rfreq, .int .i64 ritv, .int .i64 rcnt, .int .i64 rtil, .int .i64 rwkst, .bool rends, .slice ra6 rn6 rc6, .slice ra7 rn7 rc7, .slice ra8 rn8 rc8, .slice ra9 rn9 rc9, .slice ra10 rn10 rc10, .slice ra11 rn11 rc11, .slice ra12 rn12 rc12, .slice ra13 rn13 rc13, .slice ra14 rn14 rc14] 25) = w0 at *
  go_wp2_with fail
  refine (first_is _ (TT.out.on B0)).mono ?_
  rintro e w1 ⟨rfl, b1⟩
  have B1 := B0.trans (b1.mono B0.size)
  have Xr1 := Xr0.below b1
  clear B0 Xr0
  clear b1
  have rz0 : w1.cell? ⟨w.heap.size, 0, none⟩ = some (.int .i64 rfreq) := Xr1.at_ 0 _ rfl
  have rz1 : w1.cell? ⟨w.heap.size, 1, none⟩ = some (.int .i64 ritv) := Xr1.at_ 1 _ rfl
  have rz2 : w1.cell? ⟨w.heap.size, 2, none⟩ = some (.int .i64 rcnt) := Xr1.at_ 2 _ rfl
  have rz3 : w1.cell? ⟨w.heap.size, 3, none⟩ = some (.int .i64 rtil) := Xr1.at_ 3 _ rfl
  have rz4 : w1.cell? ⟨w.heap.size, 4, none⟩ = some (.int .i64 rwkst) := Xr1.at_ 4 _ rfl
  have rz5 : w1.cell? ⟨w.heap.size, 5, none⟩ = some (.bool rends) := Xr1.at_ 5 _ rfl
  have rz6 : w1.cell? ⟨w.heap.size, 6, none⟩ = some (.slice ra6 rn6 rc6) := Xr1.at_ 6 _ rfl
  have rz7 : w1.cell? ⟨w.heap.size, 7, none⟩ = some (.slice ra7 rn7 rc7) := Xr1.at_ 7 _ rfl
  have rz8 : w1.cell? ⟨w.heap.size, 8, none⟩ = some (.slice ra8 rn8 rc8) := Xr1.at_ 8 _ rfl
  have rz9 : w1.cell? ⟨w.heap.size, 9, none⟩ = some (.slice ra9 rn9 rc9) := Xr1.at_ 9 _ rfl
  have rz10 : w1.cell? ⟨w.heap.size, 10, none⟩ = some (.slice ra10 rn10 rc10) := Xr1.at_ 10 _ rfl
  have rz11 : w1.cell? ⟨w.heap.size, 11, none⟩ = some (.slice ra11 rn11 rc11) := Xr1.at_ 11 _ rfl
  have rz12 : w1.cell? ⟨w.heap.size, 12, none⟩ = some (.slice ra12 rn12 rc12) := Xr1.at_ 12 _ rfl
  have rz13 : w1.cell? ⟨w.heap.size, 13, none⟩ = some (.slice ra13 rn13 rc13) := Xr1.at_ 13 _ rfl
  have rz14 : w1.cell? ⟨w.heap.size, 14, none⟩ = some (.slice ra14 rn14 rc14) := Xr1.at_ 14 _ rfl
  go_wp2_with fail
  refine (few_is _ ⟨ra6, rn6, rc6, ra7, rn7, rc7, ra8, rn8, rc8, ra9, rn9, rc9, ra10, rn10, rc10, ra11, rn11, rc11, ra12, rn12, rc12, ra13, rn13, rc13, ra14, rn14, rc14⟩ ⟨rfreq, ritv, rcnt, rtil, rwkst, rends, rmon, rweek, ryday, rmday, rday, rhour, rminu, rsec, rpos⟩ false HK.out.k6 HK.out.k7 HK.out.k8 HK.out.k9 HK.out.k10 HK.out.k11 HK.out.k12 HK.out.k13 HK.out.k14 X1.out).mono ?_
  rintro e w2 ⟨rfl, b2⟩
  clear rz0 rz1 rz2 rz3 rz4 rz5 rz6 rz7 rz8 rz9 rz10 rz11 rz12 rz13 rz14
  have B2 := B1.trans (b2.mono B1.size)
  have Xr2 := Xr1.below b2
  clear B1 Xr1
  clear b2
  go_wp2_with fail
  refine (first_is _ (TT.out.on B2)).mono ?_
  rintro e w3 ⟨rfl, b3⟩
  have B3 := B2.trans (b3.mono B2.size)
  have Xr3 := Xr2.below b3
  clear B2 Xr2
  clear b3
  go_wp2
  go_ret
  exact ⟨rfl, B3⟩
set_option maxRecDepth 100000 in
set_option maxHeartbeats 8000000 in
theorem wrong_no (w : World) (T : Tabs w) (S : RS) (r : Ru) (k : Int) (h : RuIn w S r) (hx1 : fewB S = true) (hm1 : mayR r = false) :
    Calls Tryz.prog 7 #[S.val r, .int .i64 k] w fun e w' => e = .returned (.bool true) ∧ Below w.heap.size w w' := by
  have TT := Lib.hid T
  have HK := Lib.hid h
  have X1 := Lib.hid hx1
  have RA0 := h.few hx1
  have M1 := Lib.hid hm1
  clear h T hx1 hm1
  obtain ⟨ra6, rn6, rc6, ra7, rn7, rc7, ra8, rn8, rc8, ra9, rn9, rc9, ra10, rn10, rc10, ra11, rn11, rc11, ra12, rn12, rc12, ra13, rn13, rc13, ra14, rn14, rc14⟩ := S
  obtain ⟨rfreq, ritv, rcnt, rtil, rwkst, rends, rmon, rweek, ryday, rmday, rday, rhour, rminu, rsec, rpos⟩ := r
  show Calls Tryz.prog 7 #[.agg #[.int .i64 rfreq, .int .i64 ritv, .int .i64 rcnt, .int .i64 rtil, .int .i64 rwkst, .bool rends, .slice ra6 rn6 rc6, .slice ra7 rn7 rc7, .slice ra8 rn8 rc8, .slice ra9 rn9 rc9, .slice ra10 rn10 rc10, .slice ra11 rn11 rc11, .slice ra12 rn12 rc12, .slice ra13 rn13 rc13, .slice ra14 rn14 rc14], .int .i64 k] w _
  go_enter Tryz.func7, Tryz.ntmps7
  go_upto_region 1 with fail
  have B0 := alloc_below w (.cells #[.int .i64 rfreq, .int .i64 ritv, .int .i64 rcnt, .int .i64 rtil, .int .i64 rwkst, .bool rends, .slice ra6 rn6 rc6, .slice ra7 rn7 rc7, .slice ra8 rn8 rc8, .slice ra9 rn9 rc9, .slice ra10 rn10 rc10, .slice ra11 rn11 rc11, .slice ra12 rn12 rc12, .slice ra13 rn13 rc13, .slice ra14 rn14 rc14] 25)
  have Xr0 := Box.new w #[.int .i64 rfreq, .int .i64 ritv, .int .i64 rcnt, .int .i64 rtil, .int .i64 rwkst, .bool rends, .slice ra6 rn6 rc6, .slice ra7 rn7 rc7, .slice ra8 rn8 rc8, .slice ra9 rn9 rc9, .slice ra10 rn10 rc10, .slice ra11 rn11 rc11, .slice ra12 rn12 rc12, .slice ra13 rn13 rc13, .slice ra14 rn14 rc14] 25
  generalize w.alloc (.cells #[.int .i64 rfreq, .int .i64 ritv, .int .i64 rcnt, .int .i64 rtil, .int .i64 rwkst, .bool rends, .slice ra6 rn6 rc6, .slice ra7 rn7 rc7, .slice ra8 rn8 rc8, .slice ra9 rn9 rc9, .slice ra10 rn10 rc10, .slice ra11 rn11 rc11, .slice ra12 rn12 rc12, .slice ra13 rn13 rc13, .slice ra14 rn14 rc14] 25) = w0 at *
  go_wp2_with fail
  refine (first_is _ (TT.out.on B0)).mono ?_
  rintro e w1 ⟨rfl, b1⟩
  have B1 := B0.trans (b1.mono B0.size)
  have Xr1 := Xr0.below b1
  clear B0 Xr0
  clear b1
  have Rr1 := RA0.below B1
  have rz0 : w1.cell? ⟨w.heap.size, 0, none⟩ = some (.int .i64 rfreq) := Xr1.at_ 0 _ rfl
  have rz1 : w1.cell? ⟨w.heap.size, 1, none⟩ = some (.int .i64 ritv) := Xr1.at_ 1 _ rfl
  have rz2 : w1.cell? ⟨w.heap.size, 2, none⟩ = some (.int .i64 rcnt) := Xr1.at_ 2 _ rfl
  have rz3 : w1.cell? ⟨w.heap.size, 3, none⟩ = some (.int .i64 rtil) := Xr1.at_ 3 _ rfl
  have rz4 : w1.cell? ⟨w.heap.size, 4, none⟩ = some (.int .i64 rwkst) := Xr1.at_ 4 _ rfl
  have rz5 : w1.cell? ⟨w.heap.size, 5, none⟩ = some (.bool rends) := Xr1.at_ 5 _ rfl
  have rz6 : w1.cell? ⟨w.heap.size, 6, none⟩ = some (.slice ra6 rn6 rc6) := Xr1.at_ 6 _ rfl
  have rz7 : w1.cell? ⟨w.heap.size, 7, none⟩ = some (.slice ra7 rn7 rc7) := Xr1.at_ 7 _ rfl
  have rz8 : w1.cell? ⟨w.heap.size, 8, none⟩ = some (.slice ra8 rn8 rc8) := Xr1.at_ 8 _ rfl
  have rz9 : w1.cell? ⟨w.heap.size, 9, none⟩ = some (.slice ra9 rn9 rc9) := Xr1.at_ 9 _ rfl
  have rz10 : w1.cell? ⟨w.heap.size, 10, none⟩ = some (.slice ra10 rn10 rc10) := Xr1.at_ 10 _ rfl
  have rz11 : w1.cell? ⟨w.heap.size, 11, none⟩ = some (.slice ra11 rn11 rc11) := Xr1.at_ 11 _ rfl
  have rz12 : w1.cell? ⟨w.heap.size, 12, none⟩ = some (.slice ra12 rn12 rc12) := Xr1.at_ 12 _ rfl
  have rz13 : w1.cell? ⟨w.heap.size, 13, none⟩ = some (.slice ra13 rn13 rc13) := Xr1.at_ 13 _ rfl
  have rz14 : w1.cell? ⟨w.heap.size, 14, none⟩ = some (.slice ra14 rn14 rc14) := Xr1.at_ 14 _ rfl
  go_wp2_with fail
  refine (few_is _ ⟨ra6, rn6, rc6, ra7, rn7, rc7, ra8, rn8, rc8, ra9, rn9, rc9, ra10, rn10, rc10, ra11, rn11, rc11, ra12, rn12, rc12, ra13, rn13, rc13, ra14, rn14, rc14⟩ ⟨rfreq, ritv, rcnt, rtil, rwkst, rends, rmon, rweek, ryday, rmday, rday, rhour, rminu, rsec, rpos⟩ true HK.out.k6 HK.out.k7 HK.out.k8 HK.out.k9 HK.out.k10 HK.out.k11 HK.out.k12 HK.out.k13 HK.out.k14 X1.out).mono ?_
  rintro e w2 ⟨rfl, b2⟩
  clear rz0 rz1 rz2 rz3 rz4 rz5 rz6 rz7 rz8 rz9 rz10 rz11 rz12 rz13 rz14
  have B2 := B1.trans (b2.mono B1.size)
  have Xr2 := Xr1.below b2
  have Rr2 := Rr1.below b2
  clear B1 Xr1 Rr1
  clear b2
  have rz0 : w2.cell? ⟨w.heap.size, 0, none⟩ = some (.int .i64 rfreq) := Xr2.at_ 0 _ rfl
  have rz1 : w2.cell? ⟨w.heap.size, 1, none⟩ = some (.int .i64 ritv) := Xr2.at_ 1 _ rfl
  have rz2 : w2.cell? ⟨w.heap.size, 2, none⟩ = some (.int .i64 rcnt) := Xr2.at_ 2 _ rfl
  have rz3 : w2.cell? ⟨w.heap.size, 3, none⟩ = some (.int .i64 rtil) := Xr2.at_ 3 _ rfl
  have rz4 : w2.cell? ⟨w.heap.size, 4, none⟩ = some (.int .i64 rwkst) := Xr2.at_ 4 _ rfl
  have rz5 : w2.cell? ⟨w.heap.size, 5, none⟩ = some (.bool rends) := Xr2.at_ 5 _ rfl
  have rz6 : w2.cell? ⟨w.heap.size, 6, none⟩ = some (.slice ra6 rn6 rc6) := Xr2.at_ 6 _ rfl
  have rz7 : w2.cell? ⟨w.heap.size, 7, none⟩ = some (.slice ra7 rn7 rc7) := Xr2.at_ 7 _ rfl
  have rz8 : w2.cell? ⟨w.heap.size, 8, none⟩ = some (.slice ra8 rn8 rc8) := Xr2.at_ 8 _ rfl
  have rz9 : w2.cell? ⟨w.heap.size, 9, none⟩ = some (.slice ra9 rn9 rc9) := Xr2.at_ 9 _ rfl
  have rz10 : w2.cell? ⟨w.heap.size, 10, none⟩ = some (.slice ra10 rn10 rc10) := Xr2.at_ 10 _ rfl
  have rz11 : w2.cell? ⟨w.heap.size, 11, none⟩ = some (.slice ra11 rn11 rc11) := Xr2.at_ 11 _ rfl
  have rz12 : w2.cell? ⟨w.heap.size, 12, none⟩ = some (.slice ra12 rn12 rc12) := Xr2.at_ 12 _ rfl
  have rz13 : w2.cell? ⟨w.heap.size, 13, none⟩ = some (.slice ra13 rn13 rc13) := Xr2.at_ 13 _ rfl
  have rz14 : w2.cell? ⟨w.heap.size, 14, none⟩ = some (.slice ra14 rn14 rc14) := Xr2.at_ 14 _ rfl
  go_wp2_with fail
  refine (may_r _ ⟨ra6, rn6, rc6, ra7, rn7, rc7, ra8, rn8, rc8, ra9, rn9, rc9, ra10, rn10, rc10, ra11, rn11, rc11, ra12, rn12, rc12, ra13, rn13, rc13, ra14, rn14, rc14⟩ ⟨rfreq, ritv, rcnt, rtil, rwkst, rends, rmon, rweek, ryday, rmday, rday, rhour, rminu, rsec, rpos⟩ false Rr2 M1.out).mono ?_
  rintro e w3 ⟨rfl, b3⟩
  clear rz0 rz1 rz2 rz3 rz4 rz5 rz6 rz7 rz8 rz9 rz10 rz11 rz12 rz13 rz14
  have B3 := B2.trans (b3.mono B2.size)
  have Xr3 := Xr2.below b3
  have Rr3 := Rr2.below b3
  clear B2 Xr2 Rr2
  clear b3
  go_wp2_with fail
  refine (first_is _ (TT.out.on B3)).mono ?_
  rintro e w4 ⟨rfl, b4⟩
  have B4 := B3.trans (b4.mono B3.size)
  have Xr4 := Xr3.below b4
  have Rr4 := Rr3.below b4
  clear B3 Xr3 Rr3
  clear b4
  go_wp2
  go_ret
  exact ⟨rfl, B4⟩
set_option maxRecDepth 100000 in
set_option maxHeartbeats 8000000 in
theorem wrong_main (w : World) (T : Tabs w) (S : RS) (r : Ru) (k : Int) (h : RuIn w S r) (hx1 : fewB S = true) (hm1 : mayR r = true) :
    Calls Tryz.prog 7 #[S.val r, .int .i64 k] w fun e w' => e = .returned (.bool true) ∧ Below w.heap.size w w' := by
  have TT := Lib.hid T
  have HK := Lib.hid h
  have X1 := Lib.hid hx1
  have RA0 := h.few hx1
  have M1 := Lib.hid hm1
  have MW := Lib.hid (wrong_may hm1 k)
  have NW := Lib.hid (show decide (wrongR r k = r) = false from decide_eq_false fun z => by have := wrong_may hm1 k; rw [z, hm1] at this; cases this)
  have FW := Lib.hid (of_decide_eq_true hx1)
  have RL := Lib.hid RA0
  clear h T hx1 hm1
  obtain ⟨ra6, rn6, rc6, ra7, rn7, rc7, ra8, rn8, rc8, ra9, rn9, rc9, ra10, rn10, rc10, ra11, rn11, rc11, ra12, rn12, rc12, ra13, rn13, rc13, ra14, rn14, rc14⟩ := S
  obtain ⟨rfreq, ritv, rcnt, rtil, rwkst, rends, rmon, rweek, ryday, rmday, rday, rhour, rminu, rsec, rpos⟩ := r
  show Calls Tryz.prog 7 #[.agg #[.int .i64 rfreq, .int .i64 ritv, .int .i64 rcnt, .int .i64 rtil, .int .i64 rwkst, .bool rends, .slice ra6 rn6 rc6, .slice ra7 rn7 rc7, .slice ra8 rn8 rc8, .slice ra9 rn9 rc9, .slice ra10 rn10 rc10, .slice ra11 rn11 rc11, .slice ra12 rn12 rc12, .slice ra13 rn13 rc13, .slice ra14 rn14 rc14], .int .i64 k] w _
  go_enter Tryz.func7, Tryz.ntmps7
  go_upto_region 1 with fail
  have B0 := alloc_below w (.cells #[.int .i64 rfreq, .int .i64 ritv, .int .i64 rcnt, .int .i64 rtil, .int .i64 rwkst, .bool rends, .slice ra6 rn6 rc6, .slice ra7 rn7 rc7, .slice ra8 rn8 rc8, .slice ra9 rn9 rc9, .slice ra10 rn10 rc10, .slice ra11 rn11 rc11, .slice ra12 rn12 rc12, .slice ra13 rn13 rc13, .slice ra14 rn14 rc14] 25)
  have Xr0 := Box.new w #[.int .i64 rfreq, .int .i64 ritv, .int .i64 rcnt, .int .i64 rtil, .int .i64 rwkst, .bool rends, .slice ra6 rn6 rc6, .slice ra7 rn7 rc7, .slice ra8 rn8 rc8, .slice ra9 rn9 rc9, .slice ra10 rn10 rc10, .slice ra11 rn11 rc11, .slice ra12 rn12 rc12, .slice ra13 rn13 rc13, .slice ra14 rn14 rc14] 25
  generalize w.alloc (.cells #[.int .i64 rfreq, .int .i64 ritv, .int .i64 rcnt, .int .i64 rtil, .int .i64 rwkst, .bool rends, .slice ra6 rn6 rc6, .slice ra7 rn7 rc7, .slice ra8 rn8 rc8, .slice ra9 rn9 rc9, .slice ra10 rn10 rc10, .slice ra11 rn11 rc11, .slice ra12 rn12 rc12, .slice ra13 rn13 rc13, .slice ra14 rn14 rc14] 25) = w0 at *
  go_wp2_with fail
  refine (first_is _ (TT.out.on B0)).mono ?_
  rintro e w1 ⟨rfl, b1⟩
  have B1 := B0.trans (b1.mono B0.size)
  have Xr1 := Xr0.below b1
  clear B0 Xr0
  clear b1
  have Rr1 := RA0.below B1
  have rz0 : w1.cell? ⟨w.heap.size, 0, none⟩ = some (.int .i64 rfreq) := Xr1.at_ 0 _ rfl
  have rz1 : w1.cell? ⟨w.heap.size, 1, none⟩ = some (.int .i64 ritv) := Xr1.at_ 1 _ rfl
  have rz2 : w1.cell? ⟨w.heap.size, 2, none⟩ = some (.int .i64 rcnt) := Xr1.at_ 2 _ rfl
  have rz3 : w1.cell? ⟨w.heap.size, 3, none⟩ = some (.int .i64 rtil) := Xr1.at_ 3 _ rfl
  have rz4 : w1.cell? ⟨w.heap.size, 4, none⟩ = some (.int .i64 rwkst) := Xr1.at_ 4 _ rfl
  have rz5 : w1.cell? ⟨w.heap.size, 5, none⟩ = some (.bool rends) := Xr1.at_ 5 _ rfl
  have rz6 : w1.cell? ⟨w.heap.size, 6, none⟩ = some (.slice ra6 rn6 rc6) := Xr1.at_ 6 _ rfl
  have rz7 : w1.cell? ⟨w.heap.size, 7, none⟩ = some (.slice ra7 rn7 rc7) := Xr1.at_ 7 _ rfl
  have rz8 : w1.cell? ⟨w.heap.size, 8, none⟩ = some (.slice ra8 rn8 rc8) := Xr1.at_ 8 _ rfl
  have rz9 : w1.cell? ⟨w.heap.size, 9, none⟩ = some (.slice ra9 rn9 rc9) := Xr1.at_ 9 _ rfl
  have rz10 : w1.cell? ⟨w.heap.size, 10, none⟩ = some (.slice ra10 rn10 rc10) := Xr1.at_ 10 _ rfl
  have rz11 : w1.cell? ⟨w.heap.size, 11, none⟩ = some (.slice ra11 rn11 rc11) := Xr1.at_ 11 _ rfl
  have rz12 : w1.cell? ⟨w.heap.size, 12, none⟩ = some (.slice ra12 rn12 rc12) := Xr1.at_ 12 _ rfl
  have rz13 : w1.cell? ⟨w.heap.size, 13, none⟩ = some (.slice ra13 rn13 rc13) := Xr1.at_ 13 _ rfl
  have rz14 : w1.cell? ⟨w.heap.size, 14, none⟩ = some (.slice ra14 rn14 rc14) := Xr1.at_ 14 _ rfl
  go_wp2_with fail
  refine (few_is _ ⟨ra6, rn6, rc6, ra7, rn7, rc7, ra8, rn8, rc8, ra9, rn9, rc9, ra10, rn10, rc10, ra11, rn11, rc11, ra12, rn12, rc12, ra13, rn13, rc13, ra14, rn14, rc14⟩ ⟨rfreq, ritv, rcnt, rtil, rwkst, rends, rmon, rweek, ryday, rmday, rday, rhour, rminu, rsec, rpos⟩ true HK.out.k6 HK.out.k7 HK.out.k8 HK.out.k9 HK.out.k10 HK.out.k11 HK.out.k12 HK.out.k13 HK.out.k14 X1.out).mono ?_
  rintro e w2 ⟨rfl, b2⟩
  clear rz0 rz1 rz2 rz3 rz4 rz5 rz6 rz7 rz8 rz9 rz10 rz11 rz12 rz13 rz14
  have B2 := B1.trans (b2.mono B1.size)
  have Xr2 := Xr1.below b2
  have Rr2 := Rr1.below b2
  clear B1 Xr1 Rr1
  clear b2
  have rz0 : w2.cell? ⟨w.heap.size, 0, none⟩ = some (.int .i64 rfreq) := Xr2.at_ 0 _ rfl
  have rz1 : w2.cell? ⟨w.heap.size, 1, none⟩ = some (.int .i64 ritv) := Xr2.at_ 1 _ rfl
  have rz2 : w2.cell? ⟨w.heap.size, 2, none⟩ = some (.int .i64 rcnt) := Xr2.at_ 2 _ rfl
  have rz3 : w2.cell? ⟨w.heap.size, 3, none⟩ = some (.int .i64 rtil) := Xr2.at_ 3 _ rfl
  have rz4 : w2.cell? ⟨w.heap.size, 4, none⟩ = some (.int .i64 rwkst) := Xr2.at_ 4 _ rfl
  have rz5 : w2.cell? ⟨w.heap.size, 5, none⟩ = some (.bool rends) := Xr2.at_ 5 _ rfl
  have rz6 : w2.cell? ⟨w.heap.size, 6, none⟩ = some (.slice ra6 rn6 rc6) := Xr2.at_ 6 _ rfl
  have rz7 : w2.cell? ⟨w.heap.size, 7, none⟩ = some (.slice ra7 rn7 rc7) := Xr2.at_ 7 _ rfl
  have rz8 : w2.cell? ⟨w.heap.size, 8, none⟩ = some (.slice ra8 rn8 rc8) := Xr2.at_ 8 _ rfl
  have rz9 : w2.cell? ⟨w.heap.size, 9, none⟩ = some (.slice ra9 rn9 rc9) := Xr2.at_ 9 _ rfl
  have rz10 : w2.cell? ⟨w.heap.size, 10, none⟩ = some (.slice ra10 rn10 rc10) := Xr2.at_ 10 _ rfl
  have rz11 : w2.cell? ⟨w.heap.size, 11, none⟩ = some (.slice ra11 rn11 rc11) := Xr2.at_ 11 _ rfl
  have rz12 : w2.cell? ⟨w.heap.size, 12, none⟩ = some (.slice ra12 rn12 rc12) := Xr2.at_ 12 _ rfl
  have rz13 : w2.cell? ⟨w.heap.size, 13, none⟩ = some (.slice ra13 rn13 rc13) := Xr2.at_ 13 _ rfl
  have rz14 : w2.cell? ⟨w.heap.size, 14, none⟩ = some (.slice ra14 rn14 rc14) := Xr2.at_ 14 _ rfl
  go_wp2_with fail
  refine (may_r _ ⟨ra6, rn6, rc6, ra7, rn7, rc7, ra8, rn8, rc8, ra9, rn9, rc9, ra10, rn10, rc10, ra11, rn11, rc11, ra12, rn12, rc12, ra13, rn13, rc13, ra14, rn14, rc14⟩ ⟨rfreq, ritv, rcnt, rtil, rwkst, rends, rmon, rweek, ryday, rmday, rday, rhour, rminu, rsec, rpos⟩ true Rr2 M1.out).mono ?_
  rintro e w3 ⟨rfl, b3⟩
  clear rz0 rz1 rz2 rz3 rz4 rz5 rz6 rz7 rz8 rz9 rz10 rz11 rz12 rz13 rz14
  have B3 := B2.trans (b3.mono B2.size)
  have Xr3 := Xr2.below b3
  have Rr3 := Rr2.below b3
  clear B2 Xr2 Rr2
  clear b3
  have rz0 : w3.cell? ⟨w.heap.size, 0, none⟩ = some (.int .i64 rfreq) := Xr3.at_ 0 _ rfl
  have rz1 : w3.cell? ⟨w.heap.size, 1, none⟩ = some (.int .i64 ritv) := Xr3.at_ 1 _ rfl
  have rz2 : w3.cell? ⟨w.heap.size, 2, none⟩ = some (.int .i64 rcnt) := Xr3.at_ 2 _ rfl
  have rz3 : w3.cell? ⟨w.heap.size, 3, none⟩ = some (.int .i64 rtil) := Xr3.at_ 3 _ rfl
  have rz4 : w3.cell? ⟨w.heap.size, 4, none⟩ = some (.int .i64 rwkst) := Xr3.at_ 4 _ rfl
  have rz5 : w3.cell? ⟨w.heap.size, 5, none⟩ = some (.bool rends) := Xr3.at_ 5 _ rfl
  have rz6 : w3.cell? ⟨w.heap.size, 6, none⟩ = some (.slice ra6 rn6 rc6) := Xr3.at_ 6 _ rfl
  have rz7 : w3.cell? ⟨w.heap.size, 7, none⟩ = some (.slice ra7 rn7 rc7) := Xr3.at_ 7 _ rfl
  have rz8 : w3.cell? ⟨w.heap.size, 8, none⟩ = some (.slice ra8 rn8 rc8) := Xr3.at_ 8 _ rfl
  have rz9 : w3.cell? ⟨w.heap.size, 9, none⟩ = some (.slice ra9 rn9 rc9) := Xr3.at_ 9 _ rfl
  have rz10 : w3.cell? ⟨w.heap.size, 10, none⟩ = some (.slice ra10 rn10 rc10) := Xr3.at_ 10 _ rfl
  have rz11 : w3.cell? ⟨w.heap.size, 11, none⟩ = some (.slice ra11 rn11 rc11) := Xr3.at_ 11 _ rfl
  have rz12 : w3.cell? ⟨w.heap.size, 12, none⟩ = some (.slice ra12 rn12 rc12) := Xr3.at_ 12 _ rfl
  have rz13 : w3.cell? ⟨w.heap.size, 13, none⟩ = some (.slice ra13 rn13 rc13) := Xr3.at_ 13 _ rfl
  have rz14 : w3.cell? ⟨w.heap.size, 14, none⟩ = some (.slice ra14 rn14 rc14) := Xr3.at_ 14 _ rfl
  go_wp2_with fail
  refine (copyR_own _ ⟨ra6, rn6, rc6, ra7, rn7, rc7, ra8, rn8, rc8, ra9, rn9, rc9, ra10, rn10, rc10, ra11, rn11, rc11, ra12, rn12, rc12, ra13, rn13, rc13, ra14, rn14, rc14⟩ ⟨rfreq, ritv, rcnt, rtil, rwkst, rends, rmon, rweek, ryday, rmday, rday, rhour, rminu, rsec, rpos⟩ (HK.out.below B3) X1.out).mono ?_
  rintro e w4 ⟨⟨qa6, qn6, qc6, qa7, qn7, qc7, qa8, qn8, qc8, qa9, qn9, qc9, qa10, qn10, qc10, qa11, qn11, qc11, qa12, qn12, qc12, qa13, qn13, qc13, qa14, qn14, qc14⟩, he, hS, b4, hO⟩
  replace he : e = .returned (.agg #[.int .i64 rfreq, .int .i64 ritv, .int .i64 rcnt, .int .i64 rtil, .int .i64 rwkst, .bool rends, .slice qa6 qn6 qc6, .slice qa7 qn7 qc7, .slice qa8 qn8 qc8, .slice qa9 qn9 qc9, .slice qa10 qn10 qc10, .slice qa11 qn11 qc11, .slice qa12 qn12 qc12, .slice qa13 qn13 qc13, .slice qa14 qn14 qc14]) := he
  subst he
  clear rz0 rz1 rz2 rz3 rz4 rz5 rz6 rz7 rz8 rz9 rz10 rz11 rz12 rz13 rz14
  have OO := Lib.hid hO
  have SS := Lib.hid hS
  clear hO hS
  go_upto_block 0 with fail
  have b5 := alloc_below w4 (.cells #[.int .i64 rfreq, .int .i64 ritv, .int .i64 rcnt, .int .i64 rtil, .int .i64 rwkst, .bool rends, .slice qa6 qn6 qc6, .slice qa7 qn7 qc7, .slice qa8 qn8 qc8, .slice qa9 qn9 qc9, .slice qa10 qn10 qc10, .slice qa11 qn11 qc11, .slice qa12 qn12 qc12, .slice qa13 qn13 qc13, .slice qa14 qn14 qc14] 25)
  have XQ := Box.new w4 #[.int .i64 rfreq, .int .i64 ritv, .int .i64 rcnt, .int .i64 rtil, .int .i64 rwkst, .bool rends, .slice qa6 qn6 qc6, .slice qa7 qn7 qc7, .slice qa8 qn8 qc8, .slice qa9 qn9 qc9, .slice qa10 qn10 qc10, .slice qa11 qn11 qc11, .slice qa12 qn12 qc12, .slice qa13 qn13 qc13, .slice qa14 qn14 qc14] 25
  have FZ := Lib.hid (show ∀ k, (w4.alloc (.cells #[.int .i64 rfreq, .int .i64 ritv, .int .i64 rcnt, .int .i64 rtil, .int .i64 rwkst, .bool rends, .slice qa6 qn6 qc6, .slice qa7 qn7 qc7, .slice qa8 qn8 qc8, .slice qa9 qn9 qc9, .slice qa10 qn10 qc10, .slice qa11 qn11 qc11, .slice qa12 qn12 qc12, .slice qa13 qn13 qc13, .slice qa14 qn14 qc14] 25)).frozen? ⟨w4.heap.size, k, none⟩ = false from fun k => by simp)
  generalize w4.alloc (.cells #[.int .i64 rfreq, .int .i64 ritv, .int .i64 rcnt, .int .i64 rtil, .int .i64 rwkst, .bool rends, .slice qa6 qn6 qc6, .slice qa7 qn7 qc7, .slice qa8 qn8 qc8, .slice qa9 qn9 qc9, .slice qa10 qn10 qc10, .slice qa11 qn11 qc11, .slice qa12 qn12 qc12, .slice qa13 qn13 qc13, .slice qa14 qn14 qc14] 25) = w5 at *
  go_cut [22] (fun s wx => WrongK w3 w4.heap.size (wrongR ⟨rfreq, ritv, rcnt, rtil, rwkst, rends, rmon, rweek, ryday, rmday, rday, rhour, rminu, rsec, rpos⟩ k) wx)
  case first =>
    by_cases a0 : k = 0
    · subst a0
      have e6 : w5.cell? ⟨w4.heap.size, 6, none⟩ = some (.slice qa6 qn6 qc6) := XQ.at_ 6 _ rfl
      have f6 := FZ.out 6
      have ln : rmon.length ≤ 400 := by have a := FW.out; have b := RL.out.h6.1; simp only at a b; omega
      obtain ⟨B, C, o, hB⟩ := wo6 OO.out b4 b5
      go_wp2_with (at_builtin; refine append_numB rfl _ _ rfl B C _ rmon rfl o hB 13 3 1 rfl (by omega) ?_)
      intro A c6 w6 hA hG hF
      have e := (hG.cell_far ⟨w4.heap.size, 6, none⟩ XQ.1 (wn6 OO.out)).trans e6
      have f := (hG.frozen_far ⟨w4.heap.size, 6, none⟩ XQ.1 (wn6 OO.out)).trans f6
      go_wp2
      go_meet
      exact wr6 OO.out SS.out b4 b5 XQ (by show rmon.length ≤ 1000; omega) hG hA hF
    by_cases a1 : k = 1
    · subst a1
      have e9 : w5.cell? ⟨w4.heap.size, 9, none⟩ = some (.slice qa9 qn9 qc9) := XQ.at_ 9 _ rfl
      have f9 := FZ.out 9
      have ln : rmday.length ≤ 400 := by have a := FW.out; have b := RL.out.h9.1; simp only at a b; omega
      obtain ⟨B, C, o, hB⟩ := wo9 OO.out b4 b5
      go_wp2_with (at_builtin; refine append_numB rfl _ _ rfl B C _ rmday rfl o hB 32 3 1 rfl (by omega) ?_)
      intro A c6 w6 hA hG hF
      have e := (hG.cell_far ⟨w4.heap.size, 9, none⟩ XQ.1 (wn9 OO.out)).trans e9
      have f := (hG.frozen_far ⟨w4.heap.size, 9, none⟩ XQ.1 (wn9 OO.out)).trans f9
      go_wp2
      go_meet
      exact wr9 OO.out SS.out b4 b5 XQ (by show rmday.length ≤ 1000; omega) hG hA hF
    by_cases a2 : k = 2
    · subst a2
      have e11 : w5.cell? ⟨w4.heap.size, 11, none⟩ = some (.slice qa11 qn11 qc11) := XQ.at_ 11 _ rfl
      have f11 := FZ.out 11
      have ln : rhour.length ≤ 400 := by have a := FW.out; have b := RL.out.h11.1; simp only at a b; omega
      obtain ⟨B, C, o, hB⟩ := wo11 OO.out b4 b5
      go_wp2_with (at_builtin; refine append_numB rfl _ _ rfl B C _ rhour rfl o hB 24 3 1 rfl (by omega) ?_)
      intro A c6 w6 hA hG hF
      have e := (hG.cell_far ⟨w4.heap.size, 11, none⟩ XQ.1 (wn11 OO.out)).trans e11
      have f := (hG.frozen_far ⟨w4.heap.size, 11, none⟩ XQ.1 (wn11 OO.out)).trans f11
      go_wp2
      go_meet
      exact wr11 OO.out SS.out b4 b5 XQ (by show rhour.length ≤ 1000; omega) hG hA hF
    by_cases a3 : k = 3
    · subst a3
      have e12 : w5.cell? ⟨w4.heap.size, 12, none⟩ = some (.slice qa12 qn12 qc12) := XQ.at_ 12 _ rfl
      have f12 := FZ.out 12
      have ln : rminu.length ≤ 400 := by have a := FW.out; have b := RL.out.h12.1; simp only at a b; omega
      obtain ⟨B, C, o, hB⟩ := wo12 OO.out b4 b5
      go_wp2_with (at_builtin; refine append_numB rfl _ _ rfl B C _ rminu rfl o hB 60 3 1 rfl (by omega) ?_)
      intro A c6 w6 hA hG hF
      have e := (hG.cell_far ⟨w4.heap.size, 12, none⟩ XQ.1 (wn12 OO.out)).trans e12
      have f := (hG.frozen_far ⟨w4.heap.size, 12, none⟩ XQ.1 (wn12 OO.out)).trans f12
      go_wp2
      go_meet
      exact wr12 OO.out SS.out b4 b5 XQ (by show rminu.length ≤ 1000; omega) hG hA hF
    by_cases a4 : k = 4
    · subst a4
      have e10 : w5.cell? ⟨w4.heap.size, 10, none⟩ = some (.slice qa10 qn10 qc10) := XQ.at_ 10 _ rfl
      have f10 := FZ.out 10
      have ln : rday.length ≤ 400 := by have a := FW.out; have b := RL.out.h10.1; simp only at a b; omega
      obtain ⟨B, C, o, hB⟩ := wo10 OO.out b4 b5
      go_wp2_with (at_builtin; refine append_dayB rfl _ _ rfl B C _ rday rfl o hB ⟨53, 7⟩ 40 1 rfl (by omega) ?_)
      intro A c6 w6 hA hG hF
      have e := (hG.cell_far ⟨w4.heap.size, 10, none⟩ XQ.1 (wn10 OO.out)).trans e10
      have f := (hG.frozen_far ⟨w4.heap.size, 10, none⟩ XQ.1 (wn10 OO.out)).trans f10
      go_wp2
      go_meet
      exact wr10 OO.out SS.out b4 b5 XQ (by show rday.length ≤ 1000; omega) hG hA hF
    by_cases a5 : k = 5
    · subst a5
      have e1 : w5.cell? ⟨w4.heap.size, 1, none⟩ = some (.int .i64 ritv) := XQ.at_ 1 _ rfl
      have f1 := FZ.out 1
      go_wp2
      go_meet
      exact wrS OO.out SS.out b4 b5 XQ (by decide) rfl (fun _ z => ⟨z.h6, z.h7, z.h8, z.h9, z.h10, z.h11, z.h12, z.h13, z.h14, z.l6, z.l7, z.l8, z.l9, z.l10, z.l11, z.l12, z.l13, z.l14⟩)
    by_cases a6 : k = 6
    · subst a6
      have e2 : w5.cell? ⟨w4.heap.size, 2, none⟩ = some (.int .i64 rcnt) := XQ.at_ 2 _ rfl
      have f2 := FZ.out 2
      go_wp2
      go_meet
      exact wrS OO.out SS.out b4 b5 XQ (by decide) rfl (fun _ z => ⟨z.h6, z.h7, z.h8, z.h9, z.h10, z.h11, z.h12, z.h13, z.h14, z.l6, z.l7, z.l8, z.l9, z.l10, z.l11, z.l12, z.l13, z.l14⟩)
    by_cases a7 : k = 7
    · subst a7
      have e0 : w5.cell? ⟨w4.heap.size, 0, none⟩ = some (.int .i64 rfreq) := XQ.at_ 0 _ rfl
      have f0 := FZ.out 0
      have fb : 0 ≤ rfreq ∧ rfreq ≤ 1000 := by
        obtain ⟨f1, f2, -⟩ := of_decide_eq_true (mayR_of M1.out).1
        simp only at f1 f2
        omega
      go_wp2
      go_meet
      exact wrS OO.out SS.out b4 b5 XQ (by decide) rfl (fun _ z => ⟨z.h6, z.h7, z.h8, z.h9, z.h10, z.h11, z.h12, z.h13, z.h14, z.l6, z.l7, z.l8, z.l9, z.l10, z.l11, z.l12, z.l13, z.l14⟩)
    have ew : wrongR ⟨rfreq, ritv, rcnt, rtil, rwkst, rends, rmon, rweek, ryday, rmday, rday, rhour, rminu, rsec, rpos⟩ k = { (⟨rfreq, ritv, rcnt, rtil, rwkst, rends, rmon, rweek, ryday, rmday, rday, rhour, rminu, rsec, rpos⟩ : Ru) with wkst := 7 } := by unfold wrongR; simp only [a0, a1, a2, a3, a4, a5, a6, a7, if_false]
    have EW := Lib.hid ew
    clear ew
    have t0 : ((k : Int) == 0) = false := beq_eq_false_iff_ne.2 a0
    have t1 : ((k : Int) == 1) = false := beq_eq_false_iff_ne.2 a1
    have t2 : ((k : Int) == 2) = false := beq_eq_false_iff_ne.2 a2
    have t3 : ((k : Int) == 3) = false := beq_eq_false_iff_ne.2 a3
    have t4 : ((k : Int) == 4) = false := beq_eq_false_iff_ne.2 a4
    have t5 : ((k : Int) == 5) = false := beq_eq_false_iff_ne.2 a5
    have t6 : ((k : Int) == 6) = false := beq_eq_false_iff_ne.2 a6
    have t7 : ((k : Int) == 7) = false := beq_eq_false_iff_ne.2 a7
    clear a0 a1 a2 a3 a4 a5 a6 a7
    have e4 : w5.cell? ⟨w4.heap.size, 4, none⟩ = some (.int .i64 rwkst) := XQ.at_ 4 _ rfl
    have f4 := FZ.out 4
    go_wp2
    go_meet
    rw [EW.out]
    exact wrS OO.out SS.out b4 b5 XQ (by decide) rfl (fun _ z => ⟨z.h6, z.h7, z.h8, z.h9, z.h10, z.h11, z.h12, z.h13, z.h14, z.l6, z.l7, z.l8, z.l9, z.l10, z.l11, z.l12, z.l13, z.l14⟩)
  case rest =>
    generalize wrongR ⟨rfreq, ritv, rcnt, rtil, rwkst, rends, rmon, rweek, ryday, rmday, rday, rhour, rminu, rsec, rpos⟩ k = x at *
    obtain ⟨⟨xa6, xn6, xc6, xa7, xn7, xc7, xa8, xn8, xc8, xa9, xn9, xc9, xa10, xn10, xc10, xa11, xn11, xc11, xa12, xn12, xc12, xa13, xn13, xc13, xa14, xn14, xc14⟩, XQ6, RQ6, BX⟩ := hcut
    obtain ⟨xfreq, xitv, xcnt, xtil, xwkst, xends, xmon, xweek, xyday, xmday, xday, xhour, xminu, xsec, xpos⟩ := x
    clear XQ FZ OO SS b4 b5
    generalize wc = w6 at *
    have B6 := B3.trans (BX.mono B3.size)
    have Xr6 := Xr3.below BX
    have Rr6 := Rr3.below BX
    have Xq6 : Box w6 w4.heap.size #[.int .i64 xfreq, .int .i64 xitv, .int .i64 xcnt, .int .i64 xtil, .int .i64 xwkst, .bool xends, .slice xa6 xn6 xc6, .slice xa7 xn7 xc7, .slice xa8 xn8 xc8, .slice xa9 xn9 xc9, .slice xa10 xn10 xc10, .slice xa11 xn11 xc11, .slice xa12 xn12 xc12, .slice xa13 xn13 xc13, .slice xa14 xn14 xc14] := XQ6
    have Rq6 : RuAt w6 ⟨xa6, xn6, xc6, xa7, xn7, xc7, xa8, xn8, xc8, xa9, xn9, xc9, xa10, xn10, xc10, xa11, xn11, xc11, xa12, xn12, xc12, xa13, xn13, xc13, xa14, xn14, xc14⟩ ⟨xfreq, xitv, xcnt, xtil, xwkst, xends, xmon, xweek, xyday, xmday, xday, xhour, xminu, xsec, xpos⟩ := RQ6
    clear XQ6 RQ6 BX B3 Xr3 Rr3
    have qz0 : w6.cell? ⟨w4.heap.size, 0, none⟩ = some (.int .i64 xfreq) := Xq6.at_ 0 _ rfl
    have qz1 : w6.cell? ⟨w4.heap.size, 1, none⟩ = some (.int .i64 xitv) := Xq6.at_ 1 _ rfl
    have qz2 : w6.cell? ⟨w4.heap.size, 2, none⟩ = some (.int .i64 xcnt) := Xq6.at_ 2 _ rfl
    have qz3 : w6.cell? ⟨w4.heap.size, 3, none⟩ = some (.int .i64 xtil) := Xq6.at_ 3 _ rfl
    have qz4 : w6.cell? ⟨w4.heap.size, 4, none⟩ = some (.int .i64 xwkst) := Xq6.at_ 4 _ rfl
    have qz5 : w6.cell? ⟨w4.heap.size, 5, none⟩ = some (.bool xends) := Xq6.at_ 5 _ rfl
    have qz6 : w6.cell? ⟨w4.heap.size, 6, none⟩ = some (.slice xa6 xn6 xc6) := Xq6.at_ 6 _ rfl
    have qz7 : w6.cell? ⟨w4.heap.size, 7, none⟩ = some (.slice xa7 xn7 xc7) := Xq6.at_ 7 _ rfl
    have qz8 : w6.cell? ⟨w4.heap.size, 8, none⟩ = some (.slice xa8 xn8 xc8) := Xq6.at_ 8 _ rfl
    have qz9 : w6.cell? ⟨w4.heap.size, 9, none⟩ = some (.slice xa9 xn9 xc9) := Xq6.at_ 9 _ rfl
    have qz10 : w6.cell? ⟨w4.heap.size, 10, none⟩ = some (.slice xa10 xn10 xc10) := Xq6.at_ 10 _ rfl
    have qz11 : w6.cell? ⟨w4.heap.size, 11, none⟩ = some (.slice xa11 xn11 xc11) := Xq6.at_ 11 _ rfl
    have qz12 : w6.cell? ⟨w4.heap.size, 12, none⟩ = some (.slice xa12 xn12 xc12) := Xq6.at_ 12 _ rfl
    have qz13 : w6.cell? ⟨w4.heap.size, 13, none⟩ = some (.slice xa13 xn13 xc13) := Xq6.at_ 13 _ rfl
    have qz14 : w6.cell? ⟨w4.heap.size, 14, none⟩ = some (.slice xa14 xn14 xc14) := Xq6.at_ 14 _ rfl
    go_wp2_with fail
    refine (print_no _ ⟨xa6, xn6, xc6, xa7, xn7, xc7, xa8, xn8, xc8, xa9, xn9, xc9, xa10, xn10, xc10, xa11, xn11, xc11, xa12, xn12, xc12, xa13, xn13, xc13, xa14, xn14, xc14⟩ ⟨xfreq, xitv, xcnt, xtil, xwkst, xends, xmon, xweek, xyday, xmday, xday, xhour, xminu, xsec, xpos⟩ Rq6 MW.out).mono ?_
    rintro e w7 ⟨rfl, b7⟩
    clear qz0 qz1 qz2 qz3 qz4 qz5 qz6 qz7 qz8 qz9 qz10 qz11 qz12 qz13 qz14
    have B7 := B6.trans (b7.mono B6.size)
    have Xr7 := Xr6.below b7
    have Xq7 := Xq6.below b7
    have Rr7 := Rr6.below b7
    have Rq7 := Rq6.below b7
    clear B6 Xr6 Xq6 Rr6 Rq6
    clear b7
    go_wp2_with fail
    refine (first_is _ (TT.out.on B7)).mono ?_
    rintro e w8 ⟨rfl, b8⟩
    have B8 := B7.trans (b8.mono B7.size)
    have Xr8 := Xr7.below b8
    have Xq8 := Xq7.below b8
    have Rr8 := Rr7.below b8
    have Rq8 := Rq7.below b8
    clear B7 Xr7 Xq7 Rr7 Rq7
    clear b8
    have qz0 : w8.cell? ⟨w4.heap.size, 0, none⟩ = some (.int .i64 xfreq) := Xq8.at_ 0 _ rfl
    have qz1 : w8.cell? ⟨w4.heap.size, 1, none⟩ = some (.int .i64 xitv) := Xq8.at_ 1 _ rfl
    have qz2 : w8.cell? ⟨w4.heap.size, 2, none⟩ = some (.int .i64 xcnt) := Xq8.at_ 2 _ rfl
    have qz3 : w8.cell? ⟨w4.heap.size, 3, none⟩ = some (.int .i64 xtil) := Xq8.at_ 3 _ rfl
    have qz4 : w8.cell? ⟨w4.heap.size, 4, none⟩ = some (.int .i64 xwkst) := Xq8.at_ 4 _ rfl
    have qz5 : w8.cell? ⟨w4.heap.size, 5, none⟩ = some (.bool xends) := Xq8.at_ 5 _ rfl
    have qz6 : w8.cell? ⟨w4.heap.size, 6, none⟩ = some (.slice xa6 xn6 xc6) := Xq8.at_ 6 _ rfl
    have qz7 : w8.cell? ⟨w4.heap.size, 7, none⟩ = some (.slice xa7 xn7 xc7) := Xq8.at_ 7 _ rfl
    have qz8 : w8.cell? ⟨w4.heap.size, 8, none⟩ = some (.slice xa8 xn8 xc8) := Xq8.at_ 8 _ rfl
    have qz9 : w8.cell? ⟨w4.heap.size, 9, none⟩ = some (.slice xa9 xn9 xc9) := Xq8.at_ 9 _ rfl
    have qz10 : w8.cell? ⟨w4.heap.size, 10, none⟩ = some (.slice xa10 xn10 xc10) := Xq8.at_ 10 _ rfl
    have qz11 : w8.cell? ⟨w4.heap.size, 11, none⟩ = some (.slice xa11 xn11 xc11) := Xq8.at_ 11 _ rfl
    have qz12 : w8.cell? ⟨w4.heap.size, 12, none⟩ = some (.slice xa12 xn12 xc12) := Xq8.at_ 12 _ rfl
    have qz13 : w8.cell? ⟨w4.heap.size, 13, none⟩ = some (.slice xa13 xn13 xc13) := Xq8.at_ 13 _ rfl
    have qz14 : w8.cell? ⟨w4.heap.size, 14, none⟩ = some (.slice xa14 xn14 xc14) := Xq8.at_ 14 _ rfl
    go_wp2_with fail
    refine (may_r _ ⟨xa6, xn6, xc6, xa7, xn7, xc7, xa8, xn8, xc8, xa9, xn9, xc9, xa10, xn10, xc10, xa11, xn11, xc11, xa12, xn12, xc12, xa13, xn13, xc13, xa14, xn14, xc14⟩ ⟨xfreq, xitv, xcnt, xtil, xwkst, xends, xmon, xweek, xyday, xmday, xday, xhour, xminu, xsec, xpos⟩ false Rq8 MW.out).mono ?_
    rintro e w9 ⟨rfl, b9⟩
    clear qz0 qz1 qz2 qz3 qz4 qz5 qz6 qz7 qz8 qz9 qz10 qz11 qz12 qz13 qz14
    have B9 := B8.trans (b9.mono B8.size)
    have Xr9 := Xr8.below b9
    have Xq9 := Xq8.below b9
    have Rr9 := Rr8.below b9
    have Rq9 := Rq8.below b9
    clear B8 Xr8 Xq8 Rr8 Rq8
    clear b9
    have qz0 : w9.cell? ⟨w4.heap.size, 0, none⟩ = some (.int .i64 xfreq) := Xq9.at_ 0 _ rfl
    have qz1 : w9.cell? ⟨w4.heap.size, 1, none⟩ = some (.int .i64 xitv) := Xq9.at_ 1 _ rfl
    have qz2 : w9.cell? ⟨w4.heap.size, 2, none⟩ = some (.int .i64 xcnt) := Xq9.at_ 2 _ rfl
    have qz3 : w9.cell? ⟨w4.heap.size, 3, none⟩ = some (.int .i64 xtil) := Xq9.at_ 3 _ rfl
    have qz4 : w9.cell? ⟨w4.heap.size, 4, none⟩ = some (.int .i64 xwkst) := Xq9.at_ 4 _ rfl
    have qz5 : w9.cell? ⟨w4.heap.size, 5, none⟩ = some (.bool xends) := Xq9.at_ 5 _ rfl
    have qz6 : w9.cell? ⟨w4.heap.size, 6, none⟩ = some (.slice xa6 xn6 xc6) := Xq9.at_ 6 _ rfl
    have qz7 : w9.cell? ⟨w4.heap.size, 7, none⟩ = some (.slice xa7 xn7 xc7) := Xq9.at_ 7 _ rfl
    have qz8 : w9.cell? ⟨w4.heap.size, 8, none⟩ = some (.slice xa8 xn8 xc8) := Xq9.at_ 8 _ rfl
    have qz9 : w9.cell? ⟨w4.heap.size, 9, none⟩ = some (.slice xa9 xn9 xc9) := Xq9.at_ 9 _ rfl
    have qz10 : w9.cell? ⟨w4.heap.size, 10, none⟩ = some (.slice xa10 xn10 xc10) := Xq9.at_ 10 _ rfl
    have qz11 : w9.cell? ⟨w4.heap.size, 11, none⟩ = some (.slice xa11 xn11 xc11) := Xq9.at_ 11 _ rfl
    have qz12 : w9.cell? ⟨w4.heap.size, 12, none⟩ = some (.slice xa12 xn12 xc12) := Xq9.at_ 12 _ rfl
    have qz13 : w9.cell? ⟨w4.heap.size, 13, none⟩ = some (.slice xa13 xn13 xc13) := Xq9.at_ 13 _ rfl
    have qz14 : w9.cell? ⟨w4.heap.size, 14, none⟩ = some (.slice xa14 xn14 xc14) := Xq9.at_ 14 _ rfl
    have rz0 : w9.cell? ⟨w.heap.size, 0, none⟩ = some (.int .i64 rfreq) := Xr9.at_ 0 _ rfl
    have rz1 : w9.cell? ⟨w.heap.size, 1, none⟩ = some (.int .i64 ritv) := Xr9.at_ 1 _ rfl
    have rz2 : w9.cell? ⟨w.heap.size, 2, none⟩ = some (.int .i64 rcnt) := Xr9.at_ 2 _ rfl
    have rz3 : w9.cell? ⟨w.heap.size, 3, none⟩ = some (.int .i64 rtil) := Xr9.at_ 3 _ rfl
    have rz4 : w9.cell? ⟨w.heap.size, 4, none⟩ = some (.int .i64 rwkst) := Xr9.at_ 4 _ rfl
    have rz5 : w9.cell? ⟨w.heap.size, 5, none⟩ = some (.bool rends) := Xr9.at_ 5 _ rfl
    have rz6 : w9.cell? ⟨w.heap.size, 6, none⟩ = some (.slice ra6 rn6 rc6) := Xr9.at_ 6 _ rfl
    have rz7 : w9.cell? ⟨w.heap.size, 7, none⟩ = some (.slice ra7 rn7 rc7) := Xr9.at_ 7 _ rfl
    have rz8 : w9.cell? ⟨w.heap.size, 8, none⟩ = some (.slice ra8 rn8 rc8) := Xr9.at_ 8 _ rfl
    have rz9 : w9.cell? ⟨w.heap.size, 9, none⟩ = some (.slice ra9 rn9 rc9) := Xr9.at_ 9 _ rfl
    have rz10 : w9.cell? ⟨w.heap.size, 10, none⟩ = some (.slice ra10 rn10 rc10) := Xr9.at_ 10 _ rfl
    have rz11 : w9.cell? ⟨w.heap.size, 11, none⟩ = some (.slice ra11 rn11 rc11) := Xr9.at_ 11 _ rfl
    have rz12 : w9.cell? ⟨w.heap.size, 12, none⟩ = some (.slice ra12 rn12 rc12) := Xr9.at_ 12 _ rfl
    have rz13 : w9.cell? ⟨w.heap.size, 13, none⟩ = some (.slice ra13 rn13 rc13) := Xr9.at_ 13 _ rfl
    have rz14 : w9.cell? ⟨w.heap.size, 14, none⟩ = some (.slice ra14 rn14 rc14) := Xr9.at_ 14 _ rfl
    go_wp2_with fail
    refine (same_is _ ⟨xa6, xn6, xc6, xa7, xn7, xc7, xa8, xn8, xc8, xa9, xn9, xc9, xa10, xn10, xc10, xa11, xn11, xc11, xa12, xn12, xc12, xa13, xn13, xc13, xa14, xn14, xc14⟩ ⟨ra6, rn6, rc6, ra7, rn7, rc7, ra8, rn8, rc8, ra9, rn9, rc9, ra10, rn10, rc10, ra11, rn11, rc11, ra12, rn12, rc12, ra13, rn13, rc13, ra14, rn14, rc14⟩ ⟨xfreq, xitv, xcnt, xtil, xwkst, xends, xmon, xweek, xyday, xmday, xday, xhour, xminu, xsec, xpos⟩ ⟨rfreq, ritv, rcnt, rtil, rwkst, rends, rmon, rweek, ryday, rmday, rday, rhour, rminu, rsec, rpos⟩ false Rq9 Rr9 NW.out).mono ?_
    rintro e w10 ⟨rfl, b10⟩
    clear qz0 qz1 qz2 qz3 qz4 qz5 qz6 qz7 qz8 qz9 qz10 qz11 qz12 qz13 qz14 rz0 rz1 rz2 rz3 rz4 rz5 rz6 rz7 rz8 rz9 rz10 rz11 rz12 rz13 rz14
    have B10 := B9.trans (b10.mono B9.size)
    have Xr10 := Xr9.below b10
    have Xq10 := Xq9.below b10
    have Rr10 := Rr9.below b10
    have Rq10 := Rq9.below b10
    clear B9 Xr9 Xq9 Rr9 Rq9
    clear b10
    go_wp2
    go_ret
    exact ⟨rfl, B10⟩
theorem wrong_walk (w : World) (T : Tabs w) (S : RS) (r : Ru) (k : Int) (h : RuIn w S r) :
    Calls Tryz.prog 7 #[S.val r, .int .i64 k] w fun e w' => e = .returned (.bool true) ∧ Below w.heap.size w w' := by
  cases h1 : fewB S
  · exact wrong_few w T S r k h h1
  cases h2 : mayR r
  · exact wrong_no w T S r k h h1 h2
  · exact wrong_main w T S r k h h1 h2
end Go.Proofs.YtcngmgpegnmooaaGreatDoor.Ru
