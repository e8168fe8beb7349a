/- RuleLess answers true. -/
import Derived.Test.YtcngmgpegnmooaaGreatDoorRuPrint
import Derived.Test.YtcngmgpegnmooaaGreatDoorRpZ
import Derived.Test.YtcngmgpegnmooaaGreatDoorRpT
import Derived.Test.YtcngmgpegnmooaaGreatDoorRuLaws
import Derived.Test.YtcngmgpegnmooaaGreatDoorRuCopyR
set_option linter.unusedVariables false
namespace Go.Proofs.YtcngmgpegnmooaaGreatDoor.Ru
open Go.RowKit Cv St Go.Proofs.YtcngmgpegnmooaaGreatDoor.Fd

theorem RuIn.below {W w : World} {S : RS} {r : Ru} (h : RuIn W S r) (hb : Below W.heap.size W w) : RuIn w S r :=
  ⟨h.h6.below hb, h.h7.below hb, h.h8.below hb, h.h9.below hb, h.h10.below hb, h.h11.below hb, h.h12.below hb, h.h13.below hb, h.h14.below hb, h.k6, h.k7, h.k8, h.k9, h.k10, h.k11, h.k12, h.k13, h.k14, h.y6, h.y7, h.y8, h.y9, h.y10, h.y11, h.y12, h.y13, h.y14, h.i0, h.i1, h.i2, h.i3, h.i4⟩

set_option maxRecDepth 100000 in
set_option maxHeartbeats 8000000 in
theorem less_few (w : World) (T : Tabs w) (S : RS) (r : Ru) (k : Int) (h : RuIn w S r) (hx1 : fewB S = false) :
    Calls Tryz.prog 8 #[S.val r, .int .i64 k] w fun e w' => e = .returned (.bool true) ∧ Below w.heap.size w w' := by
  have TT := Lib.hid T
  have HK := Lib.hid h
  have X1 := Lib.hid hx1
  clear h T hx1
  obtain ⟨ra6, rn6, rc6, ra7, rn7, rc7, ra8, rn8, rc8, ra9, rn9, rc9, ra10, rn10, rc10, ra11, rn11, rc11, ra12, rn12, rc12, ra13, rn13, rc13, ra14, rn14, rc14⟩ := S
  obtain ⟨rfreq, ritv, rcnt, rtil, rwkst, rends, rmon, rweek, ryday, rmday, rday, rhour, rminu, rsec, rpos⟩ := r
  show Calls Tryz.prog 8 #[.agg #[.int .i64 rfreq, .int .i64 ritv, .int .i64 rcnt, .int .i64 rtil, .int .i64 rwkst, .bool rends, .slice ra6 rn6 rc6, .slice ra7 rn7 rc7, .slice ra8 rn8 rc8, .slice ra9 rn9 rc9, .slice ra10 rn10 rc10, .slice ra11 rn11 rc11, .slice ra12 rn12 rc12, .slice ra13 rn13 rc13, .slice ra14 rn14 rc14], .int .i64 k] w _
  go_enter Tryz.func8, Tryz.ntmps8
  go_upto_region 1 with fail
  have B0 := alloc_below w (.cells #[.int .i64 rfreq, .int .i64 ritv, .int .i64 rcnt, .int .i64 rtil, .int .i64 rwkst, .bool rends, .slice ra6 rn6 rc6, .slice ra7 rn7 rc7, .slice ra8 rn8 rc8, .slice ra9 rn9 rc9, .slice ra10 rn10 rc10, .slice ra11 rn11 rc11, .slice ra12 rn12 rc12, .slice ra13 rn13 rc13, .slice ra14 rn14 rc14] 25)
  have Xr0 := Box.new w #[.int .i64 rfreq, .int .i64 ritv, .int .i64 rcnt, .int .i64 rtil, .int .i64 rwkst, .bool rends, .slice ra6 rn6 rc6, .slice ra7 rn7 rc7, .slice ra8 rn8 rc8, .slice ra9 rn9 rc9, .slice ra10 rn10 rc10, .slice ra11 rn11 rc11, .slice ra12 rn12 rc12, .slice ra13 rn13 rc13, .slice ra14 rn14 rc14] 25
  generalize w.alloc (.cells #[.int .i64 rfreq, .int .i64 ritv, .int .i64 rcnt, .int .i64 rtil, .int .i64 rwkst, .bool rends, .slice ra6 rn6 rc6, .slice ra7 rn7 rc7, .slice ra8 rn8 rc8, .slice ra9 rn9 rc9, .slice ra10 rn10 rc10, .slice ra11 rn11 rc11, .slice ra12 rn12 rc12, .slice ra13 rn13 rc13, .slice ra14 rn14 rc14] 25) = w0 at *
  go_wp2_with fail
  refine (first_is _ (TT.out.on B0)).mono ?_
  rintro e w1 ⟨rfl, b1⟩
  have B1 := B0.trans (b1.mono B0.size)
  have Xr1 := Xr0.below b1
  clear B0 Xr0
  clear b1
  have rz0 : w1.cell? ⟨w.heap.size, 0, none⟩ = some (.int .i64 rfreq) := Xr1.at_ 0 _ rfl
  have rz1 : w1.cell? ⟨w.heap.size, 1, none⟩ = some (.int .i64 ritv) := Xr1.at_ 1 _ rfl
  have rz2 : w1.cell? ⟨w.heap.size, 2, none⟩ = some (.int .i64 rcnt) := Xr1.at_ 2 _ rfl
  have rz3 : w1.cell? ⟨w.heap.size, 3, none⟩ = some (.int .i64 rtil) := Xr1.at_ 3 _ rfl
  have rz4 : w1.cell? ⟨w.heap.size, 4, none⟩ = some (.int .i64 rwkst) := Xr1.at_ 4 _ rfl
  have rz5 : w1.cell? ⟨w.heap.size, 5, none⟩ = some (.bool rends) := Xr1.at_ 5 _ rfl
  have rz6 : w1.cell? ⟨w.heap.size, 6, none⟩ = some (.slice ra6 rn6 rc6) := Xr1.at_ 6 _ rfl
  have rz7 : w1.cell? ⟨w.heap.size, 7, none⟩ = some (.slice ra7 rn7 rc7) := Xr1.at_ 7 _ rfl
  have rz8 : w1.cell? ⟨w.heap.size, 8, none⟩ = some (.slice ra8 rn8 rc8) := Xr1.at_ 8 _ rfl
  have rz9 : w1.cell? ⟨w.heap.size, 9, none⟩ = some (.slice ra9 rn9 rc9) := Xr1.at_ 9 _ rfl
  have rz10 : w1.cell? ⟨w.heap.size, 10, none⟩ = some (.slice ra10 rn10 rc10) := Xr1.at_ 10 _ rfl
  have rz11 : w1.cell? ⟨w.heap.size, 11, none⟩ = some (.slice ra11 rn11 rc11) := Xr1.at_ 11 _ rfl
  have rz12 : w1.cell? ⟨w.heap.size, 12, none⟩ = some (.slice ra12 rn12 rc12) := Xr1.at_ 12 _ rfl
  have rz13 : w1.cell? ⟨w.heap.size, 13, none⟩ = some (.slice ra13 rn13 rc13) := Xr1.at_ 13 _ rfl
  have rz14 : w1.cell? ⟨w.heap.size, 14, none⟩ = some (.slice ra14 rn14 rc14) := Xr1.at_ 14 _ rfl
  go_wp2_with fail
  refine (few_is _ ⟨ra6, rn6, rc6, ra7, rn7, rc7, ra8, rn8, rc8, ra9, rn9, rc9, ra10, rn10, rc10, ra11, rn11, rc11, ra12, rn12, rc12, ra13, rn13, rc13, ra14, rn14, rc14⟩ ⟨rfreq, ritv, rcnt, rtil, rwkst, rends, rmon, rweek, ryday, rmday, rday, rhour, rminu, rsec, rpos⟩ false HK.out.k6 HK.out.k7 HK.out.k8 HK.out.k9 HK.out.k10 HK.out.k11 HK.out.k12 HK.out.k13 HK.out.k14 X1.out).mono ?_
  rintro e w2 ⟨rfl, b2⟩
  clear rz0 rz1 rz2 rz3 rz4 rz5 rz6 rz7 rz8 rz9 rz10 rz11 rz12 rz13 rz14
  have B2 := B1.trans (b2.mono B1.size)
  have Xr2 := Xr1.below b2
  clear B1 Xr1
  clear b2
  go_wp2_with fail
  refine (first_is _ (TT.out.on B2)).mono ?_
  rintro e w3 ⟨rfl, b3⟩
  have B3 := B2.trans (b3.mono B2.size)
  have Xr3 := Xr2.below b3
  clear B2 Xr2
  clear b3
  go_wp2
  go_ret
  exact ⟨rfl, B3⟩
set_option maxRecDepth 100000 in
set_option maxHeartbeats 8000000 in
theorem less_no (w : World) (T : Tabs w) (S : RS) (r : Ru) (k : Int) (h : RuIn w S r) (hx1 : fewB S = true) (hm1 : mayR r = false) :
    Calls Tryz.prog 8 #[S.val r, .int .i64 k] w fun e w' => e = .returned (.bool true) ∧ Below w.heap.size w w' := by
  have TT := Lib.hid T
  have HK := Lib.hid h
  have X1 := Lib.hid hx1
  have RA0 := h.few hx1
  have M1 := Lib.hid hm1
  clear h T hx1 hm1
  obtain ⟨ra6, rn6, rc6, ra7, rn7, rc7, ra8, rn8, rc8, ra9, rn9, rc9, ra10, rn10, rc10, ra11, rn11, rc11, ra12, rn12, rc12, ra13, rn13, rc13, ra14, rn14, rc14⟩ := S
  obtain ⟨rfreq, ritv, rcnt, rtil, rwkst, rends, rmon, rweek, ryday, rmday, rday, rhour, rminu, rsec, rpos⟩ := r
  show Calls Tryz.prog 8 #[.agg #[.int .i64 rfreq, .int .i64 ritv, .int .i64 rcnt, .int .i64 rtil, .int .i64 rwkst, .bool rends, .slice ra6 rn6 rc6, .slice ra7 rn7 rc7, .slice ra8 rn8 rc8, .slice ra9 rn9 rc9, .slice ra10 rn10 rc10, .slice ra11 rn11 rc11, .slice ra12 rn12 rc12, .slice ra13 rn13 rc13, .slice ra14 rn14 rc14], .int .i64 k] w _
  go_enter Tryz.func8, Tryz.ntmps8
  go_upto_region 1 with fail
  have B0 := alloc_below w (.cells #[.int .i64 rfreq, .int .i64 ritv, .int .i64 rcnt, .int .i64 rtil, .int .i64 rwkst, .bool rends, .slice ra6 rn6 rc6, .slice ra7 rn7 rc7, .slice ra8 rn8 rc8, .slice ra9 rn9 rc9, .slice ra10 rn10 rc10, .slice ra11 rn11 rc11, .slice ra12 rn12 rc12, .slice ra13 rn13 rc13, .slice ra14 rn14 rc14] 25)
  have Xr0 := Box.new w #[.int .i64 rfreq, .int .i64 ritv, .int .i64 rcnt, .int .i64 rtil, .int .i64 rwkst, .bool rends, .slice ra6 rn6 rc6, .slice ra7 rn7 rc7, .slice ra8 rn8 rc8, .slice ra9 rn9 rc9, .slice ra10 rn10 rc10, .slice ra11 rn11 rc11, .slice ra12 rn12 rc12, .slice ra13 rn13 rc13, .slice ra14 rn14 rc14] 25
  generalize w.alloc (.cells #[.int .i64 rfreq, .int .i64 ritv, .int .i64 rcnt, .int .i64 rtil, .int .i64 rwkst, .bool rends, .slice ra6 rn6 rc6, .slice ra7 rn7 rc7, .slice ra8 rn8 rc8, .slice ra9 rn9 rc9, .slice ra10 rn10 rc10, .slice ra11 rn11 rc11, .slice ra12 rn12 rc12, .slice ra13 rn13 rc13, .slice ra14 rn14 rc14] 25) = w0 at *
  go_wp2_with fail
  refine (first_is _ (TT.out.on B0)).mono ?_
  rintro e w1 ⟨rfl, b1⟩
  have B1 := B0.trans (b1.mono B0.size)
  have Xr1 := Xr0.below b1
  clear B0 Xr0
  clear b1
  have Rr1 := RA0.below B1
  have rz0 : w1.cell? ⟨w.heap.size, 0, none⟩ = some (.int .i64 rfreq) := Xr1.at_ 0 _ rfl
  have rz1 : w1.cell? ⟨w.heap.size, 1, none⟩ = some (.int .i64 ritv) := Xr1.at_ 1 _ rfl
  have rz2 : w1.cell? ⟨w.heap.size, 2, none⟩ = some (.int .i64 rcnt) := Xr1.at_ 2 _ rfl
  have rz3 : w1.cell? ⟨w.heap.size, 3, none⟩ = some (.int .i64 rtil) := Xr1.at_ 3 _ rfl
  have rz4 : w1.cell? ⟨w.heap.size, 4, none⟩ = some (.int .i64 rwkst) := Xr1.at_ 4 _ rfl
  have rz5 : w1.cell? ⟨w.heap.size, 5, none⟩ = some (.bool rends) := Xr1.at_ 5 _ rfl
  have rz6 : w1.cell? ⟨w.heap.size, 6, none⟩ = some (.slice ra6 rn6 rc6) := Xr1.at_ 6 _ rfl
  have rz7 : w1.cell? ⟨w.heap.size, 7, none⟩ = some (.slice ra7 rn7 rc7) := Xr1.at_ 7 _ rfl
  have rz8 : w1.cell? ⟨w.heap.size, 8, none⟩ = some (.slice ra8 rn8 rc8) := Xr1.at_ 8 _ rfl
  have rz9 : w1.cell? ⟨w.heap.size, 9, none⟩ = some (.slice ra9 rn9 rc9) := Xr1.at_ 9 _ rfl
  have rz10 : w1.cell? ⟨w.heap.size, 10, none⟩ = some (.slice ra10 rn10 rc10) := Xr1.at_ 10 _ rfl
  have rz11 : w1.cell? ⟨w.heap.size, 11, none⟩ = some (.slice ra11 rn11 rc11) := Xr1.at_ 11 _ rfl
  have rz12 : w1.cell? ⟨w.heap.size, 12, none⟩ = some (.slice ra12 rn12 rc12) := Xr1.at_ 12 _ rfl
  have rz13 : w1.cell? ⟨w.heap.size, 13, none⟩ = some (.slice ra13 rn13 rc13) := Xr1.at_ 13 _ rfl
  have rz14 : w1.cell? ⟨w.heap.size, 14, none⟩ = some (.slice ra14 rn14 rc14) := Xr1.at_ 14 _ rfl
  go_wp2_with fail
  refine (few_is _ ⟨ra6, rn6, rc6, ra7, rn7, rc7, ra8, rn8, rc8, ra9, rn9, rc9, ra10, rn10, rc10, ra11, rn11, rc11, ra12, rn12, rc12, ra13, rn13, rc13, ra14, rn14, rc14⟩ ⟨rfreq, ritv, rcnt, rtil, rwkst, rends, rmon, rweek, ryday, rmday, rday, rhour, rminu, rsec, rpos⟩ true HK.out.k6 HK.out.k7 HK.out.k8 HK.out.k9 HK.out.k10 HK.out.k11 HK.out.k12 HK.out.k13 HK.out.k14 X1.out).mono ?_
  rintro e w2 ⟨rfl, b2⟩
  clear rz0 rz1 rz2 rz3 rz4 rz5 rz6 rz7 rz8 rz9 rz10 rz11 rz12 rz13 rz14
  have B2 := B1.trans (b2.mono B1.size)
  have Xr2 := Xr1.below b2
  have Rr2 := Rr1.below b2
  clear B1 Xr1 Rr1
  clear b2
  have rz0 : w2.cell? ⟨w.heap.size, 0, none⟩ = some (.int .i64 rfreq) := Xr2.at_ 0 _ rfl
  have rz1 : w2.cell? ⟨w.heap.size, 1, none⟩ = some (.int .i64 ritv) := Xr2.at_ 1 _ rfl
  have rz2 : w2.cell? ⟨w.heap.size, 2, none⟩ = some (.int .i64 rcnt) := Xr2.at_ 2 _ rfl
  have rz3 : w2.cell? ⟨w.heap.size, 3, none⟩ = some (.int .i64 rtil) := Xr2.at_ 3 _ rfl
  have rz4 : w2.cell? ⟨w.heap.size, 4, none⟩ = some (.int .i64 rwkst) := Xr2.at_ 4 _ rfl
  have rz5 : w2.cell? ⟨w.heap.size, 5, none⟩ = some (.bool rends) := Xr2.at_ 5 _ rfl
  have rz6 : w2.cell? ⟨w.heap.size, 6, none⟩ = some (.slice ra6 rn6 rc6) := Xr2.at_ 6 _ rfl
  have rz7 : w2.cell? ⟨w.heap.size, 7, none⟩ = some (.slice ra7 rn7 rc7) := Xr2.at_ 7 _ rfl
  have rz8 : w2.cell? ⟨w.heap.size, 8, none⟩ = some (.slice ra8 rn8 rc8) := Xr2.at_ 8 _ rfl
  have rz9 : w2.cell? ⟨w.heap.size, 9, none⟩ = some (.slice ra9 rn9 rc9) := Xr2.at_ 9 _ rfl
  have rz10 : w2.cell? ⟨w.heap.size, 10, none⟩ = some (.slice ra10 rn10 rc10) := Xr2.at_ 10 _ rfl
  have rz11 : w2.cell? ⟨w.heap.size, 11, none⟩ = some (.slice ra11 rn11 rc11) := Xr2.at_ 11 _ rfl
  have rz12 : w2.cell? ⟨w.heap.size, 12, none⟩ = some (.slice ra12 rn12 rc12) := Xr2.at_ 12 _ rfl
  have rz13 : w2.cell? ⟨w.heap.size, 13, none⟩ = some (.slice ra13 rn13 rc13) := Xr2.at_ 13 _ rfl
  have rz14 : w2.cell? ⟨w.heap.size, 14, none⟩ = some (.slice ra14 rn14 rc14) := Xr2.at_ 14 _ rfl
  go_wp2_with fail
  refine (may_r _ ⟨ra6, rn6, rc6, ra7, rn7, rc7, ra8, rn8, rc8, ra9, rn9, rc9, ra10, rn10, rc10, ra11, rn11, rc11, ra12, rn12, rc12, ra13, rn13, rc13, ra14, rn14, rc14⟩ ⟨rfreq, ritv, rcnt, rtil, rwkst, rends, rmon, rweek, ryday, rmday, rday, rhour, rminu, rsec, rpos⟩ false Rr2 M1.out).mono ?_
  rintro e w3 ⟨rfl, b3⟩
  clear rz0 rz1 rz2 rz3 rz4 rz5 rz6 rz7 rz8 rz9 rz10 rz11 rz12 rz13 rz14
  have B3 := B2.trans (b3.mono B2.size)
  have Xr3 := Xr2.below b3
  have Rr3 := Rr2.below b3
  clear B2 Xr2 Rr2
  clear b3
  go_wp2_with fail
  refine (first_is _ (TT.out.on B3)).mono ?_
  rintro e w4 ⟨rfl, b4⟩
  have B4 := B3.trans (b4.mono B3.size)
  have Xr4 := Xr3.below b4
  have Rr4 := Rr3.below b4
  clear B3 Xr3 Rr3
  clear b4
  go_wp2
  go_ret
  exact ⟨rfl, B4⟩
set_option maxRecDepth 100000 in
set_option maxHeartbeats 8000000 in
theorem less_lo (w : World) (T : Tabs w) (S : RS) (r : Ru) (k : Int) (h : RuIn w S r) (hx1 : fewB S = true) (hm1 : mayR r = true) (hk : k < 1) :
    Calls Tryz.prog 8 #[S.val r, .int .i64 k] w fun e w' => e = .returned (.bool true) ∧ Below w.heap.size w w' := by
  have TT := Lib.hid T
  have HK := Lib.hid h
  have X1 := Lib.hid hx1
  have RA0 := h.few hx1
  have M1 := Lib.hid hm1
  have t1 : decide (k < 1) = true := decide_eq_true hk
  clear h T hx1 hm1
  obtain ⟨ra6, rn6, rc6, ra7, rn7, rc7, ra8, rn8, rc8, ra9, rn9, rc9, ra10, rn10, rc10, ra11, rn11, rc11, ra12, rn12, rc12, ra13, rn13, rc13, ra14, rn14, rc14⟩ := S
  obtain ⟨rfreq, ritv, rcnt, rtil, rwkst, rends, rmon, rweek, ryday, rmday, rday, rhour, rminu, rsec, rpos⟩ := r
  show Calls Tryz.prog 8 #[.agg #[.int .i64 rfreq, .int .i64 ritv, .int .i64 rcnt, .int .i64 rtil, .int .i64 rwkst, .bool rends, .slice ra6 rn6 rc6, .slice ra7 rn7 rc7, .slice ra8 rn8 rc8, .slice ra9 rn9 rc9, .slice ra10 rn10 rc10, .slice ra11 rn11 rc11, .slice ra12 rn12 rc12, .slice ra13 rn13 rc13, .slice ra14 rn14 rc14], .int .i64 k] w _
  go_enter Tryz.func8, Tryz.ntmps8
  go_upto_region 1 with fail
  have B0 := alloc_below w (.cells #[.int .i64 rfreq, .int .i64 ritv, .int .i64 rcnt, .int .i64 rtil, .int .i64 rwkst, .bool rends, .slice ra6 rn6 rc6, .slice ra7 rn7 rc7, .slice ra8 rn8 rc8, .slice ra9 rn9 rc9, .slice ra10 rn10 rc10, .slice ra11 rn11 rc11, .slice ra12 rn12 rc12, .slice ra13 rn13 rc13, .slice ra14 rn14 rc14] 25)
  have Xr0 := Box.new w #[.int .i64 rfreq, .int .i64 ritv, .int .i64 rcnt, .int .i64 rtil, .int .i64 rwkst, .bool rends, .slice ra6 rn6 rc6, .slice ra7 rn7 rc7, .slice ra8 rn8 rc8, .slice ra9 rn9 rc9, .slice ra10 rn10 rc10, .slice ra11 rn11 rc11, .slice ra12 rn12 rc12, .slice ra13 rn13 rc13, .slice ra14 rn14 rc14] 25
  generalize w.alloc (.cells #[.int .i64 rfreq, .int .i64 ritv, .int .i64 rcnt, .int .i64 rtil, .int .i64 rwkst, .bool rends, .slice ra6 rn6 rc6, .slice ra7 rn7 rc7, .slice ra8 rn8 rc8, .slice ra9 rn9 rc9, .slice ra10 rn10 rc10, .slice ra11 rn11 rc11, .slice ra12 rn12 rc12, .slice ra13 rn13 rc13, .slice ra14 rn14 rc14] 25) = w0 at *
  go_wp2_with fail
  refine (first_is _ (TT.out.on B0)).mono ?_
  rintro e w1 ⟨rfl, b1⟩
  have B1 := B0.trans (b1.mono B0.size)
  have Xr1 := Xr0.below b1
  clear B0 Xr0
  clear b1
  have Rr1 := RA0.below B1
  have rz0 : w1.cell? ⟨w.heap.size, 0, none⟩ = some (.int .i64 rfreq) := Xr1.at_ 0 _ rfl
  have rz1 : w1.cell? ⟨w.heap.size, 1, none⟩ = some (.int .i64 ritv) := Xr1.at_ 1 _ rfl
  have rz2 : w1.cell? ⟨w.heap.size, 2, none⟩ = some (.int .i64 rcnt) := Xr1.at_ 2 _ rfl
  have rz3 : w1.cell? ⟨w.heap.size, 3, none⟩ = some (.int .i64 rtil) := Xr1.at_ 3 _ rfl
  have rz4 : w1.cell? ⟨w.heap.size, 4, none⟩ = some (.int .i64 rwkst) := Xr1.at_ 4 _ rfl
  have rz5 : w1.cell? ⟨w.heap.size, 5, none⟩ = some (.bool rends) := Xr1.at_ 5 _ rfl
  have rz6 : w1.cell? ⟨w.heap.size, 6, none⟩ = some (.slice ra6 rn6 rc6) := Xr1.at_ 6 _ rfl
  have rz7 : w1.cell? ⟨w.heap.size, 7, none⟩ = some (.slice ra7 rn7 rc7) := Xr1.at_ 7 _ rfl
  have rz8 : w1.cell? ⟨w.heap.size, 8, none⟩ = some (.slice ra8 rn8 rc8) := Xr1.at_ 8 _ rfl
  have rz9 : w1.cell? ⟨w.heap.size, 9, none⟩ = some (.slice ra9 rn9 rc9) := Xr1.at_ 9 _ rfl
  have rz10 : w1.cell? ⟨w.heap.size, 10, none⟩ = some (.slice ra10 rn10 rc10) := Xr1.at_ 10 _ rfl
  have rz11 : w1.cell? ⟨w.heap.size, 11, none⟩ = some (.slice ra11 rn11 rc11) := Xr1.at_ 11 _ rfl
  have rz12 : w1.cell? ⟨w.heap.size, 12, none⟩ = some (.slice ra12 rn12 rc12) := Xr1.at_ 12 _ rfl
  have rz13 : w1.cell? ⟨w.heap.size, 13, none⟩ = some (.slice ra13 rn13 rc13) := Xr1.at_ 13 _ rfl
  have rz14 : w1.cell? ⟨w.heap.size, 14, none⟩ = some (.slice ra14 rn14 rc14) := Xr1.at_ 14 _ rfl
  go_wp2_with fail
  refine (few_is _ ⟨ra6, rn6, rc6, ra7, rn7, rc7, ra8, rn8, rc8, ra9, rn9, rc9, ra10, rn10, rc10, ra11, rn11, rc11, ra12, rn12, rc12, ra13, rn13, rc13, ra14, rn14, rc14⟩ ⟨rfreq, ritv, rcnt, rtil, rwkst, rends, rmon, rweek, ryday, rmday, rday, rhour, rminu, rsec, rpos⟩ true HK.out.k6 HK.out.k7 HK.out.k8 HK.out.k9 HK.out.k10 HK.out.k11 HK.out.k12 HK.out.k13 HK.out.k14 X1.out).mono ?_
  rintro e w2 ⟨rfl, b2⟩
  clear rz0 rz1 rz2 rz3 rz4 rz5 rz6 rz7 rz8 rz9 rz10 rz11 rz12 rz13 rz14
  have B2 := B1.trans (b2.mono B1.size)
  have Xr2 := Xr1.below b2
  have Rr2 := Rr1.below b2
  clear B1 Xr1 Rr1
  clear b2
  have rz0 : w2.cell? ⟨w.heap.size, 0, none⟩ = some (.int .i64 rfreq) := Xr2.at_ 0 _ rfl
  have rz1 : w2.cell? ⟨w.heap.size, 1, none⟩ = some (.int .i64 ritv) := Xr2.at_ 1 _ rfl
  have rz2 : w2.cell? ⟨w.heap.size, 2, none⟩ = some (.int .i64 rcnt) := Xr2.at_ 2 _ rfl
  have rz3 : w2.cell? ⟨w.heap.size, 3, none⟩ = some (.int .i64 rtil) := Xr2.at_ 3 _ rfl
  have rz4 : w2.cell? ⟨w.heap.size, 4, none⟩ = some (.int .i64 rwkst) := Xr2.at_ 4 _ rfl
  have rz5 : w2.cell? ⟨w.heap.size, 5, none⟩ = some (.bool rends) := Xr2.at_ 5 _ rfl
  have rz6 : w2.cell? ⟨w.heap.size, 6, none⟩ = some (.slice ra6 rn6 rc6) := Xr2.at_ 6 _ rfl
  have rz7 : w2.cell? ⟨w.heap.size, 7, none⟩ = some (.slice ra7 rn7 rc7) := Xr2.at_ 7 _ rfl
  have rz8 : w2.cell? ⟨w.heap.size, 8, none⟩ = some (.slice ra8 rn8 rc8) := Xr2.at_ 8 _ rfl
  have rz9 : w2.cell? ⟨w.heap.size, 9, none⟩ = some (.slice ra9 rn9 rc9) := Xr2.at_ 9 _ rfl
  have rz10 : w2.cell? ⟨w.heap.size, 10, none⟩ = some (.slice ra10 rn10 rc10) := Xr2.at_ 10 _ rfl
  have rz11 : w2.cell? ⟨w.heap.size, 11, none⟩ = some (.slice ra11 rn11 rc11) := Xr2.at_ 11 _ rfl
  have rz12 : w2.cell? ⟨w.heap.size, 12, none⟩ = some (.slice ra12 rn12 rc12) := Xr2.at_ 12 _ rfl
  have rz13 : w2.cell? ⟨w.heap.size, 13, none⟩ = some (.slice ra13 rn13 rc13) := Xr2.at_ 13 _ rfl
  have rz14 : w2.cell? ⟨w.heap.size, 14, none⟩ = some (.slice ra14 rn14 rc14) := Xr2.at_ 14 _ rfl
  go_wp2_with fail
  refine (may_r _ ⟨ra6, rn6, rc6, ra7, rn7, rc7, ra8, rn8, rc8, ra9, rn9, rc9, ra10, rn10, rc10, ra11, rn11, rc11, ra12, rn12, rc12, ra13, rn13, rc13, ra14, rn14, rc14⟩ ⟨rfreq, ritv, rcnt, rtil, rwkst, rends, rmon, rweek, ryday, rmday, rday, rhour, rminu, rsec, rpos⟩ true Rr2 M1.out).mono ?_
  rintro e w3 ⟨rfl, b3⟩
  clear rz0 rz1 rz2 rz3 rz4 rz5 rz6 rz7 rz8 rz9 rz10 rz11 rz12 rz13 rz14
  have B3 := B2.trans (b3.mono B2.size)
  have Xr3 := Xr2.below b3
  have Rr3 := Rr2.below b3
  clear B2 Xr2 Rr2
  clear b3
  go_wp2_with fail
  refine (first_is _ (TT.out.on B3)).mono ?_
  rintro e w4 ⟨rfl, b4⟩
  have B4 := B3.trans (b4.mono B3.size)
  have Xr4 := Xr3.below b4
  have Rr4 := Rr3.below b4
  clear B3 Xr3 Rr3
  clear b4
  go_wp2
  go_ret
  exact ⟨rfl, B4⟩
set_option maxRecDepth 100000 in
set_option maxHeartbeats 8000000 in
theorem less_hi (w : World) (T : Tabs w) (S : RS) (r : Ru) (k : Int) (h : RuIn w S r) (hx1 : fewB S = true) (hm1 : mayR r = true) (hk : 1000 < k) :
    Calls Tryz.prog 8 #[S.val r, .int .i64 k] w fun e w' => e = .returned (.bool true) ∧ Below w.heap.size w w' := by
  have TT := Lib.hid T
  have HK := Lib.hid h
  have X1 := Lib.hid hx1
  have RA0 := h.few hx1
  have M1 := Lib.hid hm1
  have t1 : decide (k < 1) = false := decide_eq_false (by omega)
  have t2 : decide (1000 < k) = true := decide_eq_true hk
  clear h T hx1 hm1
  obtain ⟨ra6, rn6, rc6, ra7, rn7, rc7, ra8, rn8, rc8, ra9, rn9, rc9, ra10, rn10, rc10, ra11, rn11, rc11, ra12, rn12, rc12, ra13, rn13, rc13, ra14, rn14, rc14⟩ := S
  obtain ⟨rfreq, ritv, rcnt, rtil, rwkst, rends, rmon, rweek, ryday, rmday, rday, rhour, rminu, rsec, rpos⟩ := r
  show Calls Tryz.prog 8 #[.agg #[.int .i64 rfreq, .int .i64 ritv, .int .i64 rcnt, .int .i64 rtil, .int .i64 rwkst, .bool rends, .slice ra6 rn6 rc6, .slice ra7 rn7 rc7, .slice ra8 rn8 rc8, .slice ra9 rn9 rc9, .slice ra10 rn10 rc10, .slice ra11 rn11 rc11, .slice ra12 rn12 rc12, .slice ra13 rn13 rc13, .slice ra14 rn14 rc14], .int .i64 k] w _
  go_enter Tryz.func8, Tryz.ntmps8
  go_upto_region 1 with fail
  have B0 := alloc_below w (.cells #[.int .i64 rfreq, .int .i64 ritv, .int .i64 rcnt, .int .i64 rtil, .int .i64 rwkst, .bool rends, .slice ra6 rn6 rc6, .slice ra7 rn7 rc7, .slice ra8 rn8 rc8, .slice ra9 rn9 rc9, .slice ra10 rn10 rc10, .slice ra11 rn11 rc11, .slice ra12 rn12 rc12, .slice ra13 rn13 rc13, .slice ra14 rn14 rc14] 25)
  have Xr0 := Box.new w #[.int .i64 rfreq, .int .i64 ritv, .int .i64 rcnt, .int .i64 rtil, .int .i64 rwkst, .bool rends, .slice ra6 rn6 rc6, .slice ra7 rn7 rc7, .slice ra8 rn8 rc8, .slice ra9 rn9 rc9, .slice ra10 rn10 rc10, .slice ra11 rn11 rc11, .slice ra12 rn12 rc12, .slice ra13 rn13 rc13, .slice ra14 rn14 rc14] 25
  generalize w.alloc (.cells #[.int .i64 rfreq, .int .i64 ritv, .int .i64 rcnt, .int .i64 rtil, .int .i64 rwkst, .bool rends, .slice ra6 rn6 rc6, .slice ra7 rn7 rc7, .slice ra8 rn8 rc8, .slice ra9 rn9 rc9, .slice ra10 rn10 rc10, .slice ra11 rn11 rc11, .slice ra12 rn12 rc12, .slice ra13 rn13 rc13, .slice ra14 rn14 rc14] 25) = w0 at *
  go_wp2_with fail
  refine (first_is _ (TT.out.on B0)).mono ?_
  rintro e w1 ⟨rfl, b1⟩
  have B1 := B0.trans (b1.mono B0.size)
  have Xr1 := Xr0.below b1
  clear B0 Xr0
  clear b1
  have Rr1 := RA0.below B1
  have rz0 : w1.cell? ⟨w.heap.size, 0, none⟩ = some (.int .i64 rfreq) := Xr1.at_ 0 _ rfl
  have rz1 : w1.cell? ⟨w.heap.size, 1, none⟩ = some (.int .i64 ritv) := Xr1.at_ 1 _ rfl
  have rz2 : w1.cell? ⟨w.heap.size, 2, none⟩ = some (.int .i64 rcnt) := Xr1.at_ 2 _ rfl
  have rz3 : w1.cell? ⟨w.heap.size, 3, none⟩ = some (.int .i64 rtil) := Xr1.at_ 3 _ rfl
  have rz4 : w1.cell? ⟨w.heap.size, 4, none⟩ = some (.int .i64 rwkst) := Xr1.at_ 4 _ rfl
  have rz5 : w1.cell? ⟨w.heap.size, 5, none⟩ = some (.bool rends) := Xr1.at_ 5 _ rfl
  have rz6 : w1.cell? ⟨w.heap.size, 6, none⟩ = some (.slice ra6 rn6 rc6) := Xr1.at_ 6 _ rfl
  have rz7 : w1.cell? ⟨w.heap.size, 7, none⟩ = some (.slice ra7 rn7 rc7) := Xr1.at_ 7 _ rfl
  have rz8 : w1.cell? ⟨w.heap.size, 8, none⟩ = some (.slice ra8 rn8 rc8) := Xr1.at_ 8 _ rfl
  have rz9 : w1.cell? ⟨w.heap.size, 9, none⟩ = some (.slice ra9 rn9 rc9) := Xr1.at_ 9 _ rfl
  have rz10 : w1.cell? ⟨w.heap.size, 10, none⟩ = some (.slice ra10 rn10 rc10) := Xr1.at_ 10 _ rfl
  have rz11 : w1.cell? ⟨w.heap.size, 11, none⟩ = some (.slice ra11 rn11 rc11) := Xr1.at_ 11 _ rfl
  have rz12 : w1.cell? ⟨w.heap.size, 12, none⟩ = some (.slice ra12 rn12 rc12) := Xr1.at_ 12 _ rfl
  have rz13 : w1.cell? ⟨w.heap.size, 13, none⟩ = some (.slice ra13 rn13 rc13) := Xr1.at_ 13 _ rfl
  have rz14 : w1.cell? ⟨w.heap.size, 14, none⟩ = some (.slice ra14 rn14 rc14) := Xr1.at_ 14 _ rfl
  go_wp2_with fail
  refine (few_is _ ⟨ra6, rn6, rc6, ra7, rn7, rc7, ra8, rn8, rc8, ra9, rn9, rc9, ra10, rn10, rc10, ra11, rn11, rc11, ra12, rn12, rc12, ra13, rn13, rc13, ra14, rn14, rc14⟩ ⟨rfreq, ritv, rcnt, rtil, rwkst, rends, rmon, rweek, ryday, rmday, rday, rhour, rminu, rsec, rpos⟩ true HK.out.k6 HK.out.k7 HK.out.k8 HK.out.k9 HK.out.k10 HK.out.k11 HK.out.k12 HK.out.k13 HK.out.k14 X1.out).mono ?_
  rintro e w2 ⟨rfl, b2⟩
  clear rz0 rz1 rz2 rz3 rz4 rz5 rz6 rz7 rz8 rz9 rz10 rz11 rz12 rz13 rz14
  have B2 := B1.trans (b2.mono B1.size)
  have Xr2 := Xr1.below b2
  have Rr2 := Rr1.below b2
  clear B1 Xr1 Rr1
  clear b2
  have rz0 : w2.cell? ⟨w.heap.size, 0, none⟩ = some (.int .i64 rfreq) := Xr2.at_ 0 _ rfl
  have rz1 : w2.cell? ⟨w.heap.size, 1, none⟩ = some (.int .i64 ritv) := Xr2.at_ 1 _ rfl
  have rz2 : w2.cell? ⟨w.heap.size, 2, none⟩ = some (.int .i64 rcnt) := Xr2.at_ 2 _ rfl
  have rz3 : w2.cell? ⟨w.heap.size, 3, none⟩ = some (.int .i64 rtil) := Xr2.at_ 3 _ rfl
  have rz4 : w2.cell? ⟨w.heap.size, 4, none⟩ = some (.int .i64 rwkst) := Xr2.at_ 4 _ rfl
  have rz5 : w2.cell? ⟨w.heap.size, 5, none⟩ = some (.bool rends) := Xr2.at_ 5 _ rfl
  have rz6 : w2.cell? ⟨w.heap.size, 6, none⟩ = some (.slice ra6 rn6 rc6) := Xr2.at_ 6 _ rfl
  have rz7 : w2.cell? ⟨w.heap.size, 7, none⟩ = some (.slice ra7 rn7 rc7) := Xr2.at_ 7 _ rfl
  have rz8 : w2.cell? ⟨w.heap.size, 8, none⟩ = some (.slice ra8 rn8 rc8) := Xr2.at_ 8 _ rfl
  have rz9 : w2.cell? ⟨w.heap.size, 9, none⟩ = some (.slice ra9 rn9 rc9) := Xr2.at_ 9 _ rfl
  have rz10 : w2.cell? ⟨w.heap.size, 10, none⟩ = some (.slice ra10 rn10 rc10) := Xr2.at_ 10 _ rfl
  have rz11 : w2.cell? ⟨w.heap.size, 11, none⟩ = some (.slice ra11 rn11 rc11) := Xr2.at_ 11 _ rfl
  have rz12 : w2.cell? ⟨w.heap.size, 12, none⟩ = some (.slice ra12 rn12 rc12) := Xr2.at_ 12 _ rfl
  have rz13 : w2.cell? ⟨w.heap.size, 13, none⟩ = some (.slice ra13 rn13 rc13) := Xr2.at_ 13 _ rfl
  have rz14 : w2.cell? ⟨w.heap.size, 14, none⟩ = some (.slice ra14 rn14 rc14) := Xr2.at_ 14 _ rfl
  go_wp2_with fail
  refine (may_r _ ⟨ra6, rn6, rc6, ra7, rn7, rc7, ra8, rn8, rc8, ra9, rn9, rc9, ra10, rn10, rc10, ra11, rn11, rc11, ra12, rn12, rc12, ra13, rn13, rc13, ra14, rn14, rc14⟩ ⟨rfreq, ritv, rcnt, rtil, rwkst, rends, rmon, rweek, ryday, rmday, rday, rhour, rminu, rsec, rpos⟩ true Rr2 M1.out).mono ?_
  rintro e w3 ⟨rfl, b3⟩
  clear rz0 rz1 rz2 rz3 rz4 rz5 rz6 rz7 rz8 rz9 rz10 rz11 rz12 rz13 rz14
  have B3 := B2.trans (b3.mono B2.size)
  have Xr3 := Xr2.below b3
  have Rr3 := Rr2.below b3
  clear B2 Xr2 Rr2
  clear b3
  go_wp2_with fail
  refine (first_is _ (TT.out.on B3)).mono ?_
  rintro e w4 ⟨rfl, b4⟩
  have B4 := B3.trans (b4.mono B3.size)
  have Xr4 := Xr3.below b4
  have Rr4 := Rr3.below b4
  clear B3 Xr3 Rr3
  clear b4
  go_wp2
  go_ret
  exact ⟨rfl, B4⟩
set_option maxRecDepth 100000 in
set_option maxHeartbeats 8000000 in
theorem less_main (w : World) (T : Tabs w) (S : RS) (r : Ru) (k : Int) (h : RuIn w S r) (hx1 : fewB S = true) (hm1 : mayR r = true) (hk1 : 1 ≤ k) (hk2 : k ≤ 1000) :
    Calls Tryz.prog 8 #[S.val r, .int .i64 k] w fun e w' => e = .returned (.bool true) ∧ Below w.heap.size w w' := by
  have TT := Lib.hid T
  have HK := Lib.hid h
  have X1 := Lib.hid hx1
  have RA0 := h.few hx1
  have M1 := Lib.hid hm1
  have t1 : decide (k < 1) = false := decide_eq_false (by omega)
  have t2 : decide (1000 < k) = false := decide_eq_false (by omega)
  have LM := less_may hm1 hk1 hk2
  obtain ⟨s, hs⟩ : ∃ s, str (ruText (lessR r k)) = s := ⟨_, rfl⟩
  have PS := print_parse LM
  have ssz : s.size ≤ 4096 := by rw [← hs, str_size]; exact ruText_len LM
  have PQ0 : ruParse s.data.toList = (lessR r k, 0, 0) := by rw [← hs, list_str]; exact PS
  clear PS
  clear h T hx1 hm1
  obtain ⟨ra6, rn6, rc6, ra7, rn7, rc7, ra8, rn8, rc8, ra9, rn9, rc9, ra10, rn10, rc10, ra11, rn11, rc11, ra12, rn12, rc12, ra13, rn13, rc13, ra14, rn14, rc14⟩ := S
  obtain ⟨rfreq, ritv, rcnt, rtil, rwkst, rends, rmon, rweek, ryday, rmday, rday, rhour, rminu, rsec, rpos⟩ := r
  have LMH := Lib.hid (show mayR ⟨rfreq, k, 0, 0, rwkst, false, rmon, rweek, ryday, rmday, rday, rhour, rminu, rsec, []⟩ = true from LM)
  have HS := Lib.hid (show str (ruText ⟨rfreq, k, 0, 0, rwkst, false, rmon, rweek, ryday, rmday, rday, rhour, rminu, rsec, []⟩) = s from hs)
  have PQ := Lib.hid (show ruParse s.data.toList = (⟨rfreq, k, 0, 0, rwkst, false, rmon, rweek, ryday, rmday, rday, rhour, rminu, rsec, []⟩, 0, 0) from PQ0)
  clear LM hs PQ0
  have ssi : (s.size : Int) ≤ 4096 := by omega
  show Calls Tryz.prog 8 #[.agg #[.int .i64 rfreq, .int .i64 ritv, .int .i64 rcnt, .int .i64 rtil, .int .i64 rwkst, .bool rends, .slice ra6 rn6 rc6, .slice ra7 rn7 rc7, .slice ra8 rn8 rc8, .slice ra9 rn9 rc9, .slice ra10 rn10 rc10, .slice ra11 rn11 rc11, .slice ra12 rn12 rc12, .slice ra13 rn13 rc13, .slice ra14 rn14 rc14], .int .i64 k] w _
  go_enter Tryz.func8, Tryz.ntmps8
  go_upto_region 1 with fail
  have B0 := alloc_below w (.cells #[.int .i64 rfreq, .int .i64 ritv, .int .i64 rcnt, .int .i64 rtil, .int .i64 rwkst, .bool rends, .slice ra6 rn6 rc6, .slice ra7 rn7 rc7, .slice ra8 rn8 rc8, .slice ra9 rn9 rc9, .slice ra10 rn10 rc10, .slice ra11 rn11 rc11, .slice ra12 rn12 rc12, .slice ra13 rn13 rc13, .slice ra14 rn14 rc14] 25)
  have Xr0 := Box.new w #[.int .i64 rfreq, .int .i64 ritv, .int .i64 rcnt, .int .i64 rtil, .int .i64 rwkst, .bool rends, .slice ra6 rn6 rc6, .slice ra7 rn7 rc7, .slice ra8 rn8 rc8, .slice ra9 rn9 rc9, .slice ra10 rn10 rc10, .slice ra11 rn11 rc11, .slice ra12 rn12 rc12, .slice ra13 rn13 rc13, .slice ra14 rn14 rc14] 25
  generalize w.alloc (.cells #[.int .i64 rfreq, .int .i64 ritv, .int .i64 rcnt, .int .i64 rtil, .int .i64 rwkst, .bool rends, .slice ra6 rn6 rc6, .slice ra7 rn7 rc7, .slice ra8 rn8 rc8, .slice ra9 rn9 rc9, .slice ra10 rn10 rc10, .slice ra11 rn11 rc11, .slice ra12 rn12 rc12, .slice ra13 rn13 rc13, .slice ra14 rn14 rc14] 25) = w0 at *
  go_wp2_with fail
  refine (first_is _ (TT.out.on B0)).mono ?_
  rintro e w1 ⟨rfl, b1⟩
  have B1 := B0.trans (b1.mono B0.size)
  have Xr1 := Xr0.below b1
  clear B0 Xr0
  clear b1
  have Rr1 := RA0.below B1
  have rz0 : w1.cell? ⟨w.heap.size, 0, none⟩ = some (.int .i64 rfreq) := Xr1.at_ 0 _ rfl
  have rz1 : w1.cell? ⟨w.heap.size, 1, none⟩ = some (.int .i64 ritv) := Xr1.at_ 1 _ rfl
  have rz2 : w1.cell? ⟨w.heap.size, 2, none⟩ = some (.int .i64 rcnt) := Xr1.at_ 2 _ rfl
  have rz3 : w1.cell? ⟨w.heap.size, 3, none⟩ = some (.int .i64 rtil) := Xr1.at_ 3 _ rfl
  have rz4 : w1.cell? ⟨w.heap.size, 4, none⟩ = some (.int .i64 rwkst) := Xr1.at_ 4 _ rfl
  have rz5 : w1.cell? ⟨w.heap.size, 5, none⟩ = some (.bool rends) := Xr1.at_ 5 _ rfl
  have rz6 : w1.cell? ⟨w.heap.size, 6, none⟩ = some (.slice ra6 rn6 rc6) := Xr1.at_ 6 _ rfl
  have rz7 : w1.cell? ⟨w.heap.size, 7, none⟩ = some (.slice ra7 rn7 rc7) := Xr1.at_ 7 _ rfl
  have rz8 : w1.cell? ⟨w.heap.size, 8, none⟩ = some (.slice ra8 rn8 rc8) := Xr1.at_ 8 _ rfl
  have rz9 : w1.cell? ⟨w.heap.size, 9, none⟩ = some (.slice ra9 rn9 rc9) := Xr1.at_ 9 _ rfl
  have rz10 : w1.cell? ⟨w.heap.size, 10, none⟩ = some (.slice ra10 rn10 rc10) := Xr1.at_ 10 _ rfl
  have rz11 : w1.cell? ⟨w.heap.size, 11, none⟩ = some (.slice ra11 rn11 rc11) := Xr1.at_ 11 _ rfl
  have rz12 : w1.cell? ⟨w.heap.size, 12, none⟩ = some (.slice ra12 rn12 rc12) := Xr1.at_ 12 _ rfl
  have rz13 : w1.cell? ⟨w.heap.size, 13, none⟩ = some (.slice ra13 rn13 rc13) := Xr1.at_ 13 _ rfl
  have rz14 : w1.cell? ⟨w.heap.size, 14, none⟩ = some (.slice ra14 rn14 rc14) := Xr1.at_ 14 _ rfl
  go_wp2_with fail
  refine (few_is _ ⟨ra6, rn6, rc6, ra7, rn7, rc7, ra8, rn8, rc8, ra9, rn9, rc9, ra10, rn10, rc10, ra11, rn11, rc11, ra12, rn12, rc12, ra13, rn13, rc13, ra14, rn14, rc14⟩ ⟨rfreq, ritv, rcnt, rtil, rwkst, rends, rmon, rweek, ryday, rmday, rday, rhour, rminu, rsec, rpos⟩ true HK.out.k6 HK.out.k7 HK.out.k8 HK.out.k9 HK.out.k10 HK.out.k11 HK.out.k12 HK.out.k13 HK.out.k14 X1.out).mono ?_
  rintro e w2 ⟨rfl, b2⟩
  clear rz0 rz1 rz2 rz3 rz4 rz5 rz6 rz7 rz8 rz9 rz10 rz11 rz12 rz13 rz14
  have B2 := B1.trans (b2.mono B1.size)
  have Xr2 := Xr1.below b2
  have Rr2 := Rr1.below b2
  clear B1 Xr1 Rr1
  clear b2
  have rz0 : w2.cell? ⟨w.heap.size, 0, none⟩ = some (.int .i64 rfreq) := Xr2.at_ 0 _ rfl
  have rz1 : w2.cell? ⟨w.heap.size, 1, none⟩ = some (.int .i64 ritv) := Xr2.at_ 1 _ rfl
  have rz2 : w2.cell? ⟨w.heap.size, 2, none⟩ = some (.int .i64 rcnt) := Xr2.at_ 2 _ rfl
  have rz3 : w2.cell? ⟨w.heap.size, 3, none⟩ = some (.int .i64 rtil) := Xr2.at_ 3 _ rfl
  have rz4 : w2.cell? ⟨w.heap.size, 4, none⟩ = some (.int .i64 rwkst) := Xr2.at_ 4 _ rfl
  have rz5 : w2.cell? ⟨w.heap.size, 5, none⟩ = some (.bool rends) := Xr2.at_ 5 _ rfl
  have rz6 : w2.cell? ⟨w.heap.size, 6, none⟩ = some (.slice ra6 rn6 rc6) := Xr2.at_ 6 _ rfl
  have rz7 : w2.cell? ⟨w.heap.size, 7, none⟩ = some (.slice ra7 rn7 rc7) := Xr2.at_ 7 _ rfl
  have rz8 : w2.cell? ⟨w.heap.size, 8, none⟩ = some (.slice ra8 rn8 rc8) := Xr2.at_ 8 _ rfl
  have rz9 : w2.cell? ⟨w.heap.size, 9, none⟩ = some (.slice ra9 rn9 rc9) := Xr2.at_ 9 _ rfl
  have rz10 : w2.cell? ⟨w.heap.size, 10, none⟩ = some (.slice ra10 rn10 rc10) := Xr2.at_ 10 _ rfl
  have rz11 : w2.cell? ⟨w.heap.size, 11, none⟩ = some (.slice ra11 rn11 rc11) := Xr2.at_ 11 _ rfl
  have rz12 : w2.cell? ⟨w.heap.size, 12, none⟩ = some (.slice ra12 rn12 rc12) := Xr2.at_ 12 _ rfl
  have rz13 : w2.cell? ⟨w.heap.size, 13, none⟩ = some (.slice ra13 rn13 rc13) := Xr2.at_ 13 _ rfl
  have rz14 : w2.cell? ⟨w.heap.size, 14, none⟩ = some (.slice ra14 rn14 rc14) := Xr2.at_ 14 _ rfl
  go_wp2_with fail
  refine (may_r _ ⟨ra6, rn6, rc6, ra7, rn7, rc7, ra8, rn8, rc8, ra9, rn9, rc9, ra10, rn10, rc10, ra11, rn11, rc11, ra12, rn12, rc12, ra13, rn13, rc13, ra14, rn14, rc14⟩ ⟨rfreq, ritv, rcnt, rtil, rwkst, rends, rmon, rweek, ryday, rmday, rday, rhour, rminu, rsec, rpos⟩ true Rr2 M1.out).mono ?_
  rintro e w3 ⟨rfl, b3⟩
  clear rz0 rz1 rz2 rz3 rz4 rz5 rz6 rz7 rz8 rz9 rz10 rz11 rz12 rz13 rz14
  have B3 := B2.trans (b3.mono B2.size)
  have Xr3 := Xr2.below b3
  have Rr3 := Rr2.below b3
  clear B2 Xr2 Rr2
  clear b3
  have rz0 : w3.cell? ⟨w.heap.size, 0, none⟩ = some (.int .i64 rfreq) := Xr3.at_ 0 _ rfl
  have rz1 : w3.cell? ⟨w.heap.size, 1, none⟩ = some (.int .i64 ritv) := Xr3.at_ 1 _ rfl
  have rz2 : w3.cell? ⟨w.heap.size, 2, none⟩ = some (.int .i64 rcnt) := Xr3.at_ 2 _ rfl
  have rz3 : w3.cell? ⟨w.heap.size, 3, none⟩ = some (.int .i64 rtil) := Xr3.at_ 3 _ rfl
  have rz4 : w3.cell? ⟨w.heap.size, 4, none⟩ = some (.int .i64 rwkst) := Xr3.at_ 4 _ rfl
  have rz5 : w3.cell? ⟨w.heap.size, 5, none⟩ = some (.bool rends) := Xr3.at_ 5 _ rfl
  have rz6 : w3.cell? ⟨w.heap.size, 6, none⟩ = some (.slice ra6 rn6 rc6) := Xr3.at_ 6 _ rfl
  have rz7 : w3.cell? ⟨w.heap.size, 7, none⟩ = some (.slice ra7 rn7 rc7) := Xr3.at_ 7 _ rfl
  have rz8 : w3.cell? ⟨w.heap.size, 8, none⟩ = some (.slice ra8 rn8 rc8) := Xr3.at_ 8 _ rfl
  have rz9 : w3.cell? ⟨w.heap.size, 9, none⟩ = some (.slice ra9 rn9 rc9) := Xr3.at_ 9 _ rfl
  have rz10 : w3.cell? ⟨w.heap.size, 10, none⟩ = some (.slice ra10 rn10 rc10) := Xr3.at_ 10 _ rfl
  have rz11 : w3.cell? ⟨w.heap.size, 11, none⟩ = some (.slice ra11 rn11 rc11) := Xr3.at_ 11 _ rfl
  have rz12 : w3.cell? ⟨w.heap.size, 12, none⟩ = some (.slice ra12 rn12 rc12) := Xr3.at_ 12 _ rfl
  have rz13 : w3.cell? ⟨w.heap.size, 13, none⟩ = some (.slice ra13 rn13 rc13) := Xr3.at_ 13 _ rfl
  have rz14 : w3.cell? ⟨w.heap.size, 14, none⟩ = some (.slice ra14 rn14 rc14) := Xr3.at_ 14 _ rfl
  go_wp2_with fail
  refine (copyR_is _ ⟨ra6, rn6, rc6, ra7, rn7, rc7, ra8, rn8, rc8, ra9, rn9, rc9, ra10, rn10, rc10, ra11, rn11, rc11, ra12, rn12, rc12, ra13, rn13, rc13, ra14, rn14, rc14⟩ ⟨rfreq, ritv, rcnt, rtil, rwkst, rends, rmon, rweek, ryday, rmday, rday, rhour, rminu, rsec, rpos⟩ (HK.out.below B3) X1.out).mono ?_
  rintro e w4 ⟨⟨qa6, qn6, qc6, qa7, qn7, qc7, qa8, qn8, qc8, qa9, qn9, qc9, qa10, qn10, qc10, qa11, qn11, qc11, qa12, qn12, qc12, qa13, qn13, qc13, qa14, qn14, qc14⟩, he, hS, b4⟩
  replace he : e = .returned (.agg #[.int .i64 rfreq, .int .i64 ritv, .int .i64 rcnt, .int .i64 rtil, .int .i64 rwkst, .bool rends, .slice qa6 qn6 qc6, .slice qa7 qn7 qc7, .slice qa8 qn8 qc8, .slice qa9 qn9 qc9, .slice qa10 qn10 qc10, .slice qa11 qn11 qc11, .slice qa12 qn12 qc12, .slice qa13 qn13 qc13, .slice qa14 qn14 qc14]) := he
  subst he
  clear rz0 rz1 rz2 rz3 rz4 rz5 rz6 rz7 rz8 rz9 rz10 rz11 rz12 rz13 rz14
  have B4 := B3.trans (b4.mono B3.size)
  have Xr4 := Xr3.below b4
  have Rr4 := Rr3.below b4
  clear B3 Xr3 Rr3
  clear b4
  clear Xr4 Rr4
  have hQ : RuAt w4 ⟨qa6, qn6, qc6, qa7, qn7, qc7, qa8, qn8, qc8, qa9, qn9, qc9, qa10, qn10, qc10, qa11, qn11, qc11, qa12, qn12, qc12, qa13, qn13, qc13, none, 0, 0⟩ ⟨rfreq, k, 0, 0, rwkst, false, rmon, rweek, ryday, rmday, rday, rhour, rminu, rsec, []⟩ := ⟨hS.h6, hS.h7, hS.h8, hS.h9, hS.h10, hS.h11, hS.h12, hS.h13, ⟨rfl, fun z => absurd z (Nat.lt_irrefl 0)⟩, hS.l6, hS.l7, hS.l8, hS.l9, hS.l10, hS.l11, hS.l12, hS.l13, Nat.zero_le _⟩
  clear hS
  go_upto_region 7 with fail
  have b5 := alloc_below w4 (.cells #[.int .i64 rfreq, .int .i64 k, .int .i64 0, .int .i64 0, .int .i64 rwkst, .bool false, .slice qa6 qn6 qc6, .slice qa7 qn7 qc7, .slice qa8 qn8 qc8, .slice qa9 qn9 qc9, .slice qa10 qn10 qc10, .slice qa11 qn11 qc11, .slice qa12 qn12 qc12, .slice qa13 qn13 qc13, .slice none 0 0] 25)
  have Xq5 := Box.new w4 #[.int .i64 rfreq, .int .i64 k, .int .i64 0, .int .i64 0, .int .i64 rwkst, .bool false, .slice qa6 qn6 qc6, .slice qa7 qn7 qc7, .slice qa8 qn8 qc8, .slice qa9 qn9 qc9, .slice qa10 qn10 qc10, .slice qa11 qn11 qc11, .slice qa12 qn12 qc12, .slice qa13 qn13 qc13, .slice none 0 0] 25
  have Rq5 := hQ.below b5
  clear hQ
  generalize w4.alloc (.cells #[.int .i64 rfreq, .int .i64 k, .int .i64 0, .int .i64 0, .int .i64 rwkst, .bool false, .slice qa6 qn6 qc6, .slice qa7 qn7 qc7, .slice qa8 qn8 qc8, .slice qa9 qn9 qc9, .slice qa10 qn10 qc10, .slice qa11 qn11 qc11, .slice qa12 qn12 qc12, .slice qa13 qn13 qc13, .slice none 0 0] 25) = w5 at *
  have B5 := B4.trans (b5.mono B4.size)
  clear B4
  clear b5
  have qz0 : w5.cell? ⟨w4.heap.size, 0, none⟩ = some (.int .i64 rfreq) := Xq5.at_ 0 _ rfl
  have qz1 : w5.cell? ⟨w4.heap.size, 1, none⟩ = some (.int .i64 k) := Xq5.at_ 1 _ rfl
  have qz2 : w5.cell? ⟨w4.heap.size, 2, none⟩ = some (.int .i64 0) := Xq5.at_ 2 _ rfl
  have qz3 : w5.cell? ⟨w4.heap.size, 3, none⟩ = some (.int .i64 0) := Xq5.at_ 3 _ rfl
  have qz4 : w5.cell? ⟨w4.heap.size, 4, none⟩ = some (.int .i64 rwkst) := Xq5.at_ 4 _ rfl
  have qz5 : w5.cell? ⟨w4.heap.size, 5, none⟩ = some (.bool false) := Xq5.at_ 5 _ rfl
  have qz6 : w5.cell? ⟨w4.heap.size, 6, none⟩ = some (.slice qa6 qn6 qc6) := Xq5.at_ 6 _ rfl
  have qz7 : w5.cell? ⟨w4.heap.size, 7, none⟩ = some (.slice qa7 qn7 qc7) := Xq5.at_ 7 _ rfl
  have qz8 : w5.cell? ⟨w4.heap.size, 8, none⟩ = some (.slice qa8 qn8 qc8) := Xq5.at_ 8 _ rfl
  have qz9 : w5.cell? ⟨w4.heap.size, 9, none⟩ = some (.slice qa9 qn9 qc9) := Xq5.at_ 9 _ rfl
  have qz10 : w5.cell? ⟨w4.heap.size, 10, none⟩ = some (.slice qa10 qn10 qc10) := Xq5.at_ 10 _ rfl
  have qz11 : w5.cell? ⟨w4.heap.size, 11, none⟩ = some (.slice qa11 qn11 qc11) := Xq5.at_ 11 _ rfl
  have qz12 : w5.cell? ⟨w4.heap.size, 12, none⟩ = some (.slice qa12 qn12 qc12) := Xq5.at_ 12 _ rfl
  have qz13 : w5.cell? ⟨w4.heap.size, 13, none⟩ = some (.slice qa13 qn13 qc13) := Xq5.at_ 13 _ rfl
  have qz14 : w5.cell? ⟨w4.heap.size, 14, none⟩ = some (.slice none 0 0) := Xq5.at_ 14 _ rfl
  go_wp2_with fail
  refine (print_yes _ (TT.out.on B5) ⟨qa6, qn6, qc6, qa7, qn7, qc7, qa8, qn8, qc8, qa9, qn9, qc9, qa10, qn10, qc10, qa11, qn11, qc11, qa12, qn12, qc12, qa13, qn13, qc13, none, 0, 0⟩ ⟨rfreq, k, 0, 0, rwkst, false, rmon, rweek, ryday, rmday, rday, rhour, rminu, rsec, []⟩ Rq5 LMH.out s HS.out).mono ?_
  rintro e w6 ⟨rfl, b6⟩
  clear qz0 qz1 qz2 qz3 qz4 qz5 qz6 qz7 qz8 qz9 qz10 qz11 qz12 qz13 qz14
  have B6 := B5.trans (b6.mono B5.size)
  have Xq6 := Xq5.below b6
  have Rq6 := Rq5.below b6
  clear B5 Xq5 Rq5
  clear b6
  as_aux_lemma =>
    go_wp2_with fail
    refine (parse_ok s _ (TT.out.on B6) ⟨rfreq, k, 0, 0, rwkst, false, rmon, rweek, ryday, rmday, rday, rhour, rminu, rsec, []⟩ 0 0 PQ.out).mono ?_
    rintro e w7 ⟨⟨pa6, pn6, pc6, pa7, pn7, pc7, pa8, pn8, pc8, pa9, pn9, pc9, pa10, pn10, pc10, pa11, pn11, pc11, pa12, pn12, pc12, pa13, pn13, pc13, pa14, pn14, pc14⟩, he, hS, b7⟩
    replace he : e = .returned (.tuple #[.agg #[.int .i64 rfreq, .int .i64 k, .int .i64 0, .int .i64 0, .int .i64 rwkst, .bool false, .slice pa6 pn6 pc6, .slice pa7 pn7 pc7, .slice pa8 pn8 pc8, .slice pa9 pn9 pc9, .slice pa10 pn10 pc10, .slice pa11 pn11 pc11, .slice pa12 pn12 pc12, .slice pa13 pn13 pc13, .slice pa14 pn14 pc14], .int .i64 0, .int .i64 0]) := he
    subst he
    have B7 := B6.trans (b7.mono B6.size)
    have Xq7 := Xq6.below b7
    have Rq7 := Rq6.below b7
    clear B6 Xq6 Rq6
    clear b7
    go_upto_region 9 with fail
    have b8 := alloc_below w7 (.cells #[.int .i64 rfreq, .int .i64 k, .int .i64 0, .int .i64 0, .int .i64 rwkst, .bool false, .slice pa6 pn6 pc6, .slice pa7 pn7 pc7, .slice pa8 pn8 pc8, .slice pa9 pn9 pc9, .slice pa10 pn10 pc10, .slice pa11 pn11 pc11, .slice pa12 pn12 pc12, .slice pa13 pn13 pc13, .slice pa14 pn14 pc14] 25)
    have Xp8 := Box.new w7 #[.int .i64 rfreq, .int .i64 k, .int .i64 0, .int .i64 0, .int .i64 rwkst, .bool false, .slice pa6 pn6 pc6, .slice pa7 pn7 pc7, .slice pa8 pn8 pc8, .slice pa9 pn9 pc9, .slice pa10 pn10 pc10, .slice pa11 pn11 pc11, .slice pa12 pn12 pc12, .slice pa13 pn13 pc13, .slice pa14 pn14 pc14] 25
    have Rp8 := hS.below b8
    clear hS
    generalize w7.alloc (.cells #[.int .i64 rfreq, .int .i64 k, .int .i64 0, .int .i64 0, .int .i64 rwkst, .bool false, .slice pa6 pn6 pc6, .slice pa7 pn7 pc7, .slice pa8 pn8 pc8, .slice pa9 pn9 pc9, .slice pa10 pn10 pc10, .slice pa11 pn11 pc11, .slice pa12 pn12 pc12, .slice pa13 pn13 pc13, .slice pa14 pn14 pc14] 25) = w8 at *
    have B8 := B7.trans (b8.mono B7.size)
    have Xq8 := Xq7.below b8
    have Rq8 := Rq7.below b8
    clear B7 Xq7 Rq7
    clear b8
    go_wp2_with fail
    refine (first_is _ (TT.out.on B8)).mono ?_
    rintro e w9 ⟨rfl, b9⟩
    have B9 := B8.trans (b9.mono B8.size)
    have Xq9 := Xq8.below b9
    have Xp9 := Xp8.below b9
    have Rq9 := Rq8.below b9
    have Rp9 := Rp8.below b9
    clear B8 Xq8 Xp8 Rq8 Rp8
    clear b9
    have qz0 : w9.cell? ⟨w4.heap.size, 0, none⟩ = some (.int .i64 rfreq) := Xq9.at_ 0 _ rfl
    have qz1 : w9.cell? ⟨w4.heap.size, 1, none⟩ = some (.int .i64 k) := Xq9.at_ 1 _ rfl
    have qz2 : w9.cell? ⟨w4.heap.size, 2, none⟩ = some (.int .i64 0) := Xq9.at_ 2 _ rfl
    have qz3 : w9.cell? ⟨w4.heap.size, 3, none⟩ = some (.int .i64 0) := Xq9.at_ 3 _ rfl
    have qz4 : w9.cell? ⟨w4.heap.size, 4, none⟩ = some (.int .i64 rwkst) := Xq9.at_ 4 _ rfl
    have qz5 : w9.cell? ⟨w4.heap.size, 5, none⟩ = some (.bool false) := Xq9.at_ 5 _ rfl
    have qz6 : w9.cell? ⟨w4.heap.size, 6, none⟩ = some (.slice qa6 qn6 qc6) := Xq9.at_ 6 _ rfl
    have qz7 : w9.cell? ⟨w4.heap.size, 7, none⟩ = some (.slice qa7 qn7 qc7) := Xq9.at_ 7 _ rfl
    have qz8 : w9.cell? ⟨w4.heap.size, 8, none⟩ = some (.slice qa8 qn8 qc8) := Xq9.at_ 8 _ rfl
    have qz9 : w9.cell? ⟨w4.heap.size, 9, none⟩ = some (.slice qa9 qn9 qc9) := Xq9.at_ 9 _ rfl
    have qz10 : w9.cell? ⟨w4.heap.size, 10, none⟩ = some (.slice qa10 qn10 qc10) := Xq9.at_ 10 _ rfl
    have qz11 : w9.cell? ⟨w4.heap.size, 11, none⟩ = some (.slice qa11 qn11 qc11) := Xq9.at_ 11 _ rfl
    have qz12 : w9.cell? ⟨w4.heap.size, 12, none⟩ = some (.slice qa12 qn12 qc12) := Xq9.at_ 12 _ rfl
    have qz13 : w9.cell? ⟨w4.heap.size, 13, none⟩ = some (.slice qa13 qn13 qc13) := Xq9.at_ 13 _ rfl
    have qz14 : w9.cell? ⟨w4.heap.size, 14, none⟩ = some (.slice none 0 0) := Xq9.at_ 14 _ rfl
    go_wp2_with fail
    refine (may_r _ ⟨qa6, qn6, qc6, qa7, qn7, qc7, qa8, qn8, qc8, qa9, qn9, qc9, qa10, qn10, qc10, qa11, qn11, qc11, qa12, qn12, qc12, qa13, qn13, qc13, none, 0, 0⟩ ⟨rfreq, k, 0, 0, rwkst, false, rmon, rweek, ryday, rmday, rday, rhour, rminu, rsec, []⟩ true Rq9 LMH.out).mono ?_
    rintro e w10 ⟨rfl, b10⟩
    clear qz0 qz1 qz2 qz3 qz4 qz5 qz6 qz7 qz8 qz9 qz10 qz11 qz12 qz13 qz14
    have B10 := B9.trans (b10.mono B9.size)
    have Xq10 := Xq9.below b10
    have Xp10 := Xp9.below b10
    have Rq10 := Rq9.below b10
    have Rp10 := Rp9.below b10
    clear B9 Xq9 Xp9 Rq9 Rp9
    clear b10
    have pz0 : w10.cell? ⟨w7.heap.size, 0, none⟩ = some (.int .i64 rfreq) := Xp10.at_ 0 _ rfl
    have pz1 : w10.cell? ⟨w7.heap.size, 1, none⟩ = some (.int .i64 k) := Xp10.at_ 1 _ rfl
    have pz2 : w10.cell? ⟨w7.heap.size, 2, none⟩ = some (.int .i64 0) := Xp10.at_ 2 _ rfl
    have pz3 : w10.cell? ⟨w7.heap.size, 3, none⟩ = some (.int .i64 0) := Xp10.at_ 3 _ rfl
    have pz4 : w10.cell? ⟨w7.heap.size, 4, none⟩ = some (.int .i64 rwkst) := Xp10.at_ 4 _ rfl
    have pz5 : w10.cell? ⟨w7.heap.size, 5, none⟩ = some (.bool false) := Xp10.at_ 5 _ rfl
    have pz6 : w10.cell? ⟨w7.heap.size, 6, none⟩ = some (.slice pa6 pn6 pc6) := Xp10.at_ 6 _ rfl
    have pz7 : w10.cell? ⟨w7.heap.size, 7, none⟩ = some (.slice pa7 pn7 pc7) := Xp10.at_ 7 _ rfl
    have pz8 : w10.cell? ⟨w7.heap.size, 8, none⟩ = some (.slice pa8 pn8 pc8) := Xp10.at_ 8 _ rfl
    have pz9 : w10.cell? ⟨w7.heap.size, 9, none⟩ = some (.slice pa9 pn9 pc9) := Xp10.at_ 9 _ rfl
    have pz10 : w10.cell? ⟨w7.heap.size, 10, none⟩ = some (.slice pa10 pn10 pc10) := Xp10.at_ 10 _ rfl
    have pz11 : w10.cell? ⟨w7.heap.size, 11, none⟩ = some (.slice pa11 pn11 pc11) := Xp10.at_ 11 _ rfl
    have pz12 : w10.cell? ⟨w7.heap.size, 12, none⟩ = some (.slice pa12 pn12 pc12) := Xp10.at_ 12 _ rfl
    have pz13 : w10.cell? ⟨w7.heap.size, 13, none⟩ = some (.slice pa13 pn13 pc13) := Xp10.at_ 13 _ rfl
    have pz14 : w10.cell? ⟨w7.heap.size, 14, none⟩ = some (.slice pa14 pn14 pc14) := Xp10.at_ 14 _ rfl
    have qz0 : w10.cell? ⟨w4.heap.size, 0, none⟩ = some (.int .i64 rfreq) := Xq10.at_ 0 _ rfl
    have qz1 : w10.cell? ⟨w4.heap.size, 1, none⟩ = some (.int .i64 k) := Xq10.at_ 1 _ rfl
    have qz2 : w10.cell? ⟨w4.heap.size, 2, none⟩ = some (.int .i64 0) := Xq10.at_ 2 _ rfl
    have qz3 : w10.cell? ⟨w4.heap.size, 3, none⟩ = some (.int .i64 0) := Xq10.at_ 3 _ rfl
    have qz4 : w10.cell? ⟨w4.heap.size, 4, none⟩ = some (.int .i64 rwkst) := Xq10.at_ 4 _ rfl
    have qz5 : w10.cell? ⟨w4.heap.size, 5, none⟩ = some (.bool false) := Xq10.at_ 5 _ rfl
    have qz6 : w10.cell? ⟨w4.heap.size, 6, none⟩ = some (.slice qa6 qn6 qc6) := Xq10.at_ 6 _ rfl
    have qz7 : w10.cell? ⟨w4.heap.size, 7, none⟩ = some (.slice qa7 qn7 qc7) := Xq10.at_ 7 _ rfl
    have qz8 : w10.cell? ⟨w4.heap.size, 8, none⟩ = some (.slice qa8 qn8 qc8) := Xq10.at_ 8 _ rfl
    have qz9 : w10.cell? ⟨w4.heap.size, 9, none⟩ = some (.slice qa9 qn9 qc9) := Xq10.at_ 9 _ rfl
    have qz10 : w10.cell? ⟨w4.heap.size, 10, none⟩ = some (.slice qa10 qn10 qc10) := Xq10.at_ 10 _ rfl
    have qz11 : w10.cell? ⟨w4.heap.size, 11, none⟩ = some (.slice qa11 qn11 qc11) := Xq10.at_ 11 _ rfl
    have qz12 : w10.cell? ⟨w4.heap.size, 12, none⟩ = some (.slice qa12 qn12 qc12) := Xq10.at_ 12 _ rfl
    have qz13 : w10.cell? ⟨w4.heap.size, 13, none⟩ = some (.slice qa13 qn13 qc13) := Xq10.at_ 13 _ rfl
    have qz14 : w10.cell? ⟨w4.heap.size, 14, none⟩ = some (.slice none 0 0) := Xq10.at_ 14 _ rfl
    go_wp2_with fail
    refine (same_is _ ⟨pa6, pn6, pc6, pa7, pn7, pc7, pa8, pn8, pc8, pa9, pn9, pc9, pa10, pn10, pc10, pa11, pn11, pc11, pa12, pn12, pc12, pa13, pn13, pc13, pa14, pn14, pc14⟩ ⟨qa6, qn6, qc6, qa7, qn7, qc7, qa8, qn8, qc8, qa9, qn9, qc9, qa10, qn10, qc10, qa11, qn11, qc11, qa12, qn12, qc12, qa13, qn13, qc13, none, 0, 0⟩ ⟨rfreq, k, 0, 0, rwkst, false, rmon, rweek, ryday, rmday, rday, rhour, rminu, rsec, []⟩ ⟨rfreq, k, 0, 0, rwkst, false, rmon, rweek, ryday, rmday, rday, rhour, rminu, rsec, []⟩ true Rp10 Rq10 (decide_eq_true rfl)).mono ?_
    rintro e w11 ⟨rfl, b11⟩
    clear pz0 pz1 pz2 pz3 pz4 pz5 pz6 pz7 pz8 pz9 pz10 pz11 pz12 pz13 pz14 qz0 qz1 qz2 qz3 qz4 qz5 qz6 qz7 qz8 qz9 qz10 qz11 qz12 qz13 qz14
    have B11 := B10.trans (b11.mono B10.size)
    have Xq11 := Xq10.below b11
    have Xp11 := Xp10.below b11
    have Rq11 := Rq10.below b11
    have Rp11 := Rp10.below b11
    clear B10 Xq10 Xp10 Rq10 Rp10
    clear b11
    go_wp2
    go_ret
    exact ⟨rfl, B11⟩
theorem less_walk (w : World) (T : Tabs w) (S : RS) (r : Ru) (k : Int) (h : RuIn w S r) :
    Calls Tryz.prog 8 #[S.val r, .int .i64 k] w fun e w' => e = .returned (.bool true) ∧ Below w.heap.size w w' := by
  cases h1 : fewB S
  · exact less_few w T S r k h h1
  cases h2 : mayR r
  · exact less_no w T S r k h h1 h2
  by_cases a : k < 1
  · exact less_lo w T S r k h h1 h2 a
  by_cases b : 1000 < k
  · exact less_hi w T S r k h h1 h2 b
  · exact less_main w T S r k h h1 h2 (by omega) (by omega)
end Go.Proofs.YtcngmgpegnmooaaGreatDoor.Ru
