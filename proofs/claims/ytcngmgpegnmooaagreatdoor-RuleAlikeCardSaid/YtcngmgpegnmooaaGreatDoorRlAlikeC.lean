/- RuleAlike answers true (a way). -/
import Derived.Test.YtcngmgpegnmooaaGreatDoorRuPrint
import Derived.Test.YtcngmgpegnmooaaGreatDoorRpZ
import Derived.Test.YtcngmgpegnmooaaGreatDoorRpT
set_option linter.unusedVariables false
namespace Go.Proofs.YtcngmgpegnmooaaGreatDoor.Ru
open Go.RowKit Cv St Go.Proofs.YtcngmgpegnmooaaGreatDoor.Fd

set_option maxRecDepth 100000 in
set_option maxHeartbeats 8000000 in
theorem alike_ny (w : World) (T : Tabs w) (S S' : RS) (r q : Ru) (h : RuIn w S r) (g : RuIn w S' q) (hx1 : fewB S = true) (hx2 : fewB S' = true) (hm1 : mayR r = false) (hm2 : mayR q = true) :
    Calls Tryz.prog 10 #[S.val r, S'.val q] w fun e w' => e = .returned (.bool true) ∧ Below w.heap.size w w' := by
  have TT := Lib.hid T
  have HK := Lib.hid (And.intro h g)
  have X1 := Lib.hid hx1
  have X2 := Lib.hid hx2
  have RA := Lib.hid (h.few hx1)
  have QA := Lib.hid (g.few hx2)
  have M1 := Lib.hid hm1
  have M2 := Lib.hid hm2
  obtain ⟨x, hx⟩ : ∃ b, decide (r = q) = b := ⟨_, rfl⟩
  obtain ⟨s, hs⟩ : ∃ s, str (ruText r) = s := ⟨_, rfl⟩
  obtain ⟨t, ht⟩ : ∃ s, str (ruText q) = s := ⟨_, rfl⟩
  have HS := Lib.hid hs
  have HT := Lib.hid ht
  have HX := Lib.hid hx
  have HY := Lib.hid (show decide (q = r) = x by rw [← hx]; exact decide_eq_decide.2 ⟨Eq.symm, Eq.symm⟩)
  clear hx hs ht hm1 hm2
  clear h g T hx1 hx2
  obtain ⟨ra6, rn6, rc6, ra7, rn7, rc7, ra8, rn8, rc8, ra9, rn9, rc9, ra10, rn10, rc10, ra11, rn11, rc11, ra12, rn12, rc12, ra13, rn13, rc13, ra14, rn14, rc14⟩ := S
  obtain ⟨qa6, qn6, qc6, qa7, qn7, qc7, qa8, qn8, qc8, qa9, qn9, qc9, qa10, qn10, qc10, qa11, qn11, qc11, qa12, qn12, qc12, qa13, qn13, qc13, qa14, qn14, qc14⟩ := S'
  obtain ⟨rfreq, ritv, rcnt, rtil, rwkst, rends, rmon, rweek, ryday, rmday, rday, rhour, rminu, rsec, rpos⟩ := r
  obtain ⟨qfreq, qitv, qcnt, qtil, qwkst, qends, qmon, qweek, qyday, qmday, qday, qhour, qminu, qsec, qpos⟩ := q
  show Calls Tryz.prog 10 #[.agg #[.int .i64 rfreq, .int .i64 ritv, .int .i64 rcnt, .int .i64 rtil, .int .i64 rwkst, .bool rends, .slice ra6 rn6 rc6, .slice ra7 rn7 rc7, .slice ra8 rn8 rc8, .slice ra9 rn9 rc9, .slice ra10 rn10 rc10, .slice ra11 rn11 rc11, .slice ra12 rn12 rc12, .slice ra13 rn13 rc13, .slice ra14 rn14 rc14], .agg #[.int .i64 qfreq, .int .i64 qitv, .int .i64 qcnt, .int .i64 qtil, .int .i64 qwkst, .bool qends, .slice qa6 qn6 qc6, .slice qa7 qn7 qc7, .slice qa8 qn8 qc8, .slice qa9 qn9 qc9, .slice qa10 qn10 qc10, .slice qa11 qn11 qc11, .slice qa12 qn12 qc12, .slice qa13 qn13 qc13, .slice qa14 qn14 qc14]] w _
  go_enter Tryz.func10, Tryz.ntmps10
  go_upto_region 1 with fail
  have B0 := two_below w (.cells #[.int .i64 rfreq, .int .i64 ritv, .int .i64 rcnt, .int .i64 rtil, .int .i64 rwkst, .bool rends, .slice ra6 rn6 rc6, .slice ra7 rn7 rc7, .slice ra8 rn8 rc8, .slice ra9 rn9 rc9, .slice ra10 rn10 rc10, .slice ra11 rn11 rc11, .slice ra12 rn12 rc12, .slice ra13 rn13 rc13, .slice ra14 rn14 rc14] 25) (.cells #[.int .i64 qfreq, .int .i64 qitv, .int .i64 qcnt, .int .i64 qtil, .int .i64 qwkst, .bool qends, .slice qa6 qn6 qc6, .slice qa7 qn7 qc7, .slice qa8 qn8 qc8, .slice qa9 qn9 qc9, .slice qa10 qn10 qc10, .slice qa11 qn11 qc11, .slice qa12 qn12 qc12, .slice qa13 qn13 qc13, .slice qa14 qn14 qc14] 25)
  have XR0 := two_box1 w #[.int .i64 rfreq, .int .i64 ritv, .int .i64 rcnt, .int .i64 rtil, .int .i64 rwkst, .bool rends, .slice ra6 rn6 rc6, .slice ra7 rn7 rc7, .slice ra8 rn8 rc8, .slice ra9 rn9 rc9, .slice ra10 rn10 rc10, .slice ra11 rn11 rc11, .slice ra12 rn12 rc12, .slice ra13 rn13 rc13, .slice ra14 rn14 rc14] #[.int .i64 qfreq, .int .i64 qitv, .int .i64 qcnt, .int .i64 qtil, .int .i64 qwkst, .bool qends, .slice qa6 qn6 qc6, .slice qa7 qn7 qc7, .slice qa8 qn8 qc8, .slice qa9 qn9 qc9, .slice qa10 qn10 qc10, .slice qa11 qn11 qc11, .slice qa12 qn12 qc12, .slice qa13 qn13 qc13, .slice qa14 qn14 qc14] 25
  have XQ0 := two_box2 w #[.int .i64 rfreq, .int .i64 ritv, .int .i64 rcnt, .int .i64 rtil, .int .i64 rwkst, .bool rends, .slice ra6 rn6 rc6, .slice ra7 rn7 rc7, .slice ra8 rn8 rc8, .slice ra9 rn9 rc9, .slice ra10 rn10 rc10, .slice ra11 rn11 rc11, .slice ra12 rn12 rc12, .slice ra13 rn13 rc13, .slice ra14 rn14 rc14] #[.int .i64 qfreq, .int .i64 qitv, .int .i64 qcnt, .int .i64 qtil, .int .i64 qwkst, .bool qends, .slice qa6 qn6 qc6, .slice qa7 qn7 qc7, .slice qa8 qn8 qc8, .slice qa9 qn9 qc9, .slice qa10 qn10 qc10, .slice qa11 qn11 qc11, .slice qa12 qn12 qc12, .slice qa13 qn13 qc13, .slice qa14 qn14 qc14] 25
  generalize (w.alloc (.cells #[.int .i64 rfreq, .int .i64 ritv, .int .i64 rcnt, .int .i64 rtil, .int .i64 rwkst, .bool rends, .slice ra6 rn6 rc6, .slice ra7 rn7 rc7, .slice ra8 rn8 rc8, .slice ra9 rn9 rc9, .slice ra10 rn10 rc10, .slice ra11 rn11 rc11, .slice ra12 rn12 rc12, .slice ra13 rn13 rc13, .slice ra14 rn14 rc14] 25)).alloc (.cells #[.int .i64 qfreq, .int .i64 qitv, .int .i64 qcnt, .int .i64 qtil, .int .i64 qwkst, .bool qends, .slice qa6 qn6 qc6, .slice qa7 qn7 qc7, .slice qa8 qn8 qc8, .slice qa9 qn9 qc9, .slice qa10 qn10 qc10, .slice qa11 qn11 qc11, .slice qa12 qn12 qc12, .slice qa13 qn13 qc13, .slice qa14 qn14 qc14] 25) = w0 at *
  go_wp2_with fail
  refine (first_is _ (TT.out.on B0)).mono ?_
  rintro e w1 ⟨rfl, b1⟩
  have B1 := B0.trans (b1.mono B0.size)
  have XR1 := XR0.below b1
  have XQ1 := XQ0.below b1
  clear B0 XR0 XQ0 b1
  have rz0 : w1.cell? ⟨w.heap.size, 0, none⟩ = some (.int .i64 rfreq) := XR1.at_ 0 _ rfl
  have rz1 : w1.cell? ⟨w.heap.size, 1, none⟩ = some (.int .i64 ritv) := XR1.at_ 1 _ rfl
  have rz2 : w1.cell? ⟨w.heap.size, 2, none⟩ = some (.int .i64 rcnt) := XR1.at_ 2 _ rfl
  have rz3 : w1.cell? ⟨w.heap.size, 3, none⟩ = some (.int .i64 rtil) := XR1.at_ 3 _ rfl
  have rz4 : w1.cell? ⟨w.heap.size, 4, none⟩ = some (.int .i64 rwkst) := XR1.at_ 4 _ rfl
  have rz5 : w1.cell? ⟨w.heap.size, 5, none⟩ = some (.bool rends) := XR1.at_ 5 _ rfl
  have rz6 : w1.cell? ⟨w.heap.size, 6, none⟩ = some (.slice ra6 rn6 rc6) := XR1.at_ 6 _ rfl
  have rz7 : w1.cell? ⟨w.heap.size, 7, none⟩ = some (.slice ra7 rn7 rc7) := XR1.at_ 7 _ rfl
  have rz8 : w1.cell? ⟨w.heap.size, 8, none⟩ = some (.slice ra8 rn8 rc8) := XR1.at_ 8 _ rfl
  have rz9 : w1.cell? ⟨w.heap.size, 9, none⟩ = some (.slice ra9 rn9 rc9) := XR1.at_ 9 _ rfl
  have rz10 : w1.cell? ⟨w.heap.size, 10, none⟩ = some (.slice ra10 rn10 rc10) := XR1.at_ 10 _ rfl
  have rz11 : w1.cell? ⟨w.heap.size, 11, none⟩ = some (.slice ra11 rn11 rc11) := XR1.at_ 11 _ rfl
  have rz12 : w1.cell? ⟨w.heap.size, 12, none⟩ = some (.slice ra12 rn12 rc12) := XR1.at_ 12 _ rfl
  have rz13 : w1.cell? ⟨w.heap.size, 13, none⟩ = some (.slice ra13 rn13 rc13) := XR1.at_ 13 _ rfl
  have rz14 : w1.cell? ⟨w.heap.size, 14, none⟩ = some (.slice ra14 rn14 rc14) := XR1.at_ 14 _ rfl
  go_wp2_with fail
  refine (few_is _ ⟨ra6, rn6, rc6, ra7, rn7, rc7, ra8, rn8, rc8, ra9, rn9, rc9, ra10, rn10, rc10, ra11, rn11, rc11, ra12, rn12, rc12, ra13, rn13, rc13, ra14, rn14, rc14⟩ ⟨rfreq, ritv, rcnt, rtil, rwkst, rends, rmon, rweek, ryday, rmday, rday, rhour, rminu, rsec, rpos⟩ true HK.out.1.k6 HK.out.1.k7 HK.out.1.k8 HK.out.1.k9 HK.out.1.k10 HK.out.1.k11 HK.out.1.k12 HK.out.1.k13 HK.out.1.k14 X1.out).mono ?_
  rintro e w2 ⟨rfl, b2⟩
  have B2 := B1.trans (b2.mono B1.size)
  have XR2 := XR1.below b2
  have XQ2 := XQ1.below b2
  clear rz0 rz1 rz2 rz3 rz4 rz5 rz6 rz7 rz8 rz9 rz10 rz11 rz12 rz13 rz14
  clear B1 XR1 XQ1 b2
  have qz0 : w2.cell? ⟨w.heap.size + 1, 0, none⟩ = some (.int .i64 qfreq) := XQ2.at_ 0 _ rfl
  have qz1 : w2.cell? ⟨w.heap.size + 1, 1, none⟩ = some (.int .i64 qitv) := XQ2.at_ 1 _ rfl
  have qz2 : w2.cell? ⟨w.heap.size + 1, 2, none⟩ = some (.int .i64 qcnt) := XQ2.at_ 2 _ rfl
  have qz3 : w2.cell? ⟨w.heap.size + 1, 3, none⟩ = some (.int .i64 qtil) := XQ2.at_ 3 _ rfl
  have qz4 : w2.cell? ⟨w.heap.size + 1, 4, none⟩ = some (.int .i64 qwkst) := XQ2.at_ 4 _ rfl
  have qz5 : w2.cell? ⟨w.heap.size + 1, 5, none⟩ = some (.bool qends) := XQ2.at_ 5 _ rfl
  have qz6 : w2.cell? ⟨w.heap.size + 1, 6, none⟩ = some (.slice qa6 qn6 qc6) := XQ2.at_ 6 _ rfl
  have qz7 : w2.cell? ⟨w.heap.size + 1, 7, none⟩ = some (.slice qa7 qn7 qc7) := XQ2.at_ 7 _ rfl
  have qz8 : w2.cell? ⟨w.heap.size + 1, 8, none⟩ = some (.slice qa8 qn8 qc8) := XQ2.at_ 8 _ rfl
  have qz9 : w2.cell? ⟨w.heap.size + 1, 9, none⟩ = some (.slice qa9 qn9 qc9) := XQ2.at_ 9 _ rfl
  have qz10 : w2.cell? ⟨w.heap.size + 1, 10, none⟩ = some (.slice qa10 qn10 qc10) := XQ2.at_ 10 _ rfl
  have qz11 : w2.cell? ⟨w.heap.size + 1, 11, none⟩ = some (.slice qa11 qn11 qc11) := XQ2.at_ 11 _ rfl
  have qz12 : w2.cell? ⟨w.heap.size + 1, 12, none⟩ = some (.slice qa12 qn12 qc12) := XQ2.at_ 12 _ rfl
  have qz13 : w2.cell? ⟨w.heap.size + 1, 13, none⟩ = some (.slice qa13 qn13 qc13) := XQ2.at_ 13 _ rfl
  have qz14 : w2.cell? ⟨w.heap.size + 1, 14, none⟩ = some (.slice qa14 qn14 qc14) := XQ2.at_ 14 _ rfl
  go_wp2_with fail
  refine (few_is _ ⟨qa6, qn6, qc6, qa7, qn7, qc7, qa8, qn8, qc8, qa9, qn9, qc9, qa10, qn10, qc10, qa11, qn11, qc11, qa12, qn12, qc12, qa13, qn13, qc13, qa14, qn14, qc14⟩ ⟨qfreq, qitv, qcnt, qtil, qwkst, qends, qmon, qweek, qyday, qmday, qday, qhour, qminu, qsec, qpos⟩ true HK.out.2.k6 HK.out.2.k7 HK.out.2.k8 HK.out.2.k9 HK.out.2.k10 HK.out.2.k11 HK.out.2.k12 HK.out.2.k13 HK.out.2.k14 X2.out).mono ?_
  rintro e w3 ⟨rfl, b3⟩
  have B3 := B2.trans (b3.mono B2.size)
  have XR3 := XR2.below b3
  have XQ3 := XQ2.below b3
  clear qz0 qz1 qz2 qz3 qz4 qz5 qz6 qz7 qz8 qz9 qz10 qz11 qz12 qz13 qz14
  clear B2 XR2 XQ2 b3
  have rz0 : w3.cell? ⟨w.heap.size, 0, none⟩ = some (.int .i64 rfreq) := XR3.at_ 0 _ rfl
  have rz1 : w3.cell? ⟨w.heap.size, 1, none⟩ = some (.int .i64 ritv) := XR3.at_ 1 _ rfl
  have rz2 : w3.cell? ⟨w.heap.size, 2, none⟩ = some (.int .i64 rcnt) := XR3.at_ 2 _ rfl
  have rz3 : w3.cell? ⟨w.heap.size, 3, none⟩ = some (.int .i64 rtil) := XR3.at_ 3 _ rfl
  have rz4 : w3.cell? ⟨w.heap.size, 4, none⟩ = some (.int .i64 rwkst) := XR3.at_ 4 _ rfl
  have rz5 : w3.cell? ⟨w.heap.size, 5, none⟩ = some (.bool rends) := XR3.at_ 5 _ rfl
  have rz6 : w3.cell? ⟨w.heap.size, 6, none⟩ = some (.slice ra6 rn6 rc6) := XR3.at_ 6 _ rfl
  have rz7 : w3.cell? ⟨w.heap.size, 7, none⟩ = some (.slice ra7 rn7 rc7) := XR3.at_ 7 _ rfl
  have rz8 : w3.cell? ⟨w.heap.size, 8, none⟩ = some (.slice ra8 rn8 rc8) := XR3.at_ 8 _ rfl
  have rz9 : w3.cell? ⟨w.heap.size, 9, none⟩ = some (.slice ra9 rn9 rc9) := XR3.at_ 9 _ rfl
  have rz10 : w3.cell? ⟨w.heap.size, 10, none⟩ = some (.slice ra10 rn10 rc10) := XR3.at_ 10 _ rfl
  have rz11 : w3.cell? ⟨w.heap.size, 11, none⟩ = some (.slice ra11 rn11 rc11) := XR3.at_ 11 _ rfl
  have rz12 : w3.cell? ⟨w.heap.size, 12, none⟩ = some (.slice ra12 rn12 rc12) := XR3.at_ 12 _ rfl
  have rz13 : w3.cell? ⟨w.heap.size, 13, none⟩ = some (.slice ra13 rn13 rc13) := XR3.at_ 13 _ rfl
  have rz14 : w3.cell? ⟨w.heap.size, 14, none⟩ = some (.slice ra14 rn14 rc14) := XR3.at_ 14 _ rfl
  go_wp2_with fail
  refine (print_no _ ⟨ra6, rn6, rc6, ra7, rn7, rc7, ra8, rn8, rc8, ra9, rn9, rc9, ra10, rn10, rc10, ra11, rn11, rc11, ra12, rn12, rc12, ra13, rn13, rc13, ra14, rn14, rc14⟩ ⟨rfreq, ritv, rcnt, rtil, rwkst, rends, rmon, rweek, ryday, rmday, rday, rhour, rminu, rsec, rpos⟩ (RA.out.below B3) M1.out).mono ?_
  rintro e w4 ⟨rfl, b4⟩
  have B4 := B3.trans (b4.mono B3.size)
  have XR4 := XR3.below b4
  have XQ4 := XQ3.below b4
  clear rz0 rz1 rz2 rz3 rz4 rz5 rz6 rz7 rz8 rz9 rz10 rz11 rz12 rz13 rz14
  clear B3 XR3 XQ3 b4
  have qz0 : w4.cell? ⟨w.heap.size + 1, 0, none⟩ = some (.int .i64 qfreq) := XQ4.at_ 0 _ rfl
  have qz1 : w4.cell? ⟨w.heap.size + 1, 1, none⟩ = some (.int .i64 qitv) := XQ4.at_ 1 _ rfl
  have qz2 : w4.cell? ⟨w.heap.size + 1, 2, none⟩ = some (.int .i64 qcnt) := XQ4.at_ 2 _ rfl
  have qz3 : w4.cell? ⟨w.heap.size + 1, 3, none⟩ = some (.int .i64 qtil) := XQ4.at_ 3 _ rfl
  have qz4 : w4.cell? ⟨w.heap.size + 1, 4, none⟩ = some (.int .i64 qwkst) := XQ4.at_ 4 _ rfl
  have qz5 : w4.cell? ⟨w.heap.size + 1, 5, none⟩ = some (.bool qends) := XQ4.at_ 5 _ rfl
  have qz6 : w4.cell? ⟨w.heap.size + 1, 6, none⟩ = some (.slice qa6 qn6 qc6) := XQ4.at_ 6 _ rfl
  have qz7 : w4.cell? ⟨w.heap.size + 1, 7, none⟩ = some (.slice qa7 qn7 qc7) := XQ4.at_ 7 _ rfl
  have qz8 : w4.cell? ⟨w.heap.size + 1, 8, none⟩ = some (.slice qa8 qn8 qc8) := XQ4.at_ 8 _ rfl
  have qz9 : w4.cell? ⟨w.heap.size + 1, 9, none⟩ = some (.slice qa9 qn9 qc9) := XQ4.at_ 9 _ rfl
  have qz10 : w4.cell? ⟨w.heap.size + 1, 10, none⟩ = some (.slice qa10 qn10 qc10) := XQ4.at_ 10 _ rfl
  have qz11 : w4.cell? ⟨w.heap.size + 1, 11, none⟩ = some (.slice qa11 qn11 qc11) := XQ4.at_ 11 _ rfl
  have qz12 : w4.cell? ⟨w.heap.size + 1, 12, none⟩ = some (.slice qa12 qn12 qc12) := XQ4.at_ 12 _ rfl
  have qz13 : w4.cell? ⟨w.heap.size + 1, 13, none⟩ = some (.slice qa13 qn13 qc13) := XQ4.at_ 13 _ rfl
  have qz14 : w4.cell? ⟨w.heap.size + 1, 14, none⟩ = some (.slice qa14 qn14 qc14) := XQ4.at_ 14 _ rfl
  go_wp2_with fail
  refine (print_yes _ (TT.out.on B4) ⟨qa6, qn6, qc6, qa7, qn7, qc7, qa8, qn8, qc8, qa9, qn9, qc9, qa10, qn10, qc10, qa11, qn11, qc11, qa12, qn12, qc12, qa13, qn13, qc13, qa14, qn14, qc14⟩ ⟨qfreq, qitv, qcnt, qtil, qwkst, qends, qmon, qweek, qyday, qmday, qday, qhour, qminu, qsec, qpos⟩ (QA.out.below B4) M2.out t HT.out).mono ?_
  rintro e w5 ⟨rfl, b5⟩
  have B5 := B4.trans (b5.mono B4.size)
  have XR5 := XR4.below b5
  have XQ5 := XQ4.below b5
  clear qz0 qz1 qz2 qz3 qz4 qz5 qz6 qz7 qz8 qz9 qz10 qz11 qz12 qz13 qz14
  clear B4 XR4 XQ4 b5
  go_upto_region 8 with fail
  have RA5 := Lib.hid (RA.out.below B5)
  have QA5 := Lib.hid (QA.out.below B5)
  have T5 := Lib.hid (TT.out.on B5)
  have p9 : Past w5 w5 := Below.refl _ _
  have hne : Nonempty (In (Past w5)) := ⟨⟨_, p9⟩⟩
  have ry0 : ∀ v : In (Past w5), v.w.cell? ⟨w.heap.size, 0, none⟩ = some (.int .i64 rfreq) := Past.at_ XR5.1 (XR5.at_ 0 _ rfl)
  have ry1 : ∀ v : In (Past w5), v.w.cell? ⟨w.heap.size, 1, none⟩ = some (.int .i64 ritv) := Past.at_ XR5.1 (XR5.at_ 1 _ rfl)
  have ry2 : ∀ v : In (Past w5), v.w.cell? ⟨w.heap.size, 2, none⟩ = some (.int .i64 rcnt) := Past.at_ XR5.1 (XR5.at_ 2 _ rfl)
  have ry3 : ∀ v : In (Past w5), v.w.cell? ⟨w.heap.size, 3, none⟩ = some (.int .i64 rtil) := Past.at_ XR5.1 (XR5.at_ 3 _ rfl)
  have ry4 : ∀ v : In (Past w5), v.w.cell? ⟨w.heap.size, 4, none⟩ = some (.int .i64 rwkst) := Past.at_ XR5.1 (XR5.at_ 4 _ rfl)
  have ry5 : ∀ v : In (Past w5), v.w.cell? ⟨w.heap.size, 5, none⟩ = some (.bool rends) := Past.at_ XR5.1 (XR5.at_ 5 _ rfl)
  have ry6 : ∀ v : In (Past w5), v.w.cell? ⟨w.heap.size, 6, none⟩ = some (.slice ra6 rn6 rc6) := Past.at_ XR5.1 (XR5.at_ 6 _ rfl)
  have ry7 : ∀ v : In (Past w5), v.w.cell? ⟨w.heap.size, 7, none⟩ = some (.slice ra7 rn7 rc7) := Past.at_ XR5.1 (XR5.at_ 7 _ rfl)
  have ry8 : ∀ v : In (Past w5), v.w.cell? ⟨w.heap.size, 8, none⟩ = some (.slice ra8 rn8 rc8) := Past.at_ XR5.1 (XR5.at_ 8 _ rfl)
  have ry9 : ∀ v : In (Past w5), v.w.cell? ⟨w.heap.size, 9, none⟩ = some (.slice ra9 rn9 rc9) := Past.at_ XR5.1 (XR5.at_ 9 _ rfl)
  have ry10 : ∀ v : In (Past w5), v.w.cell? ⟨w.heap.size, 10, none⟩ = some (.slice ra10 rn10 rc10) := Past.at_ XR5.1 (XR5.at_ 10 _ rfl)
  have ry11 : ∀ v : In (Past w5), v.w.cell? ⟨w.heap.size, 11, none⟩ = some (.slice ra11 rn11 rc11) := Past.at_ XR5.1 (XR5.at_ 11 _ rfl)
  have ry12 : ∀ v : In (Past w5), v.w.cell? ⟨w.heap.size, 12, none⟩ = some (.slice ra12 rn12 rc12) := Past.at_ XR5.1 (XR5.at_ 12 _ rfl)
  have ry13 : ∀ v : In (Past w5), v.w.cell? ⟨w.heap.size, 13, none⟩ = some (.slice ra13 rn13 rc13) := Past.at_ XR5.1 (XR5.at_ 13 _ rfl)
  have ry14 : ∀ v : In (Past w5), v.w.cell? ⟨w.heap.size, 14, none⟩ = some (.slice ra14 rn14 rc14) := Past.at_ XR5.1 (XR5.at_ 14 _ rfl)
  have qy0 : ∀ v : In (Past w5), v.w.cell? ⟨w.heap.size + 1, 0, none⟩ = some (.int .i64 qfreq) := Past.at_ XQ5.1 (XQ5.at_ 0 _ rfl)
  have qy1 : ∀ v : In (Past w5), v.w.cell? ⟨w.heap.size + 1, 1, none⟩ = some (.int .i64 qitv) := Past.at_ XQ5.1 (XQ5.at_ 1 _ rfl)
  have qy2 : ∀ v : In (Past w5), v.w.cell? ⟨w.heap.size + 1, 2, none⟩ = some (.int .i64 qcnt) := Past.at_ XQ5.1 (XQ5.at_ 2 _ rfl)
  have qy3 : ∀ v : In (Past w5), v.w.cell? ⟨w.heap.size + 1, 3, none⟩ = some (.int .i64 qtil) := Past.at_ XQ5.1 (XQ5.at_ 3 _ rfl)
  have qy4 : ∀ v : In (Past w5), v.w.cell? ⟨w.heap.size + 1, 4, none⟩ = some (.int .i64 qwkst) := Past.at_ XQ5.1 (XQ5.at_ 4 _ rfl)
  have qy5 : ∀ v : In (Past w5), v.w.cell? ⟨w.heap.size + 1, 5, none⟩ = some (.bool qends) := Past.at_ XQ5.1 (XQ5.at_ 5 _ rfl)
  have qy6 : ∀ v : In (Past w5), v.w.cell? ⟨w.heap.size + 1, 6, none⟩ = some (.slice qa6 qn6 qc6) := Past.at_ XQ5.1 (XQ5.at_ 6 _ rfl)
  have qy7 : ∀ v : In (Past w5), v.w.cell? ⟨w.heap.size + 1, 7, none⟩ = some (.slice qa7 qn7 qc7) := Past.at_ XQ5.1 (XQ5.at_ 7 _ rfl)
  have qy8 : ∀ v : In (Past w5), v.w.cell? ⟨w.heap.size + 1, 8, none⟩ = some (.slice qa8 qn8 qc8) := Past.at_ XQ5.1 (XQ5.at_ 8 _ rfl)
  have qy9 : ∀ v : In (Past w5), v.w.cell? ⟨w.heap.size + 1, 9, none⟩ = some (.slice qa9 qn9 qc9) := Past.at_ XQ5.1 (XQ5.at_ 9 _ rfl)
  have qy10 : ∀ v : In (Past w5), v.w.cell? ⟨w.heap.size + 1, 10, none⟩ = some (.slice qa10 qn10 qc10) := Past.at_ XQ5.1 (XQ5.at_ 10 _ rfl)
  have qy11 : ∀ v : In (Past w5), v.w.cell? ⟨w.heap.size + 1, 11, none⟩ = some (.slice qa11 qn11 qc11) := Past.at_ XQ5.1 (XQ5.at_ 11 _ rfl)
  have qy12 : ∀ v : In (Past w5), v.w.cell? ⟨w.heap.size + 1, 12, none⟩ = some (.slice qa12 qn12 qc12) := Past.at_ XQ5.1 (XQ5.at_ 12 _ rfl)
  have qy13 : ∀ v : In (Past w5), v.w.cell? ⟨w.heap.size + 1, 13, none⟩ = some (.slice qa13 qn13 qc13) := Past.at_ XQ5.1 (XQ5.at_ 13 _ rfl)
  have qy14 : ∀ v : In (Past w5), v.w.cell? ⟨w.heap.size + 1, 14, none⟩ = some (.slice qa14 qn14 qc14) := Past.at_ XQ5.1 (XQ5.at_ 14 _ rfl)
  have Q1 := Lib.hid (fun v : In (Past w5) => (quiet_cl Past.on (same_is v.w ⟨ra6, rn6, rc6, ra7, rn7, rc7, ra8, rn8, rc8, ra9, rn9, rc9, ra10, rn10, rc10, ra11, rn11, rc11, ra12, rn12, rc12, ra13, rn13, rc13, ra14, rn14, rc14⟩ ⟨qa6, qn6, qc6, qa7, qn7, qc7, qa8, qn8, qc8, qa9, qn9, qc9, qa10, qn10, qc10, qa11, qn11, qc11, qa12, qn12, qc12, qa13, qn13, qc13, qa14, qn14, qc14⟩ ⟨rfreq, ritv, rcnt, rtil, rwkst, rends, rmon, rweek, ryday, rmday, rday, rhour, rminu, rsec, rpos⟩ ⟨qfreq, qitv, qcnt, qtil, qwkst, qends, qmon, qweek, qyday, qmday, qday, qhour, qminu, qsec, qpos⟩ x (RA5.out.past v) (QA5.out.past v) HX.out) : Calls Tryz.prog 19 #[.agg #[.int .i64 rfreq, .int .i64 ritv, .int .i64 rcnt, .int .i64 rtil, .int .i64 rwkst, .bool rends, .slice ra6 rn6 rc6, .slice ra7 rn7 rc7, .slice ra8 rn8 rc8, .slice ra9 rn9 rc9, .slice ra10 rn10 rc10, .slice ra11 rn11 rc11, .slice ra12 rn12 rc12, .slice ra13 rn13 rc13, .slice ra14 rn14 rc14], .agg #[.int .i64 qfreq, .int .i64 qitv, .int .i64 qcnt, .int .i64 qtil, .int .i64 qwkst, .bool qends, .slice qa6 qn6 qc6, .slice qa7 qn7 qc7, .slice qa8 qn8 qc8, .slice qa9 qn9 qc9, .slice qa10 qn10 qc10, .slice qa11 qn11 qc11, .slice qa12 qn12 qc12, .slice qa13 qn13 qc13, .slice qa14 qn14 qc14]] v.w fun e w'' => e = .returned (.bool x) ∧ ∃ m : In (Past w5), w'' = m.w))
  have Q2 := Lib.hid (fun v : In (Past w5) => (quiet_cl Past.on (same_is v.w ⟨qa6, qn6, qc6, qa7, qn7, qc7, qa8, qn8, qc8, qa9, qn9, qc9, qa10, qn10, qc10, qa11, qn11, qc11, qa12, qn12, qc12, qa13, qn13, qc13, qa14, qn14, qc14⟩ ⟨ra6, rn6, rc6, ra7, rn7, rc7, ra8, rn8, rc8, ra9, rn9, rc9, ra10, rn10, rc10, ra11, rn11, rc11, ra12, rn12, rc12, ra13, rn13, rc13, ra14, rn14, rc14⟩ ⟨qfreq, qitv, qcnt, qtil, qwkst, qends, qmon, qweek, qyday, qmday, qday, qhour, qminu, qsec, qpos⟩ ⟨rfreq, ritv, rcnt, rtil, rwkst, rends, rmon, rweek, ryday, rmday, rday, rhour, rminu, rsec, rpos⟩ x (QA5.out.past v) (RA5.out.past v) HY.out) : Calls Tryz.prog 19 #[.agg #[.int .i64 qfreq, .int .i64 qitv, .int .i64 qcnt, .int .i64 qtil, .int .i64 qwkst, .bool qends, .slice qa6 qn6 qc6, .slice qa7 qn7 qc7, .slice qa8 qn8 qc8, .slice qa9 qn9 qc9, .slice qa10 qn10 qc10, .slice qa11 qn11 qc11, .slice qa12 qn12 qc12, .slice qa13 qn13 qc13, .slice qa14 qn14 qc14], .agg #[.int .i64 rfreq, .int .i64 ritv, .int .i64 rcnt, .int .i64 rtil, .int .i64 rwkst, .bool rends, .slice ra6 rn6 rc6, .slice ra7 rn7 rc7, .slice ra8 rn8 rc8, .slice ra9 rn9 rc9, .slice ra10 rn10 rc10, .slice ra11 rn11 rc11, .slice ra12 rn12 rc12, .slice ra13 rn13 rc13, .slice ra14 rn14 rc14]] v.w fun e w'' => e = .returned (.bool x) ∧ ∃ m : In (Past w5), w'' = m.w))
  have Q3 := Lib.hid (fun v : In (Past w5) => (quiet_cl Past.on (first_is v.w (T5.out.past v)) : Calls Tryz.prog 12 #[] v.w fun e w'' => e = .returned (.bool true) ∧ ∃ m : In (Past w5), w'' = m.w))
  refine wp_region_class (Past w5) (by kernel_rfl) (by kernel_rfl) (Past.drew' p9) ?_
  repeat (any_goals (first | go_big_quiet_step ((first | (with_reducible refine Q1.out _) | (with_reducible refine Q2.out _) | (with_reducible refine Q3.out _))) | quiet_step ((first | (with_reducible refine Q1.out _) | (with_reducible refine Q2.out _) | (with_reducible refine Q3.out _)))))
  refine wpQuiet_nil ?_
  rintro _ ⟨⟨w7, hb7⟩, rfl⟩
  replace hb7 : Below _ _ _ := hb7
  have z7 := B5.trans (hb7.mono B5.size)
  clear ry0 ry1 ry2 ry3 ry4 ry5 ry6 ry7 ry8 ry9 ry10 ry11 ry12 ry13 ry14 qy0 qy1 qy2 qy3 qy4 qy5 qy6 qy7 qy8 qy9 qy10 qy11 qy12 qy13 qy14
  cases x <;> (go_wp2; go_ret; exact ⟨rfl, z7⟩)
end Go.Proofs.YtcngmgpegnmooaaGreatDoor.Ru
