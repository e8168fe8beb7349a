/- RuleAlike answers true (a way). -/
import Derived.Test.YtcngmgpegnmooaaGreatDoorRuPrint
import Derived.Test.YtcngmgpegnmooaaGreatDoorRpZ
import Derived.Test.YtcngmgpegnmooaaGreatDoorRpT
set_option linter.unusedVariables false
namespace Go.Proofs.YtcngmgpegnmooaaGreatDoor.Ru
open Go.RowKit Cv St Go.Proofs.YtcngmgpegnmooaaGreatDoor.Fd

set_option maxRecDepth 100000 in
set_option maxHeartbeats 8000000 in
theorem alike_yy (w : World) (T : Tabs w) (S S' : RS) (r q : Ru) (h : RuIn w S r) (g : RuIn w S' q) (hx1 : fewB S = true) (hx2 : fewB S' = true) (hm1 : mayR r = true) (hm2 : mayR q = true) :
    Calls Tryz.prog 10 #[S.val r, S'.val q] w fun e w' => e = .returned (.bool true) ∧ Below w.heap.size w w' := by
  have TT := Lib.hid T
  have HK := Lib.hid (And.intro h g)
  have X1 := Lib.hid hx1
  have X2 := Lib.hid hx2
  have RA := Lib.hid (h.few hx1)
  have QA := Lib.hid (g.few hx2)
  have M1 := Lib.hid hm1
  have M2 := Lib.hid hm2
  obtain ⟨x, hx⟩ : ∃ b, decide (r = q) = b := ⟨_, rfl⟩
  obtain ⟨s, hs⟩ : ∃ s, str (ruText r) = s := ⟨_, rfl⟩
  obtain ⟨t, ht⟩ : ∃ s, str (ruText q) = s := ⟨_, rfl⟩
  have XT := Lib.hid (fun (e : x = true) => show s = t from by rw [← hs, ← ht, of_decide_eq_true (hx.trans e)])
  have XF := Lib.hid (fun (e3 : x = false) => show s ≠ t from fun e => of_decide_eq_false (hx.trans e3) (text_inj hm1 hm2 (str_inj (by rw [hs, ht, e]))))
  have HS := Lib.hid hs
  have HT := Lib.hid ht
  have HX := Lib.hid hx
  have HY := Lib.hid (show decide (q = r) = x by rw [← hx]; exact decide_eq_decide.2 ⟨Eq.symm, Eq.symm⟩)
  clear hx hs ht hm1 hm2
  clear h g T hx1 hx2
  obtain ⟨ra6, rn6, rc6, ra7, rn7, rc7, ra8, rn8, rc8, ra9, rn9, rc9, ra10, rn10, rc10, ra11, rn11, rc11, ra12, rn12, rc12, ra13, rn13, rc13, ra14, rn14, rc14⟩ := S
  obtain ⟨qa6, qn6, qc6, qa7, qn7, qc7, qa8, qn8, qc8, qa9, qn9, qc9, qa10, qn10, qc10, qa11, qn11, qc11, qa12, qn12, qc12, qa13, qn13, qc13, qa14, qn14, qc14⟩ := S'
  obtain ⟨rfreq, ritv, rcnt, rtil, rwkst, rends, rmon, rweek, ryday, rmday, rday, rhour, rminu, rsec, rpos⟩ := r
  obtain ⟨qfreq, qitv, qcnt, qtil, qwkst, qends, qmon, qweek, qyday, qmday, qday, qhour, qminu, qsec, qpos⟩ := q
  show Calls Tryz.prog 10 #[.agg #[.int .i64 rfreq, .int .i64 ritv, .int .i64 rcnt, .int .i64 rtil, .int .i64 rwkst, .bool rends, .slice ra6 rn6 rc6, .slice ra7 rn7 rc7, .slice ra8 rn8 rc8, .slice ra9 rn9 rc9, .slice ra10 rn10 rc10, .slice ra11 rn11 rc11, .slice ra12 rn12 rc12, .slice ra13 rn13 rc13, .slice ra14 rn14 rc14], .agg #[.int .i64 qfreq, .int .i64 qitv, .int .i64 qcnt, .int .i64 qtil, .int .i64 qwkst, .bool qends, .slice qa6 qn6 qc6, .slice qa7 qn7 qc7, .slice qa8 qn8 qc8, .slice qa9 qn9 qc9, .slice qa10 qn10 qc10, .slice qa11 qn11 qc11, .slice qa12 qn12 qc12, .slice qa13 qn13 qc13, .slice qa14 qn14 qc14]] w _
  go_enter Tryz.func10, Tryz.ntmps10
  go_upto_region 1 with fail
  have B0 := two_below w (.cells #[.int .i64 rfreq, .int .i64 ritv, .int .i64 rcnt, .int .i64 rtil, .int .i64 rwkst, .bool rends, .slice ra6 rn6 rc6, .slice ra7 rn7 rc7, .slice ra8 rn8 rc8, .slice ra9 rn9 rc9, .slice ra10 rn10 rc10, .slice ra11 rn11 rc11, .slice ra12 rn12 rc12, .slice ra13 rn13 rc13, .slice ra14 rn14 rc14] 25) (.cells #[.int .i64 qfreq, .int .i64 qitv, .int .i64 qcnt, .int .i64 qtil, .int .i64 qwkst, .bool qends, .slice qa6 qn6 qc6, .slice qa7 qn7 qc7, .slice qa8 qn8 qc8, .slice qa9 qn9 qc9, .slice qa10 qn10 qc10, .slice qa11 qn11 qc11, .slice qa12 qn12 qc12, .slice qa13 qn13 qc13, .slice qa14 qn14 qc14] 25)
  have XR0 := two_box1 w #[.int .i64 rfreq, .int .i64 ritv, .int .i64 rcnt, .int .i64 rtil, .int .i64 rwkst, .bool rends, .slice ra6 rn6 rc6, .slice ra7 rn7 rc7, .slice ra8 rn8 rc8, .slice ra9 rn9 rc9, .slice ra10 rn10 rc10, .slice ra11 rn11 rc11, .slice ra12 rn12 rc12, .slice ra13 rn13 rc13, .slice ra14 rn14 rc14] #[.int .i64 qfreq, .int .i64 qitv, .int .i64 qcnt, .int .i64 qtil, .int .i64 qwkst, .bool qends, .slice qa6 qn6 qc6, .slice qa7 qn7 qc7, .slice qa8 qn8 qc8, .slice qa9 qn9 qc9, .slice qa10 qn10 qc10, .slice qa11 qn11 qc11, .slice qa12 qn12 qc12, .slice qa13 qn13 qc13, .slice qa14 qn14 qc14] 25
  have XQ0 := two_box2 w #[.int .i64 rfreq, .int .i64 ritv, .int .i64 rcnt, .int .i64 rtil, .int .i64 rwkst, .bool rends, .slice ra6 rn6 rc6, .slice ra7 rn7 rc7, .slice ra8 rn8 rc8, .slice ra9 rn9 rc9, .slice ra10 rn10 rc10, .slice ra11 rn11 rc11, .slice ra12 rn12 rc12, .slice ra13 rn13 rc13, .slice ra14 rn14 rc14] #[.int .i64 qfreq, .int .i64 qitv, .int .i64 qcnt, .int .i64 qtil, .int .i64 qwkst, .bool qends, .slice qa6 qn6 qc6, .slice qa7 qn7 qc7, .slice qa8 qn8 qc8, .slice qa9 qn9 qc9, .slice qa10 qn10 qc10, .slice qa11 qn11 qc11, .slice qa12 qn12 qc12, .slice qa13 qn13 qc13, .slice qa14 qn14 qc14] 25
  generalize (w.alloc (.cells #[.int .i64 rfreq, .int .i64 ritv, .int .i64 rcnt, .int .i64 rtil, .int .i64 rwkst, .bool rends, .slice ra6 rn6 rc6, .slice ra7 rn7 rc7, .slice ra8 rn8 rc8, .slice ra9 rn9 rc9, .slice ra10 rn10 rc10, .slice ra11 rn11 rc11, .slice ra12 rn12 rc12, .slice ra13 rn13 rc13, .slice ra14 rn14 rc14] 25)).alloc (.cells #[.int .i64 qfreq, .int .i64 qitv, .int .i64 qcnt, .int .i64 qtil, .int .i64 qwkst, .bool qends, .slice qa6 qn6 qc6, .slice qa7 qn7 qc7, .slice qa8 qn8 qc8, .slice qa9 qn9 qc9, .slice qa10 qn10 qc10, .slice qa11 qn11 qc11, .slice qa12 qn12 qc12, .slice qa13 qn13 qc13, .slice qa14 qn14 qc14] 25) = w0 at *
  go_wp2_with fail
  refine (first_is _ (TT.out.on B0)).mono ?_
  rintro e w1 ⟨rfl, b1⟩
  have B1 := B0.trans (b1.mono B0.size)
  have XR1 := XR0.below b1
  have XQ1 := XQ0.below b1
  clear B0 XR0 XQ0 b1
  have rz0 : w1.cell? ⟨w.heap.size, 0, none⟩ = some (.int .i64 rfreq) := XR1.at_ 0 _ rfl
  have rz1 : w1.cell? ⟨w.heap.size, 1, none⟩ = some (.int .i64 ritv) := XR1.at_ 1 _ rfl
  have rz2 : w1.cell? ⟨w.heap.size, 2, none⟩ = some (.int .i64 rcnt) := XR1.at_ 2 _ rfl
  have rz3 : w1.cell? ⟨w.heap.size, 3, none⟩ = some (.int .i64 rtil) := XR1.at_ 3 _ rfl
  have rz4 : w1.cell? ⟨w.heap.size, 4, none⟩ = some (.int .i64 rwkst) := XR1.at_ 4 _ rfl
  have rz5 : w1.cell? ⟨w.heap.size, 5, none⟩ = some (.bool rends) := XR1.at_ 5 _ rfl
  have rz6 : w1.cell? ⟨w.heap.size, 6, none⟩ = some (.slice ra6 rn6 rc6) := XR1.at_ 6 _ rfl
  have rz7 : w1.cell? ⟨w.heap.size, 7, none⟩ = some (.slice ra7 rn7 rc7) := XR1.at_ 7 _ rfl
  have rz8 : w1.cell? ⟨w.heap.size, 8, none⟩ = some (.slice ra8 rn8 rc8) := XR1.at_ 8 _ rfl
  have rz9 : w1.cell? ⟨w.heap.size, 9, none⟩ = some (.slice ra9 rn9 rc9) := XR1.at_ 9 _ rfl
  have rz10 : w1.cell? ⟨w.heap.size, 10, none⟩ = some (.slice ra10 rn10 rc10) := XR1.at_ 10 _ rfl
  have rz11 : w1.cell? ⟨w.heap.size, 11, none⟩ = some (.slice ra11 rn11 rc11) := XR1.at_ 11 _ rfl
  have rz12 : w1.cell? ⟨w.heap.size, 12, none⟩ = some (.slice ra12 rn12 rc12) := XR1.at_ 12 _ rfl
  have rz13 : w1.cell? ⟨w.heap.size, 13, none⟩ = some (.slice ra13 rn13 rc13) := XR1.at_ 13 _ rfl
  have rz14 : w1.cell? ⟨w.heap.size, 14, none⟩ = some (.slice ra14 rn14 rc14) := XR1.at_ 14 _ rfl
  go_wp2_with fail
  refine (few_is _ ⟨ra6, rn6, rc6, ra7, rn7, rc7, ra8, rn8, rc8, ra9, rn9, rc9, ra10, rn10, rc10, ra11, rn11, rc11, ra12, rn12, rc12, ra13, rn13, rc13, ra14, rn14, rc14⟩ ⟨rfreq, ritv, rcnt, rtil, rwkst, rends, rmon, rweek, ryday, rmday, rday, rhour, rminu, rsec, rpos⟩ true HK.out.1.k6 HK.out.1.k7 HK.out.1.k8 HK.out.1.k9 HK.out.1.k10 HK.out.1.k11 HK.out.1.k12 HK.out.1.k13 HK.out.1.k14 X1.out).mono ?_
  rintro e w2 ⟨rfl, b2⟩
  have B2 := B1.trans (b2.mono B1.size)
  have XR2 := XR1.below b2
  have XQ2 := XQ1.below b2
  clear rz0 rz1 rz2 rz3 rz4 rz5 rz6 rz7 rz8 rz9 rz10 rz11 rz12 rz13 rz14
  clear B1 XR1 XQ1 b2
  have qz0 : w2.cell? ⟨w.heap.size + 1, 0, none⟩ = some (.int .i64 qfreq) := XQ2.at_ 0 _ rfl
  have qz1 : w2.cell? ⟨w.heap.size + 1, 1, none⟩ = some (.int .i64 qitv) := XQ2.at_ 1 _ rfl
  have qz2 : w2.cell? ⟨w.heap.size + 1, 2, none⟩ = some (.int .i64 qcnt) := XQ2.at_ 2 _ rfl
  have qz3 : w2.cell? ⟨w.heap.size + 1, 3, none⟩ = some (.int .i64 qtil) := XQ2.at_ 3 _ rfl
  have qz4 : w2.cell? ⟨w.heap.size + 1, 4, none⟩ = some (.int .i64 qwkst) := XQ2.at_ 4 _ rfl
  have qz5 : w2.cell? ⟨w.heap.size + 1, 5, none⟩ = some (.bool qends) := XQ2.at_ 5 _ rfl
  have qz6 : w2.cell? ⟨w.heap.size + 1, 6, none⟩ = some (.slice qa6 qn6 qc6) := XQ2.at_ 6 _ rfl
  have qz7 : w2.cell? ⟨w.heap.size + 1, 7, none⟩ = some (.slice qa7 qn7 qc7) := XQ2.at_ 7 _ rfl
  have qz8 : w2.cell? ⟨w.heap.size + 1, 8, none⟩ = some (.slice qa8 qn8 qc8) := XQ2.at_ 8 _ rfl
  have qz9 : w2.cell? ⟨w.heap.size + 1, 9, none⟩ = some (.slice qa9 qn9 qc9) := XQ2.at_ 9 _ rfl
  have qz10 : w2.cell? ⟨w.heap.size + 1, 10, none⟩ = some (.slice qa10 qn10 qc10) := XQ2.at_ 10 _ rfl
  have qz11 : w2.cell? ⟨w.heap.size + 1, 11, none⟩ = some (.slice qa11 qn11 qc11) := XQ2.at_ 11 _ rfl
  have qz12 : w2.cell? ⟨w.heap.size + 1, 12, none⟩ = some (.slice qa12 qn12 qc12) := XQ2.at_ 12 _ rfl
  have qz13 : w2.cell? ⟨w.heap.size + 1, 13, none⟩ = some (.slice qa13 qn13 qc13) := XQ2.at_ 13 _ rfl
  have qz14 : w2.cell? ⟨w.heap.size + 1, 14, none⟩ = some (.slice qa14 qn14 qc14) := XQ2.at_ 14 _ rfl
  go_wp2_with fail
  refine (few_is _ ⟨qa6, qn6, qc6, qa7, qn7, qc7, qa8, qn8, qc8, qa9, qn9, qc9, qa10, qn10, qc10, qa11, qn11, qc11, qa12, qn12, qc12, qa13, qn13, qc13, qa14, qn14, qc14⟩ ⟨qfreq, qitv, qcnt, qtil, qwkst, qends, qmon, qweek, qyday, qmday, qday, qhour, qminu, qsec, qpos⟩ true HK.out.2.k6 HK.out.2.k7 HK.out.2.k8 HK.out.2.k9 HK.out.2.k10 HK.out.2.k11 HK.out.2.k12 HK.out.2.k13 HK.out.2.k14 X2.out).mono ?_
  rintro e w3 ⟨rfl, b3⟩
  have B3 := B2.trans (b3.mono B2.size)
  have XR3 := XR2.below b3
  have XQ3 := XQ2.below b3
  clear qz0 qz1 qz2 qz3 qz4 qz5 qz6 qz7 qz8 qz9 qz10 qz11 qz12 qz13 qz14
  clear B2 XR2 XQ2 b3
  have rz0 : w3.cell? ⟨w.heap.size, 0, none⟩ = some (.int .i64 rfreq) := XR3.at_ 0 _ rfl
  have rz1 : w3.cell? ⟨w.heap.size, 1, none⟩ = some (.int .i64 ritv) := XR3.at_ 1 _ rfl
  have rz2 : w3.cell? ⟨w.heap.size, 2, none⟩ = some (.int .i64 rcnt) := XR3.at_ 2 _ rfl
  have rz3 : w3.cell? ⟨w.heap.size, 3, none⟩ = some (.int .i64 rtil) := XR3.at_ 3 _ rfl
  have rz4 : w3.cell? ⟨w.heap.size, 4, none⟩ = some (.int .i64 rwkst) := XR3.at_ 4 _ rfl
  have rz5 : w3.cell? ⟨w.heap.size, 5, none⟩ = some (.bool rends) := XR3.at_ 5 _ rfl
  have rz6 : w3.cell? ⟨w.heap.size, 6, none⟩ = some (.slice ra6 rn6 rc6) := XR3.at_ 6 _ rfl
  have rz7 : w3.cell? ⟨w.heap.size, 7, none⟩ = some (.slice ra7 rn7 rc7) := XR3.at_ 7 _ rfl
  have rz8 : w3.cell? ⟨w.heap.size, 8, none⟩ = some (.slice ra8 rn8 rc8) := XR3.at_ 8 _ rfl
  have rz9 : w3.cell? ⟨w.heap.size, 9, none⟩ = some (.slice ra9 rn9 rc9) := XR3.at_ 9 _ rfl
  have rz10 : w3.cell? ⟨w.heap.size, 10, none⟩ = some (.slice ra10 rn10 rc10) := XR3.at_ 10 _ rfl
  have rz11 : w3.cell? ⟨w.heap.size, 11, none⟩ = some (.slice ra11 rn11 rc11) := XR3.at_ 11 _ rfl
  have rz12 : w3.cell? ⟨w.heap.size, 12, none⟩ = some (.slice ra12 rn12 rc12) := XR3.at_ 12 _ rfl
  have rz13 : w3.cell? ⟨w.heap.size, 13, none⟩ = some (.slice ra13 rn13 rc13) := XR3.at_ 13 _ rfl
  have rz14 : w3.cell? ⟨w.heap.size, 14, none⟩ = some (.slice ra14 rn14 rc14) := XR3.at_ 14 _ rfl
  go_wp2_with fail
  refine (print_yes _ (TT.out.on B3) ⟨ra6, rn6, rc6, ra7, rn7, rc7, ra8, rn8, rc8, ra9, rn9, rc9, ra10, rn10, rc10, ra11, rn11, rc11, ra12, rn12, rc12, ra13, rn13, rc13, ra14, rn14, rc14⟩ ⟨rfreq, ritv, rcnt, rtil, rwkst, rends, rmon, rweek, ryday, rmday, rday, rhour, rminu, rsec, rpos⟩ (RA.out.below B3) M1.out s HS.out).mono ?_
  rintro e w4 ⟨rfl, b4⟩
  have B4 := B3.trans (b4.mono B3.size)
  have XR4 := XR3.below b4
  have XQ4 := XQ3.below b4
  clear rz0 rz1 rz2 rz3 rz4 rz5 rz6 rz7 rz8 rz9 rz10 rz11 rz12 rz13 rz14
  clear B3 XR3 XQ3 b4
  have qz0 : w4.cell? ⟨w.heap.size + 1, 0, none⟩ = some (.int .i64 qfreq) := XQ4.at_ 0 _ rfl
  have qz1 : w4.cell? ⟨w.heap.size + 1, 1, none⟩ = some (.int .i64 qitv) := XQ4.at_ 1 _ rfl
  have qz2 : w4.cell? ⟨w.heap.size + 1, 2, none⟩ = some (.int .i64 qcnt) := XQ4.at_ 2 _ rfl
  have qz3 : w4.cell? ⟨w.heap.size + 1, 3, none⟩ = some (.int .i64 qtil) := XQ4.at_ 3 _ rfl
  have qz4 : w4.cell? ⟨w.heap.size + 1, 4, none⟩ = some (.int .i64 qwkst) := XQ4.at_ 4 _ rfl
  have qz5 : w4.cell? ⟨w.heap.size + 1, 5, none⟩ = some (.bool qends) := XQ4.at_ 5 _ rfl
  have qz6 : w4.cell? ⟨w.heap.size + 1, 6, none⟩ = some (.slice qa6 qn6 qc6) := XQ4.at_ 6 _ rfl
  have qz7 : w4.cell? ⟨w.heap.size + 1, 7, none⟩ = some (.slice qa7 qn7 qc7) := XQ4.at_ 7 _ rfl
  have qz8 : w4.cell? ⟨w.heap.size + 1, 8, none⟩ = some (.slice qa8 qn8 qc8) := XQ4.at_ 8 _ rfl
  have qz9 : w4.cell? ⟨w.heap.size + 1, 9, none⟩ = some (.slice qa9 qn9 qc9) := XQ4.at_ 9 _ rfl
  have qz10 : w4.cell? ⟨w.heap.size + 1, 10, none⟩ = some (.slice qa10 qn10 qc10) := XQ4.at_ 10 _ rfl
  have qz11 : w4.cell? ⟨w.heap.size + 1, 11, none⟩ = some (.slice qa11 qn11 qc11) := XQ4.at_ 11 _ rfl
  have qz12 : w4.cell? ⟨w.heap.size + 1, 12, none⟩ = some (.slice qa12 qn12 qc12) := XQ4.at_ 12 _ rfl
  have qz13 : w4.cell? ⟨w.heap.size + 1, 13, none⟩ = some (.slice qa13 qn13 qc13) := XQ4.at_ 13 _ rfl
  have qz14 : w4.cell? ⟨w.heap.size + 1, 14, none⟩ = some (.slice qa14 qn14 qc14) := XQ4.at_ 14 _ rfl
  go_wp2_with fail
  refine (print_yes _ (TT.out.on B4) ⟨qa6, qn6, qc6, qa7, qn7, qc7, qa8, qn8, qc8, qa9, qn9, qc9, qa10, qn10, qc10, qa11, qn11, qc11, qa12, qn12, qc12, qa13, qn13, qc13, qa14, qn14, qc14⟩ ⟨qfreq, qitv, qcnt, qtil, qwkst, qends, qmon, qweek, qyday, qmday, qday, qhour, qminu, qsec, qpos⟩ (QA.out.below B4) M2.out t HT.out).mono ?_
  rintro e w5 ⟨rfl, b5⟩
  have B5 := B4.trans (b5.mono B4.size)
  have XR5 := XR4.below b5
  have XQ5 := XQ4.below b5
  clear qz0 qz1 qz2 qz3 qz4 qz5 qz6 qz7 qz8 qz9 qz10 qz11 qz12 qz13 qz14
  clear B4 XR4 XQ4 b5
  go_wp2_with fail
  refine (first_is _ (TT.out.on B5)).mono ?_
  rintro e w6 ⟨rfl, b6⟩
  have B6 := B5.trans (b6.mono B5.size)
  have XR6 := XR5.below b6
  have XQ6 := XQ5.below b6
  clear B5 XR5 XQ5 b6
  have rz0 : w6.cell? ⟨w.heap.size, 0, none⟩ = some (.int .i64 rfreq) := XR6.at_ 0 _ rfl
  have rz1 : w6.cell? ⟨w.heap.size, 1, none⟩ = some (.int .i64 ritv) := XR6.at_ 1 _ rfl
  have rz2 : w6.cell? ⟨w.heap.size, 2, none⟩ = some (.int .i64 rcnt) := XR6.at_ 2 _ rfl
  have rz3 : w6.cell? ⟨w.heap.size, 3, none⟩ = some (.int .i64 rtil) := XR6.at_ 3 _ rfl
  have rz4 : w6.cell? ⟨w.heap.size, 4, none⟩ = some (.int .i64 rwkst) := XR6.at_ 4 _ rfl
  have rz5 : w6.cell? ⟨w.heap.size, 5, none⟩ = some (.bool rends) := XR6.at_ 5 _ rfl
  have rz6 : w6.cell? ⟨w.heap.size, 6, none⟩ = some (.slice ra6 rn6 rc6) := XR6.at_ 6 _ rfl
  have rz7 : w6.cell? ⟨w.heap.size, 7, none⟩ = some (.slice ra7 rn7 rc7) := XR6.at_ 7 _ rfl
  have rz8 : w6.cell? ⟨w.heap.size, 8, none⟩ = some (.slice ra8 rn8 rc8) := XR6.at_ 8 _ rfl
  have rz9 : w6.cell? ⟨w.heap.size, 9, none⟩ = some (.slice ra9 rn9 rc9) := XR6.at_ 9 _ rfl
  have rz10 : w6.cell? ⟨w.heap.size, 10, none⟩ = some (.slice ra10 rn10 rc10) := XR6.at_ 10 _ rfl
  have rz11 : w6.cell? ⟨w.heap.size, 11, none⟩ = some (.slice ra11 rn11 rc11) := XR6.at_ 11 _ rfl
  have rz12 : w6.cell? ⟨w.heap.size, 12, none⟩ = some (.slice ra12 rn12 rc12) := XR6.at_ 12 _ rfl
  have rz13 : w6.cell? ⟨w.heap.size, 13, none⟩ = some (.slice ra13 rn13 rc13) := XR6.at_ 13 _ rfl
  have rz14 : w6.cell? ⟨w.heap.size, 14, none⟩ = some (.slice ra14 rn14 rc14) := XR6.at_ 14 _ rfl
  have qz0 : w6.cell? ⟨w.heap.size + 1, 0, none⟩ = some (.int .i64 qfreq) := XQ6.at_ 0 _ rfl
  have qz1 : w6.cell? ⟨w.heap.size + 1, 1, none⟩ = some (.int .i64 qitv) := XQ6.at_ 1 _ rfl
  have qz2 : w6.cell? ⟨w.heap.size + 1, 2, none⟩ = some (.int .i64 qcnt) := XQ6.at_ 2 _ rfl
  have qz3 : w6.cell? ⟨w.heap.size + 1, 3, none⟩ = some (.int .i64 qtil) := XQ6.at_ 3 _ rfl
  have qz4 : w6.cell? ⟨w.heap.size + 1, 4, none⟩ = some (.int .i64 qwkst) := XQ6.at_ 4 _ rfl
  have qz5 : w6.cell? ⟨w.heap.size + 1, 5, none⟩ = some (.bool qends) := XQ6.at_ 5 _ rfl
  have qz6 : w6.cell? ⟨w.heap.size + 1, 6, none⟩ = some (.slice qa6 qn6 qc6) := XQ6.at_ 6 _ rfl
  have qz7 : w6.cell? ⟨w.heap.size + 1, 7, none⟩ = some (.slice qa7 qn7 qc7) := XQ6.at_ 7 _ rfl
  have qz8 : w6.cell? ⟨w.heap.size + 1, 8, none⟩ = some (.slice qa8 qn8 qc8) := XQ6.at_ 8 _ rfl
  have qz9 : w6.cell? ⟨w.heap.size + 1, 9, none⟩ = some (.slice qa9 qn9 qc9) := XQ6.at_ 9 _ rfl
  have qz10 : w6.cell? ⟨w.heap.size + 1, 10, none⟩ = some (.slice qa10 qn10 qc10) := XQ6.at_ 10 _ rfl
  have qz11 : w6.cell? ⟨w.heap.size + 1, 11, none⟩ = some (.slice qa11 qn11 qc11) := XQ6.at_ 11 _ rfl
  have qz12 : w6.cell? ⟨w.heap.size + 1, 12, none⟩ = some (.slice qa12 qn12 qc12) := XQ6.at_ 12 _ rfl
  have qz13 : w6.cell? ⟨w.heap.size + 1, 13, none⟩ = some (.slice qa13 qn13 qc13) := XQ6.at_ 13 _ rfl
  have qz14 : w6.cell? ⟨w.heap.size + 1, 14, none⟩ = some (.slice qa14 qn14 qc14) := XQ6.at_ 14 _ rfl
  go_wp2_with fail
  refine (same_is _ ⟨ra6, rn6, rc6, ra7, rn7, rc7, ra8, rn8, rc8, ra9, rn9, rc9, ra10, rn10, rc10, ra11, rn11, rc11, ra12, rn12, rc12, ra13, rn13, rc13, ra14, rn14, rc14⟩ ⟨qa6, qn6, qc6, qa7, qn7, qc7, qa8, qn8, qc8, qa9, qn9, qc9, qa10, qn10, qc10, qa11, qn11, qc11, qa12, qn12, qc12, qa13, qn13, qc13, qa14, qn14, qc14⟩ ⟨rfreq, ritv, rcnt, rtil, rwkst, rends, rmon, rweek, ryday, rmday, rday, rhour, rminu, rsec, rpos⟩ ⟨qfreq, qitv, qcnt, qtil, qwkst, qends, qmon, qweek, qyday, qmday, qday, qhour, qminu, qsec, qpos⟩ x (RA.out.below B6) (QA.out.below B6) HX.out).mono ?_
  rintro e w7 ⟨rfl, b7⟩
  have B7 := B6.trans (b7.mono B6.size)
  have XR7 := XR6.below b7
  have XQ7 := XQ6.below b7
  clear rz0 rz1 rz2 rz3 rz4 rz5 rz6 rz7 rz8 rz9 rz10 rz11 rz12 rz13 rz14
  clear qz0 qz1 qz2 qz3 qz4 qz5 qz6 qz7 qz8 qz9 qz10 qz11 qz12 qz13 qz14
  clear B6 XR6 XQ6 b7
  cases x
  · have nst := XF.out rfl
    have e1 := str_ne nst
    clear nst
    clear XF XT
    have rz0 : w7.cell? ⟨w.heap.size, 0, none⟩ = some (.int .i64 rfreq) := XR7.at_ 0 _ rfl
    have rz1 : w7.cell? ⟨w.heap.size, 1, none⟩ = some (.int .i64 ritv) := XR7.at_ 1 _ rfl
    have rz2 : w7.cell? ⟨w.heap.size, 2, none⟩ = some (.int .i64 rcnt) := XR7.at_ 2 _ rfl
    have rz3 : w7.cell? ⟨w.heap.size, 3, none⟩ = some (.int .i64 rtil) := XR7.at_ 3 _ rfl
    have rz4 : w7.cell? ⟨w.heap.size, 4, none⟩ = some (.int .i64 rwkst) := XR7.at_ 4 _ rfl
    have rz5 : w7.cell? ⟨w.heap.size, 5, none⟩ = some (.bool rends) := XR7.at_ 5 _ rfl
    have rz6 : w7.cell? ⟨w.heap.size, 6, none⟩ = some (.slice ra6 rn6 rc6) := XR7.at_ 6 _ rfl
    have rz7 : w7.cell? ⟨w.heap.size, 7, none⟩ = some (.slice ra7 rn7 rc7) := XR7.at_ 7 _ rfl
    have rz8 : w7.cell? ⟨w.heap.size, 8, none⟩ = some (.slice ra8 rn8 rc8) := XR7.at_ 8 _ rfl
    have rz9 : w7.cell? ⟨w.heap.size, 9, none⟩ = some (.slice ra9 rn9 rc9) := XR7.at_ 9 _ rfl
    have rz10 : w7.cell? ⟨w.heap.size, 10, none⟩ = some (.slice ra10 rn10 rc10) := XR7.at_ 10 _ rfl
    have rz11 : w7.cell? ⟨w.heap.size, 11, none⟩ = some (.slice ra11 rn11 rc11) := XR7.at_ 11 _ rfl
    have rz12 : w7.cell? ⟨w.heap.size, 12, none⟩ = some (.slice ra12 rn12 rc12) := XR7.at_ 12 _ rfl
    have rz13 : w7.cell? ⟨w.heap.size, 13, none⟩ = some (.slice ra13 rn13 rc13) := XR7.at_ 13 _ rfl
    have rz14 : w7.cell? ⟨w.heap.size, 14, none⟩ = some (.slice ra14 rn14 rc14) := XR7.at_ 14 _ rfl
    have qz0 : w7.cell? ⟨w.heap.size + 1, 0, none⟩ = some (.int .i64 qfreq) := XQ7.at_ 0 _ rfl
    have qz1 : w7.cell? ⟨w.heap.size + 1, 1, none⟩ = some (.int .i64 qitv) := XQ7.at_ 1 _ rfl
    have qz2 : w7.cell? ⟨w.heap.size + 1, 2, none⟩ = some (.int .i64 qcnt) := XQ7.at_ 2 _ rfl
    have qz3 : w7.cell? ⟨w.heap.size + 1, 3, none⟩ = some (.int .i64 qtil) := XQ7.at_ 3 _ rfl
    have qz4 : w7.cell? ⟨w.heap.size + 1, 4, none⟩ = some (.int .i64 qwkst) := XQ7.at_ 4 _ rfl
    have qz5 : w7.cell? ⟨w.heap.size + 1, 5, none⟩ = some (.bool qends) := XQ7.at_ 5 _ rfl
    have qz6 : w7.cell? ⟨w.heap.size + 1, 6, none⟩ = some (.slice qa6 qn6 qc6) := XQ7.at_ 6 _ rfl
    have qz7 : w7.cell? ⟨w.heap.size + 1, 7, none⟩ = some (.slice qa7 qn7 qc7) := XQ7.at_ 7 _ rfl
    have qz8 : w7.cell? ⟨w.heap.size + 1, 8, none⟩ = some (.slice qa8 qn8 qc8) := XQ7.at_ 8 _ rfl
    have qz9 : w7.cell? ⟨w.heap.size + 1, 9, none⟩ = some (.slice qa9 qn9 qc9) := XQ7.at_ 9 _ rfl
    have qz10 : w7.cell? ⟨w.heap.size + 1, 10, none⟩ = some (.slice qa10 qn10 qc10) := XQ7.at_ 10 _ rfl
    have qz11 : w7.cell? ⟨w.heap.size + 1, 11, none⟩ = some (.slice qa11 qn11 qc11) := XQ7.at_ 11 _ rfl
    have qz12 : w7.cell? ⟨w.heap.size + 1, 12, none⟩ = some (.slice qa12 qn12 qc12) := XQ7.at_ 12 _ rfl
    have qz13 : w7.cell? ⟨w.heap.size + 1, 13, none⟩ = some (.slice qa13 qn13 qc13) := XQ7.at_ 13 _ rfl
    have qz14 : w7.cell? ⟨w.heap.size + 1, 14, none⟩ = some (.slice qa14 qn14 qc14) := XQ7.at_ 14 _ rfl
    go_wp2_with fail
    refine (same_is _ ⟨qa6, qn6, qc6, qa7, qn7, qc7, qa8, qn8, qc8, qa9, qn9, qc9, qa10, qn10, qc10, qa11, qn11, qc11, qa12, qn12, qc12, qa13, qn13, qc13, qa14, qn14, qc14⟩ ⟨ra6, rn6, rc6, ra7, rn7, rc7, ra8, rn8, rc8, ra9, rn9, rc9, ra10, rn10, rc10, ra11, rn11, rc11, ra12, rn12, rc12, ra13, rn13, rc13, ra14, rn14, rc14⟩ ⟨qfreq, qitv, qcnt, qtil, qwkst, qends, qmon, qweek, qyday, qmday, qday, qhour, qminu, qsec, qpos⟩ ⟨rfreq, ritv, rcnt, rtil, rwkst, rends, rmon, rweek, ryday, rmday, rday, rhour, rminu, rsec, rpos⟩ false (QA.out.below B7) (RA.out.below B7) HY.out).mono ?_
    rintro e w8 ⟨rfl, b8⟩
    have B8 := B7.trans (b8.mono B7.size)
    have XR8 := XR7.below b8
    have XQ8 := XQ7.below b8
    clear rz0 rz1 rz2 rz3 rz4 rz5 rz6 rz7 rz8 rz9 rz10 rz11 rz12 rz13 rz14
    clear qz0 qz1 qz2 qz3 qz4 qz5 qz6 qz7 qz8 qz9 qz10 qz11 qz12 qz13 qz14
    clear B7 XR7 XQ7 b8
    go_wp2
    go_ret
    exact ⟨rfl, B8⟩
  · obtain rfl := XT.out rfl
    clear XF XT
    have rz0 : w7.cell? ⟨w.heap.size, 0, none⟩ = some (.int .i64 rfreq) := XR7.at_ 0 _ rfl
    have rz1 : w7.cell? ⟨w.heap.size, 1, none⟩ = some (.int .i64 ritv) := XR7.at_ 1 _ rfl
    have rz2 : w7.cell? ⟨w.heap.size, 2, none⟩ = some (.int .i64 rcnt) := XR7.at_ 2 _ rfl
    have rz3 : w7.cell? ⟨w.heap.size, 3, none⟩ = some (.int .i64 rtil) := XR7.at_ 3 _ rfl
    have rz4 : w7.cell? ⟨w.heap.size, 4, none⟩ = some (.int .i64 rwkst) := XR7.at_ 4 _ rfl
    have rz5 : w7.cell? ⟨w.heap.size, 5, none⟩ = some (.bool rends) := XR7.at_ 5 _ rfl
    have rz6 : w7.cell? ⟨w.heap.size, 6, none⟩ = some (.slice ra6 rn6 rc6) := XR7.at_ 6 _ rfl
    have rz7 : w7.cell? ⟨w.heap.size, 7, none⟩ = some (.slice ra7 rn7 rc7) := XR7.at_ 7 _ rfl
    have rz8 : w7.cell? ⟨w.heap.size, 8, none⟩ = some (.slice ra8 rn8 rc8) := XR7.at_ 8 _ rfl
    have rz9 : w7.cell? ⟨w.heap.size, 9, none⟩ = some (.slice ra9 rn9 rc9) := XR7.at_ 9 _ rfl
    have rz10 : w7.cell? ⟨w.heap.size, 10, none⟩ = some (.slice ra10 rn10 rc10) := XR7.at_ 10 _ rfl
    have rz11 : w7.cell? ⟨w.heap.size, 11, none⟩ = some (.slice ra11 rn11 rc11) := XR7.at_ 11 _ rfl
    have rz12 : w7.cell? ⟨w.heap.size, 12, none⟩ = some (.slice ra12 rn12 rc12) := XR7.at_ 12 _ rfl
    have rz13 : w7.cell? ⟨w.heap.size, 13, none⟩ = some (.slice ra13 rn13 rc13) := XR7.at_ 13 _ rfl
    have rz14 : w7.cell? ⟨w.heap.size, 14, none⟩ = some (.slice ra14 rn14 rc14) := XR7.at_ 14 _ rfl
    have qz0 : w7.cell? ⟨w.heap.size + 1, 0, none⟩ = some (.int .i64 qfreq) := XQ7.at_ 0 _ rfl
    have qz1 : w7.cell? ⟨w.heap.size + 1, 1, none⟩ = some (.int .i64 qitv) := XQ7.at_ 1 _ rfl
    have qz2 : w7.cell? ⟨w.heap.size + 1, 2, none⟩ = some (.int .i64 qcnt) := XQ7.at_ 2 _ rfl
    have qz3 : w7.cell? ⟨w.heap.size + 1, 3, none⟩ = some (.int .i64 qtil) := XQ7.at_ 3 _ rfl
    have qz4 : w7.cell? ⟨w.heap.size + 1, 4, none⟩ = some (.int .i64 qwkst) := XQ7.at_ 4 _ rfl
    have qz5 : w7.cell? ⟨w.heap.size + 1, 5, none⟩ = some (.bool qends) := XQ7.at_ 5 _ rfl
    have qz6 : w7.cell? ⟨w.heap.size + 1, 6, none⟩ = some (.slice qa6 qn6 qc6) := XQ7.at_ 6 _ rfl
    have qz7 : w7.cell? ⟨w.heap.size + 1, 7, none⟩ = some (.slice qa7 qn7 qc7) := XQ7.at_ 7 _ rfl
    have qz8 : w7.cell? ⟨w.heap.size + 1, 8, none⟩ = some (.slice qa8 qn8 qc8) := XQ7.at_ 8 _ rfl
    have qz9 : w7.cell? ⟨w.heap.size + 1, 9, none⟩ = some (.slice qa9 qn9 qc9) := XQ7.at_ 9 _ rfl
    have qz10 : w7.cell? ⟨w.heap.size + 1, 10, none⟩ = some (.slice qa10 qn10 qc10) := XQ7.at_ 10 _ rfl
    have qz11 : w7.cell? ⟨w.heap.size + 1, 11, none⟩ = some (.slice qa11 qn11 qc11) := XQ7.at_ 11 _ rfl
    have qz12 : w7.cell? ⟨w.heap.size + 1, 12, none⟩ = some (.slice qa12 qn12 qc12) := XQ7.at_ 12 _ rfl
    have qz13 : w7.cell? ⟨w.heap.size + 1, 13, none⟩ = some (.slice qa13 qn13 qc13) := XQ7.at_ 13 _ rfl
    have qz14 : w7.cell? ⟨w.heap.size + 1, 14, none⟩ = some (.slice qa14 qn14 qc14) := XQ7.at_ 14 _ rfl
    go_wp2_with fail
    refine (same_is _ ⟨qa6, qn6, qc6, qa7, qn7, qc7, qa8, qn8, qc8, qa9, qn9, qc9, qa10, qn10, qc10, qa11, qn11, qc11, qa12, qn12, qc12, qa13, qn13, qc13, qa14, qn14, qc14⟩ ⟨ra6, rn6, rc6, ra7, rn7, rc7, ra8, rn8, rc8, ra9, rn9, rc9, ra10, rn10, rc10, ra11, rn11, rc11, ra12, rn12, rc12, ra13, rn13, rc13, ra14, rn14, rc14⟩ ⟨qfreq, qitv, qcnt, qtil, qwkst, qends, qmon, qweek, qyday, qmday, qday, qhour, qminu, qsec, qpos⟩ ⟨rfreq, ritv, rcnt, rtil, rwkst, rends, rmon, rweek, ryday, rmday, rday, rhour, rminu, rsec, rpos⟩ true (QA.out.below B7) (RA.out.below B7) HY.out).mono ?_
    rintro e w8 ⟨rfl, b8⟩
    have B8 := B7.trans (b8.mono B7.size)
    have XR8 := XR7.below b8
    have XQ8 := XQ7.below b8
    clear rz0 rz1 rz2 rz3 rz4 rz5 rz6 rz7 rz8 rz9 rz10 rz11 rz12 rz13 rz14
    clear qz0 qz1 qz2 qz3 qz4 qz5 qz6 qz7 qz8 qz9 qz10 qz11 qz12 qz13 qz14
    clear B7 XR7 XQ7 b8
    go_wp2
    go_ret
    exact ⟨rfl, B8⟩
end Go.Proofs.YtcngmgpegnmooaaGreatDoor.Ru
