/- RulePrints answers true. -/
import Derived.Test.YtajgagmpdhmbkaaGreatDoorRuRPrintD
import Derived.Test.YtajgagmpdhmbkaaGreatDoorRuCopyO
import Derived.Test.YtajgagmpdhmbkaaGreatDoorRpY
import Derived.Test.YtajgagmpdhmbkaaGreatDoorRpU
set_option linter.unusedVariables false
namespace Go.Proofs.YtajgagmpdhmbkaaGreatDoor.Ru
open Go.RowKit Cv St

theorem in_belowR {W w : World} {S : RS} {r : Ru} (h : RuIn W S r) (hb : Below W.heap.size W w) : RuIn w S r :=
  ⟨h.h6.below hb, h.h7.below hb, h.h8.below hb, h.h9.below hb, h.h10.below hb, h.h11.below hb, h.h12.below hb, h.h13.below hb, h.h14.below hb, h.k6, h.k7, h.k8, h.k9, h.k10, h.k11, h.k12, h.k13, h.k14, h.y6, h.y7, h.y8, h.y9, h.y10, h.y11, h.y12, h.y13, h.y14, h.i0, h.i1, h.i2, h.i3, h.i4⟩
/-- what a rule is printed as, by both -/
structure TwoP (r : Ru) (s : ByteArray) (z : Int) : Prop where
  one : ∀ w S, Tabs w → RuAt w S r → Calls Tryz.prog 14 #[S.val r] w fun e w' => e = .returned (.tuple #[.string s, .int .i64 z]) ∧ Below w.heap.size w w'
  two : ∀ w S, RuAt w S r → Calls Tryz.prog 15 #[S.val r] w fun e w' => e = .returned (.tuple #[.string s, .int .i64 z]) ∧ Below w.heap.size w w'
theorem two_p (r : Ru) : ∃ s z, TwoP r s z := by
  cases hm : mayR r
  · exact ⟨⟨#[]⟩, 1, fun w S _ h => print_no w S r h hm, fun w S h => rprint_no w S r h hm⟩
  · exact ⟨_, 0, fun w S T h => print_yes w T S r h hm _ rfl, fun w S h => rprint_yes w S r h hm _ rfl⟩
set_option maxRecDepth 100000 in
set_option maxHeartbeats 16000000 in
theorem prints_walk (w : World) (T : Tabs w) (S : RS) (r : Ru) (S2 : RS) (q : Ru) (h : RuIn w S r) (g : RuIn w S2 q) :
    Calls Tryz.prog 3 #[S.val r, S2.val q] w fun e w' => e = .returned (.bool true) ∧ Below w.heap.size w w' := by
  have TT := Lib.hid T
  have HR := Lib.hid h
  have HQ := Lib.hid g
  obtain ⟨fr, hfr⟩ : ∃ x, fewB S = x := ⟨_, rfl⟩
  obtain ⟨fq, hfq⟩ : ∃ x, fewB S2 = x := ⟨_, rfl⟩
  have FR := Lib.hid hfr
  have FQ := Lib.hid hfq
  have RAF := Lib.hid (fun (e : fr = true) => h.few (hfr.trans e))
  have QAF := Lib.hid (fun (e : fq = true) => g.few (hfq.trans e))
  obtain ⟨s, z, tp⟩ := two_p r
  have TP := Lib.hid tp
  obtain ⟨m, hm⟩ : ∃ m, mayR r = m := ⟨_, rfl⟩
  have HM := Lib.hid hm
  obtain ⟨x, hx⟩ : ∃ x, decide (r = q) = x := ⟨_, rfl⟩
  have HX := Lib.hid hx
  clear h g T hfr hfq tp hm hx
  obtain ⟨ra6, rn6, rc6, ra7, rn7, rc7, ra8, rn8, rc8, ra9, rn9, rc9, ra10, rn10, rc10, ra11, rn11, rc11, ra12, rn12, rc12, ra13, rn13, rc13, ra14, rn14, rc14⟩ := S
  obtain ⟨qa6, qn6, qc6, qa7, qn7, qc7, qa8, qn8, qc8, qa9, qn9, qc9, qa10, qn10, qc10, qa11, qn11, qc11, qa12, qn12, qc12, qa13, qn13, qc13, qa14, qn14, qc14⟩ := S2
  obtain ⟨rfreq, ritv, rcnt, rtil, rwkst, rends, rmon, rweek, ryday, rmday, rday, rhour, rminu, rsec, rpos⟩ := r
  obtain ⟨qfreq, qitv, qcnt, qtil, qwkst, qends, qmon, qweek, qyday, qmday, qday, qhour, qminu, qsec, qpos⟩ := q
  show Calls Tryz.prog 3 #[.agg #[.int .i64 rfreq, .int .i64 ritv, .int .i64 rcnt, .int .i64 rtil, .int .i64 rwkst, .bool rends, .slice ra6 rn6 rc6, .slice ra7 rn7 rc7, .slice ra8 rn8 rc8, .slice ra9 rn9 rc9, .slice ra10 rn10 rc10, .slice ra11 rn11 rc11, .slice ra12 rn12 rc12, .slice ra13 rn13 rc13, .slice ra14 rn14 rc14], .agg #[.int .i64 qfreq, .int .i64 qitv, .int .i64 qcnt, .int .i64 qtil, .int .i64 qwkst, .bool qends, .slice qa6 qn6 qc6, .slice qa7 qn7 qc7, .slice qa8 qn8 qc8, .slice qa9 qn9 qc9, .slice qa10 qn10 qc10, .slice qa11 qn11 qc11, .slice qa12 qn12 qc12, .slice qa13 qn13 qc13, .slice qa14 qn14 qc14]] w _
  go_enter Tryz.func3, Tryz.ntmps3
  go_upto_region 1 with fail
  have B0 := two_below w (.cells #[.int .i64 rfreq, .int .i64 ritv, .int .i64 rcnt, .int .i64 rtil, .int .i64 rwkst, .bool rends, .slice ra6 rn6 rc6, .slice ra7 rn7 rc7, .slice ra8 rn8 rc8, .slice ra9 rn9 rc9, .slice ra10 rn10 rc10, .slice ra11 rn11 rc11, .slice ra12 rn12 rc12, .slice ra13 rn13 rc13, .slice ra14 rn14 rc14] 25) (.cells #[.int .i64 qfreq, .int .i64 qitv, .int .i64 qcnt, .int .i64 qtil, .int .i64 qwkst, .bool qends, .slice qa6 qn6 qc6, .slice qa7 qn7 qc7, .slice qa8 qn8 qc8, .slice qa9 qn9 qc9, .slice qa10 qn10 qc10, .slice qa11 qn11 qc11, .slice qa12 qn12 qc12, .slice qa13 qn13 qc13, .slice qa14 qn14 qc14] 25)
  have Xr0 := two_box1 w #[.int .i64 rfreq, .int .i64 ritv, .int .i64 rcnt, .int .i64 rtil, .int .i64 rwkst, .bool rends, .slice ra6 rn6 rc6, .slice ra7 rn7 rc7, .slice ra8 rn8 rc8, .slice ra9 rn9 rc9, .slice ra10 rn10 rc10, .slice ra11 rn11 rc11, .slice ra12 rn12 rc12, .slice ra13 rn13 rc13, .slice ra14 rn14 rc14] #[.int .i64 qfreq, .int .i64 qitv, .int .i64 qcnt, .int .i64 qtil, .int .i64 qwkst, .bool qends, .slice qa6 qn6 qc6, .slice qa7 qn7 qc7, .slice qa8 qn8 qc8, .slice qa9 qn9 qc9, .slice qa10 qn10 qc10, .slice qa11 qn11 qc11, .slice qa12 qn12 qc12, .slice qa13 qn13 qc13, .slice qa14 qn14 qc14] 25
  have Xq0 := two_box2 w #[.int .i64 rfreq, .int .i64 ritv, .int .i64 rcnt, .int .i64 rtil, .int .i64 rwkst, .bool rends, .slice ra6 rn6 rc6, .slice ra7 rn7 rc7, .slice ra8 rn8 rc8, .slice ra9 rn9 rc9, .slice ra10 rn10 rc10, .slice ra11 rn11 rc11, .slice ra12 rn12 rc12, .slice ra13 rn13 rc13, .slice ra14 rn14 rc14] #[.int .i64 qfreq, .int .i64 qitv, .int .i64 qcnt, .int .i64 qtil, .int .i64 qwkst, .bool qends, .slice qa6 qn6 qc6, .slice qa7 qn7 qc7, .slice qa8 qn8 qc8, .slice qa9 qn9 qc9, .slice qa10 qn10 qc10, .slice qa11 qn11 qc11, .slice qa12 qn12 qc12, .slice qa13 qn13 qc13, .slice qa14 qn14 qc14] 25
  generalize (w.alloc (.cells #[.int .i64 rfreq, .int .i64 ritv, .int .i64 rcnt, .int .i64 rtil, .int .i64 rwkst, .bool rends, .slice ra6 rn6 rc6, .slice ra7 rn7 rc7, .slice ra8 rn8 rc8, .slice ra9 rn9 rc9, .slice ra10 rn10 rc10, .slice ra11 rn11 rc11, .slice ra12 rn12 rc12, .slice ra13 rn13 rc13, .slice ra14 rn14 rc14] 25)).alloc (.cells #[.int .i64 qfreq, .int .i64 qitv, .int .i64 qcnt, .int .i64 qtil, .int .i64 qwkst, .bool qends, .slice qa6 qn6 qc6, .slice qa7 qn7 qc7, .slice qa8 qn8 qc8, .slice qa9 qn9 qc9, .slice qa10 qn10 qc10, .slice qa11 qn11 qc11, .slice qa12 qn12 qc12, .slice qa13 qn13 qc13, .slice qa14 qn14 qc14] 25) = w0 at *
  go_wp2_with fail
  refine (first_is _ (TT.out.on B0)).mono ?_
  rintro e w1 ⟨rfl, b1⟩
  have B1 := B0.trans (b1.mono B0.size)
  have Xr1 := Xr0.below b1
  have Xq1 := Xq0.below b1
  clear B0 Xr0 Xq0
  clear b1
  have rz0 : w1.cell? ⟨w.heap.size, 0, none⟩ = some (.int .i64 rfreq) := Xr1.at_ 0 _ rfl
  have rz1 : w1.cell? ⟨w.heap.size, 1, none⟩ = some (.int .i64 ritv) := Xr1.at_ 1 _ rfl
  have rz2 : w1.cell? ⟨w.heap.size, 2, none⟩ = some (.int .i64 rcnt) := Xr1.at_ 2 _ rfl
  have rz3 : w1.cell? ⟨w.heap.size, 3, none⟩ = some (.int .i64 rtil) := Xr1.at_ 3 _ rfl
  have rz4 : w1.cell? ⟨w.heap.size, 4, none⟩ = some (.int .i64 rwkst) := Xr1.at_ 4 _ rfl
  have rz5 : w1.cell? ⟨w.heap.size, 5, none⟩ = some (.bool rends) := Xr1.at_ 5 _ rfl
  have rz6 : w1.cell? ⟨w.heap.size, 6, none⟩ = some (.slice ra6 rn6 rc6) := Xr1.at_ 6 _ rfl
  have rz7 : w1.cell? ⟨w.heap.size, 7, none⟩ = some (.slice ra7 rn7 rc7) := Xr1.at_ 7 _ rfl
  have rz8 : w1.cell? ⟨w.heap.size, 8, none⟩ = some (.slice ra8 rn8 rc8) := Xr1.at_ 8 _ rfl
  have rz9 : w1.cell? ⟨w.heap.size, 9, none⟩ = some (.slice ra9 rn9 rc9) := Xr1.at_ 9 _ rfl
  have rz10 : w1.cell? ⟨w.heap.size, 10, none⟩ = some (.slice ra10 rn10 rc10) := Xr1.at_ 10 _ rfl
  have rz11 : w1.cell? ⟨w.heap.size, 11, none⟩ = some (.slice ra11 rn11 rc11) := Xr1.at_ 11 _ rfl
  have rz12 : w1.cell? ⟨w.heap.size, 12, none⟩ = some (.slice ra12 rn12 rc12) := Xr1.at_ 12 _ rfl
  have rz13 : w1.cell? ⟨w.heap.size, 13, none⟩ = some (.slice ra13 rn13 rc13) := Xr1.at_ 13 _ rfl
  have rz14 : w1.cell? ⟨w.heap.size, 14, none⟩ = some (.slice ra14 rn14 rc14) := Xr1.at_ 14 _ rfl
  go_wp2_with fail
  refine (few_is _ ⟨ra6, rn6, rc6, ra7, rn7, rc7, ra8, rn8, rc8, ra9, rn9, rc9, ra10, rn10, rc10, ra11, rn11, rc11, ra12, rn12, rc12, ra13, rn13, rc13, ra14, rn14, rc14⟩ ⟨rfreq, ritv, rcnt, rtil, rwkst, rends, rmon, rweek, ryday, rmday, rday, rhour, rminu, rsec, rpos⟩ fr HR.out.k6 HR.out.k7 HR.out.k8 HR.out.k9 HR.out.k10 HR.out.k11 HR.out.k12 HR.out.k13 HR.out.k14 FR.out).mono ?_
  rintro e w2 ⟨rfl, b2⟩
  clear rz0 rz1 rz2 rz3 rz4 rz5 rz6 rz7 rz8 rz9 rz10 rz11 rz12 rz13 rz14
  have B2 := B1.trans (b2.mono B1.size)
  have Xr2 := Xr1.below b2
  have Xq2 := Xq1.below b2
  clear B1 Xr1 Xq1
  clear b2
  cases fr
  · go_wp2_with fail
    refine (first_is _ (TT.out.on B2)).mono ?_
    rintro e w3 ⟨rfl, b3⟩
    have B3 := B2.trans (b3.mono B2.size)
    have Xr3 := Xr2.below b3
    have Xq3 := Xq2.below b3
    clear B2 Xr2 Xq2
    clear b3
    go_wp2
    go_ret
    exact ⟨rfl, B3⟩
  · have RA := Lib.hid (RAF.out rfl)
    clear RAF
    have qz0 : w2.cell? ⟨w.heap.size + 1, 0, none⟩ = some (.int .i64 qfreq) := Xq2.at_ 0 _ rfl
    have qz1 : w2.cell? ⟨w.heap.size + 1, 1, none⟩ = some (.int .i64 qitv) := Xq2.at_ 1 _ rfl
    have qz2 : w2.cell? ⟨w.heap.size + 1, 2, none⟩ = some (.int .i64 qcnt) := Xq2.at_ 2 _ rfl
    have qz3 : w2.cell? ⟨w.heap.size + 1, 3, none⟩ = some (.int .i64 qtil) := Xq2.at_ 3 _ rfl
    have qz4 : w2.cell? ⟨w.heap.size + 1, 4, none⟩ = some (.int .i64 qwkst) := Xq2.at_ 4 _ rfl
    have qz5 : w2.cell? ⟨w.heap.size + 1, 5, none⟩ = some (.bool qends) := Xq2.at_ 5 _ rfl
    have qz6 : w2.cell? ⟨w.heap.size + 1, 6, none⟩ = some (.slice qa6 qn6 qc6) := Xq2.at_ 6 _ rfl
    have qz7 : w2.cell? ⟨w.heap.size + 1, 7, none⟩ = some (.slice qa7 qn7 qc7) := Xq2.at_ 7 _ rfl
    have qz8 : w2.cell? ⟨w.heap.size + 1, 8, none⟩ = some (.slice qa8 qn8 qc8) := Xq2.at_ 8 _ rfl
    have qz9 : w2.cell? ⟨w.heap.size + 1, 9, none⟩ = some (.slice qa9 qn9 qc9) := Xq2.at_ 9 _ rfl
    have qz10 : w2.cell? ⟨w.heap.size + 1, 10, none⟩ = some (.slice qa10 qn10 qc10) := Xq2.at_ 10 _ rfl
    have qz11 : w2.cell? ⟨w.heap.size + 1, 11, none⟩ = some (.slice qa11 qn11 qc11) := Xq2.at_ 11 _ rfl
    have qz12 : w2.cell? ⟨w.heap.size + 1, 12, none⟩ = some (.slice qa12 qn12 qc12) := Xq2.at_ 12 _ rfl
    have qz13 : w2.cell? ⟨w.heap.size + 1, 13, none⟩ = some (.slice qa13 qn13 qc13) := Xq2.at_ 13 _ rfl
    have qz14 : w2.cell? ⟨w.heap.size + 1, 14, none⟩ = some (.slice qa14 qn14 qc14) := Xq2.at_ 14 _ rfl
    go_wp2_with fail
    refine (few_is _ ⟨qa6, qn6, qc6, qa7, qn7, qc7, qa8, qn8, qc8, qa9, qn9, qc9, qa10, qn10, qc10, qa11, qn11, qc11, qa12, qn12, qc12, qa13, qn13, qc13, qa14, qn14, qc14⟩ ⟨qfreq, qitv, qcnt, qtil, qwkst, qends, qmon, qweek, qyday, qmday, qday, qhour, qminu, qsec, qpos⟩ fq HQ.out.k6 HQ.out.k7 HQ.out.k8 HQ.out.k9 HQ.out.k10 HQ.out.k11 HQ.out.k12 HQ.out.k13 HQ.out.k14 FQ.out).mono ?_
    rintro e w3 ⟨rfl, b3⟩
    clear qz0 qz1 qz2 qz3 qz4 qz5 qz6 qz7 qz8 qz9 qz10 qz11 qz12 qz13 qz14
    have B3 := B2.trans (b3.mono B2.size)
    have Xr3 := Xr2.below b3
    have Xq3 := Xq2.below b3
    clear B2 Xr2 Xq2
    clear b3
    cases fq
    · go_wp2_with fail
      refine (first_is _ (TT.out.on B3)).mono ?_
      rintro e w4 ⟨rfl, b4⟩
      have B4 := B3.trans (b4.mono B3.size)
      have Xr4 := Xr3.below b4
      have Xq4 := Xq3.below b4
      clear B3 Xr3 Xq3
      clear b4
      go_wp2
      go_ret
      exact ⟨rfl, B4⟩
    · have QA := Lib.hid (QAF.out rfl)
      clear QAF
      have rz0 : w3.cell? ⟨w.heap.size, 0, none⟩ = some (.int .i64 rfreq) := Xr3.at_ 0 _ rfl
      have rz1 : w3.cell? ⟨w.heap.size, 1, none⟩ = some (.int .i64 ritv) := Xr3.at_ 1 _ rfl
      have rz2 : w3.cell? ⟨w.heap.size, 2, none⟩ = some (.int .i64 rcnt) := Xr3.at_ 2 _ rfl
      have rz3 : w3.cell? ⟨w.heap.size, 3, none⟩ = some (.int .i64 rtil) := Xr3.at_ 3 _ rfl
      have rz4 : w3.cell? ⟨w.heap.size, 4, none⟩ = some (.int .i64 rwkst) := Xr3.at_ 4 _ rfl
      have rz5 : w3.cell? ⟨w.heap.size, 5, none⟩ = some (.bool rends) := Xr3.at_ 5 _ rfl
      have rz6 : w3.cell? ⟨w.heap.size, 6, none⟩ = some (.slice ra6 rn6 rc6) := Xr3.at_ 6 _ rfl
      have rz7 : w3.cell? ⟨w.heap.size, 7, none⟩ = some (.slice ra7 rn7 rc7) := Xr3.at_ 7 _ rfl
      have rz8 : w3.cell? ⟨w.heap.size, 8, none⟩ = some (.slice ra8 rn8 rc8) := Xr3.at_ 8 _ rfl
      have rz9 : w3.cell? ⟨w.heap.size, 9, none⟩ = some (.slice ra9 rn9 rc9) := Xr3.at_ 9 _ rfl
      have rz10 : w3.cell? ⟨w.heap.size, 10, none⟩ = some (.slice ra10 rn10 rc10) := Xr3.at_ 10 _ rfl
      have rz11 : w3.cell? ⟨w.heap.size, 11, none⟩ = some (.slice ra11 rn11 rc11) := Xr3.at_ 11 _ rfl
      have rz12 : w3.cell? ⟨w.heap.size, 12, none⟩ = some (.slice ra12 rn12 rc12) := Xr3.at_ 12 _ rfl
      have rz13 : w3.cell? ⟨w.heap.size, 13, none⟩ = some (.slice ra13 rn13 rc13) := Xr3.at_ 13 _ rfl
      have rz14 : w3.cell? ⟨w.heap.size, 14, none⟩ = some (.slice ra14 rn14 rc14) := Xr3.at_ 14 _ rfl
      go_wp2_with fail
      refine (copyR_own _ ⟨ra6, rn6, rc6, ra7, rn7, rc7, ra8, rn8, rc8, ra9, rn9, rc9, ra10, rn10, rc10, ra11, rn11, rc11, ra12, rn12, rc12, ra13, rn13, rc13, ra14, rn14, rc14⟩ ⟨rfreq, ritv, rcnt, rtil, rwkst, rends, rmon, rweek, ryday, rmday, rday, rhour, rminu, rsec, rpos⟩ (in_belowR HR.out B3) FR.out).mono ?_
      rintro e w4 ⟨⟨ca6, cn6, cc6, ca7, cn7, cc7, ca8, cn8, cc8, ca9, cn9, cc9, ca10, cn10, cc10, ca11, cn11, cc11, ca12, cn12, cc12, ca13, cn13, cc13, ca14, cn14, cc14⟩, he, hS, b4, ow⟩
      replace he : e = .returned (.agg #[.int .i64 rfreq, .int .i64 ritv, .int .i64 rcnt, .int .i64 rtil, .int .i64 rwkst, .bool rends, .slice ca6 cn6 cc6, .slice ca7 cn7 cc7, .slice ca8 cn8 cc8, .slice ca9 cn9 cc9, .slice ca10 cn10 cc10, .slice ca11 cn11 cc11, .slice ca12 cn12 cc12, .slice ca13 cn13 cc13, .slice ca14 cn14 cc14]) := he
      subst he
      clear ow
      clear rz0 rz1 rz2 rz3 rz4 rz5 rz6 rz7 rz8 rz9 rz10 rz11 rz12 rz13 rz14
      have B4 := B3.trans (b4.mono B3.size)
      have Xr4 := Xr3.below b4
      have Xq4 := Xq3.below b4
      clear B3 Xr3 Xq3
      clear b4
      go_upto_region 6 with fail
      have b5 := alloc_below w4 (.cells #[.int .i64 rfreq, .int .i64 ritv, .int .i64 rcnt, .int .i64 rtil, .int .i64 rwkst, .bool rends, .slice ca6 cn6 cc6, .slice ca7 cn7 cc7, .slice ca8 cn8 cc8, .slice ca9 cn9 cc9, .slice ca10 cn10 cc10, .slice ca11 cn11 cc11, .slice ca12 cn12 cc12, .slice ca13 cn13 cc13, .slice ca14 cn14 cc14] 25)
      have Xc5 := Box.new w4 #[.int .i64 rfreq, .int .i64 ritv, .int .i64 rcnt, .int .i64 rtil, .int .i64 rwkst, .bool rends, .slice ca6 cn6 cc6, .slice ca7 cn7 cc7, .slice ca8 cn8 cc8, .slice ca9 cn9 cc9, .slice ca10 cn10 cc10, .slice ca11 cn11 cc11, .slice ca12 cn12 cc12, .slice ca13 cn13 cc13, .slice ca14 cn14 cc14] 25
      have Rc5 := hS.below b5
      clear hS
      generalize w4.alloc (.cells #[.int .i64 rfreq, .int .i64 ritv, .int .i64 rcnt, .int .i64 rtil, .int .i64 rwkst, .bool rends, .slice ca6 cn6 cc6, .slice ca7 cn7 cc7, .slice ca8 cn8 cc8, .slice ca9 cn9 cc9, .slice ca10 cn10 cc10, .slice ca11 cn11 cc11, .slice ca12 cn12 cc12, .slice ca13 cn13 cc13, .slice ca14 cn14 cc14] 25) = w5 at *
      have B5 := B4.trans (b5.mono B4.size)
      have Xr5 := Xr4.below b5
      have Xq5 := Xq4.below b5
      clear B4 Xr4 Xq4
      clear b5
      have cz0 : w5.cell? ⟨w4.heap.size, 0, none⟩ = some (.int .i64 rfreq) := Xc5.at_ 0 _ rfl
      have cz1 : w5.cell? ⟨w4.heap.size, 1, none⟩ = some (.int .i64 ritv) := Xc5.at_ 1 _ rfl
      have cz2 : w5.cell? ⟨w4.heap.size, 2, none⟩ = some (.int .i64 rcnt) := Xc5.at_ 2 _ rfl
      have cz3 : w5.cell? ⟨w4.heap.size, 3, none⟩ = some (.int .i64 rtil) := Xc5.at_ 3 _ rfl
      have cz4 : w5.cell? ⟨w4.heap.size, 4, none⟩ = some (.int .i64 rwkst) := Xc5.at_ 4 _ rfl
      have cz5 : w5.cell? ⟨w4.heap.size, 5, none⟩ = some (.bool rends) := Xc5.at_ 5 _ rfl
      have cz6 : w5.cell? ⟨w4.heap.size, 6, none⟩ = some (.slice ca6 cn6 cc6) := Xc5.at_ 6 _ rfl
      have cz7 : w5.cell? ⟨w4.heap.size, 7, none⟩ = some (.slice ca7 cn7 cc7) := Xc5.at_ 7 _ rfl
      have cz8 : w5.cell? ⟨w4.heap.size, 8, none⟩ = some (.slice ca8 cn8 cc8) := Xc5.at_ 8 _ rfl
      have cz9 : w5.cell? ⟨w4.heap.size, 9, none⟩ = some (.slice ca9 cn9 cc9) := Xc5.at_ 9 _ rfl
      have cz10 : w5.cell? ⟨w4.heap.size, 10, none⟩ = some (.slice ca10 cn10 cc10) := Xc5.at_ 10 _ rfl
      have cz11 : w5.cell? ⟨w4.heap.size, 11, none⟩ = some (.slice ca11 cn11 cc11) := Xc5.at_ 11 _ rfl
      have cz12 : w5.cell? ⟨w4.heap.size, 12, none⟩ = some (.slice ca12 cn12 cc12) := Xc5.at_ 12 _ rfl
      have cz13 : w5.cell? ⟨w4.heap.size, 13, none⟩ = some (.slice ca13 cn13 cc13) := Xc5.at_ 13 _ rfl
      have cz14 : w5.cell? ⟨w4.heap.size, 14, none⟩ = some (.slice ca14 cn14 cc14) := Xc5.at_ 14 _ rfl
      go_wp2_with fail
      refine (TP.out.one _ ⟨ca6, cn6, cc6, ca7, cn7, cc7, ca8, cn8, cc8, ca9, cn9, cc9, ca10, cn10, cc10, ca11, cn11, cc11, ca12, cn12, cc12, ca13, cn13, cc13, ca14, cn14, cc14⟩ (TT.out.on B5) Rc5).mono ?_
      rintro e w6 ⟨rfl, b6⟩
      clear cz0 cz1 cz2 cz3 cz4 cz5 cz6 cz7 cz8 cz9 cz10 cz11 cz12 cz13 cz14
      have B6 := B5.trans (b6.mono B5.size)
      have Xr6 := Xr5.below b6
      have Xq6 := Xq5.below b6
      have Xc6 := Xc5.below b6
      have Rc6 := Rc5.below b6
      clear B5 Xr5 Xq5 Xc5 Rc5
      clear b6
      as_aux_lemma =>
        go_upto_region 7 with fail
        go_cut [8, 9] (fun a b wx => a = .string s ∧ b = .int .i64 z ∧ Below w6.heap.size w6 wx)
        case first =>
          have rz0 : w6.cell? ⟨w.heap.size, 0, none⟩ = some (.int .i64 rfreq) := Xr6.at_ 0 _ rfl
          have rz1 : w6.cell? ⟨w.heap.size, 1, none⟩ = some (.int .i64 ritv) := Xr6.at_ 1 _ rfl
          have rz2 : w6.cell? ⟨w.heap.size, 2, none⟩ = some (.int .i64 rcnt) := Xr6.at_ 2 _ rfl
          have rz3 : w6.cell? ⟨w.heap.size, 3, none⟩ = some (.int .i64 rtil) := Xr6.at_ 3 _ rfl
          have rz4 : w6.cell? ⟨w.heap.size, 4, none⟩ = some (.int .i64 rwkst) := Xr6.at_ 4 _ rfl
          have rz5 : w6.cell? ⟨w.heap.size, 5, none⟩ = some (.bool rends) := Xr6.at_ 5 _ rfl
          have rz6 : w6.cell? ⟨w.heap.size, 6, none⟩ = some (.slice ra6 rn6 rc6) := Xr6.at_ 6 _ rfl
          have rz7 : w6.cell? ⟨w.heap.size, 7, none⟩ = some (.slice ra7 rn7 rc7) := Xr6.at_ 7 _ rfl
          have rz8 : w6.cell? ⟨w.heap.size, 8, none⟩ = some (.slice ra8 rn8 rc8) := Xr6.at_ 8 _ rfl
          have rz9 : w6.cell? ⟨w.heap.size, 9, none⟩ = some (.slice ra9 rn9 rc9) := Xr6.at_ 9 _ rfl
          have rz10 : w6.cell? ⟨w.heap.size, 10, none⟩ = some (.slice ra10 rn10 rc10) := Xr6.at_ 10 _ rfl
          have rz11 : w6.cell? ⟨w.heap.size, 11, none⟩ = some (.slice ra11 rn11 rc11) := Xr6.at_ 11 _ rfl
          have rz12 : w6.cell? ⟨w.heap.size, 12, none⟩ = some (.slice ra12 rn12 rc12) := Xr6.at_ 12 _ rfl
          have rz13 : w6.cell? ⟨w.heap.size, 13, none⟩ = some (.slice ra13 rn13 rc13) := Xr6.at_ 13 _ rfl
          have rz14 : w6.cell? ⟨w.heap.size, 14, none⟩ = some (.slice ra14 rn14 rc14) := Xr6.at_ 14 _ rfl
          go_wp2_with fail
          refine (TP.out.two _ ⟨ra6, rn6, rc6, ra7, rn7, rc7, ra8, rn8, rc8, ra9, rn9, rc9, ra10, rn10, rc10, ra11, rn11, rc11, ra12, rn12, rc12, ra13, rn13, rc13, ra14, rn14, rc14⟩ (RA.out.below B6)).mono ?_
          rintro e x1 ⟨rfl, y1⟩
          go_wp2
          go_meet
          exact ⟨rfl, rfl, y1⟩
        case rest =>
          obtain ⟨rfl, rfl, b7⟩ := hcut
          generalize wc = w7 at *
          have B7 := B6.trans (b7.mono B6.size)
          have Xr7 := Xr6.below b7
          have Xq7 := Xq6.below b7
          have Xc7 := Xc6.below b7
          have Rc7 := Rc6.below b7
          clear B6 Xr6 Xq6 Xc6 Rc6
          clear b7
          as_aux_lemma =>
            have es : (s.toList == s.toList) = true := by simp
            have ez : ((z : Int) == z) = true := by simp
            go_upto_region 8 with fail
            have rq0 := Past.at_ (W := w7) Xr7.1 (show w7.cell? ⟨w.heap.size, 0, none⟩ = some (.int .i64 rfreq) from Xr7.at_ 0 _ rfl)
            have rq1 := Past.at_ (W := w7) Xr7.1 (show w7.cell? ⟨w.heap.size, 1, none⟩ = some (.int .i64 ritv) from Xr7.at_ 1 _ rfl)
            have rq2 := Past.at_ (W := w7) Xr7.1 (show w7.cell? ⟨w.heap.size, 2, none⟩ = some (.int .i64 rcnt) from Xr7.at_ 2 _ rfl)
            have rq3 := Past.at_ (W := w7) Xr7.1 (show w7.cell? ⟨w.heap.size, 3, none⟩ = some (.int .i64 rtil) from Xr7.at_ 3 _ rfl)
            have rq4 := Past.at_ (W := w7) Xr7.1 (show w7.cell? ⟨w.heap.size, 4, none⟩ = some (.int .i64 rwkst) from Xr7.at_ 4 _ rfl)
            have rq5 := Past.at_ (W := w7) Xr7.1 (show w7.cell? ⟨w.heap.size, 5, none⟩ = some (.bool rends) from Xr7.at_ 5 _ rfl)
            have rq6 := Past.at_ (W := w7) Xr7.1 (show w7.cell? ⟨w.heap.size, 6, none⟩ = some (.slice ra6 rn6 rc6) from Xr7.at_ 6 _ rfl)
            have rq7 := Past.at_ (W := w7) Xr7.1 (show w7.cell? ⟨w.heap.size, 7, none⟩ = some (.slice ra7 rn7 rc7) from Xr7.at_ 7 _ rfl)
            have rq8 := Past.at_ (W := w7) Xr7.1 (show w7.cell? ⟨w.heap.size, 8, none⟩ = some (.slice ra8 rn8 rc8) from Xr7.at_ 8 _ rfl)
            have rq9 := Past.at_ (W := w7) Xr7.1 (show w7.cell? ⟨w.heap.size, 9, none⟩ = some (.slice ra9 rn9 rc9) from Xr7.at_ 9 _ rfl)
            have rq10 := Past.at_ (W := w7) Xr7.1 (show w7.cell? ⟨w.heap.size, 10, none⟩ = some (.slice ra10 rn10 rc10) from Xr7.at_ 10 _ rfl)
            have rq11 := Past.at_ (W := w7) Xr7.1 (show w7.cell? ⟨w.heap.size, 11, none⟩ = some (.slice ra11 rn11 rc11) from Xr7.at_ 11 _ rfl)
            have rq12 := Past.at_ (W := w7) Xr7.1 (show w7.cell? ⟨w.heap.size, 12, none⟩ = some (.slice ra12 rn12 rc12) from Xr7.at_ 12 _ rfl)
            have rq13 := Past.at_ (W := w7) Xr7.1 (show w7.cell? ⟨w.heap.size, 13, none⟩ = some (.slice ra13 rn13 rc13) from Xr7.at_ 13 _ rfl)
            have rq14 := Past.at_ (W := w7) Xr7.1 (show w7.cell? ⟨w.heap.size, 14, none⟩ = some (.slice ra14 rn14 rc14) from Xr7.at_ 14 _ rfl)
            have qq0 := Past.at_ (W := w7) Xq7.1 (show w7.cell? ⟨w.heap.size + 1, 0, none⟩ = some (.int .i64 qfreq) from Xq7.at_ 0 _ rfl)
            have qq1 := Past.at_ (W := w7) Xq7.1 (show w7.cell? ⟨w.heap.size + 1, 1, none⟩ = some (.int .i64 qitv) from Xq7.at_ 1 _ rfl)
            have qq2 := Past.at_ (W := w7) Xq7.1 (show w7.cell? ⟨w.heap.size + 1, 2, none⟩ = some (.int .i64 qcnt) from Xq7.at_ 2 _ rfl)
            have qq3 := Past.at_ (W := w7) Xq7.1 (show w7.cell? ⟨w.heap.size + 1, 3, none⟩ = some (.int .i64 qtil) from Xq7.at_ 3 _ rfl)
            have qq4 := Past.at_ (W := w7) Xq7.1 (show w7.cell? ⟨w.heap.size + 1, 4, none⟩ = some (.int .i64 qwkst) from Xq7.at_ 4 _ rfl)
            have qq5 := Past.at_ (W := w7) Xq7.1 (show w7.cell? ⟨w.heap.size + 1, 5, none⟩ = some (.bool qends) from Xq7.at_ 5 _ rfl)
            have qq6 := Past.at_ (W := w7) Xq7.1 (show w7.cell? ⟨w.heap.size + 1, 6, none⟩ = some (.slice qa6 qn6 qc6) from Xq7.at_ 6 _ rfl)
            have qq7 := Past.at_ (W := w7) Xq7.1 (show w7.cell? ⟨w.heap.size + 1, 7, none⟩ = some (.slice qa7 qn7 qc7) from Xq7.at_ 7 _ rfl)
            have qq8 := Past.at_ (W := w7) Xq7.1 (show w7.cell? ⟨w.heap.size + 1, 8, none⟩ = some (.slice qa8 qn8 qc8) from Xq7.at_ 8 _ rfl)
            have qq9 := Past.at_ (W := w7) Xq7.1 (show w7.cell? ⟨w.heap.size + 1, 9, none⟩ = some (.slice qa9 qn9 qc9) from Xq7.at_ 9 _ rfl)
            have qq10 := Past.at_ (W := w7) Xq7.1 (show w7.cell? ⟨w.heap.size + 1, 10, none⟩ = some (.slice qa10 qn10 qc10) from Xq7.at_ 10 _ rfl)
            have qq11 := Past.at_ (W := w7) Xq7.1 (show w7.cell? ⟨w.heap.size + 1, 11, none⟩ = some (.slice qa11 qn11 qc11) from Xq7.at_ 11 _ rfl)
            have qq12 := Past.at_ (W := w7) Xq7.1 (show w7.cell? ⟨w.heap.size + 1, 12, none⟩ = some (.slice qa12 qn12 qc12) from Xq7.at_ 12 _ rfl)
            have qq13 := Past.at_ (W := w7) Xq7.1 (show w7.cell? ⟨w.heap.size + 1, 13, none⟩ = some (.slice qa13 qn13 qc13) from Xq7.at_ 13 _ rfl)
            have qq14 := Past.at_ (W := w7) Xq7.1 (show w7.cell? ⟨w.heap.size + 1, 14, none⟩ = some (.slice qa14 qn14 qc14) from Xq7.at_ 14 _ rfl)
            have cq0 := Past.at_ (W := w7) Xc7.1 (show w7.cell? ⟨w4.heap.size, 0, none⟩ = some (.int .i64 rfreq) from Xc7.at_ 0 _ rfl)
            have cq1 := Past.at_ (W := w7) Xc7.1 (show w7.cell? ⟨w4.heap.size, 1, none⟩ = some (.int .i64 ritv) from Xc7.at_ 1 _ rfl)
            have cq2 := Past.at_ (W := w7) Xc7.1 (show w7.cell? ⟨w4.heap.size, 2, none⟩ = some (.int .i64 rcnt) from Xc7.at_ 2 _ rfl)
            have cq3 := Past.at_ (W := w7) Xc7.1 (show w7.cell? ⟨w4.heap.size, 3, none⟩ = some (.int .i64 rtil) from Xc7.at_ 3 _ rfl)
            have cq4 := Past.at_ (W := w7) Xc7.1 (show w7.cell? ⟨w4.heap.size, 4, none⟩ = some (.int .i64 rwkst) from Xc7.at_ 4 _ rfl)
            have cq5 := Past.at_ (W := w7) Xc7.1 (show w7.cell? ⟨w4.heap.size, 5, none⟩ = some (.bool rends) from Xc7.at_ 5 _ rfl)
            have cq6 := Past.at_ (W := w7) Xc7.1 (show w7.cell? ⟨w4.heap.size, 6, none⟩ = some (.slice ca6 cn6 cc6) from Xc7.at_ 6 _ rfl)
            have cq7 := Past.at_ (W := w7) Xc7.1 (show w7.cell? ⟨w4.heap.size, 7, none⟩ = some (.slice ca7 cn7 cc7) from Xc7.at_ 7 _ rfl)
            have cq8 := Past.at_ (W := w7) Xc7.1 (show w7.cell? ⟨w4.heap.size, 8, none⟩ = some (.slice ca8 cn8 cc8) from Xc7.at_ 8 _ rfl)
            have cq9 := Past.at_ (W := w7) Xc7.1 (show w7.cell? ⟨w4.heap.size, 9, none⟩ = some (.slice ca9 cn9 cc9) from Xc7.at_ 9 _ rfl)
            have cq10 := Past.at_ (W := w7) Xc7.1 (show w7.cell? ⟨w4.heap.size, 10, none⟩ = some (.slice ca10 cn10 cc10) from Xc7.at_ 10 _ rfl)
            have cq11 := Past.at_ (W := w7) Xc7.1 (show w7.cell? ⟨w4.heap.size, 11, none⟩ = some (.slice ca11 cn11 cc11) from Xc7.at_ 11 _ rfl)
            have cq12 := Past.at_ (W := w7) Xc7.1 (show w7.cell? ⟨w4.heap.size, 12, none⟩ = some (.slice ca12 cn12 cc12) from Xc7.at_ 12 _ rfl)
            have cq13 := Past.at_ (W := w7) Xc7.1 (show w7.cell? ⟨w4.heap.size, 13, none⟩ = some (.slice ca13 cn13 cc13) from Xc7.at_ 13 _ rfl)
            have cq14 := Past.at_ (W := w7) Xc7.1 (show w7.cell? ⟨w4.heap.size, 14, none⟩ = some (.slice ca14 cn14 cc14) from Xc7.at_ 14 _ rfl)
            have TV := Lib.hid (fun v : In (Past w7) => TT.out.on (B7.trans (Below.mono (show Below _ _ _ from v.h) B7.size)))
            have C0 := Lib.hid (show ∀ v : In (Past w7), Calls Tryz.prog 16 #[.agg #[.int .i64 rfreq, .int .i64 ritv, .int .i64 rcnt, .int .i64 rtil, .int .i64 rwkst, .bool rends, .slice ra6 rn6 rc6, .slice ra7 rn7 rc7, .slice ra8 rn8 rc8, .slice ra9 rn9 rc9, .slice ra10 rn10 rc10, .slice ra11 rn11 rc11, .slice ra12 rn12 rc12, .slice ra13 rn13 rc13, .slice ra14 rn14 rc14]] v.w (fun e w' => e = .returned (.bool m) ∧ Below v.w.heap.size v.w w') from fun v => may_r v.w ⟨ra6, rn6, rc6, ra7, rn7, rc7, ra8, rn8, rc8, ra9, rn9, rc9, ra10, rn10, rc10, ra11, rn11, rc11, ra12, rn12, rc12, ra13, rn13, rc13, ra14, rn14, rc14⟩ ⟨rfreq, ritv, rcnt, rtil, rwkst, rends, rmon, rweek, ryday, rmday, rday, rhour, rminu, rsec, rpos⟩ m ((RA.out.below B7).past v) HM.out)
            have C1 := Lib.hid (show ∀ v : In (Past w7), Calls Tryz.prog 17 #[.agg #[.int .i64 rfreq, .int .i64 ritv, .int .i64 rcnt, .int .i64 rtil, .int .i64 rwkst, .bool rends, .slice ra6 rn6 rc6, .slice ra7 rn7 rc7, .slice ra8 rn8 rc8, .slice ra9 rn9 rc9, .slice ra10 rn10 rc10, .slice ra11 rn11 rc11, .slice ra12 rn12 rc12, .slice ra13 rn13 rc13, .slice ra14 rn14 rc14]] v.w (fun e w' => e = .returned (.bool m) ∧ Below v.w.heap.size v.w w') from fun v => rmayR_is v.w ⟨ra6, rn6, rc6, ra7, rn7, rc7, ra8, rn8, rc8, ra9, rn9, rc9, ra10, rn10, rc10, ra11, rn11, rc11, ra12, rn12, rc12, ra13, rn13, rc13, ra14, rn14, rc14⟩ ⟨rfreq, ritv, rcnt, rtil, rwkst, rends, rmon, rweek, ryday, rmday, rday, rhour, rminu, rsec, rpos⟩ m ((RA.out.below B7).past v) HM.out)
            have C2 := Lib.hid (show ∀ v : In (Past w7), Calls Tryz.prog 18 #[.agg #[.int .i64 rfreq, .int .i64 ritv, .int .i64 rcnt, .int .i64 rtil, .int .i64 rwkst, .bool rends, .slice ra6 rn6 rc6, .slice ra7 rn7 rc7, .slice ra8 rn8 rc8, .slice ra9 rn9 rc9, .slice ra10 rn10 rc10, .slice ra11 rn11 rc11, .slice ra12 rn12 rc12, .slice ra13 rn13 rc13, .slice ra14 rn14 rc14], .agg #[.int .i64 qfreq, .int .i64 qitv, .int .i64 qcnt, .int .i64 qtil, .int .i64 qwkst, .bool qends, .slice qa6 qn6 qc6, .slice qa7 qn7 qc7, .slice qa8 qn8 qc8, .slice qa9 qn9 qc9, .slice qa10 qn10 qc10, .slice qa11 qn11 qc11, .slice qa12 qn12 qc12, .slice qa13 qn13 qc13, .slice qa14 qn14 qc14]] v.w (fun e w' => e = .returned (.bool x) ∧ Below v.w.heap.size v.w w') from fun v => same_is v.w ⟨ra6, rn6, rc6, ra7, rn7, rc7, ra8, rn8, rc8, ra9, rn9, rc9, ra10, rn10, rc10, ra11, rn11, rc11, ra12, rn12, rc12, ra13, rn13, rc13, ra14, rn14, rc14⟩ ⟨qa6, qn6, qc6, qa7, qn7, qc7, qa8, qn8, qc8, qa9, qn9, qc9, qa10, qn10, qc10, qa11, qn11, qc11, qa12, qn12, qc12, qa13, qn13, qc13, qa14, qn14, qc14⟩ ⟨rfreq, ritv, rcnt, rtil, rwkst, rends, rmon, rweek, ryday, rmday, rday, rhour, rminu, rsec, rpos⟩ ⟨qfreq, qitv, qcnt, qtil, qwkst, qends, qmon, qweek, qyday, qmday, qday, qhour, qminu, qsec, qpos⟩ x ((RA.out.below B7).past v) ((QA.out.below B7).past v) HX.out)
            have C3 := Lib.hid (show ∀ v : In (Past w7), Calls Tryz.prog 19 #[.agg #[.int .i64 rfreq, .int .i64 ritv, .int .i64 rcnt, .int .i64 rtil, .int .i64 rwkst, .bool rends, .slice ra6 rn6 rc6, .slice ra7 rn7 rc7, .slice ra8 rn8 rc8, .slice ra9 rn9 rc9, .slice ra10 rn10 rc10, .slice ra11 rn11 rc11, .slice ra12 rn12 rc12, .slice ra13 rn13 rc13, .slice ra14 rn14 rc14], .agg #[.int .i64 qfreq, .int .i64 qitv, .int .i64 qcnt, .int .i64 qtil, .int .i64 qwkst, .bool qends, .slice qa6 qn6 qc6, .slice qa7 qn7 qc7, .slice qa8 qn8 qc8, .slice qa9 qn9 qc9, .slice qa10 qn10 qc10, .slice qa11 qn11 qc11, .slice qa12 qn12 qc12, .slice qa13 qn13 qc13, .slice qa14 qn14 qc14]] v.w (fun e w' => e = .returned (.bool x) ∧ Below v.w.heap.size v.w w') from fun v => rrule_is v.w ⟨ra6, rn6, rc6, ra7, rn7, rc7, ra8, rn8, rc8, ra9, rn9, rc9, ra10, rn10, rc10, ra11, rn11, rc11, ra12, rn12, rc12, ra13, rn13, rc13, ra14, rn14, rc14⟩ ⟨qa6, qn6, qc6, qa7, qn7, qc7, qa8, qn8, qc8, qa9, qn9, qc9, qa10, qn10, qc10, qa11, qn11, qc11, qa12, qn12, qc12, qa13, qn13, qc13, qa14, qn14, qc14⟩ ⟨rfreq, ritv, rcnt, rtil, rwkst, rends, rmon, rweek, ryday, rmday, rday, rhour, rminu, rsec, rpos⟩ ⟨qfreq, qitv, qcnt, qtil, qwkst, qends, qmon, qweek, qyday, qmday, qday, qhour, qminu, qsec, qpos⟩ x ((RA.out.below B7).past v) ((QA.out.below B7).past v) HX.out)
            have C4 := Lib.hid (show ∀ v : In (Past w7), Calls Tryz.prog 19 #[.agg #[.int .i64 rfreq, .int .i64 ritv, .int .i64 rcnt, .int .i64 rtil, .int .i64 rwkst, .bool rends, .slice ca6 cn6 cc6, .slice ca7 cn7 cc7, .slice ca8 cn8 cc8, .slice ca9 cn9 cc9, .slice ca10 cn10 cc10, .slice ca11 cn11 cc11, .slice ca12 cn12 cc12, .slice ca13 cn13 cc13, .slice ca14 cn14 cc14], .agg #[.int .i64 rfreq, .int .i64 ritv, .int .i64 rcnt, .int .i64 rtil, .int .i64 rwkst, .bool rends, .slice ra6 rn6 rc6, .slice ra7 rn7 rc7, .slice ra8 rn8 rc8, .slice ra9 rn9 rc9, .slice ra10 rn10 rc10, .slice ra11 rn11 rc11, .slice ra12 rn12 rc12, .slice ra13 rn13 rc13, .slice ra14 rn14 rc14]] v.w (fun e w' => e = .returned (.bool true) ∧ Below v.w.heap.size v.w w') from fun v => rrule_is v.w ⟨ca6, cn6, cc6, ca7, cn7, cc7, ca8, cn8, cc8, ca9, cn9, cc9, ca10, cn10, cc10, ca11, cn11, cc11, ca12, cn12, cc12, ca13, cn13, cc13, ca14, cn14, cc14⟩ ⟨ra6, rn6, rc6, ra7, rn7, rc7, ra8, rn8, rc8, ra9, rn9, rc9, ra10, rn10, rc10, ra11, rn11, rc11, ra12, rn12, rc12, ra13, rn13, rc13, ra14, rn14, rc14⟩ ⟨rfreq, ritv, rcnt, rtil, rwkst, rends, rmon, rweek, ryday, rmday, rday, rhour, rminu, rsec, rpos⟩ ⟨rfreq, ritv, rcnt, rtil, rwkst, rends, rmon, rweek, ryday, rmday, rday, rhour, rminu, rsec, rpos⟩ true (Rc7.past v) ((RA.out.below B7).past v) (decide_eq_true rfl))
            have p9 : Past w7 w7 := Below.refl _ _
            have hne : Nonempty (In (Past w7)) := ⟨⟨_, p9⟩⟩
            refine wp_region_class (Past w7) (by kernel_rfl) (by kernel_rfl) (Past.drew' p9) ?_
            try simp only [List.append]
            iterate 8 (any_goals (first | go_big_quiet_step ((first | (with_reducible refine quiet_cl Past.on (first_is _ (TV.out _))) | (with_reducible refine quiet_cl Past.on (C0.out _)) | (with_reducible refine quiet_cl Past.on (C1.out _)) | (with_reducible refine quiet_cl Past.on (C2.out _)) | (with_reducible refine quiet_cl Past.on (C3.out _)) | (with_reducible refine quiet_cl Past.on (C4.out _)))) | quiet_step ((first | (with_reducible refine quiet_cl Past.on (first_is _ (TV.out _))) | (with_reducible refine quiet_cl Past.on (C0.out _)) | (with_reducible refine quiet_cl Past.on (C1.out _)) | (with_reducible refine quiet_cl Past.on (C2.out _)) | (with_reducible refine quiet_cl Past.on (C3.out _)) | (with_reducible refine quiet_cl Past.on (C4.out _))))))
            as_aux_lemma =>
              iterate 8 (any_goals (first | go_big_quiet_step ((first | (with_reducible refine quiet_cl Past.on (first_is _ (TV.out _))) | (with_reducible refine quiet_cl Past.on (C0.out _)) | (with_reducible refine quiet_cl Past.on (C1.out _)) | (with_reducible refine quiet_cl Past.on (C2.out _)) | (with_reducible refine quiet_cl Past.on (C3.out _)) | (with_reducible refine quiet_cl Past.on (C4.out _)))) | quiet_step ((first | (with_reducible refine quiet_cl Past.on (first_is _ (TV.out _))) | (with_reducible refine quiet_cl Past.on (C0.out _)) | (with_reducible refine quiet_cl Past.on (C1.out _)) | (with_reducible refine quiet_cl Past.on (C2.out _)) | (with_reducible refine quiet_cl Past.on (C3.out _)) | (with_reducible refine quiet_cl Past.on (C4.out _))))))
              as_aux_lemma =>
                iterate 8 (any_goals (first | go_big_quiet_step ((first | (with_reducible refine quiet_cl Past.on (first_is _ (TV.out _))) | (with_reducible refine quiet_cl Past.on (C0.out _)) | (with_reducible refine quiet_cl Past.on (C1.out _)) | (with_reducible refine quiet_cl Past.on (C2.out _)) | (with_reducible refine quiet_cl Past.on (C3.out _)) | (with_reducible refine quiet_cl Past.on (C4.out _)))) | quiet_step ((first | (with_reducible refine quiet_cl Past.on (first_is _ (TV.out _))) | (with_reducible refine quiet_cl Past.on (C0.out _)) | (with_reducible refine quiet_cl Past.on (C1.out _)) | (with_reducible refine quiet_cl Past.on (C2.out _)) | (with_reducible refine quiet_cl Past.on (C3.out _)) | (with_reducible refine quiet_cl Past.on (C4.out _))))))
                as_aux_lemma =>
                  repeat (any_goals (first | go_big_quiet_step ((first | (with_reducible refine quiet_cl Past.on (first_is _ (TV.out _))) | (with_reducible refine quiet_cl Past.on (C0.out _)) | (with_reducible refine quiet_cl Past.on (C1.out _)) | (with_reducible refine quiet_cl Past.on (C2.out _)) | (with_reducible refine quiet_cl Past.on (C3.out _)) | (with_reducible refine quiet_cl Past.on (C4.out _)))) | quiet_step ((first | (with_reducible refine quiet_cl Past.on (first_is _ (TV.out _))) | (with_reducible refine quiet_cl Past.on (C0.out _)) | (with_reducible refine quiet_cl Past.on (C1.out _)) | (with_reducible refine quiet_cl Past.on (C2.out _)) | (with_reducible refine quiet_cl Past.on (C3.out _)) | (with_reducible refine quiet_cl Past.on (C4.out _))))))
                  refine wpQuiet_nil ?_
                  rintro w' ⟨n9, hq⟩
                  have hb : Below w7.heap.size w7 w' := by rw [hq]; exact n9.h
                  clear hne p9 hq n9
                  go_wp2
                  go_ret
                  exact ⟨rfl, B7.trans (hb.mono B7.size)⟩
end Go.Proofs.YtajgagmpdhmbkaaGreatDoor.Ru
