/- RuleBack answers true (a way). -/
import Derived.Test.YtcngmgpegnmooaaGreatDoorRuPrint
import Derived.Test.YtcngmgpegnmooaaGreatDoorRpZ
import Derived.Test.YtcngmgpegnmooaaGreatDoorRpT
import Derived.Test.YtcngmgpegnmooaaGreatDoorRuLaws
set_option linter.unusedVariables false
namespace Go.Proofs.YtcngmgpegnmooaaGreatDoor.Ru
open Go.RowKit Cv St Go.Proofs.YtcngmgpegnmooaaGreatDoor.Fd

set_option maxRecDepth 100000 in
set_option maxHeartbeats 8000000 in
theorem back_ny (w : World) (T : Tabs w) (S : RS) (r : Ru) (m : ByteArray) (h : RuIn w S r) (hz : m.size ≤ maxLen) (hx1 : fewB S = true) (hl : m.size ≤ 5000) (hm1 : mayR r = false) (hg : (ruParse m.data.toList).2.2 = 0) :
    Calls Tryz.prog 5 #[S.val r, .string m] w fun e w' => e = .returned (.bool true) ∧ Below w.heap.size w w' := by
  unfold maxLen at hz
  have TT := Lib.hid T
  have HK := Lib.hid h
  have X1 := Lib.hid hx1
  have RA0 := h.few hx1
  have il : (m.size : Int) ≤ 5000 := by omega
  have M1 := Lib.hid hm1
  obtain ⟨o, a, x, hp⟩ : ∃ o a x, ruParse m.data.toList = (o, a, x) := ⟨_, _, _, rfl⟩
  have a0 : 0 ≤ a := by have := ruParse_at m.data.toList; rwa [hp] at this
  rw [hp] at hg
  simp only at hg
  subst hg
  obtain ⟨mo, rfl⟩ := ruParse_may hp
  have MO := Lib.hid mo
  obtain ⟨u, hu⟩ : ∃ u, str (ruText o) = u := ⟨_, rfl⟩
  have HU := Lib.hid hu
  have PU := Lib.hid (show ruParse u.data.toList = (o, 0, 0) by rw [← hu, list_str]; exact print_parse mo)
  clear mo hu
  have HP := Lib.hid hp
  clear hp
  obtain ⟨ofreq, oitv, ocnt, otil, owkst, oends, omon, oweek, oyday, omday, oday, ohour, ominu, osec, opos⟩ := o
  clear h T hx1 hm1
  obtain ⟨ra6, rn6, rc6, ra7, rn7, rc7, ra8, rn8, rc8, ra9, rn9, rc9, ra10, rn10, rc10, ra11, rn11, rc11, ra12, rn12, rc12, ra13, rn13, rc13, ra14, rn14, rc14⟩ := S
  obtain ⟨rfreq, ritv, rcnt, rtil, rwkst, rends, rmon, rweek, ryday, rmday, rday, rhour, rminu, rsec, rpos⟩ := r
  show Calls Tryz.prog 5 #[.agg #[.int .i64 rfreq, .int .i64 ritv, .int .i64 rcnt, .int .i64 rtil, .int .i64 rwkst, .bool rends, .slice ra6 rn6 rc6, .slice ra7 rn7 rc7, .slice ra8 rn8 rc8, .slice ra9 rn9 rc9, .slice ra10 rn10 rc10, .slice ra11 rn11 rc11, .slice ra12 rn12 rc12, .slice ra13 rn13 rc13, .slice ra14 rn14 rc14], .string m] w _
  go_enter Tryz.func5, Tryz.ntmps5
  go_upto_region 1 with fail
  have B0 := alloc_below w (.cells #[.int .i64 rfreq, .int .i64 ritv, .int .i64 rcnt, .int .i64 rtil, .int .i64 rwkst, .bool rends, .slice ra6 rn6 rc6, .slice ra7 rn7 rc7, .slice ra8 rn8 rc8, .slice ra9 rn9 rc9, .slice ra10 rn10 rc10, .slice ra11 rn11 rc11, .slice ra12 rn12 rc12, .slice ra13 rn13 rc13, .slice ra14 rn14 rc14] 25)
  have Xr0 := Box.new w #[.int .i64 rfreq, .int .i64 ritv, .int .i64 rcnt, .int .i64 rtil, .int .i64 rwkst, .bool rends, .slice ra6 rn6 rc6, .slice ra7 rn7 rc7, .slice ra8 rn8 rc8, .slice ra9 rn9 rc9, .slice ra10 rn10 rc10, .slice ra11 rn11 rc11, .slice ra12 rn12 rc12, .slice ra13 rn13 rc13, .slice ra14 rn14 rc14] 25
  generalize w.alloc (.cells #[.int .i64 rfreq, .int .i64 ritv, .int .i64 rcnt, .int .i64 rtil, .int .i64 rwkst, .bool rends, .slice ra6 rn6 rc6, .slice ra7 rn7 rc7, .slice ra8 rn8 rc8, .slice ra9 rn9 rc9, .slice ra10 rn10 rc10, .slice ra11 rn11 rc11, .slice ra12 rn12 rc12, .slice ra13 rn13 rc13, .slice ra14 rn14 rc14] 25) = w0 at *

  go_wp2_with fail
  refine (first_is _ (TT.out.on B0)).mono ?_
  rintro e w1 ⟨rfl, b1⟩
  have B1 := B0.trans (b1.mono B0.size)
  have Xr1 := Xr0.below b1
  clear B0 Xr0
  clear b1
  have Rr1 := RA0.below B1
  have rz0 : w1.cell? ⟨w.heap.size, 0, none⟩ = some (.int .i64 rfreq) := Xr1.at_ 0 _ rfl
  have rz1 : w1.cell? ⟨w.heap.size, 1, none⟩ = some (.int .i64 ritv) := Xr1.at_ 1 _ rfl
  have rz2 : w1.cell? ⟨w.heap.size, 2, none⟩ = some (.int .i64 rcnt) := Xr1.at_ 2 _ rfl
  have rz3 : w1.cell? ⟨w.heap.size, 3, none⟩ = some (.int .i64 rtil) := Xr1.at_ 3 _ rfl
  have rz4 : w1.cell? ⟨w.heap.size, 4, none⟩ = some (.int .i64 rwkst) := Xr1.at_ 4 _ rfl
  have rz5 : w1.cell? ⟨w.heap.size, 5, none⟩ = some (.bool rends) := Xr1.at_ 5 _ rfl
  have rz6 : w1.cell? ⟨w.heap.size, 6, none⟩ = some (.slice ra6 rn6 rc6) := Xr1.at_ 6 _ rfl
  have rz7 : w1.cell? ⟨w.heap.size, 7, none⟩ = some (.slice ra7 rn7 rc7) := Xr1.at_ 7 _ rfl
  have rz8 : w1.cell? ⟨w.heap.size, 8, none⟩ = some (.slice ra8 rn8 rc8) := Xr1.at_ 8 _ rfl
  have rz9 : w1.cell? ⟨w.heap.size, 9, none⟩ = some (.slice ra9 rn9 rc9) := Xr1.at_ 9 _ rfl
  have rz10 : w1.cell? ⟨w.heap.size, 10, none⟩ = some (.slice ra10 rn10 rc10) := Xr1.at_ 10 _ rfl
  have rz11 : w1.cell? ⟨w.heap.size, 11, none⟩ = some (.slice ra11 rn11 rc11) := Xr1.at_ 11 _ rfl
  have rz12 : w1.cell? ⟨w.heap.size, 12, none⟩ = some (.slice ra12 rn12 rc12) := Xr1.at_ 12 _ rfl
  have rz13 : w1.cell? ⟨w.heap.size, 13, none⟩ = some (.slice ra13 rn13 rc13) := Xr1.at_ 13 _ rfl
  have rz14 : w1.cell? ⟨w.heap.size, 14, none⟩ = some (.slice ra14 rn14 rc14) := Xr1.at_ 14 _ rfl
  go_wp2_with fail
  refine (few_is _ ⟨ra6, rn6, rc6, ra7, rn7, rc7, ra8, rn8, rc8, ra9, rn9, rc9, ra10, rn10, rc10, ra11, rn11, rc11, ra12, rn12, rc12, ra13, rn13, rc13, ra14, rn14, rc14⟩ ⟨rfreq, ritv, rcnt, rtil, rwkst, rends, rmon, rweek, ryday, rmday, rday, rhour, rminu, rsec, rpos⟩ true HK.out.k6 HK.out.k7 HK.out.k8 HK.out.k9 HK.out.k10 HK.out.k11 HK.out.k12 HK.out.k13 HK.out.k14 X1.out).mono ?_
  rintro e w2 ⟨rfl, b2⟩
  clear rz0 rz1 rz2 rz3 rz4 rz5 rz6 rz7 rz8 rz9 rz10 rz11 rz12 rz13 rz14
  have B2 := B1.trans (b2.mono B1.size)
  have Xr2 := Xr1.below b2
  have Rr2 := Rr1.below b2
  clear B1 Xr1 Rr1
  clear b2
  have rz0 : w2.cell? ⟨w.heap.size, 0, none⟩ = some (.int .i64 rfreq) := Xr2.at_ 0 _ rfl
  have rz1 : w2.cell? ⟨w.heap.size, 1, none⟩ = some (.int .i64 ritv) := Xr2.at_ 1 _ rfl
  have rz2 : w2.cell? ⟨w.heap.size, 2, none⟩ = some (.int .i64 rcnt) := Xr2.at_ 2 _ rfl
  have rz3 : w2.cell? ⟨w.heap.size, 3, none⟩ = some (.int .i64 rtil) := Xr2.at_ 3 _ rfl
  have rz4 : w2.cell? ⟨w.heap.size, 4, none⟩ = some (.int .i64 rwkst) := Xr2.at_ 4 _ rfl
  have rz5 : w2.cell? ⟨w.heap.size, 5, none⟩ = some (.bool rends) := Xr2.at_ 5 _ rfl
  have rz6 : w2.cell? ⟨w.heap.size, 6, none⟩ = some (.slice ra6 rn6 rc6) := Xr2.at_ 6 _ rfl
  have rz7 : w2.cell? ⟨w.heap.size, 7, none⟩ = some (.slice ra7 rn7 rc7) := Xr2.at_ 7 _ rfl
  have rz8 : w2.cell? ⟨w.heap.size, 8, none⟩ = some (.slice ra8 rn8 rc8) := Xr2.at_ 8 _ rfl
  have rz9 : w2.cell? ⟨w.heap.size, 9, none⟩ = some (.slice ra9 rn9 rc9) := Xr2.at_ 9 _ rfl
  have rz10 : w2.cell? ⟨w.heap.size, 10, none⟩ = some (.slice ra10 rn10 rc10) := Xr2.at_ 10 _ rfl
  have rz11 : w2.cell? ⟨w.heap.size, 11, none⟩ = some (.slice ra11 rn11 rc11) := Xr2.at_ 11 _ rfl
  have rz12 : w2.cell? ⟨w.heap.size, 12, none⟩ = some (.slice ra12 rn12 rc12) := Xr2.at_ 12 _ rfl
  have rz13 : w2.cell? ⟨w.heap.size, 13, none⟩ = some (.slice ra13 rn13 rc13) := Xr2.at_ 13 _ rfl
  have rz14 : w2.cell? ⟨w.heap.size, 14, none⟩ = some (.slice ra14 rn14 rc14) := Xr2.at_ 14 _ rfl
  go_wp2_with fail
  refine (print_no _ ⟨ra6, rn6, rc6, ra7, rn7, rc7, ra8, rn8, rc8, ra9, rn9, rc9, ra10, rn10, rc10, ra11, rn11, rc11, ra12, rn12, rc12, ra13, rn13, rc13, ra14, rn14, rc14⟩ ⟨rfreq, ritv, rcnt, rtil, rwkst, rends, rmon, rweek, ryday, rmday, rday, rhour, rminu, rsec, rpos⟩ Rr2 M1.out).mono ?_
  rintro e w3 ⟨rfl, b3⟩
  clear rz0 rz1 rz2 rz3 rz4 rz5 rz6 rz7 rz8 rz9 rz10 rz11 rz12 rz13 rz14
  have B3 := B2.trans (b3.mono B2.size)
  have Xr3 := Xr2.below b3
  have Rr3 := Rr2.below b3
  clear B2 Xr2 Rr2
  clear b3
  have rz0 : w3.cell? ⟨w.heap.size, 0, none⟩ = some (.int .i64 rfreq) := Xr3.at_ 0 _ rfl
  have rz1 : w3.cell? ⟨w.heap.size, 1, none⟩ = some (.int .i64 ritv) := Xr3.at_ 1 _ rfl
  have rz2 : w3.cell? ⟨w.heap.size, 2, none⟩ = some (.int .i64 rcnt) := Xr3.at_ 2 _ rfl
  have rz3 : w3.cell? ⟨w.heap.size, 3, none⟩ = some (.int .i64 rtil) := Xr3.at_ 3 _ rfl
  have rz4 : w3.cell? ⟨w.heap.size, 4, none⟩ = some (.int .i64 rwkst) := Xr3.at_ 4 _ rfl
  have rz5 : w3.cell? ⟨w.heap.size, 5, none⟩ = some (.bool rends) := Xr3.at_ 5 _ rfl
  have rz6 : w3.cell? ⟨w.heap.size, 6, none⟩ = some (.slice ra6 rn6 rc6) := Xr3.at_ 6 _ rfl
  have rz7 : w3.cell? ⟨w.heap.size, 7, none⟩ = some (.slice ra7 rn7 rc7) := Xr3.at_ 7 _ rfl
  have rz8 : w3.cell? ⟨w.heap.size, 8, none⟩ = some (.slice ra8 rn8 rc8) := Xr3.at_ 8 _ rfl
  have rz9 : w3.cell? ⟨w.heap.size, 9, none⟩ = some (.slice ra9 rn9 rc9) := Xr3.at_ 9 _ rfl
  have rz10 : w3.cell? ⟨w.heap.size, 10, none⟩ = some (.slice ra10 rn10 rc10) := Xr3.at_ 10 _ rfl
  have rz11 : w3.cell? ⟨w.heap.size, 11, none⟩ = some (.slice ra11 rn11 rc11) := Xr3.at_ 11 _ rfl
  have rz12 : w3.cell? ⟨w.heap.size, 12, none⟩ = some (.slice ra12 rn12 rc12) := Xr3.at_ 12 _ rfl
  have rz13 : w3.cell? ⟨w.heap.size, 13, none⟩ = some (.slice ra13 rn13 rc13) := Xr3.at_ 13 _ rfl
  have rz14 : w3.cell? ⟨w.heap.size, 14, none⟩ = some (.slice ra14 rn14 rc14) := Xr3.at_ 14 _ rfl
  go_wp2_with fail
  refine (may_r _ ⟨ra6, rn6, rc6, ra7, rn7, rc7, ra8, rn8, rc8, ra9, rn9, rc9, ra10, rn10, rc10, ra11, rn11, rc11, ra12, rn12, rc12, ra13, rn13, rc13, ra14, rn14, rc14⟩ ⟨rfreq, ritv, rcnt, rtil, rwkst, rends, rmon, rweek, ryday, rmday, rday, rhour, rminu, rsec, rpos⟩ false Rr3 M1.out).mono ?_
  rintro e w4 ⟨rfl, b4⟩
  clear rz0 rz1 rz2 rz3 rz4 rz5 rz6 rz7 rz8 rz9 rz10 rz11 rz12 rz13 rz14
  have B4 := B3.trans (b4.mono B3.size)
  have Xr4 := Xr3.below b4
  have Rr4 := Rr3.below b4
  clear B3 Xr3 Rr3
  clear b4
  clear Xr4 Rr4
  go_wp2_with fail
  refine (parse_ok m _ (TT.out.on B4) ⟨ofreq, oitv, ocnt, otil, owkst, oends, omon, oweek, oyday, omday, oday, ohour, ominu, osec, opos⟩ 0 0 HP.out).mono ?_
  rintro e w5 ⟨⟨qa6, qn6, qc6, qa7, qn7, qc7, qa8, qn8, qc8, qa9, qn9, qc9, qa10, qn10, qc10, qa11, qn11, qc11, qa12, qn12, qc12, qa13, qn13, qc13, qa14, qn14, qc14⟩, he, hS, b5⟩
  replace he : e = .returned (.tuple #[.agg #[.int .i64 ofreq, .int .i64 oitv, .int .i64 ocnt, .int .i64 otil, .int .i64 owkst, .bool oends, .slice qa6 qn6 qc6, .slice qa7 qn7 qc7, .slice qa8 qn8 qc8, .slice qa9 qn9 qc9, .slice qa10 qn10 qc10, .slice qa11 qn11 qc11, .slice qa12 qn12 qc12, .slice qa13 qn13 qc13, .slice qa14 qn14 qc14], .int .i64 0, .int .i64 0]) := he
  subst he
  have B5 := B4.trans (b5.mono B4.size)
  clear B4
  clear b5
  go_upto_region 13 with fail
  have b6 := alloc_below w5 (.cells #[.int .i64 ofreq, .int .i64 oitv, .int .i64 ocnt, .int .i64 otil, .int .i64 owkst, .bool oends, .slice qa6 qn6 qc6, .slice qa7 qn7 qc7, .slice qa8 qn8 qc8, .slice qa9 qn9 qc9, .slice qa10 qn10 qc10, .slice qa11 qn11 qc11, .slice qa12 qn12 qc12, .slice qa13 qn13 qc13, .slice qa14 qn14 qc14] 25)
  have Xq6 := Box.new w5 #[.int .i64 ofreq, .int .i64 oitv, .int .i64 ocnt, .int .i64 otil, .int .i64 owkst, .bool oends, .slice qa6 qn6 qc6, .slice qa7 qn7 qc7, .slice qa8 qn8 qc8, .slice qa9 qn9 qc9, .slice qa10 qn10 qc10, .slice qa11 qn11 qc11, .slice qa12 qn12 qc12, .slice qa13 qn13 qc13, .slice qa14 qn14 qc14] 25
  have Rq6 := hS.below b6
  clear hS
  generalize w5.alloc (.cells #[.int .i64 ofreq, .int .i64 oitv, .int .i64 ocnt, .int .i64 otil, .int .i64 owkst, .bool oends, .slice qa6 qn6 qc6, .slice qa7 qn7 qc7, .slice qa8 qn8 qc8, .slice qa9 qn9 qc9, .slice qa10 qn10 qc10, .slice qa11 qn11 qc11, .slice qa12 qn12 qc12, .slice qa13 qn13 qc13, .slice qa14 qn14 qc14] 25) = w6 at *
  have B6 := B5.trans (b6.mono B5.size)
  clear B5
  clear b6
  as_aux_lemma =>
    have qz0 : w6.cell? ⟨w5.heap.size, 0, none⟩ = some (.int .i64 ofreq) := Xq6.at_ 0 _ rfl
    have qz1 : w6.cell? ⟨w5.heap.size, 1, none⟩ = some (.int .i64 oitv) := Xq6.at_ 1 _ rfl
    have qz2 : w6.cell? ⟨w5.heap.size, 2, none⟩ = some (.int .i64 ocnt) := Xq6.at_ 2 _ rfl
    have qz3 : w6.cell? ⟨w5.heap.size, 3, none⟩ = some (.int .i64 otil) := Xq6.at_ 3 _ rfl
    have qz4 : w6.cell? ⟨w5.heap.size, 4, none⟩ = some (.int .i64 owkst) := Xq6.at_ 4 _ rfl
    have qz5 : w6.cell? ⟨w5.heap.size, 5, none⟩ = some (.bool oends) := Xq6.at_ 5 _ rfl
    have qz6 : w6.cell? ⟨w5.heap.size, 6, none⟩ = some (.slice qa6 qn6 qc6) := Xq6.at_ 6 _ rfl
    have qz7 : w6.cell? ⟨w5.heap.size, 7, none⟩ = some (.slice qa7 qn7 qc7) := Xq6.at_ 7 _ rfl
    have qz8 : w6.cell? ⟨w5.heap.size, 8, none⟩ = some (.slice qa8 qn8 qc8) := Xq6.at_ 8 _ rfl
    have qz9 : w6.cell? ⟨w5.heap.size, 9, none⟩ = some (.slice qa9 qn9 qc9) := Xq6.at_ 9 _ rfl
    have qz10 : w6.cell? ⟨w5.heap.size, 10, none⟩ = some (.slice qa10 qn10 qc10) := Xq6.at_ 10 _ rfl
    have qz11 : w6.cell? ⟨w5.heap.size, 11, none⟩ = some (.slice qa11 qn11 qc11) := Xq6.at_ 11 _ rfl
    have qz12 : w6.cell? ⟨w5.heap.size, 12, none⟩ = some (.slice qa12 qn12 qc12) := Xq6.at_ 12 _ rfl
    have qz13 : w6.cell? ⟨w5.heap.size, 13, none⟩ = some (.slice qa13 qn13 qc13) := Xq6.at_ 13 _ rfl
    have qz14 : w6.cell? ⟨w5.heap.size, 14, none⟩ = some (.slice qa14 qn14 qc14) := Xq6.at_ 14 _ rfl
    go_wp2_with fail
    refine (print_yes _ (TT.out.on B6) ⟨qa6, qn6, qc6, qa7, qn7, qc7, qa8, qn8, qc8, qa9, qn9, qc9, qa10, qn10, qc10, qa11, qn11, qc11, qa12, qn12, qc12, qa13, qn13, qc13, qa14, qn14, qc14⟩ ⟨ofreq, oitv, ocnt, otil, owkst, oends, omon, oweek, oyday, omday, oday, ohour, ominu, osec, opos⟩ Rq6 MO.out u HU.out).mono ?_
    rintro e w7 ⟨rfl, b7⟩
    clear qz0 qz1 qz2 qz3 qz4 qz5 qz6 qz7 qz8 qz9 qz10 qz11 qz12 qz13 qz14
    have B7 := B6.trans (b7.mono B6.size)
    have Xq7 := Xq6.below b7
    have Rq7 := Rq6.below b7
    clear B6 Xq6 Rq6
    clear b7
    as_aux_lemma =>
      go_wp2_with fail
      refine (parse_ok u _ (TT.out.on B7) ⟨ofreq, oitv, ocnt, otil, owkst, oends, omon, oweek, oyday, omday, oday, ohour, ominu, osec, opos⟩ 0 0 PU.out).mono ?_
      rintro e w8 ⟨⟨va6, vn6, vc6, va7, vn7, vc7, va8, vn8, vc8, va9, vn9, vc9, va10, vn10, vc10, va11, vn11, vc11, va12, vn12, vc12, va13, vn13, vc13, va14, vn14, vc14⟩, he, hS, b8⟩
      replace he : e = .returned (.tuple #[.agg #[.int .i64 ofreq, .int .i64 oitv, .int .i64 ocnt, .int .i64 otil, .int .i64 owkst, .bool oends, .slice va6 vn6 vc6, .slice va7 vn7 vc7, .slice va8 vn8 vc8, .slice va9 vn9 vc9, .slice va10 vn10 vc10, .slice va11 vn11 vc11, .slice va12 vn12 vc12, .slice va13 vn13 vc13, .slice va14 vn14 vc14], .int .i64 0, .int .i64 0]) := he
      subst he
      have B8 := B7.trans (b8.mono B7.size)
      have Xq8 := Xq7.below b8
      have Rq8 := Rq7.below b8
      clear B7 Xq7 Rq7
      clear b8
      go_upto_region 17 with fail
      have b9 := alloc_below w8 (.cells #[.int .i64 ofreq, .int .i64 oitv, .int .i64 ocnt, .int .i64 otil, .int .i64 owkst, .bool oends, .slice va6 vn6 vc6, .slice va7 vn7 vc7, .slice va8 vn8 vc8, .slice va9 vn9 vc9, .slice va10 vn10 vc10, .slice va11 vn11 vc11, .slice va12 vn12 vc12, .slice va13 vn13 vc13, .slice va14 vn14 vc14] 25)
      have Xv9 := Box.new w8 #[.int .i64 ofreq, .int .i64 oitv, .int .i64 ocnt, .int .i64 otil, .int .i64 owkst, .bool oends, .slice va6 vn6 vc6, .slice va7 vn7 vc7, .slice va8 vn8 vc8, .slice va9 vn9 vc9, .slice va10 vn10 vc10, .slice va11 vn11 vc11, .slice va12 vn12 vc12, .slice va13 vn13 vc13, .slice va14 vn14 vc14] 25
      have Rv9 := hS.below b9
      clear hS
      generalize w8.alloc (.cells #[.int .i64 ofreq, .int .i64 oitv, .int .i64 ocnt, .int .i64 otil, .int .i64 owkst, .bool oends, .slice va6 vn6 vc6, .slice va7 vn7 vc7, .slice va8 vn8 vc8, .slice va9 vn9 vc9, .slice va10 vn10 vc10, .slice va11 vn11 vc11, .slice va12 vn12 vc12, .slice va13 vn13 vc13, .slice va14 vn14 vc14] 25) = w9 at *
      have B9 := B8.trans (b9.mono B8.size)
      have Xq9 := Xq8.below b9
      have Rq9 := Rq8.below b9
      clear B8 Xq8 Rq8
      clear b9
      go_wp2_with fail
      refine (first_is _ (TT.out.on B9)).mono ?_
      rintro e w10 ⟨rfl, b10⟩
      have B10 := B9.trans (b10.mono B9.size)
      have Xq10 := Xq9.below b10
      have Xv10 := Xv9.below b10
      have Rq10 := Rq9.below b10
      have Rv10 := Rv9.below b10
      clear B9 Xq9 Xv9 Rq9 Rv9
      clear b10
      have qz0 : w10.cell? ⟨w5.heap.size, 0, none⟩ = some (.int .i64 ofreq) := Xq10.at_ 0 _ rfl
      have qz1 : w10.cell? ⟨w5.heap.size, 1, none⟩ = some (.int .i64 oitv) := Xq10.at_ 1 _ rfl
      have qz2 : w10.cell? ⟨w5.heap.size, 2, none⟩ = some (.int .i64 ocnt) := Xq10.at_ 2 _ rfl
      have qz3 : w10.cell? ⟨w5.heap.size, 3, none⟩ = some (.int .i64 otil) := Xq10.at_ 3 _ rfl
      have qz4 : w10.cell? ⟨w5.heap.size, 4, none⟩ = some (.int .i64 owkst) := Xq10.at_ 4 _ rfl
      have qz5 : w10.cell? ⟨w5.heap.size, 5, none⟩ = some (.bool oends) := Xq10.at_ 5 _ rfl
      have qz6 : w10.cell? ⟨w5.heap.size, 6, none⟩ = some (.slice qa6 qn6 qc6) := Xq10.at_ 6 _ rfl
      have qz7 : w10.cell? ⟨w5.heap.size, 7, none⟩ = some (.slice qa7 qn7 qc7) := Xq10.at_ 7 _ rfl
      have qz8 : w10.cell? ⟨w5.heap.size, 8, none⟩ = some (.slice qa8 qn8 qc8) := Xq10.at_ 8 _ rfl
      have qz9 : w10.cell? ⟨w5.heap.size, 9, none⟩ = some (.slice qa9 qn9 qc9) := Xq10.at_ 9 _ rfl
      have qz10 : w10.cell? ⟨w5.heap.size, 10, none⟩ = some (.slice qa10 qn10 qc10) := Xq10.at_ 10 _ rfl
      have qz11 : w10.cell? ⟨w5.heap.size, 11, none⟩ = some (.slice qa11 qn11 qc11) := Xq10.at_ 11 _ rfl
      have qz12 : w10.cell? ⟨w5.heap.size, 12, none⟩ = some (.slice qa12 qn12 qc12) := Xq10.at_ 12 _ rfl
      have qz13 : w10.cell? ⟨w5.heap.size, 13, none⟩ = some (.slice qa13 qn13 qc13) := Xq10.at_ 13 _ rfl
      have qz14 : w10.cell? ⟨w5.heap.size, 14, none⟩ = some (.slice qa14 qn14 qc14) := Xq10.at_ 14 _ rfl
      go_wp2_with fail
      refine (may_r _ ⟨qa6, qn6, qc6, qa7, qn7, qc7, qa8, qn8, qc8, qa9, qn9, qc9, qa10, qn10, qc10, qa11, qn11, qc11, qa12, qn12, qc12, qa13, qn13, qc13, qa14, qn14, qc14⟩ ⟨ofreq, oitv, ocnt, otil, owkst, oends, omon, oweek, oyday, omday, oday, ohour, ominu, osec, opos⟩ true Rq10 MO.out).mono ?_
      rintro e w11 ⟨rfl, b11⟩
      clear qz0 qz1 qz2 qz3 qz4 qz5 qz6 qz7 qz8 qz9 qz10 qz11 qz12 qz13 qz14
      have B11 := B10.trans (b11.mono B10.size)
      have Xq11 := Xq10.below b11
      have Xv11 := Xv10.below b11
      have Rq11 := Rq10.below b11
      have Rv11 := Rv10.below b11
      clear B10 Xq10 Xv10 Rq10 Rv10
      clear b11
      have vz0 : w11.cell? ⟨w8.heap.size, 0, none⟩ = some (.int .i64 ofreq) := Xv11.at_ 0 _ rfl
      have vz1 : w11.cell? ⟨w8.heap.size, 1, none⟩ = some (.int .i64 oitv) := Xv11.at_ 1 _ rfl
      have vz2 : w11.cell? ⟨w8.heap.size, 2, none⟩ = some (.int .i64 ocnt) := Xv11.at_ 2 _ rfl
      have vz3 : w11.cell? ⟨w8.heap.size, 3, none⟩ = some (.int .i64 otil) := Xv11.at_ 3 _ rfl
      have vz4 : w11.cell? ⟨w8.heap.size, 4, none⟩ = some (.int .i64 owkst) := Xv11.at_ 4 _ rfl
      have vz5 : w11.cell? ⟨w8.heap.size, 5, none⟩ = some (.bool oends) := Xv11.at_ 5 _ rfl
      have vz6 : w11.cell? ⟨w8.heap.size, 6, none⟩ = some (.slice va6 vn6 vc6) := Xv11.at_ 6 _ rfl
      have vz7 : w11.cell? ⟨w8.heap.size, 7, none⟩ = some (.slice va7 vn7 vc7) := Xv11.at_ 7 _ rfl
      have vz8 : w11.cell? ⟨w8.heap.size, 8, none⟩ = some (.slice va8 vn8 vc8) := Xv11.at_ 8 _ rfl
      have vz9 : w11.cell? ⟨w8.heap.size, 9, none⟩ = some (.slice va9 vn9 vc9) := Xv11.at_ 9 _ rfl
      have vz10 : w11.cell? ⟨w8.heap.size, 10, none⟩ = some (.slice va10 vn10 vc10) := Xv11.at_ 10 _ rfl
      have vz11 : w11.cell? ⟨w8.heap.size, 11, none⟩ = some (.slice va11 vn11 vc11) := Xv11.at_ 11 _ rfl
      have vz12 : w11.cell? ⟨w8.heap.size, 12, none⟩ = some (.slice va12 vn12 vc12) := Xv11.at_ 12 _ rfl
      have vz13 : w11.cell? ⟨w8.heap.size, 13, none⟩ = some (.slice va13 vn13 vc13) := Xv11.at_ 13 _ rfl
      have vz14 : w11.cell? ⟨w8.heap.size, 14, none⟩ = some (.slice va14 vn14 vc14) := Xv11.at_ 14 _ rfl
      have qz0 : w11.cell? ⟨w5.heap.size, 0, none⟩ = some (.int .i64 ofreq) := Xq11.at_ 0 _ rfl
      have qz1 : w11.cell? ⟨w5.heap.size, 1, none⟩ = some (.int .i64 oitv) := Xq11.at_ 1 _ rfl
      have qz2 : w11.cell? ⟨w5.heap.size, 2, none⟩ = some (.int .i64 ocnt) := Xq11.at_ 2 _ rfl
      have qz3 : w11.cell? ⟨w5.heap.size, 3, none⟩ = some (.int .i64 otil) := Xq11.at_ 3 _ rfl
      have qz4 : w11.cell? ⟨w5.heap.size, 4, none⟩ = some (.int .i64 owkst) := Xq11.at_ 4 _ rfl
      have qz5 : w11.cell? ⟨w5.heap.size, 5, none⟩ = some (.bool oends) := Xq11.at_ 5 _ rfl
      have qz6 : w11.cell? ⟨w5.heap.size, 6, none⟩ = some (.slice qa6 qn6 qc6) := Xq11.at_ 6 _ rfl
      have qz7 : w11.cell? ⟨w5.heap.size, 7, none⟩ = some (.slice qa7 qn7 qc7) := Xq11.at_ 7 _ rfl
      have qz8 : w11.cell? ⟨w5.heap.size, 8, none⟩ = some (.slice qa8 qn8 qc8) := Xq11.at_ 8 _ rfl
      have qz9 : w11.cell? ⟨w5.heap.size, 9, none⟩ = some (.slice qa9 qn9 qc9) := Xq11.at_ 9 _ rfl
      have qz10 : w11.cell? ⟨w5.heap.size, 10, none⟩ = some (.slice qa10 qn10 qc10) := Xq11.at_ 10 _ rfl
      have qz11 : w11.cell? ⟨w5.heap.size, 11, none⟩ = some (.slice qa11 qn11 qc11) := Xq11.at_ 11 _ rfl
      have qz12 : w11.cell? ⟨w5.heap.size, 12, none⟩ = some (.slice qa12 qn12 qc12) := Xq11.at_ 12 _ rfl
      have qz13 : w11.cell? ⟨w5.heap.size, 13, none⟩ = some (.slice qa13 qn13 qc13) := Xq11.at_ 13 _ rfl
      have qz14 : w11.cell? ⟨w5.heap.size, 14, none⟩ = some (.slice qa14 qn14 qc14) := Xq11.at_ 14 _ rfl
      go_wp2_with fail
      refine (same_is _ ⟨va6, vn6, vc6, va7, vn7, vc7, va8, vn8, vc8, va9, vn9, vc9, va10, vn10, vc10, va11, vn11, vc11, va12, vn12, vc12, va13, vn13, vc13, va14, vn14, vc14⟩ ⟨qa6, qn6, qc6, qa7, qn7, qc7, qa8, qn8, qc8, qa9, qn9, qc9, qa10, qn10, qc10, qa11, qn11, qc11, qa12, qn12, qc12, qa13, qn13, qc13, qa14, qn14, qc14⟩ ⟨ofreq, oitv, ocnt, otil, owkst, oends, omon, oweek, oyday, omday, oday, ohour, ominu, osec, opos⟩ ⟨ofreq, oitv, ocnt, otil, owkst, oends, omon, oweek, oyday, omday, oday, ohour, ominu, osec, opos⟩ true Rv11 Rq11 (decide_eq_true rfl)).mono ?_
      rintro e w12 ⟨rfl, b12⟩
      clear vz0 vz1 vz2 vz3 vz4 vz5 vz6 vz7 vz8 vz9 vz10 vz11 vz12 vz13 vz14 qz0 qz1 qz2 qz3 qz4 qz5 qz6 qz7 qz8 qz9 qz10 qz11 qz12 qz13 qz14
      have B12 := B11.trans (b12.mono B11.size)
      have Xq12 := Xq11.below b12
      have Xv12 := Xv11.below b12
      have Rq12 := Rq11.below b12
      have Rv12 := Rv11.below b12
      clear B11 Xq11 Xv11 Rq11 Rv11
      clear b12
      go_wp2
      go_ret
      exact ⟨rfl, B12⟩
end Go.Proofs.YtcngmgpegnmooaaGreatDoor.Ru
