/- MemberEnds answers true. -/
import Derived.Test.YtajgagmpdhmbkaaGreatDoorMbIn
set_option linter.unusedVariables false
namespace Go.Proofs.YtajgagmpdhmbkaaGreatDoor.Mb
open Go.RowKit Cv St Ru Dd

set_option maxRecDepth 100000 in
set_option maxHeartbeats 16000000 in
theorem ends_walk (w : World) (T : Tabs w) (S : RS) (r : Ru) (start t un : Int) (h : RuIn w S r) (l3 : -9223372036854775808 ≤ un) (u3 : un ≤ 9223372036854775807) :
    Calls Tryz.prog 9 #[S.val r, .int .i64 start, .int .i64 t, .int .i64 un] w fun e w' => e = .returned (.bool true) ∧ Below w.heap.size w w' := by
  have TT := Lib.hid T
  have HK := Lib.hid h
  have FEW := Lib.hid (fun (e : fewB S = true) => h.few e)
  obtain ⟨m, hm⟩ : ∃ m, mayR (endR r un) = m := ⟨_, rfl⟩
  obtain ⟨xa, hxa⟩ : ∃ x, hasM (freeR r) start t = x := ⟨_, rfl⟩
  have HM := Lib.hid hm
  have HA := Lib.hid hxa
  have HB := Lib.hid (fun (e : m = true) => show hasM (endR r un) start t = (xa && decide (t ≤ un)) by rw [← hxa]; exact ends_has (hm.trans e))
  clear hm hxa
  clear h T
  obtain ⟨ra6, rn6, rc6, ra7, rn7, rc7, ra8, rn8, rc8, ra9, rn9, rc9, ra10, rn10, rc10, ra11, rn11, rc11, ra12, rn12, rc12, ra13, rn13, rc13, ra14, rn14, rc14⟩ := S
  obtain ⟨rfreq, ritv, rcnt, rtil, rwkst, rends, rmon, rweek, ryday, rmday, rday, rhour, rminu, rsec, rpos⟩ := r
  show Calls Tryz.prog 9 #[.agg #[.int .i64 rfreq, .int .i64 ritv, .int .i64 rcnt, .int .i64 rtil, .int .i64 rwkst, .bool rends, .slice ra6 rn6 rc6, .slice ra7 rn7 rc7, .slice ra8 rn8 rc8, .slice ra9 rn9 rc9, .slice ra10 rn10 rc10, .slice ra11 rn11 rc11, .slice ra12 rn12 rc12, .slice ra13 rn13 rc13, .slice ra14 rn14 rc14], .int .i64 start, .int .i64 t, .int .i64 un] w _
  go_enter Tryz.func9, Tryz.ntmps9
  go_upto_region 1 with fail
  have B0 := alloc_below w (.cells #[.int .i64 rfreq, .int .i64 ritv, .int .i64 rcnt, .int .i64 rtil, .int .i64 rwkst, .bool rends, .slice ra6 rn6 rc6, .slice ra7 rn7 rc7, .slice ra8 rn8 rc8, .slice ra9 rn9 rc9, .slice ra10 rn10 rc10, .slice ra11 rn11 rc11, .slice ra12 rn12 rc12, .slice ra13 rn13 rc13, .slice ra14 rn14 rc14] 25)
  have Xr0 := Box.new w #[.int .i64 rfreq, .int .i64 ritv, .int .i64 rcnt, .int .i64 rtil, .int .i64 rwkst, .bool rends, .slice ra6 rn6 rc6, .slice ra7 rn7 rc7, .slice ra8 rn8 rc8, .slice ra9 rn9 rc9, .slice ra10 rn10 rc10, .slice ra11 rn11 rc11, .slice ra12 rn12 rc12, .slice ra13 rn13 rc13, .slice ra14 rn14 rc14] 25
  generalize w.alloc (.cells #[.int .i64 rfreq, .int .i64 ritv, .int .i64 rcnt, .int .i64 rtil, .int .i64 rwkst, .bool rends, .slice ra6 rn6 rc6, .slice ra7 rn7 rc7, .slice ra8 rn8 rc8, .slice ra9 rn9 rc9, .slice ra10 rn10 rc10, .slice ra11 rn11 rc11, .slice ra12 rn12 rc12, .slice ra13 rn13 rc13, .slice ra14 rn14 rc14] 25) = w0 at *
  go_wp2_with fail
  refine (first7_is _ (TT.out.on B0)).mono ?_
  rintro e w1 ⟨rfl, b1⟩
  have B1 := B0.trans (b1.mono B0.size)
  have Xr1 := Xr0.below b1
  clear B0 Xr0
  clear b1
  have HM := Lib.hid (show mayR ⟨rfreq, ritv, 0, un, rwkst, true, rmon, rweek, ryday, rmday, rday, rhour, rminu, rsec, rpos⟩ = m from HM.out)
  have HA := Lib.hid (show hasM ⟨rfreq, ritv, 0, 0, rwkst, false, rmon, rweek, ryday, rmday, rday, rhour, rminu, rsec, rpos⟩ start t = xa from HA.out)
  have HBF := Lib.hid (fun (e : m = true) => show hasM ⟨rfreq, ritv, 0, un, rwkst, true, rmon, rweek, ryday, rmday, rday, rhour, rminu, rsec, rpos⟩ start t = (xa && decide (t ≤ un)) from HB.out e)
  clear HB
  have rz0 : w1.cell? ⟨w.heap.size, 0, none⟩ = some (.int .i64 rfreq) := Xr1.at_ 0 _ rfl
  have rz1 : w1.cell? ⟨w.heap.size, 1, none⟩ = some (.int .i64 ritv) := Xr1.at_ 1 _ rfl
  have rz2 : w1.cell? ⟨w.heap.size, 2, none⟩ = some (.int .i64 rcnt) := Xr1.at_ 2 _ rfl
  have rz3 : w1.cell? ⟨w.heap.size, 3, none⟩ = some (.int .i64 rtil) := Xr1.at_ 3 _ rfl
  have rz4 : w1.cell? ⟨w.heap.size, 4, none⟩ = some (.int .i64 rwkst) := Xr1.at_ 4 _ rfl
  have rz5 : w1.cell? ⟨w.heap.size, 5, none⟩ = some (.bool rends) := Xr1.at_ 5 _ rfl
  have rz6 : w1.cell? ⟨w.heap.size, 6, none⟩ = some (.slice ra6 rn6 rc6) := Xr1.at_ 6 _ rfl
  have rz7 : w1.cell? ⟨w.heap.size, 7, none⟩ = some (.slice ra7 rn7 rc7) := Xr1.at_ 7 _ rfl
  have rz8 : w1.cell? ⟨w.heap.size, 8, none⟩ = some (.slice ra8 rn8 rc8) := Xr1.at_ 8 _ rfl
  have rz9 : w1.cell? ⟨w.heap.size, 9, none⟩ = some (.slice ra9 rn9 rc9) := Xr1.at_ 9 _ rfl
  have rz10 : w1.cell? ⟨w.heap.size, 10, none⟩ = some (.slice ra10 rn10 rc10) := Xr1.at_ 10 _ rfl
  have rz11 : w1.cell? ⟨w.heap.size, 11, none⟩ = some (.slice ra11 rn11 rc11) := Xr1.at_ 11 _ rfl
  have rz12 : w1.cell? ⟨w.heap.size, 12, none⟩ = some (.slice ra12 rn12 rc12) := Xr1.at_ 12 _ rfl
  have rz13 : w1.cell? ⟨w.heap.size, 13, none⟩ = some (.slice ra13 rn13 rc13) := Xr1.at_ 13 _ rfl
  have rz14 : w1.cell? ⟨w.heap.size, 14, none⟩ = some (.slice ra14 rn14 rc14) := Xr1.at_ 14 _ rfl
  go_wp2_with fail
  refine (light_is _ ⟨ra6, rn6, rc6, ra7, rn7, rc7, ra8, rn8, rc8, ra9, rn9, rc9, ra10, rn10, rc10, ra11, rn11, rc11, ra12, rn12, rc12, ra13, rn13, rc13, ra14, rn14, rc14⟩ ⟨rfreq, ritv, rcnt, rtil, rwkst, rends, rmon, rweek, ryday, rmday, rday, rhour, rminu, rsec, rpos⟩ start (in_below HK.out B1)).mono ?_
  rintro e w2 ⟨⟨lb, rfl, HB⟩, b2⟩
  clear rz0 rz1 rz2 rz3 rz4 rz5 rz6 rz7 rz8 rz9 rz10 rz11 rz12 rz13 rz14
  have B2 := B1.trans (b2.mono B1.size)
  have Xr2 := Xr1.below b2
  clear B1 Xr1
  clear b2
  have LB := Lib.hid HB
  clear HB
  cases lb
  · go_wp2_with fail
    refine (first7_is _ (TT.out.on B2)).mono ?_
    rintro e w3 ⟨rfl, b3⟩
    have B3 := B2.trans (b3.mono B2.size)
    have Xr3 := Xr2.below b3
    clear B2 Xr2
    clear b3
    go_wp2
    go_ret
    exact ⟨rfl, B3⟩
  · have X1 := Lib.hid (LB.out rfl)
    clear LB
    have RA := Lib.hid (FEW.out X1.out)
    have rz0 : w2.cell? ⟨w.heap.size, 0, none⟩ = some (.int .i64 rfreq) := Xr2.at_ 0 _ rfl
    have rz1 : w2.cell? ⟨w.heap.size, 1, none⟩ = some (.int .i64 ritv) := Xr2.at_ 1 _ rfl
    have rz2 : w2.cell? ⟨w.heap.size, 2, none⟩ = some (.int .i64 rcnt) := Xr2.at_ 2 _ rfl
    have rz3 : w2.cell? ⟨w.heap.size, 3, none⟩ = some (.int .i64 rtil) := Xr2.at_ 3 _ rfl
    have rz4 : w2.cell? ⟨w.heap.size, 4, none⟩ = some (.int .i64 rwkst) := Xr2.at_ 4 _ rfl
    have rz5 : w2.cell? ⟨w.heap.size, 5, none⟩ = some (.bool rends) := Xr2.at_ 5 _ rfl
    have rz6 : w2.cell? ⟨w.heap.size, 6, none⟩ = some (.slice ra6 rn6 rc6) := Xr2.at_ 6 _ rfl
    have rz7 : w2.cell? ⟨w.heap.size, 7, none⟩ = some (.slice ra7 rn7 rc7) := Xr2.at_ 7 _ rfl
    have rz8 : w2.cell? ⟨w.heap.size, 8, none⟩ = some (.slice ra8 rn8 rc8) := Xr2.at_ 8 _ rfl
    have rz9 : w2.cell? ⟨w.heap.size, 9, none⟩ = some (.slice ra9 rn9 rc9) := Xr2.at_ 9 _ rfl
    have rz10 : w2.cell? ⟨w.heap.size, 10, none⟩ = some (.slice ra10 rn10 rc10) := Xr2.at_ 10 _ rfl
    have rz11 : w2.cell? ⟨w.heap.size, 11, none⟩ = some (.slice ra11 rn11 rc11) := Xr2.at_ 11 _ rfl
    have rz12 : w2.cell? ⟨w.heap.size, 12, none⟩ = some (.slice ra12 rn12 rc12) := Xr2.at_ 12 _ rfl
    have rz13 : w2.cell? ⟨w.heap.size, 13, none⟩ = some (.slice ra13 rn13 rc13) := Xr2.at_ 13 _ rfl
    have rz14 : w2.cell? ⟨w.heap.size, 14, none⟩ = some (.slice ra14 rn14 rc14) := Xr2.at_ 14 _ rfl
    go_wp2_with fail
    refine (copyR_own _ ⟨ra6, rn6, rc6, ra7, rn7, rc7, ra8, rn8, rc8, ra9, rn9, rc9, ra10, rn10, rc10, ra11, rn11, rc11, ra12, rn12, rc12, ra13, rn13, rc13, ra14, rn14, rc14⟩ ⟨rfreq, ritv, rcnt, rtil, rwkst, rends, rmon, rweek, ryday, rmday, rday, rhour, rminu, rsec, rpos⟩ (in_below HK.out B2) X1.out).mono ?_
    rintro e w3 ⟨⟨aa6, an6, ac6, aa7, an7, ac7, aa8, an8, ac8, aa9, an9, ac9, aa10, an10, ac10, aa11, an11, ac11, aa12, an12, ac12, aa13, an13, ac13, aa14, an14, ac14⟩, he, hS, b3, ow⟩
    replace he : e = .returned (.agg #[.int .i64 rfreq, .int .i64 ritv, .int .i64 rcnt, .int .i64 rtil, .int .i64 rwkst, .bool rends, .slice aa6 an6 ac6, .slice aa7 an7 ac7, .slice aa8 an8 ac8, .slice aa9 an9 ac9, .slice aa10 an10 ac10, .slice aa11 an11 ac11, .slice aa12 an12 ac12, .slice aa13 an13 ac13, .slice aa14 an14 ac14]) := he
    subst he
    clear rz0 rz1 rz2 rz3 rz4 rz5 rz6 rz7 rz8 rz9 rz10 rz11 rz12 rz13 rz14
    have B3 := B2.trans (b3.mono B2.size)
    have Xr3 := Xr2.below b3
    clear B2 Xr2
    clear b3
    have hQ : RuAt w3 ⟨aa6, an6, ac6, aa7, an7, ac7, aa8, an8, ac8, aa9, an9, ac9, aa10, an10, ac10, aa11, an11, ac11, aa12, an12, ac12, aa13, an13, ac13, aa14, an14, ac14⟩ ⟨rfreq, ritv, 0, 0, rwkst, false, rmon, rweek, ryday, rmday, rday, rhour, rminu, rsec, rpos⟩ := ⟨hS.h6, hS.h7, hS.h8, hS.h9, hS.h10, hS.h11, hS.h12, hS.h13, hS.h14, hS.l6, hS.l7, hS.l8, hS.l9, hS.l10, hS.l11, hS.l12, hS.l13, hS.l14⟩
    have RI := Lib.hid (show RuIn w3 ⟨aa6, an6, ac6, aa7, an7, ac7, aa8, an8, ac8, aa9, an9, ac9, aa10, an10, ac10, aa11, an11, ac11, aa12, an12, ac12, aa13, an13, ac13, aa14, an14, ac14⟩ ⟨rfreq, ritv, 0, 0, rwkst, false, rmon, rweek, ryday, rmday, rday, rhour, rminu, rsec, rpos⟩ from in_free (in_copy HK.out hS ow))
    have F2 := Lib.hid (few_copy HK.out hS X1.out)
    clear hS ow
    go_upto_region 7 with fail
    have b4 := alloc_below w3 (.cells #[.int .i64 rfreq, .int .i64 ritv, .int .i64 0, .int .i64 0, .int .i64 rwkst, .bool false, .slice aa6 an6 ac6, .slice aa7 an7 ac7, .slice aa8 an8 ac8, .slice aa9 an9 ac9, .slice aa10 an10 ac10, .slice aa11 an11 ac11, .slice aa12 an12 ac12, .slice aa13 an13 ac13, .slice aa14 an14 ac14] 25)
    have Xa4 := Box.new w3 #[.int .i64 rfreq, .int .i64 ritv, .int .i64 0, .int .i64 0, .int .i64 rwkst, .bool false, .slice aa6 an6 ac6, .slice aa7 an7 ac7, .slice aa8 an8 ac8, .slice aa9 an9 ac9, .slice aa10 an10 ac10, .slice aa11 an11 ac11, .slice aa12 an12 ac12, .slice aa13 an13 ac13, .slice aa14 an14 ac14] 25
    have Ra4 := hQ.below b4
    clear hQ
    generalize w3.alloc (.cells #[.int .i64 rfreq, .int .i64 ritv, .int .i64 0, .int .i64 0, .int .i64 rwkst, .bool false, .slice aa6 an6 ac6, .slice aa7 an7 ac7, .slice aa8 an8 ac8, .slice aa9 an9 ac9, .slice aa10 an10 ac10, .slice aa11 an11 ac11, .slice aa12 an12 ac12, .slice aa13 an13 ac13, .slice aa14 an14 ac14] 25) = w4 at *
    have B4 := B3.trans (b4.mono B3.size)
    have Xr4 := Xr3.below b4
    clear B3 Xr3
    have RI := Lib.hid (in_below RI.out b4)
    clear b4
    as_aux_lemma =>
      have az0 : w4.cell? ⟨w3.heap.size, 0, none⟩ = some (.int .i64 rfreq) := Xa4.at_ 0 _ rfl
      have az1 : w4.cell? ⟨w3.heap.size, 1, none⟩ = some (.int .i64 ritv) := Xa4.at_ 1 _ rfl
      have az2 : w4.cell? ⟨w3.heap.size, 2, none⟩ = some (.int .i64 0) := Xa4.at_ 2 _ rfl
      have az3 : w4.cell? ⟨w3.heap.size, 3, none⟩ = some (.int .i64 0) := Xa4.at_ 3 _ rfl
      have az4 : w4.cell? ⟨w3.heap.size, 4, none⟩ = some (.int .i64 rwkst) := Xa4.at_ 4 _ rfl
      have az5 : w4.cell? ⟨w3.heap.size, 5, none⟩ = some (.bool false) := Xa4.at_ 5 _ rfl
      have az6 : w4.cell? ⟨w3.heap.size, 6, none⟩ = some (.slice aa6 an6 ac6) := Xa4.at_ 6 _ rfl
      have az7 : w4.cell? ⟨w3.heap.size, 7, none⟩ = some (.slice aa7 an7 ac7) := Xa4.at_ 7 _ rfl
      have az8 : w4.cell? ⟨w3.heap.size, 8, none⟩ = some (.slice aa8 an8 ac8) := Xa4.at_ 8 _ rfl
      have az9 : w4.cell? ⟨w3.heap.size, 9, none⟩ = some (.slice aa9 an9 ac9) := Xa4.at_ 9 _ rfl
      have az10 : w4.cell? ⟨w3.heap.size, 10, none⟩ = some (.slice aa10 an10 ac10) := Xa4.at_ 10 _ rfl
      have az11 : w4.cell? ⟨w3.heap.size, 11, none⟩ = some (.slice aa11 an11 ac11) := Xa4.at_ 11 _ rfl
      have az12 : w4.cell? ⟨w3.heap.size, 12, none⟩ = some (.slice aa12 an12 ac12) := Xa4.at_ 12 _ rfl
      have az13 : w4.cell? ⟨w3.heap.size, 13, none⟩ = some (.slice aa13 an13 ac13) := Xa4.at_ 13 _ rfl
      have az14 : w4.cell? ⟨w3.heap.size, 14, none⟩ = some (.slice aa14 an14 ac14) := Xa4.at_ 14 _ rfl
      go_wp2_with fail
      refine (copyR_own _ ⟨aa6, an6, ac6, aa7, an7, ac7, aa8, an8, ac8, aa9, an9, ac9, aa10, an10, ac10, aa11, an11, ac11, aa12, an12, ac12, aa13, an13, ac13, aa14, an14, ac14⟩ ⟨rfreq, ritv, 0, 0, rwkst, false, rmon, rweek, ryday, rmday, rday, rhour, rminu, rsec, rpos⟩ RI.out F2.out).mono ?_
      rintro e w5 ⟨⟨ba6, bn6, bc6, ba7, bn7, bc7, ba8, bn8, bc8, ba9, bn9, bc9, ba10, bn10, bc10, ba11, bn11, bc11, ba12, bn12, bc12, ba13, bn13, bc13, ba14, bn14, bc14⟩, he, hS, b5, ow⟩
      replace he : e = .returned (.agg #[.int .i64 rfreq, .int .i64 ritv, .int .i64 0, .int .i64 0, .int .i64 rwkst, .bool false, .slice ba6 bn6 bc6, .slice ba7 bn7 bc7, .slice ba8 bn8 bc8, .slice ba9 bn9 bc9, .slice ba10 bn10 bc10, .slice ba11 bn11 bc11, .slice ba12 bn12 bc12, .slice ba13 bn13 bc13, .slice ba14 bn14 bc14]) := he
      subst he
      clear az0 az1 az2 az3 az4 az5 az6 az7 az8 az9 az10 az11 az12 az13 az14
      have B5 := B4.trans (b5.mono B4.size)
      have Xr5 := Xr4.below b5
      have Xa5 := Xa4.below b5
      have Ra5 := Ra4.below b5
      clear B4 Xr4 Xa4 Ra4
      have RI := Lib.hid (in_below RI.out b5)
      clear b5
      have hQ : RuAt w5 ⟨ba6, bn6, bc6, ba7, bn7, bc7, ba8, bn8, bc8, ba9, bn9, bc9, ba10, bn10, bc10, ba11, bn11, bc11, ba12, bn12, bc12, ba13, bn13, bc13, ba14, bn14, bc14⟩ ⟨rfreq, ritv, 0, un, rwkst, true, rmon, rweek, ryday, rmday, rday, rhour, rminu, rsec, rpos⟩ := ⟨hS.h6, hS.h7, hS.h8, hS.h9, hS.h10, hS.h11, hS.h12, hS.h13, hS.h14, hS.l6, hS.l7, hS.l8, hS.l9, hS.l10, hS.l11, hS.l12, hS.l13, hS.l14⟩
      clear hS ow RI F2
      go_upto_region 9 with fail
      have b6 := alloc_below w5 (.cells #[.int .i64 rfreq, .int .i64 ritv, .int .i64 0, .int .i64 un, .int .i64 rwkst, .bool true, .slice ba6 bn6 bc6, .slice ba7 bn7 bc7, .slice ba8 bn8 bc8, .slice ba9 bn9 bc9, .slice ba10 bn10 bc10, .slice ba11 bn11 bc11, .slice ba12 bn12 bc12, .slice ba13 bn13 bc13, .slice ba14 bn14 bc14] 25)
      have Xb6 := Box.new w5 #[.int .i64 rfreq, .int .i64 ritv, .int .i64 0, .int .i64 un, .int .i64 rwkst, .bool true, .slice ba6 bn6 bc6, .slice ba7 bn7 bc7, .slice ba8 bn8 bc8, .slice ba9 bn9 bc9, .slice ba10 bn10 bc10, .slice ba11 bn11 bc11, .slice ba12 bn12 bc12, .slice ba13 bn13 bc13, .slice ba14 bn14 bc14] 25
      have Rb6 := hQ.below b6
      clear hQ
      generalize w5.alloc (.cells #[.int .i64 rfreq, .int .i64 ritv, .int .i64 0, .int .i64 un, .int .i64 rwkst, .bool true, .slice ba6 bn6 bc6, .slice ba7 bn7 bc7, .slice ba8 bn8 bc8, .slice ba9 bn9 bc9, .slice ba10 bn10 bc10, .slice ba11 bn11 bc11, .slice ba12 bn12 bc12, .slice ba13 bn13 bc13, .slice ba14 bn14 bc14] 25) = w6 at *
      have B6 := B5.trans (b6.mono B5.size)
      have Xr6 := Xr5.below b6
      have Xa6 := Xa5.below b6
      have Ra6 := Ra5.below b6
      clear B5 Xr5 Xa5 Ra5
      clear b6
      as_aux_lemma =>
        have bz0 : w6.cell? ⟨w5.heap.size, 0, none⟩ = some (.int .i64 rfreq) := Xb6.at_ 0 _ rfl
        have bz1 : w6.cell? ⟨w5.heap.size, 1, none⟩ = some (.int .i64 ritv) := Xb6.at_ 1 _ rfl
        have bz2 : w6.cell? ⟨w5.heap.size, 2, none⟩ = some (.int .i64 0) := Xb6.at_ 2 _ rfl
        have bz3 : w6.cell? ⟨w5.heap.size, 3, none⟩ = some (.int .i64 un) := Xb6.at_ 3 _ rfl
        have bz4 : w6.cell? ⟨w5.heap.size, 4, none⟩ = some (.int .i64 rwkst) := Xb6.at_ 4 _ rfl
        have bz5 : w6.cell? ⟨w5.heap.size, 5, none⟩ = some (.bool true) := Xb6.at_ 5 _ rfl
        have bz6 : w6.cell? ⟨w5.heap.size, 6, none⟩ = some (.slice ba6 bn6 bc6) := Xb6.at_ 6 _ rfl
        have bz7 : w6.cell? ⟨w5.heap.size, 7, none⟩ = some (.slice ba7 bn7 bc7) := Xb6.at_ 7 _ rfl
        have bz8 : w6.cell? ⟨w5.heap.size, 8, none⟩ = some (.slice ba8 bn8 bc8) := Xb6.at_ 8 _ rfl
        have bz9 : w6.cell? ⟨w5.heap.size, 9, none⟩ = some (.slice ba9 bn9 bc9) := Xb6.at_ 9 _ rfl
        have bz10 : w6.cell? ⟨w5.heap.size, 10, none⟩ = some (.slice ba10 bn10 bc10) := Xb6.at_ 10 _ rfl
        have bz11 : w6.cell? ⟨w5.heap.size, 11, none⟩ = some (.slice ba11 bn11 bc11) := Xb6.at_ 11 _ rfl
        have bz12 : w6.cell? ⟨w5.heap.size, 12, none⟩ = some (.slice ba12 bn12 bc12) := Xb6.at_ 12 _ rfl
        have bz13 : w6.cell? ⟨w5.heap.size, 13, none⟩ = some (.slice ba13 bn13 bc13) := Xb6.at_ 13 _ rfl
        have bz14 : w6.cell? ⟨w5.heap.size, 14, none⟩ = some (.slice ba14 bn14 bc14) := Xb6.at_ 14 _ rfl
        go_wp2_with fail
        refine (may_r _ ⟨ba6, bn6, bc6, ba7, bn7, bc7, ba8, bn8, bc8, ba9, bn9, bc9, ba10, bn10, bc10, ba11, bn11, bc11, ba12, bn12, bc12, ba13, bn13, bc13, ba14, bn14, bc14⟩ ⟨rfreq, ritv, 0, un, rwkst, true, rmon, rweek, ryday, rmday, rday, rhour, rminu, rsec, rpos⟩ m Rb6 HM.out).mono ?_
        rintro e w7 ⟨rfl, b7⟩
        clear bz0 bz1 bz2 bz3 bz4 bz5 bz6 bz7 bz8 bz9 bz10 bz11 bz12 bz13 bz14
        have B7 := B6.trans (b7.mono B6.size)
        have Xr7 := Xr6.below b7
        have Xa7 := Xa6.below b7
        have Xb7 := Xb6.below b7
        have Ra7 := Ra6.below b7
        have Rb7 := Rb6.below b7
        clear B6 Xr6 Xa6 Xb6 Ra6 Rb6
        clear b7
        cases m
        · go_wp2_with fail
          refine (first7_is _ (TT.out.on B7)).mono ?_
          rintro e w8 ⟨rfl, b8⟩
          have B8 := B7.trans (b8.mono B7.size)
          have Xr8 := Xr7.below b8
          have Xa8 := Xa7.below b8
          have Xb8 := Xb7.below b8
          have Ra8 := Ra7.below b8
          have Rb8 := Rb7.below b8
          clear B7 Xr7 Xa7 Xb7 Ra7 Rb7
          clear b8
          go_wp2
          go_ret
          exact ⟨rfl, B8⟩
        · have HB := Lib.hid (HBF.out (by trivial))
          clear HBF
          cases xa
          · have HB2 := Lib.hid (show hasM ⟨rfreq, ritv, 0, un, rwkst, true, rmon, rweek, ryday, rmday, rday, rhour, rminu, rsec, rpos⟩ start t = false from HB.out)
            go_upto_region 11 with fail
            have aq0 := Past.at_ (W := w7) Xa7.1 (show w7.cell? ⟨w3.heap.size, 0, none⟩ = some (.int .i64 rfreq) from Xa7.at_ 0 _ rfl)
            have aq1 := Past.at_ (W := w7) Xa7.1 (show w7.cell? ⟨w3.heap.size, 1, none⟩ = some (.int .i64 ritv) from Xa7.at_ 1 _ rfl)
            have aq2 := Past.at_ (W := w7) Xa7.1 (show w7.cell? ⟨w3.heap.size, 2, none⟩ = some (.int .i64 0) from Xa7.at_ 2 _ rfl)
            have aq3 := Past.at_ (W := w7) Xa7.1 (show w7.cell? ⟨w3.heap.size, 3, none⟩ = some (.int .i64 0) from Xa7.at_ 3 _ rfl)
            have aq4 := Past.at_ (W := w7) Xa7.1 (show w7.cell? ⟨w3.heap.size, 4, none⟩ = some (.int .i64 rwkst) from Xa7.at_ 4 _ rfl)
            have aq5 := Past.at_ (W := w7) Xa7.1 (show w7.cell? ⟨w3.heap.size, 5, none⟩ = some (.bool false) from Xa7.at_ 5 _ rfl)
            have aq6 := Past.at_ (W := w7) Xa7.1 (show w7.cell? ⟨w3.heap.size, 6, none⟩ = some (.slice aa6 an6 ac6) from Xa7.at_ 6 _ rfl)
            have aq7 := Past.at_ (W := w7) Xa7.1 (show w7.cell? ⟨w3.heap.size, 7, none⟩ = some (.slice aa7 an7 ac7) from Xa7.at_ 7 _ rfl)
            have aq8 := Past.at_ (W := w7) Xa7.1 (show w7.cell? ⟨w3.heap.size, 8, none⟩ = some (.slice aa8 an8 ac8) from Xa7.at_ 8 _ rfl)
            have aq9 := Past.at_ (W := w7) Xa7.1 (show w7.cell? ⟨w3.heap.size, 9, none⟩ = some (.slice aa9 an9 ac9) from Xa7.at_ 9 _ rfl)
            have aq10 := Past.at_ (W := w7) Xa7.1 (show w7.cell? ⟨w3.heap.size, 10, none⟩ = some (.slice aa10 an10 ac10) from Xa7.at_ 10 _ rfl)
            have aq11 := Past.at_ (W := w7) Xa7.1 (show w7.cell? ⟨w3.heap.size, 11, none⟩ = some (.slice aa11 an11 ac11) from Xa7.at_ 11 _ rfl)
            have aq12 := Past.at_ (W := w7) Xa7.1 (show w7.cell? ⟨w3.heap.size, 12, none⟩ = some (.slice aa12 an12 ac12) from Xa7.at_ 12 _ rfl)
            have aq13 := Past.at_ (W := w7) Xa7.1 (show w7.cell? ⟨w3.heap.size, 13, none⟩ = some (.slice aa13 an13 ac13) from Xa7.at_ 13 _ rfl)
            have aq14 := Past.at_ (W := w7) Xa7.1 (show w7.cell? ⟨w3.heap.size, 14, none⟩ = some (.slice aa14 an14 ac14) from Xa7.at_ 14 _ rfl)
            have bq0 := Past.at_ (W := w7) Xb7.1 (show w7.cell? ⟨w5.heap.size, 0, none⟩ = some (.int .i64 rfreq) from Xb7.at_ 0 _ rfl)
            have bq1 := Past.at_ (W := w7) Xb7.1 (show w7.cell? ⟨w5.heap.size, 1, none⟩ = some (.int .i64 ritv) from Xb7.at_ 1 _ rfl)
            have bq2 := Past.at_ (W := w7) Xb7.1 (show w7.cell? ⟨w5.heap.size, 2, none⟩ = some (.int .i64 0) from Xb7.at_ 2 _ rfl)
            have bq3 := Past.at_ (W := w7) Xb7.1 (show w7.cell? ⟨w5.heap.size, 3, none⟩ = some (.int .i64 un) from Xb7.at_ 3 _ rfl)
            have bq4 := Past.at_ (W := w7) Xb7.1 (show w7.cell? ⟨w5.heap.size, 4, none⟩ = some (.int .i64 rwkst) from Xb7.at_ 4 _ rfl)
            have bq5 := Past.at_ (W := w7) Xb7.1 (show w7.cell? ⟨w5.heap.size, 5, none⟩ = some (.bool true) from Xb7.at_ 5 _ rfl)
            have bq6 := Past.at_ (W := w7) Xb7.1 (show w7.cell? ⟨w5.heap.size, 6, none⟩ = some (.slice ba6 bn6 bc6) from Xb7.at_ 6 _ rfl)
            have bq7 := Past.at_ (W := w7) Xb7.1 (show w7.cell? ⟨w5.heap.size, 7, none⟩ = some (.slice ba7 bn7 bc7) from Xb7.at_ 7 _ rfl)
            have bq8 := Past.at_ (W := w7) Xb7.1 (show w7.cell? ⟨w5.heap.size, 8, none⟩ = some (.slice ba8 bn8 bc8) from Xb7.at_ 8 _ rfl)
            have bq9 := Past.at_ (W := w7) Xb7.1 (show w7.cell? ⟨w5.heap.size, 9, none⟩ = some (.slice ba9 bn9 bc9) from Xb7.at_ 9 _ rfl)
            have bq10 := Past.at_ (W := w7) Xb7.1 (show w7.cell? ⟨w5.heap.size, 10, none⟩ = some (.slice ba10 bn10 bc10) from Xb7.at_ 10 _ rfl)
            have bq11 := Past.at_ (W := w7) Xb7.1 (show w7.cell? ⟨w5.heap.size, 11, none⟩ = some (.slice ba11 bn11 bc11) from Xb7.at_ 11 _ rfl)
            have bq12 := Past.at_ (W := w7) Xb7.1 (show w7.cell? ⟨w5.heap.size, 12, none⟩ = some (.slice ba12 bn12 bc12) from Xb7.at_ 12 _ rfl)
            have bq13 := Past.at_ (W := w7) Xb7.1 (show w7.cell? ⟨w5.heap.size, 13, none⟩ = some (.slice ba13 bn13 bc13) from Xb7.at_ 13 _ rfl)
            have bq14 := Past.at_ (W := w7) Xb7.1 (show w7.cell? ⟨w5.heap.size, 14, none⟩ = some (.slice ba14 bn14 bc14) from Xb7.at_ 14 _ rfl)
            have TV := Lib.hid (fun v : In (Past w7) => TT.out.on (B7.trans (Below.mono (show Below _ _ _ from v.h) B7.size)))
            have C0 := Lib.hid (show ∀ v : In (Past w7), Calls Tryz.prog 28 #[.agg #[.int .i64 rfreq, .int .i64 ritv, .int .i64 0, .int .i64 un, .int .i64 rwkst, .bool true, .slice ba6 bn6 bc6, .slice ba7 bn7 bc7, .slice ba8 bn8 bc8, .slice ba9 bn9 bc9, .slice ba10 bn10 bc10, .slice ba11 bn11 bc11, .slice ba12 bn12 bc12, .slice ba13 bn13 bc13, .slice ba14 bn14 bc14], .int .i64 start, .int .i64 t] v.w (fun e w' => e = .returned (.bool false) ∧ Below v.w.heap.size v.w w') from fun v => has_is v.w ⟨ba6, bn6, bc6, ba7, bn7, bc7, ba8, bn8, bc8, ba9, bn9, bc9, ba10, bn10, bc10, ba11, bn11, bc11, ba12, bn12, bc12, ba13, bn13, bc13, ba14, bn14, bc14⟩ ⟨rfreq, ritv, 0, un, rwkst, true, rmon, rweek, ryday, rmday, rday, rhour, rminu, rsec, rpos⟩ start t false (Rb7.past v) HB2.out)
            have C1 := Lib.hid (show ∀ v : In (Past w7), Calls Tryz.prog 28 #[.agg #[.int .i64 rfreq, .int .i64 ritv, .int .i64 0, .int .i64 0, .int .i64 rwkst, .bool false, .slice aa6 an6 ac6, .slice aa7 an7 ac7, .slice aa8 an8 ac8, .slice aa9 an9 ac9, .slice aa10 an10 ac10, .slice aa11 an11 ac11, .slice aa12 an12 ac12, .slice aa13 an13 ac13, .slice aa14 an14 ac14], .int .i64 start, .int .i64 t] v.w (fun e w' => e = .returned (.bool false) ∧ Below v.w.heap.size v.w w') from fun v => has_is v.w ⟨aa6, an6, ac6, aa7, an7, ac7, aa8, an8, ac8, aa9, an9, ac9, aa10, an10, ac10, aa11, an11, ac11, aa12, an12, ac12, aa13, an13, ac13, aa14, an14, ac14⟩ ⟨rfreq, ritv, 0, 0, rwkst, false, rmon, rweek, ryday, rmday, rday, rhour, rminu, rsec, rpos⟩ start t false (Ra7.past v) HA.out)
            have p9 : Past w7 w7 := Below.refl _ _
            have hne : Nonempty (In (Past w7)) := ⟨⟨_, p9⟩⟩
            refine wp_region_class (Past w7) (by kernel_rfl) (by kernel_rfl) (Past.drew' p9) ?_
            try simp only [List.append]
            repeat (any_goals (first | go_big_quiet_step ((first | (with_reducible refine quiet_cl Past.on (first7_is _ (TV.out _))) | (with_reducible refine quiet_cl Past.on (C0.out _)) | (with_reducible refine quiet_cl Past.on (C1.out _)))) | quiet_step ((first | (with_reducible refine quiet_cl Past.on (first7_is _ (TV.out _))) | (with_reducible refine quiet_cl Past.on (C0.out _)) | (with_reducible refine quiet_cl Past.on (C1.out _))))))
            refine wpQuiet_nil ?_
            rintro w' ⟨n9, hq⟩
            have hb : Below w7.heap.size w7 w' := by rw [hq]; exact n9.h
            clear hne p9 hq n9
            go_wp2
            go_ret
            exact ⟨by first | rfl | simp, B7.trans (hb.mono B7.size)⟩
          · have HB2 := Lib.hid (show hasM ⟨rfreq, ritv, 0, un, rwkst, true, rmon, rweek, ryday, rmday, rday, rhour, rminu, rsec, rpos⟩ start t = (decide (t ≤ un)) from HB.out)
            go_upto_region 11 with fail
            have aq0 := Past.at_ (W := w7) Xa7.1 (show w7.cell? ⟨w3.heap.size, 0, none⟩ = some (.int .i64 rfreq) from Xa7.at_ 0 _ rfl)
            have aq1 := Past.at_ (W := w7) Xa7.1 (show w7.cell? ⟨w3.heap.size, 1, none⟩ = some (.int .i64 ritv) from Xa7.at_ 1 _ rfl)
            have aq2 := Past.at_ (W := w7) Xa7.1 (show w7.cell? ⟨w3.heap.size, 2, none⟩ = some (.int .i64 0) from Xa7.at_ 2 _ rfl)
            have aq3 := Past.at_ (W := w7) Xa7.1 (show w7.cell? ⟨w3.heap.size, 3, none⟩ = some (.int .i64 0) from Xa7.at_ 3 _ rfl)
            have aq4 := Past.at_ (W := w7) Xa7.1 (show w7.cell? ⟨w3.heap.size, 4, none⟩ = some (.int .i64 rwkst) from Xa7.at_ 4 _ rfl)
            have aq5 := Past.at_ (W := w7) Xa7.1 (show w7.cell? ⟨w3.heap.size, 5, none⟩ = some (.bool false) from Xa7.at_ 5 _ rfl)
            have aq6 := Past.at_ (W := w7) Xa7.1 (show w7.cell? ⟨w3.heap.size, 6, none⟩ = some (.slice aa6 an6 ac6) from Xa7.at_ 6 _ rfl)
            have aq7 := Past.at_ (W := w7) Xa7.1 (show w7.cell? ⟨w3.heap.size, 7, none⟩ = some (.slice aa7 an7 ac7) from Xa7.at_ 7 _ rfl)
            have aq8 := Past.at_ (W := w7) Xa7.1 (show w7.cell? ⟨w3.heap.size, 8, none⟩ = some (.slice aa8 an8 ac8) from Xa7.at_ 8 _ rfl)
            have aq9 := Past.at_ (W := w7) Xa7.1 (show w7.cell? ⟨w3.heap.size, 9, none⟩ = some (.slice aa9 an9 ac9) from Xa7.at_ 9 _ rfl)
            have aq10 := Past.at_ (W := w7) Xa7.1 (show w7.cell? ⟨w3.heap.size, 10, none⟩ = some (.slice aa10 an10 ac10) from Xa7.at_ 10 _ rfl)
            have aq11 := Past.at_ (W := w7) Xa7.1 (show w7.cell? ⟨w3.heap.size, 11, none⟩ = some (.slice aa11 an11 ac11) from Xa7.at_ 11 _ rfl)
            have aq12 := Past.at_ (W := w7) Xa7.1 (show w7.cell? ⟨w3.heap.size, 12, none⟩ = some (.slice aa12 an12 ac12) from Xa7.at_ 12 _ rfl)
            have aq13 := Past.at_ (W := w7) Xa7.1 (show w7.cell? ⟨w3.heap.size, 13, none⟩ = some (.slice aa13 an13 ac13) from Xa7.at_ 13 _ rfl)
            have aq14 := Past.at_ (W := w7) Xa7.1 (show w7.cell? ⟨w3.heap.size, 14, none⟩ = some (.slice aa14 an14 ac14) from Xa7.at_ 14 _ rfl)
            have bq0 := Past.at_ (W := w7) Xb7.1 (show w7.cell? ⟨w5.heap.size, 0, none⟩ = some (.int .i64 rfreq) from Xb7.at_ 0 _ rfl)
            have bq1 := Past.at_ (W := w7) Xb7.1 (show w7.cell? ⟨w5.heap.size, 1, none⟩ = some (.int .i64 ritv) from Xb7.at_ 1 _ rfl)
            have bq2 := Past.at_ (W := w7) Xb7.1 (show w7.cell? ⟨w5.heap.size, 2, none⟩ = some (.int .i64 0) from Xb7.at_ 2 _ rfl)
            have bq3 := Past.at_ (W := w7) Xb7.1 (show w7.cell? ⟨w5.heap.size, 3, none⟩ = some (.int .i64 un) from Xb7.at_ 3 _ rfl)
            have bq4 := Past.at_ (W := w7) Xb7.1 (show w7.cell? ⟨w5.heap.size, 4, none⟩ = some (.int .i64 rwkst) from Xb7.at_ 4 _ rfl)
            have bq5 := Past.at_ (W := w7) Xb7.1 (show w7.cell? ⟨w5.heap.size, 5, none⟩ = some (.bool true) from Xb7.at_ 5 _ rfl)
            have bq6 := Past.at_ (W := w7) Xb7.1 (show w7.cell? ⟨w5.heap.size, 6, none⟩ = some (.slice ba6 bn6 bc6) from Xb7.at_ 6 _ rfl)
            have bq7 := Past.at_ (W := w7) Xb7.1 (show w7.cell? ⟨w5.heap.size, 7, none⟩ = some (.slice ba7 bn7 bc7) from Xb7.at_ 7 _ rfl)
            have bq8 := Past.at_ (W := w7) Xb7.1 (show w7.cell? ⟨w5.heap.size, 8, none⟩ = some (.slice ba8 bn8 bc8) from Xb7.at_ 8 _ rfl)
            have bq9 := Past.at_ (W := w7) Xb7.1 (show w7.cell? ⟨w5.heap.size, 9, none⟩ = some (.slice ba9 bn9 bc9) from Xb7.at_ 9 _ rfl)
            have bq10 := Past.at_ (W := w7) Xb7.1 (show w7.cell? ⟨w5.heap.size, 10, none⟩ = some (.slice ba10 bn10 bc10) from Xb7.at_ 10 _ rfl)
            have bq11 := Past.at_ (W := w7) Xb7.1 (show w7.cell? ⟨w5.heap.size, 11, none⟩ = some (.slice ba11 bn11 bc11) from Xb7.at_ 11 _ rfl)
            have bq12 := Past.at_ (W := w7) Xb7.1 (show w7.cell? ⟨w5.heap.size, 12, none⟩ = some (.slice ba12 bn12 bc12) from Xb7.at_ 12 _ rfl)
            have bq13 := Past.at_ (W := w7) Xb7.1 (show w7.cell? ⟨w5.heap.size, 13, none⟩ = some (.slice ba13 bn13 bc13) from Xb7.at_ 13 _ rfl)
            have bq14 := Past.at_ (W := w7) Xb7.1 (show w7.cell? ⟨w5.heap.size, 14, none⟩ = some (.slice ba14 bn14 bc14) from Xb7.at_ 14 _ rfl)
            have TV := Lib.hid (fun v : In (Past w7) => TT.out.on (B7.trans (Below.mono (show Below _ _ _ from v.h) B7.size)))
            have C0 := Lib.hid (show ∀ v : In (Past w7), Calls Tryz.prog 28 #[.agg #[.int .i64 rfreq, .int .i64 ritv, .int .i64 0, .int .i64 un, .int .i64 rwkst, .bool true, .slice ba6 bn6 bc6, .slice ba7 bn7 bc7, .slice ba8 bn8 bc8, .slice ba9 bn9 bc9, .slice ba10 bn10 bc10, .slice ba11 bn11 bc11, .slice ba12 bn12 bc12, .slice ba13 bn13 bc13, .slice ba14 bn14 bc14], .int .i64 start, .int .i64 t] v.w (fun e w' => e = .returned (.bool (decide (t ≤ un))) ∧ Below v.w.heap.size v.w w') from fun v => has_is v.w ⟨ba6, bn6, bc6, ba7, bn7, bc7, ba8, bn8, bc8, ba9, bn9, bc9, ba10, bn10, bc10, ba11, bn11, bc11, ba12, bn12, bc12, ba13, bn13, bc13, ba14, bn14, bc14⟩ ⟨rfreq, ritv, 0, un, rwkst, true, rmon, rweek, ryday, rmday, rday, rhour, rminu, rsec, rpos⟩ start t (decide (t ≤ un)) (Rb7.past v) HB2.out)
            have C1 := Lib.hid (show ∀ v : In (Past w7), Calls Tryz.prog 28 #[.agg #[.int .i64 rfreq, .int .i64 ritv, .int .i64 0, .int .i64 0, .int .i64 rwkst, .bool false, .slice aa6 an6 ac6, .slice aa7 an7 ac7, .slice aa8 an8 ac8, .slice aa9 an9 ac9, .slice aa10 an10 ac10, .slice aa11 an11 ac11, .slice aa12 an12 ac12, .slice aa13 an13 ac13, .slice aa14 an14 ac14], .int .i64 start, .int .i64 t] v.w (fun e w' => e = .returned (.bool true) ∧ Below v.w.heap.size v.w w') from fun v => has_is v.w ⟨aa6, an6, ac6, aa7, an7, ac7, aa8, an8, ac8, aa9, an9, ac9, aa10, an10, ac10, aa11, an11, ac11, aa12, an12, ac12, aa13, an13, ac13, aa14, an14, ac14⟩ ⟨rfreq, ritv, 0, 0, rwkst, false, rmon, rweek, ryday, rmday, rday, rhour, rminu, rsec, rpos⟩ start t true (Ra7.past v) HA.out)
            have p9 : Past w7 w7 := Below.refl _ _
            have hne : Nonempty (In (Past w7)) := ⟨⟨_, p9⟩⟩
            refine wp_region_class (Past w7) (by kernel_rfl) (by kernel_rfl) (Past.drew' p9) ?_
            try simp only [List.append]
            repeat (any_goals (first | go_big_quiet_step ((first | (with_reducible refine quiet_cl Past.on (first7_is _ (TV.out _))) | (with_reducible refine quiet_cl Past.on (C0.out _)) | (with_reducible refine quiet_cl Past.on (C1.out _)))) | quiet_step ((first | (with_reducible refine quiet_cl Past.on (first7_is _ (TV.out _))) | (with_reducible refine quiet_cl Past.on (C0.out _)) | (with_reducible refine quiet_cl Past.on (C1.out _))))))
            refine wpQuiet_nil ?_
            rintro w' ⟨n9, hq⟩
            have hb : Below w7.heap.size w7 w' := by rw [hq]; exact n9.h
            clear hne p9 hq n9
            go_wp2
            go_ret
            exact ⟨by first | rfl | simp, B7.trans (hb.mono B7.size)⟩
end Go.Proofs.YtajgagmpdhmbkaaGreatDoor.Mb
