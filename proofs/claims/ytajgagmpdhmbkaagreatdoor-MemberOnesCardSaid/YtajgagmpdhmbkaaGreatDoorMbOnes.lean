/- MemberOnes answers true. -/
import Derived.Test.YtajgagmpdhmbkaaGreatDoorMbIn
set_option linter.unusedVariables false
namespace Go.Proofs.YtajgagmpdhmbkaaGreatDoor.Mb
open Go.RowKit Cv St Ru Dd

theorem iat_rise {l : List Int} (h : l.Pairwise (· < ·)) {i : Nat} (h0 : 0 < i) (hi : i < l.length) : iat l (i - 1) < iat l i := by
  rw [iat_lt (by omega), iat_lt hi]
  exact List.pairwise_iff_getElem.1 h (i - 1) i (by omega) hi (by omega)
theorem iat_mem {l : List Int} {i : Nat} (hi : i < l.length) : iat l i ∈ l := by rw [iat_lt hi]; exact List.getElem_mem _
set_option maxRecDepth 100000 in
set_option maxHeartbeats 16000000 in
theorem ones_walk (w : World) (T : Tabs w) (S : RS) (r : Ru) (start t y : Int) (h : RuIn w S r) :
    Calls Tryz.prog 5 #[S.val r, .int .i64 start, .int .i64 t, .int .i64 y] w fun e w' => e = .returned (.bool true) ∧ Below w.heap.size w w' := by
  have TT := Lib.hid T
  have HK := Lib.hid h
  have FEW := Lib.hid (fun (e : fewB S = true) => h.few e)
  obtain ⟨⟨l, z⟩, hp⟩ : ∃ p, setR r start t 2000 = p := ⟨_, rfl⟩
  obtain ⟨⟨a, ok⟩, hq⟩ : ∃ p, perR r start t = p := ⟨_, rfl⟩
  obtain ⟨⟨b, inn⟩, hb⟩ : ∃ p, perR r start y = p := ⟨_, rfl⟩
  obtain ⟨raw, hr⟩ : ∃ x, rawB r start y = x := ⟨_, rfl⟩
  have LL : (l.length : Int) ≤ 2000 := by have := setR_few (r := r) (start := start) (t := t) (most := 2000) (by decide); rw [hp] at this; exact this
  have FN := Lib.hid (fun (e : z ≠ 0) => show l = [] by have := setR_no (r := r) (start := start) (t := t) (most := 2000); rw [hp] at this; exact this e)
  have FK := Lib.hid (fun (e : z = 0) => show ok = true by
    have := per_ok (r := r) (start := start) (t := t) (most := 2000) (by rw [hp]; exact e)
    rw [hq] at this
    exact (Prod.mk.inj this).2)
  have FO := Lib.hid (fun (e : z = 0) (i : Nat) (hi : i < l.length) => show rawB r start (iat l i) = true ∧ perR r start (iat l i) = (a, true) by
    have o := ones_of (r := r) (start := start) (t := t) (most := 2000) (x := iat l i) (by rw [hp]; exact e) (by rw [hp]; exact iat_mem hi)
    have q := per_ok (r := r) (start := start) (t := t) (most := 2000) (by rw [hp]; exact e)
    rw [hq] at q
    refine ⟨o.raw, ?_⟩
    rw [o.per, ← (Prod.mk.inj q).1])
  have FR := Lib.hid (fun (i : Nat) (h0 : 0 < i) (hi : i < l.length) => show iat l (i - 1) < iat l i by
    have := ones_rise (r := r) (start := start) (t := t) (most := 2000)
    rw [hp] at this
    exact iat_rise this h0 hi)
  have FH := Lib.hid (fun (e : z = 0) (f : inn = true) (g : b = a) => show decide (y ∈ l) = raw by
    have q := per_ok (r := r) (start := start) (t := t) (most := 2000) (by rw [hp]; exact e)
    rw [hq] at q
    have := ones_has (r := r) (start := start) (t := t) (most := 2000) (x := y) (by rw [hp]; exact e) (by rw [hb, f, g, (Prod.mk.inj q).1])
    rw [hp, hr] at this
    exact this.symm)
  have FI := Lib.hid (fun (e : raw = true) => show inn = true by
    have := raw_per (r := r) (start := start) (x := y) (by rw [hr]; exact e)
    rw [hb] at this
    exact this)
  have HP := Lib.hid hp
  have HQ := Lib.hid hq
  have HB' := Lib.hid hb
  have HR := Lib.hid hr
  clear hp hq hb hr
  clear h T
  obtain ⟨ra6, rn6, rc6, ra7, rn7, rc7, ra8, rn8, rc8, ra9, rn9, rc9, ra10, rn10, rc10, ra11, rn11, rc11, ra12, rn12, rc12, ra13, rn13, rc13, ra14, rn14, rc14⟩ := S
  obtain ⟨rfreq, ritv, rcnt, rtil, rwkst, rends, rmon, rweek, ryday, rmday, rday, rhour, rminu, rsec, rpos⟩ := r
  show Calls Tryz.prog 5 #[.agg #[.int .i64 rfreq, .int .i64 ritv, .int .i64 rcnt, .int .i64 rtil, .int .i64 rwkst, .bool rends, .slice ra6 rn6 rc6, .slice ra7 rn7 rc7, .slice ra8 rn8 rc8, .slice ra9 rn9 rc9, .slice ra10 rn10 rc10, .slice ra11 rn11 rc11, .slice ra12 rn12 rc12, .slice ra13 rn13 rc13, .slice ra14 rn14 rc14], .int .i64 start, .int .i64 t, .int .i64 y] w _
  go_enter Tryz.func5, Tryz.ntmps5
  go_upto_region 1 with fail
  have B0 := alloc_below w (.cells #[.int .i64 rfreq, .int .i64 ritv, .int .i64 rcnt, .int .i64 rtil, .int .i64 rwkst, .bool rends, .slice ra6 rn6 rc6, .slice ra7 rn7 rc7, .slice ra8 rn8 rc8, .slice ra9 rn9 rc9, .slice ra10 rn10 rc10, .slice ra11 rn11 rc11, .slice ra12 rn12 rc12, .slice ra13 rn13 rc13, .slice ra14 rn14 rc14] 25)
  have Xr0 := Box.new w #[.int .i64 rfreq, .int .i64 ritv, .int .i64 rcnt, .int .i64 rtil, .int .i64 rwkst, .bool rends, .slice ra6 rn6 rc6, .slice ra7 rn7 rc7, .slice ra8 rn8 rc8, .slice ra9 rn9 rc9, .slice ra10 rn10 rc10, .slice ra11 rn11 rc11, .slice ra12 rn12 rc12, .slice ra13 rn13 rc13, .slice ra14 rn14 rc14] 25
  generalize w.alloc (.cells #[.int .i64 rfreq, .int .i64 ritv, .int .i64 rcnt, .int .i64 rtil, .int .i64 rwkst, .bool rends, .slice ra6 rn6 rc6, .slice ra7 rn7 rc7, .slice ra8 rn8 rc8, .slice ra9 rn9 rc9, .slice ra10 rn10 rc10, .slice ra11 rn11 rc11, .slice ra12 rn12 rc12, .slice ra13 rn13 rc13, .slice ra14 rn14 rc14] 25) = w0 at *
  go_wp2_with fail
  refine (first7_is _ (TT.out.on B0)).mono ?_
  rintro e w1 ⟨rfl, b1⟩
  have B1 := B0.trans (b1.mono B0.size)
  have Xr1 := Xr0.below b1
  clear B0 Xr0
  clear b1
  have rz0 : w1.cell? ⟨w.heap.size, 0, none⟩ = some (.int .i64 rfreq) := Xr1.at_ 0 _ rfl
  have rz1 : w1.cell? ⟨w.heap.size, 1, none⟩ = some (.int .i64 ritv) := Xr1.at_ 1 _ rfl
  have rz2 : w1.cell? ⟨w.heap.size, 2, none⟩ = some (.int .i64 rcnt) := Xr1.at_ 2 _ rfl
  have rz3 : w1.cell? ⟨w.heap.size, 3, none⟩ = some (.int .i64 rtil) := Xr1.at_ 3 _ rfl
  have rz4 : w1.cell? ⟨w.heap.size, 4, none⟩ = some (.int .i64 rwkst) := Xr1.at_ 4 _ rfl
  have rz5 : w1.cell? ⟨w.heap.size, 5, none⟩ = some (.bool rends) := Xr1.at_ 5 _ rfl
  have rz6 : w1.cell? ⟨w.heap.size, 6, none⟩ = some (.slice ra6 rn6 rc6) := Xr1.at_ 6 _ rfl
  have rz7 : w1.cell? ⟨w.heap.size, 7, none⟩ = some (.slice ra7 rn7 rc7) := Xr1.at_ 7 _ rfl
  have rz8 : w1.cell? ⟨w.heap.size, 8, none⟩ = some (.slice ra8 rn8 rc8) := Xr1.at_ 8 _ rfl
  have rz9 : w1.cell? ⟨w.heap.size, 9, none⟩ = some (.slice ra9 rn9 rc9) := Xr1.at_ 9 _ rfl
  have rz10 : w1.cell? ⟨w.heap.size, 10, none⟩ = some (.slice ra10 rn10 rc10) := Xr1.at_ 10 _ rfl
  have rz11 : w1.cell? ⟨w.heap.size, 11, none⟩ = some (.slice ra11 rn11 rc11) := Xr1.at_ 11 _ rfl
  have rz12 : w1.cell? ⟨w.heap.size, 12, none⟩ = some (.slice ra12 rn12 rc12) := Xr1.at_ 12 _ rfl
  have rz13 : w1.cell? ⟨w.heap.size, 13, none⟩ = some (.slice ra13 rn13 rc13) := Xr1.at_ 13 _ rfl
  have rz14 : w1.cell? ⟨w.heap.size, 14, none⟩ = some (.slice ra14 rn14 rc14) := Xr1.at_ 14 _ rfl
  go_wp2_with fail
  refine (light_is _ ⟨ra6, rn6, rc6, ra7, rn7, rc7, ra8, rn8, rc8, ra9, rn9, rc9, ra10, rn10, rc10, ra11, rn11, rc11, ra12, rn12, rc12, ra13, rn13, rc13, ra14, rn14, rc14⟩ ⟨rfreq, ritv, rcnt, rtil, rwkst, rends, rmon, rweek, ryday, rmday, rday, rhour, rminu, rsec, rpos⟩ start (in_below HK.out B1)).mono ?_
  rintro e w2 ⟨⟨lb, rfl, HB⟩, b2⟩
  clear rz0 rz1 rz2 rz3 rz4 rz5 rz6 rz7 rz8 rz9 rz10 rz11 rz12 rz13 rz14
  have B2 := B1.trans (b2.mono B1.size)
  have Xr2 := Xr1.below b2
  clear B1 Xr1
  clear b2
  have LB := Lib.hid HB
  clear HB
  cases lb
  · go_wp2_with fail
    refine (first7_is _ (TT.out.on B2)).mono ?_
    rintro e w3 ⟨rfl, b3⟩
    have B3 := B2.trans (b3.mono B2.size)
    have Xr3 := Xr2.below b3
    clear B2 Xr2
    clear b3
    go_wp2
    go_ret
    exact ⟨rfl, B3⟩
  · have X1 := Lib.hid (LB.out rfl)
    clear LB
    have RA := Lib.hid (FEW.out X1.out)
    have rz0 : w2.cell? ⟨w.heap.size, 0, none⟩ = some (.int .i64 rfreq) := Xr2.at_ 0 _ rfl
    have rz1 : w2.cell? ⟨w.heap.size, 1, none⟩ = some (.int .i64 ritv) := Xr2.at_ 1 _ rfl
    have rz2 : w2.cell? ⟨w.heap.size, 2, none⟩ = some (.int .i64 rcnt) := Xr2.at_ 2 _ rfl
    have rz3 : w2.cell? ⟨w.heap.size, 3, none⟩ = some (.int .i64 rtil) := Xr2.at_ 3 _ rfl
    have rz4 : w2.cell? ⟨w.heap.size, 4, none⟩ = some (.int .i64 rwkst) := Xr2.at_ 4 _ rfl
    have rz5 : w2.cell? ⟨w.heap.size, 5, none⟩ = some (.bool rends) := Xr2.at_ 5 _ rfl
    have rz6 : w2.cell? ⟨w.heap.size, 6, none⟩ = some (.slice ra6 rn6 rc6) := Xr2.at_ 6 _ rfl
    have rz7 : w2.cell? ⟨w.heap.size, 7, none⟩ = some (.slice ra7 rn7 rc7) := Xr2.at_ 7 _ rfl
    have rz8 : w2.cell? ⟨w.heap.size, 8, none⟩ = some (.slice ra8 rn8 rc8) := Xr2.at_ 8 _ rfl
    have rz9 : w2.cell? ⟨w.heap.size, 9, none⟩ = some (.slice ra9 rn9 rc9) := Xr2.at_ 9 _ rfl
    have rz10 : w2.cell? ⟨w.heap.size, 10, none⟩ = some (.slice ra10 rn10 rc10) := Xr2.at_ 10 _ rfl
    have rz11 : w2.cell? ⟨w.heap.size, 11, none⟩ = some (.slice ra11 rn11 rc11) := Xr2.at_ 11 _ rfl
    have rz12 : w2.cell? ⟨w.heap.size, 12, none⟩ = some (.slice ra12 rn12 rc12) := Xr2.at_ 12 _ rfl
    have rz13 : w2.cell? ⟨w.heap.size, 13, none⟩ = some (.slice ra13 rn13 rc13) := Xr2.at_ 13 _ rfl
    have rz14 : w2.cell? ⟨w.heap.size, 14, none⟩ = some (.slice ra14 rn14 rc14) := Xr2.at_ 14 _ rfl
    go_wp2_with fail
    refine (setP_is _ ⟨ra6, rn6, rc6, ra7, rn7, rc7, ra8, rn8, rc8, ra9, rn9, rc9, ra10, rn10, rc10, ra11, rn11, rc11, ra12, rn12, rc12, ra13, rn13, rc13, ra14, rn14, rc14⟩ ⟨rfreq, ritv, rcnt, rtil, rwkst, rends, rmon, rweek, ryday, rmday, rday, rhour, rminu, rsec, rpos⟩ start t 2000 (l, z) (RA.out.below B2) HP.out).mono ?_
    rintro e w3 ⟨A1, p1, he, ia, b3⟩
    replace he : e = .returned (.tuple #[.slice A1 l.length p1, .int .i64 z]) := he
    subst he
    clear rz0 rz1 rz2 rz3 rz4 rz5 rz6 rz7 rz8 rz9 rz10 rz11 rz12 rz13 rz14
    have B3 := B2.trans (b3.mono B2.size)
    have Xr3 := Xr2.below b3
    clear B2 Xr2
    clear b3
    have K1 := Lib.hid (show IsAt w3 A1 l.length l from ia)
    clear ia
    have rz0 : w3.cell? ⟨w.heap.size, 0, none⟩ = some (.int .i64 rfreq) := Xr3.at_ 0 _ rfl
    have rz1 : w3.cell? ⟨w.heap.size, 1, none⟩ = some (.int .i64 ritv) := Xr3.at_ 1 _ rfl
    have rz2 : w3.cell? ⟨w.heap.size, 2, none⟩ = some (.int .i64 rcnt) := Xr3.at_ 2 _ rfl
    have rz3 : w3.cell? ⟨w.heap.size, 3, none⟩ = some (.int .i64 rtil) := Xr3.at_ 3 _ rfl
    have rz4 : w3.cell? ⟨w.heap.size, 4, none⟩ = some (.int .i64 rwkst) := Xr3.at_ 4 _ rfl
    have rz5 : w3.cell? ⟨w.heap.size, 5, none⟩ = some (.bool rends) := Xr3.at_ 5 _ rfl
    have rz6 : w3.cell? ⟨w.heap.size, 6, none⟩ = some (.slice ra6 rn6 rc6) := Xr3.at_ 6 _ rfl
    have rz7 : w3.cell? ⟨w.heap.size, 7, none⟩ = some (.slice ra7 rn7 rc7) := Xr3.at_ 7 _ rfl
    have rz8 : w3.cell? ⟨w.heap.size, 8, none⟩ = some (.slice ra8 rn8 rc8) := Xr3.at_ 8 _ rfl
    have rz9 : w3.cell? ⟨w.heap.size, 9, none⟩ = some (.slice ra9 rn9 rc9) := Xr3.at_ 9 _ rfl
    have rz10 : w3.cell? ⟨w.heap.size, 10, none⟩ = some (.slice ra10 rn10 rc10) := Xr3.at_ 10 _ rfl
    have rz11 : w3.cell? ⟨w.heap.size, 11, none⟩ = some (.slice ra11 rn11 rc11) := Xr3.at_ 11 _ rfl
    have rz12 : w3.cell? ⟨w.heap.size, 12, none⟩ = some (.slice ra12 rn12 rc12) := Xr3.at_ 12 _ rfl
    have rz13 : w3.cell? ⟨w.heap.size, 13, none⟩ = some (.slice ra13 rn13 rc13) := Xr3.at_ 13 _ rfl
    have rz14 : w3.cell? ⟨w.heap.size, 14, none⟩ = some (.slice ra14 rn14 rc14) := Xr3.at_ 14 _ rfl
    go_wp2_with fail
    refine (periodP_is _ ⟨ra6, rn6, rc6, ra7, rn7, rc7, ra8, rn8, rc8, ra9, rn9, rc9, ra10, rn10, rc10, ra11, rn11, rc11, ra12, rn12, rc12, ra13, rn13, rc13, ra14, rn14, rc14⟩ ⟨rfreq, ritv, rcnt, rtil, rwkst, rends, rmon, rweek, ryday, rmday, rday, rhour, rminu, rsec, rpos⟩ start t a ok (RA.out.below B3) HQ.out).mono ?_
    rintro e w4 ⟨rfl, b4⟩
    clear rz0 rz1 rz2 rz3 rz4 rz5 rz6 rz7 rz8 rz9 rz10 rz11 rz12 rz13 rz14
    have B4 := B3.trans (b4.mono B3.size)
    have Xr4 := Xr3.below b4
    clear B3 Xr3
    have K1 := Lib.hid (K1.out.below b4)
    clear b4
    by_cases hz : z = 0
    · have tz : ((z : Int) != 0) = false := by rw [bne_eq_false_iff_eq]; exact hz
      obtain rfl : ok = true := FK.out hz
      have FO := Lib.hid (FO.out hz)
      have FH := Lib.hid (FH.out hz)
      clear hz FK FN
      obtain ⟨n1, h1⟩ : ∃ n, l.length = n := ⟨_, rfl⟩
      have LN := Lib.hid h1
      rw [h1] at LL K1 ⊢
      clear h1
      go_upto_region 9 with fail
      go_wp2
      go_loopw [13] (fun i wr => ∃ t1 : Nat, t1 ≤ n1 ∧ i = .int .i64 t1 ∧ Below w4.heap.size w4 wr) (fun i _ => n1 - (intOf i).toNat)
      case atStart => exact ⟨0, Nat.zero_le _, rfl, Below.refl _ _⟩
      case round =>
        obtain ⟨w5, rfl⟩ : ∃ wo : World, wo = wr := ⟨_, rfl⟩
        obtain ⟨t1, ht1, rfl, br⟩ := hrel
        have BR := Lib.hid br
        have B5 := B4.trans (br.mono B4.size)
        have Xr5 := Xr4.below br
        clear B4 Xr4
        have K1 := Lib.hid (K1.out.below br)
        clear br
        by_cases hlt : t1 < n1
        · obtain ⟨o1, o2⟩ := FO.out t1 (by rw [LN.out]; exact hlt)
          obtain ⟨bl, of, ea, hl, hc⟩ := K1.out.2 (show 0 < n1 by omega)
          subst ea
          have c0 := hc t1 hlt
          have O1 := Lib.hid o1
          have O2 := Lib.hid o2
          have i1 : (0 : Int) ≤ (t1 : Int) := by omega
          have i2 : (t1 : Int) < (n1 : Int) := by omega
          have i3 : ((t1 : Int)).toNat = t1 := by omega
          have i4 : IntKind.i64.wrap ((t1 : Int) + 1) = (t1 : Int) + 1 := IntWalk.i64_in _ (by omega)
          clear o1 o2
          as_aux_lemma =>
            by_cases h0 : t1 = 0
            · subst h0
              have c0 : w5.cell? ⟨bl, of, none⟩ = some (.int .i64 (iat l 0)) := c0
              clear hc FR
              go_upto_region 12 with fail
              have rq0 := Past.at_ (W := w5) Xr5.1 (show w5.cell? ⟨w.heap.size, 0, none⟩ = some (.int .i64 rfreq) from Xr5.at_ 0 _ rfl)
              have rq1 := Past.at_ (W := w5) Xr5.1 (show w5.cell? ⟨w.heap.size, 1, none⟩ = some (.int .i64 ritv) from Xr5.at_ 1 _ rfl)
              have rq2 := Past.at_ (W := w5) Xr5.1 (show w5.cell? ⟨w.heap.size, 2, none⟩ = some (.int .i64 rcnt) from Xr5.at_ 2 _ rfl)
              have rq3 := Past.at_ (W := w5) Xr5.1 (show w5.cell? ⟨w.heap.size, 3, none⟩ = some (.int .i64 rtil) from Xr5.at_ 3 _ rfl)
              have rq4 := Past.at_ (W := w5) Xr5.1 (show w5.cell? ⟨w.heap.size, 4, none⟩ = some (.int .i64 rwkst) from Xr5.at_ 4 _ rfl)
              have rq5 := Past.at_ (W := w5) Xr5.1 (show w5.cell? ⟨w.heap.size, 5, none⟩ = some (.bool rends) from Xr5.at_ 5 _ rfl)
              have rq6 := Past.at_ (W := w5) Xr5.1 (show w5.cell? ⟨w.heap.size, 6, none⟩ = some (.slice ra6 rn6 rc6) from Xr5.at_ 6 _ rfl)
              have rq7 := Past.at_ (W := w5) Xr5.1 (show w5.cell? ⟨w.heap.size, 7, none⟩ = some (.slice ra7 rn7 rc7) from Xr5.at_ 7 _ rfl)
              have rq8 := Past.at_ (W := w5) Xr5.1 (show w5.cell? ⟨w.heap.size, 8, none⟩ = some (.slice ra8 rn8 rc8) from Xr5.at_ 8 _ rfl)
              have rq9 := Past.at_ (W := w5) Xr5.1 (show w5.cell? ⟨w.heap.size, 9, none⟩ = some (.slice ra9 rn9 rc9) from Xr5.at_ 9 _ rfl)
              have rq10 := Past.at_ (W := w5) Xr5.1 (show w5.cell? ⟨w.heap.size, 10, none⟩ = some (.slice ra10 rn10 rc10) from Xr5.at_ 10 _ rfl)
              have rq11 := Past.at_ (W := w5) Xr5.1 (show w5.cell? ⟨w.heap.size, 11, none⟩ = some (.slice ra11 rn11 rc11) from Xr5.at_ 11 _ rfl)
              have rq12 := Past.at_ (W := w5) Xr5.1 (show w5.cell? ⟨w.heap.size, 12, none⟩ = some (.slice ra12 rn12 rc12) from Xr5.at_ 12 _ rfl)
              have rq13 := Past.at_ (W := w5) Xr5.1 (show w5.cell? ⟨w.heap.size, 13, none⟩ = some (.slice ra13 rn13 rc13) from Xr5.at_ 13 _ rfl)
              have rq14 := Past.at_ (W := w5) Xr5.1 (show w5.cell? ⟨w.heap.size, 14, none⟩ = some (.slice ra14 rn14 rc14) from Xr5.at_ 14 _ rfl)
              have TV := Lib.hid (fun v : In (Past w5) => TT.out.on (B5.trans (Below.mono (show Below _ _ _ from v.h) B5.size)))
              have q0 := Past.at_ (W := w5) hl c0
              have C0 := Lib.hid (show ∀ v : In (Past w5), Calls Tryz.prog 25 #[.agg #[.int .i64 rfreq, .int .i64 ritv, .int .i64 rcnt, .int .i64 rtil, .int .i64 rwkst, .bool rends, .slice ra6 rn6 rc6, .slice ra7 rn7 rc7, .slice ra8 rn8 rc8, .slice ra9 rn9 rc9, .slice ra10 rn10 rc10, .slice ra11 rn11 rc11, .slice ra12 rn12 rc12, .slice ra13 rn13 rc13, .slice ra14 rn14 rc14], .int .i64 start, .int .i64 (iat l 0)] v.w (fun e w' => e = .returned (.tuple #[.int .i64 a, .bool true]) ∧ Below v.w.heap.size v.w w') from fun v => periodP_is v.w ⟨ra6, rn6, rc6, ra7, rn7, rc7, ra8, rn8, rc8, ra9, rn9, rc9, ra10, rn10, rc10, ra11, rn11, rc11, ra12, rn12, rc12, ra13, rn13, rc13, ra14, rn14, rc14⟩ ⟨rfreq, ritv, rcnt, rtil, rwkst, rends, rmon, rweek, ryday, rmday, rday, rhour, rminu, rsec, rpos⟩ start (iat l 0) a true ((RA.out.below B5).past v) O2.out)
              have p9 : Past w5 w5 := Below.refl _ _
              have hne : Nonempty (In (Past w5)) := ⟨⟨_, p9⟩⟩
              refine wp_region_class (Past w5) (by kernel_rfl) (by kernel_rfl) (Past.drew' p9) ?_
              try simp only [List.append]
              repeat (any_goals (first | go_big_quiet_step ((first | (with_reducible refine quiet_cl Past.on (C0.out _)))) | quiet_step ((first | (with_reducible refine quiet_cl Past.on (C0.out _))))))
              refine wpQuiet_nil ?_
              rintro w' ⟨n9, hq⟩
              have hb : Below w5.heap.size w5 w' := by rw [hq]; exact n9.h
              clear hne p9 hq n9
              clear q0 C0 TV rq0 rq1 rq2 rq3 rq4 rq5 rq6 rq7 rq8 rq9 rq10 rq11 rq12 rq13 rq14
              obtain ⟨w6, rfl⟩ : ∃ wo : World, wo = w' := ⟨_, rfl⟩
              have hl2 := Nat.lt_of_lt_of_le hl hb.size
              have c0 := (hb.cell (p := ⟨bl, _, none⟩) hl).trans c0
              have BR := Lib.hid (BR.out.trans (hb.mono BR.out.size))
              have B6 := B5.trans (hb.mono B5.size)
              have Xr6 := Xr5.below hb
              clear B5 Xr5
              have K1 := Lib.hid (K1.out.below hb)
              clear hb hl
              have hl := hl2
              clear hl2
              go_upto_region 13 with fail
              have rq0 := Past.at_ (W := w6) Xr6.1 (show w6.cell? ⟨w.heap.size, 0, none⟩ = some (.int .i64 rfreq) from Xr6.at_ 0 _ rfl)
              have rq1 := Past.at_ (W := w6) Xr6.1 (show w6.cell? ⟨w.heap.size, 1, none⟩ = some (.int .i64 ritv) from Xr6.at_ 1 _ rfl)
              have rq2 := Past.at_ (W := w6) Xr6.1 (show w6.cell? ⟨w.heap.size, 2, none⟩ = some (.int .i64 rcnt) from Xr6.at_ 2 _ rfl)
              have rq3 := Past.at_ (W := w6) Xr6.1 (show w6.cell? ⟨w.heap.size, 3, none⟩ = some (.int .i64 rtil) from Xr6.at_ 3 _ rfl)
              have rq4 := Past.at_ (W := w6) Xr6.1 (show w6.cell? ⟨w.heap.size, 4, none⟩ = some (.int .i64 rwkst) from Xr6.at_ 4 _ rfl)
              have rq5 := Past.at_ (W := w6) Xr6.1 (show w6.cell? ⟨w.heap.size, 5, none⟩ = some (.bool rends) from Xr6.at_ 5 _ rfl)
              have rq6 := Past.at_ (W := w6) Xr6.1 (show w6.cell? ⟨w.heap.size, 6, none⟩ = some (.slice ra6 rn6 rc6) from Xr6.at_ 6 _ rfl)
              have rq7 := Past.at_ (W := w6) Xr6.1 (show w6.cell? ⟨w.heap.size, 7, none⟩ = some (.slice ra7 rn7 rc7) from Xr6.at_ 7 _ rfl)
              have rq8 := Past.at_ (W := w6) Xr6.1 (show w6.cell? ⟨w.heap.size, 8, none⟩ = some (.slice ra8 rn8 rc8) from Xr6.at_ 8 _ rfl)
              have rq9 := Past.at_ (W := w6) Xr6.1 (show w6.cell? ⟨w.heap.size, 9, none⟩ = some (.slice ra9 rn9 rc9) from Xr6.at_ 9 _ rfl)
              have rq10 := Past.at_ (W := w6) Xr6.1 (show w6.cell? ⟨w.heap.size, 10, none⟩ = some (.slice ra10 rn10 rc10) from Xr6.at_ 10 _ rfl)
              have rq11 := Past.at_ (W := w6) Xr6.1 (show w6.cell? ⟨w.heap.size, 11, none⟩ = some (.slice ra11 rn11 rc11) from Xr6.at_ 11 _ rfl)
              have rq12 := Past.at_ (W := w6) Xr6.1 (show w6.cell? ⟨w.heap.size, 12, none⟩ = some (.slice ra12 rn12 rc12) from Xr6.at_ 12 _ rfl)
              have rq13 := Past.at_ (W := w6) Xr6.1 (show w6.cell? ⟨w.heap.size, 13, none⟩ = some (.slice ra13 rn13 rc13) from Xr6.at_ 13 _ rfl)
              have rq14 := Past.at_ (W := w6) Xr6.1 (show w6.cell? ⟨w.heap.size, 14, none⟩ = some (.slice ra14 rn14 rc14) from Xr6.at_ 14 _ rfl)
              have TV := Lib.hid (fun v : In (Past w6) => TT.out.on (B6.trans (Below.mono (show Below _ _ _ from v.h) B6.size)))
              have q0 := Past.at_ (W := w6) hl c0
              have C0 := Lib.hid (show ∀ v : In (Past w6), Calls Tryz.prog 26 #[.agg #[.int .i64 rfreq, .int .i64 ritv, .int .i64 rcnt, .int .i64 rtil, .int .i64 rwkst, .bool rends, .slice ra6 rn6 rc6, .slice ra7 rn7 rc7, .slice ra8 rn8 rc8, .slice ra9 rn9 rc9, .slice ra10 rn10 rc10, .slice ra11 rn11 rc11, .slice ra12 rn12 rc12, .slice ra13 rn13 rc13, .slice ra14 rn14 rc14], .int .i64 start, .int .i64 (iat l 0)] v.w (fun e w' => e = .returned (.bool true) ∧ Below v.w.heap.size v.w w') from fun v => raw_is v.w ⟨ra6, rn6, rc6, ra7, rn7, rc7, ra8, rn8, rc8, ra9, rn9, rc9, ra10, rn10, rc10, ra11, rn11, rc11, ra12, rn12, rc12, ra13, rn13, rc13, ra14, rn14, rc14⟩ ⟨rfreq, ritv, rcnt, rtil, rwkst, rends, rmon, rweek, ryday, rmday, rday, rhour, rminu, rsec, rpos⟩ start (iat l 0) true ((RA.out.below B6).past v) O1.out)
              have p9 : Past w6 w6 := Below.refl _ _
              have hne : Nonempty (In (Past w6)) := ⟨⟨_, p9⟩⟩
              refine wp_region_class (Past w6) (by kernel_rfl) (by kernel_rfl) (Past.drew' p9) ?_
              try simp only [List.append]
              repeat (any_goals (first | go_big_quiet_step ((first | (with_reducible refine quiet_cl Past.on (C0.out _)))) | quiet_step ((first | (with_reducible refine quiet_cl Past.on (C0.out _))))))
              refine wpQuiet_nil ?_
              rintro w' ⟨n9, hq⟩
              have hb : Below w6.heap.size w6 w' := by rw [hq]; exact n9.h
              clear hne p9 hq n9
              go_wp2
              go_roundw
              case rel => exact ⟨1, by omega, by go_num, BR.out.trans (hb.mono BR.out.size)⟩
              case measure => simp [intOf]; omega
            · have g0 : decide ((0 : Int) < (t1 : Int)) = true := decide_eq_true (by omega)
              have g9 : decide (0 < t1) = true := decide_eq_true (by omega)
              have g8 : 1 ≤ t1 := by omega
              have c1 := hc (t1 - 1) (by omega)
              have g1 : decide (iat l t1 ≤ iat l (t1 - 1)) = false := decide_eq_false (by have := FR.out t1 (by omega) (by rw [LN.out]; exact hlt); omega)
              have g2 : IntKind.i64.wrap ((t1 : Int) - 1) = (t1 : Int) - 1 := IntWalk.i64_in _ (by omega)
              have g3 : (0 : Int) ≤ (t1 : Int) - 1 := by omega
              have g4 : (t1 : Int) - 1 < (n1 : Int) := by omega
              have g5 : ((t1 : Int) - 1).toNat = t1 - 1 := by omega
              have H0 := Lib.hid h0
              clear hc FR h0
              generalize hs1 : iat l (t1 - 1) = s1 at *
              clear hs1
              go_upto_region 12 with fail
              have rq0 := Past.at_ (W := w5) Xr5.1 (show w5.cell? ⟨w.heap.size, 0, none⟩ = some (.int .i64 rfreq) from Xr5.at_ 0 _ rfl)
              have rq1 := Past.at_ (W := w5) Xr5.1 (show w5.cell? ⟨w.heap.size, 1, none⟩ = some (.int .i64 ritv) from Xr5.at_ 1 _ rfl)
              have rq2 := Past.at_ (W := w5) Xr5.1 (show w5.cell? ⟨w.heap.size, 2, none⟩ = some (.int .i64 rcnt) from Xr5.at_ 2 _ rfl)
              have rq3 := Past.at_ (W := w5) Xr5.1 (show w5.cell? ⟨w.heap.size, 3, none⟩ = some (.int .i64 rtil) from Xr5.at_ 3 _ rfl)
              have rq4 := Past.at_ (W := w5) Xr5.1 (show w5.cell? ⟨w.heap.size, 4, none⟩ = some (.int .i64 rwkst) from Xr5.at_ 4 _ rfl)
              have rq5 := Past.at_ (W := w5) Xr5.1 (show w5.cell? ⟨w.heap.size, 5, none⟩ = some (.bool rends) from Xr5.at_ 5 _ rfl)
              have rq6 := Past.at_ (W := w5) Xr5.1 (show w5.cell? ⟨w.heap.size, 6, none⟩ = some (.slice ra6 rn6 rc6) from Xr5.at_ 6 _ rfl)
              have rq7 := Past.at_ (W := w5) Xr5.1 (show w5.cell? ⟨w.heap.size, 7, none⟩ = some (.slice ra7 rn7 rc7) from Xr5.at_ 7 _ rfl)
              have rq8 := Past.at_ (W := w5) Xr5.1 (show w5.cell? ⟨w.heap.size, 8, none⟩ = some (.slice ra8 rn8 rc8) from Xr5.at_ 8 _ rfl)
              have rq9 := Past.at_ (W := w5) Xr5.1 (show w5.cell? ⟨w.heap.size, 9, none⟩ = some (.slice ra9 rn9 rc9) from Xr5.at_ 9 _ rfl)
              have rq10 := Past.at_ (W := w5) Xr5.1 (show w5.cell? ⟨w.heap.size, 10, none⟩ = some (.slice ra10 rn10 rc10) from Xr5.at_ 10 _ rfl)
              have rq11 := Past.at_ (W := w5) Xr5.1 (show w5.cell? ⟨w.heap.size, 11, none⟩ = some (.slice ra11 rn11 rc11) from Xr5.at_ 11 _ rfl)
              have rq12 := Past.at_ (W := w5) Xr5.1 (show w5.cell? ⟨w.heap.size, 12, none⟩ = some (.slice ra12 rn12 rc12) from Xr5.at_ 12 _ rfl)
              have rq13 := Past.at_ (W := w5) Xr5.1 (show w5.cell? ⟨w.heap.size, 13, none⟩ = some (.slice ra13 rn13 rc13) from Xr5.at_ 13 _ rfl)
              have rq14 := Past.at_ (W := w5) Xr5.1 (show w5.cell? ⟨w.heap.size, 14, none⟩ = some (.slice ra14 rn14 rc14) from Xr5.at_ 14 _ rfl)
              have TV := Lib.hid (fun v : In (Past w5) => TT.out.on (B5.trans (Below.mono (show Below _ _ _ from v.h) B5.size)))
              have q0 := Past.at_ (W := w5) hl c0
              have C0 := Lib.hid (show ∀ v : In (Past w5), Calls Tryz.prog 25 #[.agg #[.int .i64 rfreq, .int .i64 ritv, .int .i64 rcnt, .int .i64 rtil, .int .i64 rwkst, .bool rends, .slice ra6 rn6 rc6, .slice ra7 rn7 rc7, .slice ra8 rn8 rc8, .slice ra9 rn9 rc9, .slice ra10 rn10 rc10, .slice ra11 rn11 rc11, .slice ra12 rn12 rc12, .slice ra13 rn13 rc13, .slice ra14 rn14 rc14], .int .i64 start, .int .i64 (iat l t1)] v.w (fun e w' => e = .returned (.tuple #[.int .i64 a, .bool true]) ∧ Below v.w.heap.size v.w w') from fun v => periodP_is v.w ⟨ra6, rn6, rc6, ra7, rn7, rc7, ra8, rn8, rc8, ra9, rn9, rc9, ra10, rn10, rc10, ra11, rn11, rc11, ra12, rn12, rc12, ra13, rn13, rc13, ra14, rn14, rc14⟩ ⟨rfreq, ritv, rcnt, rtil, rwkst, rends, rmon, rweek, ryday, rmday, rday, rhour, rminu, rsec, rpos⟩ start (iat l t1) a true ((RA.out.below B5).past v) O2.out)
              have p9 : Past w5 w5 := Below.refl _ _
              have hne : Nonempty (In (Past w5)) := ⟨⟨_, p9⟩⟩
              refine wp_region_class (Past w5) (by kernel_rfl) (by kernel_rfl) (Past.drew' p9) ?_
              try simp only [List.append]
              repeat (any_goals (first | go_big_quiet_step ((first | (with_reducible refine quiet_cl Past.on (C0.out _)))) | quiet_step ((first | (with_reducible refine quiet_cl Past.on (C0.out _))))))
              refine wpQuiet_nil ?_
              rintro w' ⟨n9, hq⟩
              have hb : Below w5.heap.size w5 w' := by rw [hq]; exact n9.h
              clear hne p9 hq n9
              clear q0 C0 TV rq0 rq1 rq2 rq3 rq4 rq5 rq6 rq7 rq8 rq9 rq10 rq11 rq12 rq13 rq14
              obtain ⟨w6, rfl⟩ : ∃ wo : World, wo = w' := ⟨_, rfl⟩
              have hl2 := Nat.lt_of_lt_of_le hl hb.size
              have c0 := (hb.cell (p := ⟨bl, _, none⟩) hl).trans c0
              have BR := Lib.hid (BR.out.trans (hb.mono BR.out.size))
              have c1 := (hb.cell (p := ⟨bl, _, none⟩) hl).trans c1
              have B6 := B5.trans (hb.mono B5.size)
              have Xr6 := Xr5.below hb
              clear B5 Xr5
              have K1 := Lib.hid (K1.out.below hb)
              clear hb hl
              have hl := hl2
              clear hl2
              go_upto_region 13 with fail
              have rq0 := Past.at_ (W := w6) Xr6.1 (show w6.cell? ⟨w.heap.size, 0, none⟩ = some (.int .i64 rfreq) from Xr6.at_ 0 _ rfl)
              have rq1 := Past.at_ (W := w6) Xr6.1 (show w6.cell? ⟨w.heap.size, 1, none⟩ = some (.int .i64 ritv) from Xr6.at_ 1 _ rfl)
              have rq2 := Past.at_ (W := w6) Xr6.1 (show w6.cell? ⟨w.heap.size, 2, none⟩ = some (.int .i64 rcnt) from Xr6.at_ 2 _ rfl)
              have rq3 := Past.at_ (W := w6) Xr6.1 (show w6.cell? ⟨w.heap.size, 3, none⟩ = some (.int .i64 rtil) from Xr6.at_ 3 _ rfl)
              have rq4 := Past.at_ (W := w6) Xr6.1 (show w6.cell? ⟨w.heap.size, 4, none⟩ = some (.int .i64 rwkst) from Xr6.at_ 4 _ rfl)
              have rq5 := Past.at_ (W := w6) Xr6.1 (show w6.cell? ⟨w.heap.size, 5, none⟩ = some (.bool rends) from Xr6.at_ 5 _ rfl)
              have rq6 := Past.at_ (W := w6) Xr6.1 (show w6.cell? ⟨w.heap.size, 6, none⟩ = some (.slice ra6 rn6 rc6) from Xr6.at_ 6 _ rfl)
              have rq7 := Past.at_ (W := w6) Xr6.1 (show w6.cell? ⟨w.heap.size, 7, none⟩ = some (.slice ra7 rn7 rc7) from Xr6.at_ 7 _ rfl)
              have rq8 := Past.at_ (W := w6) Xr6.1 (show w6.cell? ⟨w.heap.size, 8, none⟩ = some (.slice ra8 rn8 rc8) from Xr6.at_ 8 _ rfl)
              have rq9 := Past.at_ (W := w6) Xr6.1 (show w6.cell? ⟨w.heap.size, 9, none⟩ = some (.slice ra9 rn9 rc9) from Xr6.at_ 9 _ rfl)
              have rq10 := Past.at_ (W := w6) Xr6.1 (show w6.cell? ⟨w.heap.size, 10, none⟩ = some (.slice ra10 rn10 rc10) from Xr6.at_ 10 _ rfl)
              have rq11 := Past.at_ (W := w6) Xr6.1 (show w6.cell? ⟨w.heap.size, 11, none⟩ = some (.slice ra11 rn11 rc11) from Xr6.at_ 11 _ rfl)
              have rq12 := Past.at_ (W := w6) Xr6.1 (show w6.cell? ⟨w.heap.size, 12, none⟩ = some (.slice ra12 rn12 rc12) from Xr6.at_ 12 _ rfl)
              have rq13 := Past.at_ (W := w6) Xr6.1 (show w6.cell? ⟨w.heap.size, 13, none⟩ = some (.slice ra13 rn13 rc13) from Xr6.at_ 13 _ rfl)
              have rq14 := Past.at_ (W := w6) Xr6.1 (show w6.cell? ⟨w.heap.size, 14, none⟩ = some (.slice ra14 rn14 rc14) from Xr6.at_ 14 _ rfl)
              have TV := Lib.hid (fun v : In (Past w6) => TT.out.on (B6.trans (Below.mono (show Below _ _ _ from v.h) B6.size)))
              have q0 := Past.at_ (W := w6) hl c0
              have q1 := Past.at_ (W := w6) hl c1
              have C0 := Lib.hid (show ∀ v : In (Past w6), Calls Tryz.prog 26 #[.agg #[.int .i64 rfreq, .int .i64 ritv, .int .i64 rcnt, .int .i64 rtil, .int .i64 rwkst, .bool rends, .slice ra6 rn6 rc6, .slice ra7 rn7 rc7, .slice ra8 rn8 rc8, .slice ra9 rn9 rc9, .slice ra10 rn10 rc10, .slice ra11 rn11 rc11, .slice ra12 rn12 rc12, .slice ra13 rn13 rc13, .slice ra14 rn14 rc14], .int .i64 start, .int .i64 (iat l t1)] v.w (fun e w' => e = .returned (.bool true) ∧ Below v.w.heap.size v.w w') from fun v => raw_is v.w ⟨ra6, rn6, rc6, ra7, rn7, rc7, ra8, rn8, rc8, ra9, rn9, rc9, ra10, rn10, rc10, ra11, rn11, rc11, ra12, rn12, rc12, ra13, rn13, rc13, ra14, rn14, rc14⟩ ⟨rfreq, ritv, rcnt, rtil, rwkst, rends, rmon, rweek, ryday, rmday, rday, rhour, rminu, rsec, rpos⟩ start (iat l t1) true ((RA.out.below B6).past v) O1.out)
              have p9 : Past w6 w6 := Below.refl _ _
              have hne : Nonempty (In (Past w6)) := ⟨⟨_, p9⟩⟩
              refine wp_region_class (Past w6) (by kernel_rfl) (by kernel_rfl) (Past.drew' p9) ?_
              try simp only [List.append]
              repeat (any_goals (first | go_big_quiet_step ((first | (with_reducible refine quiet_cl Past.on (C0.out _)))) | quiet_step ((first | (with_reducible refine quiet_cl Past.on (C0.out _))))))
              refine wpQuiet_nil ?_
              rintro w' ⟨n9, hq⟩
              have hb : Below w6.heap.size w6 w' := by rw [hq]; exact n9.h
              clear hne p9 hq n9
              go_wp2
              go_roundw
              case rel => exact ⟨t1 + 1, by omega, by go_num, BR.out.trans (hb.mono BR.out.size)⟩
              case measure => simp [intOf]; omega
        · obtain rfl : n1 = t1 := by omega
          have rz0 : w5.cell? ⟨w.heap.size, 0, none⟩ = some (.int .i64 rfreq) := Xr5.at_ 0 _ rfl
          have rz1 : w5.cell? ⟨w.heap.size, 1, none⟩ = some (.int .i64 ritv) := Xr5.at_ 1 _ rfl
          have rz2 : w5.cell? ⟨w.heap.size, 2, none⟩ = some (.int .i64 rcnt) := Xr5.at_ 2 _ rfl
          have rz3 : w5.cell? ⟨w.heap.size, 3, none⟩ = some (.int .i64 rtil) := Xr5.at_ 3 _ rfl
          have rz4 : w5.cell? ⟨w.heap.size, 4, none⟩ = some (.int .i64 rwkst) := Xr5.at_ 4 _ rfl
          have rz5 : w5.cell? ⟨w.heap.size, 5, none⟩ = some (.bool rends) := Xr5.at_ 5 _ rfl
          have rz6 : w5.cell? ⟨w.heap.size, 6, none⟩ = some (.slice ra6 rn6 rc6) := Xr5.at_ 6 _ rfl
          have rz7 : w5.cell? ⟨w.heap.size, 7, none⟩ = some (.slice ra7 rn7 rc7) := Xr5.at_ 7 _ rfl
          have rz8 : w5.cell? ⟨w.heap.size, 8, none⟩ = some (.slice ra8 rn8 rc8) := Xr5.at_ 8 _ rfl
          have rz9 : w5.cell? ⟨w.heap.size, 9, none⟩ = some (.slice ra9 rn9 rc9) := Xr5.at_ 9 _ rfl
          have rz10 : w5.cell? ⟨w.heap.size, 10, none⟩ = some (.slice ra10 rn10 rc10) := Xr5.at_ 10 _ rfl
          have rz11 : w5.cell? ⟨w.heap.size, 11, none⟩ = some (.slice ra11 rn11 rc11) := Xr5.at_ 11 _ rfl
          have rz12 : w5.cell? ⟨w.heap.size, 12, none⟩ = some (.slice ra12 rn12 rc12) := Xr5.at_ 12 _ rfl
          have rz13 : w5.cell? ⟨w.heap.size, 13, none⟩ = some (.slice ra13 rn13 rc13) := Xr5.at_ 13 _ rfl
          have rz14 : w5.cell? ⟨w.heap.size, 14, none⟩ = some (.slice ra14 rn14 rc14) := Xr5.at_ 14 _ rfl
          go_wp2_with fail
          refine (periodP_is _ ⟨ra6, rn6, rc6, ra7, rn7, rc7, ra8, rn8, rc8, ra9, rn9, rc9, ra10, rn10, rc10, ra11, rn11, rc11, ra12, rn12, rc12, ra13, rn13, rc13, ra14, rn14, rc14⟩ ⟨rfreq, ritv, rcnt, rtil, rwkst, rends, rmon, rweek, ryday, rmday, rday, rhour, rminu, rsec, rpos⟩ start y b inn (RA.out.below B5) HB'.out).mono ?_
          rintro e w6 ⟨rfl, b6⟩
          clear rz0 rz1 rz2 rz3 rz4 rz5 rz6 rz7 rz8 rz9 rz10 rz11 rz12 rz13 rz14
          have B6 := B5.trans (b6.mono B5.size)
          have Xr6 := Xr5.below b6
          clear B5 Xr5
          have K1 := Lib.hid (K1.out.below b6)
          clear b6
          have rz0 : w6.cell? ⟨w.heap.size, 0, none⟩ = some (.int .i64 rfreq) := Xr6.at_ 0 _ rfl
          have rz1 : w6.cell? ⟨w.heap.size, 1, none⟩ = some (.int .i64 ritv) := Xr6.at_ 1 _ rfl
          have rz2 : w6.cell? ⟨w.heap.size, 2, none⟩ = some (.int .i64 rcnt) := Xr6.at_ 2 _ rfl
          have rz3 : w6.cell? ⟨w.heap.size, 3, none⟩ = some (.int .i64 rtil) := Xr6.at_ 3 _ rfl
          have rz4 : w6.cell? ⟨w.heap.size, 4, none⟩ = some (.int .i64 rwkst) := Xr6.at_ 4 _ rfl
          have rz5 : w6.cell? ⟨w.heap.size, 5, none⟩ = some (.bool rends) := Xr6.at_ 5 _ rfl
          have rz6 : w6.cell? ⟨w.heap.size, 6, none⟩ = some (.slice ra6 rn6 rc6) := Xr6.at_ 6 _ rfl
          have rz7 : w6.cell? ⟨w.heap.size, 7, none⟩ = some (.slice ra7 rn7 rc7) := Xr6.at_ 7 _ rfl
          have rz8 : w6.cell? ⟨w.heap.size, 8, none⟩ = some (.slice ra8 rn8 rc8) := Xr6.at_ 8 _ rfl
          have rz9 : w6.cell? ⟨w.heap.size, 9, none⟩ = some (.slice ra9 rn9 rc9) := Xr6.at_ 9 _ rfl
          have rz10 : w6.cell? ⟨w.heap.size, 10, none⟩ = some (.slice ra10 rn10 rc10) := Xr6.at_ 10 _ rfl
          have rz11 : w6.cell? ⟨w.heap.size, 11, none⟩ = some (.slice ra11 rn11 rc11) := Xr6.at_ 11 _ rfl
          have rz12 : w6.cell? ⟨w.heap.size, 12, none⟩ = some (.slice ra12 rn12 rc12) := Xr6.at_ 12 _ rfl
          have rz13 : w6.cell? ⟨w.heap.size, 13, none⟩ = some (.slice ra13 rn13 rc13) := Xr6.at_ 13 _ rfl
          have rz14 : w6.cell? ⟨w.heap.size, 14, none⟩ = some (.slice ra14 rn14 rc14) := Xr6.at_ 14 _ rfl
          go_wp2_with fail
          refine (raw_is _ ⟨ra6, rn6, rc6, ra7, rn7, rc7, ra8, rn8, rc8, ra9, rn9, rc9, ra10, rn10, rc10, ra11, rn11, rc11, ra12, rn12, rc12, ra13, rn13, rc13, ra14, rn14, rc14⟩ ⟨rfreq, ritv, rcnt, rtil, rwkst, rends, rmon, rweek, ryday, rmday, rday, rhour, rminu, rsec, rpos⟩ start y raw (RA.out.below B6) HR.out).mono ?_
          rintro e w7 ⟨rfl, b7⟩
          clear rz0 rz1 rz2 rz3 rz4 rz5 rz6 rz7 rz8 rz9 rz10 rz11 rz12 rz13 rz14
          have B7 := B6.trans (b7.mono B6.size)
          have Xr7 := Xr6.below b7
          clear B6 Xr6
          have K1 := Lib.hid (K1.out.below b7)
          clear b7
          go_wp2_with fail
          refine (first7_is _ (TT.out.on B7)).mono ?_
          rintro e w8 ⟨rfl, b8⟩
          have B8 := B7.trans (b8.mono B7.size)
          have Xr8 := Xr7.below b8
          clear B7 Xr7
          have K1 := Lib.hid (K1.out.below b8)
          clear b8
          cases inn
          · cases raw
            · go_wp2
              go_ret
              exact ⟨rfl, B8⟩
            · have := FI.out (by trivial)
              cases this
          · by_cases hba : b = a
            · have tb : ((b : Int) != a) = false := by rw [bne_eq_false_iff_eq]; exact hba
              have E := Lib.hid (FH.out (by trivial) hba)
              have HBA := Lib.hid hba
              clear hba
              go_wp2_with fail
              refine (vhas_is _ A1 n1 p1 l y K1.out (by omega) raw E.out).mono ?_
              rintro e w9 ⟨rfl, b9⟩
              have B9 := B8.trans (b9.mono B8.size)
              have Xr9 := Xr8.below b9
              clear B8 Xr8
              have K1 := Lib.hid (K1.out.below b9)
              clear b9
              cases raw
              · go_wp2
                go_ret
                exact ⟨rfl, B9⟩
              · go_wp2
                go_ret
                exact ⟨rfl, B9⟩
            · have tb : ((b : Int) != a) = true := by rw [bne_iff_ne]; exact hba
              clear hba
              cases raw
              · go_wp2
                go_ret
                exact ⟨rfl, B8⟩
              · go_wp2
                go_ret
                exact ⟨rfl, B8⟩
    · have tz : ((z : Int) != 0) = true := by rw [bne_iff_ne]; exact hz
      have t5 : ((l.length : Int) == 0) = true := by rw [beq_iff_eq, FN.out hz]; rfl
      clear hz FO FH FK
      go_wp2_with fail
      refine (first7_is _ (TT.out.on B4)).mono ?_
      rintro e w5 ⟨rfl, b5⟩
      have B5 := B4.trans (b5.mono B4.size)
      have Xr5 := Xr4.below b5
      clear B4 Xr4
      have K1 := Lib.hid (K1.out.below b5)
      clear b5
      go_wp2
      go_ret
      exact ⟨rfl, B5⟩
end Go.Proofs.YtajgagmpdhmbkaaGreatDoor.Mb
