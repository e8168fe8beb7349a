/- MemberBounds answers true. -/
import Derived.Test.YtajgagmpdhmbkaaGreatDoorMbIn
set_option linter.unusedVariables false
namespace Go.Proofs.YtajgagmpdhmbkaaGreatDoor.Mb
open Go.RowKit Cv St Ru Dd

theorem ints_take (w : World) (A B : Option Addr) (n c m d : Nat) (l k : List Int) (hl : IsAt w A n l) (hk : IsAt w B m k) (h1 : n ≤ 9223372036854775807) (h2 : m ≤ 9223372036854775807) (p : Bool) (hp : decide (l = k) = p) :
    Calls Tryz.prog 29 #[.slice A n c, .slice B m d] w fun e w' => e = .returned (.bool p) ∧ Below w.heap.size w w' := hp ▸ ints_any w A B n c m d l k hl hk h1 h2
set_option maxRecDepth 100000 in
set_option maxHeartbeats 16000000 in
theorem bounds_walk (w : World) (T : Tabs w) (S : RS) (r : Ru) (start t most : Int) (h : RuIn w S r) (l3 : -9223372036854775808 ≤ most) (u3 : most ≤ 9223372036854775807) :
    Calls Tryz.prog 10 #[S.val r, .int .i64 start, .int .i64 t, .int .i64 most] w fun e w' => e = .returned (.bool true) ∧ Below w.heap.size w w' := by
  have TT := Lib.hid T
  have HK := Lib.hid h
  have FEW := Lib.hid (fun (e : fewB S = true) => h.few e)
  obtain ⟨⟨l, z⟩, hp⟩ : ∃ p, setR r start t most = p := ⟨_, rfl⟩
  obtain ⟨⟨k, y⟩, hq⟩ : ∃ p, setR r start t (2 * most) = p := ⟨_, rfl⟩
  have LL : 1 ≤ most → (l.length : Int) ≤ most := fun e => by have := setR_few (r := r) (start := start) (t := t) (most := most) (by omega); rw [hp] at this; exact this
  have LK : 1 ≤ most → (k.length : Int) ≤ 2 * most := fun e => by have := setR_few (r := r) (start := start) (t := t) (most := 2 * most) (by omega); rw [hq] at this; exact this
  have BO := Lib.hid (fun (a : 1 ≤ most) (b : most ≤ 50000) => show (y ≠ 0 → z ≠ 0 ∧ l = []) ∧ (y = 0 → (z = 0 ↔ (k.length : Int) ≤ most) ∧ (z ≠ 0 → l = []) ∧ (z = 0 → l = k)) by
    have := bounds_ok (r := r) (start := start) (t := t) a b
    rw [hp, hq] at this
    exact this)
  have HP := Lib.hid hp
  have HQ := Lib.hid hq
  have LL := Lib.hid LL
  have LK := Lib.hid LK
  clear hp hq
  clear h T
  obtain ⟨ra6, rn6, rc6, ra7, rn7, rc7, ra8, rn8, rc8, ra9, rn9, rc9, ra10, rn10, rc10, ra11, rn11, rc11, ra12, rn12, rc12, ra13, rn13, rc13, ra14, rn14, rc14⟩ := S
  obtain ⟨rfreq, ritv, rcnt, rtil, rwkst, rends, rmon, rweek, ryday, rmday, rday, rhour, rminu, rsec, rpos⟩ := r
  show Calls Tryz.prog 10 #[.agg #[.int .i64 rfreq, .int .i64 ritv, .int .i64 rcnt, .int .i64 rtil, .int .i64 rwkst, .bool rends, .slice ra6 rn6 rc6, .slice ra7 rn7 rc7, .slice ra8 rn8 rc8, .slice ra9 rn9 rc9, .slice ra10 rn10 rc10, .slice ra11 rn11 rc11, .slice ra12 rn12 rc12, .slice ra13 rn13 rc13, .slice ra14 rn14 rc14], .int .i64 start, .int .i64 t, .int .i64 most] w _
  go_enter Tryz.func10, Tryz.ntmps10
  go_upto_region 1 with fail
  have B0 := alloc_below w (.cells #[.int .i64 rfreq, .int .i64 ritv, .int .i64 rcnt, .int .i64 rtil, .int .i64 rwkst, .bool rends, .slice ra6 rn6 rc6, .slice ra7 rn7 rc7, .slice ra8 rn8 rc8, .slice ra9 rn9 rc9, .slice ra10 rn10 rc10, .slice ra11 rn11 rc11, .slice ra12 rn12 rc12, .slice ra13 rn13 rc13, .slice ra14 rn14 rc14] 25)
  have Xr0 := Box.new w #[.int .i64 rfreq, .int .i64 ritv, .int .i64 rcnt, .int .i64 rtil, .int .i64 rwkst, .bool rends, .slice ra6 rn6 rc6, .slice ra7 rn7 rc7, .slice ra8 rn8 rc8, .slice ra9 rn9 rc9, .slice ra10 rn10 rc10, .slice ra11 rn11 rc11, .slice ra12 rn12 rc12, .slice ra13 rn13 rc13, .slice ra14 rn14 rc14] 25
  generalize w.alloc (.cells #[.int .i64 rfreq, .int .i64 ritv, .int .i64 rcnt, .int .i64 rtil, .int .i64 rwkst, .bool rends, .slice ra6 rn6 rc6, .slice ra7 rn7 rc7, .slice ra8 rn8 rc8, .slice ra9 rn9 rc9, .slice ra10 rn10 rc10, .slice ra11 rn11 rc11, .slice ra12 rn12 rc12, .slice ra13 rn13 rc13, .slice ra14 rn14 rc14] 25) = w0 at *
  go_wp2_with fail
  refine (first7_is _ (TT.out.on B0)).mono ?_
  rintro e w1 ⟨rfl, b1⟩
  have B1 := B0.trans (b1.mono B0.size)
  have Xr1 := Xr0.below b1
  clear B0 Xr0
  clear b1
  have rz0 : w1.cell? ⟨w.heap.size, 0, none⟩ = some (.int .i64 rfreq) := Xr1.at_ 0 _ rfl
  have rz1 : w1.cell? ⟨w.heap.size, 1, none⟩ = some (.int .i64 ritv) := Xr1.at_ 1 _ rfl
  have rz2 : w1.cell? ⟨w.heap.size, 2, none⟩ = some (.int .i64 rcnt) := Xr1.at_ 2 _ rfl
  have rz3 : w1.cell? ⟨w.heap.size, 3, none⟩ = some (.int .i64 rtil) := Xr1.at_ 3 _ rfl
  have rz4 : w1.cell? ⟨w.heap.size, 4, none⟩ = some (.int .i64 rwkst) := Xr1.at_ 4 _ rfl
  have rz5 : w1.cell? ⟨w.heap.size, 5, none⟩ = some (.bool rends) := Xr1.at_ 5 _ rfl
  have rz6 : w1.cell? ⟨w.heap.size, 6, none⟩ = some (.slice ra6 rn6 rc6) := Xr1.at_ 6 _ rfl
  have rz7 : w1.cell? ⟨w.heap.size, 7, none⟩ = some (.slice ra7 rn7 rc7) := Xr1.at_ 7 _ rfl
  have rz8 : w1.cell? ⟨w.heap.size, 8, none⟩ = some (.slice ra8 rn8 rc8) := Xr1.at_ 8 _ rfl
  have rz9 : w1.cell? ⟨w.heap.size, 9, none⟩ = some (.slice ra9 rn9 rc9) := Xr1.at_ 9 _ rfl
  have rz10 : w1.cell? ⟨w.heap.size, 10, none⟩ = some (.slice ra10 rn10 rc10) := Xr1.at_ 10 _ rfl
  have rz11 : w1.cell? ⟨w.heap.size, 11, none⟩ = some (.slice ra11 rn11 rc11) := Xr1.at_ 11 _ rfl
  have rz12 : w1.cell? ⟨w.heap.size, 12, none⟩ = some (.slice ra12 rn12 rc12) := Xr1.at_ 12 _ rfl
  have rz13 : w1.cell? ⟨w.heap.size, 13, none⟩ = some (.slice ra13 rn13 rc13) := Xr1.at_ 13 _ rfl
  have rz14 : w1.cell? ⟨w.heap.size, 14, none⟩ = some (.slice ra14 rn14 rc14) := Xr1.at_ 14 _ rfl
  go_wp2_with fail
  refine (light_is _ ⟨ra6, rn6, rc6, ra7, rn7, rc7, ra8, rn8, rc8, ra9, rn9, rc9, ra10, rn10, rc10, ra11, rn11, rc11, ra12, rn12, rc12, ra13, rn13, rc13, ra14, rn14, rc14⟩ ⟨rfreq, ritv, rcnt, rtil, rwkst, rends, rmon, rweek, ryday, rmday, rday, rhour, rminu, rsec, rpos⟩ start (in_below HK.out B1)).mono ?_
  rintro e w2 ⟨⟨lb, rfl, HB⟩, b2⟩
  clear rz0 rz1 rz2 rz3 rz4 rz5 rz6 rz7 rz8 rz9 rz10 rz11 rz12 rz13 rz14
  have B2 := B1.trans (b2.mono B1.size)
  have Xr2 := Xr1.below b2
  clear B1 Xr1
  clear b2
  have LB := Lib.hid HB
  clear HB
  cases lb
  · go_wp2_with fail
    refine (first7_is _ (TT.out.on B2)).mono ?_
    rintro e w3 ⟨rfl, b3⟩
    have B3 := B2.trans (b3.mono B2.size)
    have Xr3 := Xr2.below b3
    clear B2 Xr2
    clear b3
    go_wp2
    go_ret
    exact ⟨rfl, B3⟩
  · have X1 := Lib.hid (LB.out rfl)
    clear LB
    have RA := Lib.hid (FEW.out X1.out)
    by_cases c1 : most < 1
    · have t1 : decide (most < 1) = true := decide_eq_true c1
      go_wp2_with fail
      refine (first7_is _ (TT.out.on B2)).mono ?_
      rintro e w3 ⟨rfl, b3⟩
      have B3 := B2.trans (b3.mono B2.size)
      have Xr3 := Xr2.below b3
      clear B2 Xr2
      clear b3
      go_wp2
      go_ret
      exact ⟨rfl, B3⟩
    · have t1 : decide (most < 1) = false := decide_eq_false c1
      by_cases c2 : 50000 < most
      · have t2 : decide ((50000 : Int) < most) = true := decide_eq_true c2
        go_wp2_with fail
        refine (first7_is _ (TT.out.on B2)).mono ?_
        rintro e w3 ⟨rfl, b3⟩
        have B3 := B2.trans (b3.mono B2.size)
        have Xr3 := Xr2.below b3
        clear B2 Xr2
        clear b3
        go_wp2
        go_ret
        exact ⟨rfl, B3⟩
      · have t2 : decide ((50000 : Int) < most) = false := decide_eq_false c2
        have m1 : 1 ≤ most := by omega
        have m2 : most ≤ 50000 := by omega
        have LL := LL.out m1
        have LK := LK.out m1
        have BO := Lib.hid (BO.out m1 m2)
        clear l3 u3 c1 c2
        have rz0 : w2.cell? ⟨w.heap.size, 0, none⟩ = some (.int .i64 rfreq) := Xr2.at_ 0 _ rfl
        have rz1 : w2.cell? ⟨w.heap.size, 1, none⟩ = some (.int .i64 ritv) := Xr2.at_ 1 _ rfl
        have rz2 : w2.cell? ⟨w.heap.size, 2, none⟩ = some (.int .i64 rcnt) := Xr2.at_ 2 _ rfl
        have rz3 : w2.cell? ⟨w.heap.size, 3, none⟩ = some (.int .i64 rtil) := Xr2.at_ 3 _ rfl
        have rz4 : w2.cell? ⟨w.heap.size, 4, none⟩ = some (.int .i64 rwkst) := Xr2.at_ 4 _ rfl
        have rz5 : w2.cell? ⟨w.heap.size, 5, none⟩ = some (.bool rends) := Xr2.at_ 5 _ rfl
        have rz6 : w2.cell? ⟨w.heap.size, 6, none⟩ = some (.slice ra6 rn6 rc6) := Xr2.at_ 6 _ rfl
        have rz7 : w2.cell? ⟨w.heap.size, 7, none⟩ = some (.slice ra7 rn7 rc7) := Xr2.at_ 7 _ rfl
        have rz8 : w2.cell? ⟨w.heap.size, 8, none⟩ = some (.slice ra8 rn8 rc8) := Xr2.at_ 8 _ rfl
        have rz9 : w2.cell? ⟨w.heap.size, 9, none⟩ = some (.slice ra9 rn9 rc9) := Xr2.at_ 9 _ rfl
        have rz10 : w2.cell? ⟨w.heap.size, 10, none⟩ = some (.slice ra10 rn10 rc10) := Xr2.at_ 10 _ rfl
        have rz11 : w2.cell? ⟨w.heap.size, 11, none⟩ = some (.slice ra11 rn11 rc11) := Xr2.at_ 11 _ rfl
        have rz12 : w2.cell? ⟨w.heap.size, 12, none⟩ = some (.slice ra12 rn12 rc12) := Xr2.at_ 12 _ rfl
        have rz13 : w2.cell? ⟨w.heap.size, 13, none⟩ = some (.slice ra13 rn13 rc13) := Xr2.at_ 13 _ rfl
        have rz14 : w2.cell? ⟨w.heap.size, 14, none⟩ = some (.slice ra14 rn14 rc14) := Xr2.at_ 14 _ rfl
        go_wp2_with fail
        refine (setP_is _ ⟨ra6, rn6, rc6, ra7, rn7, rc7, ra8, rn8, rc8, ra9, rn9, rc9, ra10, rn10, rc10, ra11, rn11, rc11, ra12, rn12, rc12, ra13, rn13, rc13, ra14, rn14, rc14⟩ ⟨rfreq, ritv, rcnt, rtil, rwkst, rends, rmon, rweek, ryday, rmday, rday, rhour, rminu, rsec, rpos⟩ start t most (l, z) (RA.out.below B2) HP.out).mono ?_
        rintro e w3 ⟨A1, p1, he, ia, b3⟩
        replace he : e = .returned (.tuple #[.slice A1 l.length p1, .int .i64 z]) := he
        subst he
        clear rz0 rz1 rz2 rz3 rz4 rz5 rz6 rz7 rz8 rz9 rz10 rz11 rz12 rz13 rz14
        have B3 := B2.trans (b3.mono B2.size)
        have Xr3 := Xr2.below b3
        clear B2 Xr2
        clear b3
        have K1 := Lib.hid (show IsAt w3 A1 l.length l from ia)
        clear ia
        have IW : IntKind.i64.wrap (2 * most) = 2 * most := IntWalk.i64_in _ (by omega)
        have rz0 : w3.cell? ⟨w.heap.size, 0, none⟩ = some (.int .i64 rfreq) := Xr3.at_ 0 _ rfl
        have rz1 : w3.cell? ⟨w.heap.size, 1, none⟩ = some (.int .i64 ritv) := Xr3.at_ 1 _ rfl
        have rz2 : w3.cell? ⟨w.heap.size, 2, none⟩ = some (.int .i64 rcnt) := Xr3.at_ 2 _ rfl
        have rz3 : w3.cell? ⟨w.heap.size, 3, none⟩ = some (.int .i64 rtil) := Xr3.at_ 3 _ rfl
        have rz4 : w3.cell? ⟨w.heap.size, 4, none⟩ = some (.int .i64 rwkst) := Xr3.at_ 4 _ rfl
        have rz5 : w3.cell? ⟨w.heap.size, 5, none⟩ = some (.bool rends) := Xr3.at_ 5 _ rfl
        have rz6 : w3.cell? ⟨w.heap.size, 6, none⟩ = some (.slice ra6 rn6 rc6) := Xr3.at_ 6 _ rfl
        have rz7 : w3.cell? ⟨w.heap.size, 7, none⟩ = some (.slice ra7 rn7 rc7) := Xr3.at_ 7 _ rfl
        have rz8 : w3.cell? ⟨w.heap.size, 8, none⟩ = some (.slice ra8 rn8 rc8) := Xr3.at_ 8 _ rfl
        have rz9 : w3.cell? ⟨w.heap.size, 9, none⟩ = some (.slice ra9 rn9 rc9) := Xr3.at_ 9 _ rfl
        have rz10 : w3.cell? ⟨w.heap.size, 10, none⟩ = some (.slice ra10 rn10 rc10) := Xr3.at_ 10 _ rfl
        have rz11 : w3.cell? ⟨w.heap.size, 11, none⟩ = some (.slice ra11 rn11 rc11) := Xr3.at_ 11 _ rfl
        have rz12 : w3.cell? ⟨w.heap.size, 12, none⟩ = some (.slice ra12 rn12 rc12) := Xr3.at_ 12 _ rfl
        have rz13 : w3.cell? ⟨w.heap.size, 13, none⟩ = some (.slice ra13 rn13 rc13) := Xr3.at_ 13 _ rfl
        have rz14 : w3.cell? ⟨w.heap.size, 14, none⟩ = some (.slice ra14 rn14 rc14) := Xr3.at_ 14 _ rfl
        go_wp2_with fail
        refine (setP_is _ ⟨ra6, rn6, rc6, ra7, rn7, rc7, ra8, rn8, rc8, ra9, rn9, rc9, ra10, rn10, rc10, ra11, rn11, rc11, ra12, rn12, rc12, ra13, rn13, rc13, ra14, rn14, rc14⟩ ⟨rfreq, ritv, rcnt, rtil, rwkst, rends, rmon, rweek, ryday, rmday, rday, rhour, rminu, rsec, rpos⟩ start t (2 * most) (k, y) (RA.out.below B3) HQ.out).mono ?_
        rintro e w4 ⟨A2, p2, he, ia, b4⟩
        replace he : e = .returned (.tuple #[.slice A2 k.length p2, .int .i64 y]) := he
        subst he
        clear rz0 rz1 rz2 rz3 rz4 rz5 rz6 rz7 rz8 rz9 rz10 rz11 rz12 rz13 rz14
        have B4 := B3.trans (b4.mono B3.size)
        have Xr4 := Xr3.below b4
        clear B3 Xr3
        have K1 := Lib.hid (K1.out.below b4)
        clear b4
        have K2 := Lib.hid (show IsAt w4 A2 k.length k from ia)
        clear ia
        clear IW
        by_cases hy : y = 0
        · obtain ⟨g1, g2, g3⟩ := BO.out.2 hy
          have ty : ((y : Int) != 0) = false := by rw [bne_eq_false_iff_eq]; exact hy
          have G1 := Lib.hid g1
          have G2 := Lib.hid g2
          have G3 := Lib.hid g3
          clear g1 g2 g3 hy BO
          obtain ⟨n1, h1⟩ : ∃ n, l.length = n := ⟨_, rfl⟩
          obtain ⟨n2, h2⟩ : ∃ n, k.length = n := ⟨_, rfl⟩
          have N1 := Lib.hid h1
          rw [h1] at LL K1 ⊢
          rw [h2] at LK K2 G1 ⊢
          clear h1 h2
          go_wp2_with fail
          refine (first7_is _ (TT.out.on B4)).mono ?_
          rintro e w5 ⟨rfl, b5⟩
          have B5 := B4.trans (b5.mono B4.size)
          have Xr5 := Xr4.below b5
          clear B4 Xr4
          have K1 := Lib.hid (K1.out.below b5)
          have K2 := Lib.hid (K2.out.below b5)
          clear b5
          by_cases hz : z = 0
          · have tz : ((z : Int) == 0) = true := by rw [beq_iff_eq]; exact hz
            have tz2 : ((z : Int) != 0) = false := by rw [bne_eq_false_iff_eq]; exact hz
            have t4 : decide ((n2 : Int) ≤ most) = true := decide_eq_true (G1.out.1 hz)
            have E := Lib.hid (G3.out hz)
            clear hz
            go_wp2_with fail
            refine (ints_take _ A1 A2 n1 p1 n2 p2 l k K1.out K2.out (by omega) (by omega) true (decide_eq_true E.out)).mono ?_
            rintro e w6 ⟨rfl, b6⟩
            have B6 := B5.trans (b6.mono B5.size)
            have Xr6 := Xr5.below b6
            clear B5 Xr5
            have K1 := Lib.hid (K1.out.below b6)
            have K2 := Lib.hid (K2.out.below b6)
            clear b6
            go_wp2
            go_ret
            exact ⟨rfl, B6⟩
          · have tz : ((z : Int) == 0) = false := by rw [beq_eq_false_iff_ne]; exact hz
            have tz2 : ((z : Int) != 0) = true := by rw [bne_iff_ne]; exact hz
            have t4 : decide ((n2 : Int) ≤ most) = false := decide_eq_false (fun g => hz (G1.out.2 g))
            have t5 : ((n1 : Int) == 0) = true := by rw [beq_iff_eq, ← N1.out, G2.out hz]; rfl
            clear hz
            go_wp2
            go_ret
            exact ⟨rfl, B5⟩
        · obtain ⟨g1, g2⟩ := BO.out.1 hy
          have ty : ((y : Int) != 0) = true := by rw [bne_iff_ne]; exact hy
          have tz : ((z : Int) != 0) = true := by rw [bne_iff_ne]; exact g1
          have t5 : ((l.length : Int) == 0) = true := by rw [beq_iff_eq, g2]; rfl
          clear hy BO g1 g2
          go_wp2_with fail
          refine (first7_is _ (TT.out.on B4)).mono ?_
          rintro e w5 ⟨rfl, b5⟩
          have B5 := B4.trans (b5.mono B4.size)
          have Xr5 := Xr4.below b5
          clear B4 Xr4
          have K1 := Lib.hid (K1.out.below b5)
          have K2 := Lib.hid (K2.out.below b5)
          clear b5
          go_wp2
          go_ret
          exact ⟨rfl, B5⟩
end Go.Proofs.YtajgagmpdhmbkaaGreatDoor.Mb
