/- ExpandMost answers true. -/
import Derived.Test.YtnfcchimkfnmkaaGreatDoorExFst
set_option linter.unusedVariables false
namespace Go.Proofs.YtnfcchimkfnmkaaGreatDoor.Ex
open Go.RowKit Cv St Ru Dd Mb

theorem most_ok {r : Ru} {start end_ : Int} {l : List Int} (h : listR r start end_ 4096 = (l, 0)) (h2 : 2 ≤ l.length) : l.length ≤ 4096 ∧ listR r start end_ l.length = (l, 0) ∧ listR r start end_ ((l.length : Int) - 1) = ([], 10) := by
  unfold listR at h
  split at h
  · have := (Prod.mk.inj h).2; omega
  · rename_i c
    split at h
    · have := (Prod.mk.inj h).2; omega
    · rename_i d
      have e := (Prod.mk.inj h).1
      rw [e] at d
      have c : mayE r start end_ 4096 = true := by simpa using c
      unfold mayE at c
      simp only [Bool.and_eq_true, decide_eq_true_eq] at c
      have k : ∀ m : Int, 1 ≤ m → m ≤ 4096 → mayE r start end_ m = true := fun m a b => by
        unfold mayE
        rw [c.1.1.1.1, c.1.1.1.2, c.1.1.2, decide_eq_true c.1.2, decide_eq_true (show 1 ≤ m ∧ m ≤ 4096 from ⟨a, b⟩)]
        rfl
      refine ⟨by omega, ?_, ?_⟩
      · unfold listR
        rw [if_neg (by rw [k _ (by omega) (by omega)]; decide), e, if_neg (by omega)]
      · unfold listR
        rw [if_neg (by rw [k _ (by omega) (by omega)]; decide), e, if_pos (by omega)]
theorem list_4096 {r : Ru} {start end_ : Int} {l : List Int} {x : Int} (hp : listR r start end_ 4096 = (l, x)) : (l.length : Int) ≤ 4096 := by
  unfold listR at hp
  split at hp
  · rw [← (Prod.mk.inj hp).1]; simp
  · split at hp
    · rw [← (Prod.mk.inj hp).1]; simp
    · rename_i d
      rw [← (Prod.mk.inj hp).1]; omega
theorem ints_hid (w : World) (A B : Option Addr) (n c m d : Nat) (l k : List Int) (hl : IsAt w A n l) (hk : IsAt w B m k) (h1 : n ≤ 9223372036854775807) (h2 : m ≤ 9223372036854775807) (p : Bool) (hp : decide (l = k) = p) :
    Calls Tryz.prog 19 #[.slice A n c, .slice B m d] w fun e w' => e = .returned (.bool p) ∧ Below w.heap.size w w' := hp ▸ ints_any w A B n c m d l k hl hk h1 h2
set_option maxRecDepth 100000 in
set_option maxHeartbeats 16000000 in
theorem most_walk (w : World) (T : Tabs w) (S : RS) (r : Ru) (start end_ : Int) (h : RuIn w S r) :
    Calls Tryz.prog 10 #[S.val r, .int .i64 start, .int .i64 end_] w fun e w' => e = .returned (.bool true) ∧ Below w.heap.size w w' := by
  have TT := Lib.hid T
  have HK := Lib.hid h
  have FEW := Lib.hid (fun (e : fewB S = true) => h.few e)
  obtain ⟨⟨l, x⟩, hp⟩ : ∃ p, listR r start end_ 4096 = p := ⟨_, rfl⟩
  have HP := Lib.hid hp
  have MO := Lib.hid (fun (e : x = 0) (g : 2 ≤ l.length) => most_ok (r := r) (start := start) (end_ := end_) (l := l) (by rw [hp, e]) g)
  have LB4 := Lib.hid (list_4096 hp)
  clear hp
  clear h T
  obtain ⟨ra6, rn6, rc6, ra7, rn7, rc7, ra8, rn8, rc8, ra9, rn9, rc9, ra10, rn10, rc10, ra11, rn11, rc11, ra12, rn12, rc12, ra13, rn13, rc13, ra14, rn14, rc14⟩ := S
  obtain ⟨rfreq, ritv, rcnt, rtil, rwkst, rends, rmon, rweek, ryday, rmday, rday, rhour, rminu, rsec, rpos⟩ := r
  show Calls Tryz.prog 10 #[.agg #[.int .i64 rfreq, .int .i64 ritv, .int .i64 rcnt, .int .i64 rtil, .int .i64 rwkst, .bool rends, .slice ra6 rn6 rc6, .slice ra7 rn7 rc7, .slice ra8 rn8 rc8, .slice ra9 rn9 rc9, .slice ra10 rn10 rc10, .slice ra11 rn11 rc11, .slice ra12 rn12 rc12, .slice ra13 rn13 rc13, .slice ra14 rn14 rc14], .int .i64 start, .int .i64 end_] w _
  go_enter Tryz.func10, Tryz.ntmps10
  go_upto_region 1 with fail
  have B0 := alloc_below w (.cells #[.int .i64 rfreq, .int .i64 ritv, .int .i64 rcnt, .int .i64 rtil, .int .i64 rwkst, .bool rends, .slice ra6 rn6 rc6, .slice ra7 rn7 rc7, .slice ra8 rn8 rc8, .slice ra9 rn9 rc9, .slice ra10 rn10 rc10, .slice ra11 rn11 rc11, .slice ra12 rn12 rc12, .slice ra13 rn13 rc13, .slice ra14 rn14 rc14] 25)
  have Xr0 := Box.new w #[.int .i64 rfreq, .int .i64 ritv, .int .i64 rcnt, .int .i64 rtil, .int .i64 rwkst, .bool rends, .slice ra6 rn6 rc6, .slice ra7 rn7 rc7, .slice ra8 rn8 rc8, .slice ra9 rn9 rc9, .slice ra10 rn10 rc10, .slice ra11 rn11 rc11, .slice ra12 rn12 rc12, .slice ra13 rn13 rc13, .slice ra14 rn14 rc14] 25
  generalize w.alloc (.cells #[.int .i64 rfreq, .int .i64 ritv, .int .i64 rcnt, .int .i64 rtil, .int .i64 rwkst, .bool rends, .slice ra6 rn6 rc6, .slice ra7 rn7 rc7, .slice ra8 rn8 rc8, .slice ra9 rn9 rc9, .slice ra10 rn10 rc10, .slice ra11 rn11 rc11, .slice ra12 rn12 rc12, .slice ra13 rn13 rc13, .slice ra14 rn14 rc14] 25) = w0 at *
  go_wp2_with fail
  refine (first8_is _ (TT.out.on B0)).mono ?_
  rintro e w1 ⟨rfl, b1⟩
  have B1 := B0.trans (b1.mono B0.size)
  have Xr1 := Xr0.below b1
  clear B0 Xr0
  clear b1
  have rz0 : w1.cell? ⟨w.heap.size, 0, none⟩ = some (.int .i64 rfreq) := Xr1.at_ 0 _ rfl
  have rz1 : w1.cell? ⟨w.heap.size, 1, none⟩ = some (.int .i64 ritv) := Xr1.at_ 1 _ rfl
  have rz2 : w1.cell? ⟨w.heap.size, 2, none⟩ = some (.int .i64 rcnt) := Xr1.at_ 2 _ rfl
  have rz3 : w1.cell? ⟨w.heap.size, 3, none⟩ = some (.int .i64 rtil) := Xr1.at_ 3 _ rfl
  have rz4 : w1.cell? ⟨w.heap.size, 4, none⟩ = some (.int .i64 rwkst) := Xr1.at_ 4 _ rfl
  have rz5 : w1.cell? ⟨w.heap.size, 5, none⟩ = some (.bool rends) := Xr1.at_ 5 _ rfl
  have rz6 : w1.cell? ⟨w.heap.size, 6, none⟩ = some (.slice ra6 rn6 rc6) := Xr1.at_ 6 _ rfl
  have rz7 : w1.cell? ⟨w.heap.size, 7, none⟩ = some (.slice ra7 rn7 rc7) := Xr1.at_ 7 _ rfl
  have rz8 : w1.cell? ⟨w.heap.size, 8, none⟩ = some (.slice ra8 rn8 rc8) := Xr1.at_ 8 _ rfl
  have rz9 : w1.cell? ⟨w.heap.size, 9, none⟩ = some (.slice ra9 rn9 rc9) := Xr1.at_ 9 _ rfl
  have rz10 : w1.cell? ⟨w.heap.size, 10, none⟩ = some (.slice ra10 rn10 rc10) := Xr1.at_ 10 _ rfl
  have rz11 : w1.cell? ⟨w.heap.size, 11, none⟩ = some (.slice ra11 rn11 rc11) := Xr1.at_ 11 _ rfl
  have rz12 : w1.cell? ⟨w.heap.size, 12, none⟩ = some (.slice ra12 rn12 rc12) := Xr1.at_ 12 _ rfl
  have rz13 : w1.cell? ⟨w.heap.size, 13, none⟩ = some (.slice ra13 rn13 rc13) := Xr1.at_ 13 _ rfl
  have rz14 : w1.cell? ⟨w.heap.size, 14, none⟩ = some (.slice ra14 rn14 rc14) := Xr1.at_ 14 _ rfl
  go_wp2_with fail
  refine (light8_is _ ⟨ra6, rn6, rc6, ra7, rn7, rc7, ra8, rn8, rc8, ra9, rn9, rc9, ra10, rn10, rc10, ra11, rn11, rc11, ra12, rn12, rc12, ra13, rn13, rc13, ra14, rn14, rc14⟩ ⟨rfreq, ritv, rcnt, rtil, rwkst, rends, rmon, rweek, ryday, rmday, rday, rhour, rminu, rsec, rpos⟩ start end_ (in_below HK.out B1)).mono ?_
  rintro e w2 ⟨⟨lb, rfl, HB⟩, b2⟩
  clear rz0 rz1 rz2 rz3 rz4 rz5 rz6 rz7 rz8 rz9 rz10 rz11 rz12 rz13 rz14
  have B2 := B1.trans (b2.mono B1.size)
  have Xr2 := Xr1.below b2
  clear B1 Xr1
  clear b2
  have LB := Lib.hid HB
  clear HB
  cases lb
  · go_wp2_with fail
    refine (first8_is _ (TT.out.on B2)).mono ?_
    rintro e w3 ⟨rfl, b3⟩
    have B3 := B2.trans (b3.mono B2.size)
    have Xr3 := Xr2.below b3
    clear B2 Xr2
    clear b3
    go_wp2
    go_ret
    exact ⟨rfl, B3⟩
  · have X1 := Lib.hid (LB.out rfl)
    clear LB
    have RA := Lib.hid (FEW.out X1.out)
    have rz0 : w2.cell? ⟨w.heap.size, 0, none⟩ = some (.int .i64 rfreq) := Xr2.at_ 0 _ rfl
    have rz1 : w2.cell? ⟨w.heap.size, 1, none⟩ = some (.int .i64 ritv) := Xr2.at_ 1 _ rfl
    have rz2 : w2.cell? ⟨w.heap.size, 2, none⟩ = some (.int .i64 rcnt) := Xr2.at_ 2 _ rfl
    have rz3 : w2.cell? ⟨w.heap.size, 3, none⟩ = some (.int .i64 rtil) := Xr2.at_ 3 _ rfl
    have rz4 : w2.cell? ⟨w.heap.size, 4, none⟩ = some (.int .i64 rwkst) := Xr2.at_ 4 _ rfl
    have rz5 : w2.cell? ⟨w.heap.size, 5, none⟩ = some (.bool rends) := Xr2.at_ 5 _ rfl
    have rz6 : w2.cell? ⟨w.heap.size, 6, none⟩ = some (.slice ra6 rn6 rc6) := Xr2.at_ 6 _ rfl
    have rz7 : w2.cell? ⟨w.heap.size, 7, none⟩ = some (.slice ra7 rn7 rc7) := Xr2.at_ 7 _ rfl
    have rz8 : w2.cell? ⟨w.heap.size, 8, none⟩ = some (.slice ra8 rn8 rc8) := Xr2.at_ 8 _ rfl
    have rz9 : w2.cell? ⟨w.heap.size, 9, none⟩ = some (.slice ra9 rn9 rc9) := Xr2.at_ 9 _ rfl
    have rz10 : w2.cell? ⟨w.heap.size, 10, none⟩ = some (.slice ra10 rn10 rc10) := Xr2.at_ 10 _ rfl
    have rz11 : w2.cell? ⟨w.heap.size, 11, none⟩ = some (.slice ra11 rn11 rc11) := Xr2.at_ 11 _ rfl
    have rz12 : w2.cell? ⟨w.heap.size, 12, none⟩ = some (.slice ra12 rn12 rc12) := Xr2.at_ 12 _ rfl
    have rz13 : w2.cell? ⟨w.heap.size, 13, none⟩ = some (.slice ra13 rn13 rc13) := Xr2.at_ 13 _ rfl
    have rz14 : w2.cell? ⟨w.heap.size, 14, none⟩ = some (.slice ra14 rn14 rc14) := Xr2.at_ 14 _ rfl
    go_wp2_with fail
    refine (list_is _ ⟨ra6, rn6, rc6, ra7, rn7, rc7, ra8, rn8, rc8, ra9, rn9, rc9, ra10, rn10, rc10, ra11, rn11, rc11, ra12, rn12, rc12, ra13, rn13, rc13, ra14, rn14, rc14⟩ ⟨rfreq, ritv, rcnt, rtil, rwkst, rends, rmon, rweek, ryday, rmday, rday, rhour, rminu, rsec, rpos⟩ (start) (end_) (4096) (l, x) (RA.out.below B2) HP.out).mono ?_
    rintro e w3 ⟨A1, c1, he, i3, b3⟩
    replace he : e = .returned (.tuple #[.slice A1 (l : List Int).length c1, .int .i64 x]) := he
    replace i3 : IsAt w3 A1 (l : List Int).length l := i3
    subst he
    clear rz0 rz1 rz2 rz3 rz4 rz5 rz6 rz7 rz8 rz9 rz10 rz11 rz12 rz13 rz14
    have B3 := B2.trans (b3.mono B2.size)
    have Xr3 := Xr2.below b3
    clear B2 Xr2
    clear b3
    have K1 := Lib.hid i3
    clear i3
    obtain ⟨m, hm⟩ : ∃ m, l.length = m := ⟨_, rfl⟩
    have LM := Lib.hid hm
    have lm : (m : Int) ≤ 4096 := by rw [← hm]; exact LB4.out
    rw [hm] at K1 MO ⊢
    clear hm LB4
    by_cases x0 : x = 0
    · have t0 : (x != 0) = false := by rw [bne_eq_false_iff_eq]; exact x0
      have t00 : (x == 0) = true := by rw [beq_iff_eq]; exact x0
      by_cases m2 : m < 2
      · have t1 : decide ((m : Int) < 2) = true := decide_eq_true (by omega)
        have t2 : decide (m < 2) = true := decide_eq_true m2
        clear m2 x0
        go_wp2_with fail
        refine (first8_is _ (TT.out.on B3)).mono ?_
        rintro e w4 ⟨rfl, b4⟩
        have B4 := B3.trans (b4.mono B3.size)
        have Xr4 := Xr3.below b4
        clear B3 Xr3
        have K1 := Lib.hid (K1.out.below b4)
        clear b4
        go_wp2
        go_ret
        exact ⟨rfl, B4⟩
      · have t1 : decide ((m : Int) < 2) = false := decide_eq_false (by omega)
        have t2 : decide (m < 2) = false := decide_eq_false m2
        obtain ⟨mo1, mo2, mo3⟩ := MO.out x0 (by omega)
        have H2 := Lib.hid mo2
        have H3 := Lib.hid mo3
        have M2 := Lib.hid m2
        have W1 : IntKind.i64.wrap ((m : Int) - 1) = (m : Int) - 1 := IntWalk.i64_in _ (by omega)
        clear mo1 mo2 mo3 m2 x0 MO
        have rz0 : w3.cell? ⟨w.heap.size, 0, none⟩ = some (.int .i64 rfreq) := Xr3.at_ 0 _ rfl
        have rz1 : w3.cell? ⟨w.heap.size, 1, none⟩ = some (.int .i64 ritv) := Xr3.at_ 1 _ rfl
        have rz2 : w3.cell? ⟨w.heap.size, 2, none⟩ = some (.int .i64 rcnt) := Xr3.at_ 2 _ rfl
        have rz3 : w3.cell? ⟨w.heap.size, 3, none⟩ = some (.int .i64 rtil) := Xr3.at_ 3 _ rfl
        have rz4 : w3.cell? ⟨w.heap.size, 4, none⟩ = some (.int .i64 rwkst) := Xr3.at_ 4 _ rfl
        have rz5 : w3.cell? ⟨w.heap.size, 5, none⟩ = some (.bool rends) := Xr3.at_ 5 _ rfl
        have rz6 : w3.cell? ⟨w.heap.size, 6, none⟩ = some (.slice ra6 rn6 rc6) := Xr3.at_ 6 _ rfl
        have rz7 : w3.cell? ⟨w.heap.size, 7, none⟩ = some (.slice ra7 rn7 rc7) := Xr3.at_ 7 _ rfl
        have rz8 : w3.cell? ⟨w.heap.size, 8, none⟩ = some (.slice ra8 rn8 rc8) := Xr3.at_ 8 _ rfl
        have rz9 : w3.cell? ⟨w.heap.size, 9, none⟩ = some (.slice ra9 rn9 rc9) := Xr3.at_ 9 _ rfl
        have rz10 : w3.cell? ⟨w.heap.size, 10, none⟩ = some (.slice ra10 rn10 rc10) := Xr3.at_ 10 _ rfl
        have rz11 : w3.cell? ⟨w.heap.size, 11, none⟩ = some (.slice ra11 rn11 rc11) := Xr3.at_ 11 _ rfl
        have rz12 : w3.cell? ⟨w.heap.size, 12, none⟩ = some (.slice ra12 rn12 rc12) := Xr3.at_ 12 _ rfl
        have rz13 : w3.cell? ⟨w.heap.size, 13, none⟩ = some (.slice ra13 rn13 rc13) := Xr3.at_ 13 _ rfl
        have rz14 : w3.cell? ⟨w.heap.size, 14, none⟩ = some (.slice ra14 rn14 rc14) := Xr3.at_ 14 _ rfl
        go_wp2_with fail
        refine (list_is _ ⟨ra6, rn6, rc6, ra7, rn7, rc7, ra8, rn8, rc8, ra9, rn9, rc9, ra10, rn10, rc10, ra11, rn11, rc11, ra12, rn12, rc12, ra13, rn13, rc13, ra14, rn14, rc14⟩ ⟨rfreq, ritv, rcnt, rtil, rwkst, rends, rmon, rweek, ryday, rmday, rday, rhour, rminu, rsec, rpos⟩ (start) (end_) (m) (l, 0) (RA.out.below B3) H2.out).mono ?_
        rintro e w4 ⟨A2, c2, he, i4, b4⟩
        replace he : e = .returned (.tuple #[.slice A2 (l : List Int).length c2, .int .i64 0]) := he
        replace i4 : IsAt w4 A2 (l : List Int).length l := i4
        subst he
        clear rz0 rz1 rz2 rz3 rz4 rz5 rz6 rz7 rz8 rz9 rz10 rz11 rz12 rz13 rz14
        have B4 := B3.trans (b4.mono B3.size)
        have Xr4 := Xr3.below b4
        clear B3 Xr3
        have K1 := Lib.hid (K1.out.below b4)
        clear b4
        have K2 := Lib.hid i4
        clear i4
        rw [LM.out] at K2 ⊢
        have rz0 : w4.cell? ⟨w.heap.size, 0, none⟩ = some (.int .i64 rfreq) := Xr4.at_ 0 _ rfl
        have rz1 : w4.cell? ⟨w.heap.size, 1, none⟩ = some (.int .i64 ritv) := Xr4.at_ 1 _ rfl
        have rz2 : w4.cell? ⟨w.heap.size, 2, none⟩ = some (.int .i64 rcnt) := Xr4.at_ 2 _ rfl
        have rz3 : w4.cell? ⟨w.heap.size, 3, none⟩ = some (.int .i64 rtil) := Xr4.at_ 3 _ rfl
        have rz4 : w4.cell? ⟨w.heap.size, 4, none⟩ = some (.int .i64 rwkst) := Xr4.at_ 4 _ rfl
        have rz5 : w4.cell? ⟨w.heap.size, 5, none⟩ = some (.bool rends) := Xr4.at_ 5 _ rfl
        have rz6 : w4.cell? ⟨w.heap.size, 6, none⟩ = some (.slice ra6 rn6 rc6) := Xr4.at_ 6 _ rfl
        have rz7 : w4.cell? ⟨w.heap.size, 7, none⟩ = some (.slice ra7 rn7 rc7) := Xr4.at_ 7 _ rfl
        have rz8 : w4.cell? ⟨w.heap.size, 8, none⟩ = some (.slice ra8 rn8 rc8) := Xr4.at_ 8 _ rfl
        have rz9 : w4.cell? ⟨w.heap.size, 9, none⟩ = some (.slice ra9 rn9 rc9) := Xr4.at_ 9 _ rfl
        have rz10 : w4.cell? ⟨w.heap.size, 10, none⟩ = some (.slice ra10 rn10 rc10) := Xr4.at_ 10 _ rfl
        have rz11 : w4.cell? ⟨w.heap.size, 11, none⟩ = some (.slice ra11 rn11 rc11) := Xr4.at_ 11 _ rfl
        have rz12 : w4.cell? ⟨w.heap.size, 12, none⟩ = some (.slice ra12 rn12 rc12) := Xr4.at_ 12 _ rfl
        have rz13 : w4.cell? ⟨w.heap.size, 13, none⟩ = some (.slice ra13 rn13 rc13) := Xr4.at_ 13 _ rfl
        have rz14 : w4.cell? ⟨w.heap.size, 14, none⟩ = some (.slice ra14 rn14 rc14) := Xr4.at_ 14 _ rfl
        go_wp2_with fail
        refine (list_is _ ⟨ra6, rn6, rc6, ra7, rn7, rc7, ra8, rn8, rc8, ra9, rn9, rc9, ra10, rn10, rc10, ra11, rn11, rc11, ra12, rn12, rc12, ra13, rn13, rc13, ra14, rn14, rc14⟩ ⟨rfreq, ritv, rcnt, rtil, rwkst, rends, rmon, rweek, ryday, rmday, rday, rhour, rminu, rsec, rpos⟩ (start) (end_) ((m : Int) - 1) ([], 10) (RA.out.below B4) H3.out).mono ?_
        rintro e w5 ⟨A3, c3, he, i5, b5⟩
        replace he : e = .returned (.tuple #[.slice A3 ([] : List Int).length c3, .int .i64 10]) := he
        replace i5 : IsAt w5 A3 ([] : List Int).length [] := i5
        subst he
        clear rz0 rz1 rz2 rz3 rz4 rz5 rz6 rz7 rz8 rz9 rz10 rz11 rz12 rz13 rz14
        have B5 := B4.trans (b5.mono B4.size)
        have Xr5 := Xr4.below b5
        clear B4 Xr4
        have K1 := Lib.hid (K1.out.below b5)
        have K2 := Lib.hid (K2.out.below b5)
        clear b5
        have K3 := Lib.hid i5
        clear i5
        have rz0 : w5.cell? ⟨w.heap.size, 0, none⟩ = some (.int .i64 rfreq) := Xr5.at_ 0 _ rfl
        have rz1 : w5.cell? ⟨w.heap.size, 1, none⟩ = some (.int .i64 ritv) := Xr5.at_ 1 _ rfl
        have rz2 : w5.cell? ⟨w.heap.size, 2, none⟩ = some (.int .i64 rcnt) := Xr5.at_ 2 _ rfl
        have rz3 : w5.cell? ⟨w.heap.size, 3, none⟩ = some (.int .i64 rtil) := Xr5.at_ 3 _ rfl
        have rz4 : w5.cell? ⟨w.heap.size, 4, none⟩ = some (.int .i64 rwkst) := Xr5.at_ 4 _ rfl
        have rz5 : w5.cell? ⟨w.heap.size, 5, none⟩ = some (.bool rends) := Xr5.at_ 5 _ rfl
        have rz6 : w5.cell? ⟨w.heap.size, 6, none⟩ = some (.slice ra6 rn6 rc6) := Xr5.at_ 6 _ rfl
        have rz7 : w5.cell? ⟨w.heap.size, 7, none⟩ = some (.slice ra7 rn7 rc7) := Xr5.at_ 7 _ rfl
        have rz8 : w5.cell? ⟨w.heap.size, 8, none⟩ = some (.slice ra8 rn8 rc8) := Xr5.at_ 8 _ rfl
        have rz9 : w5.cell? ⟨w.heap.size, 9, none⟩ = some (.slice ra9 rn9 rc9) := Xr5.at_ 9 _ rfl
        have rz10 : w5.cell? ⟨w.heap.size, 10, none⟩ = some (.slice ra10 rn10 rc10) := Xr5.at_ 10 _ rfl
        have rz11 : w5.cell? ⟨w.heap.size, 11, none⟩ = some (.slice ra11 rn11 rc11) := Xr5.at_ 11 _ rfl
        have rz12 : w5.cell? ⟨w.heap.size, 12, none⟩ = some (.slice ra12 rn12 rc12) := Xr5.at_ 12 _ rfl
        have rz13 : w5.cell? ⟨w.heap.size, 13, none⟩ = some (.slice ra13 rn13 rc13) := Xr5.at_ 13 _ rfl
        have rz14 : w5.cell? ⟨w.heap.size, 14, none⟩ = some (.slice ra14 rn14 rc14) := Xr5.at_ 14 _ rfl
        go_wp2_with fail
        refine (count_is _ ⟨ra6, rn6, rc6, ra7, rn7, rc7, ra8, rn8, rc8, ra9, rn9, rc9, ra10, rn10, rc10, ra11, rn11, rc11, ra12, rn12, rc12, ra13, rn13, rc13, ra14, rn14, rc14⟩ ⟨rfreq, ritv, rcnt, rtil, rwkst, rends, rmon, rweek, ryday, rmday, rday, rhour, rminu, rsec, rpos⟩ start end_ m l 0 (RA.out.below B5) H2.out).mono ?_
        rintro e w6 ⟨he, b6⟩
        rw [LM.out] at he
        subst he
        clear rz0 rz1 rz2 rz3 rz4 rz5 rz6 rz7 rz8 rz9 rz10 rz11 rz12 rz13 rz14
        have B6 := B5.trans (b6.mono B5.size)
        have Xr6 := Xr5.below b6
        clear B5 Xr5
        have K1 := Lib.hid (K1.out.below b6)
        have K2 := Lib.hid (K2.out.below b6)
        have K3 := Lib.hid (K3.out.below b6)
        clear b6
        go_wp2_with fail
        refine (first8_is _ (TT.out.on B6)).mono ?_
        rintro e w7 ⟨rfl, b7⟩
        have B7 := B6.trans (b7.mono B6.size)
        have Xr7 := Xr6.below b7
        clear B6 Xr6
        have K1 := Lib.hid (K1.out.below b7)
        have K2 := Lib.hid (K2.out.below b7)
        have K3 := Lib.hid (K3.out.below b7)
        clear b7
        go_wp2_with fail
        refine (ints_hid _ A2 A1 m c2 m c1 l l K2.out K1.out (by omega) (by omega) true (decide_eq_true rfl)).mono ?_
        rintro e w8 ⟨rfl, b8⟩
        have B8 := B7.trans (b8.mono B7.size)
        have Xr8 := Xr7.below b8
        clear B7 Xr7
        have K1 := Lib.hid (K1.out.below b8)
        have K2 := Lib.hid (K2.out.below b8)
        have K3 := Lib.hid (K3.out.below b8)
        clear b8
        go_wp2
        go_ret
        exact ⟨rfl, B8⟩
    · have t0 : (x != 0) = true := by rw [bne_iff_ne]; exact x0
      clear x0
      go_wp2_with fail
      refine (first8_is _ (TT.out.on B3)).mono ?_
      rintro e w4 ⟨rfl, b4⟩
      have B4 := B3.trans (b4.mono B3.size)
      have Xr4 := Xr3.below b4
      clear B3 Xr3
      have K1 := Lib.hid (K1.out.below b4)
      clear b4
      go_wp2
      go_ret
      exact ⟨rfl, B4⟩
end Go.Proofs.YtnfcchimkfnmkaaGreatDoor.Ex
