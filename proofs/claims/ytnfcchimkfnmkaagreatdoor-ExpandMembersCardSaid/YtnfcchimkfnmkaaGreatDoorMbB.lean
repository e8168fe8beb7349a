/- The walks of package member's inPeriod and Raw. -/
import Derived.Test.YtnfcchimkfnmkaaGreatDoorDyT
import Derived.Test.YtnfcchimkfnmkaaGreatDoorDyP
import Derived.Test.YtnfcchimkfnmkaaGreatDoorMbA
set_option linter.unusedVariables false
namespace Go.Proofs.YtnfcchimkfnmkaaGreatDoor.Mb
open Go.RowKit Cv St Ru Dd

theorem scal_of {r : Ru} (h : mayR r = true) : (1 ≤ r.freq ∧ r.freq ≤ 7) ∧ (1 ≤ r.itv ∧ r.itv ≤ 1000) := by
  have f := (mayR_of h).1
  unfold scalB at f
  have f := of_decide_eq_true f
  omega
theorem inPer_no {r : Ru} {start t : Int} (h : (perR r start t).2 = false) : inPer r start t = false := by
  unfold perR at h
  split at h
  · simp at h
  · rename_i c
    unfold inPer
    rw [Bool.eq_false_iff] 
    intro g
    simp only [Bool.and_eq_true] at g
    exact c (by rw [g.1.1.1, g.1.1.2, g.1.2]; rfl)
theorem inPer_yes {r : Ru} {start t a : Int} (h : perR r start t = (a, true)) : inPer r start t = decide (a % r.itv = 0) ∧ mayR r = true ∧ -2000000000000 ≤ a ∧ a ≤ 2000000000000 := by
  unfold perR at h
  split at h
  · rename_i c
    simp only [Bool.and_eq_true] at c
    obtain ⟨⟨c1, c2⟩, c3⟩ := c
    have e := (Prod.mk.inj h).1
    have p := per_bd c1 c2
    have q := per_bd c1 c3
    refine ⟨?_, c1, by omega, by omega⟩
    unfold inPer
    rw [c1, c2, c3, e]; rfl
  · have := (Prod.mk.inj h).2; cases this
theorem tmod_zero (a b : Int) : ((a.tmod b : Int) == 0) = decide (a % b = 0) := by
  rw [Bool.eq_iff_iff, beq_iff_eq, decide_eq_true_eq]
  constructor
  · intro h; exact Int.emod_eq_zero_of_dvd (Int.dvd_of_tmod_eq_zero h)
  · intro h; exact Int.tmod_eq_zero_of_dvd (Int.dvd_of_emod_eq_zero h)
set_option maxRecDepth 100000 in
set_option maxHeartbeats 8000000 in
/-- member.inPeriod -/
theorem inPer_is (w : World) (S : RS) (r : Ru) (start t : Int) (x : Bool) (h : RuAt w S r) (hx : inPer r start t = x) :
    Calls Tryz.prog 59 #[S.val r, .int .i64 start, .int .i64 t] w fun e w' => e = .returned (.bool x) ∧ Below w.heap.size w w' := by
  have RA := Lib.hid h
  obtain ⟨⟨a, b⟩, hab⟩ : ∃ p, perR r start t = p := ⟨_, rfl⟩
  have HAB := Lib.hid hab
  have F0 := Lib.hid (fun (e : b = false) => show false = x from (inPer_no (by rw [hab]; exact e)).symm.trans hx)
  have F1 := Lib.hid (fun (e : b = true) => show decide (a % r.itv = 0) = x ∧ (1 ≤ r.itv ∧ r.itv ≤ 1000) ∧ -2000000000000 ≤ a ∧ a ≤ 2000000000000 by
    subst e
    obtain ⟨p, m, q⟩ := inPer_yes hab
    exact ⟨p.symm.trans hx, (scal_of m).2, q⟩)
  clear h hx hab
  obtain ⟨ra6, rn6, rc6, ra7, rn7, rc7, ra8, rn8, rc8, ra9, rn9, rc9, ra10, rn10, rc10, ra11, rn11, rc11, ra12, rn12, rc12, ra13, rn13, rc13, ra14, rn14, rc14⟩ := S
  obtain ⟨rfreq, ritv, rcnt, rtil, rwkst, rends, rmon, rweek, ryday, rmday, rday, rhour, rminu, rsec, rpos⟩ := r
  show Calls Tryz.prog 59 #[.agg #[.int .i64 rfreq, .int .i64 ritv, .int .i64 rcnt, .int .i64 rtil, .int .i64 rwkst, .bool rends, .slice ra6 rn6 rc6, .slice ra7 rn7 rc7, .slice ra8 rn8 rc8, .slice ra9 rn9 rc9, .slice ra10 rn10 rc10, .slice ra11 rn11 rc11, .slice ra12 rn12 rc12, .slice ra13 rn13 rc13, .slice ra14 rn14 rc14], .int .i64 start, .int .i64 t] w _
  go_enter Tryz.func59, Tryz.ntmps59
  go_upto_region 1 with fail
  have B0 := alloc_below w (.cells #[.int .i64 rfreq, .int .i64 ritv, .int .i64 rcnt, .int .i64 rtil, .int .i64 rwkst, .bool rends, .slice ra6 rn6 rc6, .slice ra7 rn7 rc7, .slice ra8 rn8 rc8, .slice ra9 rn9 rc9, .slice ra10 rn10 rc10, .slice ra11 rn11 rc11, .slice ra12 rn12 rc12, .slice ra13 rn13 rc13, .slice ra14 rn14 rc14] 25)
  have Xr0 := Box.new w #[.int .i64 rfreq, .int .i64 ritv, .int .i64 rcnt, .int .i64 rtil, .int .i64 rwkst, .bool rends, .slice ra6 rn6 rc6, .slice ra7 rn7 rc7, .slice ra8 rn8 rc8, .slice ra9 rn9 rc9, .slice ra10 rn10 rc10, .slice ra11 rn11 rc11, .slice ra12 rn12 rc12, .slice ra13 rn13 rc13, .slice ra14 rn14 rc14] 25
  generalize w.alloc (.cells #[.int .i64 rfreq, .int .i64 ritv, .int .i64 rcnt, .int .i64 rtil, .int .i64 rwkst, .bool rends, .slice ra6 rn6 rc6, .slice ra7 rn7 rc7, .slice ra8 rn8 rc8, .slice ra9 rn9 rc9, .slice ra10 rn10 rc10, .slice ra11 rn11 rc11, .slice ra12 rn12 rc12, .slice ra13 rn13 rc13, .slice ra14 rn14 rc14] 25) = w0 at *
  have rz0 : w0.cell? ⟨w.heap.size, 0, none⟩ = some (.int .i64 rfreq) := Xr0.at_ 0 _ rfl
  have rz1 : w0.cell? ⟨w.heap.size, 1, none⟩ = some (.int .i64 ritv) := Xr0.at_ 1 _ rfl
  have rz2 : w0.cell? ⟨w.heap.size, 2, none⟩ = some (.int .i64 rcnt) := Xr0.at_ 2 _ rfl
  have rz3 : w0.cell? ⟨w.heap.size, 3, none⟩ = some (.int .i64 rtil) := Xr0.at_ 3 _ rfl
  have rz4 : w0.cell? ⟨w.heap.size, 4, none⟩ = some (.int .i64 rwkst) := Xr0.at_ 4 _ rfl
  have rz5 : w0.cell? ⟨w.heap.size, 5, none⟩ = some (.bool rends) := Xr0.at_ 5 _ rfl
  have rz6 : w0.cell? ⟨w.heap.size, 6, none⟩ = some (.slice ra6 rn6 rc6) := Xr0.at_ 6 _ rfl
  have rz7 : w0.cell? ⟨w.heap.size, 7, none⟩ = some (.slice ra7 rn7 rc7) := Xr0.at_ 7 _ rfl
  have rz8 : w0.cell? ⟨w.heap.size, 8, none⟩ = some (.slice ra8 rn8 rc8) := Xr0.at_ 8 _ rfl
  have rz9 : w0.cell? ⟨w.heap.size, 9, none⟩ = some (.slice ra9 rn9 rc9) := Xr0.at_ 9 _ rfl
  have rz10 : w0.cell? ⟨w.heap.size, 10, none⟩ = some (.slice ra10 rn10 rc10) := Xr0.at_ 10 _ rfl
  have rz11 : w0.cell? ⟨w.heap.size, 11, none⟩ = some (.slice ra11 rn11 rc11) := Xr0.at_ 11 _ rfl
  have rz12 : w0.cell? ⟨w.heap.size, 12, none⟩ = some (.slice ra12 rn12 rc12) := Xr0.at_ 12 _ rfl
  have rz13 : w0.cell? ⟨w.heap.size, 13, none⟩ = some (.slice ra13 rn13 rc13) := Xr0.at_ 13 _ rfl
  have rz14 : w0.cell? ⟨w.heap.size, 14, none⟩ = some (.slice ra14 rn14 rc14) := Xr0.at_ 14 _ rfl
  go_wp2_with fail
  refine (periodP_is _ ⟨ra6, rn6, rc6, ra7, rn7, rc7, ra8, rn8, rc8, ra9, rn9, rc9, ra10, rn10, rc10, ra11, rn11, rc11, ra12, rn12, rc12, ra13, rn13, rc13, ra14, rn14, rc14⟩ ⟨rfreq, ritv, rcnt, rtil, rwkst, rends, rmon, rweek, ryday, rmday, rday, rhour, rminu, rsec, rpos⟩ start t a b (RA.out.below B0) HAB.out).mono ?_
  rintro e w1 ⟨rfl, b1⟩
  clear rz0 rz1 rz2 rz3 rz4 rz5 rz6 rz7 rz8 rz9 rz10 rz11 rz12 rz13 rz14
  have B1 := B0.trans (b1.mono B0.size)
  have Xr1 := Xr0.below b1
  clear B0 Xr0
  clear b1
  cases b
  · have E := Lib.hid (F0.out rfl)
    clear F0 F1
    go_wp2
    go_ret
    exact ⟨ret_bool E.out, B1⟩
  · obtain ⟨e1, i1, a1, a2⟩ := F1.out rfl
    obtain ⟨i1, i2⟩ := show 1 ≤ ritv ∧ ritv ≤ 1000 from i1
    have E := Lib.hid (show ((a.tmod ritv : Int) == 0) = x by rw [tmod_zero]; exact e1)
    have n0 : ((ritv : Int) == 0) = false := by rw [beq_eq_false_iff_ne]; omega
    have n1 : ¬ ritv = 0 := by omega
    clear F0 F1 e1
    have rz0 : w1.cell? ⟨w.heap.size, 0, none⟩ = some (.int .i64 rfreq) := Xr1.at_ 0 _ rfl
    have rz1 : w1.cell? ⟨w.heap.size, 1, none⟩ = some (.int .i64 ritv) := Xr1.at_ 1 _ rfl
    have rz2 : w1.cell? ⟨w.heap.size, 2, none⟩ = some (.int .i64 rcnt) := Xr1.at_ 2 _ rfl
    have rz3 : w1.cell? ⟨w.heap.size, 3, none⟩ = some (.int .i64 rtil) := Xr1.at_ 3 _ rfl
    have rz4 : w1.cell? ⟨w.heap.size, 4, none⟩ = some (.int .i64 rwkst) := Xr1.at_ 4 _ rfl
    have rz5 : w1.cell? ⟨w.heap.size, 5, none⟩ = some (.bool rends) := Xr1.at_ 5 _ rfl
    have rz6 : w1.cell? ⟨w.heap.size, 6, none⟩ = some (.slice ra6 rn6 rc6) := Xr1.at_ 6 _ rfl
    have rz7 : w1.cell? ⟨w.heap.size, 7, none⟩ = some (.slice ra7 rn7 rc7) := Xr1.at_ 7 _ rfl
    have rz8 : w1.cell? ⟨w.heap.size, 8, none⟩ = some (.slice ra8 rn8 rc8) := Xr1.at_ 8 _ rfl
    have rz9 : w1.cell? ⟨w.heap.size, 9, none⟩ = some (.slice ra9 rn9 rc9) := Xr1.at_ 9 _ rfl
    have rz10 : w1.cell? ⟨w.heap.size, 10, none⟩ = some (.slice ra10 rn10 rc10) := Xr1.at_ 10 _ rfl
    have rz11 : w1.cell? ⟨w.heap.size, 11, none⟩ = some (.slice ra11 rn11 rc11) := Xr1.at_ 11 _ rfl
    have rz12 : w1.cell? ⟨w.heap.size, 12, none⟩ = some (.slice ra12 rn12 rc12) := Xr1.at_ 12 _ rfl
    have rz13 : w1.cell? ⟨w.heap.size, 13, none⟩ = some (.slice ra13 rn13 rc13) := Xr1.at_ 13 _ rfl
    have rz14 : w1.cell? ⟨w.heap.size, 14, none⟩ = some (.slice ra14 rn14 rc14) := Xr1.at_ 14 _ rfl
    go_wp2
    go_ret
    exact ⟨ret_bool E.out, B1⟩
set_option maxRecDepth 100000 in
set_option maxHeartbeats 8000000 in
/-- member.Raw -/
theorem raw_is (w : World) (S : RS) (r : Ru) (start t : Int) (x : Bool) (h : RuAt w S r) (hx : rawB r start t = x) :
    Calls Tryz.prog 37 #[S.val r, .int .i64 start, .int .i64 t] w fun e w' => e = .returned (.bool x) ∧ Below w.heap.size w w' := by
  have RA := Lib.hid h
  have E11 := h.h11.1
  have E12 := h.h12.1
  have E13 := h.h13.1
  obtain ⟨p, hp⟩ : ∃ p, inPer r start t = p := ⟨_, rfl⟩
  obtain ⟨f, hf⟩ : ∃ f, fitsB r start (t / 86400) = f := ⟨_, rfl⟩
  obtain ⟨H, hH⟩ : ∃ l, timH r start = l := ⟨_, rfl⟩
  obtain ⟨M, hM⟩ : ∃ l, timM r start = l := ⟨_, rfl⟩
  obtain ⟨C, hC⟩ : ∃ l, timS r start = l := ⟨_, rfl⟩
  obtain ⟨b1, hb1⟩ : ∃ b, decide (ownH t ∈ H) = b := ⟨_, rfl⟩
  obtain ⟨b2, hb2⟩ : ∃ b, decide (ownM t ∈ M) = b := ⟨_, rfl⟩
  obtain ⟨b3, hb3⟩ : ∃ b, decide (ownS t ∈ C) = b := ⟨_, rfl⟩
  have HX : (p && f && b1 && b2 && b3) = x := by
    unfold rawB at hx
    rw [hp, hf, hH, hM, hC, hb1, hb2, hb3] at hx
    exact hx
  have MAY := Lib.hid (fun (e : p = true) => show (mayR r = true ∧ St.may start = true ∧ (-9223372036854775808 ≤ t ∧ t ≤ 9223372036854775807)) ∧ (r.hour.length ≤ 60 ∧ r.minu.length ≤ 60 ∧ r.sec.length ≤ 60) ∧ (H.length ≤ 60 ∧ M.length ≤ 60 ∧ C.length ≤ 60) by
    obtain ⟨m1, m2, m3, -⟩ := inPer_may (hp.trans e)
    have tt := of_decide_eq_true m3
    refine ⟨⟨m1, m2, by omega, by omega⟩, lens_of (mayR_of m1).2.2.1, ?_⟩
    rw [← hH, ← hM, ← hC]
    exact ⟨(timH_ok start m1).len, (timM_ok start m1).len, (timS_ok start m1).len⟩)
  have FX := Lib.hid HX
  have HP := Lib.hid hp
  have HF := Lib.hid hf
  have HH := Lib.hid hH
  have HM := Lib.hid hM
  have HC := Lib.hid hC
  have D1 := Lib.hid (show decide (t % 86400 / 3600 ∈ H) = b1 from hb1)
  have D2 := Lib.hid (show decide (t % 86400 % 3600 / 60 ∈ M) = b2 from hb2)
  have D3 := Lib.hid (show decide (t % 86400 % 60 ∈ C) = b3 from hb3)
  have Q11 := Lib.hid E11
  have Q12 := Lib.hid E12
  have Q13 := Lib.hid E13
  clear h hx hp hf hH hM hC hb1 hb2 hb3 HX E11 E12 E13
  obtain ⟨ra6, rn6, rc6, ra7, rn7, rc7, ra8, rn8, rc8, ra9, rn9, rc9, ra10, rn10, rc10, ra11, rn11, rc11, ra12, rn12, rc12, ra13, rn13, rc13, ra14, rn14, rc14⟩ := S
  obtain ⟨rfreq, ritv, rcnt, rtil, rwkst, rends, rmon, rweek, ryday, rmday, rday, rhour, rminu, rsec, rpos⟩ := r
  show Calls Tryz.prog 37 #[.agg #[.int .i64 rfreq, .int .i64 ritv, .int .i64 rcnt, .int .i64 rtil, .int .i64 rwkst, .bool rends, .slice ra6 rn6 rc6, .slice ra7 rn7 rc7, .slice ra8 rn8 rc8, .slice ra9 rn9 rc9, .slice ra10 rn10 rc10, .slice ra11 rn11 rc11, .slice ra12 rn12 rc12, .slice ra13 rn13 rc13, .slice ra14 rn14 rc14], .int .i64 start, .int .i64 t] w _
  go_enter Tryz.func37, Tryz.ntmps37
  go_upto_region 1 with fail
  have B0 := alloc_below w (.cells #[.int .i64 rfreq, .int .i64 ritv, .int .i64 rcnt, .int .i64 rtil, .int .i64 rwkst, .bool rends, .slice ra6 rn6 rc6, .slice ra7 rn7 rc7, .slice ra8 rn8 rc8, .slice ra9 rn9 rc9, .slice ra10 rn10 rc10, .slice ra11 rn11 rc11, .slice ra12 rn12 rc12, .slice ra13 rn13 rc13, .slice ra14 rn14 rc14] 25)
  have Xr0 := Box.new w #[.int .i64 rfreq, .int .i64 ritv, .int .i64 rcnt, .int .i64 rtil, .int .i64 rwkst, .bool rends, .slice ra6 rn6 rc6, .slice ra7 rn7 rc7, .slice ra8 rn8 rc8, .slice ra9 rn9 rc9, .slice ra10 rn10 rc10, .slice ra11 rn11 rc11, .slice ra12 rn12 rc12, .slice ra13 rn13 rc13, .slice ra14 rn14 rc14] 25
  generalize w.alloc (.cells #[.int .i64 rfreq, .int .i64 ritv, .int .i64 rcnt, .int .i64 rtil, .int .i64 rwkst, .bool rends, .slice ra6 rn6 rc6, .slice ra7 rn7 rc7, .slice ra8 rn8 rc8, .slice ra9 rn9 rc9, .slice ra10 rn10 rc10, .slice ra11 rn11 rc11, .slice ra12 rn12 rc12, .slice ra13 rn13 rc13, .slice ra14 rn14 rc14] 25) = w0 at *
  have rz0 : w0.cell? ⟨w.heap.size, 0, none⟩ = some (.int .i64 rfreq) := Xr0.at_ 0 _ rfl
  have rz1 : w0.cell? ⟨w.heap.size, 1, none⟩ = some (.int .i64 ritv) := Xr0.at_ 1 _ rfl
  have rz2 : w0.cell? ⟨w.heap.size, 2, none⟩ = some (.int .i64 rcnt) := Xr0.at_ 2 _ rfl
  have rz3 : w0.cell? ⟨w.heap.size, 3, none⟩ = some (.int .i64 rtil) := Xr0.at_ 3 _ rfl
  have rz4 : w0.cell? ⟨w.heap.size, 4, none⟩ = some (.int .i64 rwkst) := Xr0.at_ 4 _ rfl
  have rz5 : w0.cell? ⟨w.heap.size, 5, none⟩ = some (.bool rends) := Xr0.at_ 5 _ rfl
  have rz6 : w0.cell? ⟨w.heap.size, 6, none⟩ = some (.slice ra6 rn6 rc6) := Xr0.at_ 6 _ rfl
  have rz7 : w0.cell? ⟨w.heap.size, 7, none⟩ = some (.slice ra7 rn7 rc7) := Xr0.at_ 7 _ rfl
  have rz8 : w0.cell? ⟨w.heap.size, 8, none⟩ = some (.slice ra8 rn8 rc8) := Xr0.at_ 8 _ rfl
  have rz9 : w0.cell? ⟨w.heap.size, 9, none⟩ = some (.slice ra9 rn9 rc9) := Xr0.at_ 9 _ rfl
  have rz10 : w0.cell? ⟨w.heap.size, 10, none⟩ = some (.slice ra10 rn10 rc10) := Xr0.at_ 10 _ rfl
  have rz11 : w0.cell? ⟨w.heap.size, 11, none⟩ = some (.slice ra11 rn11 rc11) := Xr0.at_ 11 _ rfl
  have rz12 : w0.cell? ⟨w.heap.size, 12, none⟩ = some (.slice ra12 rn12 rc12) := Xr0.at_ 12 _ rfl
  have rz13 : w0.cell? ⟨w.heap.size, 13, none⟩ = some (.slice ra13 rn13 rc13) := Xr0.at_ 13 _ rfl
  have rz14 : w0.cell? ⟨w.heap.size, 14, none⟩ = some (.slice ra14 rn14 rc14) := Xr0.at_ 14 _ rfl
  go_wp2_with fail
  refine (inPer_is _ ⟨ra6, rn6, rc6, ra7, rn7, rc7, ra8, rn8, rc8, ra9, rn9, rc9, ra10, rn10, rc10, ra11, rn11, rc11, ra12, rn12, rc12, ra13, rn13, rc13, ra14, rn14, rc14⟩ ⟨rfreq, ritv, rcnt, rtil, rwkst, rends, rmon, rweek, ryday, rmday, rday, rhour, rminu, rsec, rpos⟩ start t p (RA.out.below B0) HP.out).mono ?_
  rintro e w1 ⟨rfl, b1⟩
  clear rz0 rz1 rz2 rz3 rz4 rz5 rz6 rz7 rz8 rz9 rz10 rz11 rz12 rz13 rz14
  have B1 := B0.trans (b1.mono B0.size)
  have Xr1 := Xr0.below b1
  clear B0 Xr0
  clear b1
  cases p
  · have E := Lib.hid (show false = x from FX.out)
    go_wp2
    go_ret
    exact ⟨ret_bool E.out, B1⟩
  · obtain ⟨⟨m1, m2, tl, th⟩, ⟨u11, u12, u13⟩, v1, v2, v3⟩ := MAY.out rfl
    have M1 := Lib.hid m1
    have M2 := Lib.hid m2
    have q11 : rn11 ≤ 1000000 := by have : rn11 = rhour.length := Q11.out; have : rhour.length ≤ 60 := u11; omega
    have q12 : rn12 ≤ 1000000 := by have : rn12 = rminu.length := Q12.out; have : rminu.length ≤ 60 := u12; omega
    have q13 : rn13 ≤ 1000000 := by have : rn13 = rsec.length := Q13.out; have : rsec.length ≤ 60 := u13; omega
    clear m1 m2 u11 u12 u13 MAY
    go_wp2_with fail
    refine (day_any t _ tl th).mono ?_
    rintro e w' ⟨rfl, rfl⟩
    have rz0 : w1.cell? ⟨w.heap.size, 0, none⟩ = some (.int .i64 rfreq) := Xr1.at_ 0 _ rfl
    have rz1 : w1.cell? ⟨w.heap.size, 1, none⟩ = some (.int .i64 ritv) := Xr1.at_ 1 _ rfl
    have rz2 : w1.cell? ⟨w.heap.size, 2, none⟩ = some (.int .i64 rcnt) := Xr1.at_ 2 _ rfl
    have rz3 : w1.cell? ⟨w.heap.size, 3, none⟩ = some (.int .i64 rtil) := Xr1.at_ 3 _ rfl
    have rz4 : w1.cell? ⟨w.heap.size, 4, none⟩ = some (.int .i64 rwkst) := Xr1.at_ 4 _ rfl
    have rz5 : w1.cell? ⟨w.heap.size, 5, none⟩ = some (.bool rends) := Xr1.at_ 5 _ rfl
    have rz6 : w1.cell? ⟨w.heap.size, 6, none⟩ = some (.slice ra6 rn6 rc6) := Xr1.at_ 6 _ rfl
    have rz7 : w1.cell? ⟨w.heap.size, 7, none⟩ = some (.slice ra7 rn7 rc7) := Xr1.at_ 7 _ rfl
    have rz8 : w1.cell? ⟨w.heap.size, 8, none⟩ = some (.slice ra8 rn8 rc8) := Xr1.at_ 8 _ rfl
    have rz9 : w1.cell? ⟨w.heap.size, 9, none⟩ = some (.slice ra9 rn9 rc9) := Xr1.at_ 9 _ rfl
    have rz10 : w1.cell? ⟨w.heap.size, 10, none⟩ = some (.slice ra10 rn10 rc10) := Xr1.at_ 10 _ rfl
    have rz11 : w1.cell? ⟨w.heap.size, 11, none⟩ = some (.slice ra11 rn11 rc11) := Xr1.at_ 11 _ rfl
    have rz12 : w1.cell? ⟨w.heap.size, 12, none⟩ = some (.slice ra12 rn12 rc12) := Xr1.at_ 12 _ rfl
    have rz13 : w1.cell? ⟨w.heap.size, 13, none⟩ = some (.slice ra13 rn13 rc13) := Xr1.at_ 13 _ rfl
    have rz14 : w1.cell? ⟨w.heap.size, 14, none⟩ = some (.slice ra14 rn14 rc14) := Xr1.at_ 14 _ rfl
    go_wp2_with fail
    refine (timesR_yes _ ⟨ra6, rn6, rc6, ra7, rn7, rc7, ra8, rn8, rc8, ra9, rn9, rc9, ra10, rn10, rc10, ra11, rn11, rc11, ra12, rn12, rc12, ra13, rn13, rc13, ra14, rn14, rc14⟩ ⟨rfreq, ritv, rcnt, rtil, rwkst, rends, rmon, rweek, ryday, rmday, rday, rhour, rminu, rsec, rpos⟩ start (RA.out.below B1) M1.out M2.out q11 q12 q13).mono ?_
    rintro e w2 ⟨A1, p1, A2, p2, A3, p3, he, a1, a2, a3, b2⟩
    rw [HH.out, HM.out, HC.out] at he
    rw [HH.out] at a1
    rw [HM.out] at a2
    rw [HC.out] at a3
    subst he
    clear rz0 rz1 rz2 rz3 rz4 rz5 rz6 rz7 rz8 rz9 rz10 rz11 rz12 rz13 rz14
    have B2 := B1.trans (b2.mono B1.size)
    have Xr2 := Xr1.below b2
    clear B1 Xr1
    clear b2
    have K1 := Lib.hid a1
    have K2 := Lib.hid a2
    have K3 := Lib.hid a3
    clear a1 a2 a3
    obtain ⟨s, hs⟩ : ∃ s, t % 86400 = s := ⟨_, rfl⟩
    have s0 : 0 ≤ s := by omega
    have s1 : s < 86400 := by omega
    rw [hs] at D1 D2 D3 ⊢
    clear hs tl th
    obtain ⟨m1, hm1⟩ : ∃ m, H.length = m := ⟨_, rfl⟩
    rw [hm1] at v1 K1 ⊢
    clear hm1
    obtain ⟨m2, hm2⟩ : ∃ m, M.length = m := ⟨_, rfl⟩
    rw [hm2] at v2 K2 ⊢
    clear hm2
    obtain ⟨m3, hm3⟩ : ∃ m, C.length = m := ⟨_, rfl⟩
    rw [hm3] at v3 K3 ⊢
    clear hm3
    have rz0 : w2.cell? ⟨w.heap.size, 0, none⟩ = some (.int .i64 rfreq) := Xr2.at_ 0 _ rfl
    have rz1 : w2.cell? ⟨w.heap.size, 1, none⟩ = some (.int .i64 ritv) := Xr2.at_ 1 _ rfl
    have rz2 : w2.cell? ⟨w.heap.size, 2, none⟩ = some (.int .i64 rcnt) := Xr2.at_ 2 _ rfl
    have rz3 : w2.cell? ⟨w.heap.size, 3, none⟩ = some (.int .i64 rtil) := Xr2.at_ 3 _ rfl
    have rz4 : w2.cell? ⟨w.heap.size, 4, none⟩ = some (.int .i64 rwkst) := Xr2.at_ 4 _ rfl
    have rz5 : w2.cell? ⟨w.heap.size, 5, none⟩ = some (.bool rends) := Xr2.at_ 5 _ rfl
    have rz6 : w2.cell? ⟨w.heap.size, 6, none⟩ = some (.slice ra6 rn6 rc6) := Xr2.at_ 6 _ rfl
    have rz7 : w2.cell? ⟨w.heap.size, 7, none⟩ = some (.slice ra7 rn7 rc7) := Xr2.at_ 7 _ rfl
    have rz8 : w2.cell? ⟨w.heap.size, 8, none⟩ = some (.slice ra8 rn8 rc8) := Xr2.at_ 8 _ rfl
    have rz9 : w2.cell? ⟨w.heap.size, 9, none⟩ = some (.slice ra9 rn9 rc9) := Xr2.at_ 9 _ rfl
    have rz10 : w2.cell? ⟨w.heap.size, 10, none⟩ = some (.slice ra10 rn10 rc10) := Xr2.at_ 10 _ rfl
    have rz11 : w2.cell? ⟨w.heap.size, 11, none⟩ = some (.slice ra11 rn11 rc11) := Xr2.at_ 11 _ rfl
    have rz12 : w2.cell? ⟨w.heap.size, 12, none⟩ = some (.slice ra12 rn12 rc12) := Xr2.at_ 12 _ rfl
    have rz13 : w2.cell? ⟨w.heap.size, 13, none⟩ = some (.slice ra13 rn13 rc13) := Xr2.at_ 13 _ rfl
    have rz14 : w2.cell? ⟨w.heap.size, 14, none⟩ = some (.slice ra14 rn14 rc14) := Xr2.at_ 14 _ rfl
    go_wp2_with fail
    refine (fits_is _ ⟨ra6, rn6, rc6, ra7, rn7, rc7, ra8, rn8, rc8, ra9, rn9, rc9, ra10, rn10, rc10, ra11, rn11, rc11, ra12, rn12, rc12, ra13, rn13, rc13, ra14, rn14, rc14⟩ ⟨rfreq, ritv, rcnt, rtil, rwkst, rends, rmon, rweek, ryday, rmday, rday, rhour, rminu, rsec, rpos⟩ start (t / 86400) f (RA.out.below B2) HF.out).mono ?_
    rintro e w3 ⟨rfl, b3⟩
    clear rz0 rz1 rz2 rz3 rz4 rz5 rz6 rz7 rz8 rz9 rz10 rz11 rz12 rz13 rz14
    have B3 := B2.trans (b3.mono B2.size)
    have Xr3 := Xr2.below b3
    clear B2 Xr2
    have K1 := Lib.hid (K1.out.below b3)
    have K2 := Lib.hid (K2.out.below b3)
    have K3 := Lib.hid (K3.out.below b3)
    clear b3
    cases f
    · have E := Lib.hid (show false = x by have := FX.out; simpa using this)
      go_wp2
      go_ret
      exact ⟨ret_bool E.out, B3⟩
    · go_wp2_with fail
      refine (contains_is _ _ m1 p1 H (s / 3600) K1.out (by omega) b1 D1.out).mono ?_
      rintro e w4 ⟨rfl, b4⟩
      have B4 := B3.trans (b4.mono B3.size)
      have Xr4 := Xr3.below b4
      clear B3 Xr3
      have K1 := Lib.hid (K1.out.below b4)
      have K2 := Lib.hid (K2.out.below b4)
      have K3 := Lib.hid (K3.out.below b4)
      clear b4
      cases b1
      · have E := Lib.hid (show false = x by have := FX.out; simpa using this)
        go_wp2
        go_ret
        exact ⟨ret_bool E.out, B4⟩
      · go_wp2_with fail
        refine (contains_is _ _ m2 p2 M (s % 3600 / 60) K2.out (by omega) b2 D2.out).mono ?_
        rintro e w5 ⟨rfl, b5⟩
        have B5 := B4.trans (b5.mono B4.size)
        have Xr5 := Xr4.below b5
        clear B4 Xr4
        have K1 := Lib.hid (K1.out.below b5)
        have K2 := Lib.hid (K2.out.below b5)
        have K3 := Lib.hid (K3.out.below b5)
        clear b5
        cases b2
        · have E := Lib.hid (show false = x by have := FX.out; simpa using this)
          go_wp2
          go_ret
          exact ⟨ret_bool E.out, B5⟩
        · go_wp2_with fail
          refine (contains_is _ _ m3 p3 C (s % 60) K3.out (by omega) b3 D3.out).mono ?_
          rintro e w6 ⟨rfl, b6⟩
          have B6 := B5.trans (b6.mono B5.size)
          have Xr6 := Xr5.below b6
          clear B5 Xr5
          have K1 := Lib.hid (K1.out.below b6)
          have K2 := Lib.hid (K2.out.below b6)
          have K3 := Lib.hid (K3.out.below b6)
          clear b6
          have E := Lib.hid (show b3 = x by have := FX.out; simpa using this)
          go_wp2
          go_ret
          exact ⟨ret_bool E.out, B6⟩
end Go.Proofs.YtnfcchimkfnmkaaGreatDoor.Mb
