/- The walks of package member's hasPlace and Has. -/
import Derived.Test.YtnfcchimkfnmkaaGreatDoorMbE
set_option linter.unusedVariables false
namespace Go.Proofs.YtnfcchimkfnmkaaGreatDoor.Mb
open Go.RowKit Cv St Ru Dd

/-- member.Set -/
theorem setP_is (w : World) (S : RS) (r : Ru) (start t most : Int) (p : List Int × Int) (h : RuAt w S r) (hx : setR r start t most = p) :
    Calls Tryz.prog 64 #[S.val r, .int .i64 start, .int .i64 t, .int .i64 most] w (SetIs w p) := by
  cases hn : setOk r start t most
  · exact set_no w S r start t most p h hn hx
  · cases hi : inPer r start t
    · exact set_off w S r start t most p h hn hi hx
    · exact set_on w S r start t most p h hn hi hx
set_option maxRecDepth 100000 in
set_option maxHeartbeats 8000000 in
/-- member.hasPlace -/
theorem place_is (w : World) (S : RS) (r : Ru) (start t : Int) (x : Bool) (h : RuAt w S r) (hx : Mb.placeB r start t = x) :
    Calls Tryz.prog 38 #[S.val r, .int .i64 start, .int .i64 t] w fun e w' => e = .returned (.bool x) ∧ Below w.heap.size w w' := by
  have RA := Lib.hid h
  have l14 := h.l14
  have FW := setR_few (r := r) (start := start) (t := t) (most := 100000) (by decide)
  obtain ⟨⟨l, z⟩, hp⟩ : ∃ p, setR r start t 100000 = p := ⟨_, rfl⟩
  rw [hp] at FW
  replace FW : (l.length : Int) ≤ 100000 := FW
  obtain ⟨k, hk⟩ : ∃ k, idx l t = k := ⟨_, rfl⟩
  have k0 := idx_lo l t
  have k1 := idx_hi l t
  rw [hk] at k0 k1
  obtain ⟨b1, hb1⟩ : ∃ b, decide (k + 1 ∈ r.pos) = b := ⟨_, rfl⟩
  obtain ⟨b2, hb2⟩ : ∃ b, decide (k - (l.length : Int) ∈ r.pos) = b := ⟨_, rfl⟩
  have XF := Lib.hid (show (decide (z = 0) && (b1 || b2)) = x by
    unfold Mb.placeB at hx
    rw [hp] at hx
    simp only [hk] at hx
    rw [hb1, hb2] at hx
    exact hx)
  have HP := Lib.hid hp
  have HK := Lib.hid hk
  have D1 := Lib.hid hb1
  have D2 := Lib.hid hb2
  clear h hx hp hk hb1 hb2
  obtain ⟨ra6, rn6, rc6, ra7, rn7, rc7, ra8, rn8, rc8, ra9, rn9, rc9, ra10, rn10, rc10, ra11, rn11, rc11, ra12, rn12, rc12, ra13, rn13, rc13, ra14, rn14, rc14⟩ := S
  obtain ⟨rfreq, ritv, rcnt, rtil, rwkst, rends, rmon, rweek, ryday, rmday, rday, rhour, rminu, rsec, rpos⟩ := r
  replace l14 : rn14 ≤ 140737488355328 := l14
  have D1 := Lib.hid (show decide (k + 1 ∈ rpos) = b1 from D1.out)
  have D2 := Lib.hid (show decide (k - (l.length : Int) ∈ rpos) = b2 from D2.out)
  show Calls Tryz.prog 38 #[.agg #[.int .i64 rfreq, .int .i64 ritv, .int .i64 rcnt, .int .i64 rtil, .int .i64 rwkst, .bool rends, .slice ra6 rn6 rc6, .slice ra7 rn7 rc7, .slice ra8 rn8 rc8, .slice ra9 rn9 rc9, .slice ra10 rn10 rc10, .slice ra11 rn11 rc11, .slice ra12 rn12 rc12, .slice ra13 rn13 rc13, .slice ra14 rn14 rc14], .int .i64 start, .int .i64 t] w _
  go_enter Tryz.func38, Tryz.ntmps38
  go_upto_region 1 with fail
  have B0 := alloc_below w (.cells #[.int .i64 rfreq, .int .i64 ritv, .int .i64 rcnt, .int .i64 rtil, .int .i64 rwkst, .bool rends, .slice ra6 rn6 rc6, .slice ra7 rn7 rc7, .slice ra8 rn8 rc8, .slice ra9 rn9 rc9, .slice ra10 rn10 rc10, .slice ra11 rn11 rc11, .slice ra12 rn12 rc12, .slice ra13 rn13 rc13, .slice ra14 rn14 rc14] 25)
  have Xr0 := Box.new w #[.int .i64 rfreq, .int .i64 ritv, .int .i64 rcnt, .int .i64 rtil, .int .i64 rwkst, .bool rends, .slice ra6 rn6 rc6, .slice ra7 rn7 rc7, .slice ra8 rn8 rc8, .slice ra9 rn9 rc9, .slice ra10 rn10 rc10, .slice ra11 rn11 rc11, .slice ra12 rn12 rc12, .slice ra13 rn13 rc13, .slice ra14 rn14 rc14] 25
  generalize w.alloc (.cells #[.int .i64 rfreq, .int .i64 ritv, .int .i64 rcnt, .int .i64 rtil, .int .i64 rwkst, .bool rends, .slice ra6 rn6 rc6, .slice ra7 rn7 rc7, .slice ra8 rn8 rc8, .slice ra9 rn9 rc9, .slice ra10 rn10 rc10, .slice ra11 rn11 rc11, .slice ra12 rn12 rc12, .slice ra13 rn13 rc13, .slice ra14 rn14 rc14] 25) = w0 at *
  have rz0 : w0.cell? ⟨w.heap.size, 0, none⟩ = some (.int .i64 rfreq) := Xr0.at_ 0 _ rfl
  have rz1 : w0.cell? ⟨w.heap.size, 1, none⟩ = some (.int .i64 ritv) := Xr0.at_ 1 _ rfl
  have rz2 : w0.cell? ⟨w.heap.size, 2, none⟩ = some (.int .i64 rcnt) := Xr0.at_ 2 _ rfl
  have rz3 : w0.cell? ⟨w.heap.size, 3, none⟩ = some (.int .i64 rtil) := Xr0.at_ 3 _ rfl
  have rz4 : w0.cell? ⟨w.heap.size, 4, none⟩ = some (.int .i64 rwkst) := Xr0.at_ 4 _ rfl
  have rz5 : w0.cell? ⟨w.heap.size, 5, none⟩ = some (.bool rends) := Xr0.at_ 5 _ rfl
  have rz6 : w0.cell? ⟨w.heap.size, 6, none⟩ = some (.slice ra6 rn6 rc6) := Xr0.at_ 6 _ rfl
  have rz7 : w0.cell? ⟨w.heap.size, 7, none⟩ = some (.slice ra7 rn7 rc7) := Xr0.at_ 7 _ rfl
  have rz8 : w0.cell? ⟨w.heap.size, 8, none⟩ = some (.slice ra8 rn8 rc8) := Xr0.at_ 8 _ rfl
  have rz9 : w0.cell? ⟨w.heap.size, 9, none⟩ = some (.slice ra9 rn9 rc9) := Xr0.at_ 9 _ rfl
  have rz10 : w0.cell? ⟨w.heap.size, 10, none⟩ = some (.slice ra10 rn10 rc10) := Xr0.at_ 10 _ rfl
  have rz11 : w0.cell? ⟨w.heap.size, 11, none⟩ = some (.slice ra11 rn11 rc11) := Xr0.at_ 11 _ rfl
  have rz12 : w0.cell? ⟨w.heap.size, 12, none⟩ = some (.slice ra12 rn12 rc12) := Xr0.at_ 12 _ rfl
  have rz13 : w0.cell? ⟨w.heap.size, 13, none⟩ = some (.slice ra13 rn13 rc13) := Xr0.at_ 13 _ rfl
  have rz14 : w0.cell? ⟨w.heap.size, 14, none⟩ = some (.slice ra14 rn14 rc14) := Xr0.at_ 14 _ rfl
  go_wp2_with fail
  refine (setP_is _ ⟨ra6, rn6, rc6, ra7, rn7, rc7, ra8, rn8, rc8, ra9, rn9, rc9, ra10, rn10, rc10, ra11, rn11, rc11, ra12, rn12, rc12, ra13, rn13, rc13, ra14, rn14, rc14⟩ ⟨rfreq, ritv, rcnt, rtil, rwkst, rends, rmon, rweek, ryday, rmday, rday, rhour, rminu, rsec, rpos⟩ start t 100000 (l, z) (RA.out.below B0) HP.out).mono ?_
  rintro e w1 ⟨A, c, he, ia, b1'⟩
  replace he : e = .returned (.tuple #[.slice A l.length c, .int .i64 z]) := he
  subst he
  clear rz0 rz1 rz2 rz3 rz4 rz5 rz6 rz7 rz8 rz9 rz10 rz11 rz12 rz13 rz14
  have B1 := B0.trans (b1'.mono B0.size)
  have Xr1 := Xr0.below b1'
  clear B0 Xr0
  clear b1'
  have K1 := Lib.hid (show IsAt w1 A l.length l from ia)
  clear ia
  have RA1 := Lib.hid (RA.out.below B1)
  have P14 := Lib.hid (show IsAt w1 ra14 rn14 rpos from RA1.out.h14)
  clear RA1
  by_cases hz : z = 0
  · have t0 : ((z : Int) != 0) = false := by rw [bne_eq_false_iff_eq]; exact hz
    have XG := Lib.hid (show (b1 || b2) = x by have := XF.out; rw [decide_eq_true hz] at this; exact this)
    clear hz XF
    obtain ⟨n, hn⟩ : ∃ n, l.length = n := ⟨_, rfl⟩
    rw [hn] at FW k1 D2 K1 ⊢
    clear hn
    go_wp2_with fail
    refine (index_is _ A n c l t K1.out (by omega) k HK.out).mono ?_
    rintro e w2 ⟨rfl, b2⟩
    have B2 := B1.trans (b2.mono B1.size)
    have Xr2 := Xr1.below b2
    clear B1 Xr1
    have K1 := Lib.hid (K1.out.below b2)
    have P14 := Lib.hid (P14.out.below b2)
    clear b2
    have rz14 : w2.cell? ⟨w.heap.size, 14, none⟩ = some (.slice ra14 rn14 rc14) := Xr2.at_ 14 _ rfl
    have IW : IntKind.i64.wrap (k + 1) = k + 1 := IntWalk.i64_in _ (by omega)
    have IV : IntKind.i64.wrap (k - (n : Int)) = k - (n : Int) := IntWalk.i64_in _ (by omega)
    go_wp2_with fail
    refine (contains_is _ ra14 rn14 rc14 rpos (k + 1) P14.out (by omega) b1 D1.out).mono ?_
    rintro e w3 ⟨rfl, b3⟩
    have B3 := B2.trans (b3.mono B2.size)
    have Xr3 := Xr2.below b3
    clear B2 Xr2
    have K1 := Lib.hid (K1.out.below b3)
    have P14 := Lib.hid (P14.out.below b3)
    clear b3
    cases b1
    · clear rz14
      have rz14 : w3.cell? ⟨w.heap.size, 14, none⟩ = some (.slice ra14 rn14 rc14) := Xr3.at_ 14 _ rfl
      go_wp2_with fail
      refine (contains_is _ ra14 rn14 rc14 rpos (k - (n : Int)) P14.out (by omega) b2 D2.out).mono ?_
      rintro e w4 ⟨rfl, b4⟩
      have B4 := B3.trans (b4.mono B3.size)
      have Xr4 := Xr3.below b4
      clear B3 Xr3
      have K1 := Lib.hid (K1.out.below b4)
      have P14 := Lib.hid (P14.out.below b4)
      clear b4
      have E := Lib.hid (show b2 = x by have := XG.out; simpa using this)
      go_wp2
      go_ret
      exact ⟨ret_bool E.out, B4⟩
    · have E := Lib.hid (show true = x by have := XG.out; simpa using this)
      go_wp2
      go_ret
      exact ⟨ret_bool E.out, B3⟩
  · have t0 : ((z : Int) != 0) = true := by rw [bne_iff_ne]; exact hz
    have E := Lib.hid (show false = x by have := XF.out; rw [decide_eq_false hz] at this; exact this)
    clear hz XF
    go_wp2
    go_ret
    exact ⟨ret_bool E.out, B1⟩
set_option maxRecDepth 100000 in
set_option maxHeartbeats 8000000 in
/-- member.Has -/
theorem has_is (w : World) (S : RS) (r : Ru) (start t : Int) (x : Bool) (h : RuAt w S r) (hx : hasM r start t = x) :
    Calls Tryz.prog 21 #[S.val r, .int .i64 start, .int .i64 t] w fun e w' => e = .returned (.bool x) ∧ Below w.heap.size w w' := by
  have RA := Lib.hid h
  have E14 := Lib.hid h.h14.1
  obtain ⟨a, ha⟩ : ∃ a, rawB r start t = a := ⟨_, rfl⟩
  obtain ⟨q, hq⟩ : ∃ q, Mb.placeB r start t = q := ⟨_, rfl⟩
  have XF := Lib.hid (show (decide (start ≤ t) && (!r.ends || decide (t ≤ r.til)) && a && (decide (r.pos = []) || q)) = x by rw [← ha, ← hq]; exact hx)
  have HA := Lib.hid ha
  have HQ := Lib.hid hq
  clear h hx ha hq
  obtain ⟨ra6, rn6, rc6, ra7, rn7, rc7, ra8, rn8, rc8, ra9, rn9, rc9, ra10, rn10, rc10, ra11, rn11, rc11, ra12, rn12, rc12, ra13, rn13, rc13, ra14, rn14, rc14⟩ := S
  obtain ⟨rfreq, ritv, rcnt, rtil, rwkst, rends, rmon, rweek, ryday, rmday, rday, rhour, rminu, rsec, rpos⟩ := r
  have XF := Lib.hid (show (decide (start ≤ t) && (!rends || decide (t ≤ rtil)) && a && (decide (rpos = []) || q)) = x from XF.out)
  have E14 := Lib.hid (show rn14 = rpos.length from E14.out)
  show Calls Tryz.prog 21 #[.agg #[.int .i64 rfreq, .int .i64 ritv, .int .i64 rcnt, .int .i64 rtil, .int .i64 rwkst, .bool rends, .slice ra6 rn6 rc6, .slice ra7 rn7 rc7, .slice ra8 rn8 rc8, .slice ra9 rn9 rc9, .slice ra10 rn10 rc10, .slice ra11 rn11 rc11, .slice ra12 rn12 rc12, .slice ra13 rn13 rc13, .slice ra14 rn14 rc14], .int .i64 start, .int .i64 t] w _
  go_enter Tryz.func21, Tryz.ntmps21
  go_upto_region 1 with fail
  have B0 := alloc_below w (.cells #[.int .i64 rfreq, .int .i64 ritv, .int .i64 rcnt, .int .i64 rtil, .int .i64 rwkst, .bool rends, .slice ra6 rn6 rc6, .slice ra7 rn7 rc7, .slice ra8 rn8 rc8, .slice ra9 rn9 rc9, .slice ra10 rn10 rc10, .slice ra11 rn11 rc11, .slice ra12 rn12 rc12, .slice ra13 rn13 rc13, .slice ra14 rn14 rc14] 25)
  have Xr0 := Box.new w #[.int .i64 rfreq, .int .i64 ritv, .int .i64 rcnt, .int .i64 rtil, .int .i64 rwkst, .bool rends, .slice ra6 rn6 rc6, .slice ra7 rn7 rc7, .slice ra8 rn8 rc8, .slice ra9 rn9 rc9, .slice ra10 rn10 rc10, .slice ra11 rn11 rc11, .slice ra12 rn12 rc12, .slice ra13 rn13 rc13, .slice ra14 rn14 rc14] 25
  generalize w.alloc (.cells #[.int .i64 rfreq, .int .i64 ritv, .int .i64 rcnt, .int .i64 rtil, .int .i64 rwkst, .bool rends, .slice ra6 rn6 rc6, .slice ra7 rn7 rc7, .slice ra8 rn8 rc8, .slice ra9 rn9 rc9, .slice ra10 rn10 rc10, .slice ra11 rn11 rc11, .slice ra12 rn12 rc12, .slice ra13 rn13 rc13, .slice ra14 rn14 rc14] 25) = w0 at *
  have rz0 : w0.cell? ⟨w.heap.size, 0, none⟩ = some (.int .i64 rfreq) := Xr0.at_ 0 _ rfl
  have rz1 : w0.cell? ⟨w.heap.size, 1, none⟩ = some (.int .i64 ritv) := Xr0.at_ 1 _ rfl
  have rz2 : w0.cell? ⟨w.heap.size, 2, none⟩ = some (.int .i64 rcnt) := Xr0.at_ 2 _ rfl
  have rz3 : w0.cell? ⟨w.heap.size, 3, none⟩ = some (.int .i64 rtil) := Xr0.at_ 3 _ rfl
  have rz4 : w0.cell? ⟨w.heap.size, 4, none⟩ = some (.int .i64 rwkst) := Xr0.at_ 4 _ rfl
  have rz5 : w0.cell? ⟨w.heap.size, 5, none⟩ = some (.bool rends) := Xr0.at_ 5 _ rfl
  have rz6 : w0.cell? ⟨w.heap.size, 6, none⟩ = some (.slice ra6 rn6 rc6) := Xr0.at_ 6 _ rfl
  have rz7 : w0.cell? ⟨w.heap.size, 7, none⟩ = some (.slice ra7 rn7 rc7) := Xr0.at_ 7 _ rfl
  have rz8 : w0.cell? ⟨w.heap.size, 8, none⟩ = some (.slice ra8 rn8 rc8) := Xr0.at_ 8 _ rfl
  have rz9 : w0.cell? ⟨w.heap.size, 9, none⟩ = some (.slice ra9 rn9 rc9) := Xr0.at_ 9 _ rfl
  have rz10 : w0.cell? ⟨w.heap.size, 10, none⟩ = some (.slice ra10 rn10 rc10) := Xr0.at_ 10 _ rfl
  have rz11 : w0.cell? ⟨w.heap.size, 11, none⟩ = some (.slice ra11 rn11 rc11) := Xr0.at_ 11 _ rfl
  have rz12 : w0.cell? ⟨w.heap.size, 12, none⟩ = some (.slice ra12 rn12 rc12) := Xr0.at_ 12 _ rfl
  have rz13 : w0.cell? ⟨w.heap.size, 13, none⟩ = some (.slice ra13 rn13 rc13) := Xr0.at_ 13 _ rfl
  have rz14 : w0.cell? ⟨w.heap.size, 14, none⟩ = some (.slice ra14 rn14 rc14) := Xr0.at_ 14 _ rfl
  by_cases c1 : start ≤ t
  · have t1 : decide (t < start) = false := decide_eq_false (by omega)
    by_cases c2 : rends = true ∧ rtil < t
    · obtain ⟨c3, c4⟩ := c2
      have t2 : decide (rtil < t) = true := decide_eq_true c4
      have E := Lib.hid (show false = x by have := XF.out; rw [c3, show decide (t ≤ rtil) = false from decide_eq_false (by omega)] at this; simpa using this)
      subst c3
      clear XF
      go_wp2
      go_ret
      exact ⟨ret_bool E.out, B0⟩
    · have XG := Lib.hid (show (a && (decide (rpos = []) || q)) = x by
        have e : (!rends || decide (t ≤ rtil)) = true := by
          cases he : rends
          · rfl
          · rw [show decide (t ≤ rtil) = true from decide_eq_true (by simp [he] at c2; omega)]; rfl
        have := XF.out
        rw [e, decide_eq_true c1] at this
        simpa using this)
      have t2 : rends = true → decide (rtil < t) = false := fun e => decide_eq_false fun g => c2 ⟨e, g⟩
      have T2 := Lib.hid t2
      clear t2 c2 XF
      cases rends
      · clear T2
        go_wp2_with fail
        refine (raw_is _ ⟨ra6, rn6, rc6, ra7, rn7, rc7, ra8, rn8, rc8, ra9, rn9, rc9, ra10, rn10, rc10, ra11, rn11, rc11, ra12, rn12, rc12, ra13, rn13, rc13, ra14, rn14, rc14⟩ ⟨rfreq, ritv, rcnt, rtil, rwkst, false, rmon, rweek, ryday, rmday, rday, rhour, rminu, rsec, rpos⟩ start t a (RA.out.below B0) HA.out).mono ?_
        rintro e w1 ⟨rfl, b1⟩
        have B1 := B0.trans (b1.mono B0.size)
        have Xr1 := Xr0.below b1
        clear B0 Xr0
        clear b1
        clear rz0 rz1 rz2 rz3 rz4 rz5 rz6 rz7 rz8 rz9 rz10 rz11 rz12 rz13 rz14
        cases a
        · have E := Lib.hid (show false = x from XG.out)
          go_wp2
          go_ret
          exact ⟨ret_bool E.out, B1⟩
        · have rz0 : w1.cell? ⟨w.heap.size, 0, none⟩ = some (.int .i64 rfreq) := Xr1.at_ 0 _ rfl
          have rz1 : w1.cell? ⟨w.heap.size, 1, none⟩ = some (.int .i64 ritv) := Xr1.at_ 1 _ rfl
          have rz2 : w1.cell? ⟨w.heap.size, 2, none⟩ = some (.int .i64 rcnt) := Xr1.at_ 2 _ rfl
          have rz3 : w1.cell? ⟨w.heap.size, 3, none⟩ = some (.int .i64 rtil) := Xr1.at_ 3 _ rfl
          have rz4 : w1.cell? ⟨w.heap.size, 4, none⟩ = some (.int .i64 rwkst) := Xr1.at_ 4 _ rfl
          have rz5 : w1.cell? ⟨w.heap.size, 5, none⟩ = some (.bool false) := Xr1.at_ 5 _ rfl
          have rz6 : w1.cell? ⟨w.heap.size, 6, none⟩ = some (.slice ra6 rn6 rc6) := Xr1.at_ 6 _ rfl
          have rz7 : w1.cell? ⟨w.heap.size, 7, none⟩ = some (.slice ra7 rn7 rc7) := Xr1.at_ 7 _ rfl
          have rz8 : w1.cell? ⟨w.heap.size, 8, none⟩ = some (.slice ra8 rn8 rc8) := Xr1.at_ 8 _ rfl
          have rz9 : w1.cell? ⟨w.heap.size, 9, none⟩ = some (.slice ra9 rn9 rc9) := Xr1.at_ 9 _ rfl
          have rz10 : w1.cell? ⟨w.heap.size, 10, none⟩ = some (.slice ra10 rn10 rc10) := Xr1.at_ 10 _ rfl
          have rz11 : w1.cell? ⟨w.heap.size, 11, none⟩ = some (.slice ra11 rn11 rc11) := Xr1.at_ 11 _ rfl
          have rz12 : w1.cell? ⟨w.heap.size, 12, none⟩ = some (.slice ra12 rn12 rc12) := Xr1.at_ 12 _ rfl
          have rz13 : w1.cell? ⟨w.heap.size, 13, none⟩ = some (.slice ra13 rn13 rc13) := Xr1.at_ 13 _ rfl
          have rz14 : w1.cell? ⟨w.heap.size, 14, none⟩ = some (.slice ra14 rn14 rc14) := Xr1.at_ 14 _ rfl
          by_cases c5 : rn14 = 0
          · have E := Lib.hid (show true = x by have := XG.out; rw [show rpos = [] from List.length_eq_zero_iff.1 (by rw [← E14.out]; exact c5)] at this; simpa using this)
            have t5 : ((rn14 : Int) == 0) = true := by rw [beq_iff_eq]; omega
            clear c5
            go_wp2
            go_ret
            exact ⟨ret_bool E.out, B1⟩
          · have E := Lib.hid (show q = x by have := XG.out; rw [show decide (rpos = []) = false from decide_eq_false (fun e => c5 (by rw [E14.out, e]; rfl))] at this; simpa using this)
            have t5 : ((rn14 : Int) == 0) = false := by rw [beq_eq_false_iff_ne]; omega
            clear c5
            go_wp2_with fail
            refine (place_is _ ⟨ra6, rn6, rc6, ra7, rn7, rc7, ra8, rn8, rc8, ra9, rn9, rc9, ra10, rn10, rc10, ra11, rn11, rc11, ra12, rn12, rc12, ra13, rn13, rc13, ra14, rn14, rc14⟩ ⟨rfreq, ritv, rcnt, rtil, rwkst, false, rmon, rweek, ryday, rmday, rday, rhour, rminu, rsec, rpos⟩ start t q (RA.out.below B1) HQ.out).mono ?_
            rintro e w2 ⟨rfl, b2⟩
            have B2 := B1.trans (b2.mono B1.size)
            have Xr2 := Xr1.below b2
            clear B1 Xr1
            clear b2
            clear rz0 rz1 rz2 rz3 rz4 rz5 rz6 rz7 rz8 rz9 rz10 rz11 rz12 rz13 rz14
            go_wp2
            go_ret
            exact ⟨ret_bool E.out, B2⟩
      · have t2 := T2.out rfl
        clear T2
        go_wp2_with fail
        refine (raw_is _ ⟨ra6, rn6, rc6, ra7, rn7, rc7, ra8, rn8, rc8, ra9, rn9, rc9, ra10, rn10, rc10, ra11, rn11, rc11, ra12, rn12, rc12, ra13, rn13, rc13, ra14, rn14, rc14⟩ ⟨rfreq, ritv, rcnt, rtil, rwkst, true, rmon, rweek, ryday, rmday, rday, rhour, rminu, rsec, rpos⟩ start t a (RA.out.below B0) HA.out).mono ?_
        rintro e w1 ⟨rfl, b1⟩
        have B1 := B0.trans (b1.mono B0.size)
        have Xr1 := Xr0.below b1
        clear B0 Xr0
        clear b1
        clear rz0 rz1 rz2 rz3 rz4 rz5 rz6 rz7 rz8 rz9 rz10 rz11 rz12 rz13 rz14
        cases a
        · have E := Lib.hid (show false = x from XG.out)
          go_wp2
          go_ret
          exact ⟨ret_bool E.out, B1⟩
        · have rz0 : w1.cell? ⟨w.heap.size, 0, none⟩ = some (.int .i64 rfreq) := Xr1.at_ 0 _ rfl
          have rz1 : w1.cell? ⟨w.heap.size, 1, none⟩ = some (.int .i64 ritv) := Xr1.at_ 1 _ rfl
          have rz2 : w1.cell? ⟨w.heap.size, 2, none⟩ = some (.int .i64 rcnt) := Xr1.at_ 2 _ rfl
          have rz3 : w1.cell? ⟨w.heap.size, 3, none⟩ = some (.int .i64 rtil) := Xr1.at_ 3 _ rfl
          have rz4 : w1.cell? ⟨w.heap.size, 4, none⟩ = some (.int .i64 rwkst) := Xr1.at_ 4 _ rfl
          have rz5 : w1.cell? ⟨w.heap.size, 5, none⟩ = some (.bool true) := Xr1.at_ 5 _ rfl
          have rz6 : w1.cell? ⟨w.heap.size, 6, none⟩ = some (.slice ra6 rn6 rc6) := Xr1.at_ 6 _ rfl
          have rz7 : w1.cell? ⟨w.heap.size, 7, none⟩ = some (.slice ra7 rn7 rc7) := Xr1.at_ 7 _ rfl
          have rz8 : w1.cell? ⟨w.heap.size, 8, none⟩ = some (.slice ra8 rn8 rc8) := Xr1.at_ 8 _ rfl
          have rz9 : w1.cell? ⟨w.heap.size, 9, none⟩ = some (.slice ra9 rn9 rc9) := Xr1.at_ 9 _ rfl
          have rz10 : w1.cell? ⟨w.heap.size, 10, none⟩ = some (.slice ra10 rn10 rc10) := Xr1.at_ 10 _ rfl
          have rz11 : w1.cell? ⟨w.heap.size, 11, none⟩ = some (.slice ra11 rn11 rc11) := Xr1.at_ 11 _ rfl
          have rz12 : w1.cell? ⟨w.heap.size, 12, none⟩ = some (.slice ra12 rn12 rc12) := Xr1.at_ 12 _ rfl
          have rz13 : w1.cell? ⟨w.heap.size, 13, none⟩ = some (.slice ra13 rn13 rc13) := Xr1.at_ 13 _ rfl
          have rz14 : w1.cell? ⟨w.heap.size, 14, none⟩ = some (.slice ra14 rn14 rc14) := Xr1.at_ 14 _ rfl
          by_cases c5 : rn14 = 0
          · have E := Lib.hid (show true = x by have := XG.out; rw [show rpos = [] from List.length_eq_zero_iff.1 (by rw [← E14.out]; exact c5)] at this; simpa using this)
            have t5 : ((rn14 : Int) == 0) = true := by rw [beq_iff_eq]; omega
            clear c5
            go_wp2
            go_ret
            exact ⟨ret_bool E.out, B1⟩
          · have E := Lib.hid (show q = x by have := XG.out; rw [show decide (rpos = []) = false from decide_eq_false (fun e => c5 (by rw [E14.out, e]; rfl))] at this; simpa using this)
            have t5 : ((rn14 : Int) == 0) = false := by rw [beq_eq_false_iff_ne]; omega
            clear c5
            go_wp2_with fail
            refine (place_is _ ⟨ra6, rn6, rc6, ra7, rn7, rc7, ra8, rn8, rc8, ra9, rn9, rc9, ra10, rn10, rc10, ra11, rn11, rc11, ra12, rn12, rc12, ra13, rn13, rc13, ra14, rn14, rc14⟩ ⟨rfreq, ritv, rcnt, rtil, rwkst, true, rmon, rweek, ryday, rmday, rday, rhour, rminu, rsec, rpos⟩ start t q (RA.out.below B1) HQ.out).mono ?_
            rintro e w2 ⟨rfl, b2⟩
            have B2 := B1.trans (b2.mono B1.size)
            have Xr2 := Xr1.below b2
            clear B1 Xr1
            clear b2
            clear rz0 rz1 rz2 rz3 rz4 rz5 rz6 rz7 rz8 rz9 rz10 rz11 rz12 rz13 rz14
            go_wp2
            go_ret
            exact ⟨ret_bool E.out, B2⟩
  · have t1 : decide (t < start) = true := decide_eq_true (by omega)
    have E := Lib.hid (show false = x by have := XF.out; rw [decide_eq_false c1] at this; simpa using this)
    clear XF c1
    go_wp2
    go_ret
    exact ⟨ret_bool E.out, B0⟩
end Go.Proofs.YtnfcchimkfnmkaaGreatDoor.Mb
