/- DaysParts answers true; the walk of vokref.Has. -/
import Derived.Test.YtkkmhjplfpdhcaaGreatDoorDyWalkE
import Derived.Test.YtkkmhjplfpdhcaaGreatDoorDyFirst
import Derived.Test.YtkkmhjplfpdhcaaGreatDoorRuCopyM
set_option linter.unusedVariables false
namespace Go.Proofs.YtkkmhjplfpdhcaaGreatDoor.Dd
open Go.RowKit Cv St Ru

def hasN (l : List Int) (x : Int) (k : Nat) : Prop := ∀ j, j < k → iat l j ≠ x
theorem hasN.succ {l : List Int} {x : Int} {k : Nat} (h : hasN l x k) (e : iat l k ≠ x) : hasN l x (k + 1) := fun j hj => by
  by_cases c : j = k
  · subst c; exact e
  · exact h j (by omega)
set_option maxHeartbeats 2000000 in
/-- vokref.Has -/
theorem vhas_is (w : World) (A : Option Addr) (n c : Nat) (l : List Int) (x : Int) (hl : IsAt w A n l) (h1 : n ≤ 9223372036854775807) (p : Bool) (hp : decide (x ∈ l) = p) :
    Calls Tryz.prog 23 #[.slice A n c, .int .i64 x] w fun e w' => e = .returned (.bool p) ∧ Below w.heap.size w w' := by
  obtain ⟨en, hc⟩ := hl
  have EN := Lib.hid en
  have HP := Lib.hid hp
  clear en hp
  go_enter Tryz.func23, Tryz.ntmps23
  go_wp2
  go_loopw [5] (fun i wr => ∃ t : Nat, t ≤ n ∧ i = .int .i64 t ∧ Hid (hasN l x t) ∧ ∃ q : Nat, wr = w.drewN q) (fun i _ => n - (intOf i).toNat)
  case atStart => exact ⟨0, Nat.zero_le _, rfl, Lib.hid (fun j hj => absurd hj (by omega)), 0, rfl⟩
  case round =>
    obtain ⟨t, ht, rfl, D, q, rfl⟩ := hrel
    by_cases hlt : t < n
    · obtain ⟨bl, off, rfl, hb, hcc⟩ := hc (by omega)
      have c0 := hcc t hlt
      have Y := Lib.hid (fun (h : iat l t = x) => show true = p by
        rw [← HP.out]
        have hk : t < l.length := by rw [← EN.out]; exact hlt
        rw [iat_lt hk] at h
        exact (decide_eq_true (h ▸ List.getElem_mem hk)).symm)
      have X := Lib.hid (fun (e1 : iat l t ≠ x) => D.out.succ e1)
      clear hc hcc D
      by_cases p1 : iat l t = x
      · have e1 : ((iat l t : Int) == x) = true := by rw [beq_iff_eq]; exact p1
        have F := Lib.hid (Y.out p1)
        clear p1 X Y
        generalize iat l t = s at *
        go_wp2
        go_ret
        exact ⟨ret_bool F.out, Below.drewN' _ _ _⟩
      · have e1 : ((iat l t : Int) == x) = false := by rw [beq_eq_false_iff_ne]; exact p1
        have F := Lib.hid (X.out p1)
        clear p1 X Y
        generalize iat l t = s at *
        go_wp2
        go_roundw
        case rel => exact ⟨t + 1, by omega, by go_num, F, _, rfl⟩
        case measure => simp [intOf]; omega
    · obtain rfl : n = t := by omega
      have F := Lib.hid (show false = p by
        rw [← HP.out]
        refine (decide_eq_false fun g => ?_).symm
        obtain ⟨j, hj, e⟩ := List.getElem_of_mem g
        exact D.out j (by rw [EN.out]; exact hj) (by rw [iat_lt hj]; exact e))
      go_wp2
      go_ret
      exact ⟨ret_bool F.out, Below.drewN' _ _ _⟩
end Go.Proofs.YtkkmhjplfpdhcaaGreatDoor.Dd
namespace Go.Proofs.YtkkmhjplfpdhcaaGreatDoor.Dd
open Go.RowKit Cv St Ru

theorem in_below {W w : World} {S : RS} {r : Ru} (h : RuIn W S r) (hb : Below W.heap.size W w) : RuIn w S r :=
  ⟨h.h6.below hb, h.h7.below hb, h.h8.below hb, h.h9.below hb, h.h10.below hb, h.h11.below hb, h.h12.below hb, h.h13.below hb, h.h14.below hb, h.k6, h.k7, h.k8, h.k9, h.k10, h.k11, h.k12, h.k13, h.k14, h.y6, h.y7, h.y8, h.y9, h.y10, h.y11, h.y12, h.y13, h.y14, h.i0, h.i1, h.i2, h.i3, h.i4⟩

set_option maxRecDepth 100000 in
set_option maxHeartbeats 8000000 in
theorem parts_a (w : World) (T : Tabs w) (S : RS) (r : Ru) (start d : Int) (h : RuIn w S r) (hx1 : fewB S = false) :
    Calls Tryz.prog 5 #[S.val r, .int .i64 start, .int .i64 d] w fun e w' => e = .returned (.bool true) ∧ Below w.heap.size w w' := by
  have TT := Lib.hid T
  have HK := Lib.hid h
  have X1 := Lib.hid hx1
  clear h T hx1
  obtain ⟨ra6, rn6, rc6, ra7, rn7, rc7, ra8, rn8, rc8, ra9, rn9, rc9, ra10, rn10, rc10, ra11, rn11, rc11, ra12, rn12, rc12, ra13, rn13, rc13, ra14, rn14, rc14⟩ := S
  obtain ⟨rfreq, ritv, rcnt, rtil, rwkst, rends, rmon, rweek, ryday, rmday, rday, rhour, rminu, rsec, rpos⟩ := r
  show Calls Tryz.prog 5 #[.agg #[.int .i64 rfreq, .int .i64 ritv, .int .i64 rcnt, .int .i64 rtil, .int .i64 rwkst, .bool rends, .slice ra6 rn6 rc6, .slice ra7 rn7 rc7, .slice ra8 rn8 rc8, .slice ra9 rn9 rc9, .slice ra10 rn10 rc10, .slice ra11 rn11 rc11, .slice ra12 rn12 rc12, .slice ra13 rn13 rc13, .slice ra14 rn14 rc14], .int .i64 start, .int .i64 d] w _
  go_enter Tryz.func5, Tryz.ntmps5
  go_upto_region 1 with fail
  have B0 := alloc_below w (.cells #[.int .i64 rfreq, .int .i64 ritv, .int .i64 rcnt, .int .i64 rtil, .int .i64 rwkst, .bool rends, .slice ra6 rn6 rc6, .slice ra7 rn7 rc7, .slice ra8 rn8 rc8, .slice ra9 rn9 rc9, .slice ra10 rn10 rc10, .slice ra11 rn11 rc11, .slice ra12 rn12 rc12, .slice ra13 rn13 rc13, .slice ra14 rn14 rc14] 25)
  have Xr0 := Box.new w #[.int .i64 rfreq, .int .i64 ritv, .int .i64 rcnt, .int .i64 rtil, .int .i64 rwkst, .bool rends, .slice ra6 rn6 rc6, .slice ra7 rn7 rc7, .slice ra8 rn8 rc8, .slice ra9 rn9 rc9, .slice ra10 rn10 rc10, .slice ra11 rn11 rc11, .slice ra12 rn12 rc12, .slice ra13 rn13 rc13, .slice ra14 rn14 rc14] 25
  generalize w.alloc (.cells #[.int .i64 rfreq, .int .i64 ritv, .int .i64 rcnt, .int .i64 rtil, .int .i64 rwkst, .bool rends, .slice ra6 rn6 rc6, .slice ra7 rn7 rc7, .slice ra8 rn8 rc8, .slice ra9 rn9 rc9, .slice ra10 rn10 rc10, .slice ra11 rn11 rc11, .slice ra12 rn12 rc12, .slice ra13 rn13 rc13, .slice ra14 rn14 rc14] 25) = w0 at *
  go_wp2_with fail
  refine (first_is _ (TT.out.on B0)).mono ?_
  rintro e w1 ⟨rfl, b1⟩
  have B1 := B0.trans (b1.mono B0.size)
  have Xr1 := Xr0.below b1
  clear B0 Xr0
  clear b1
  have rz0 : w1.cell? ⟨w.heap.size, 0, none⟩ = some (.int .i64 rfreq) := Xr1.at_ 0 _ rfl
  have rz1 : w1.cell? ⟨w.heap.size, 1, none⟩ = some (.int .i64 ritv) := Xr1.at_ 1 _ rfl
  have rz2 : w1.cell? ⟨w.heap.size, 2, none⟩ = some (.int .i64 rcnt) := Xr1.at_ 2 _ rfl
  have rz3 : w1.cell? ⟨w.heap.size, 3, none⟩ = some (.int .i64 rtil) := Xr1.at_ 3 _ rfl
  have rz4 : w1.cell? ⟨w.heap.size, 4, none⟩ = some (.int .i64 rwkst) := Xr1.at_ 4 _ rfl
  have rz5 : w1.cell? ⟨w.heap.size, 5, none⟩ = some (.bool rends) := Xr1.at_ 5 _ rfl
  have rz6 : w1.cell? ⟨w.heap.size, 6, none⟩ = some (.slice ra6 rn6 rc6) := Xr1.at_ 6 _ rfl
  have rz7 : w1.cell? ⟨w.heap.size, 7, none⟩ = some (.slice ra7 rn7 rc7) := Xr1.at_ 7 _ rfl
  have rz8 : w1.cell? ⟨w.heap.size, 8, none⟩ = some (.slice ra8 rn8 rc8) := Xr1.at_ 8 _ rfl
  have rz9 : w1.cell? ⟨w.heap.size, 9, none⟩ = some (.slice ra9 rn9 rc9) := Xr1.at_ 9 _ rfl
  have rz10 : w1.cell? ⟨w.heap.size, 10, none⟩ = some (.slice ra10 rn10 rc10) := Xr1.at_ 10 _ rfl
  have rz11 : w1.cell? ⟨w.heap.size, 11, none⟩ = some (.slice ra11 rn11 rc11) := Xr1.at_ 11 _ rfl
  have rz12 : w1.cell? ⟨w.heap.size, 12, none⟩ = some (.slice ra12 rn12 rc12) := Xr1.at_ 12 _ rfl
  have rz13 : w1.cell? ⟨w.heap.size, 13, none⟩ = some (.slice ra13 rn13 rc13) := Xr1.at_ 13 _ rfl
  have rz14 : w1.cell? ⟨w.heap.size, 14, none⟩ = some (.slice ra14 rn14 rc14) := Xr1.at_ 14 _ rfl
  go_wp2_with fail
  refine (few_is _ ⟨ra6, rn6, rc6, ra7, rn7, rc7, ra8, rn8, rc8, ra9, rn9, rc9, ra10, rn10, rc10, ra11, rn11, rc11, ra12, rn12, rc12, ra13, rn13, rc13, ra14, rn14, rc14⟩ ⟨rfreq, ritv, rcnt, rtil, rwkst, rends, rmon, rweek, ryday, rmday, rday, rhour, rminu, rsec, rpos⟩ false HK.out.k6 HK.out.k7 HK.out.k8 HK.out.k9 HK.out.k10 HK.out.k11 HK.out.k12 HK.out.k13 HK.out.k14 X1.out).mono ?_
  rintro e w2 ⟨rfl, b2⟩
  clear rz0 rz1 rz2 rz3 rz4 rz5 rz6 rz7 rz8 rz9 rz10 rz11 rz12 rz13 rz14
  have B2 := B1.trans (b2.mono B1.size)
  have Xr2 := Xr1.below b2
  clear B1 Xr1
  clear b2
  go_wp2_with fail
  refine (first_is _ (TT.out.on B2)).mono ?_
  rintro e w3 ⟨rfl, b3⟩
  have B3 := B2.trans (b3.mono B2.size)
  have Xr3 := Xr2.below b3
  clear B2 Xr2
  clear b3
  go_wp2
  go_ret
  exact ⟨rfl, B3⟩
set_option maxRecDepth 100000 in
set_option maxHeartbeats 8000000 in
theorem parts_b (w : World) (T : Tabs w) (S : RS) (r : Ru) (start d : Int) (h : RuIn w S r) (hx1 : fewB S = true) (hm : mayR r = false) :
    Calls Tryz.prog 5 #[S.val r, .int .i64 start, .int .i64 d] w fun e w' => e = .returned (.bool true) ∧ Below w.heap.size w w' := by
  have TT := Lib.hid T
  have HK := Lib.hid h
  have X1 := Lib.hid hx1
  have RA0 := Lib.hid (h.few hx1)
  have HM := Lib.hid hm
  clear hm
  clear h T hx1
  obtain ⟨ra6, rn6, rc6, ra7, rn7, rc7, ra8, rn8, rc8, ra9, rn9, rc9, ra10, rn10, rc10, ra11, rn11, rc11, ra12, rn12, rc12, ra13, rn13, rc13, ra14, rn14, rc14⟩ := S
  obtain ⟨rfreq, ritv, rcnt, rtil, rwkst, rends, rmon, rweek, ryday, rmday, rday, rhour, rminu, rsec, rpos⟩ := r
  show Calls Tryz.prog 5 #[.agg #[.int .i64 rfreq, .int .i64 ritv, .int .i64 rcnt, .int .i64 rtil, .int .i64 rwkst, .bool rends, .slice ra6 rn6 rc6, .slice ra7 rn7 rc7, .slice ra8 rn8 rc8, .slice ra9 rn9 rc9, .slice ra10 rn10 rc10, .slice ra11 rn11 rc11, .slice ra12 rn12 rc12, .slice ra13 rn13 rc13, .slice ra14 rn14 rc14], .int .i64 start, .int .i64 d] w _
  go_enter Tryz.func5, Tryz.ntmps5
  go_upto_region 1 with fail
  have B0 := alloc_below w (.cells #[.int .i64 rfreq, .int .i64 ritv, .int .i64 rcnt, .int .i64 rtil, .int .i64 rwkst, .bool rends, .slice ra6 rn6 rc6, .slice ra7 rn7 rc7, .slice ra8 rn8 rc8, .slice ra9 rn9 rc9, .slice ra10 rn10 rc10, .slice ra11 rn11 rc11, .slice ra12 rn12 rc12, .slice ra13 rn13 rc13, .slice ra14 rn14 rc14] 25)
  have Xr0 := Box.new w #[.int .i64 rfreq, .int .i64 ritv, .int .i64 rcnt, .int .i64 rtil, .int .i64 rwkst, .bool rends, .slice ra6 rn6 rc6, .slice ra7 rn7 rc7, .slice ra8 rn8 rc8, .slice ra9 rn9 rc9, .slice ra10 rn10 rc10, .slice ra11 rn11 rc11, .slice ra12 rn12 rc12, .slice ra13 rn13 rc13, .slice ra14 rn14 rc14] 25
  generalize w.alloc (.cells #[.int .i64 rfreq, .int .i64 ritv, .int .i64 rcnt, .int .i64 rtil, .int .i64 rwkst, .bool rends, .slice ra6 rn6 rc6, .slice ra7 rn7 rc7, .slice ra8 rn8 rc8, .slice ra9 rn9 rc9, .slice ra10 rn10 rc10, .slice ra11 rn11 rc11, .slice ra12 rn12 rc12, .slice ra13 rn13 rc13, .slice ra14 rn14 rc14] 25) = w0 at *
  go_wp2_with fail
  refine (first_is _ (TT.out.on B0)).mono ?_
  rintro e w1 ⟨rfl, b1⟩
  have B1 := B0.trans (b1.mono B0.size)
  have Xr1 := Xr0.below b1
  clear B0 Xr0
  clear b1
  have Rr1 := RA0.out.below B1
  clear RA0
  have rz0 : w1.cell? ⟨w.heap.size, 0, none⟩ = some (.int .i64 rfreq) := Xr1.at_ 0 _ rfl
  have rz1 : w1.cell? ⟨w.heap.size, 1, none⟩ = some (.int .i64 ritv) := Xr1.at_ 1 _ rfl
  have rz2 : w1.cell? ⟨w.heap.size, 2, none⟩ = some (.int .i64 rcnt) := Xr1.at_ 2 _ rfl
  have rz3 : w1.cell? ⟨w.heap.size, 3, none⟩ = some (.int .i64 rtil) := Xr1.at_ 3 _ rfl
  have rz4 : w1.cell? ⟨w.heap.size, 4, none⟩ = some (.int .i64 rwkst) := Xr1.at_ 4 _ rfl
  have rz5 : w1.cell? ⟨w.heap.size, 5, none⟩ = some (.bool rends) := Xr1.at_ 5 _ rfl
  have rz6 : w1.cell? ⟨w.heap.size, 6, none⟩ = some (.slice ra6 rn6 rc6) := Xr1.at_ 6 _ rfl
  have rz7 : w1.cell? ⟨w.heap.size, 7, none⟩ = some (.slice ra7 rn7 rc7) := Xr1.at_ 7 _ rfl
  have rz8 : w1.cell? ⟨w.heap.size, 8, none⟩ = some (.slice ra8 rn8 rc8) := Xr1.at_ 8 _ rfl
  have rz9 : w1.cell? ⟨w.heap.size, 9, none⟩ = some (.slice ra9 rn9 rc9) := Xr1.at_ 9 _ rfl
  have rz10 : w1.cell? ⟨w.heap.size, 10, none⟩ = some (.slice ra10 rn10 rc10) := Xr1.at_ 10 _ rfl
  have rz11 : w1.cell? ⟨w.heap.size, 11, none⟩ = some (.slice ra11 rn11 rc11) := Xr1.at_ 11 _ rfl
  have rz12 : w1.cell? ⟨w.heap.size, 12, none⟩ = some (.slice ra12 rn12 rc12) := Xr1.at_ 12 _ rfl
  have rz13 : w1.cell? ⟨w.heap.size, 13, none⟩ = some (.slice ra13 rn13 rc13) := Xr1.at_ 13 _ rfl
  have rz14 : w1.cell? ⟨w.heap.size, 14, none⟩ = some (.slice ra14 rn14 rc14) := Xr1.at_ 14 _ rfl
  go_wp2_with fail
  refine (few_is _ ⟨ra6, rn6, rc6, ra7, rn7, rc7, ra8, rn8, rc8, ra9, rn9, rc9, ra10, rn10, rc10, ra11, rn11, rc11, ra12, rn12, rc12, ra13, rn13, rc13, ra14, rn14, rc14⟩ ⟨rfreq, ritv, rcnt, rtil, rwkst, rends, rmon, rweek, ryday, rmday, rday, rhour, rminu, rsec, rpos⟩ true HK.out.k6 HK.out.k7 HK.out.k8 HK.out.k9 HK.out.k10 HK.out.k11 HK.out.k12 HK.out.k13 HK.out.k14 X1.out).mono ?_
  rintro e w2 ⟨rfl, b2⟩
  clear rz0 rz1 rz2 rz3 rz4 rz5 rz6 rz7 rz8 rz9 rz10 rz11 rz12 rz13 rz14
  have B2 := B1.trans (b2.mono B1.size)
  have Xr2 := Xr1.below b2
  have Rr2 := Rr1.below b2
  clear B1 Xr1 Rr1
  clear b2
  have rz0 : w2.cell? ⟨w.heap.size, 0, none⟩ = some (.int .i64 rfreq) := Xr2.at_ 0 _ rfl
  have rz1 : w2.cell? ⟨w.heap.size, 1, none⟩ = some (.int .i64 ritv) := Xr2.at_ 1 _ rfl
  have rz2 : w2.cell? ⟨w.heap.size, 2, none⟩ = some (.int .i64 rcnt) := Xr2.at_ 2 _ rfl
  have rz3 : w2.cell? ⟨w.heap.size, 3, none⟩ = some (.int .i64 rtil) := Xr2.at_ 3 _ rfl
  have rz4 : w2.cell? ⟨w.heap.size, 4, none⟩ = some (.int .i64 rwkst) := Xr2.at_ 4 _ rfl
  have rz5 : w2.cell? ⟨w.heap.size, 5, none⟩ = some (.bool rends) := Xr2.at_ 5 _ rfl
  have rz6 : w2.cell? ⟨w.heap.size, 6, none⟩ = some (.slice ra6 rn6 rc6) := Xr2.at_ 6 _ rfl
  have rz7 : w2.cell? ⟨w.heap.size, 7, none⟩ = some (.slice ra7 rn7 rc7) := Xr2.at_ 7 _ rfl
  have rz8 : w2.cell? ⟨w.heap.size, 8, none⟩ = some (.slice ra8 rn8 rc8) := Xr2.at_ 8 _ rfl
  have rz9 : w2.cell? ⟨w.heap.size, 9, none⟩ = some (.slice ra9 rn9 rc9) := Xr2.at_ 9 _ rfl
  have rz10 : w2.cell? ⟨w.heap.size, 10, none⟩ = some (.slice ra10 rn10 rc10) := Xr2.at_ 10 _ rfl
  have rz11 : w2.cell? ⟨w.heap.size, 11, none⟩ = some (.slice ra11 rn11 rc11) := Xr2.at_ 11 _ rfl
  have rz12 : w2.cell? ⟨w.heap.size, 12, none⟩ = some (.slice ra12 rn12 rc12) := Xr2.at_ 12 _ rfl
  have rz13 : w2.cell? ⟨w.heap.size, 13, none⟩ = some (.slice ra13 rn13 rc13) := Xr2.at_ 13 _ rfl
  have rz14 : w2.cell? ⟨w.heap.size, 14, none⟩ = some (.slice ra14 rn14 rc14) := Xr2.at_ 14 _ rfl
  go_wp2_with fail
  refine (may_r _ ⟨ra6, rn6, rc6, ra7, rn7, rc7, ra8, rn8, rc8, ra9, rn9, rc9, ra10, rn10, rc10, ra11, rn11, rc11, ra12, rn12, rc12, ra13, rn13, rc13, ra14, rn14, rc14⟩ ⟨rfreq, ritv, rcnt, rtil, rwkst, rends, rmon, rweek, ryday, rmday, rday, rhour, rminu, rsec, rpos⟩ false Rr2 HM.out).mono ?_
  rintro e w3 ⟨rfl, b3⟩
  clear rz0 rz1 rz2 rz3 rz4 rz5 rz6 rz7 rz8 rz9 rz10 rz11 rz12 rz13 rz14
  have B3 := B2.trans (b3.mono B2.size)
  have Xr3 := Xr2.below b3
  have Rr3 := Rr2.below b3
  clear B2 Xr2 Rr2
  clear b3
  go_wp2_with fail
  refine (first_is _ (TT.out.on B3)).mono ?_
  rintro e w4 ⟨rfl, b4⟩
  have B4 := B3.trans (b4.mono B3.size)
  have Xr4 := Xr3.below b4
  have Rr4 := Rr3.below b4
  clear B3 Xr3 Rr3
  clear b4
  go_wp2
  go_ret
  exact ⟨rfl, B4⟩
set_option maxRecDepth 100000 in
set_option maxHeartbeats 8000000 in
theorem parts_c (w : World) (T : Tabs w) (S : RS) (r : Ru) (start d : Int) (h : RuIn w S r) (hx1 : fewB S = true) (hm : mayR r = true) (hx : fitsB r start d = false) :
    Calls Tryz.prog 5 #[S.val r, .int .i64 start, .int .i64 d] w fun e w' => e = .returned (.bool true) ∧ Below w.heap.size w w' := by
  have TT := Lib.hid T
  have HK := Lib.hid h
  have X1 := Lib.hid hx1
  have RA0 := Lib.hid (h.few hx1)
  have HM := Lib.hid hm
  have HX := Lib.hid hx
  have PM := Lib.hid (fun (hf : r.freq ≠ 1) (hl : 0 < r.day.length + r.yday.length + r.mday.length) (hq : mayR { r with mon := [] } = true) => parts_month (start := start) (day := d) hf hl hq)
  have PD := Lib.hid (fun (hl : 0 < r.day.length) (hq : mayR { r with mday := [], yday := [] } = true) => parts_day (start := start) (day := d) hl hq)
  have EM := Lib.hid h.h6.1
  have E8 := Lib.hid h.h8.1
  have E9 := Lib.hid h.h9.1
  have E10 := Lib.hid h.h10.1
  have kk := (h.few hx1)
  have k6 := kk.l6; have k8 := kk.l8; have k9 := kk.l9; have k10 := kk.l10
  clear kk
  clear hm hx
  clear h T hx1
  obtain ⟨ra6, rn6, rc6, ra7, rn7, rc7, ra8, rn8, rc8, ra9, rn9, rc9, ra10, rn10, rc10, ra11, rn11, rc11, ra12, rn12, rc12, ra13, rn13, rc13, ra14, rn14, rc14⟩ := S
  obtain ⟨rfreq, ritv, rcnt, rtil, rwkst, rends, rmon, rweek, ryday, rmday, rday, rhour, rminu, rsec, rpos⟩ := r
  show Calls Tryz.prog 5 #[.agg #[.int .i64 rfreq, .int .i64 ritv, .int .i64 rcnt, .int .i64 rtil, .int .i64 rwkst, .bool rends, .slice ra6 rn6 rc6, .slice ra7 rn7 rc7, .slice ra8 rn8 rc8, .slice ra9 rn9 rc9, .slice ra10 rn10 rc10, .slice ra11 rn11 rc11, .slice ra12 rn12 rc12, .slice ra13 rn13 rc13, .slice ra14 rn14 rc14], .int .i64 start, .int .i64 d] w _
  go_enter Tryz.func5, Tryz.ntmps5
  go_upto_region 1 with fail
  have B0 := alloc_below w (.cells #[.int .i64 rfreq, .int .i64 ritv, .int .i64 rcnt, .int .i64 rtil, .int .i64 rwkst, .bool rends, .slice ra6 rn6 rc6, .slice ra7 rn7 rc7, .slice ra8 rn8 rc8, .slice ra9 rn9 rc9, .slice ra10 rn10 rc10, .slice ra11 rn11 rc11, .slice ra12 rn12 rc12, .slice ra13 rn13 rc13, .slice ra14 rn14 rc14] 25)
  have Xr0 := Box.new w #[.int .i64 rfreq, .int .i64 ritv, .int .i64 rcnt, .int .i64 rtil, .int .i64 rwkst, .bool rends, .slice ra6 rn6 rc6, .slice ra7 rn7 rc7, .slice ra8 rn8 rc8, .slice ra9 rn9 rc9, .slice ra10 rn10 rc10, .slice ra11 rn11 rc11, .slice ra12 rn12 rc12, .slice ra13 rn13 rc13, .slice ra14 rn14 rc14] 25
  generalize w.alloc (.cells #[.int .i64 rfreq, .int .i64 ritv, .int .i64 rcnt, .int .i64 rtil, .int .i64 rwkst, .bool rends, .slice ra6 rn6 rc6, .slice ra7 rn7 rc7, .slice ra8 rn8 rc8, .slice ra9 rn9 rc9, .slice ra10 rn10 rc10, .slice ra11 rn11 rc11, .slice ra12 rn12 rc12, .slice ra13 rn13 rc13, .slice ra14 rn14 rc14] 25) = w0 at *
  go_wp2_with fail
  refine (first_is _ (TT.out.on B0)).mono ?_
  rintro e w1 ⟨rfl, b1⟩
  have B1 := B0.trans (b1.mono B0.size)
  have Xr1 := Xr0.below b1
  clear B0 Xr0
  clear b1
  have Rr1 := RA0.out.below B1
  clear RA0
  have rz0 : w1.cell? ⟨w.heap.size, 0, none⟩ = some (.int .i64 rfreq) := Xr1.at_ 0 _ rfl
  have rz1 : w1.cell? ⟨w.heap.size, 1, none⟩ = some (.int .i64 ritv) := Xr1.at_ 1 _ rfl
  have rz2 : w1.cell? ⟨w.heap.size, 2, none⟩ = some (.int .i64 rcnt) := Xr1.at_ 2 _ rfl
  have rz3 : w1.cell? ⟨w.heap.size, 3, none⟩ = some (.int .i64 rtil) := Xr1.at_ 3 _ rfl
  have rz4 : w1.cell? ⟨w.heap.size, 4, none⟩ = some (.int .i64 rwkst) := Xr1.at_ 4 _ rfl
  have rz5 : w1.cell? ⟨w.heap.size, 5, none⟩ = some (.bool rends) := Xr1.at_ 5 _ rfl
  have rz6 : w1.cell? ⟨w.heap.size, 6, none⟩ = some (.slice ra6 rn6 rc6) := Xr1.at_ 6 _ rfl
  have rz7 : w1.cell? ⟨w.heap.size, 7, none⟩ = some (.slice ra7 rn7 rc7) := Xr1.at_ 7 _ rfl
  have rz8 : w1.cell? ⟨w.heap.size, 8, none⟩ = some (.slice ra8 rn8 rc8) := Xr1.at_ 8 _ rfl
  have rz9 : w1.cell? ⟨w.heap.size, 9, none⟩ = some (.slice ra9 rn9 rc9) := Xr1.at_ 9 _ rfl
  have rz10 : w1.cell? ⟨w.heap.size, 10, none⟩ = some (.slice ra10 rn10 rc10) := Xr1.at_ 10 _ rfl
  have rz11 : w1.cell? ⟨w.heap.size, 11, none⟩ = some (.slice ra11 rn11 rc11) := Xr1.at_ 11 _ rfl
  have rz12 : w1.cell? ⟨w.heap.size, 12, none⟩ = some (.slice ra12 rn12 rc12) := Xr1.at_ 12 _ rfl
  have rz13 : w1.cell? ⟨w.heap.size, 13, none⟩ = some (.slice ra13 rn13 rc13) := Xr1.at_ 13 _ rfl
  have rz14 : w1.cell? ⟨w.heap.size, 14, none⟩ = some (.slice ra14 rn14 rc14) := Xr1.at_ 14 _ rfl
  go_wp2_with fail
  refine (few_is _ ⟨ra6, rn6, rc6, ra7, rn7, rc7, ra8, rn8, rc8, ra9, rn9, rc9, ra10, rn10, rc10, ra11, rn11, rc11, ra12, rn12, rc12, ra13, rn13, rc13, ra14, rn14, rc14⟩ ⟨rfreq, ritv, rcnt, rtil, rwkst, rends, rmon, rweek, ryday, rmday, rday, rhour, rminu, rsec, rpos⟩ true HK.out.k6 HK.out.k7 HK.out.k8 HK.out.k9 HK.out.k10 HK.out.k11 HK.out.k12 HK.out.k13 HK.out.k14 X1.out).mono ?_
  rintro e w2 ⟨rfl, b2⟩
  clear rz0 rz1 rz2 rz3 rz4 rz5 rz6 rz7 rz8 rz9 rz10 rz11 rz12 rz13 rz14
  have B2 := B1.trans (b2.mono B1.size)
  have Xr2 := Xr1.below b2
  have Rr2 := Rr1.below b2
  clear B1 Xr1 Rr1
  clear b2
  replace k6 : rn6 ≤ 140737488355328 := k6
  replace k8 : rn8 ≤ 140737488355328 := k8
  replace k9 : rn9 ≤ 140737488355328 := k9
  replace k10 : rn10 ≤ 140737488355328 := k10
  have rz0 : w2.cell? ⟨w.heap.size, 0, none⟩ = some (.int .i64 rfreq) := Xr2.at_ 0 _ rfl
  have rz1 : w2.cell? ⟨w.heap.size, 1, none⟩ = some (.int .i64 ritv) := Xr2.at_ 1 _ rfl
  have rz2 : w2.cell? ⟨w.heap.size, 2, none⟩ = some (.int .i64 rcnt) := Xr2.at_ 2 _ rfl
  have rz3 : w2.cell? ⟨w.heap.size, 3, none⟩ = some (.int .i64 rtil) := Xr2.at_ 3 _ rfl
  have rz4 : w2.cell? ⟨w.heap.size, 4, none⟩ = some (.int .i64 rwkst) := Xr2.at_ 4 _ rfl
  have rz5 : w2.cell? ⟨w.heap.size, 5, none⟩ = some (.bool rends) := Xr2.at_ 5 _ rfl
  have rz6 : w2.cell? ⟨w.heap.size, 6, none⟩ = some (.slice ra6 rn6 rc6) := Xr2.at_ 6 _ rfl
  have rz7 : w2.cell? ⟨w.heap.size, 7, none⟩ = some (.slice ra7 rn7 rc7) := Xr2.at_ 7 _ rfl
  have rz8 : w2.cell? ⟨w.heap.size, 8, none⟩ = some (.slice ra8 rn8 rc8) := Xr2.at_ 8 _ rfl
  have rz9 : w2.cell? ⟨w.heap.size, 9, none⟩ = some (.slice ra9 rn9 rc9) := Xr2.at_ 9 _ rfl
  have rz10 : w2.cell? ⟨w.heap.size, 10, none⟩ = some (.slice ra10 rn10 rc10) := Xr2.at_ 10 _ rfl
  have rz11 : w2.cell? ⟨w.heap.size, 11, none⟩ = some (.slice ra11 rn11 rc11) := Xr2.at_ 11 _ rfl
  have rz12 : w2.cell? ⟨w.heap.size, 12, none⟩ = some (.slice ra12 rn12 rc12) := Xr2.at_ 12 _ rfl
  have rz13 : w2.cell? ⟨w.heap.size, 13, none⟩ = some (.slice ra13 rn13 rc13) := Xr2.at_ 13 _ rfl
  have rz14 : w2.cell? ⟨w.heap.size, 14, none⟩ = some (.slice ra14 rn14 rc14) := Xr2.at_ 14 _ rfl
  go_wp2_with fail
  refine (may_r _ ⟨ra6, rn6, rc6, ra7, rn7, rc7, ra8, rn8, rc8, ra9, rn9, rc9, ra10, rn10, rc10, ra11, rn11, rc11, ra12, rn12, rc12, ra13, rn13, rc13, ra14, rn14, rc14⟩ ⟨rfreq, ritv, rcnt, rtil, rwkst, rends, rmon, rweek, ryday, rmday, rday, rhour, rminu, rsec, rpos⟩ true Rr2 HM.out).mono ?_
  rintro e w3 ⟨rfl, b3⟩
  clear rz0 rz1 rz2 rz3 rz4 rz5 rz6 rz7 rz8 rz9 rz10 rz11 rz12 rz13 rz14
  have B3 := B2.trans (b3.mono B2.size)
  have Xr3 := Xr2.below b3
  have Rr3 := Rr2.below b3
  clear B2 Xr2 Rr2
  clear b3
  have rz0 : w3.cell? ⟨w.heap.size, 0, none⟩ = some (.int .i64 rfreq) := Xr3.at_ 0 _ rfl
  have rz1 : w3.cell? ⟨w.heap.size, 1, none⟩ = some (.int .i64 ritv) := Xr3.at_ 1 _ rfl
  have rz2 : w3.cell? ⟨w.heap.size, 2, none⟩ = some (.int .i64 rcnt) := Xr3.at_ 2 _ rfl
  have rz3 : w3.cell? ⟨w.heap.size, 3, none⟩ = some (.int .i64 rtil) := Xr3.at_ 3 _ rfl
  have rz4 : w3.cell? ⟨w.heap.size, 4, none⟩ = some (.int .i64 rwkst) := Xr3.at_ 4 _ rfl
  have rz5 : w3.cell? ⟨w.heap.size, 5, none⟩ = some (.bool rends) := Xr3.at_ 5 _ rfl
  have rz6 : w3.cell? ⟨w.heap.size, 6, none⟩ = some (.slice ra6 rn6 rc6) := Xr3.at_ 6 _ rfl
  have rz7 : w3.cell? ⟨w.heap.size, 7, none⟩ = some (.slice ra7 rn7 rc7) := Xr3.at_ 7 _ rfl
  have rz8 : w3.cell? ⟨w.heap.size, 8, none⟩ = some (.slice ra8 rn8 rc8) := Xr3.at_ 8 _ rfl
  have rz9 : w3.cell? ⟨w.heap.size, 9, none⟩ = some (.slice ra9 rn9 rc9) := Xr3.at_ 9 _ rfl
  have rz10 : w3.cell? ⟨w.heap.size, 10, none⟩ = some (.slice ra10 rn10 rc10) := Xr3.at_ 10 _ rfl
  have rz11 : w3.cell? ⟨w.heap.size, 11, none⟩ = some (.slice ra11 rn11 rc11) := Xr3.at_ 11 _ rfl
  have rz12 : w3.cell? ⟨w.heap.size, 12, none⟩ = some (.slice ra12 rn12 rc12) := Xr3.at_ 12 _ rfl
  have rz13 : w3.cell? ⟨w.heap.size, 13, none⟩ = some (.slice ra13 rn13 rc13) := Xr3.at_ 13 _ rfl
  have rz14 : w3.cell? ⟨w.heap.size, 14, none⟩ = some (.slice ra14 rn14 rc14) := Xr3.at_ 14 _ rfl
  go_wp2_with fail
  refine (fits_is _ ⟨ra6, rn6, rc6, ra7, rn7, rc7, ra8, rn8, rc8, ra9, rn9, rc9, ra10, rn10, rc10, ra11, rn11, rc11, ra12, rn12, rc12, ra13, rn13, rc13, ra14, rn14, rc14⟩ ⟨rfreq, ritv, rcnt, rtil, rwkst, rends, rmon, rweek, ryday, rmday, rday, rhour, rminu, rsec, rpos⟩ start d false Rr3 HX.out).mono ?_
  rintro e w4 ⟨rfl, b4⟩
  clear rz0 rz1 rz2 rz3 rz4 rz5 rz6 rz7 rz8 rz9 rz10 rz11 rz12 rz13 rz14
  have B4 := B3.trans (b4.mono B3.size)
  have Xr4 := Xr3.below b4
  have Rr4 := Rr3.below b4
  clear B3 Xr3 Rr3
  clear b4
  as_aux_lemma =>
    have rz0 : w4.cell? ⟨w.heap.size, 0, none⟩ = some (.int .i64 rfreq) := Xr4.at_ 0 _ rfl
    have rz1 : w4.cell? ⟨w.heap.size, 1, none⟩ = some (.int .i64 ritv) := Xr4.at_ 1 _ rfl
    have rz2 : w4.cell? ⟨w.heap.size, 2, none⟩ = some (.int .i64 rcnt) := Xr4.at_ 2 _ rfl
    have rz3 : w4.cell? ⟨w.heap.size, 3, none⟩ = some (.int .i64 rtil) := Xr4.at_ 3 _ rfl
    have rz4 : w4.cell? ⟨w.heap.size, 4, none⟩ = some (.int .i64 rwkst) := Xr4.at_ 4 _ rfl
    have rz5 : w4.cell? ⟨w.heap.size, 5, none⟩ = some (.bool rends) := Xr4.at_ 5 _ rfl
    have rz6 : w4.cell? ⟨w.heap.size, 6, none⟩ = some (.slice ra6 rn6 rc6) := Xr4.at_ 6 _ rfl
    have rz7 : w4.cell? ⟨w.heap.size, 7, none⟩ = some (.slice ra7 rn7 rc7) := Xr4.at_ 7 _ rfl
    have rz8 : w4.cell? ⟨w.heap.size, 8, none⟩ = some (.slice ra8 rn8 rc8) := Xr4.at_ 8 _ rfl
    have rz9 : w4.cell? ⟨w.heap.size, 9, none⟩ = some (.slice ra9 rn9 rc9) := Xr4.at_ 9 _ rfl
    have rz10 : w4.cell? ⟨w.heap.size, 10, none⟩ = some (.slice ra10 rn10 rc10) := Xr4.at_ 10 _ rfl
    have rz11 : w4.cell? ⟨w.heap.size, 11, none⟩ = some (.slice ra11 rn11 rc11) := Xr4.at_ 11 _ rfl
    have rz12 : w4.cell? ⟨w.heap.size, 12, none⟩ = some (.slice ra12 rn12 rc12) := Xr4.at_ 12 _ rfl
    have rz13 : w4.cell? ⟨w.heap.size, 13, none⟩ = some (.slice ra13 rn13 rc13) := Xr4.at_ 13 _ rfl
    have rz14 : w4.cell? ⟨w.heap.size, 14, none⟩ = some (.slice ra14 rn14 rc14) := Xr4.at_ 14 _ rfl
    go_wp2_with fail
    refine (copyR_is _ ⟨ra6, rn6, rc6, ra7, rn7, rc7, ra8, rn8, rc8, ra9, rn9, rc9, ra10, rn10, rc10, ra11, rn11, rc11, ra12, rn12, rc12, ra13, rn13, rc13, ra14, rn14, rc14⟩ ⟨rfreq, ritv, rcnt, rtil, rwkst, rends, rmon, rweek, ryday, rmday, rday, rhour, rminu, rsec, rpos⟩ (in_below HK.out B4) X1.out).mono ?_
    rintro e w5 ⟨⟨qa6, qn6, qc6, qa7, qn7, qc7, qa8, qn8, qc8, qa9, qn9, qc9, qa10, qn10, qc10, qa11, qn11, qc11, qa12, qn12, qc12, qa13, qn13, qc13, qa14, qn14, qc14⟩, he, hS, b5⟩
    replace he : e = .returned (.agg #[.int .i64 rfreq, .int .i64 ritv, .int .i64 rcnt, .int .i64 rtil, .int .i64 rwkst, .bool rends, .slice qa6 qn6 qc6, .slice qa7 qn7 qc7, .slice qa8 qn8 qc8, .slice qa9 qn9 qc9, .slice qa10 qn10 qc10, .slice qa11 qn11 qc11, .slice qa12 qn12 qc12, .slice qa13 qn13 qc13, .slice qa14 qn14 qc14]) := he
    subst he
    clear rz0 rz1 rz2 rz3 rz4 rz5 rz6 rz7 rz8 rz9 rz10 rz11 rz12 rz13 rz14
    have B5 := B4.trans (b5.mono B4.size)
    have Xr5 := Xr4.below b5
    have Rr5 := Rr4.below b5
    clear B4 Xr4 Rr4
    clear b5
    have hQ : RuAt w5 ⟨none, 0, 0, qa7, qn7, qc7, qa8, qn8, qc8, qa9, qn9, qc9, qa10, qn10, qc10, qa11, qn11, qc11, qa12, qn12, qc12, qa13, qn13, qc13, qa14, qn14, qc14⟩ ⟨rfreq, ritv, rcnt, rtil, rwkst, rends, [], rweek, ryday, rmday, rday, rhour, rminu, rsec, rpos⟩ := ⟨⟨rfl, fun z => absurd z (Nat.lt_irrefl 0)⟩, hS.h7, hS.h8, hS.h9, hS.h10, hS.h11, hS.h12, hS.h13, hS.h14, Nat.zero_le _, hS.l7, hS.l8, hS.l9, hS.l10, hS.l11, hS.l12, hS.l13, hS.l14⟩
    clear hS
    go_upto_region 8 with fail
    have b6 := alloc_below w5 (.cells #[.int .i64 rfreq, .int .i64 ritv, .int .i64 rcnt, .int .i64 rtil, .int .i64 rwkst, .bool rends, .slice none 0 0, .slice qa7 qn7 qc7, .slice qa8 qn8 qc8, .slice qa9 qn9 qc9, .slice qa10 qn10 qc10, .slice qa11 qn11 qc11, .slice qa12 qn12 qc12, .slice qa13 qn13 qc13, .slice qa14 qn14 qc14] 25)
    have Xq6 := Box.new w5 #[.int .i64 rfreq, .int .i64 ritv, .int .i64 rcnt, .int .i64 rtil, .int .i64 rwkst, .bool rends, .slice none 0 0, .slice qa7 qn7 qc7, .slice qa8 qn8 qc8, .slice qa9 qn9 qc9, .slice qa10 qn10 qc10, .slice qa11 qn11 qc11, .slice qa12 qn12 qc12, .slice qa13 qn13 qc13, .slice qa14 qn14 qc14] 25
    have Rq6 := hQ.below b6
    clear hQ
    generalize w5.alloc (.cells #[.int .i64 rfreq, .int .i64 ritv, .int .i64 rcnt, .int .i64 rtil, .int .i64 rwkst, .bool rends, .slice none 0 0, .slice qa7 qn7 qc7, .slice qa8 qn8 qc8, .slice qa9 qn9 qc9, .slice qa10 qn10 qc10, .slice qa11 qn11 qc11, .slice qa12 qn12 qc12, .slice qa13 qn13 qc13, .slice qa14 qn14 qc14] 25) = w6 at *
    have B6 := B5.trans (b6.mono B5.size)
    have Xr6 := Xr5.below b6
    have Rr6 := Rr5.below b6
    clear B5 Xr5 Rr5
    clear b6
    as_aux_lemma =>
      have rz0 : w6.cell? ⟨w.heap.size, 0, none⟩ = some (.int .i64 rfreq) := Xr6.at_ 0 _ rfl
      have rz1 : w6.cell? ⟨w.heap.size, 1, none⟩ = some (.int .i64 ritv) := Xr6.at_ 1 _ rfl
      have rz2 : w6.cell? ⟨w.heap.size, 2, none⟩ = some (.int .i64 rcnt) := Xr6.at_ 2 _ rfl
      have rz3 : w6.cell? ⟨w.heap.size, 3, none⟩ = some (.int .i64 rtil) := Xr6.at_ 3 _ rfl
      have rz4 : w6.cell? ⟨w.heap.size, 4, none⟩ = some (.int .i64 rwkst) := Xr6.at_ 4 _ rfl
      have rz5 : w6.cell? ⟨w.heap.size, 5, none⟩ = some (.bool rends) := Xr6.at_ 5 _ rfl
      have rz6 : w6.cell? ⟨w.heap.size, 6, none⟩ = some (.slice ra6 rn6 rc6) := Xr6.at_ 6 _ rfl
      have rz7 : w6.cell? ⟨w.heap.size, 7, none⟩ = some (.slice ra7 rn7 rc7) := Xr6.at_ 7 _ rfl
      have rz8 : w6.cell? ⟨w.heap.size, 8, none⟩ = some (.slice ra8 rn8 rc8) := Xr6.at_ 8 _ rfl
      have rz9 : w6.cell? ⟨w.heap.size, 9, none⟩ = some (.slice ra9 rn9 rc9) := Xr6.at_ 9 _ rfl
      have rz10 : w6.cell? ⟨w.heap.size, 10, none⟩ = some (.slice ra10 rn10 rc10) := Xr6.at_ 10 _ rfl
      have rz11 : w6.cell? ⟨w.heap.size, 11, none⟩ = some (.slice ra11 rn11 rc11) := Xr6.at_ 11 _ rfl
      have rz12 : w6.cell? ⟨w.heap.size, 12, none⟩ = some (.slice ra12 rn12 rc12) := Xr6.at_ 12 _ rfl
      have rz13 : w6.cell? ⟨w.heap.size, 13, none⟩ = some (.slice ra13 rn13 rc13) := Xr6.at_ 13 _ rfl
      have rz14 : w6.cell? ⟨w.heap.size, 14, none⟩ = some (.slice ra14 rn14 rc14) := Xr6.at_ 14 _ rfl
      go_wp2_with fail
      refine (copyR_is _ ⟨ra6, rn6, rc6, ra7, rn7, rc7, ra8, rn8, rc8, ra9, rn9, rc9, ra10, rn10, rc10, ra11, rn11, rc11, ra12, rn12, rc12, ra13, rn13, rc13, ra14, rn14, rc14⟩ ⟨rfreq, ritv, rcnt, rtil, rwkst, rends, rmon, rweek, ryday, rmday, rday, rhour, rminu, rsec, rpos⟩ (in_below HK.out B6) X1.out).mono ?_
      rintro e w7 ⟨⟨pa6, pn6, pc6, pa7, pn7, pc7, pa8, pn8, pc8, pa9, pn9, pc9, pa10, pn10, pc10, pa11, pn11, pc11, pa12, pn12, pc12, pa13, pn13, pc13, pa14, pn14, pc14⟩, he, hS, b7⟩
      replace he : e = .returned (.agg #[.int .i64 rfreq, .int .i64 ritv, .int .i64 rcnt, .int .i64 rtil, .int .i64 rwkst, .bool rends, .slice pa6 pn6 pc6, .slice pa7 pn7 pc7, .slice pa8 pn8 pc8, .slice pa9 pn9 pc9, .slice pa10 pn10 pc10, .slice pa11 pn11 pc11, .slice pa12 pn12 pc12, .slice pa13 pn13 pc13, .slice pa14 pn14 pc14]) := he
      subst he
      clear rz0 rz1 rz2 rz3 rz4 rz5 rz6 rz7 rz8 rz9 rz10 rz11 rz12 rz13 rz14
      have B7 := B6.trans (b7.mono B6.size)
      have Xr7 := Xr6.below b7
      have Xq7 := Xq6.below b7
      have Rr7 := Rr6.below b7
      have Rq7 := Rq6.below b7
      clear B6 Xr6 Xq6 Rr6 Rq6
      clear b7
      have hQ : RuAt w7 ⟨pa6, pn6, pc6, pa7, pn7, pc7, none, 0, 0, none, 0, 0, pa10, pn10, pc10, pa11, pn11, pc11, pa12, pn12, pc12, pa13, pn13, pc13, pa14, pn14, pc14⟩ ⟨rfreq, ritv, rcnt, rtil, rwkst, rends, rmon, rweek, [], [], rday, rhour, rminu, rsec, rpos⟩ := ⟨hS.h6, hS.h7, ⟨rfl, fun z => absurd z (Nat.lt_irrefl 0)⟩, ⟨rfl, fun z => absurd z (Nat.lt_irrefl 0)⟩, hS.h10, hS.h11, hS.h12, hS.h13, hS.h14, hS.l6, hS.l7, Nat.zero_le _, Nat.zero_le _, hS.l10, hS.l11, hS.l12, hS.l13, hS.l14⟩
      clear hS
      go_upto_region 10 with fail
      have b8 := alloc_below w7 (.cells #[.int .i64 rfreq, .int .i64 ritv, .int .i64 rcnt, .int .i64 rtil, .int .i64 rwkst, .bool rends, .slice pa6 pn6 pc6, .slice pa7 pn7 pc7, .slice none 0 0, .slice none 0 0, .slice pa10 pn10 pc10, .slice pa11 pn11 pc11, .slice pa12 pn12 pc12, .slice pa13 pn13 pc13, .slice pa14 pn14 pc14] 25)
      have Xp8 := Box.new w7 #[.int .i64 rfreq, .int .i64 ritv, .int .i64 rcnt, .int .i64 rtil, .int .i64 rwkst, .bool rends, .slice pa6 pn6 pc6, .slice pa7 pn7 pc7, .slice none 0 0, .slice none 0 0, .slice pa10 pn10 pc10, .slice pa11 pn11 pc11, .slice pa12 pn12 pc12, .slice pa13 pn13 pc13, .slice pa14 pn14 pc14] 25
      have Rp8 := hQ.below b8
      clear hQ
      generalize w7.alloc (.cells #[.int .i64 rfreq, .int .i64 ritv, .int .i64 rcnt, .int .i64 rtil, .int .i64 rwkst, .bool rends, .slice pa6 pn6 pc6, .slice pa7 pn7 pc7, .slice none 0 0, .slice none 0 0, .slice pa10 pn10 pc10, .slice pa11 pn11 pc11, .slice pa12 pn12 pc12, .slice pa13 pn13 pc13, .slice pa14 pn14 pc14] 25) = w8 at *
      have B8 := B7.trans (b8.mono B7.size)
      have Xr8 := Xr7.below b8
      have Xq8 := Xq7.below b8
      have Rr8 := Rr7.below b8
      have Rq8 := Rq7.below b8
      clear B7 Xr7 Xq7 Rr7 Rq7
      clear b8
      as_aux_lemma =>
        go_cut [66] (fun s wx => s = .bool false ∧ Below w8.heap.size w8 wx)
        case first =>
          have rz0 : w8.cell? ⟨w.heap.size, 0, none⟩ = some (.int .i64 rfreq) := Xr8.at_ 0 _ rfl
          have rz8 : w8.cell? ⟨w.heap.size, 8, none⟩ = some (.slice ra8 rn8 rc8) := Xr8.at_ 8 _ rfl
          have rz9 : w8.cell? ⟨w.heap.size, 9, none⟩ = some (.slice ra9 rn9 rc9) := Xr8.at_ 9 _ rfl
          have rz10 : w8.cell? ⟨w.heap.size, 10, none⟩ = some (.slice ra10 rn10 rc10) := Xr8.at_ 10 _ rfl
          by_cases c1 : 0 < rn10 + rn8 + rn9
          · have t1 : decide ((0 : Int) < (rn10 : Int) + (rn8 : Int) + (rn9 : Int)) = true := decide_eq_true (by omega)
            by_cases c2 : rfreq = 1
            · have C2 := Lib.hid c2
              clear c2
              have t2 : ((rfreq : Int) != 1) = false := by rw [bne_eq_false_iff_eq]; exact C2.out
              go_wp2
              go_meet
              exact ⟨rfl, Below.refl _ _⟩
            · have t2 : ((rfreq : Int) != 1) = true := by rw [bne_iff_ne]; exact c2
              obtain ⟨mq, hq⟩ : ∃ m, mayR ⟨rfreq, ritv, rcnt, rtil, rwkst, rends, [], rweek, ryday, rmday, rday, rhour, rminu, rsec, rpos⟩ = m := ⟨_, rfl⟩
              have HQ := Lib.hid hq
              clear hq
              clear rz0 rz8 rz9 rz10
              have rz0 : w8.cell? ⟨w.heap.size, 0, none⟩ = some (.int .i64 rfreq) := Xr8.at_ 0 _ rfl
              have rz8 : w8.cell? ⟨w.heap.size, 8, none⟩ = some (.slice ra8 rn8 rc8) := Xr8.at_ 8 _ rfl
              have rz9 : w8.cell? ⟨w.heap.size, 9, none⟩ = some (.slice ra9 rn9 rc9) := Xr8.at_ 9 _ rfl
              have rz10 : w8.cell? ⟨w.heap.size, 10, none⟩ = some (.slice ra10 rn10 rc10) := Xr8.at_ 10 _ rfl
              have qz0 : w8.cell? ⟨w5.heap.size, 0, none⟩ = some (.int .i64 rfreq) := Xq8.at_ 0 _ rfl
              have qz1 : w8.cell? ⟨w5.heap.size, 1, none⟩ = some (.int .i64 ritv) := Xq8.at_ 1 _ rfl
              have qz2 : w8.cell? ⟨w5.heap.size, 2, none⟩ = some (.int .i64 rcnt) := Xq8.at_ 2 _ rfl
              have qz3 : w8.cell? ⟨w5.heap.size, 3, none⟩ = some (.int .i64 rtil) := Xq8.at_ 3 _ rfl
              have qz4 : w8.cell? ⟨w5.heap.size, 4, none⟩ = some (.int .i64 rwkst) := Xq8.at_ 4 _ rfl
              have qz5 : w8.cell? ⟨w5.heap.size, 5, none⟩ = some (.bool rends) := Xq8.at_ 5 _ rfl
              have qz6 : w8.cell? ⟨w5.heap.size, 6, none⟩ = some (.slice none 0 0) := Xq8.at_ 6 _ rfl
              have qz7 : w8.cell? ⟨w5.heap.size, 7, none⟩ = some (.slice qa7 qn7 qc7) := Xq8.at_ 7 _ rfl
              have qz8 : w8.cell? ⟨w5.heap.size, 8, none⟩ = some (.slice qa8 qn8 qc8) := Xq8.at_ 8 _ rfl
              have qz9 : w8.cell? ⟨w5.heap.size, 9, none⟩ = some (.slice qa9 qn9 qc9) := Xq8.at_ 9 _ rfl
              have qz10 : w8.cell? ⟨w5.heap.size, 10, none⟩ = some (.slice qa10 qn10 qc10) := Xq8.at_ 10 _ rfl
              have qz11 : w8.cell? ⟨w5.heap.size, 11, none⟩ = some (.slice qa11 qn11 qc11) := Xq8.at_ 11 _ rfl
              have qz12 : w8.cell? ⟨w5.heap.size, 12, none⟩ = some (.slice qa12 qn12 qc12) := Xq8.at_ 12 _ rfl
              have qz13 : w8.cell? ⟨w5.heap.size, 13, none⟩ = some (.slice qa13 qn13 qc13) := Xq8.at_ 13 _ rfl
              have qz14 : w8.cell? ⟨w5.heap.size, 14, none⟩ = some (.slice qa14 qn14 qc14) := Xq8.at_ 14 _ rfl
              go_wp2_with fail
              refine (may_r _ ⟨none, 0, 0, qa7, qn7, qc7, qa8, qn8, qc8, qa9, qn9, qc9, qa10, qn10, qc10, qa11, qn11, qc11, qa12, qn12, qc12, qa13, qn13, qc13, qa14, qn14, qc14⟩ ⟨rfreq, ritv, rcnt, rtil, rwkst, rends, [], rweek, ryday, rmday, rday, rhour, rminu, rsec, rpos⟩ mq Rq8 HQ.out).mono ?_
              rintro e x1 ⟨rfl, y1⟩
              clear rz0 rz8 rz9 rz10
              clear qz0 qz1 qz2 qz3 qz4 qz5 qz6 qz7 qz8 qz9 qz10 qz11 qz12 qz13 qz14
              cases mq
              · go_wp2
                go_meet
                exact ⟨rfl, y1⟩
              · go_wp2
                go_meet
                exact ⟨rfl, y1⟩
          · have t1 : decide ((0 : Int) < (rn10 : Int) + (rn8 : Int) + (rn9 : Int)) = false := decide_eq_false (by omega)
            go_wp2
            go_meet
            exact ⟨rfl, Below.refl _ _⟩
        case rest =>
          obtain ⟨rfl, bc⟩ := hcut
          generalize wc = w9 at *
          have B9 := B8.trans (bc.mono B8.size)
          have Xr9 := Xr8.below bc
          have Xq9 := Xq8.below bc
          have Xp9 := Xp8.below bc
          have Rr9 := Rr8.below bc
          have Rq9 := Rq8.below bc
          have Rp9 := Rp8.below bc
          clear B8 Xr8 Xq8 Xp8 Rr8 Rq8 Rp8
          clear bc
          as_aux_lemma =>
            go_upto_region 12 with fail
            go_cut [84] (fun s wx => s = .bool false ∧ Below w9.heap.size w9 wx)
            case first =>
              have rz10 : w9.cell? ⟨w.heap.size, 10, none⟩ = some (.slice ra10 rn10 rc10) := Xr9.at_ 10 _ rfl
              by_cases c1 : 0 < rn10
              · obtain ⟨mq, hq⟩ : ∃ m, mayR ⟨rfreq, ritv, rcnt, rtil, rwkst, rends, rmon, rweek, [], [], rday, rhour, rminu, rsec, rpos⟩ = m := ⟨_, rfl⟩
                have HQ := Lib.hid hq
                clear hq
                have pz0 : w9.cell? ⟨w7.heap.size, 0, none⟩ = some (.int .i64 rfreq) := Xp9.at_ 0 _ rfl
                have pz1 : w9.cell? ⟨w7.heap.size, 1, none⟩ = some (.int .i64 ritv) := Xp9.at_ 1 _ rfl
                have pz2 : w9.cell? ⟨w7.heap.size, 2, none⟩ = some (.int .i64 rcnt) := Xp9.at_ 2 _ rfl
                have pz3 : w9.cell? ⟨w7.heap.size, 3, none⟩ = some (.int .i64 rtil) := Xp9.at_ 3 _ rfl
                have pz4 : w9.cell? ⟨w7.heap.size, 4, none⟩ = some (.int .i64 rwkst) := Xp9.at_ 4 _ rfl
                have pz5 : w9.cell? ⟨w7.heap.size, 5, none⟩ = some (.bool rends) := Xp9.at_ 5 _ rfl
                have pz6 : w9.cell? ⟨w7.heap.size, 6, none⟩ = some (.slice pa6 pn6 pc6) := Xp9.at_ 6 _ rfl
                have pz7 : w9.cell? ⟨w7.heap.size, 7, none⟩ = some (.slice pa7 pn7 pc7) := Xp9.at_ 7 _ rfl
                have pz8 : w9.cell? ⟨w7.heap.size, 8, none⟩ = some (.slice none 0 0) := Xp9.at_ 8 _ rfl
                have pz9 : w9.cell? ⟨w7.heap.size, 9, none⟩ = some (.slice none 0 0) := Xp9.at_ 9 _ rfl
                have pz10 : w9.cell? ⟨w7.heap.size, 10, none⟩ = some (.slice pa10 pn10 pc10) := Xp9.at_ 10 _ rfl
                have pz11 : w9.cell? ⟨w7.heap.size, 11, none⟩ = some (.slice pa11 pn11 pc11) := Xp9.at_ 11 _ rfl
                have pz12 : w9.cell? ⟨w7.heap.size, 12, none⟩ = some (.slice pa12 pn12 pc12) := Xp9.at_ 12 _ rfl
                have pz13 : w9.cell? ⟨w7.heap.size, 13, none⟩ = some (.slice pa13 pn13 pc13) := Xp9.at_ 13 _ rfl
                have pz14 : w9.cell? ⟨w7.heap.size, 14, none⟩ = some (.slice pa14 pn14 pc14) := Xp9.at_ 14 _ rfl
                go_wp2_with fail
                refine (may_r _ ⟨pa6, pn6, pc6, pa7, pn7, pc7, none, 0, 0, none, 0, 0, pa10, pn10, pc10, pa11, pn11, pc11, pa12, pn12, pc12, pa13, pn13, pc13, pa14, pn14, pc14⟩ ⟨rfreq, ritv, rcnt, rtil, rwkst, rends, rmon, rweek, [], [], rday, rhour, rminu, rsec, rpos⟩ mq Rp9 HQ.out).mono ?_
                rintro e x1 ⟨rfl, y1⟩
                clear rz10
                clear pz0 pz1 pz2 pz3 pz4 pz5 pz6 pz7 pz8 pz9 pz10 pz11 pz12 pz13 pz14
                cases mq
                · go_wp2
                  go_meet
                  exact ⟨rfl, y1⟩
                · go_wp2
                  go_meet
                  exact ⟨rfl, y1⟩
              · go_wp2
                go_meet
                exact ⟨rfl, Below.refl _ _⟩
            case rest =>
              obtain ⟨rfl, bc⟩ := hcut
              generalize wc = w10 at *
              have B10 := B9.trans (bc.mono B9.size)
              have Xr10 := Xr9.below bc
              have Xq10 := Xq9.below bc
              have Xp10 := Xp9.below bc
              have Rr10 := Rr9.below bc
              have Rq10 := Rq9.below bc
              have Rp10 := Rp9.below bc
              clear B9 Xr9 Xq9 Xp9 Rr9 Rq9 Rp9
              clear bc
              as_aux_lemma =>
                clear Xq10 Rq10
                clear Xp10 Rp10
                go_upto_region 14 with fail
                by_cases hd : -719162 ≤ d ∧ d ≤ 2932896
                · go_wp2_with fail
                  refine (date_yes d _ hd.1 hd.2).mono ?_
                  rintro e w' ⟨rfl, rfl⟩
                  go_wp2_with fail
                  refine (first_is _ (TT.out.on B10)).mono ?_
                  rintro e w11 ⟨rfl, b11⟩
                  have B11 := B10.trans (b11.mono B10.size)
                  have Xr11 := Xr10.below b11
                  have Rr11 := Rr10.below b11
                  clear B10 Xr10 Rr10
                  clear b11
                  go_wp2
                  go_ret
                  exact ⟨rfl, B11⟩
                · have HD := Lib.hid hd
                  clear hd
                  go_wp2_with fail
                  refine (date_no d _ HD.out).mono ?_
                  rintro e w' ⟨rfl, rfl⟩
                  go_wp2_with fail
                  refine (first_is _ (TT.out.on B10)).mono ?_
                  rintro e w11 ⟨rfl, b11⟩
                  have B11 := B10.trans (b11.mono B10.size)
                  have Xr11 := Xr10.below b11
                  have Rr11 := Rr10.below b11
                  clear B10 Xr10 Rr10
                  clear b11
                  go_wp2
                  go_ret
                  exact ⟨rfl, B11⟩
end Go.Proofs.YtkkmhjplfpdhcaaGreatDoor.Dd
namespace Go.Proofs.YtkkmhjplfpdhcaaGreatDoor.Dd
open Go.RowKit Cv St Ru

set_option maxRecDepth 100000 in
set_option maxHeartbeats 8000000 in
theorem parts_d (w : World) (T : Tabs w) (S : RS) (r : Ru) (start d : Int) (h : RuIn w S r) (hx1 : fewB S = true) (hm : mayR r = true) (hx : fitsB r start d = true) :
    Calls Tryz.prog 5 #[S.val r, .int .i64 start, .int .i64 d] w fun e w' => e = .returned (.bool true) ∧ Below w.heap.size w w' := by
  have TT := Lib.hid T
  have HK := Lib.hid h
  have X1 := Lib.hid hx1
  have RA0 := Lib.hid (h.few hx1)
  have HM := Lib.hid hm
  have HX := Lib.hid hx
  have PM := Lib.hid (fun (hf : r.freq ≠ 1) (hl : 0 < r.day.length + r.yday.length + r.mday.length) (hq : mayR { r with mon := [] } = true) => parts_month (start := start) (day := d) hf hl hq hx)
  have PD := Lib.hid (fun (hl : 0 < r.day.length) (hq : mayR { r with mday := [], yday := [] } = true) => parts_day (start := start) (day := d) hl hq hx)
  have EM := Lib.hid h.h6.1
  have E8 := Lib.hid h.h8.1
  have E9 := Lib.hid h.h9.1
  have E10 := Lib.hid h.h10.1
  have kk := (h.few hx1)
  have k6 := kk.l6; have k8 := kk.l8; have k9 := kk.l9; have k10 := kk.l10
  clear kk
  have PH := Lib.hid (parts_has hx)
  clear hm hx
  clear h T hx1
  obtain ⟨ra6, rn6, rc6, ra7, rn7, rc7, ra8, rn8, rc8, ra9, rn9, rc9, ra10, rn10, rc10, ra11, rn11, rc11, ra12, rn12, rc12, ra13, rn13, rc13, ra14, rn14, rc14⟩ := S
  obtain ⟨rfreq, ritv, rcnt, rtil, rwkst, rends, rmon, rweek, ryday, rmday, rday, rhour, rminu, rsec, rpos⟩ := r
  show Calls Tryz.prog 5 #[.agg #[.int .i64 rfreq, .int .i64 ritv, .int .i64 rcnt, .int .i64 rtil, .int .i64 rwkst, .bool rends, .slice ra6 rn6 rc6, .slice ra7 rn7 rc7, .slice ra8 rn8 rc8, .slice ra9 rn9 rc9, .slice ra10 rn10 rc10, .slice ra11 rn11 rc11, .slice ra12 rn12 rc12, .slice ra13 rn13 rc13, .slice ra14 rn14 rc14], .int .i64 start, .int .i64 d] w _
  go_enter Tryz.func5, Tryz.ntmps5
  go_upto_region 1 with fail
  have B0 := alloc_below w (.cells #[.int .i64 rfreq, .int .i64 ritv, .int .i64 rcnt, .int .i64 rtil, .int .i64 rwkst, .bool rends, .slice ra6 rn6 rc6, .slice ra7 rn7 rc7, .slice ra8 rn8 rc8, .slice ra9 rn9 rc9, .slice ra10 rn10 rc10, .slice ra11 rn11 rc11, .slice ra12 rn12 rc12, .slice ra13 rn13 rc13, .slice ra14 rn14 rc14] 25)
  have Xr0 := Box.new w #[.int .i64 rfreq, .int .i64 ritv, .int .i64 rcnt, .int .i64 rtil, .int .i64 rwkst, .bool rends, .slice ra6 rn6 rc6, .slice ra7 rn7 rc7, .slice ra8 rn8 rc8, .slice ra9 rn9 rc9, .slice ra10 rn10 rc10, .slice ra11 rn11 rc11, .slice ra12 rn12 rc12, .slice ra13 rn13 rc13, .slice ra14 rn14 rc14] 25
  generalize w.alloc (.cells #[.int .i64 rfreq, .int .i64 ritv, .int .i64 rcnt, .int .i64 rtil, .int .i64 rwkst, .bool rends, .slice ra6 rn6 rc6, .slice ra7 rn7 rc7, .slice ra8 rn8 rc8, .slice ra9 rn9 rc9, .slice ra10 rn10 rc10, .slice ra11 rn11 rc11, .slice ra12 rn12 rc12, .slice ra13 rn13 rc13, .slice ra14 rn14 rc14] 25) = w0 at *
  go_wp2_with fail
  refine (first_is _ (TT.out.on B0)).mono ?_
  rintro e w1 ⟨rfl, b1⟩
  have B1 := B0.trans (b1.mono B0.size)
  have Xr1 := Xr0.below b1
  clear B0 Xr0
  clear b1
  have Rr1 := RA0.out.below B1
  clear RA0
  have rz0 : w1.cell? ⟨w.heap.size, 0, none⟩ = some (.int .i64 rfreq) := Xr1.at_ 0 _ rfl
  have rz1 : w1.cell? ⟨w.heap.size, 1, none⟩ = some (.int .i64 ritv) := Xr1.at_ 1 _ rfl
  have rz2 : w1.cell? ⟨w.heap.size, 2, none⟩ = some (.int .i64 rcnt) := Xr1.at_ 2 _ rfl
  have rz3 : w1.cell? ⟨w.heap.size, 3, none⟩ = some (.int .i64 rtil) := Xr1.at_ 3 _ rfl
  have rz4 : w1.cell? ⟨w.heap.size, 4, none⟩ = some (.int .i64 rwkst) := Xr1.at_ 4 _ rfl
  have rz5 : w1.cell? ⟨w.heap.size, 5, none⟩ = some (.bool rends) := Xr1.at_ 5 _ rfl
  have rz6 : w1.cell? ⟨w.heap.size, 6, none⟩ = some (.slice ra6 rn6 rc6) := Xr1.at_ 6 _ rfl
  have rz7 : w1.cell? ⟨w.heap.size, 7, none⟩ = some (.slice ra7 rn7 rc7) := Xr1.at_ 7 _ rfl
  have rz8 : w1.cell? ⟨w.heap.size, 8, none⟩ = some (.slice ra8 rn8 rc8) := Xr1.at_ 8 _ rfl
  have rz9 : w1.cell? ⟨w.heap.size, 9, none⟩ = some (.slice ra9 rn9 rc9) := Xr1.at_ 9 _ rfl
  have rz10 : w1.cell? ⟨w.heap.size, 10, none⟩ = some (.slice ra10 rn10 rc10) := Xr1.at_ 10 _ rfl
  have rz11 : w1.cell? ⟨w.heap.size, 11, none⟩ = some (.slice ra11 rn11 rc11) := Xr1.at_ 11 _ rfl
  have rz12 : w1.cell? ⟨w.heap.size, 12, none⟩ = some (.slice ra12 rn12 rc12) := Xr1.at_ 12 _ rfl
  have rz13 : w1.cell? ⟨w.heap.size, 13, none⟩ = some (.slice ra13 rn13 rc13) := Xr1.at_ 13 _ rfl
  have rz14 : w1.cell? ⟨w.heap.size, 14, none⟩ = some (.slice ra14 rn14 rc14) := Xr1.at_ 14 _ rfl
  go_wp2_with fail
  refine (few_is _ ⟨ra6, rn6, rc6, ra7, rn7, rc7, ra8, rn8, rc8, ra9, rn9, rc9, ra10, rn10, rc10, ra11, rn11, rc11, ra12, rn12, rc12, ra13, rn13, rc13, ra14, rn14, rc14⟩ ⟨rfreq, ritv, rcnt, rtil, rwkst, rends, rmon, rweek, ryday, rmday, rday, rhour, rminu, rsec, rpos⟩ true HK.out.k6 HK.out.k7 HK.out.k8 HK.out.k9 HK.out.k10 HK.out.k11 HK.out.k12 HK.out.k13 HK.out.k14 X1.out).mono ?_
  rintro e w2 ⟨rfl, b2⟩
  clear rz0 rz1 rz2 rz3 rz4 rz5 rz6 rz7 rz8 rz9 rz10 rz11 rz12 rz13 rz14
  have B2 := B1.trans (b2.mono B1.size)
  have Xr2 := Xr1.below b2
  have Rr2 := Rr1.below b2
  clear B1 Xr1 Rr1
  clear b2
  replace k6 : rn6 ≤ 140737488355328 := k6
  replace k8 : rn8 ≤ 140737488355328 := k8
  replace k9 : rn9 ≤ 140737488355328 := k9
  replace k10 : rn10 ≤ 140737488355328 := k10
  have rz0 : w2.cell? ⟨w.heap.size, 0, none⟩ = some (.int .i64 rfreq) := Xr2.at_ 0 _ rfl
  have rz1 : w2.cell? ⟨w.heap.size, 1, none⟩ = some (.int .i64 ritv) := Xr2.at_ 1 _ rfl
  have rz2 : w2.cell? ⟨w.heap.size, 2, none⟩ = some (.int .i64 rcnt) := Xr2.at_ 2 _ rfl
  have rz3 : w2.cell? ⟨w.heap.size, 3, none⟩ = some (.int .i64 rtil) := Xr2.at_ 3 _ rfl
  have rz4 : w2.cell? ⟨w.heap.size, 4, none⟩ = some (.int .i64 rwkst) := Xr2.at_ 4 _ rfl
  have rz5 : w2.cell? ⟨w.heap.size, 5, none⟩ = some (.bool rends) := Xr2.at_ 5 _ rfl
  have rz6 : w2.cell? ⟨w.heap.size, 6, none⟩ = some (.slice ra6 rn6 rc6) := Xr2.at_ 6 _ rfl
  have rz7 : w2.cell? ⟨w.heap.size, 7, none⟩ = some (.slice ra7 rn7 rc7) := Xr2.at_ 7 _ rfl
  have rz8 : w2.cell? ⟨w.heap.size, 8, none⟩ = some (.slice ra8 rn8 rc8) := Xr2.at_ 8 _ rfl
  have rz9 : w2.cell? ⟨w.heap.size, 9, none⟩ = some (.slice ra9 rn9 rc9) := Xr2.at_ 9 _ rfl
  have rz10 : w2.cell? ⟨w.heap.size, 10, none⟩ = some (.slice ra10 rn10 rc10) := Xr2.at_ 10 _ rfl
  have rz11 : w2.cell? ⟨w.heap.size, 11, none⟩ = some (.slice ra11 rn11 rc11) := Xr2.at_ 11 _ rfl
  have rz12 : w2.cell? ⟨w.heap.size, 12, none⟩ = some (.slice ra12 rn12 rc12) := Xr2.at_ 12 _ rfl
  have rz13 : w2.cell? ⟨w.heap.size, 13, none⟩ = some (.slice ra13 rn13 rc13) := Xr2.at_ 13 _ rfl
  have rz14 : w2.cell? ⟨w.heap.size, 14, none⟩ = some (.slice ra14 rn14 rc14) := Xr2.at_ 14 _ rfl
  go_wp2_with fail
  refine (may_r _ ⟨ra6, rn6, rc6, ra7, rn7, rc7, ra8, rn8, rc8, ra9, rn9, rc9, ra10, rn10, rc10, ra11, rn11, rc11, ra12, rn12, rc12, ra13, rn13, rc13, ra14, rn14, rc14⟩ ⟨rfreq, ritv, rcnt, rtil, rwkst, rends, rmon, rweek, ryday, rmday, rday, rhour, rminu, rsec, rpos⟩ true Rr2 HM.out).mono ?_
  rintro e w3 ⟨rfl, b3⟩
  clear rz0 rz1 rz2 rz3 rz4 rz5 rz6 rz7 rz8 rz9 rz10 rz11 rz12 rz13 rz14
  have B3 := B2.trans (b3.mono B2.size)
  have Xr3 := Xr2.below b3
  have Rr3 := Rr2.below b3
  clear B2 Xr2 Rr2
  clear b3
  have rz0 : w3.cell? ⟨w.heap.size, 0, none⟩ = some (.int .i64 rfreq) := Xr3.at_ 0 _ rfl
  have rz1 : w3.cell? ⟨w.heap.size, 1, none⟩ = some (.int .i64 ritv) := Xr3.at_ 1 _ rfl
  have rz2 : w3.cell? ⟨w.heap.size, 2, none⟩ = some (.int .i64 rcnt) := Xr3.at_ 2 _ rfl
  have rz3 : w3.cell? ⟨w.heap.size, 3, none⟩ = some (.int .i64 rtil) := Xr3.at_ 3 _ rfl
  have rz4 : w3.cell? ⟨w.heap.size, 4, none⟩ = some (.int .i64 rwkst) := Xr3.at_ 4 _ rfl
  have rz5 : w3.cell? ⟨w.heap.size, 5, none⟩ = some (.bool rends) := Xr3.at_ 5 _ rfl
  have rz6 : w3.cell? ⟨w.heap.size, 6, none⟩ = some (.slice ra6 rn6 rc6) := Xr3.at_ 6 _ rfl
  have rz7 : w3.cell? ⟨w.heap.size, 7, none⟩ = some (.slice ra7 rn7 rc7) := Xr3.at_ 7 _ rfl
  have rz8 : w3.cell? ⟨w.heap.size, 8, none⟩ = some (.slice ra8 rn8 rc8) := Xr3.at_ 8 _ rfl
  have rz9 : w3.cell? ⟨w.heap.size, 9, none⟩ = some (.slice ra9 rn9 rc9) := Xr3.at_ 9 _ rfl
  have rz10 : w3.cell? ⟨w.heap.size, 10, none⟩ = some (.slice ra10 rn10 rc10) := Xr3.at_ 10 _ rfl
  have rz11 : w3.cell? ⟨w.heap.size, 11, none⟩ = some (.slice ra11 rn11 rc11) := Xr3.at_ 11 _ rfl
  have rz12 : w3.cell? ⟨w.heap.size, 12, none⟩ = some (.slice ra12 rn12 rc12) := Xr3.at_ 12 _ rfl
  have rz13 : w3.cell? ⟨w.heap.size, 13, none⟩ = some (.slice ra13 rn13 rc13) := Xr3.at_ 13 _ rfl
  have rz14 : w3.cell? ⟨w.heap.size, 14, none⟩ = some (.slice ra14 rn14 rc14) := Xr3.at_ 14 _ rfl
  go_wp2_with fail
  refine (fits_is _ ⟨ra6, rn6, rc6, ra7, rn7, rc7, ra8, rn8, rc8, ra9, rn9, rc9, ra10, rn10, rc10, ra11, rn11, rc11, ra12, rn12, rc12, ra13, rn13, rc13, ra14, rn14, rc14⟩ ⟨rfreq, ritv, rcnt, rtil, rwkst, rends, rmon, rweek, ryday, rmday, rday, rhour, rminu, rsec, rpos⟩ start d true Rr3 HX.out).mono ?_
  rintro e w4 ⟨rfl, b4⟩
  clear rz0 rz1 rz2 rz3 rz4 rz5 rz6 rz7 rz8 rz9 rz10 rz11 rz12 rz13 rz14
  have B4 := B3.trans (b4.mono B3.size)
  have Xr4 := Xr3.below b4
  have Rr4 := Rr3.below b4
  clear B3 Xr3 Rr3
  clear b4
  as_aux_lemma =>
    have rz0 : w4.cell? ⟨w.heap.size, 0, none⟩ = some (.int .i64 rfreq) := Xr4.at_ 0 _ rfl
    have rz1 : w4.cell? ⟨w.heap.size, 1, none⟩ = some (.int .i64 ritv) := Xr4.at_ 1 _ rfl
    have rz2 : w4.cell? ⟨w.heap.size, 2, none⟩ = some (.int .i64 rcnt) := Xr4.at_ 2 _ rfl
    have rz3 : w4.cell? ⟨w.heap.size, 3, none⟩ = some (.int .i64 rtil) := Xr4.at_ 3 _ rfl
    have rz4 : w4.cell? ⟨w.heap.size, 4, none⟩ = some (.int .i64 rwkst) := Xr4.at_ 4 _ rfl
    have rz5 : w4.cell? ⟨w.heap.size, 5, none⟩ = some (.bool rends) := Xr4.at_ 5 _ rfl
    have rz6 : w4.cell? ⟨w.heap.size, 6, none⟩ = some (.slice ra6 rn6 rc6) := Xr4.at_ 6 _ rfl
    have rz7 : w4.cell? ⟨w.heap.size, 7, none⟩ = some (.slice ra7 rn7 rc7) := Xr4.at_ 7 _ rfl
    have rz8 : w4.cell? ⟨w.heap.size, 8, none⟩ = some (.slice ra8 rn8 rc8) := Xr4.at_ 8 _ rfl
    have rz9 : w4.cell? ⟨w.heap.size, 9, none⟩ = some (.slice ra9 rn9 rc9) := Xr4.at_ 9 _ rfl
    have rz10 : w4.cell? ⟨w.heap.size, 10, none⟩ = some (.slice ra10 rn10 rc10) := Xr4.at_ 10 _ rfl
    have rz11 : w4.cell? ⟨w.heap.size, 11, none⟩ = some (.slice ra11 rn11 rc11) := Xr4.at_ 11 _ rfl
    have rz12 : w4.cell? ⟨w.heap.size, 12, none⟩ = some (.slice ra12 rn12 rc12) := Xr4.at_ 12 _ rfl
    have rz13 : w4.cell? ⟨w.heap.size, 13, none⟩ = some (.slice ra13 rn13 rc13) := Xr4.at_ 13 _ rfl
    have rz14 : w4.cell? ⟨w.heap.size, 14, none⟩ = some (.slice ra14 rn14 rc14) := Xr4.at_ 14 _ rfl
    go_wp2_with fail
    refine (copyR_is _ ⟨ra6, rn6, rc6, ra7, rn7, rc7, ra8, rn8, rc8, ra9, rn9, rc9, ra10, rn10, rc10, ra11, rn11, rc11, ra12, rn12, rc12, ra13, rn13, rc13, ra14, rn14, rc14⟩ ⟨rfreq, ritv, rcnt, rtil, rwkst, rends, rmon, rweek, ryday, rmday, rday, rhour, rminu, rsec, rpos⟩ (in_below HK.out B4) X1.out).mono ?_
    rintro e w5 ⟨⟨qa6, qn6, qc6, qa7, qn7, qc7, qa8, qn8, qc8, qa9, qn9, qc9, qa10, qn10, qc10, qa11, qn11, qc11, qa12, qn12, qc12, qa13, qn13, qc13, qa14, qn14, qc14⟩, he, hS, b5⟩
    replace he : e = .returned (.agg #[.int .i64 rfreq, .int .i64 ritv, .int .i64 rcnt, .int .i64 rtil, .int .i64 rwkst, .bool rends, .slice qa6 qn6 qc6, .slice qa7 qn7 qc7, .slice qa8 qn8 qc8, .slice qa9 qn9 qc9, .slice qa10 qn10 qc10, .slice qa11 qn11 qc11, .slice qa12 qn12 qc12, .slice qa13 qn13 qc13, .slice qa14 qn14 qc14]) := he
    subst he
    clear rz0 rz1 rz2 rz3 rz4 rz5 rz6 rz7 rz8 rz9 rz10 rz11 rz12 rz13 rz14
    have B5 := B4.trans (b5.mono B4.size)
    have Xr5 := Xr4.below b5
    have Rr5 := Rr4.below b5
    clear B4 Xr4 Rr4
    clear b5
    have hQ : RuAt w5 ⟨none, 0, 0, qa7, qn7, qc7, qa8, qn8, qc8, qa9, qn9, qc9, qa10, qn10, qc10, qa11, qn11, qc11, qa12, qn12, qc12, qa13, qn13, qc13, qa14, qn14, qc14⟩ ⟨rfreq, ritv, rcnt, rtil, rwkst, rends, [], rweek, ryday, rmday, rday, rhour, rminu, rsec, rpos⟩ := ⟨⟨rfl, fun z => absurd z (Nat.lt_irrefl 0)⟩, hS.h7, hS.h8, hS.h9, hS.h10, hS.h11, hS.h12, hS.h13, hS.h14, Nat.zero_le _, hS.l7, hS.l8, hS.l9, hS.l10, hS.l11, hS.l12, hS.l13, hS.l14⟩
    clear hS
    go_upto_region 8 with fail
    have b6 := alloc_below w5 (.cells #[.int .i64 rfreq, .int .i64 ritv, .int .i64 rcnt, .int .i64 rtil, .int .i64 rwkst, .bool rends, .slice none 0 0, .slice qa7 qn7 qc7, .slice qa8 qn8 qc8, .slice qa9 qn9 qc9, .slice qa10 qn10 qc10, .slice qa11 qn11 qc11, .slice qa12 qn12 qc12, .slice qa13 qn13 qc13, .slice qa14 qn14 qc14] 25)
    have Xq6 := Box.new w5 #[.int .i64 rfreq, .int .i64 ritv, .int .i64 rcnt, .int .i64 rtil, .int .i64 rwkst, .bool rends, .slice none 0 0, .slice qa7 qn7 qc7, .slice qa8 qn8 qc8, .slice qa9 qn9 qc9, .slice qa10 qn10 qc10, .slice qa11 qn11 qc11, .slice qa12 qn12 qc12, .slice qa13 qn13 qc13, .slice qa14 qn14 qc14] 25
    have Rq6 := hQ.below b6
    clear hQ
    generalize w5.alloc (.cells #[.int .i64 rfreq, .int .i64 ritv, .int .i64 rcnt, .int .i64 rtil, .int .i64 rwkst, .bool rends, .slice none 0 0, .slice qa7 qn7 qc7, .slice qa8 qn8 qc8, .slice qa9 qn9 qc9, .slice qa10 qn10 qc10, .slice qa11 qn11 qc11, .slice qa12 qn12 qc12, .slice qa13 qn13 qc13, .slice qa14 qn14 qc14] 25) = w6 at *
    have B6 := B5.trans (b6.mono B5.size)
    have Xr6 := Xr5.below b6
    have Rr6 := Rr5.below b6
    clear B5 Xr5 Rr5
    clear b6
    as_aux_lemma =>
      have rz0 : w6.cell? ⟨w.heap.size, 0, none⟩ = some (.int .i64 rfreq) := Xr6.at_ 0 _ rfl
      have rz1 : w6.cell? ⟨w.heap.size, 1, none⟩ = some (.int .i64 ritv) := Xr6.at_ 1 _ rfl
      have rz2 : w6.cell? ⟨w.heap.size, 2, none⟩ = some (.int .i64 rcnt) := Xr6.at_ 2 _ rfl
      have rz3 : w6.cell? ⟨w.heap.size, 3, none⟩ = some (.int .i64 rtil) := Xr6.at_ 3 _ rfl
      have rz4 : w6.cell? ⟨w.heap.size, 4, none⟩ = some (.int .i64 rwkst) := Xr6.at_ 4 _ rfl
      have rz5 : w6.cell? ⟨w.heap.size, 5, none⟩ = some (.bool rends) := Xr6.at_ 5 _ rfl
      have rz6 : w6.cell? ⟨w.heap.size, 6, none⟩ = some (.slice ra6 rn6 rc6) := Xr6.at_ 6 _ rfl
      have rz7 : w6.cell? ⟨w.heap.size, 7, none⟩ = some (.slice ra7 rn7 rc7) := Xr6.at_ 7 _ rfl
      have rz8 : w6.cell? ⟨w.heap.size, 8, none⟩ = some (.slice ra8 rn8 rc8) := Xr6.at_ 8 _ rfl
      have rz9 : w6.cell? ⟨w.heap.size, 9, none⟩ = some (.slice ra9 rn9 rc9) := Xr6.at_ 9 _ rfl
      have rz10 : w6.cell? ⟨w.heap.size, 10, none⟩ = some (.slice ra10 rn10 rc10) := Xr6.at_ 10 _ rfl
      have rz11 : w6.cell? ⟨w.heap.size, 11, none⟩ = some (.slice ra11 rn11 rc11) := Xr6.at_ 11 _ rfl
      have rz12 : w6.cell? ⟨w.heap.size, 12, none⟩ = some (.slice ra12 rn12 rc12) := Xr6.at_ 12 _ rfl
      have rz13 : w6.cell? ⟨w.heap.size, 13, none⟩ = some (.slice ra13 rn13 rc13) := Xr6.at_ 13 _ rfl
      have rz14 : w6.cell? ⟨w.heap.size, 14, none⟩ = some (.slice ra14 rn14 rc14) := Xr6.at_ 14 _ rfl
      go_wp2_with fail
      refine (copyR_is _ ⟨ra6, rn6, rc6, ra7, rn7, rc7, ra8, rn8, rc8, ra9, rn9, rc9, ra10, rn10, rc10, ra11, rn11, rc11, ra12, rn12, rc12, ra13, rn13, rc13, ra14, rn14, rc14⟩ ⟨rfreq, ritv, rcnt, rtil, rwkst, rends, rmon, rweek, ryday, rmday, rday, rhour, rminu, rsec, rpos⟩ (in_below HK.out B6) X1.out).mono ?_
      rintro e w7 ⟨⟨pa6, pn6, pc6, pa7, pn7, pc7, pa8, pn8, pc8, pa9, pn9, pc9, pa10, pn10, pc10, pa11, pn11, pc11, pa12, pn12, pc12, pa13, pn13, pc13, pa14, pn14, pc14⟩, he, hS, b7⟩
      replace he : e = .returned (.agg #[.int .i64 rfreq, .int .i64 ritv, .int .i64 rcnt, .int .i64 rtil, .int .i64 rwkst, .bool rends, .slice pa6 pn6 pc6, .slice pa7 pn7 pc7, .slice pa8 pn8 pc8, .slice pa9 pn9 pc9, .slice pa10 pn10 pc10, .slice pa11 pn11 pc11, .slice pa12 pn12 pc12, .slice pa13 pn13 pc13, .slice pa14 pn14 pc14]) := he
      subst he
      clear rz0 rz1 rz2 rz3 rz4 rz5 rz6 rz7 rz8 rz9 rz10 rz11 rz12 rz13 rz14
      have B7 := B6.trans (b7.mono B6.size)
      have Xr7 := Xr6.below b7
      have Xq7 := Xq6.below b7
      have Rr7 := Rr6.below b7
      have Rq7 := Rq6.below b7
      clear B6 Xr6 Xq6 Rr6 Rq6
      clear b7
      have hQ : RuAt w7 ⟨pa6, pn6, pc6, pa7, pn7, pc7, none, 0, 0, none, 0, 0, pa10, pn10, pc10, pa11, pn11, pc11, pa12, pn12, pc12, pa13, pn13, pc13, pa14, pn14, pc14⟩ ⟨rfreq, ritv, rcnt, rtil, rwkst, rends, rmon, rweek, [], [], rday, rhour, rminu, rsec, rpos⟩ := ⟨hS.h6, hS.h7, ⟨rfl, fun z => absurd z (Nat.lt_irrefl 0)⟩, ⟨rfl, fun z => absurd z (Nat.lt_irrefl 0)⟩, hS.h10, hS.h11, hS.h12, hS.h13, hS.h14, hS.l6, hS.l7, Nat.zero_le _, Nat.zero_le _, hS.l10, hS.l11, hS.l12, hS.l13, hS.l14⟩
      clear hS
      go_upto_region 10 with fail
      have b8 := alloc_below w7 (.cells #[.int .i64 rfreq, .int .i64 ritv, .int .i64 rcnt, .int .i64 rtil, .int .i64 rwkst, .bool rends, .slice pa6 pn6 pc6, .slice pa7 pn7 pc7, .slice none 0 0, .slice none 0 0, .slice pa10 pn10 pc10, .slice pa11 pn11 pc11, .slice pa12 pn12 pc12, .slice pa13 pn13 pc13, .slice pa14 pn14 pc14] 25)
      have Xp8 := Box.new w7 #[.int .i64 rfreq, .int .i64 ritv, .int .i64 rcnt, .int .i64 rtil, .int .i64 rwkst, .bool rends, .slice pa6 pn6 pc6, .slice pa7 pn7 pc7, .slice none 0 0, .slice none 0 0, .slice pa10 pn10 pc10, .slice pa11 pn11 pc11, .slice pa12 pn12 pc12, .slice pa13 pn13 pc13, .slice pa14 pn14 pc14] 25
      have Rp8 := hQ.below b8
      clear hQ
      generalize w7.alloc (.cells #[.int .i64 rfreq, .int .i64 ritv, .int .i64 rcnt, .int .i64 rtil, .int .i64 rwkst, .bool rends, .slice pa6 pn6 pc6, .slice pa7 pn7 pc7, .slice none 0 0, .slice none 0 0, .slice pa10 pn10 pc10, .slice pa11 pn11 pc11, .slice pa12 pn12 pc12, .slice pa13 pn13 pc13, .slice pa14 pn14 pc14] 25) = w8 at *
      have B8 := B7.trans (b8.mono B7.size)
      have Xr8 := Xr7.below b8
      have Xq8 := Xq7.below b8
      have Rr8 := Rr7.below b8
      have Rq8 := Rq7.below b8
      clear B7 Xr7 Xq7 Rr7 Rq7
      clear b8
      as_aux_lemma =>
        go_cut [66] (fun s wx => s = .bool false ∧ Below w8.heap.size w8 wx)
        case first =>
          have rz0 : w8.cell? ⟨w.heap.size, 0, none⟩ = some (.int .i64 rfreq) := Xr8.at_ 0 _ rfl
          have rz8 : w8.cell? ⟨w.heap.size, 8, none⟩ = some (.slice ra8 rn8 rc8) := Xr8.at_ 8 _ rfl
          have rz9 : w8.cell? ⟨w.heap.size, 9, none⟩ = some (.slice ra9 rn9 rc9) := Xr8.at_ 9 _ rfl
          have rz10 : w8.cell? ⟨w.heap.size, 10, none⟩ = some (.slice ra10 rn10 rc10) := Xr8.at_ 10 _ rfl
          by_cases c1 : 0 < rn10 + rn8 + rn9
          · have t1 : decide ((0 : Int) < (rn10 : Int) + (rn8 : Int) + (rn9 : Int)) = true := decide_eq_true (by omega)
            by_cases c2 : rfreq = 1
            · have C2 := Lib.hid c2
              clear c2
              have t2 : ((rfreq : Int) != 1) = false := by rw [bne_eq_false_iff_eq]; exact C2.out
              go_wp2
              go_meet
              exact ⟨rfl, Below.refl _ _⟩
            · have t2 : ((rfreq : Int) != 1) = true := by rw [bne_iff_ne]; exact c2
              obtain ⟨mq, hq⟩ : ∃ m, mayR ⟨rfreq, ritv, rcnt, rtil, rwkst, rends, [], rweek, ryday, rmday, rday, rhour, rminu, rsec, rpos⟩ = m := ⟨_, rfl⟩
              have HQ := Lib.hid hq
              clear hq
              clear rz0 rz8 rz9 rz10
              have rz0 : w8.cell? ⟨w.heap.size, 0, none⟩ = some (.int .i64 rfreq) := Xr8.at_ 0 _ rfl
              have rz8 : w8.cell? ⟨w.heap.size, 8, none⟩ = some (.slice ra8 rn8 rc8) := Xr8.at_ 8 _ rfl
              have rz9 : w8.cell? ⟨w.heap.size, 9, none⟩ = some (.slice ra9 rn9 rc9) := Xr8.at_ 9 _ rfl
              have rz10 : w8.cell? ⟨w.heap.size, 10, none⟩ = some (.slice ra10 rn10 rc10) := Xr8.at_ 10 _ rfl
              have qz0 : w8.cell? ⟨w5.heap.size, 0, none⟩ = some (.int .i64 rfreq) := Xq8.at_ 0 _ rfl
              have qz1 : w8.cell? ⟨w5.heap.size, 1, none⟩ = some (.int .i64 ritv) := Xq8.at_ 1 _ rfl
              have qz2 : w8.cell? ⟨w5.heap.size, 2, none⟩ = some (.int .i64 rcnt) := Xq8.at_ 2 _ rfl
              have qz3 : w8.cell? ⟨w5.heap.size, 3, none⟩ = some (.int .i64 rtil) := Xq8.at_ 3 _ rfl
              have qz4 : w8.cell? ⟨w5.heap.size, 4, none⟩ = some (.int .i64 rwkst) := Xq8.at_ 4 _ rfl
              have qz5 : w8.cell? ⟨w5.heap.size, 5, none⟩ = some (.bool rends) := Xq8.at_ 5 _ rfl
              have qz6 : w8.cell? ⟨w5.heap.size, 6, none⟩ = some (.slice none 0 0) := Xq8.at_ 6 _ rfl
              have qz7 : w8.cell? ⟨w5.heap.size, 7, none⟩ = some (.slice qa7 qn7 qc7) := Xq8.at_ 7 _ rfl
              have qz8 : w8.cell? ⟨w5.heap.size, 8, none⟩ = some (.slice qa8 qn8 qc8) := Xq8.at_ 8 _ rfl
              have qz9 : w8.cell? ⟨w5.heap.size, 9, none⟩ = some (.slice qa9 qn9 qc9) := Xq8.at_ 9 _ rfl
              have qz10 : w8.cell? ⟨w5.heap.size, 10, none⟩ = some (.slice qa10 qn10 qc10) := Xq8.at_ 10 _ rfl
              have qz11 : w8.cell? ⟨w5.heap.size, 11, none⟩ = some (.slice qa11 qn11 qc11) := Xq8.at_ 11 _ rfl
              have qz12 : w8.cell? ⟨w5.heap.size, 12, none⟩ = some (.slice qa12 qn12 qc12) := Xq8.at_ 12 _ rfl
              have qz13 : w8.cell? ⟨w5.heap.size, 13, none⟩ = some (.slice qa13 qn13 qc13) := Xq8.at_ 13 _ rfl
              have qz14 : w8.cell? ⟨w5.heap.size, 14, none⟩ = some (.slice qa14 qn14 qc14) := Xq8.at_ 14 _ rfl
              go_wp2_with fail
              refine (may_r _ ⟨none, 0, 0, qa7, qn7, qc7, qa8, qn8, qc8, qa9, qn9, qc9, qa10, qn10, qc10, qa11, qn11, qc11, qa12, qn12, qc12, qa13, qn13, qc13, qa14, qn14, qc14⟩ ⟨rfreq, ritv, rcnt, rtil, rwkst, rends, [], rweek, ryday, rmday, rday, rhour, rminu, rsec, rpos⟩ mq Rq8 HQ.out).mono ?_
              rintro e x1 ⟨rfl, y1⟩
              clear rz0 rz8 rz9 rz10
              clear qz0 qz1 qz2 qz3 qz4 qz5 qz6 qz7 qz8 qz9 qz10 qz11 qz12 qz13 qz14
              cases mq
              · go_wp2
                go_meet
                exact ⟨rfl, y1⟩
              · have FQ := Lib.hid (PM.out c2 (by have a : rn8 = ryday.length := E8.out; have b : rn9 = rmday.length := E9.out; have e : rn10 = rday.length := E10.out; show 0 < rday.length + ryday.length + rmday.length; omega) HQ.out)
                have Xqx := Xq8.below y1
                have Rqx := Rq8.below y1
                have qz0 : x1.cell? ⟨w5.heap.size, 0, none⟩ = some (.int .i64 rfreq) := Xqx.at_ 0 _ rfl
                have qz1 : x1.cell? ⟨w5.heap.size, 1, none⟩ = some (.int .i64 ritv) := Xqx.at_ 1 _ rfl
                have qz2 : x1.cell? ⟨w5.heap.size, 2, none⟩ = some (.int .i64 rcnt) := Xqx.at_ 2 _ rfl
                have qz3 : x1.cell? ⟨w5.heap.size, 3, none⟩ = some (.int .i64 rtil) := Xqx.at_ 3 _ rfl
                have qz4 : x1.cell? ⟨w5.heap.size, 4, none⟩ = some (.int .i64 rwkst) := Xqx.at_ 4 _ rfl
                have qz5 : x1.cell? ⟨w5.heap.size, 5, none⟩ = some (.bool rends) := Xqx.at_ 5 _ rfl
                have qz6 : x1.cell? ⟨w5.heap.size, 6, none⟩ = some (.slice none 0 0) := Xqx.at_ 6 _ rfl
                have qz7 : x1.cell? ⟨w5.heap.size, 7, none⟩ = some (.slice qa7 qn7 qc7) := Xqx.at_ 7 _ rfl
                have qz8 : x1.cell? ⟨w5.heap.size, 8, none⟩ = some (.slice qa8 qn8 qc8) := Xqx.at_ 8 _ rfl
                have qz9 : x1.cell? ⟨w5.heap.size, 9, none⟩ = some (.slice qa9 qn9 qc9) := Xqx.at_ 9 _ rfl
                have qz10 : x1.cell? ⟨w5.heap.size, 10, none⟩ = some (.slice qa10 qn10 qc10) := Xqx.at_ 10 _ rfl
                have qz11 : x1.cell? ⟨w5.heap.size, 11, none⟩ = some (.slice qa11 qn11 qc11) := Xqx.at_ 11 _ rfl
                have qz12 : x1.cell? ⟨w5.heap.size, 12, none⟩ = some (.slice qa12 qn12 qc12) := Xqx.at_ 12 _ rfl
                have qz13 : x1.cell? ⟨w5.heap.size, 13, none⟩ = some (.slice qa13 qn13 qc13) := Xqx.at_ 13 _ rfl
                have qz14 : x1.cell? ⟨w5.heap.size, 14, none⟩ = some (.slice qa14 qn14 qc14) := Xqx.at_ 14 _ rfl
                go_wp2_with fail
                refine (fits_is _ ⟨none, 0, 0, qa7, qn7, qc7, qa8, qn8, qc8, qa9, qn9, qc9, qa10, qn10, qc10, qa11, qn11, qc11, qa12, qn12, qc12, qa13, qn13, qc13, qa14, qn14, qc14⟩ ⟨rfreq, ritv, rcnt, rtil, rwkst, rends, [], rweek, ryday, rmday, rday, rhour, rminu, rsec, rpos⟩ start d true Rqx FQ.out).mono ?_
                rintro e x2 ⟨rfl, y2⟩
                clear qz0 qz1 qz2 qz3 qz4 qz5 qz6 qz7 qz8 qz9 qz10 qz11 qz12 qz13 qz14
                go_wp2
                go_meet
                exact ⟨rfl, y1.trans (y2.mono y1.size)⟩
          · have t1 : decide ((0 : Int) < (rn10 : Int) + (rn8 : Int) + (rn9 : Int)) = false := decide_eq_false (by omega)
            go_wp2
            go_meet
            exact ⟨rfl, Below.refl _ _⟩
        case rest =>
          obtain ⟨rfl, bc⟩ := hcut
          generalize wc = w9 at *
          have B9 := B8.trans (bc.mono B8.size)
          have Xr9 := Xr8.below bc
          have Xq9 := Xq8.below bc
          have Xp9 := Xp8.below bc
          have Rr9 := Rr8.below bc
          have Rq9 := Rq8.below bc
          have Rp9 := Rp8.below bc
          clear B8 Xr8 Xq8 Xp8 Rr8 Rq8 Rp8
          clear bc
          as_aux_lemma =>
            go_upto_region 12 with fail
            go_cut [84] (fun s wx => s = .bool false ∧ Below w9.heap.size w9 wx)
            case first =>
              have rz10 : w9.cell? ⟨w.heap.size, 10, none⟩ = some (.slice ra10 rn10 rc10) := Xr9.at_ 10 _ rfl
              by_cases c1 : 0 < rn10
              · obtain ⟨mq, hq⟩ : ∃ m, mayR ⟨rfreq, ritv, rcnt, rtil, rwkst, rends, rmon, rweek, [], [], rday, rhour, rminu, rsec, rpos⟩ = m := ⟨_, rfl⟩
                have HQ := Lib.hid hq
                clear hq
                have pz0 : w9.cell? ⟨w7.heap.size, 0, none⟩ = some (.int .i64 rfreq) := Xp9.at_ 0 _ rfl
                have pz1 : w9.cell? ⟨w7.heap.size, 1, none⟩ = some (.int .i64 ritv) := Xp9.at_ 1 _ rfl
                have pz2 : w9.cell? ⟨w7.heap.size, 2, none⟩ = some (.int .i64 rcnt) := Xp9.at_ 2 _ rfl
                have pz3 : w9.cell? ⟨w7.heap.size, 3, none⟩ = some (.int .i64 rtil) := Xp9.at_ 3 _ rfl
                have pz4 : w9.cell? ⟨w7.heap.size, 4, none⟩ = some (.int .i64 rwkst) := Xp9.at_ 4 _ rfl
                have pz5 : w9.cell? ⟨w7.heap.size, 5, none⟩ = some (.bool rends) := Xp9.at_ 5 _ rfl
                have pz6 : w9.cell? ⟨w7.heap.size, 6, none⟩ = some (.slice pa6 pn6 pc6) := Xp9.at_ 6 _ rfl
                have pz7 : w9.cell? ⟨w7.heap.size, 7, none⟩ = some (.slice pa7 pn7 pc7) := Xp9.at_ 7 _ rfl
                have pz8 : w9.cell? ⟨w7.heap.size, 8, none⟩ = some (.slice none 0 0) := Xp9.at_ 8 _ rfl
                have pz9 : w9.cell? ⟨w7.heap.size, 9, none⟩ = some (.slice none 0 0) := Xp9.at_ 9 _ rfl
                have pz10 : w9.cell? ⟨w7.heap.size, 10, none⟩ = some (.slice pa10 pn10 pc10) := Xp9.at_ 10 _ rfl
                have pz11 : w9.cell? ⟨w7.heap.size, 11, none⟩ = some (.slice pa11 pn11 pc11) := Xp9.at_ 11 _ rfl
                have pz12 : w9.cell? ⟨w7.heap.size, 12, none⟩ = some (.slice pa12 pn12 pc12) := Xp9.at_ 12 _ rfl
                have pz13 : w9.cell? ⟨w7.heap.size, 13, none⟩ = some (.slice pa13 pn13 pc13) := Xp9.at_ 13 _ rfl
                have pz14 : w9.cell? ⟨w7.heap.size, 14, none⟩ = some (.slice pa14 pn14 pc14) := Xp9.at_ 14 _ rfl
                go_wp2_with fail
                refine (may_r _ ⟨pa6, pn6, pc6, pa7, pn7, pc7, none, 0, 0, none, 0, 0, pa10, pn10, pc10, pa11, pn11, pc11, pa12, pn12, pc12, pa13, pn13, pc13, pa14, pn14, pc14⟩ ⟨rfreq, ritv, rcnt, rtil, rwkst, rends, rmon, rweek, [], [], rday, rhour, rminu, rsec, rpos⟩ mq Rp9 HQ.out).mono ?_
                rintro e x1 ⟨rfl, y1⟩
                clear rz10
                clear pz0 pz1 pz2 pz3 pz4 pz5 pz6 pz7 pz8 pz9 pz10 pz11 pz12 pz13 pz14
                cases mq
                · go_wp2
                  go_meet
                  exact ⟨rfl, y1⟩
                · have FQ := Lib.hid (PD.out (by have e : rn10 = rday.length := E10.out; show 0 < rday.length; omega) HQ.out)
                  have Xpx := Xp9.below y1
                  have Rpx := Rp9.below y1
                  have pz0 : x1.cell? ⟨w7.heap.size, 0, none⟩ = some (.int .i64 rfreq) := Xpx.at_ 0 _ rfl
                  have pz1 : x1.cell? ⟨w7.heap.size, 1, none⟩ = some (.int .i64 ritv) := Xpx.at_ 1 _ rfl
                  have pz2 : x1.cell? ⟨w7.heap.size, 2, none⟩ = some (.int .i64 rcnt) := Xpx.at_ 2 _ rfl
                  have pz3 : x1.cell? ⟨w7.heap.size, 3, none⟩ = some (.int .i64 rtil) := Xpx.at_ 3 _ rfl
                  have pz4 : x1.cell? ⟨w7.heap.size, 4, none⟩ = some (.int .i64 rwkst) := Xpx.at_ 4 _ rfl
                  have pz5 : x1.cell? ⟨w7.heap.size, 5, none⟩ = some (.bool rends) := Xpx.at_ 5 _ rfl
                  have pz6 : x1.cell? ⟨w7.heap.size, 6, none⟩ = some (.slice pa6 pn6 pc6) := Xpx.at_ 6 _ rfl
                  have pz7 : x1.cell? ⟨w7.heap.size, 7, none⟩ = some (.slice pa7 pn7 pc7) := Xpx.at_ 7 _ rfl
                  have pz8 : x1.cell? ⟨w7.heap.size, 8, none⟩ = some (.slice none 0 0) := Xpx.at_ 8 _ rfl
                  have pz9 : x1.cell? ⟨w7.heap.size, 9, none⟩ = some (.slice none 0 0) := Xpx.at_ 9 _ rfl
                  have pz10 : x1.cell? ⟨w7.heap.size, 10, none⟩ = some (.slice pa10 pn10 pc10) := Xpx.at_ 10 _ rfl
                  have pz11 : x1.cell? ⟨w7.heap.size, 11, none⟩ = some (.slice pa11 pn11 pc11) := Xpx.at_ 11 _ rfl
                  have pz12 : x1.cell? ⟨w7.heap.size, 12, none⟩ = some (.slice pa12 pn12 pc12) := Xpx.at_ 12 _ rfl
                  have pz13 : x1.cell? ⟨w7.heap.size, 13, none⟩ = some (.slice pa13 pn13 pc13) := Xpx.at_ 13 _ rfl
                  have pz14 : x1.cell? ⟨w7.heap.size, 14, none⟩ = some (.slice pa14 pn14 pc14) := Xpx.at_ 14 _ rfl
                  go_wp2_with fail
                  refine (fits_is _ ⟨pa6, pn6, pc6, pa7, pn7, pc7, none, 0, 0, none, 0, 0, pa10, pn10, pc10, pa11, pn11, pc11, pa12, pn12, pc12, pa13, pn13, pc13, pa14, pn14, pc14⟩ ⟨rfreq, ritv, rcnt, rtil, rwkst, rends, rmon, rweek, [], [], rday, rhour, rminu, rsec, rpos⟩ start d true Rpx FQ.out).mono ?_
                  rintro e x2 ⟨rfl, y2⟩
                  clear pz0 pz1 pz2 pz3 pz4 pz5 pz6 pz7 pz8 pz9 pz10 pz11 pz12 pz13 pz14
                  go_wp2
                  go_meet
                  exact ⟨rfl, y1.trans (y2.mono y1.size)⟩
              · go_wp2
                go_meet
                exact ⟨rfl, Below.refl _ _⟩
            case rest =>
              obtain ⟨rfl, bc⟩ := hcut
              generalize wc = w10 at *
              have B10 := B9.trans (bc.mono B9.size)
              have Xr10 := Xr9.below bc
              have Xq10 := Xq9.below bc
              have Xp10 := Xp9.below bc
              have Rr10 := Rr9.below bc
              have Rq10 := Rq9.below bc
              have Rp10 := Rp9.below bc
              clear B9 Xr9 Xq9 Xp9 Rr9 Rq9 Rp9
              clear bc
              as_aux_lemma =>
                clear Xq10 Rq10
                clear Xp10 Rp10
                go_upto_region 14 with fail
                have hd := of_decide_eq_true PH.out.1
                go_wp2_with fail
                refine (date_yes d _ hd.1 hd.2).mono ?_
                rintro e w' ⟨rfl, rfl⟩
                go_wp2_with fail
                refine (first_is _ (TT.out.on B10)).mono ?_
                rintro e w11 ⟨rfl, b11⟩
                have B11 := B10.trans (b11.mono B10.size)
                have Xr11 := Xr10.below b11
                have Rr11 := Rr10.below b11
                clear B10 Xr10 Rr10
                clear b11
                have rz6 : w11.cell? ⟨w.heap.size, 6, none⟩ = some (.slice ra6 rn6 rc6) := Xr11.at_ 6 _ rfl
                by_cases c1 : rn6 = 0
                · have C1 := Lib.hid c1
                  clear c1
                  have t1 : ((rn6 : Int) == 0) = true := by rw [beq_iff_eq]; have := C1.out; omega
                  go_wp2
                  go_ret
                  exact ⟨rfl, B11⟩
                · have t1 : ((rn6 : Int) == 0) = false := by rw [beq_eq_false_iff_ne]; omega
                  have IN := Lib.hid (show Cv.mon d ∈ rmon from PH.out.2.resolve_left (fun e => c1 (by have a : rn6 = rmon.length := EM.out; rw [show rmon = [] from e] at a; simpa using a)))
                  go_wp2_with fail
                  refine (vhas_is _ ra6 rn6 rc6 rmon (Cv.mon d) Rr11.h6 (by omega) true (decide_eq_true IN.out)).mono ?_
                  rintro e w12 ⟨rfl, b12⟩
                  have B12 := B11.trans (b12.mono B11.size)
                  have Xr12 := Xr11.below b12
                  have Rr12 := Rr11.below b12
                  clear B11 Xr11 Rr11
                  clear b12
                  go_wp2
                  go_ret
                  exact ⟨rfl, B12⟩
theorem parts_walk (w : World) (T : Tabs w) (S : RS) (r : Ru) (start d : Int) (h : RuIn w S r) :
    Calls Tryz.prog 5 #[S.val r, .int .i64 start, .int .i64 d] w fun e w' => e = .returned (.bool true) ∧ Below w.heap.size w w' := by
  cases hx : fewB S
  · exact parts_a w T S r start d h hx
  cases hm : mayR r
  · exact parts_b w T S r start d h hx hm
  cases hf : fitsB r start d
  · exact parts_c w T S r start d h hx hm hf
  · exact parts_d w T S r start d h hx hm hf
end Go.Proofs.YtkkmhjplfpdhcaaGreatDoor.Dd
