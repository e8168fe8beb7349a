/- The walk of package member's daysOf. -/
import Derived.Test.YtnfcchimkfnmkaaGreatDoorMbC
set_option linter.unusedVariables false
namespace Go.Proofs.YtnfcchimkfnmkaaGreatDoor.Mb
open Go.RowKit Cv St Ru Dd

def fitL (r : Ru) (start a : Int) (k : Nat) : List Int := (span a k).filter fun n => fitsB r start n
theorem fitL_yes {r : Ru} {start a : Int} {k : Nat} (h : fitsB r start (a + k) = true) : fitL r start a (k + 1) = fitL r start a k ++ [a + k] := by
  unfold fitL; rw [span_succ, List.filter_append]; simp [h]
theorem fitL_no {r : Ru} {start a : Int} {k : Nat} (h : fitsB r start (a + k) = false) : fitL r start a (k + 1) = fitL r start a k := by
  unfold fitL; rw [span_succ, List.filter_append]; simp [h]
theorem fitL_len (r : Ru) (start a : Int) (k : Nat) : (fitL r start a k).length ≤ k := Nat.le_trans (List.length_filter_le _ _) (by rw [span_len]; exact Nat.le_refl _)
theorem days_bd (r : Ru) (t : Int) : -800000 ≤ (daysR r t).1 ∧ (daysR r t).2 ≤ 3000000 := by
  unfold daysR
  split
  · simp only; omega
  · simp
set_option maxRecDepth 100000 in
set_option maxHeartbeats 8000000 in
/-- member.daysOf -/
theorem daysOf_is (w : World) (S : RS) (r : Ru) (start t : Int) (m : List Int) (h : RuAt w S r) (hx : dysR r start t = m) :
    Calls Tryz.prog 108 #[S.val r, .int .i64 start, .int .i64 t] w (ListIs w m) := by
  have RA := Lib.hid h
  have FW := days_few (r := r) (t := t)
  have BDS := days_bd r t
  obtain ⟨⟨a, b⟩, hab⟩ : ∃ p, daysR r t = p := ⟨_, rfl⟩
  obtain ⟨k, hk⟩ : ∃ k, (b - a + 1).toNat = k := ⟨_, rfl⟩
  have XT := Lib.hid (show fitL r start a k = m by rw [← hx, ← hk]; unfold dysR; rw [hab]; rfl)
  rw [hab] at FW BDS
  replace FW : k ≤ 401 := by rw [← hk]; exact FW
  obtain ⟨a0, b0⟩ := show -800000 ≤ a ∧ b ≤ 3000000 from BDS
  have HAB := Lib.hid hab
  have kk : a + (k : Int) ≤ b + 1 ∨ k = 0 := by omega
  have kb : ∀ i : Nat, i < k → a + (i : Int) ≤ b := fun i hi => by omega
  have kc : ¬ a + (k : Int) ≤ b := by omega
  have KB := Lib.hid kb
  have KC := Lib.hid kc
  have KK := Lib.hid kk
  clear h hx hab hk BDS kb kc kk
  obtain ⟨ra6, rn6, rc6, ra7, rn7, rc7, ra8, rn8, rc8, ra9, rn9, rc9, ra10, rn10, rc10, ra11, rn11, rc11, ra12, rn12, rc12, ra13, rn13, rc13, ra14, rn14, rc14⟩ := S
  obtain ⟨rfreq, ritv, rcnt, rtil, rwkst, rends, rmon, rweek, ryday, rmday, rday, rhour, rminu, rsec, rpos⟩ := r
  show Calls Tryz.prog 108 #[.agg #[.int .i64 rfreq, .int .i64 ritv, .int .i64 rcnt, .int .i64 rtil, .int .i64 rwkst, .bool rends, .slice ra6 rn6 rc6, .slice ra7 rn7 rc7, .slice ra8 rn8 rc8, .slice ra9 rn9 rc9, .slice ra10 rn10 rc10, .slice ra11 rn11 rc11, .slice ra12 rn12 rc12, .slice ra13 rn13 rc13, .slice ra14 rn14 rc14], .int .i64 start, .int .i64 t] w _
  go_enter Tryz.func108, Tryz.ntmps108
  go_upto_region 1 with fail
  have B0 := alloc_below w (.cells #[.int .i64 rfreq, .int .i64 ritv, .int .i64 rcnt, .int .i64 rtil, .int .i64 rwkst, .bool rends, .slice ra6 rn6 rc6, .slice ra7 rn7 rc7, .slice ra8 rn8 rc8, .slice ra9 rn9 rc9, .slice ra10 rn10 rc10, .slice ra11 rn11 rc11, .slice ra12 rn12 rc12, .slice ra13 rn13 rc13, .slice ra14 rn14 rc14] 25)
  have Xr0 := Box.new w #[.int .i64 rfreq, .int .i64 ritv, .int .i64 rcnt, .int .i64 rtil, .int .i64 rwkst, .bool rends, .slice ra6 rn6 rc6, .slice ra7 rn7 rc7, .slice ra8 rn8 rc8, .slice ra9 rn9 rc9, .slice ra10 rn10 rc10, .slice ra11 rn11 rc11, .slice ra12 rn12 rc12, .slice ra13 rn13 rc13, .slice ra14 rn14 rc14] 25
  generalize w.alloc (.cells #[.int .i64 rfreq, .int .i64 ritv, .int .i64 rcnt, .int .i64 rtil, .int .i64 rwkst, .bool rends, .slice ra6 rn6 rc6, .slice ra7 rn7 rc7, .slice ra8 rn8 rc8, .slice ra9 rn9 rc9, .slice ra10 rn10 rc10, .slice ra11 rn11 rc11, .slice ra12 rn12 rc12, .slice ra13 rn13 rc13, .slice ra14 rn14 rc14] 25) = w0 at *
  have rz0 : w0.cell? ⟨w.heap.size, 0, none⟩ = some (.int .i64 rfreq) := Xr0.at_ 0 _ rfl
  have rz1 : w0.cell? ⟨w.heap.size, 1, none⟩ = some (.int .i64 ritv) := Xr0.at_ 1 _ rfl
  have rz2 : w0.cell? ⟨w.heap.size, 2, none⟩ = some (.int .i64 rcnt) := Xr0.at_ 2 _ rfl
  have rz3 : w0.cell? ⟨w.heap.size, 3, none⟩ = some (.int .i64 rtil) := Xr0.at_ 3 _ rfl
  have rz4 : w0.cell? ⟨w.heap.size, 4, none⟩ = some (.int .i64 rwkst) := Xr0.at_ 4 _ rfl
  have rz5 : w0.cell? ⟨w.heap.size, 5, none⟩ = some (.bool rends) := Xr0.at_ 5 _ rfl
  have rz6 : w0.cell? ⟨w.heap.size, 6, none⟩ = some (.slice ra6 rn6 rc6) := Xr0.at_ 6 _ rfl
  have rz7 : w0.cell? ⟨w.heap.size, 7, none⟩ = some (.slice ra7 rn7 rc7) := Xr0.at_ 7 _ rfl
  have rz8 : w0.cell? ⟨w.heap.size, 8, none⟩ = some (.slice ra8 rn8 rc8) := Xr0.at_ 8 _ rfl
  have rz9 : w0.cell? ⟨w.heap.size, 9, none⟩ = some (.slice ra9 rn9 rc9) := Xr0.at_ 9 _ rfl
  have rz10 : w0.cell? ⟨w.heap.size, 10, none⟩ = some (.slice ra10 rn10 rc10) := Xr0.at_ 10 _ rfl
  have rz11 : w0.cell? ⟨w.heap.size, 11, none⟩ = some (.slice ra11 rn11 rc11) := Xr0.at_ 11 _ rfl
  have rz12 : w0.cell? ⟨w.heap.size, 12, none⟩ = some (.slice ra12 rn12 rc12) := Xr0.at_ 12 _ rfl
  have rz13 : w0.cell? ⟨w.heap.size, 13, none⟩ = some (.slice ra13 rn13 rc13) := Xr0.at_ 13 _ rfl
  have rz14 : w0.cell? ⟨w.heap.size, 14, none⟩ = some (.slice ra14 rn14 rc14) := Xr0.at_ 14 _ rfl
  go_upto_region 2 with fail
  clear rz0 rz1 rz2 rz3 rz4 rz5 rz6 rz7 rz8 rz9 rz10 rz11 rz12 rz13 rz14
  have rz0 : w0.cell? ⟨w.heap.size, 0, none⟩ = some (.int .i64 rfreq) := Xr0.at_ 0 _ rfl
  have rz1 : w0.cell? ⟨w.heap.size, 1, none⟩ = some (.int .i64 ritv) := Xr0.at_ 1 _ rfl
  have rz2 : w0.cell? ⟨w.heap.size, 2, none⟩ = some (.int .i64 rcnt) := Xr0.at_ 2 _ rfl
  have rz3 : w0.cell? ⟨w.heap.size, 3, none⟩ = some (.int .i64 rtil) := Xr0.at_ 3 _ rfl
  have rz4 : w0.cell? ⟨w.heap.size, 4, none⟩ = some (.int .i64 rwkst) := Xr0.at_ 4 _ rfl
  have rz5 : w0.cell? ⟨w.heap.size, 5, none⟩ = some (.bool rends) := Xr0.at_ 5 _ rfl
  have rz6 : w0.cell? ⟨w.heap.size, 6, none⟩ = some (.slice ra6 rn6 rc6) := Xr0.at_ 6 _ rfl
  have rz7 : w0.cell? ⟨w.heap.size, 7, none⟩ = some (.slice ra7 rn7 rc7) := Xr0.at_ 7 _ rfl
  have rz8 : w0.cell? ⟨w.heap.size, 8, none⟩ = some (.slice ra8 rn8 rc8) := Xr0.at_ 8 _ rfl
  have rz9 : w0.cell? ⟨w.heap.size, 9, none⟩ = some (.slice ra9 rn9 rc9) := Xr0.at_ 9 _ rfl
  have rz10 : w0.cell? ⟨w.heap.size, 10, none⟩ = some (.slice ra10 rn10 rc10) := Xr0.at_ 10 _ rfl
  have rz11 : w0.cell? ⟨w.heap.size, 11, none⟩ = some (.slice ra11 rn11 rc11) := Xr0.at_ 11 _ rfl
  have rz12 : w0.cell? ⟨w.heap.size, 12, none⟩ = some (.slice ra12 rn12 rc12) := Xr0.at_ 12 _ rfl
  have rz13 : w0.cell? ⟨w.heap.size, 13, none⟩ = some (.slice ra13 rn13 rc13) := Xr0.at_ 13 _ rfl
  have rz14 : w0.cell? ⟨w.heap.size, 14, none⟩ = some (.slice ra14 rn14 rc14) := Xr0.at_ 14 _ rfl
  go_wp2_with fail
  refine (daysP_is _ ⟨ra6, rn6, rc6, ra7, rn7, rc7, ra8, rn8, rc8, ra9, rn9, rc9, ra10, rn10, rc10, ra11, rn11, rc11, ra12, rn12, rc12, ra13, rn13, rc13, ra14, rn14, rc14⟩ ⟨rfreq, ritv, rcnt, rtil, rwkst, rends, rmon, rweek, ryday, rmday, rday, rhour, rminu, rsec, rpos⟩ t a b (RA.out.below B0) HAB.out).mono ?_
  rintro e w1 ⟨rfl, b1⟩
  clear rz0 rz1 rz2 rz3 rz4 rz5 rz6 rz7 rz8 rz9 rz10 rz11 rz12 rz13 rz14
  have B1 := B0.trans (b1.mono B0.size)
  have Xr1 := Xr0.below b1
  clear B0 Xr0
  clear b1
  go_wp2
  go_loopw [7, 10] (fun ov i wr => ∃ (v : Value) (t1 : Nat) (acc : List Int), t1 ≤ k ∧ v = ov ∧ i = .int .i64 (a + t1) ∧ OwnI w1 wr v acc ∧ Hid (fitL ⟨rfreq, ritv, rcnt, rtil, rwkst, rends, rmon, rweek, ryday, rmday, rday, rhour, rminu, rsec, rpos⟩ start a t1 = acc) ∧ Below w1.heap.size w1 wr) (fun _ i _ => k - (intOf i - a).toNat)
  case atStart => exact ⟨_, 0, [], Nat.zero_le _, rfl, by simp, OwnI.nil _ _, Lib.hid rfl, Below.refl _ _⟩
  case round =>
    obtain ⟨v0, t1, acc1, ht1, rfl, rfl, ov1, D1, hB1⟩ := hrel
    have OV := Lib.hid ov1
    clear ov1
    by_cases hlt1 : t1 < k
    · have c1 : a + (t1 : Int) ≤ b := KB.out t1 hlt1
      have t0 : decide (a + (t1 : Int) ≤ b) = true := decide_eq_true c1
      have SZ : acc1.length ≤ 1000000 := by rw [← D1.out]; have := fitL_len ⟨rfreq, ritv, rcnt, rtil, rwkst, rends, rmon, rweek, ryday, rmday, rday, rhour, rminu, rsec, rpos⟩ start a t1; omega
      obtain ⟨f, hf⟩ : ∃ f, fitsB ⟨rfreq, ritv, rcnt, rtil, rwkst, rends, rmon, rweek, ryday, rmday, rday, rhour, rminu, rsec, rpos⟩ start (a + t1) = f := ⟨_, rfl⟩
      have HF := Lib.hid hf
      have FY := Lib.hid (fun (e : f = true) => show fitL ⟨rfreq, ritv, rcnt, rtil, rwkst, rends, rmon, rweek, ryday, rmday, rday, rhour, rminu, rsec, rpos⟩ start a (t1 + 1) = acc1 ++ [a + t1] by rw [fitL_yes (by rw [hf]; exact e), D1.out])
      have FN := Lib.hid (fun (e : f = false) => show fitL ⟨rfreq, ritv, rcnt, rtil, rwkst, rends, rmon, rweek, ryday, rmday, rday, rhour, rminu, rsec, rpos⟩ start a (t1 + 1) = acc1 by rw [fitL_no (by rw [hf]; exact e), D1.out])
      clear hf
      have IW : IntKind.i64.wrap (a + (t1 : Int) + 1) = a + (t1 : Int) + 1 := IntWalk.i64_in _ (by omega)
      have IE : a + (t1 : Int) + 1 = a + ((t1 + 1 : Nat) : Int) := by omega
      have XRr := Xr1.below hB1
      have BR := B1.trans (hB1.mono B1.size)
      have rz0 : wr.cell? ⟨w.heap.size, 0, none⟩ = some (.int .i64 rfreq) := XRr.at_ 0 _ rfl
      have rz1 : wr.cell? ⟨w.heap.size, 1, none⟩ = some (.int .i64 ritv) := XRr.at_ 1 _ rfl
      have rz2 : wr.cell? ⟨w.heap.size, 2, none⟩ = some (.int .i64 rcnt) := XRr.at_ 2 _ rfl
      have rz3 : wr.cell? ⟨w.heap.size, 3, none⟩ = some (.int .i64 rtil) := XRr.at_ 3 _ rfl
      have rz4 : wr.cell? ⟨w.heap.size, 4, none⟩ = some (.int .i64 rwkst) := XRr.at_ 4 _ rfl
      have rz5 : wr.cell? ⟨w.heap.size, 5, none⟩ = some (.bool rends) := XRr.at_ 5 _ rfl
      have rz6 : wr.cell? ⟨w.heap.size, 6, none⟩ = some (.slice ra6 rn6 rc6) := XRr.at_ 6 _ rfl
      have rz7 : wr.cell? ⟨w.heap.size, 7, none⟩ = some (.slice ra7 rn7 rc7) := XRr.at_ 7 _ rfl
      have rz8 : wr.cell? ⟨w.heap.size, 8, none⟩ = some (.slice ra8 rn8 rc8) := XRr.at_ 8 _ rfl
      have rz9 : wr.cell? ⟨w.heap.size, 9, none⟩ = some (.slice ra9 rn9 rc9) := XRr.at_ 9 _ rfl
      have rz10 : wr.cell? ⟨w.heap.size, 10, none⟩ = some (.slice ra10 rn10 rc10) := XRr.at_ 10 _ rfl
      have rz11 : wr.cell? ⟨w.heap.size, 11, none⟩ = some (.slice ra11 rn11 rc11) := XRr.at_ 11 _ rfl
      have rz12 : wr.cell? ⟨w.heap.size, 12, none⟩ = some (.slice ra12 rn12 rc12) := XRr.at_ 12 _ rfl
      have rz13 : wr.cell? ⟨w.heap.size, 13, none⟩ = some (.slice ra13 rn13 rc13) := XRr.at_ 13 _ rfl
      have rz14 : wr.cell? ⟨w.heap.size, 14, none⟩ = some (.slice ra14 rn14 rc14) := XRr.at_ 14 _ rfl
      obtain ⟨g, hg⟩ : ∃ g, a + (t1 : Int) = g := ⟨_, rfl⟩
      rw [hg] at c1 t0 IW IE HF FY ⊢
      have HG := Lib.hid hg
      clear hg
      go_wp2_with fail
      refine (fits_is _ ⟨ra6, rn6, rc6, ra7, rn7, rc7, ra8, rn8, rc8, ra9, rn9, rc9, ra10, rn10, rc10, ra11, rn11, rc11, ra12, rn12, rc12, ra13, rn13, rc13, ra14, rn14, rc14⟩ ⟨rfreq, ritv, rcnt, rtil, rwkst, rends, rmon, rweek, ryday, rmday, rday, rhour, rminu, rsec, rpos⟩ start g f (RA.out.below BR) HF.out).mono ?_
      rintro e w5 ⟨rfl, b5⟩
      clear rz0 rz1 rz2 rz3 rz4 rz5 rz6 rz7 rz8 rz9 rz10 rz11 rz12 rz13 rz14
      have hB5 := hB1.trans (b5.mono hB1.size)
      cases f
      · have OV5 := Lib.hid (OV.out.on b5)
        have F2 := FN.out rfl
        have F3 := Lib.hid F2
        clear FN FY F2
        go_wp2
        go_roundw
        case rel => exact ⟨v0, t1 + 1, acc1, by omega, rfl, by have := HG.out; first | (congr 1 <;> omega) | (simp; omega), OV5.out, F3, hB5⟩
        case measure => simp [intOf]; omega
      · have F2 := FY.out rfl
        have F3 := Lib.hid F2
        clear FN FY F2
        go_wp2_with (at_builtin; refine append_num rfl _ _ rfl _ acc1 rfl (OV.out.on b5) hB5 _ _ _ rfl SZ ?_)
        intro v4 w4 ow4 hb4
        have OW := Lib.hid ow4
        clear ow4
        go_wp2
        go_roundw
        case rel => exact ⟨v4, t1 + 1, _, by omega, rfl, by have := HG.out; first | (congr 1 <;> omega) | (simp; omega), OW.out, F3, hb4⟩
        case measure => simp [intOf]; omega
    · obtain rfl : k = t1 := by omega
      have t0 : decide (a + (k : Int) ≤ b) = false := decide_eq_false (by have := KC.out; omega)
      have E1 := Lib.hid (show m = acc1 by rw [← XT.out, ← D1.out])
      go_wp2
      go_ret
      obtain ⟨A, c, rfl, ia, -, -⟩ := OV.out.at_
      have e := E1.out
      subst e
      exact ⟨A, c, rfl, ia, B1.trans (hB1.mono B1.size)⟩
end Go.Proofs.YtnfcchimkfnmkaaGreatDoor.Mb
