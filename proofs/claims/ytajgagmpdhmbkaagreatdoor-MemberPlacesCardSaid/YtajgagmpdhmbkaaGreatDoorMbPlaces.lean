/- MemberPlaces answers true. -/
import Derived.Test.YtajgagmpdhmbkaaGreatDoorMbIn
set_option linter.unusedVariables false
namespace Go.Proofs.YtajgagmpdhmbkaaGreatDoor.Mb
open Go.RowKit Cv St Ru Dd

def twoS (S : RS) (g : Nat) : RS := { S with a14 := some ⟨g, 0, none⟩, n14 := 2, c14 := 2 }
theorem two_at (w : World) (g : Nat) (x y : Int) (hg : g < w.heap.size) (h0 : w.cell? ⟨g, 0, none⟩ = some (.int .i64 x)) (h1 : w.cell? ⟨g, 1, none⟩ = some (.int .i64 y)) : IsAt w (some ⟨g, 0, none⟩) 2 [x, y] :=
  ⟨rfl, fun _ => ⟨g, 0, rfl, hg, fun j hj => by
    have : j = 0 ∨ j = 1 := by omega
    rcases this with rfl | rfl
    · exact h0
    · exact h1⟩⟩
theorem iat_mem2 {l : List Int} {i : Nat} (hi : i < l.length) : iat l i = l[i] := iat_lt hi
set_option maxRecDepth 100000 in
set_option maxHeartbeats 16000000 in
theorem places_walk (w : World) (T : Tabs w) (S : RS) (r : Ru) (start t k : Int) (h : RuIn w S r) (l3 : -9223372036854775808 ≤ k) (u3 : k ≤ 9223372036854775807) :
    Calls Tryz.prog 7 #[S.val r, .int .i64 start, .int .i64 t, .int .i64 k] w fun e w' => e = .returned (.bool true) ∧ Below w.heap.size w w' := by
  have TT := Lib.hid T
  have HK := Lib.hid h
  have FEW := Lib.hid (fun (e : fewB S = true) => h.few e)
  obtain ⟨⟨l, z⟩, hp⟩ : ∃ p, setR r start t 2000 = p := ⟨_, rfl⟩
  obtain ⟨m, hm⟩ : ∃ m, mayR (placeR r k) = m := ⟨_, rfl⟩
  have LL : (l.length : Int) ≤ 2000 := by have := setR_few (r := r) (start := start) (t := t) (most := 2000) (by decide); rw [hp] at this; exact this
  have PL := Lib.hid (fun (e : 1 ≤ k) (f : m = true) (g : z = 0) (i : Nat) (hi : i < l.length) => show hasM (placeR r k) start (iat l i) = (decide ((i : Int) + 1 = k ∨ ((l.length : Int) - i = k)) && decide (start ≤ iat l i) && (!r.ends || decide (iat l i ≤ r.til))) by
    have q := place_has (r := r) (start := start) (t := t) (k := k) (i := i) e (hm.trans f) (by rw [hp]; exact g) (by rw [hp]; exact hi)
    have e1 : (setR r start t 2000).1 = l := by rw [hp]
    have key : ∀ (l' : List Int) (hi : i < l'.length), l' = l → hasM (placeR r k) start (l'[i]) = (decide ((i : Int) + 1 = k ∨ ((l'.length : Int) - i = k)) && decide (start ≤ l'[i]) && (!r.ends || decide (l'[i] ≤ r.til))) → hasM (placeR r k) start (iat l i) = (decide ((i : Int) + 1 = k ∨ ((l.length : Int) - i = k)) && decide (start ≤ iat l i) && (!r.ends || decide (iat l i ≤ r.til))) := by
      intro l' hi' e2 h2
      subst e2
      rw [iat_lt hi']
      exact h2
    exact key _ _ e1 q)
  have HP := Lib.hid hp
  have HM := Lib.hid hm
  clear hp hm
  clear h T
  obtain ⟨ra6, rn6, rc6, ra7, rn7, rc7, ra8, rn8, rc8, ra9, rn9, rc9, ra10, rn10, rc10, ra11, rn11, rc11, ra12, rn12, rc12, ra13, rn13, rc13, ra14, rn14, rc14⟩ := S
  obtain ⟨rfreq, ritv, rcnt, rtil, rwkst, rends, rmon, rweek, ryday, rmday, rday, rhour, rminu, rsec, rpos⟩ := r
  show Calls Tryz.prog 7 #[.agg #[.int .i64 rfreq, .int .i64 ritv, .int .i64 rcnt, .int .i64 rtil, .int .i64 rwkst, .bool rends, .slice ra6 rn6 rc6, .slice ra7 rn7 rc7, .slice ra8 rn8 rc8, .slice ra9 rn9 rc9, .slice ra10 rn10 rc10, .slice ra11 rn11 rc11, .slice ra12 rn12 rc12, .slice ra13 rn13 rc13, .slice ra14 rn14 rc14], .int .i64 start, .int .i64 t, .int .i64 k] w _
  go_enter Tryz.func7, Tryz.ntmps7
  go_upto_region 1 with fail
  have B0 := alloc_below w (.cells #[.int .i64 rfreq, .int .i64 ritv, .int .i64 rcnt, .int .i64 rtil, .int .i64 rwkst, .bool rends, .slice ra6 rn6 rc6, .slice ra7 rn7 rc7, .slice ra8 rn8 rc8, .slice ra9 rn9 rc9, .slice ra10 rn10 rc10, .slice ra11 rn11 rc11, .slice ra12 rn12 rc12, .slice ra13 rn13 rc13, .slice ra14 rn14 rc14] 25)
  have Xr0 := Box.new w #[.int .i64 rfreq, .int .i64 ritv, .int .i64 rcnt, .int .i64 rtil, .int .i64 rwkst, .bool rends, .slice ra6 rn6 rc6, .slice ra7 rn7 rc7, .slice ra8 rn8 rc8, .slice ra9 rn9 rc9, .slice ra10 rn10 rc10, .slice ra11 rn11 rc11, .slice ra12 rn12 rc12, .slice ra13 rn13 rc13, .slice ra14 rn14 rc14] 25
  generalize w.alloc (.cells #[.int .i64 rfreq, .int .i64 ritv, .int .i64 rcnt, .int .i64 rtil, .int .i64 rwkst, .bool rends, .slice ra6 rn6 rc6, .slice ra7 rn7 rc7, .slice ra8 rn8 rc8, .slice ra9 rn9 rc9, .slice ra10 rn10 rc10, .slice ra11 rn11 rc11, .slice ra12 rn12 rc12, .slice ra13 rn13 rc13, .slice ra14 rn14 rc14] 25) = w0 at *
  go_wp2_with fail
  refine (first7_is _ (TT.out.on B0)).mono ?_
  rintro e w1 ⟨rfl, b1⟩
  have B1 := B0.trans (b1.mono B0.size)
  have Xr1 := Xr0.below b1
  clear B0 Xr0
  clear b1
  have HM := Lib.hid (show mayR ⟨rfreq, ritv, rcnt, rtil, rwkst, rends, rmon, rweek, ryday, rmday, rday, rhour, rminu, rsec, [-k, k]⟩ = m from HM.out)
  have PLF := Lib.hid (fun (e : 1 ≤ k) (f : m = true) (g : z = 0) (i : Nat) (hi : i < l.length) => show hasM ⟨rfreq, ritv, rcnt, rtil, rwkst, rends, rmon, rweek, ryday, rmday, rday, rhour, rminu, rsec, [-k, k]⟩ start (iat l i) = (decide ((i : Int) + 1 = k ∨ ((l.length : Int) - i = k)) && decide (start ≤ iat l i) && (!rends || decide (iat l i ≤ rtil))) from PL.out e f g i hi)
  clear PL
  have rz0 : w1.cell? ⟨w.heap.size, 0, none⟩ = some (.int .i64 rfreq) := Xr1.at_ 0 _ rfl
  have rz1 : w1.cell? ⟨w.heap.size, 1, none⟩ = some (.int .i64 ritv) := Xr1.at_ 1 _ rfl
  have rz2 : w1.cell? ⟨w.heap.size, 2, none⟩ = some (.int .i64 rcnt) := Xr1.at_ 2 _ rfl
  have rz3 : w1.cell? ⟨w.heap.size, 3, none⟩ = some (.int .i64 rtil) := Xr1.at_ 3 _ rfl
  have rz4 : w1.cell? ⟨w.heap.size, 4, none⟩ = some (.int .i64 rwkst) := Xr1.at_ 4 _ rfl
  have rz5 : w1.cell? ⟨w.heap.size, 5, none⟩ = some (.bool rends) := Xr1.at_ 5 _ rfl
  have rz6 : w1.cell? ⟨w.heap.size, 6, none⟩ = some (.slice ra6 rn6 rc6) := Xr1.at_ 6 _ rfl
  have rz7 : w1.cell? ⟨w.heap.size, 7, none⟩ = some (.slice ra7 rn7 rc7) := Xr1.at_ 7 _ rfl
  have rz8 : w1.cell? ⟨w.heap.size, 8, none⟩ = some (.slice ra8 rn8 rc8) := Xr1.at_ 8 _ rfl
  have rz9 : w1.cell? ⟨w.heap.size, 9, none⟩ = some (.slice ra9 rn9 rc9) := Xr1.at_ 9 _ rfl
  have rz10 : w1.cell? ⟨w.heap.size, 10, none⟩ = some (.slice ra10 rn10 rc10) := Xr1.at_ 10 _ rfl
  have rz11 : w1.cell? ⟨w.heap.size, 11, none⟩ = some (.slice ra11 rn11 rc11) := Xr1.at_ 11 _ rfl
  have rz12 : w1.cell? ⟨w.heap.size, 12, none⟩ = some (.slice ra12 rn12 rc12) := Xr1.at_ 12 _ rfl
  have rz13 : w1.cell? ⟨w.heap.size, 13, none⟩ = some (.slice ra13 rn13 rc13) := Xr1.at_ 13 _ rfl
  have rz14 : w1.cell? ⟨w.heap.size, 14, none⟩ = some (.slice ra14 rn14 rc14) := Xr1.at_ 14 _ rfl
  go_wp2_with fail
  refine (light_is _ ⟨ra6, rn6, rc6, ra7, rn7, rc7, ra8, rn8, rc8, ra9, rn9, rc9, ra10, rn10, rc10, ra11, rn11, rc11, ra12, rn12, rc12, ra13, rn13, rc13, ra14, rn14, rc14⟩ ⟨rfreq, ritv, rcnt, rtil, rwkst, rends, rmon, rweek, ryday, rmday, rday, rhour, rminu, rsec, rpos⟩ start (in_below HK.out B1)).mono ?_
  rintro e w2 ⟨⟨lb, rfl, HB⟩, b2⟩
  clear rz0 rz1 rz2 rz3 rz4 rz5 rz6 rz7 rz8 rz9 rz10 rz11 rz12 rz13 rz14
  have B2 := B1.trans (b2.mono B1.size)
  have Xr2 := Xr1.below b2
  clear B1 Xr1
  clear b2
  have LB := Lib.hid HB
  clear HB
  cases lb
  · go_wp2_with fail
    refine (first7_is _ (TT.out.on B2)).mono ?_
    rintro e w3 ⟨rfl, b3⟩
    have B3 := B2.trans (b3.mono B2.size)
    have Xr3 := Xr2.below b3
    clear B2 Xr2
    clear b3
    go_wp2
    go_ret
    exact ⟨rfl, B3⟩
  · have X1 := Lib.hid (LB.out rfl)
    clear LB
    have RA := Lib.hid (FEW.out X1.out)
    by_cases c1 : k < 1
    · have t1 : decide (k < 1) = true := decide_eq_true c1
      go_wp2_with fail
      refine (first7_is _ (TT.out.on B2)).mono ?_
      rintro e w3 ⟨rfl, b3⟩
      have B3 := B2.trans (b3.mono B2.size)
      have Xr3 := Xr2.below b3
      clear B2 Xr2
      clear b3
      go_wp2
      go_ret
      exact ⟨rfl, B3⟩
    · have t1 : decide (k < 1) = false := decide_eq_false c1
      by_cases c2 : 300 < k
      · have t2 : decide ((300 : Int) < k) = true := decide_eq_true c2
        go_wp2_with fail
        refine (first7_is _ (TT.out.on B2)).mono ?_
        rintro e w3 ⟨rfl, b3⟩
        have B3 := B2.trans (b3.mono B2.size)
        have Xr3 := Xr2.below b3
        clear B2 Xr2
        clear b3
        go_wp2
        go_ret
        exact ⟨rfl, B3⟩
      · have t2 : decide ((300 : Int) < k) = false := decide_eq_false c2
        have k1 : 1 ≤ k := by omega
        have k2 : k ≤ 300 := by omega
        have PLG := Lib.hid (PLF.out k1)
        have IN : IntKind.i64.wrap (-k) = -k := IntWalk.i64_in _ (by omega)
        clear l3 u3 c1 c2 PLF
        have rz0 : w2.cell? ⟨w.heap.size, 0, none⟩ = some (.int .i64 rfreq) := Xr2.at_ 0 _ rfl
        have rz1 : w2.cell? ⟨w.heap.size, 1, none⟩ = some (.int .i64 ritv) := Xr2.at_ 1 _ rfl
        have rz2 : w2.cell? ⟨w.heap.size, 2, none⟩ = some (.int .i64 rcnt) := Xr2.at_ 2 _ rfl
        have rz3 : w2.cell? ⟨w.heap.size, 3, none⟩ = some (.int .i64 rtil) := Xr2.at_ 3 _ rfl
        have rz4 : w2.cell? ⟨w.heap.size, 4, none⟩ = some (.int .i64 rwkst) := Xr2.at_ 4 _ rfl
        have rz5 : w2.cell? ⟨w.heap.size, 5, none⟩ = some (.bool rends) := Xr2.at_ 5 _ rfl
        have rz6 : w2.cell? ⟨w.heap.size, 6, none⟩ = some (.slice ra6 rn6 rc6) := Xr2.at_ 6 _ rfl
        have rz7 : w2.cell? ⟨w.heap.size, 7, none⟩ = some (.slice ra7 rn7 rc7) := Xr2.at_ 7 _ rfl
        have rz8 : w2.cell? ⟨w.heap.size, 8, none⟩ = some (.slice ra8 rn8 rc8) := Xr2.at_ 8 _ rfl
        have rz9 : w2.cell? ⟨w.heap.size, 9, none⟩ = some (.slice ra9 rn9 rc9) := Xr2.at_ 9 _ rfl
        have rz10 : w2.cell? ⟨w.heap.size, 10, none⟩ = some (.slice ra10 rn10 rc10) := Xr2.at_ 10 _ rfl
        have rz11 : w2.cell? ⟨w.heap.size, 11, none⟩ = some (.slice ra11 rn11 rc11) := Xr2.at_ 11 _ rfl
        have rz12 : w2.cell? ⟨w.heap.size, 12, none⟩ = some (.slice ra12 rn12 rc12) := Xr2.at_ 12 _ rfl
        have rz13 : w2.cell? ⟨w.heap.size, 13, none⟩ = some (.slice ra13 rn13 rc13) := Xr2.at_ 13 _ rfl
        have rz14 : w2.cell? ⟨w.heap.size, 14, none⟩ = some (.slice ra14 rn14 rc14) := Xr2.at_ 14 _ rfl
        go_wp2_with fail
        refine (copyR_own _ ⟨ra6, rn6, rc6, ra7, rn7, rc7, ra8, rn8, rc8, ra9, rn9, rc9, ra10, rn10, rc10, ra11, rn11, rc11, ra12, rn12, rc12, ra13, rn13, rc13, ra14, rn14, rc14⟩ ⟨rfreq, ritv, rcnt, rtil, rwkst, rends, rmon, rweek, ryday, rmday, rday, rhour, rminu, rsec, rpos⟩ (in_below HK.out B2) X1.out).mono ?_
        rintro e w3 ⟨⟨qa6, qn6, qc6, qa7, qn7, qc7, qa8, qn8, qc8, qa9, qn9, qc9, qa10, qn10, qc10, qa11, qn11, qc11, qa12, qn12, qc12, qa13, qn13, qc13, qa14, qn14, qc14⟩, he, hS, b3, ow⟩
        replace he : e = .returned (.agg #[.int .i64 rfreq, .int .i64 ritv, .int .i64 rcnt, .int .i64 rtil, .int .i64 rwkst, .bool rends, .slice qa6 qn6 qc6, .slice qa7 qn7 qc7, .slice qa8 qn8 qc8, .slice qa9 qn9 qc9, .slice qa10 qn10 qc10, .slice qa11 qn11 qc11, .slice qa12 qn12 qc12, .slice qa13 qn13 qc13, .slice qa14 qn14 qc14]) := he
        subst he
        clear rz0 rz1 rz2 rz3 rz4 rz5 rz6 rz7 rz8 rz9 rz10 rz11 rz12 rz13 rz14
        have B3 := B2.trans (b3.mono B2.size)
        have Xr3 := Xr2.below b3
        clear B2 Xr2
        clear b3
        go_upto_region 7 with fail
        have bA := alloc_below w3 (.cells #[.int .i64 rfreq, .int .i64 ritv, .int .i64 rcnt, .int .i64 rtil, .int .i64 rwkst, .bool rends, .slice qa6 qn6 qc6, .slice qa7 qn7 qc7, .slice qa8 qn8 qc8, .slice qa9 qn9 qc9, .slice qa10 qn10 qc10, .slice qa11 qn11 qc11, .slice qa12 qn12 qc12, .slice qa13 qn13 qc13, .slice (some ⟨w3.heap.size + 1, 0, none⟩) 2 2] 25)
        have bC := alloc_below (w3.alloc (.cells #[.int .i64 rfreq, .int .i64 ritv, .int .i64 rcnt, .int .i64 rtil, .int .i64 rwkst, .bool rends, .slice qa6 qn6 qc6, .slice qa7 qn7 qc7, .slice qa8 qn8 qc8, .slice qa9 qn9 qc9, .slice qa10 qn10 qc10, .slice qa11 qn11 qc11, .slice qa12 qn12 qc12, .slice qa13 qn13 qc13, .slice (some ⟨w3.heap.size + 1, 0, none⟩) 2 2] 25)) (.cells #[.int .i64 (-k), .int .i64 k] 3)
        have b4 : Below w3.heap.size w3 ((w3.alloc (.cells #[.int .i64 rfreq, .int .i64 ritv, .int .i64 rcnt, .int .i64 rtil, .int .i64 rwkst, .bool rends, .slice qa6 qn6 qc6, .slice qa7 qn7 qc7, .slice qa8 qn8 qc8, .slice qa9 qn9 qc9, .slice qa10 qn10 qc10, .slice qa11 qn11 qc11, .slice qa12 qn12 qc12, .slice qa13 qn13 qc13, .slice (some ⟨w3.heap.size + 1, 0, none⟩) 2 2] 25)).alloc (.cells #[.int .i64 (-k), .int .i64 k] 3)) := bA.trans (bC.mono (by simp))
        have Xq4 := (Box.new w3 #[.int .i64 rfreq, .int .i64 ritv, .int .i64 rcnt, .int .i64 rtil, .int .i64 rwkst, .bool rends, .slice qa6 qn6 qc6, .slice qa7 qn7 qc7, .slice qa8 qn8 qc8, .slice qa9 qn9 qc9, .slice qa10 qn10 qc10, .slice qa11 qn11 qc11, .slice qa12 qn12 qc12, .slice qa13 qn13 qc13, .slice (some ⟨w3.heap.size + 1, 0, none⟩) 2 2] 25).below bC
        have I14 : IsAt ((w3.alloc (.cells #[.int .i64 rfreq, .int .i64 ritv, .int .i64 rcnt, .int .i64 rtil, .int .i64 rwkst, .bool rends, .slice qa6 qn6 qc6, .slice qa7 qn7 qc7, .slice qa8 qn8 qc8, .slice qa9 qn9 qc9, .slice qa10 qn10 qc10, .slice qa11 qn11 qc11, .slice qa12 qn12 qc12, .slice qa13 qn13 qc13, .slice (some ⟨w3.heap.size + 1, 0, none⟩) 2 2] 25)).alloc (.cells #[.int .i64 (-k), .int .i64 k] 3)) (some ⟨w3.heap.size + 1, 0, none⟩) 2 [-k, k] := two_at _ _ _ _ (by simp) (by simp [go_sem]) (by simp [go_sem])
        have Rq4 : RuAt ((w3.alloc (.cells #[.int .i64 rfreq, .int .i64 ritv, .int .i64 rcnt, .int .i64 rtil, .int .i64 rwkst, .bool rends, .slice qa6 qn6 qc6, .slice qa7 qn7 qc7, .slice qa8 qn8 qc8, .slice qa9 qn9 qc9, .slice qa10 qn10 qc10, .slice qa11 qn11 qc11, .slice qa12 qn12 qc12, .slice qa13 qn13 qc13, .slice (some ⟨w3.heap.size + 1, 0, none⟩) 2 2] 25)).alloc (.cells #[.int .i64 (-k), .int .i64 k] 3)) ⟨qa6, qn6, qc6, qa7, qn7, qc7, qa8, qn8, qc8, qa9, qn9, qc9, qa10, qn10, qc10, qa11, qn11, qc11, qa12, qn12, qc12, qa13, qn13, qc13, some ⟨w3.heap.size + 1, 0, none⟩, 2, 2⟩ ⟨rfreq, ritv, rcnt, rtil, rwkst, rends, rmon, rweek, ryday, rmday, rday, rhour, rminu, rsec, [-k, k]⟩ := ⟨hS.h6.below b4, hS.h7.below b4, hS.h8.below b4, hS.h9.below b4, hS.h10.below b4, hS.h11.below b4, hS.h12.below b4, hS.h13.below b4, I14, hS.l6, hS.l7, hS.l8, hS.l9, hS.l10, hS.l11, hS.l12, hS.l13, show (2 : Nat) ≤ 140737488355328 by decide⟩
        clear hS ow bA bC I14 IN
        generalize (w3.alloc (.cells #[.int .i64 rfreq, .int .i64 ritv, .int .i64 rcnt, .int .i64 rtil, .int .i64 rwkst, .bool rends, .slice qa6 qn6 qc6, .slice qa7 qn7 qc7, .slice qa8 qn8 qc8, .slice qa9 qn9 qc9, .slice qa10 qn10 qc10, .slice qa11 qn11 qc11, .slice qa12 qn12 qc12, .slice qa13 qn13 qc13, .slice (some ⟨w3.heap.size + 1, 0, none⟩) 2 2] 25)).alloc (.cells #[.int .i64 (-k), .int .i64 k] 3) = w4 at *
        have B4 := B3.trans (b4.mono B3.size)
        have Xr4 := Xr3.below b4
        clear B3 Xr3
        clear b4
        have rz0 : w4.cell? ⟨w.heap.size, 0, none⟩ = some (.int .i64 rfreq) := Xr4.at_ 0 _ rfl
        have rz1 : w4.cell? ⟨w.heap.size, 1, none⟩ = some (.int .i64 ritv) := Xr4.at_ 1 _ rfl
        have rz2 : w4.cell? ⟨w.heap.size, 2, none⟩ = some (.int .i64 rcnt) := Xr4.at_ 2 _ rfl
        have rz3 : w4.cell? ⟨w.heap.size, 3, none⟩ = some (.int .i64 rtil) := Xr4.at_ 3 _ rfl
        have rz4 : w4.cell? ⟨w.heap.size, 4, none⟩ = some (.int .i64 rwkst) := Xr4.at_ 4 _ rfl
        have rz5 : w4.cell? ⟨w.heap.size, 5, none⟩ = some (.bool rends) := Xr4.at_ 5 _ rfl
        have rz6 : w4.cell? ⟨w.heap.size, 6, none⟩ = some (.slice ra6 rn6 rc6) := Xr4.at_ 6 _ rfl
        have rz7 : w4.cell? ⟨w.heap.size, 7, none⟩ = some (.slice ra7 rn7 rc7) := Xr4.at_ 7 _ rfl
        have rz8 : w4.cell? ⟨w.heap.size, 8, none⟩ = some (.slice ra8 rn8 rc8) := Xr4.at_ 8 _ rfl
        have rz9 : w4.cell? ⟨w.heap.size, 9, none⟩ = some (.slice ra9 rn9 rc9) := Xr4.at_ 9 _ rfl
        have rz10 : w4.cell? ⟨w.heap.size, 10, none⟩ = some (.slice ra10 rn10 rc10) := Xr4.at_ 10 _ rfl
        have rz11 : w4.cell? ⟨w.heap.size, 11, none⟩ = some (.slice ra11 rn11 rc11) := Xr4.at_ 11 _ rfl
        have rz12 : w4.cell? ⟨w.heap.size, 12, none⟩ = some (.slice ra12 rn12 rc12) := Xr4.at_ 12 _ rfl
        have rz13 : w4.cell? ⟨w.heap.size, 13, none⟩ = some (.slice ra13 rn13 rc13) := Xr4.at_ 13 _ rfl
        have rz14 : w4.cell? ⟨w.heap.size, 14, none⟩ = some (.slice ra14 rn14 rc14) := Xr4.at_ 14 _ rfl
        go_wp2_with fail
        refine (setP_is _ ⟨ra6, rn6, rc6, ra7, rn7, rc7, ra8, rn8, rc8, ra9, rn9, rc9, ra10, rn10, rc10, ra11, rn11, rc11, ra12, rn12, rc12, ra13, rn13, rc13, ra14, rn14, rc14⟩ ⟨rfreq, ritv, rcnt, rtil, rwkst, rends, rmon, rweek, ryday, rmday, rday, rhour, rminu, rsec, rpos⟩ start t 2000 (l, z) (RA.out.below B4) HP.out).mono ?_
        rintro e w5 ⟨A1, p1, he, ia, b5⟩
        replace he : e = .returned (.tuple #[.slice A1 l.length p1, .int .i64 z]) := he
        subst he
        clear rz0 rz1 rz2 rz3 rz4 rz5 rz6 rz7 rz8 rz9 rz10 rz11 rz12 rz13 rz14
        have B5 := B4.trans (b5.mono B4.size)
        have Xr5 := Xr4.below b5
        have Xq5 := Xq4.below b5
        have Rq5 := Rq4.below b5
        clear B4 Xr4 Xq4 Rq4
        clear b5
        have K1 := Lib.hid (show IsAt w5 A1 l.length l from ia)
        clear ia
        have qz0 : w5.cell? ⟨w3.heap.size, 0, none⟩ = some (.int .i64 rfreq) := Xq5.at_ 0 _ rfl
        have qz1 : w5.cell? ⟨w3.heap.size, 1, none⟩ = some (.int .i64 ritv) := Xq5.at_ 1 _ rfl
        have qz2 : w5.cell? ⟨w3.heap.size, 2, none⟩ = some (.int .i64 rcnt) := Xq5.at_ 2 _ rfl
        have qz3 : w5.cell? ⟨w3.heap.size, 3, none⟩ = some (.int .i64 rtil) := Xq5.at_ 3 _ rfl
        have qz4 : w5.cell? ⟨w3.heap.size, 4, none⟩ = some (.int .i64 rwkst) := Xq5.at_ 4 _ rfl
        have qz5 : w5.cell? ⟨w3.heap.size, 5, none⟩ = some (.bool rends) := Xq5.at_ 5 _ rfl
        have qz6 : w5.cell? ⟨w3.heap.size, 6, none⟩ = some (.slice qa6 qn6 qc6) := Xq5.at_ 6 _ rfl
        have qz7 : w5.cell? ⟨w3.heap.size, 7, none⟩ = some (.slice qa7 qn7 qc7) := Xq5.at_ 7 _ rfl
        have qz8 : w5.cell? ⟨w3.heap.size, 8, none⟩ = some (.slice qa8 qn8 qc8) := Xq5.at_ 8 _ rfl
        have qz9 : w5.cell? ⟨w3.heap.size, 9, none⟩ = some (.slice qa9 qn9 qc9) := Xq5.at_ 9 _ rfl
        have qz10 : w5.cell? ⟨w3.heap.size, 10, none⟩ = some (.slice qa10 qn10 qc10) := Xq5.at_ 10 _ rfl
        have qz11 : w5.cell? ⟨w3.heap.size, 11, none⟩ = some (.slice qa11 qn11 qc11) := Xq5.at_ 11 _ rfl
        have qz12 : w5.cell? ⟨w3.heap.size, 12, none⟩ = some (.slice qa12 qn12 qc12) := Xq5.at_ 12 _ rfl
        have qz13 : w5.cell? ⟨w3.heap.size, 13, none⟩ = some (.slice qa13 qn13 qc13) := Xq5.at_ 13 _ rfl
        have qz14 : w5.cell? ⟨w3.heap.size, 14, none⟩ = some (.slice (some ⟨w3.heap.size + 1, 0, none⟩) 2 2) := Xq5.at_ 14 _ rfl
        go_wp2_with fail
        refine (may_r _ ⟨qa6, qn6, qc6, qa7, qn7, qc7, qa8, qn8, qc8, qa9, qn9, qc9, qa10, qn10, qc10, qa11, qn11, qc11, qa12, qn12, qc12, qa13, qn13, qc13, some ⟨w3.heap.size + 1, 0, none⟩, 2, 2⟩ ⟨rfreq, ritv, rcnt, rtil, rwkst, rends, rmon, rweek, ryday, rmday, rday, rhour, rminu, rsec, [-k, k]⟩ m Rq5 HM.out).mono ?_
        rintro e w6 ⟨rfl, b6⟩
        clear qz0 qz1 qz2 qz3 qz4 qz5 qz6 qz7 qz8 qz9 qz10 qz11 qz12 qz13 qz14
        have B6 := B5.trans (b6.mono B5.size)
        have Xr6 := Xr5.below b6
        have Xq6 := Xq5.below b6
        have Rq6 := Rq5.below b6
        clear B5 Xr5 Xq5 Rq5
        have K1 := Lib.hid (K1.out.below b6)
        clear b6
        cases m
        · go_wp2_with fail
          refine (first7_is _ (TT.out.on B6)).mono ?_
          rintro e w7 ⟨rfl, b7⟩
          have B7 := B6.trans (b7.mono B6.size)
          have Xr7 := Xr6.below b7
          have Xq7 := Xq6.below b7
          have Rq7 := Rq6.below b7
          clear B6 Xr6 Xq6 Rq6
          have K1 := Lib.hid (K1.out.below b7)
          clear b7
          go_wp2
          go_ret
          exact ⟨rfl, B7⟩
        · by_cases hz : z = 0
          · have tz : ((z : Int) != 0) = false := by rw [bne_eq_false_iff_eq]; exact hz
            have PL := Lib.hid (PLG.out (by trivial) hz)
            clear hz PLG
            obtain ⟨n1, h1⟩ : ∃ n, l.length = n := ⟨_, rfl⟩
            have PL := Lib.hid (by have := PL.out; rw [h1] at this; exact this)
            have LN := Lib.hid h1
            rw [h1] at LL K1 ⊢
            clear h1
            go_upto_region 10 with fail
            go_wp2
            go_loopw [12, 13] (fun i v wr => ∃ t1 : Nat, t1 ≤ n1 ∧ i = .int .i64 t1 ∧ Below w6.heap.size w6 wr) (fun i _ _ => n1 - (intOf i).toNat)
            case atStart => exact ⟨0, Nat.zero_le _, rfl, Below.refl _ _⟩
            case round =>
              obtain ⟨w7, rfl⟩ : ∃ wo : World, wo = wr := ⟨_, rfl⟩
              obtain ⟨t1, ht1, rfl, br⟩ := hrel
              have BR := Lib.hid br
              have B7 := B6.trans (br.mono B6.size)
              have Xr7 := Xr6.below br
              have Xq7 := Xq6.below br
              have Rq7 := Rq6.below br
              clear B6 Xr6 Xq6 Rq6
              have K1 := Lib.hid (K1.out.below br)
              clear br
              by_cases hlt : t1 < n1
              · have a1 : decide ((t1 : Int) < (n1 : Int)) = true := decide_eq_true (by omega)
                have a2 : decide (t1 < n1) = true := decide_eq_true hlt
                by_cases h40 : t1 < 40
                · have a3 : decide ((t1 : Int) < 40) = true := decide_eq_true (by omega)
                  have a4 : decide (t1 < 40) = true := decide_eq_true h40
                  obtain ⟨x, hx⟩ : ∃ x, iat l t1 = x := ⟨_, rfl⟩
                  obtain ⟨yy, hy⟩ : ∃ v, (decide ((t1 : Int) + 1 = k ∨ ((n1 : Int) - t1 = k)) && decide (start ≤ x) && (!rends || decide (x ≤ rtil))) = v := ⟨_, rfl⟩
                  have HY := Lib.hid (show hasM ⟨rfreq, ritv, rcnt, rtil, rwkst, rends, rmon, rweek, ryday, rmday, rday, rhour, rminu, rsec, [-k, k]⟩ start x = yy by rw [← hx, PL.out t1 hlt, hx]; exact hy)
                  have YF := Lib.hid hy
                  obtain ⟨bl, of, ea, hl, hc⟩ := K1.out.2 (show 0 < n1 by omega)
                  subst ea
                  have c0 := hc t1 hlt
                  rw [hx] at c0
                  have i1 : (0 : Int) ≤ (t1 : Int) := by omega
                  have i2 : (t1 : Int) < (n1 : Int) := by omega
                  have i3 : ((t1 : Int)).toNat = t1 := by omega
                  have i4 : IntKind.i64.wrap ((t1 : Int) + 1) = (t1 : Int) + 1 := IntWalk.i64_in _ (by omega)
                  have i5 : IntKind.i64.wrap ((n1 : Int) - (t1 : Int)) = (n1 : Int) - (t1 : Int) := IntWalk.i64_in _ (by omega)
                  clear hc hx hy PL
                  go_upto_region 13 with fail
                  clear a1 a2 a3 a4
                  go_cut [13] (fun v wx => v = .bool yy ∧ Below w7.heap.size w7 wx)
                  case first =>
                    as_aux_lemma =>
                      by_cases d1 : (t1 : Int) + 1 = k
                      · have s1 : (((t1 : Int) + 1 : Int) == k) = true := by rw [beq_iff_eq]; exact d1
                        have P1 := Lib.hid (show decide ((t1 : Int) + 1 = k ∨ ((n1 : Int) - t1 = k)) = true from decide_eq_true (.inl d1))
                        clear d1
                        by_cases d3 : start ≤ x
                        · have s3 : decide (start ≤ x) = true := decide_eq_true d3
                          by_cases d5 : x ≤ rtil
                          · have s5 : decide (x ≤ rtil) = true := decide_eq_true d5
                            cases rends
                            · have E := Lib.hid (show true = yy by have := YF.out; rw [P1.out, s3, s5] at this; exact this)
                              have rq3 := Past.at_ (W := w7) Xr7.1 (show w7.cell? ⟨w.heap.size, 3, none⟩ = some (.int .i64 rtil) from Xr7.at_ 3 _ rfl)
                              have rq5 := Past.at_ (W := w7) Xr7.1 (show w7.cell? ⟨w.heap.size, 5, none⟩ = some (.bool false) from Xr7.at_ 5 _ rfl)
                              have TV := Lib.hid (fun v : In (Past w7) => TT.out.on (B7.trans (Below.mono (show Below _ _ _ from v.h) B7.size)))
                              have q0 := Past.at_ (W := w7) hl c0
                              have p9 : Past w7 w7 := Below.refl _ _
                              have hne : Nonempty (In (Past w7)) := ⟨⟨_, p9⟩⟩
                              refine wp_region_class (Past w7) (by kernel_rfl) (by kernel_rfl) (Past.drew' p9) ?_
                              try simp only [List.append]
                              repeat (any_goals (first | go_big_quiet_step (fail) | quiet_step (fail)))
                              refine wpQuiet_nil ?_
                              rintro w' ⟨n9, hq⟩
                              have hb : Below w7.heap.size w7 w' := by rw [hq]; exact n9.h
                              clear hne p9 hq n9
                              go_wp2
                              go_meet
                              exact ⟨by rw [← E.out], hb⟩
                            · have E := Lib.hid (show true = yy by have := YF.out; rw [P1.out, s3, s5] at this; exact this)
                              have rq3 := Past.at_ (W := w7) Xr7.1 (show w7.cell? ⟨w.heap.size, 3, none⟩ = some (.int .i64 rtil) from Xr7.at_ 3 _ rfl)
                              have rq5 := Past.at_ (W := w7) Xr7.1 (show w7.cell? ⟨w.heap.size, 5, none⟩ = some (.bool true) from Xr7.at_ 5 _ rfl)
                              have TV := Lib.hid (fun v : In (Past w7) => TT.out.on (B7.trans (Below.mono (show Below _ _ _ from v.h) B7.size)))
                              have q0 := Past.at_ (W := w7) hl c0
                              have p9 : Past w7 w7 := Below.refl _ _
                              have hne : Nonempty (In (Past w7)) := ⟨⟨_, p9⟩⟩
                              refine wp_region_class (Past w7) (by kernel_rfl) (by kernel_rfl) (Past.drew' p9) ?_
                              try simp only [List.append]
                              repeat (any_goals (first | go_big_quiet_step (fail) | quiet_step (fail)))
                              refine wpQuiet_nil ?_
                              rintro w' ⟨n9, hq⟩
                              have hb : Below w7.heap.size w7 w' := by rw [hq]; exact n9.h
                              clear hne p9 hq n9
                              go_wp2
                              go_meet
                              exact ⟨by rw [← E.out], hb⟩
                          · have s5 : decide (x ≤ rtil) = false := decide_eq_false d5
                            cases rends
                            · have E := Lib.hid (show true = yy by have := YF.out; rw [P1.out, s3, s5] at this; exact this)
                              have rq3 := Past.at_ (W := w7) Xr7.1 (show w7.cell? ⟨w.heap.size, 3, none⟩ = some (.int .i64 rtil) from Xr7.at_ 3 _ rfl)
                              have rq5 := Past.at_ (W := w7) Xr7.1 (show w7.cell? ⟨w.heap.size, 5, none⟩ = some (.bool false) from Xr7.at_ 5 _ rfl)
                              have TV := Lib.hid (fun v : In (Past w7) => TT.out.on (B7.trans (Below.mono (show Below _ _ _ from v.h) B7.size)))
                              have q0 := Past.at_ (W := w7) hl c0
                              have p9 : Past w7 w7 := Below.refl _ _
                              have hne : Nonempty (In (Past w7)) := ⟨⟨_, p9⟩⟩
                              refine wp_region_class (Past w7) (by kernel_rfl) (by kernel_rfl) (Past.drew' p9) ?_
                              try simp only [List.append]
                              repeat (any_goals (first | go_big_quiet_step (fail) | quiet_step (fail)))
                              refine wpQuiet_nil ?_
                              rintro w' ⟨n9, hq⟩
                              have hb : Below w7.heap.size w7 w' := by rw [hq]; exact n9.h
                              clear hne p9 hq n9
                              go_wp2
                              go_meet
                              exact ⟨by rw [← E.out], hb⟩
                            · have E := Lib.hid (show false = yy by have := YF.out; rw [P1.out, s3, s5] at this; exact this)
                              have rq3 := Past.at_ (W := w7) Xr7.1 (show w7.cell? ⟨w.heap.size, 3, none⟩ = some (.int .i64 rtil) from Xr7.at_ 3 _ rfl)
                              have rq5 := Past.at_ (W := w7) Xr7.1 (show w7.cell? ⟨w.heap.size, 5, none⟩ = some (.bool true) from Xr7.at_ 5 _ rfl)
                              have TV := Lib.hid (fun v : In (Past w7) => TT.out.on (B7.trans (Below.mono (show Below _ _ _ from v.h) B7.size)))
                              have q0 := Past.at_ (W := w7) hl c0
                              have p9 : Past w7 w7 := Below.refl _ _
                              have hne : Nonempty (In (Past w7)) := ⟨⟨_, p9⟩⟩
                              refine wp_region_class (Past w7) (by kernel_rfl) (by kernel_rfl) (Past.drew' p9) ?_
                              try simp only [List.append]
                              repeat (any_goals (first | go_big_quiet_step (fail) | quiet_step (fail)))
                              refine wpQuiet_nil ?_
                              rintro w' ⟨n9, hq⟩
                              have hb : Below w7.heap.size w7 w' := by rw [hq]; exact n9.h
                              clear hne p9 hq n9
                              go_wp2
                              go_meet
                              exact ⟨by rw [← E.out], hb⟩
                        · have s3 : decide (start ≤ x) = false := decide_eq_false d3
                          have E := Lib.hid (show false = yy by have := YF.out; rw [P1.out, s3] at this; exact this)
                          have rq3 := Past.at_ (W := w7) Xr7.1 (show w7.cell? ⟨w.heap.size, 3, none⟩ = some (.int .i64 rtil) from Xr7.at_ 3 _ rfl)
                          have rq5 := Past.at_ (W := w7) Xr7.1 (show w7.cell? ⟨w.heap.size, 5, none⟩ = some (.bool rends) from Xr7.at_ 5 _ rfl)
                          have TV := Lib.hid (fun v : In (Past w7) => TT.out.on (B7.trans (Below.mono (show Below _ _ _ from v.h) B7.size)))
                          have q0 := Past.at_ (W := w7) hl c0
                          have p9 : Past w7 w7 := Below.refl _ _
                          have hne : Nonempty (In (Past w7)) := ⟨⟨_, p9⟩⟩
                          refine wp_region_class (Past w7) (by kernel_rfl) (by kernel_rfl) (Past.drew' p9) ?_
                          try simp only [List.append]
                          repeat (any_goals (first | go_big_quiet_step (fail) | quiet_step (fail)))
                          refine wpQuiet_nil ?_
                          rintro w' ⟨n9, hq⟩
                          have hb : Below w7.heap.size w7 w' := by rw [hq]; exact n9.h
                          clear hne p9 hq n9
                          go_wp2
                          go_meet
                          exact ⟨by rw [← E.out], hb⟩
                      · have s1 : (((t1 : Int) + 1 : Int) == k) = false := by rw [beq_eq_false_iff_ne]; exact d1
                        by_cases d2 : (n1 : Int) - t1 = k
                        · have s2 : (((n1 : Int) - (t1 : Int) : Int) == k) = true := by rw [beq_iff_eq]; exact d2
                          have P1 := Lib.hid (show decide ((t1 : Int) + 1 = k ∨ ((n1 : Int) - t1 = k)) = true from decide_eq_true (.inr d2))
                          clear d1 d2
                          by_cases d3 : start ≤ x
                          · have s3 : decide (start ≤ x) = true := decide_eq_true d3
                            by_cases d5 : x ≤ rtil
                            · have s5 : decide (x ≤ rtil) = true := decide_eq_true d5
                              cases rends
                              · have E := Lib.hid (show true = yy by have := YF.out; rw [P1.out, s3, s5] at this; exact this)
                                have rq3 := Past.at_ (W := w7) Xr7.1 (show w7.cell? ⟨w.heap.size, 3, none⟩ = some (.int .i64 rtil) from Xr7.at_ 3 _ rfl)
                                have rq5 := Past.at_ (W := w7) Xr7.1 (show w7.cell? ⟨w.heap.size, 5, none⟩ = some (.bool false) from Xr7.at_ 5 _ rfl)
                                have TV := Lib.hid (fun v : In (Past w7) => TT.out.on (B7.trans (Below.mono (show Below _ _ _ from v.h) B7.size)))
                                have q0 := Past.at_ (W := w7) hl c0
                                have p9 : Past w7 w7 := Below.refl _ _
                                have hne : Nonempty (In (Past w7)) := ⟨⟨_, p9⟩⟩
                                refine wp_region_class (Past w7) (by kernel_rfl) (by kernel_rfl) (Past.drew' p9) ?_
                                try simp only [List.append]
                                repeat (any_goals (first | go_big_quiet_step (fail) | quiet_step (fail)))
                                refine wpQuiet_nil ?_
                                rintro w' ⟨n9, hq⟩
                                have hb : Below w7.heap.size w7 w' := by rw [hq]; exact n9.h
                                clear hne p9 hq n9
                                go_wp2
                                go_meet
                                exact ⟨by rw [← E.out], hb⟩
                              · have E := Lib.hid (show true = yy by have := YF.out; rw [P1.out, s3, s5] at this; exact this)
                                have rq3 := Past.at_ (W := w7) Xr7.1 (show w7.cell? ⟨w.heap.size, 3, none⟩ = some (.int .i64 rtil) from Xr7.at_ 3 _ rfl)
                                have rq5 := Past.at_ (W := w7) Xr7.1 (show w7.cell? ⟨w.heap.size, 5, none⟩ = some (.bool true) from Xr7.at_ 5 _ rfl)
                                have TV := Lib.hid (fun v : In (Past w7) => TT.out.on (B7.trans (Below.mono (show Below _ _ _ from v.h) B7.size)))
                                have q0 := Past.at_ (W := w7) hl c0
                                have p9 : Past w7 w7 := Below.refl _ _
                                have hne : Nonempty (In (Past w7)) := ⟨⟨_, p9⟩⟩
                                refine wp_region_class (Past w7) (by kernel_rfl) (by kernel_rfl) (Past.drew' p9) ?_
                                try simp only [List.append]
                                repeat (any_goals (first | go_big_quiet_step (fail) | quiet_step (fail)))
                                refine wpQuiet_nil ?_
                                rintro w' ⟨n9, hq⟩
                                have hb : Below w7.heap.size w7 w' := by rw [hq]; exact n9.h
                                clear hne p9 hq n9
                                go_wp2
                                go_meet
                                exact ⟨by rw [← E.out], hb⟩
                            · have s5 : decide (x ≤ rtil) = false := decide_eq_false d5
                              cases rends
                              · have E := Lib.hid (show true = yy by have := YF.out; rw [P1.out, s3, s5] at this; exact this)
                                have rq3 := Past.at_ (W := w7) Xr7.1 (show w7.cell? ⟨w.heap.size, 3, none⟩ = some (.int .i64 rtil) from Xr7.at_ 3 _ rfl)
                                have rq5 := Past.at_ (W := w7) Xr7.1 (show w7.cell? ⟨w.heap.size, 5, none⟩ = some (.bool false) from Xr7.at_ 5 _ rfl)
                                have TV := Lib.hid (fun v : In (Past w7) => TT.out.on (B7.trans (Below.mono (show Below _ _ _ from v.h) B7.size)))
                                have q0 := Past.at_ (W := w7) hl c0
                                have p9 : Past w7 w7 := Below.refl _ _
                                have hne : Nonempty (In (Past w7)) := ⟨⟨_, p9⟩⟩
                                refine wp_region_class (Past w7) (by kernel_rfl) (by kernel_rfl) (Past.drew' p9) ?_
                                try simp only [List.append]
                                repeat (any_goals (first | go_big_quiet_step (fail) | quiet_step (fail)))
                                refine wpQuiet_nil ?_
                                rintro w' ⟨n9, hq⟩
                                have hb : Below w7.heap.size w7 w' := by rw [hq]; exact n9.h
                                clear hne p9 hq n9
                                go_wp2
                                go_meet
                                exact ⟨by rw [← E.out], hb⟩
                              · have E := Lib.hid (show false = yy by have := YF.out; rw [P1.out, s3, s5] at this; exact this)
                                have rq3 := Past.at_ (W := w7) Xr7.1 (show w7.cell? ⟨w.heap.size, 3, none⟩ = some (.int .i64 rtil) from Xr7.at_ 3 _ rfl)
                                have rq5 := Past.at_ (W := w7) Xr7.1 (show w7.cell? ⟨w.heap.size, 5, none⟩ = some (.bool true) from Xr7.at_ 5 _ rfl)
                                have TV := Lib.hid (fun v : In (Past w7) => TT.out.on (B7.trans (Below.mono (show Below _ _ _ from v.h) B7.size)))
                                have q0 := Past.at_ (W := w7) hl c0
                                have p9 : Past w7 w7 := Below.refl _ _
                                have hne : Nonempty (In (Past w7)) := ⟨⟨_, p9⟩⟩
                                refine wp_region_class (Past w7) (by kernel_rfl) (by kernel_rfl) (Past.drew' p9) ?_
                                try simp only [List.append]
                                repeat (any_goals (first | go_big_quiet_step (fail) | quiet_step (fail)))
                                refine wpQuiet_nil ?_
                                rintro w' ⟨n9, hq⟩
                                have hb : Below w7.heap.size w7 w' := by rw [hq]; exact n9.h
                                clear hne p9 hq n9
                                go_wp2
                                go_meet
                                exact ⟨by rw [← E.out], hb⟩
                          · have s3 : decide (start ≤ x) = false := decide_eq_false d3
                            have E := Lib.hid (show false = yy by have := YF.out; rw [P1.out, s3] at this; exact this)
                            have rq3 := Past.at_ (W := w7) Xr7.1 (show w7.cell? ⟨w.heap.size, 3, none⟩ = some (.int .i64 rtil) from Xr7.at_ 3 _ rfl)
                            have rq5 := Past.at_ (W := w7) Xr7.1 (show w7.cell? ⟨w.heap.size, 5, none⟩ = some (.bool rends) from Xr7.at_ 5 _ rfl)
                            have TV := Lib.hid (fun v : In (Past w7) => TT.out.on (B7.trans (Below.mono (show Below _ _ _ from v.h) B7.size)))
                            have q0 := Past.at_ (W := w7) hl c0
                            have p9 : Past w7 w7 := Below.refl _ _
                            have hne : Nonempty (In (Past w7)) := ⟨⟨_, p9⟩⟩
                            refine wp_region_class (Past w7) (by kernel_rfl) (by kernel_rfl) (Past.drew' p9) ?_
                            try simp only [List.append]
                            repeat (any_goals (first | go_big_quiet_step (fail) | quiet_step (fail)))
                            refine wpQuiet_nil ?_
                            rintro w' ⟨n9, hq⟩
                            have hb : Below w7.heap.size w7 w' := by rw [hq]; exact n9.h
                            clear hne p9 hq n9
                            go_wp2
                            go_meet
                            exact ⟨by rw [← E.out], hb⟩
                        · have s2 : (((n1 : Int) - (t1 : Int) : Int) == k) = false := by rw [beq_eq_false_iff_ne]; exact d2
                          have P1 := Lib.hid (show decide ((t1 : Int) + 1 = k ∨ ((n1 : Int) - t1 = k)) = false from decide_eq_false (fun g => g.elim d1 d2))
                          clear d1 d2
                          have E := Lib.hid (show false = yy by have := YF.out; rw [P1.out] at this; exact this)
                          have rq3 := Past.at_ (W := w7) Xr7.1 (show w7.cell? ⟨w.heap.size, 3, none⟩ = some (.int .i64 rtil) from Xr7.at_ 3 _ rfl)
                          have rq5 := Past.at_ (W := w7) Xr7.1 (show w7.cell? ⟨w.heap.size, 5, none⟩ = some (.bool rends) from Xr7.at_ 5 _ rfl)
                          have TV := Lib.hid (fun v : In (Past w7) => TT.out.on (B7.trans (Below.mono (show Below _ _ _ from v.h) B7.size)))
                          have q0 := Past.at_ (W := w7) hl c0
                          have p9 : Past w7 w7 := Below.refl _ _
                          have hne : Nonempty (In (Past w7)) := ⟨⟨_, p9⟩⟩
                          refine wp_region_class (Past w7) (by kernel_rfl) (by kernel_rfl) (Past.drew' p9) ?_
                          try simp only [List.append]
                          repeat (any_goals (first | go_big_quiet_step (fail) | quiet_step (fail)))
                          refine wpQuiet_nil ?_
                          rintro w' ⟨n9, hq⟩
                          have hb : Below w7.heap.size w7 w' := by rw [hq]; exact n9.h
                          clear hne p9 hq n9
                          go_wp2
                          go_meet
                          exact ⟨by rw [← E.out], hb⟩
                  case rest =>
                    obtain ⟨rfl, b8⟩ := hcut
                    generalize wc = w8 at *
                    have hl2 := Nat.lt_of_lt_of_le hl b8.size
                    have c0 := (b8.cell (p := ⟨bl, _, none⟩) hl).trans c0
                    have BR := Lib.hid (BR.out.trans (b8.mono BR.out.size))
                    have B8 := B7.trans (b8.mono B7.size)
                    have Xr8 := Xr7.below b8
                    have Xq8 := Xq7.below b8
                    have Rq8 := Rq7.below b8
                    clear B7 Xr7 Xq7 Rq7
                    have K1 := Lib.hid (K1.out.below b8)
                    clear b8 hl
                    have hl := hl2
                    clear hl2
                    go_upto_region 14 with fail
                    have qq0 := Past.at_ (W := w8) Xq8.1 (show w8.cell? ⟨w3.heap.size, 0, none⟩ = some (.int .i64 rfreq) from Xq8.at_ 0 _ rfl)
                    have qq1 := Past.at_ (W := w8) Xq8.1 (show w8.cell? ⟨w3.heap.size, 1, none⟩ = some (.int .i64 ritv) from Xq8.at_ 1 _ rfl)
                    have qq2 := Past.at_ (W := w8) Xq8.1 (show w8.cell? ⟨w3.heap.size, 2, none⟩ = some (.int .i64 rcnt) from Xq8.at_ 2 _ rfl)
                    have qq3 := Past.at_ (W := w8) Xq8.1 (show w8.cell? ⟨w3.heap.size, 3, none⟩ = some (.int .i64 rtil) from Xq8.at_ 3 _ rfl)
                    have qq4 := Past.at_ (W := w8) Xq8.1 (show w8.cell? ⟨w3.heap.size, 4, none⟩ = some (.int .i64 rwkst) from Xq8.at_ 4 _ rfl)
                    have qq5 := Past.at_ (W := w8) Xq8.1 (show w8.cell? ⟨w3.heap.size, 5, none⟩ = some (.bool rends) from Xq8.at_ 5 _ rfl)
                    have qq6 := Past.at_ (W := w8) Xq8.1 (show w8.cell? ⟨w3.heap.size, 6, none⟩ = some (.slice qa6 qn6 qc6) from Xq8.at_ 6 _ rfl)
                    have qq7 := Past.at_ (W := w8) Xq8.1 (show w8.cell? ⟨w3.heap.size, 7, none⟩ = some (.slice qa7 qn7 qc7) from Xq8.at_ 7 _ rfl)
                    have qq8 := Past.at_ (W := w8) Xq8.1 (show w8.cell? ⟨w3.heap.size, 8, none⟩ = some (.slice qa8 qn8 qc8) from Xq8.at_ 8 _ rfl)
                    have qq9 := Past.at_ (W := w8) Xq8.1 (show w8.cell? ⟨w3.heap.size, 9, none⟩ = some (.slice qa9 qn9 qc9) from Xq8.at_ 9 _ rfl)
                    have qq10 := Past.at_ (W := w8) Xq8.1 (show w8.cell? ⟨w3.heap.size, 10, none⟩ = some (.slice qa10 qn10 qc10) from Xq8.at_ 10 _ rfl)
                    have qq11 := Past.at_ (W := w8) Xq8.1 (show w8.cell? ⟨w3.heap.size, 11, none⟩ = some (.slice qa11 qn11 qc11) from Xq8.at_ 11 _ rfl)
                    have qq12 := Past.at_ (W := w8) Xq8.1 (show w8.cell? ⟨w3.heap.size, 12, none⟩ = some (.slice qa12 qn12 qc12) from Xq8.at_ 12 _ rfl)
                    have qq13 := Past.at_ (W := w8) Xq8.1 (show w8.cell? ⟨w3.heap.size, 13, none⟩ = some (.slice qa13 qn13 qc13) from Xq8.at_ 13 _ rfl)
                    have qq14 := Past.at_ (W := w8) Xq8.1 (show w8.cell? ⟨w3.heap.size, 14, none⟩ = some (.slice (some ⟨w3.heap.size + 1, 0, none⟩) 2 2) from Xq8.at_ 14 _ rfl)
                    have TV := Lib.hid (fun v : In (Past w8) => TT.out.on (B8.trans (Below.mono (show Below _ _ _ from v.h) B8.size)))
                    have q0 := Past.at_ (W := w8) hl c0
                    have C0 := Lib.hid (show ∀ v : In (Past w8), Calls Tryz.prog 28 #[.agg #[.int .i64 rfreq, .int .i64 ritv, .int .i64 rcnt, .int .i64 rtil, .int .i64 rwkst, .bool rends, .slice qa6 qn6 qc6, .slice qa7 qn7 qc7, .slice qa8 qn8 qc8, .slice qa9 qn9 qc9, .slice qa10 qn10 qc10, .slice qa11 qn11 qc11, .slice qa12 qn12 qc12, .slice qa13 qn13 qc13, .slice (some ⟨w3.heap.size + 1, 0, none⟩) 2 2], .int .i64 start, .int .i64 x] v.w (fun e w' => e = .returned (.bool yy) ∧ Below v.w.heap.size v.w w') from fun v => has_is v.w ⟨qa6, qn6, qc6, qa7, qn7, qc7, qa8, qn8, qc8, qa9, qn9, qc9, qa10, qn10, qc10, qa11, qn11, qc11, qa12, qn12, qc12, qa13, qn13, qc13, some ⟨w3.heap.size + 1, 0, none⟩, 2, 2⟩ ⟨rfreq, ritv, rcnt, rtil, rwkst, rends, rmon, rweek, ryday, rmday, rday, rhour, rminu, rsec, [-k, k]⟩ start x yy (Rq8.past v) HY.out)
                    have p9 : Past w8 w8 := Below.refl _ _
                    have hne : Nonempty (In (Past w8)) := ⟨⟨_, p9⟩⟩
                    refine wp_region_class (Past w8) (by kernel_rfl) (by kernel_rfl) (Past.drew' p9) ?_
                    try simp only [List.append]
                    repeat (any_goals (first | go_big_quiet_step ((first | (with_reducible refine quiet_cl Past.on (C0.out _)))) | quiet_step ((first | (with_reducible refine quiet_cl Past.on (C0.out _))))))
                    refine wpQuiet_nil ?_
                    rintro w' ⟨n9, hq⟩
                    have hb : Below w8.heap.size w8 w' := by rw [hq]; exact n9.h
                    clear hne p9 hq n9
                    go_wp2
                    go_roundw
                    case rel => exact ⟨t1 + 1, by omega, by go_num, BR.out.trans (hb.mono BR.out.size)⟩
                    case measure => simp [intOf]; omega
                · have a3 : decide ((t1 : Int) < 40) = false := decide_eq_false (by omega)
                  have a4 : decide (t1 < 40) = false := decide_eq_false h40
                  go_wp2_with fail
                  refine (first7_is _ (TT.out.on B7)).mono ?_
                  rintro e w8 ⟨rfl, b8⟩
                  have B8 := B7.trans (b8.mono B7.size)
                  have Xr8 := Xr7.below b8
                  have Xq8 := Xq7.below b8
                  have Rq8 := Rq7.below b8
                  clear B7 Xr7 Xq7 Rq7
                  have K1 := Lib.hid (K1.out.below b8)
                  clear b8
                  go_wp2
                  go_ret
                  exact ⟨rfl, B8⟩
              · have a1 : decide ((t1 : Int) < (n1 : Int)) = false := decide_eq_false (by omega)
                have a2 : decide (t1 < n1) = false := decide_eq_false hlt
                go_wp2_with fail
                refine (first7_is _ (TT.out.on B7)).mono ?_
                rintro e w8 ⟨rfl, b8⟩
                have B8 := B7.trans (b8.mono B7.size)
                have Xr8 := Xr7.below b8
                have Xq8 := Xq7.below b8
                have Rq8 := Rq7.below b8
                clear B7 Xr7 Xq7 Rq7
                have K1 := Lib.hid (K1.out.below b8)
                clear b8
                go_wp2
                go_ret
                exact ⟨rfl, B8⟩
          · have tz : ((z : Int) != 0) = true := by rw [bne_iff_ne]; exact hz
            clear hz PLG
            go_wp2_with fail
            refine (first7_is _ (TT.out.on B6)).mono ?_
            rintro e w7 ⟨rfl, b7⟩
            have B7 := B6.trans (b7.mono B6.size)
            have Xr7 := Xr6.below b7
            have Xq7 := Xq6.below b7
            have Rq7 := Rq6.below b7
            clear B6 Xr6 Xq6 Rq6
            have K1 := Lib.hid (K1.out.below b7)
            clear b7
            go_wp2
            go_ret
            exact ⟨rfl, B7⟩
end Go.Proofs.YtajgagmpdhmbkaaGreatDoor.Mb
