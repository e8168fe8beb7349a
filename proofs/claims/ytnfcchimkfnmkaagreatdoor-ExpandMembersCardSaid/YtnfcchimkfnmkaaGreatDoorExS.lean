/- The walk of package expand's split. -/
import Derived.Test.YtnfcchimkfnmkaaGreatDoorExA
import Derived.Test.YtnfcchimkfnmkaaGreatDoorDyT
set_option linter.unusedVariables false
namespace Go.Proofs.YtnfcchimkfnmkaaGreatDoor.Ex
open Go.RowKit Cv St Ru Dd Mb

theorem one_len {N : List Int} {k : Int} : (spreadL [0] N k).length = N.length := by rw [spread_len]; simp
theorem tim_len {l : List Int} {hi : Int} (h : TimL l hi) : l.length ≤ (hi + 1).toNat := by
  have := rise_len (a := 0) (b := hi + 1) h.rise fun x hx => by have := h.bd x hx; omega
  rw [Int.sub_zero] at this
  exact this
/-- how far split has come: what begins a unit, what lies within one -/
def begK (r : Ru) (start : Int) : Nat → List Int
  | 0 => [0]
  | 1 => begA r start
  | 2 => begB r start
  | _ => begL r start
def witK (r : Ru) (start : Int) : Nat → List Int
  | 0 => [0]
  | 1 => witA r start
  | 2 => witB r start
  | _ => witL r start
structure PartOk (r : Ru) (start : Int) (H M C : List Int) : Prop where
  b0 : 5 ≤ r.freq → SprOk [0] H 3600 ∧ spreadL [0] H 3600 = begA r start ∧ witA r start = [0]
  w0 : r.freq < 5 → SprOk [0] H 3600 ∧ spreadL [0] H 3600 = witA r start ∧ begA r start = [0]
  b1 : 6 ≤ r.freq → SprOk (begA r start) M 60 ∧ spreadL (begA r start) M 60 = begB r start ∧ witB r start = witA r start
  w1 : r.freq < 6 → SprOk (witA r start) M 60 ∧ spreadL (witA r start) M 60 = witB r start ∧ begB r start = begA r start
  b2 : 7 ≤ r.freq → SprOk (begB r start) C 1 ∧ spreadL (begB r start) C 1 = begL r start ∧ witL r start = witB r start
  w2 : r.freq < 7 → SprOk (witB r start) C 1 ∧ spreadL (witB r start) C 1 = witL r start ∧ begL r start = begB r start
  len : ∀ k, (begK r start k).length ≤ 90000 ∧ (witK r start k).length ≤ 90000
/-- lists of seconds of a day, few -/
structure Secs (l : List Int) (n : Nat) : Prop where
  len : l.length ≤ n
  bd : ∀ x ∈ l, 0 ≤ x ∧ x ≤ 90000
theorem secs_one {l : List Int} {hi k : Int} (n : Nat) (h : TimL l hi) (hk : 0 ≤ k) (hn : (hi + 1).toNat ≤ n) (hh : hi * k ≤ 90000) : Secs (spreadL [0] l k) n :=
  ⟨by rw [one_len]; have := tim_len h; omega, fun x hx => by
    obtain ⟨a, ha, rfl⟩ := mem_one.1 hx
    have b := h.bd a ha
    have c := Int.mul_nonneg b.1 hk
    have d := Int.mul_le_mul_of_nonneg_right b.2 hk
    omega⟩
theorem spr_of {T N : List Int} {k hi : Int} {n : Nat} (t : Secs T n) (h : TimL N hi) (h2 : hi ≤ 1000) (hk : 0 ≤ k) (hh : hi * k ≤ 1000000) (hr : n * (hi + 1).toNat ≤ 100000) : SprOk T N k :=
  ⟨Nat.le_trans (Nat.mul_le_mul t.len (tim_len h)) hr, fun x hx => by have := t.bd x hx; omega, fun x hx => by
    have b := h.bd x hx
    have c := Int.mul_nonneg b.1 hk
    have d := Int.mul_le_mul_of_nonneg_right b.2 hk
    omega⟩
theorem part_ok {r : Ru} (start : Int) (h : mayR r = true) : PartOk r start (timH r start) (timM r start) (timS r start) := by
  have H := timH_ok start h; have M := timM_ok start h; have C := timS_ok start h
  have s0 : ∀ n, 1 ≤ n → Secs [0] n := fun n hn => ⟨by simp; omega, fun x hx => by simp at hx; subst hx; omega⟩
  have sH : Secs (spreadL [0] (timH r start) 3600) 24 := secs_one 24 H (by omega) (by decide) (by omega)
  have sM : Secs (spreadL [0] (timM r start) 60) 60 := secs_one 60 M (by omega) (by decide) (by omega)
  have lH := tim_len H; have lM := tim_len M
  have sHM : Secs (spreadL (spreadL [0] (timH r start) 3600) (timM r start) 60) 1440 := ⟨by
    rw [spread_len, one_len]
    exact Nat.le_trans (Nat.mul_le_mul lH lM) (by decide), fun x hx => by have := (mem_hm H.bd M.bd).1 hx; omega⟩
  have A1 : 5 ≤ r.freq → begA r start = spreadL [0] (timH r start) 3600 ∧ witA r start = [0] := fun q => ⟨by unfold begA; rw [if_pos q], by unfold witA; rw [if_pos q]⟩
  have A0 : r.freq < 5 → begA r start = [0] ∧ witA r start = spreadL [0] (timH r start) 3600 := fun q => ⟨by unfold begA; rw [if_neg (by omega)], by unfold witA; rw [if_neg (by omega)]⟩
  have B1 : 6 ≤ r.freq → begB r start = spreadL (begA r start) (timM r start) 60 ∧ witB r start = witA r start := fun q => ⟨by unfold begB; rw [if_pos q], by unfold witB; rw [if_pos q]⟩
  have B0 : r.freq < 6 → begB r start = begA r start ∧ witB r start = spreadL (witA r start) (timM r start) 60 := fun q => ⟨by unfold begB; rw [if_neg (by omega)], by unfold witB; rw [if_neg (by omega)]⟩
  refine ⟨fun q => ⟨spr_of (s0 1 (by omega)) H (by omega) (by omega) (by omega) (by decide), (A1 q).1.symm, (A1 q).2⟩, fun q => ⟨spr_of (s0 1 (by omega)) H (by omega) (by omega) (by omega) (by decide), (A0 q).2.symm, (A0 q).1⟩,
    fun q => ⟨?_, (B1 q).1.symm, (B1 q).2⟩, fun q => ⟨?_, (B0 q).2.symm, (B0 q).1⟩, fun q => ⟨?_, by unfold begL; rw [if_pos q], by unfold witL; rw [if_pos q]⟩, fun q => ⟨?_, by unfold witL; rw [if_neg (by omega)], by unfold begL; rw [if_neg (by omega)]⟩, fun k => ?_⟩
  · rw [(A1 (by omega)).1]; exact spr_of sH M (by omega) (by omega) (by omega) (by decide)
  · by_cases q5 : 5 ≤ r.freq
    · rw [(A1 q5).2]; exact spr_of (s0 1 (by omega)) M (by omega) (by omega) (by omega) (by decide)
    · rw [(A0 (by omega)).2]; exact spr_of sH M (by omega) (by omega) (by omega) (by decide)
  · rw [(B1 (by omega)).1, (A1 (by omega)).1]; exact spr_of sHM C (by omega) (by omega) (by omega) (by decide)
  · by_cases q6 : 6 ≤ r.freq
    · rw [(B1 q6).2, (A1 (by omega)).2]; exact spr_of (s0 1 (by omega)) C (by omega) (by omega) (by omega) (by decide)
    · rw [(B0 (by omega)).2]
      by_cases q5 : 5 ≤ r.freq
      · rw [(A1 q5).2]; exact spr_of sM C (by omega) (by omega) (by omega) (by decide)
      · rw [(A0 (by omega)).2]; exact spr_of sHM C (by omega) (by omega) (by omega) (by decide)
  · have a1 : (begA r start).length ≤ 24 := by
      by_cases q5 : 5 ≤ r.freq
      · rw [(A1 q5).1]; exact sH.len
      · rw [(A0 (by omega)).1]; simp
    have a2 : (witA r start).length ≤ 24 := by
      by_cases q5 : 5 ≤ r.freq
      · rw [(A1 q5).2]; simp
      · rw [(A0 (by omega)).2]; exact sH.len
    match k with
    | 0 => exact ⟨by simp [begK], by simp [witK]⟩
    | 1 => exact ⟨by show (begA r start).length ≤ 90000; omega, by show (witA r start).length ≤ 90000; omega⟩
    | 2 =>
      refine ⟨?_, ?_⟩
      · show (begB r start).length ≤ 90000
        by_cases q6 : 6 ≤ r.freq
        · rw [(B1 q6).1, (A1 (by omega)).1]; have := sHM.len; omega
        · rw [(B0 (by omega)).1]; omega
      · show (witB r start).length ≤ 90000
        by_cases q6 : 6 ≤ r.freq
        · rw [(B1 q6).2]; omega
        · rw [(B0 (by omega)).2]
          by_cases q5 : 5 ≤ r.freq
          · rw [(A1 q5).2]; have := sM.len; omega
          · rw [(A0 (by omega)).2]; have := sHM.len; omega
    | k + 3 => exact ⟨by have := beg_len start h; show (begL r start).length ≤ 90000; omega, by have := wit_len start h; show (witL r start).length ≤ 90000; omega⟩
/-- what split answers -/
def TwoIs (w : World) (x y : List Int) (e : Ending) (w' : World) : Prop := ∃ A c B d, e = .returned (.tuple #[.slice A x.length c, .slice B y.length d]) ∧ IsAt w' A x.length x ∧ IsAt w' B y.length y ∧ Fresh w.heap.size A ∧ Fresh w.heap.size B ∧ Below w.heap.size w w'
def Sl (B : Nat) (w : World) (v : Value) (l : List Int) : Prop := ∃ A c, v = .slice A l.length c ∧ IsAt w A l.length l ∧ Fresh B A
set_option maxRecDepth 100000 in
set_option maxHeartbeats 8000000 in
/-- expand.split -/
theorem split_is (w : World) (S : RS) (r : Ru) (start : Int) (h : RuAt w S r) (hm : mayR r = true) (hs : St.may start = true) :
    Calls Tryz.prog 130 #[S.val r, .int .i64 start] w (TwoIs w (begL r start) (witL r start)) := by
  have RA := Lib.hid h
  have E11 := h.h11.1
  have E12 := h.h12.1
  have E13 := h.h13.1
  obtain ⟨H, hH⟩ : ∃ l, timH r start = l := ⟨_, rfl⟩
  obtain ⟨M, hM⟩ : ∃ l, timM r start = l := ⟨_, rfl⟩
  obtain ⟨C, hC⟩ : ∃ l, timS r start = l := ⟨_, rfl⟩
  have PO := Lib.hid (show PartOk r start H M C by rw [← hH, ← hM, ← hC]; exact part_ok start hm)
  obtain ⟨u11, u12, u13⟩ := lens_of (mayR_of hm).2.2.1
  have q11 : S.n11 ≤ 1000000 := by omega
  have q12 : S.n12 ≤ 1000000 := by omega
  have q13 : S.n13 ≤ 1000000 := by omega
  have M1 := Lib.hid hm
  have M2' := Lib.hid hs
  have HH := Lib.hid hH
  have HM := Lib.hid hM
  have HC := Lib.hid hC
  obtain ⟨G, hG⟩ : ∃ G, begK r start = G := ⟨_, rfl⟩
  obtain ⟨Y, hY⟩ : ∃ Y, witK r start = Y := ⟨_, rfl⟩
  have GY := Lib.hid (show (G 0 = [0] ∧ G 1 = begA r start ∧ G 2 = begB r start ∧ G 3 = begL r start) ∧ (Y 0 = [0] ∧ Y 1 = witA r start ∧ Y 2 = witB r start ∧ Y 3 = witL r start) by rw [← hG, ← hY]; exact ⟨⟨rfl, rfl, rfl, rfl⟩, rfl, rfl, rfl, rfl⟩)
  have FIN := Lib.hid (show TwoIs w (G 3) (Y 3) = TwoIs w (begL r start) (witL r start) by rw [← hG, ← hY]; rfl)
  rw [← FIN.out]
  clear FIN
  have P0 := Lib.hid (show (5 ≤ r.freq → SprOk (G 0) H 3600 ∧ spreadL (G 0) H 3600 = G 1 ∧ Y 1 = Y 0) ∧ (r.freq < 5 → SprOk (Y 0) H 3600 ∧ spreadL (Y 0) H 3600 = Y 1 ∧ G 1 = G 0) by
    obtain ⟨⟨g0, g1, g2, g3⟩, y0, y1, y2, y3⟩ := GY.out
    rw [g0, g1, y0, y1]
    exact ⟨PO.out.b0, PO.out.w0⟩)
  have P1 := Lib.hid (show (6 ≤ r.freq → SprOk (G 1) M 60 ∧ spreadL (G 1) M 60 = G 2 ∧ Y 2 = Y 1) ∧ (r.freq < 6 → SprOk (Y 1) M 60 ∧ spreadL (Y 1) M 60 = Y 2 ∧ G 2 = G 1) by
    obtain ⟨⟨g0, g1, g2, g3⟩, y0, y1, y2, y3⟩ := GY.out
    rw [g1, g2, y1, y2]
    exact ⟨PO.out.b1, PO.out.w1⟩)
  have P2 := Lib.hid (show (7 ≤ r.freq → SprOk (G 2) C 1 ∧ spreadL (G 2) C 1 = G 3 ∧ Y 3 = Y 2) ∧ (r.freq < 7 → SprOk (Y 2) C 1 ∧ spreadL (Y 2) C 1 = Y 3 ∧ G 3 = G 2) by
    obtain ⟨⟨g0, g1, g2, g3⟩, y0, y1, y2, y3⟩ := GY.out
    rw [g2, g3, y2, y3]
    exact ⟨PO.out.b2, PO.out.w2⟩)
  have GL := Lib.hid (show ∀ k, (G k).length ≤ 90000 ∧ (Y k).length ≤ 90000 by rw [← hG, ← hY]; exact PO.out.len)
  have l1 : H.length ≤ 60 := by rw [← hH]; exact (timH_ok start hm).len
  have l2 : M.length ≤ 60 := by rw [← hM]; exact (timM_ok start hm).len
  have l3 : C.length ≤ 60 := by rw [← hC]; exact (timS_ok start hm).len
  have GZ := Lib.hid (show [0] = G 0 ∧ [0] = Y 0 from ⟨GY.out.1.1.symm, GY.out.2.1.symm⟩)
  clear h hm hs hH hM hC hG hY E11 E12 E13 u11 u12 u13 PO GY
  obtain ⟨ra6, rn6, rc6, ra7, rn7, rc7, ra8, rn8, rc8, ra9, rn9, rc9, ra10, rn10, rc10, ra11, rn11, rc11, ra12, rn12, rc12, ra13, rn13, rc13, ra14, rn14, rc14⟩ := S
  obtain ⟨rfreq, ritv, rcnt, rtil, rwkst, rends, rmon, rweek, ryday, rmday, rday, rhour, rminu, rsec, rpos⟩ := r
  replace q11 : rn11 ≤ 1000000 := q11
  replace q12 : rn12 ≤ 1000000 := q12
  replace q13 : rn13 ≤ 1000000 := q13
  show Calls Tryz.prog 130 #[.agg #[.int .i64 rfreq, .int .i64 ritv, .int .i64 rcnt, .int .i64 rtil, .int .i64 rwkst, .bool rends, .slice ra6 rn6 rc6, .slice ra7 rn7 rc7, .slice ra8 rn8 rc8, .slice ra9 rn9 rc9, .slice ra10 rn10 rc10, .slice ra11 rn11 rc11, .slice ra12 rn12 rc12, .slice ra13 rn13 rc13, .slice ra14 rn14 rc14], .int .i64 start] w _
  go_enter Tryz.func130, Tryz.ntmps130
  go_upto_region 1 with fail
  have B0 := alloc_below w (.cells #[.int .i64 rfreq, .int .i64 ritv, .int .i64 rcnt, .int .i64 rtil, .int .i64 rwkst, .bool rends, .slice ra6 rn6 rc6, .slice ra7 rn7 rc7, .slice ra8 rn8 rc8, .slice ra9 rn9 rc9, .slice ra10 rn10 rc10, .slice ra11 rn11 rc11, .slice ra12 rn12 rc12, .slice ra13 rn13 rc13, .slice ra14 rn14 rc14] 25)
  have Xr0 := Box.new w #[.int .i64 rfreq, .int .i64 ritv, .int .i64 rcnt, .int .i64 rtil, .int .i64 rwkst, .bool rends, .slice ra6 rn6 rc6, .slice ra7 rn7 rc7, .slice ra8 rn8 rc8, .slice ra9 rn9 rc9, .slice ra10 rn10 rc10, .slice ra11 rn11 rc11, .slice ra12 rn12 rc12, .slice ra13 rn13 rc13, .slice ra14 rn14 rc14] 25
  generalize w.alloc (.cells #[.int .i64 rfreq, .int .i64 ritv, .int .i64 rcnt, .int .i64 rtil, .int .i64 rwkst, .bool rends, .slice ra6 rn6 rc6, .slice ra7 rn7 rc7, .slice ra8 rn8 rc8, .slice ra9 rn9 rc9, .slice ra10 rn10 rc10, .slice ra11 rn11 rc11, .slice ra12 rn12 rc12, .slice ra13 rn13 rc13, .slice ra14 rn14 rc14] 25) = w0 at *
  have rz0 : w0.cell? ⟨w.heap.size, 0, none⟩ = some (.int .i64 rfreq) := Xr0.at_ 0 _ rfl
  have rz1 : w0.cell? ⟨w.heap.size, 1, none⟩ = some (.int .i64 ritv) := Xr0.at_ 1 _ rfl
  have rz2 : w0.cell? ⟨w.heap.size, 2, none⟩ = some (.int .i64 rcnt) := Xr0.at_ 2 _ rfl
  have rz3 : w0.cell? ⟨w.heap.size, 3, none⟩ = some (.int .i64 rtil) := Xr0.at_ 3 _ rfl
  have rz4 : w0.cell? ⟨w.heap.size, 4, none⟩ = some (.int .i64 rwkst) := Xr0.at_ 4 _ rfl
  have rz5 : w0.cell? ⟨w.heap.size, 5, none⟩ = some (.bool rends) := Xr0.at_ 5 _ rfl
  have rz6 : w0.cell? ⟨w.heap.size, 6, none⟩ = some (.slice ra6 rn6 rc6) := Xr0.at_ 6 _ rfl
  have rz7 : w0.cell? ⟨w.heap.size, 7, none⟩ = some (.slice ra7 rn7 rc7) := Xr0.at_ 7 _ rfl
  have rz8 : w0.cell? ⟨w.heap.size, 8, none⟩ = some (.slice ra8 rn8 rc8) := Xr0.at_ 8 _ rfl
  have rz9 : w0.cell? ⟨w.heap.size, 9, none⟩ = some (.slice ra9 rn9 rc9) := Xr0.at_ 9 _ rfl
  have rz10 : w0.cell? ⟨w.heap.size, 10, none⟩ = some (.slice ra10 rn10 rc10) := Xr0.at_ 10 _ rfl
  have rz11 : w0.cell? ⟨w.heap.size, 11, none⟩ = some (.slice ra11 rn11 rc11) := Xr0.at_ 11 _ rfl
  have rz12 : w0.cell? ⟨w.heap.size, 12, none⟩ = some (.slice ra12 rn12 rc12) := Xr0.at_ 12 _ rfl
  have rz13 : w0.cell? ⟨w.heap.size, 13, none⟩ = some (.slice ra13 rn13 rc13) := Xr0.at_ 13 _ rfl
  have rz14 : w0.cell? ⟨w.heap.size, 14, none⟩ = some (.slice ra14 rn14 rc14) := Xr0.at_ 14 _ rfl
  go_wp2_with fail
  refine (timesR_yes _ ⟨ra6, rn6, rc6, ra7, rn7, rc7, ra8, rn8, rc8, ra9, rn9, rc9, ra10, rn10, rc10, ra11, rn11, rc11, ra12, rn12, rc12, ra13, rn13, rc13, ra14, rn14, rc14⟩ ⟨rfreq, ritv, rcnt, rtil, rwkst, rends, rmon, rweek, ryday, rmday, rday, rhour, rminu, rsec, rpos⟩ start (RA.out.below B0) M1.out M2'.out q11 q12 q13).mono ?_
  rintro e w1 ⟨A1, p1, A2, p2, A3, p3, he, a1, a2, a3, b1⟩
  rw [HH.out, HM.out, HC.out] at he
  rw [HH.out] at a1
  rw [HM.out] at a2
  rw [HC.out] at a3
  subst he
  clear rz0 rz1 rz2 rz3 rz4 rz5 rz6 rz7 rz8 rz9 rz10 rz11 rz12 rz13 rz14
  have B1 := B0.trans (b1.mono B0.size)
  have Xr1 := Xr0.below b1
  clear B0 Xr0
  clear b1
  have K1 := Lib.hid a1
  have K2 := Lib.hid a2
  have K3 := Lib.hid a3
  clear a1 a2 a3
  clear q11 q12 q13
  obtain ⟨m1, hm1⟩ : ∃ m, H.length = m := ⟨_, rfl⟩
  rw [hm1] at K1 l1 ⊢
  clear hm1
  obtain ⟨m2, hm2⟩ : ∃ m, M.length = m := ⟨_, rfl⟩
  rw [hm2] at K2 l2 ⊢
  clear hm2
  obtain ⟨m3, hm3⟩ : ∃ m, C.length = m := ⟨_, rfl⟩
  rw [hm3] at K3 l3 ⊢
  clear hm3
  go_upto_region 3 with fail
  have SZ1 := B1.size
  have y1 := alloc_below w1 (.cells #[.int .i64 0] 3)
  have i1 := oneI w1 0
  generalize hx1 : w1.alloc (.cells #[.int .i64 0] 3) = x1 at *
  have e1 : x1.heap.size = w1.heap.size + 1 := by rw [← hx1]; simp
  clear hx1
  have y2 := alloc_below x1 (.cells #[.int .i64 0] 3)
  have i2 := oneI x1 0
  have i1 := i1.below y2
  generalize hx2 : x1.alloc (.cells #[.int .i64 0] 3) = x2 at *
  have e2 : x2.heap.size = w1.heap.size + 2 := by rw [← hx2]; simp [e1]
  clear hx2
  have Y2 := y1.trans (y2.mono y1.size)
  have B2 := B1.trans (Y2.mono B1.size)
  have X2 := Xr1.below Y2
  have K1 := Lib.hid (K1.out.below Y2)
  have K2 := Lib.hid (K2.out.below Y2)
  have K3 := Lib.hid (K3.out.below Y2)
  have I1 := Lib.hid i1
  have I2 := Lib.hid i2
  clear B1 Xr1 y1 y2 Y2 i1 i2
  have B3 := alloc_below x2 (.cells #[.slice A1 m1 p1, .int .i64 3600, .int .i64 5, .slice A2 m2 p2, .int .i64 60, .int .i64 6, .slice A3 m3 p3, .int .i64 1, .int .i64 7] 142)
  have XB := Box.new x2 #[.slice A1 m1 p1, .int .i64 3600, .int .i64 5, .slice A2 m2 p2, .int .i64 60, .int .i64 6, .slice A3 m3 p3, .int .i64 1, .int .i64 7] 142
  go_wp2
  generalize x2.alloc (.cells #[.slice A1 m1 p1, .int .i64 3600, .int .i64 5, .slice A2 m2 p2, .int .i64 60, .int .i64 6, .slice A3 m3 p3, .int .i64 1, .int .i64 7] 142) = x3 at *
  have K1 := Lib.hid (K1.out.below B3)
  have K2 := Lib.hid (K2.out.below B3)
  have K3 := Lib.hid (K3.out.below B3)
  have I1 := Lib.hid (I1.out.below B3)
  have I2 := Lib.hid (I2.out.below B3)
  have X3 := X2.below B3
  have HB := B2.trans (B3.mono B2.size)
  go_loopw [9, 10, 30] (fun b c i wr => ∃ t1 : Nat, t1 ≤ 3 ∧ i = .int .i64 t1 ∧ Hid (Sl w.heap.size wr b (G t1)) ∧ Hid (Sl w.heap.size wr c (Y t1)) ∧ Below x3.heap.size x3 wr) (fun _ _ i _ => 3 - (intOf i).toNat)
  case atStart => exact ⟨0, by omega, rfl, Lib.hid ⟨_, _, by rw [← GZ.out.1]; rfl, by rw [← GZ.out.1]; exact I1.out, fun b off e => by cases e; exact ⟨SZ1, rfl⟩⟩, Lib.hid ⟨_, _, by rw [← GZ.out.2]; rfl, by rw [← GZ.out.2]; have q := I2.out; rw [e1] at q; exact q, fun b off e => by cases e; exact ⟨Nat.le_trans SZ1 (Nat.le_succ _), rfl⟩⟩, Below.refl _ _⟩
  case round =>
    obtain ⟨t1, ht1, rfl, SB, SC, hB⟩ := hrel
    have XR := X3.below hB
    have rz0 : wr.cell? ⟨w.heap.size, 0, none⟩ = some (.int .i64 rfreq) := XR.at_ 0 _ rfl
    have b0 := XB.1
    by_cases hlt : t1 < 3
    · rcases (by omega : t1 = 0 ∨ t1 = 1 ∨ t1 = 2) with rfl | rfl | rfl
      · have q0 : wr.cell? ⟨w1.heap.size + 2, 0, none⟩ = some (.slice A1 m1 p1) := by rw [← e2]; exact (hB.cell (p := ⟨x2.heap.size, 0, none⟩) b0).trans (XB.2 0 _ rfl)
        have q1 : wr.cell? ⟨w1.heap.size + 2, 1, none⟩ = some (.int .i64 3600) := by rw [← e2]; exact (hB.cell (p := ⟨x2.heap.size, 1, none⟩) b0).trans (XB.2 1 _ rfl)
        have q2 : wr.cell? ⟨w1.heap.size + 2, 2, none⟩ = some (.int .i64 5) := by rw [← e2]; exact (hB.cell (p := ⟨x2.heap.size, 2, none⟩) b0).trans (XB.2 2 _ rfl)
        obtain ⟨A5, c5, rfl, i5, f5⟩ := SB.out
        obtain ⟨A6, c6, rfl, i6, f6⟩ := SC.out
        have LG := (GL.out 0).1
        have LY := (GL.out 0).2
        by_cases hf : 5 ≤ rfreq
        · have t0 : decide ((5 : Int) ≤ rfreq) = true := decide_eq_true hf
          have t9 : ¬ rfreq < 5 := by omega
          go_upto_region 6 with fail
          have y := alloc_below wr (.cells #[.slice A1 m1 p1, .int .i64 3600, .int .i64 5] 142)
          have XY := Box.new wr #[.slice A1 m1 p1, .int .i64 3600, .int .i64 5] 142
          generalize wr.alloc (.cells #[.slice A1 m1 p1, .int .i64 3600, .int .i64 5] 142) = wy at *
          clear q0 q1 q2 rz0
          have rz0 : wy.cell? ⟨w.heap.size, 0, none⟩ = some (.int .i64 rfreq) := (XR.below y).at_ 0 _ rfl
          have q0 : wy.cell? ⟨wr.heap.size, 0, none⟩ = some (.slice A1 m1 p1) := XY.2 0 _ rfl
          have q1 : wy.cell? ⟨wr.heap.size, 1, none⟩ = some (.int .i64 3600) := XY.2 1 _ rfl
          have q2 : wy.cell? ⟨wr.heap.size, 2, none⟩ = some (.int .i64 5) := XY.2 2 _ rfl
          have IA := Lib.hid (i5.below y)
          have IB := Lib.hid (i6.below y)
          have KK := Lib.hid ((K1.out.below hB).below y)
          clear i5 i6
          obtain ⟨sp1, sp2, sp3⟩ := P0.out.1 (by omega)
          have SP1 := Lib.hid sp1
          have SP2 := Lib.hid sp2
          have SP3 := Lib.hid sp3
          clear sp1 sp2 sp3
          go_wp2_with fail
          refine (spread_is _ A5 A1 _ m1 c5 p1 (G 0) H 3600 IA.out KK.out (by omega) (by omega) SP1.out _ SP2.out).mono ?_
          rintro e w5 ⟨A7, c7, rfl, i7, f7, b7⟩
          have I7 := Lib.hid i7
          clear i7
          go_wp2
          go_roundw
          case rel => exact ⟨1, by omega, by go_num, Lib.hid ⟨A7, c7, rfl, I7.out, fresh_mono f7 (Nat.le_trans HB.size (Nat.le_trans hB.size y.size))⟩, Lib.hid ⟨A6, c6, by rw [SP3.out], by rw [SP3.out]; exact IB.out.below b7, f6⟩, (hB.trans (y.mono hB.size)).trans (b7.mono (Nat.le_trans hB.size y.size))⟩
          case measure => simp [intOf]
        · have t0 : decide ((5 : Int) ≤ rfreq) = false := decide_eq_false hf
          have t9 : rfreq < 5 := by omega
          go_upto_region 6 with fail
          have y := alloc_below wr (.cells #[.slice A1 m1 p1, .int .i64 3600, .int .i64 5] 142)
          have XY := Box.new wr #[.slice A1 m1 p1, .int .i64 3600, .int .i64 5] 142
          generalize wr.alloc (.cells #[.slice A1 m1 p1, .int .i64 3600, .int .i64 5] 142) = wy at *
          clear q0 q1 q2 rz0
          have rz0 : wy.cell? ⟨w.heap.size, 0, none⟩ = some (.int .i64 rfreq) := (XR.below y).at_ 0 _ rfl
          have q0 : wy.cell? ⟨wr.heap.size, 0, none⟩ = some (.slice A1 m1 p1) := XY.2 0 _ rfl
          have q1 : wy.cell? ⟨wr.heap.size, 1, none⟩ = some (.int .i64 3600) := XY.2 1 _ rfl
          have q2 : wy.cell? ⟨wr.heap.size, 2, none⟩ = some (.int .i64 5) := XY.2 2 _ rfl
          have IA := Lib.hid (i6.below y)
          have IB := Lib.hid (i5.below y)
          have KK := Lib.hid ((K1.out.below hB).below y)
          clear i5 i6
          obtain ⟨sp1, sp2, sp3⟩ := P0.out.2 (by omega)
          have SP1 := Lib.hid sp1
          have SP2 := Lib.hid sp2
          have SP3 := Lib.hid sp3
          clear sp1 sp2 sp3
          go_wp2_with fail
          refine (spread_is _ A6 A1 _ m1 c6 p1 (Y 0) H 3600 IA.out KK.out (by omega) (by omega) SP1.out _ SP2.out).mono ?_
          rintro e w5 ⟨A7, c7, rfl, i7, f7, b7⟩
          have I7 := Lib.hid i7
          clear i7
          go_wp2
          go_roundw
          case rel => exact ⟨1, by omega, by go_num, Lib.hid ⟨A5, c5, by rw [SP3.out], by rw [SP3.out]; exact IB.out.below b7, f5⟩, Lib.hid ⟨A7, c7, rfl, I7.out, fresh_mono f7 (Nat.le_trans HB.size (Nat.le_trans hB.size y.size))⟩, (hB.trans (y.mono hB.size)).trans (b7.mono (Nat.le_trans hB.size y.size))⟩
          case measure => simp [intOf]
      · have q0 : wr.cell? ⟨w1.heap.size + 2, 3, none⟩ = some (.slice A2 m2 p2) := by rw [← e2]; exact (hB.cell (p := ⟨x2.heap.size, 3, none⟩) b0).trans (XB.2 3 _ rfl)
        have q1 : wr.cell? ⟨w1.heap.size + 2, 4, none⟩ = some (.int .i64 60) := by rw [← e2]; exact (hB.cell (p := ⟨x2.heap.size, 4, none⟩) b0).trans (XB.2 4 _ rfl)
        have q2 : wr.cell? ⟨w1.heap.size + 2, 5, none⟩ = some (.int .i64 6) := by rw [← e2]; exact (hB.cell (p := ⟨x2.heap.size, 5, none⟩) b0).trans (XB.2 5 _ rfl)
        obtain ⟨A5, c5, rfl, i5, f5⟩ := SB.out
        obtain ⟨A6, c6, rfl, i6, f6⟩ := SC.out
        have LG := (GL.out 1).1
        have LY := (GL.out 1).2
        by_cases hf : 6 ≤ rfreq
        · have t0 : decide ((6 : Int) ≤ rfreq) = true := decide_eq_true hf
          have t9 : ¬ rfreq < 6 := by omega
          go_upto_region 6 with fail
          have y := alloc_below wr (.cells #[.slice A2 m2 p2, .int .i64 60, .int .i64 6] 142)
          have XY := Box.new wr #[.slice A2 m2 p2, .int .i64 60, .int .i64 6] 142
          generalize wr.alloc (.cells #[.slice A2 m2 p2, .int .i64 60, .int .i64 6] 142) = wy at *
          clear q0 q1 q2 rz0
          have rz0 : wy.cell? ⟨w.heap.size, 0, none⟩ = some (.int .i64 rfreq) := (XR.below y).at_ 0 _ rfl
          have q0 : wy.cell? ⟨wr.heap.size, 0, none⟩ = some (.slice A2 m2 p2) := XY.2 0 _ rfl
          have q1 : wy.cell? ⟨wr.heap.size, 1, none⟩ = some (.int .i64 60) := XY.2 1 _ rfl
          have q2 : wy.cell? ⟨wr.heap.size, 2, none⟩ = some (.int .i64 6) := XY.2 2 _ rfl
          have IA := Lib.hid (i5.below y)
          have IB := Lib.hid (i6.below y)
          have KK := Lib.hid ((K2.out.below hB).below y)
          clear i5 i6
          obtain ⟨sp1, sp2, sp3⟩ := P1.out.1 (by omega)
          have SP1 := Lib.hid sp1
          have SP2 := Lib.hid sp2
          have SP3 := Lib.hid sp3
          clear sp1 sp2 sp3
          go_wp2_with fail
          refine (spread_is _ A5 A2 _ m2 c5 p2 (G 1) M 60 IA.out KK.out (by omega) (by omega) SP1.out _ SP2.out).mono ?_
          rintro e w5 ⟨A7, c7, rfl, i7, f7, b7⟩
          have I7 := Lib.hid i7
          clear i7
          go_wp2
          go_roundw
          case rel => exact ⟨2, by omega, by go_num, Lib.hid ⟨A7, c7, rfl, I7.out, fresh_mono f7 (Nat.le_trans HB.size (Nat.le_trans hB.size y.size))⟩, Lib.hid ⟨A6, c6, by rw [SP3.out], by rw [SP3.out]; exact IB.out.below b7, f6⟩, (hB.trans (y.mono hB.size)).trans (b7.mono (Nat.le_trans hB.size y.size))⟩
          case measure => simp [intOf]
        · have t0 : decide ((6 : Int) ≤ rfreq) = false := decide_eq_false hf
          have t9 : rfreq < 6 := by omega
          go_upto_region 6 with fail
          have y := alloc_below wr (.cells #[.slice A2 m2 p2, .int .i64 60, .int .i64 6] 142)
          have XY := Box.new wr #[.slice A2 m2 p2, .int .i64 60, .int .i64 6] 142
          generalize wr.alloc (.cells #[.slice A2 m2 p2, .int .i64 60, .int .i64 6] 142) = wy at *
          clear q0 q1 q2 rz0
          have rz0 : wy.cell? ⟨w.heap.size, 0, none⟩ = some (.int .i64 rfreq) := (XR.below y).at_ 0 _ rfl
          have q0 : wy.cell? ⟨wr.heap.size, 0, none⟩ = some (.slice A2 m2 p2) := XY.2 0 _ rfl
          have q1 : wy.cell? ⟨wr.heap.size, 1, none⟩ = some (.int .i64 60) := XY.2 1 _ rfl
          have q2 : wy.cell? ⟨wr.heap.size, 2, none⟩ = some (.int .i64 6) := XY.2 2 _ rfl
          have IA := Lib.hid (i6.below y)
          have IB := Lib.hid (i5.below y)
          have KK := Lib.hid ((K2.out.below hB).below y)
          clear i5 i6
          obtain ⟨sp1, sp2, sp3⟩ := P1.out.2 (by omega)
          have SP1 := Lib.hid sp1
          have SP2 := Lib.hid sp2
          have SP3 := Lib.hid sp3
          clear sp1 sp2 sp3
          go_wp2_with fail
          refine (spread_is _ A6 A2 _ m2 c6 p2 (Y 1) M 60 IA.out KK.out (by omega) (by omega) SP1.out _ SP2.out).mono ?_
          rintro e w5 ⟨A7, c7, rfl, i7, f7, b7⟩
          have I7 := Lib.hid i7
          clear i7
          go_wp2
          go_roundw
          case rel => exact ⟨2, by omega, by go_num, Lib.hid ⟨A5, c5, by rw [SP3.out], by rw [SP3.out]; exact IB.out.below b7, f5⟩, Lib.hid ⟨A7, c7, rfl, I7.out, fresh_mono f7 (Nat.le_trans HB.size (Nat.le_trans hB.size y.size))⟩, (hB.trans (y.mono hB.size)).trans (b7.mono (Nat.le_trans hB.size y.size))⟩
          case measure => simp [intOf]
      · have q0 : wr.cell? ⟨w1.heap.size + 2, 6, none⟩ = some (.slice A3 m3 p3) := by rw [← e2]; exact (hB.cell (p := ⟨x2.heap.size, 6, none⟩) b0).trans (XB.2 6 _ rfl)
        have q1 : wr.cell? ⟨w1.heap.size + 2, 7, none⟩ = some (.int .i64 1) := by rw [← e2]; exact (hB.cell (p := ⟨x2.heap.size, 7, none⟩) b0).trans (XB.2 7 _ rfl)
        have q2 : wr.cell? ⟨w1.heap.size + 2, 8, none⟩ = some (.int .i64 7) := by rw [← e2]; exact (hB.cell (p := ⟨x2.heap.size, 8, none⟩) b0).trans (XB.2 8 _ rfl)
        obtain ⟨A5, c5, rfl, i5, f5⟩ := SB.out
        obtain ⟨A6, c6, rfl, i6, f6⟩ := SC.out
        have LG := (GL.out 2).1
        have LY := (GL.out 2).2
        by_cases hf : 7 ≤ rfreq
        · have t0 : decide ((7 : Int) ≤ rfreq) = true := decide_eq_true hf
          have t9 : ¬ rfreq < 7 := by omega
          go_upto_region 6 with fail
          have y := alloc_below wr (.cells #[.slice A3 m3 p3, .int .i64 1, .int .i64 7] 142)
          have XY := Box.new wr #[.slice A3 m3 p3, .int .i64 1, .int .i64 7] 142
          generalize wr.alloc (.cells #[.slice A3 m3 p3, .int .i64 1, .int .i64 7] 142) = wy at *
          clear q0 q1 q2 rz0
          have rz0 : wy.cell? ⟨w.heap.size, 0, none⟩ = some (.int .i64 rfreq) := (XR.below y).at_ 0 _ rfl
          have q0 : wy.cell? ⟨wr.heap.size, 0, none⟩ = some (.slice A3 m3 p3) := XY.2 0 _ rfl
          have q1 : wy.cell? ⟨wr.heap.size, 1, none⟩ = some (.int .i64 1) := XY.2 1 _ rfl
          have q2 : wy.cell? ⟨wr.heap.size, 2, none⟩ = some (.int .i64 7) := XY.2 2 _ rfl
          have IA := Lib.hid (i5.below y)
          have IB := Lib.hid (i6.below y)
          have KK := Lib.hid ((K3.out.below hB).below y)
          clear i5 i6
          obtain ⟨sp1, sp2, sp3⟩ := P2.out.1 (by omega)
          have SP1 := Lib.hid sp1
          have SP2 := Lib.hid sp2
          have SP3 := Lib.hid sp3
          clear sp1 sp2 sp3
          go_wp2_with fail
          refine (spread_is _ A5 A3 _ m3 c5 p3 (G 2) C 1 IA.out KK.out (by omega) (by omega) SP1.out _ SP2.out).mono ?_
          rintro e w5 ⟨A7, c7, rfl, i7, f7, b7⟩
          have I7 := Lib.hid i7
          clear i7
          go_wp2
          go_roundw
          case rel => exact ⟨3, by omega, by go_num, Lib.hid ⟨A7, c7, rfl, I7.out, fresh_mono f7 (Nat.le_trans HB.size (Nat.le_trans hB.size y.size))⟩, Lib.hid ⟨A6, c6, by rw [SP3.out], by rw [SP3.out]; exact IB.out.below b7, f6⟩, (hB.trans (y.mono hB.size)).trans (b7.mono (Nat.le_trans hB.size y.size))⟩
          case measure => simp [intOf]
        · have t0 : decide ((7 : Int) ≤ rfreq) = false := decide_eq_false hf
          have t9 : rfreq < 7 := by omega
          go_upto_region 6 with fail
          have y := alloc_below wr (.cells #[.slice A3 m3 p3, .int .i64 1, .int .i64 7] 142)
          have XY := Box.new wr #[.slice A3 m3 p3, .int .i64 1, .int .i64 7] 142
          generalize wr.alloc (.cells #[.slice A3 m3 p3, .int .i64 1, .int .i64 7] 142) = wy at *
          clear q0 q1 q2 rz0
          have rz0 : wy.cell? ⟨w.heap.size, 0, none⟩ = some (.int .i64 rfreq) := (XR.below y).at_ 0 _ rfl
          have q0 : wy.cell? ⟨wr.heap.size, 0, none⟩ = some (.slice A3 m3 p3) := XY.2 0 _ rfl
          have q1 : wy.cell? ⟨wr.heap.size, 1, none⟩ = some (.int .i64 1) := XY.2 1 _ rfl
          have q2 : wy.cell? ⟨wr.heap.size, 2, none⟩ = some (.int .i64 7) := XY.2 2 _ rfl
          have IA := Lib.hid (i6.below y)
          have IB := Lib.hid (i5.below y)
          have KK := Lib.hid ((K3.out.below hB).below y)
          clear i5 i6
          obtain ⟨sp1, sp2, sp3⟩ := P2.out.2 (by omega)
          have SP1 := Lib.hid sp1
          have SP2 := Lib.hid sp2
          have SP3 := Lib.hid sp3
          clear sp1 sp2 sp3
          go_wp2_with fail
          refine (spread_is _ A6 A3 _ m3 c6 p3 (Y 2) C 1 IA.out KK.out (by omega) (by omega) SP1.out _ SP2.out).mono ?_
          rintro e w5 ⟨A7, c7, rfl, i7, f7, b7⟩
          have I7 := Lib.hid i7
          clear i7
          go_wp2
          go_roundw
          case rel => exact ⟨3, by omega, by go_num, Lib.hid ⟨A5, c5, by rw [SP3.out], by rw [SP3.out]; exact IB.out.below b7, f5⟩, Lib.hid ⟨A7, c7, rfl, I7.out, fresh_mono f7 (Nat.le_trans HB.size (Nat.le_trans hB.size y.size))⟩, (hB.trans (y.mono hB.size)).trans (b7.mono (Nat.le_trans hB.size y.size))⟩
          case measure => simp [intOf]
    · obtain rfl : t1 = 3 := by omega
      obtain ⟨A5, c5, rfl, i5, f5⟩ := SB.out
      obtain ⟨A6, c6, rfl, i6, f6⟩ := SC.out
      have IA := Lib.hid i5
      have IB := Lib.hid i6
      clear i5 i6
      go_wp2
      go_ret2
      exact ⟨A5, c5, A6, c6, rfl, IA.out, IB.out, f5, f6, HB.trans (hB.mono HB.size)⟩
end Go.Proofs.YtnfcchimkfnmkaaGreatDoor.Ex
