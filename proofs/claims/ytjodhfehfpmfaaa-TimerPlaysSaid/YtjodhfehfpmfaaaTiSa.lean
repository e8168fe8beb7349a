/- voklaw11.same: the queue and the reference's queue stand alike. -/
import Derived.Test.YtjodhfehfpmfaaaTiRi
set_option linter.unusedVariables false
namespace Go.Proofs.Ytjodhfehfpmfaaa.Ti
open Go.RowKit Iv

theorem head_form (L : List It) : ∃ (xa xb : Int) (b : Bool), headV L = .tuple #[.agg #[.int .i64 xa, .int .i64 xb], .bool b] := by
  cases L with
  | nil => exact ⟨_, _, _, rfl⟩
  | cons a L => exact ⟨_, _, _, rfl⟩
set_option maxRecDepth 100000 in
set_option maxHeartbeats 16000000 in
theorem same_is {G X : Nat → Prop} {B : Nat} (w : World) (q r : Nat) (L : List It) (hq : QB w q L B X) (hr : RQ G w r L) (hl : L.length ≤ 700000) : Calls Try.prog 44 #[.pointer (some ⟨q, 0, none⟩), .pointer (some ⟨r, 0, none⟩)] w fun e w' => e = .returned (.bool true) ∧ Below w.heap.size w w' := by
  have QH := Lib.hid hq
  have RH := Lib.hid hr
  have HF := Lib.hid (head_form L)
  clear hq hr
  go_enter Try.func44, Try.ntmps44
  go_wp2_with fail
  refine (listB QH.out hl).mono ?_
  rintro e w1 ⟨A1, c1, rfl, s1, -, -, b1⟩
  have B1 := Lib.hid b1
  have sz1 := b1.size
  have S1 := Lib.hid s1
  have Q1 := Lib.hid (QH.out.below b1)
  have R1 := Lib.hid (RH.out.below b1)
  obtain ⟨AR, cR, RF⟩ := R1.out
  have Z := Lib.hid (show ∀ v, Below w1.heap.size w1 v → v.cell? ⟨r, 0, none⟩ = some (.slice AR L.length cR) from fun v hv => (RF.below hv).c0)
  have CE := Lib.hid (show ∀ t, t < L.length → ∃ g, AR = some ⟨g, 0, none⟩ ∧ g < w1.heap.size ∧ w1.cell? ⟨g, t * 2, none⟩ = some (.int .i64 (gt L t).1) ∧ w1.cell? ⟨g, t * 2 + 1, none⟩ = some (.int .i64 (gt L t).2) from fun t ht => by
    obtain ⟨g, e, fg, q, qg⟩ := RF.has (by omega)
    exact ⟨g, e, q.lt, itr_cell q ht⟩)
  clear s1 b1 RF QH RH
  obtain ⟨n, hn⟩ : ∃ n, n = L.length := ⟨_, rfl⟩
  have LN := Lib.hid hn
  rw [← hn] at S1 Z CE hl
  simp only [← hn]
  clear hn
  go_upto_region 2 with fail
  refine wp_region_late (fun _ => false) (fun v => Below w1.heap.size w1 v) (by kernel_rfl) ?_
  have D0 : Below w1.heap.size w1 w1.drew := (Below.refl _ _).drew
  refine tk 0 rfl (.slice A1 n c1) (.inl ⟨by kernel_rfl, fun w' hs => ?_⟩) D0 ?_
  · go_simp
  refine tk 1 rfl (.int .i64 (n : Nat)) (.inl ⟨by kernel_rfl, fun w' hs => ?_⟩) D0 ?_
  · go_simp
  refine tk 2 rfl (.pointer (some ⟨r, 0, none⟩)) (.inl ⟨by kernel_rfl, fun w' hs => ?_⟩) D0 ?_
  · go_simp
  refine tk 3 rfl (.pointer (some ⟨r, 0, none⟩)) (.inl ⟨by kernel_rfl, fun w' hs => ?_⟩) D0 ?_
  · go_simp
  refine tk 4 rfl (.pointer (some ⟨r, 0, none⟩)) (.inl ⟨by kernel_rfl, fun w' hs => ?_⟩) D0 ?_
  · go_simp
  refine tk 5 rfl (.slice AR n cR) (.inl ⟨by kernel_rfl, fun w' hs => ?_⟩) D0 ?_
  · have z0 := Z.out _ hs
    go_simp
  refine tk 6 rfl (.int .i64 (n : Nat)) (.inl ⟨by kernel_rfl, fun w' hs => ?_⟩) D0 ?_
  · go_simp
  refine tk 7 rfl (.bool false) (.inl ⟨by kernel_rfl, fun w' hs => ?_⟩) D0 ?_
  · go_simp
  refine tk 8 rfl (.bool false) (.inl ⟨by kernel_rfl, fun w' hs => ?_⟩) D0 ?_
  · go_simp
  refine tk 9 rfl (.pointer (some ⟨q, 0, none⟩)) (.inl ⟨by kernel_rfl, fun w' hs => ?_⟩) D0 ?_
  · go_simp
  refine tk 11 rfl (.pointer (some ⟨r, 0, none⟩)) (.inl ⟨by kernel_rfl, fun w' hs => ?_⟩) D0 ?_
  · go_simp
  refine tk 12 rfl (.pointer (some ⟨r, 0, none⟩)) (.inl ⟨by kernel_rfl, fun w' hs => ?_⟩) D0 ?_
  · go_simp
  refine tk 13 rfl (.pointer (some ⟨r, 0, none⟩)) (.inl ⟨by kernel_rfl, fun w' hs => ?_⟩) D0 ?_
  · go_simp
  refine tk 14 rfl (.slice AR n cR) (.inl ⟨by kernel_rfl, fun w' hs => ?_⟩) D0 ?_
  · have z0 := Z.out _ hs
    go_simp
  refine tk 15 rfl (.int .i64 (n : Nat)) (.inl ⟨by kernel_rfl, fun w' hs => ?_⟩) D0 ?_
  · go_simp
  refine late_oneG 10 rfl (by kernel_rfl) (by kernel_rfl) ?_
  go_simp
  refine (lenB (Q1.out.below D0)).mono ?_
  rintro e w2 ⟨rfl, e2⟩
  rw [← LN.out]
  have D2 : Below w1.heap.size w1 w2 := e2 ▸ D0
  clear e2 D0
  (first | refine ⟨D2, ?_⟩ | refine ⟨.inr D2, ?_⟩)
  refine tk 16 rfl (.bool false) (.inl ⟨by kernel_rfl, fun w' hs => ?_⟩) D2 ?_
  · go_simp
  refine tk 17 rfl (.bool false) (.inl ⟨by kernel_rfl, fun w' hs => ?_⟩) D2 ?_
  · go_simp
  refine Late.done (by kernel_rfl) ?_
  have H2 := Lib.hid D2
  clear D2
  go_wp2_with fail
  go_loopw [6] (fun i wr => ∃ k : Nat, i = .int .i64 k ∧ k ≤ n ∧ Below w1.heap.size w1 wr) (fun i _ => n - (intOf i).toNat)
  case atStart => exact ⟨0, rfl, Nat.zero_le _, H2.out⟩
  case round =>
    obtain ⟨wi, rfl⟩ : ∃ wi : World, wi = wr := ⟨_, rfl⟩
    obtain ⟨k, rfl, hk, hI⟩ := hrel
    have II := Lib.hid hI
    by_cases hlt : k < n
    · have s0 : decide ((k : Int) < n) = true := decide_eq_true (by omega)
      have s00 : decide (k < n) = true := decide_eq_true hlt
      have i5 : (k : Int) < n := by omega
      have W1 : IntKind.i64.wrap ((k : Int) + 1) = (k : Int) + 1 := IntWalk.i64_in _ (by omega)
      obtain ⟨b, o, rfl, hb, hc⟩ := S1.out.2 (by omega)
      obtain ⟨c0, d0⟩ := hc k hlt
      obtain ⟨g, rfl, gl, x0, x1⟩ := CE.out k hlt
      have z0 := Z.out _ hI
      replace c0 := (hI.cell (p := ⟨b, _, none⟩) hb).trans c0
      replace d0 := (hI.cell (p := ⟨b, _, none⟩) hb).trans d0
      replace x0 := (hI.cell (p := ⟨g, _, none⟩) gl).trans x0
      replace x1 := (hI.cell (p := ⟨g, _, none⟩) gl).trans x1
      clear hc hI
      generalize gt L k = y at *
      go_wp2
      go_big_quiet (fail)
      go_wp2
      go_roundw
      case rel => exact ⟨k + 1, by go_num, by omega, II.out.trans (by first | exact below_drewN _ _ _ | exact (below_drewN _ _ _).trans (below_drewN _ _ _))⟩
      case measure => simp [intOf]; omega
    · obtain rfl : n = k := by omega
      have s0 : decide ((n : Int) < n) = false := decide_eq_false (by omega)
      have s00 : decide (n < n) = false := decide_eq_false (by omega)
      obtain ⟨xa, xb, bb, hf⟩ := HF.out
      have HV := Lib.hid hf
      have BI := Lib.hid (B1.out.trans (hI.mono sz1))
      have Q3 := Lib.hid (Q1.out.below hI)
      have R3 := Lib.hid (R1.out.below hI)
      clear hI hf Z CE S1 HF
      go_wp2_with fail
      refine (nextB Q3.out).mono ?_
      rintro e w3 ⟨rfl, b3⟩
      rw [HV.out]
      have B3 := Lib.hid (BI.out.trans (b3.mono BI.out.size))
      have R4 := Lib.hid (R3.out.below b3)
      have sz3 := B3.out.size
      clear b3 Q3 R3
      go_upto_region 10 with fail
      obtain ⟨w4, hw4⟩ : ∃ w4 : World, w4 = w3.alloc (.cells #[.int .i64 xa, .int .i64 xb] 70) := ⟨_, rfl⟩
      have b4 : Below w3.heap.size w3 w4 := hw4 ▸ below_alloc _ _
      have x0 : w4.cell? ⟨w3.heap.size, 0, none⟩ = some (.int .i64 xa) := by rw [hw4]; simp
      have x1 : w4.cell? ⟨w3.heap.size, 1, none⟩ = some (.int .i64 xb) := by rw [hw4]; simp
      have y4 : w3.heap.size < w4.heap.size := by rw [hw4]; simp
      have R5 := Lib.hid (R4.out.below b4)
      have B4 := Lib.hid (B3.out.trans (b4.mono sz3))
      have sz4 := B4.out.size
      rw [← hw4]
      clear hw4 b4 R4 B3
      generalize w3.heap.size = p at *
      go_wp2_with fail
      refine (rnext_is w4 r L R5.out).mono ?_
      rintro e w5 ⟨rfl, b5⟩
      rw [HV.out]
      replace x0 := (b5.cell (p := ⟨p, 0, none⟩) y4).trans x0
      replace x1 := (b5.cell (p := ⟨p, 1, none⟩) y4).trans x1
      have B5 := Lib.hid (B4.out.trans (b5.mono sz4))
      have y5 : p < w5.heap.size := Nat.lt_of_lt_of_le y4 b5.size
      have sz5 := B5.out.size
      clear b5 y4
      go_upto_region 11 with fail
      obtain ⟨w6, hw6⟩ : ∃ w6 : World, w6 = w5.alloc (.cells #[.int .i64 xa, .int .i64 xb] 73) := ⟨_, rfl⟩
      have b6 : Below w5.heap.size w5 w6 := hw6 ▸ below_alloc _ _
      have v0 : w6.cell? ⟨w5.heap.size, 0, none⟩ = some (.int .i64 xa) := by rw [hw6]; simp
      have v1 : w6.cell? ⟨w5.heap.size, 1, none⟩ = some (.int .i64 xb) := by rw [hw6]; simp
      replace x0 := (b6.cell (p := ⟨p, 0, none⟩) y5).trans x0
      replace x1 := (b6.cell (p := ⟨p, 1, none⟩) y5).trans x1
      have B6 := Lib.hid (B5.out.trans (b6.mono sz5))
      rw [← hw6]
      clear hw6 b6 B5
      generalize w5.heap.size = p2 at *
      go_wp2_with fail
      go_ret
      exact ⟨rfl, B6.out⟩
end Go.Proofs.Ytjodhfehfpmfaaa.Ti
