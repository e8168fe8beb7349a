/- The walk of vokref.Num. -/
import Derived.Test.YtajgagmpdhmbkaaGreatDoorRuB
import Derived.Test.YtajgagmpdhmbkaaGreatDoorRuNumV
import Derived.IntWalk
set_option linter.unusedVariables false
namespace Go.Proofs.YtajgagmpdhmbkaaGreatDoor.Ru
open Go.RowKit Cv St

def NumR (s : ByteArray) (w : World) (e : Ending) (w' : World) : Prop := ∃ n ok, e = .returned (.tuple #[.int .i64 n, .bool ok]) ∧ NumC s.data.toList n ok ∧ Below w.heap.size w w'
theorem numR_no {s : ByteArray} {w w' : World} (h : ∀ m, ¬ NumIs s.data.toList m) (hb : Below w.heap.size w w') : NumR s w (.returned (.tuple #[.int .i64 0, .bool false])) w' := ⟨0, false, rfl, numC_no h, hb⟩
theorem head_of {s : ByteArray} (h : 0 < s.size) : negB s.data.toList = decide (s[0].toNat = 45) := by
  unfold negB
  have e : s.data.toList.head? = some s[0] := by
    rw [List.head?_eq_getElem?, List.getElem?_eq_getElem (by rw [size_list]; exact h)]
    simp [ByteArray.getElem_eq_getElem_data]
  rw [e]
  refine decide_eq_decide.2 ?_
  rw [Option.some_inj]
  constructor
  · intro q; rw [q]; rfl
  · intro q; exact UInt8.toNat_inj.1 q
theorem head_no {s : ByteArray} (h : s.size = 0) : negB s.data.toList = false := by
  have : s.data.toList = [] := List.length_eq_zero_iff.1 (by rw [size_list]; exact h)
  rw [this]; rfl
theorem q10 {x : Int} (h0 : 0 ≤ x) (h1 : x ≤ 9) : (-9223372036854775808 + x).tdiv 10 = -((9223372036854775808 - x) / 10) := by
  rw [show -9223372036854775808 + x = -(9223372036854775808 - x) from by omega, Int.neg_tdiv, Int.tdiv_eq_ediv_of_nonneg (by omega)]
theorem str_dec {v s : ByteArray} {n : Int} (hv : str (Lib.itoa n) = v) {ok : Bool} (hok : decide (Lib.itoa n = s.data.toList) = ok) : (v.toList == s.toList) = ok := by
  rw [ByteArray.toList_eq, ByteArray.toList_eq, ← hv, list_str, ← hok]
  rw [Bool.eq_iff_iff, beq_iff_eq, decide_eq_true_eq]
set_option maxRecDepth 100000 in
set_option maxHeartbeats 8000000 in
/-- vokref.Num -/
theorem num_any (w : World) (s : ByteArray) (hs : s.size ≤ 1000000) : Calls Tryz.prog 140 #[.string s] w (NumR s w) := by
  by_cases h0 : 0 < s.size
  · have t0 : decide ((0 : Int) < (s.size : Int)) = true := decide_eq_true (by omega)
    have t9 : decide (0 < s.size) = true := decide_eq_true h0
    by_cases h1 : s[0].toNat = 45
    · have t1 : ((s[0].toNat : Int) == 45) = true := by rw [beq_iff_eq]; omega
      have t8 : (s[0].toNat == 45) = true := by rw [beq_iff_eq]; exact h1
      have NB := Lib.hid (show negB s.data.toList = true by rw [head_of h0]; exact decide_eq_true h1)
      obtain ⟨D, hD⟩ : ∃ D, s.extract 1 s.size = D := ⟨_, rfl⟩
      have HD := Lib.hid (show D.data.toList = digs (negB s.data.toList) s.data.toList by
        rw [NB.out, ← hD, ext_str, list_str]
        show _ = s.data.toList.drop 1
        exact List.take_of_length_le (by rw [List.length_drop, size_list]; omega))
      have H1 := Lib.hid h1
      clear h1
      go_enter Tryz.func140, Tryz.ntmps140
      go_upto_region 5 with fail
      try rw [hD]
      have HDD := Lib.hid hD
      clear hD t0 t9 t1 t8
      obtain ⟨LD, hLD⟩ : ∃ l, digs (negB s.data.toList) s.data.toList = l := ⟨_, rfl⟩
      have EL := Lib.hid hLD
      have HL := Lib.hid (show D.data.toList = LD by rw [← hLD]; exact HD.out)
      have SL := Lib.hid (show LD.length = D.size by rw [← HL.out, size_list])
      clear hLD HD
      by_cases d0 : D.size < 1
      · have t0 : decide ((D.size : Int) < 1) = true := decide_eq_true (by omega)
        have t9 : decide (D.size < 1) = true := decide_eq_true d0
        have E := Lib.hid (no_size (l := s.data.toList) (.inl (by rw [EL.out, SL.out]; exact d0)))
        go_wp2
        go_ret2
        exact numR_no E.out (Below.refl _ _)
      · have t0 : decide ((D.size : Int) < 1) = false := decide_eq_false (by omega)
        have t9 : decide (D.size < 1) = false := decide_eq_false d0
        by_cases d1 : 19 < D.size
        · have t1 : decide ((19 : Int) < (D.size : Int)) = true := decide_eq_true (by omega)
          have t8 : decide (19 < D.size) = true := decide_eq_true d1
          have E := Lib.hid (no_size (l := s.data.toList) (.inr (by rw [EL.out, SL.out]; exact d1)))
          go_wp2
          go_ret2
          exact numR_no E.out (Below.refl _ _)
        · have t1 : decide ((19 : Int) < (D.size : Int)) = false := decide_eq_false (by omega)
          have t8 : decide (19 < D.size) = false := decide_eq_false d1
          go_upto_region 7 with fail
          clear t0 t9 t1 t8
          go_wp2
          go_loopw [6, 7] (fun nv iv wr => ∃ t : Nat, t ≤ D.size ∧ iv = .int .i64 t ∧ nv = .int .i64 (-(valD (LD.take t) : Int)) ∧ Hid (valD (LD.take t) ≤ 9223372036854775808) ∧ ∃ q : Nat, wr = w.drewN q) (fun _ iv _ => D.size - (intOf iv).toNat)
          case atStart => exact ⟨0, Nat.zero_le _, rfl, rfl, Lib.hid (by simp [valD]), 0, rfl⟩
          case round =>
            obtain ⟨t, ht, rfl, rfl, VB, q, rfl⟩ := hrel
            by_cases hlt : t < D.size
            · have eC : LD[t]'(by rw [SL.out]; exact hlt) = D[t] := by
                have q : ∀ (l : List UInt8) (h : t < l.length), l = D.data.toList → l[t] = D[t] := by
                  intro l h e; subst e; simp [ByteArray.getElem_eq_getElem_data]
                exact q LD _ HL.out.symm
              obtain ⟨c, hc⟩ : ∃ c, D[t] = c := ⟨_, rfl⟩
              have MEM := Lib.hid (show c ∈ LD by rw [← hc, ← eC]; exact List.getElem_mem _)
              have TK := Lib.hid (show valD (LD.take (t + 1)) = valD (LD.take t) * 10 + (c.toNat - 48) by rw [valD_take (by rw [SL.out]; exact hlt), eC, hc])
              have cb : c.toNat < 256 := c.toNat_lt
              obtain ⟨cn, hcn⟩ : ∃ n, c.toNat = n := ⟨_, rfl⟩
              have CN := Lib.hid hcn
              have i1 : IntKind.i64.wrap ((cn : Int) - 48) = (cn : Int) - 48 := IntWalk.i64_in _ (by omega)
              have j1 := IntWalk.wrap64_in (cn : Int) (by omega)
              have j2 := IntWalk.wrap64_in ((cn : Int) - 48) (by omega)
              have i4 : IntKind.i64.wrap ((t : Int) + 1) = (t : Int) + 1 := IntWalk.i64_in _ (by omega)
              have TK := Lib.hid (by have := TK.out; rw [hcn] at this; exact this)
              have vb := VB.out
              obtain ⟨v, hv⟩ : ∃ v, valD (LD.take t) = v := ⟨_, rfl⟩
              have HV := Lib.hid hv
              have TK := Lib.hid (by have := TK.out; rw [hv] at this; exact this)
              rw [hv] at vb ⊢
              clear eC hv VB
              have ec : D[t].toNat = cn := by rw [hc, hcn]
              clear hcn hc
              by_cases d2 : cn < 48
              · have g0 : decide ((cn : Int) - 48 < 0) = true := decide_eq_true (by omega)
                have E := Lib.hid (no_digit (l := s.data.toList) (c := c) (by rw [EL.out]; exact MEM.out) (fun g => by have := g.1; have := CN.out; omega))
                go_wp2
                go_ret2
                exact numR_no E.out (Below.drewN' _ _ _)
              · have g0 : decide ((cn : Int) - 48 < 0) = false := decide_eq_false (by omega)
                by_cases d3 : 57 < cn
                · have g1 : decide ((9 : Int) < (cn : Int) - 48) = true := decide_eq_true (by omega)
                  have E := Lib.hid (no_digit (l := s.data.toList) (c := c) (by rw [EL.out]; exact MEM.out) (fun g => by have := g.2; have := CN.out; omega))
                  go_wp2
                  go_ret2
                  exact numR_no E.out (Below.drewN' _ _ _)
                · have g1 : decide ((9 : Int) < (cn : Int) - 48) = false := decide_eq_false (by omega)
                  obtain ⟨x, hx⟩ : ∃ x : Int, (cn : Int) - 48 = x := ⟨_, rfl⟩
                  have x0 : 0 ≤ x := by omega
                  have x9 : x ≤ 9 := by omega
                  have XC := Lib.hid (show (cn - 48 : Nat) = x.toNat by omega)
                  rw [hx] at i1 j2 g0 g1
                  obtain ⟨Q, hQ⟩ : ∃ Q : Int, (9223372036854775808 - x) / 10 = Q := ⟨_, rfl⟩
                  have i2 : IntKind.i64.wrap (-9223372036854775808 + x) = -9223372036854775808 + x := IntWalk.i64_in _ (by omega)
                  have q1 : (-9223372036854775808 + x).tdiv 10 = -Q := by rw [q10 x0 x9, hQ]
                  have i3 : IntKind.i64.wrap (-Q) = -Q := IntWalk.i64_in _ (by omega)
                  have j3 := IntWalk.wrap64_in (-Q) (by omega)
                  have j4 := IntWalk.wrap64_in (-9223372036854775808 + x) (by omega)
                  by_cases d4 : -(v : Int) < -Q
                  · have g2 : decide (-(v : Int) < -Q) = true := decide_eq_true d4
                    have E := Lib.hid (no_far (l := s.data.toList) (k := t) (by rw [EL.out, HV.out]; omega))
                    go_wp2
                    go_ret2
                    exact numR_no E.out (Below.drewN' _ _ _)
                  · have g2 : decide (-(v : Int) < -Q) = false := decide_eq_false d4
                    have i5 : IntKind.i64.wrap (10 * -(v : Int)) = 10 * -(v : Int) := IntWalk.i64_in _ (by omega)
                    have i6 : IntKind.i64.wrap (10 * -(v : Int) - x) = 10 * -(v : Int) - x := IntWalk.i64_in _ (by omega)
                    have j5 := IntWalk.wrap64_in (10 * -(v : Int)) (by omega)
                    have j6 := IntWalk.wrap64_in (10 * -(v : Int) - x) (by omega)
                    have NV := Lib.hid (show 10 * -(v : Int) - x = -(valD (LD.take (t + 1)) : Int) by rw [TK.out, XC.out]; omega)
                    have NB2 := Lib.hid (show valD (LD.take (t + 1)) ≤ 9223372036854775808 by have := NV.out; omega)
                    go_wp2
                    go_roundw
                    case rel => exact ⟨t + 1, by omega, by go_num, by first | rw [NV.out] | (rw [← NV.out]; simp), NB2, _, rfl⟩
                    case measure => simp [intOf]; omega
            · obtain rfl : t = D.size := by omega
              have TA := Lib.hid (show LD.take D.size = LD from List.take_of_length_le (by rw [SL.out]; exact Nat.le_refl _))
              have vb := VB.out
              rw [TA.out] at vb ⊢
              obtain ⟨v, hv⟩ : ∃ v, valD LD = v := ⟨_, rfl⟩
              have HV := Lib.hid hv
              rw [hv] at vb ⊢
              clear hv VB
              obtain ⟨ok, hok⟩ : ∃ ok, decide (Lib.itoa (-(v : Int)) = s.data.toList) = ok := ⟨_, rfl⟩
              obtain ⟨y, hy⟩ : ∃ y, str (Lib.itoa (-(v : Int))) = y := ⟨_, rfl⟩
              have SD := str_dec hy hok
              have HOK := Lib.hid hok
              have HY := Lib.hid hy
              clear hok hy
              go_wp2_with fail
              refine (decI_is (-(v : Int)) _ (by omega) (by omega) y HY.out).mono ?_
              rintro e w' ⟨rfl, hb⟩
              go_wp2
              go_ret2
              exact ⟨_, ok, by first | rfl | rw [SD], numC_end (by rw [EL.out, HV.out, NB.out]; simp) (by omega) (by omega) ok HOK.out, (Below.drewN' _ _ _).trans (hb.mono (Nat.le_refl _))⟩
    · have t1 : ((s[0].toNat : Int) == 45) = false := by rw [beq_eq_false_iff_ne]; omega
      have t8 : (s[0].toNat == 45) = false := by rw [beq_eq_false_iff_ne]; exact h1
      have NB := Lib.hid (show negB s.data.toList = false by rw [head_of h0]; exact decide_eq_false h1)
      have HD := Lib.hid (show s.data.toList = digs (negB s.data.toList) s.data.toList by rw [NB.out]; rfl)
      have h2 : ¬ ((s[0].toNat : Int) = 45) := by omega
      go_enter Tryz.func140, Tryz.ntmps140
      go_upto_region 5 with fail
      clear t0 t9 t1 t8 h1 h2
      obtain ⟨LD, hLD⟩ : ∃ l, digs (negB s.data.toList) s.data.toList = l := ⟨_, rfl⟩
      have EL := Lib.hid hLD
      have HL := Lib.hid (show s.data.toList = LD by rw [← hLD]; exact HD.out)
      have SL := Lib.hid (show LD.length = s.size by rw [← HL.out, size_list])
      clear hLD HD
      by_cases d0 : s.size < 1
      · exact absurd d0 (by omega)
      · have t0 : decide ((s.size : Int) < 1) = false := decide_eq_false (by omega)
        have t9 : decide (s.size < 1) = false := decide_eq_false d0
        by_cases d1 : 19 < s.size
        · have t1 : decide ((19 : Int) < (s.size : Int)) = true := decide_eq_true (by omega)
          have t8 : decide (19 < s.size) = true := decide_eq_true d1
          have E := Lib.hid (no_size (l := s.data.toList) (.inr (by rw [EL.out, SL.out]; exact d1)))
          go_wp2
          go_ret2
          exact numR_no E.out (Below.refl _ _)
        · have t1 : decide ((19 : Int) < (s.size : Int)) = false := decide_eq_false (by omega)
          have t8 : decide (19 < s.size) = false := decide_eq_false d1
          go_upto_region 7 with fail
          clear t0 t9 t1 t8
          go_wp2
          go_loopw [6, 7] (fun nv iv wr => ∃ t : Nat, t ≤ s.size ∧ iv = .int .i64 t ∧ nv = .int .i64 (-(valD (LD.take t) : Int)) ∧ Hid (valD (LD.take t) ≤ 9223372036854775808) ∧ ∃ q : Nat, wr = w.drewN q) (fun _ iv _ => s.size - (intOf iv).toNat)
          case atStart => exact ⟨0, Nat.zero_le _, rfl, rfl, Lib.hid (by simp [valD]), 0, rfl⟩
          case round =>
            obtain ⟨t, ht, rfl, rfl, VB, q, rfl⟩ := hrel
            by_cases hlt : t < s.size
            · have eC : LD[t]'(by rw [SL.out]; exact hlt) = s[t] := by
                have q : ∀ (l : List UInt8) (h : t < l.length), l = s.data.toList → l[t] = s[t] := by
                  intro l h e; subst e; simp [ByteArray.getElem_eq_getElem_data]
                exact q LD _ HL.out.symm
              obtain ⟨c, hc⟩ : ∃ c, s[t] = c := ⟨_, rfl⟩
              have MEM := Lib.hid (show c ∈ LD by rw [← hc, ← eC]; exact List.getElem_mem _)
              have TK := Lib.hid (show valD (LD.take (t + 1)) = valD (LD.take t) * 10 + (c.toNat - 48) by rw [valD_take (by rw [SL.out]; exact hlt), eC, hc])
              have cb : c.toNat < 256 := c.toNat_lt
              obtain ⟨cn, hcn⟩ : ∃ n, c.toNat = n := ⟨_, rfl⟩
              have CN := Lib.hid hcn
              have i1 : IntKind.i64.wrap ((cn : Int) - 48) = (cn : Int) - 48 := IntWalk.i64_in _ (by omega)
              have j1 := IntWalk.wrap64_in (cn : Int) (by omega)
              have j2 := IntWalk.wrap64_in ((cn : Int) - 48) (by omega)
              have i4 : IntKind.i64.wrap ((t : Int) + 1) = (t : Int) + 1 := IntWalk.i64_in _ (by omega)
              have TK := Lib.hid (by have := TK.out; rw [hcn] at this; exact this)
              have vb := VB.out
              obtain ⟨v, hv⟩ : ∃ v, valD (LD.take t) = v := ⟨_, rfl⟩
              have HV := Lib.hid hv
              have TK := Lib.hid (by have := TK.out; rw [hv] at this; exact this)
              rw [hv] at vb ⊢
              clear eC hv VB
              have ec : s[t].toNat = cn := by rw [hc, hcn]
              clear hcn hc
              by_cases d2 : cn < 48
              · have g0 : decide ((cn : Int) - 48 < 0) = true := decide_eq_true (by omega)
                have E := Lib.hid (no_digit (l := s.data.toList) (c := c) (by rw [EL.out]; exact MEM.out) (fun g => by have := g.1; have := CN.out; omega))
                go_wp2
                go_ret2
                exact numR_no E.out (Below.drewN' _ _ _)
              · have g0 : decide ((cn : Int) - 48 < 0) = false := decide_eq_false (by omega)
                by_cases d3 : 57 < cn
                · have g1 : decide ((9 : Int) < (cn : Int) - 48) = true := decide_eq_true (by omega)
                  have E := Lib.hid (no_digit (l := s.data.toList) (c := c) (by rw [EL.out]; exact MEM.out) (fun g => by have := g.2; have := CN.out; omega))
                  go_wp2
                  go_ret2
                  exact numR_no E.out (Below.drewN' _ _ _)
                · have g1 : decide ((9 : Int) < (cn : Int) - 48) = false := decide_eq_false (by omega)
                  obtain ⟨x, hx⟩ : ∃ x : Int, (cn : Int) - 48 = x := ⟨_, rfl⟩
                  have x0 : 0 ≤ x := by omega
                  have x9 : x ≤ 9 := by omega
                  have XC := Lib.hid (show (cn - 48 : Nat) = x.toNat by omega)
                  rw [hx] at i1 j2 g0 g1
                  obtain ⟨Q, hQ⟩ : ∃ Q : Int, (9223372036854775808 - x) / 10 = Q := ⟨_, rfl⟩
                  have i2 : IntKind.i64.wrap (-9223372036854775808 + x) = -9223372036854775808 + x := IntWalk.i64_in _ (by omega)
                  have q1 : (-9223372036854775808 + x).tdiv 10 = -Q := by rw [q10 x0 x9, hQ]
                  have i3 : IntKind.i64.wrap (-Q) = -Q := IntWalk.i64_in _ (by omega)
                  have j3 := IntWalk.wrap64_in (-Q) (by omega)
                  have j4 := IntWalk.wrap64_in (-9223372036854775808 + x) (by omega)
                  by_cases d4 : -(v : Int) < -Q
                  · have g2 : decide (-(v : Int) < -Q) = true := decide_eq_true d4
                    have E := Lib.hid (no_far (l := s.data.toList) (k := t) (by rw [EL.out, HV.out]; omega))
                    go_wp2
                    go_ret2
                    exact numR_no E.out (Below.drewN' _ _ _)
                  · have g2 : decide (-(v : Int) < -Q) = false := decide_eq_false d4
                    have i5 : IntKind.i64.wrap (10 * -(v : Int)) = 10 * -(v : Int) := IntWalk.i64_in _ (by omega)
                    have i6 : IntKind.i64.wrap (10 * -(v : Int) - x) = 10 * -(v : Int) - x := IntWalk.i64_in _ (by omega)
                    have j5 := IntWalk.wrap64_in (10 * -(v : Int)) (by omega)
                    have j6 := IntWalk.wrap64_in (10 * -(v : Int) - x) (by omega)
                    have NV := Lib.hid (show 10 * -(v : Int) - x = -(valD (LD.take (t + 1)) : Int) by rw [TK.out, XC.out]; omega)
                    have NB2 := Lib.hid (show valD (LD.take (t + 1)) ≤ 9223372036854775808 by have := NV.out; omega)
                    go_wp2
                    go_roundw
                    case rel => exact ⟨t + 1, by omega, by go_num, by first | rw [NV.out] | (rw [← NV.out]; simp), NB2, _, rfl⟩
                    case measure => simp [intOf]; omega
            · obtain rfl : t = s.size := by omega
              have TA := Lib.hid (show LD.take s.size = LD from List.take_of_length_le (by rw [SL.out]; exact Nat.le_refl _))
              have vb := VB.out
              rw [TA.out] at vb ⊢
              obtain ⟨v, hv⟩ : ∃ v, valD LD = v := ⟨_, rfl⟩
              have HV := Lib.hid hv
              rw [hv] at vb ⊢
              clear hv VB
              by_cases d5 : v = 9223372036854775808
              · have g5 : ((-(v : Int) : Int) == -9223372036854775808) = true := by rw [beq_iff_eq]; omega
                have E := Lib.hid (no_top (l := s.data.toList) (by rw [EL.out, HV.out]; omega))
                have D5 := Lib.hid d5
                clear d5
                go_wp2
                go_ret2
                exact numR_no E.out (Below.drewN' _ _ _)
              · have g5 : ((-(v : Int) : Int) == -9223372036854775808) = false := by rw [beq_eq_false_iff_ne]; omega
                have i7 : IntKind.i64.wrap (-(-(v : Int))) = (v : Int) := by rw [Int.neg_neg]; exact IntWalk.i64_in _ (by omega)
                have i8 : IntKind.i64.wrap (v : Int) = (v : Int) := IntWalk.i64_in _ (by omega)
                have j7 := IntWalk.wrap64_in (v : Int) (by omega)
                obtain ⟨ok, hok⟩ : ∃ ok, decide (Lib.itoa (v : Int) = s.data.toList) = ok := ⟨_, rfl⟩
                obtain ⟨y, hy⟩ : ∃ y, str (Lib.itoa (v : Int)) = y := ⟨_, rfl⟩
                have SD := str_dec hy hok
                have HOK := Lib.hid hok
                have HY := Lib.hid hy
                clear hok hy
                go_wp2_with fail
                refine (decI_is (v : Int) _ (by omega) (by omega) y HY.out).mono ?_
                rintro e w' ⟨rfl, hb⟩
                go_wp2
                go_ret2
                exact ⟨_, ok, by first | rfl | rw [SD], numC_end (by rw [EL.out, HV.out, NB.out]; simp) (by omega) (by omega) ok HOK.out, (Below.drewN' _ _ _).trans (hb.mono (Nat.le_refl _))⟩
  · have t0 : decide ((0 : Int) < (s.size : Int)) = false := decide_eq_false (by omega)
    have t9 : decide (0 < s.size) = false := decide_eq_false h0
    have NB := Lib.hid (head_no (s := s) (by omega))
    have E := Lib.hid (no_size (l := s.data.toList) (.inl (by rw [NB.out]; show s.data.toList.length < 1; rw [size_list]; omega)))
    have s0 : s.size = 0 := by omega
    have u0 : decide ((s.size : Int) < 1) = true := decide_eq_true (by omega)
    have u9 : decide (s.size < 1) = true := decide_eq_true (by omega)
    have S0 := Lib.hid s0
    clear s0
    go_enter Tryz.func140, Tryz.ntmps140
    go_wp2
    go_ret2
    exact numR_no E.out (Below.refl _ _)
end Go.Proofs.YtajgagmpdhmbkaaGreatDoor.Ru
