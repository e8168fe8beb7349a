/- The walks of package expand's unit, common and spread. -/
import Derived.Test.YtnfcchimkfnmkaaGreatDoorMbA
import Derived.Test.YtnfcchimkfnmkaaGreatDoorRuComp
import Derived.Test.YtnfcchimkfnmkaaGreatDoorExMathB
set_option linter.unusedVariables false
namespace Go.Proofs.YtnfcchimkfnmkaaGreatDoor.Ex
open Go.RowKit Cv St Ru Dd Mb

set_option maxRecDepth 100000 in
set_option maxHeartbeats 8000000 in
/-- expand.unit -/
theorem unit_is (w : World) (S : RS) (r : Ru) (k : Int) (hk : unitR r = k) :
    Calls Tryz.prog 132 #[S.val r] w fun e w' => e = .returned (.int .i64 k) ∧ Below w.heap.size w w' := by
  have F5 := Lib.hid (fun (e : r.freq = 5) => show 3600 = k by rw [← hk]; unfold unitR; rw [if_pos e])
  have F6 := Lib.hid (fun (e : r.freq = 6) => show 60 = k by rw [← hk]; unfold unitR; rw [if_neg (by omega), if_pos e])
  have F7 := Lib.hid (fun (e : r.freq = 7) => show 1 = k by rw [← hk]; unfold unitR; rw [if_neg (by omega), if_neg (by omega), if_pos e])
  have F8 := Lib.hid (fun (a : r.freq ≠ 5) (b : r.freq ≠ 6) (c : r.freq ≠ 7) => show 86400 = k by rw [← hk]; unfold unitR; rw [if_neg a, if_neg b, if_neg c])
  clear hk
  obtain ⟨ra6, rn6, rc6, ra7, rn7, rc7, ra8, rn8, rc8, ra9, rn9, rc9, ra10, rn10, rc10, ra11, rn11, rc11, ra12, rn12, rc12, ra13, rn13, rc13, ra14, rn14, rc14⟩ := S
  obtain ⟨rfreq, ritv, rcnt, rtil, rwkst, rends, rmon, rweek, ryday, rmday, rday, rhour, rminu, rsec, rpos⟩ := r
  show Calls Tryz.prog 132 #[.agg #[.int .i64 rfreq, .int .i64 ritv, .int .i64 rcnt, .int .i64 rtil, .int .i64 rwkst, .bool rends, .slice ra6 rn6 rc6, .slice ra7 rn7 rc7, .slice ra8 rn8 rc8, .slice ra9 rn9 rc9, .slice ra10 rn10 rc10, .slice ra11 rn11 rc11, .slice ra12 rn12 rc12, .slice ra13 rn13 rc13, .slice ra14 rn14 rc14]] w _
  go_enter Tryz.func132, Tryz.ntmps132
  go_upto_region 1 with fail
  have B0 := alloc_below w (.cells #[.int .i64 rfreq, .int .i64 ritv, .int .i64 rcnt, .int .i64 rtil, .int .i64 rwkst, .bool rends, .slice ra6 rn6 rc6, .slice ra7 rn7 rc7, .slice ra8 rn8 rc8, .slice ra9 rn9 rc9, .slice ra10 rn10 rc10, .slice ra11 rn11 rc11, .slice ra12 rn12 rc12, .slice ra13 rn13 rc13, .slice ra14 rn14 rc14] 25)
  have Xr0 := Box.new w #[.int .i64 rfreq, .int .i64 ritv, .int .i64 rcnt, .int .i64 rtil, .int .i64 rwkst, .bool rends, .slice ra6 rn6 rc6, .slice ra7 rn7 rc7, .slice ra8 rn8 rc8, .slice ra9 rn9 rc9, .slice ra10 rn10 rc10, .slice ra11 rn11 rc11, .slice ra12 rn12 rc12, .slice ra13 rn13 rc13, .slice ra14 rn14 rc14] 25
  generalize w.alloc (.cells #[.int .i64 rfreq, .int .i64 ritv, .int .i64 rcnt, .int .i64 rtil, .int .i64 rwkst, .bool rends, .slice ra6 rn6 rc6, .slice ra7 rn7 rc7, .slice ra8 rn8 rc8, .slice ra9 rn9 rc9, .slice ra10 rn10 rc10, .slice ra11 rn11 rc11, .slice ra12 rn12 rc12, .slice ra13 rn13 rc13, .slice ra14 rn14 rc14] 25) = w0 at *
  have rz0 : w0.cell? ⟨w.heap.size, 0, none⟩ = some (.int .i64 rfreq) := Xr0.at_ 0 _ rfl
  by_cases h5 : rfreq = 5
  · have t5 : ((rfreq : Int) == 5) = true := by rw [beq_iff_eq]; omega
    have Y := Lib.hid h5
    clear h5
    have E := Lib.hid (F5.out Y.out)
    clear F5 F6 F7 F8
    go_wp2
    go_ret
    exact ⟨ret_int E.out, B0⟩
  · have t5 : ((rfreq : Int) == 5) = false := by rw [beq_eq_false_iff_ne]; omega
    by_cases h6 : rfreq = 6
    · have t6 : ((rfreq : Int) == 6) = true := by rw [beq_iff_eq]; omega
      have Y := Lib.hid h6
      clear h6 h5
      have E := Lib.hid (F6.out Y.out)
      clear F5 F6 F7 F8
      go_wp2
      go_ret
      exact ⟨ret_int E.out, B0⟩
    · have t6 : ((rfreq : Int) == 6) = false := by rw [beq_eq_false_iff_ne]; omega
      by_cases h7 : rfreq = 7
      · have t7 : ((rfreq : Int) == 7) = true := by rw [beq_iff_eq]; omega
        have Y := Lib.hid h7
        clear h7 h6 h5
        have E := Lib.hid (F7.out Y.out)
        clear F5 F6 F7 F8
        go_wp2
        go_ret
        exact ⟨ret_int E.out, B0⟩
      · have t7 : ((rfreq : Int) == 7) = false := by rw [beq_eq_false_iff_ne]; omega
        have Y := Lib.hid h7
        have Y5 := Lib.hid h5
        have Y6 := Lib.hid h6
        clear h5 h6 h7
        have E := Lib.hid (F8.out Y5.out Y6.out Y.out)
        clear F5 F6 F7 F8
        go_wp2
        go_ret
        exact ⟨ret_int E.out, B0⟩
set_option maxRecDepth 100000 in
set_option maxHeartbeats 8000000 in
/-- expand.common -/
theorem common_is (w : World) (a b : Nat) (ha : a ≤ 1000000) (hb : b ≤ 1000000) :
    Calls Tryz.prog 175 #[.int .i64 a, .int .i64 b] w fun e w' => e = .returned (.int .i64 (Nat.gcd a b)) ∧ Below w.heap.size w w' := by
  obtain ⟨g, hg⟩ : ∃ g, Nat.gcd a b = g := ⟨_, rfl⟩
  have HG := Lib.hid hg
  rw [hg]
  clear hg
  go_enter Tryz.func175, Tryz.ntmps175
  go_wp2
  go_loopw [0, 1] (fun x y wr => ∃ a b : Nat, x = .int .i64 a ∧ y = .int .i64 b ∧ Hid (Nat.gcd a b = g) ∧ a ≤ 1000000 ∧ b ≤ 1000000 ∧ Below w.heap.size w wr) (fun _ y _ => (intOf y).toNat)
  case atStart => exact ⟨a, b, rfl, rfl, HG.out, ha, hb, by first | exact Below.refl _ _ | exact (Below.refl _ _).drew⟩
  case round =>
    clear ha hb HG
    obtain ⟨a, b, rfl, rfl, G, ha, hb, hB⟩ := hrel
    by_cases h : b = 0
    · subst h
      have E := Lib.hid (show (a : Int) = (g : Int) by rw [← G.out]; simp)
      go_wp2
      go_ret
      exact ⟨ret_int E.out, by first | exact hB | exact hB.drew⟩
    · have t0 : ((b : Int) == 0) = false := by rw [beq_eq_false_iff_ne]; omega
      have n0 : ¬ (b : Int) = 0 := by omega
      have M := Lib.hid (show (a : Int).tmod b = ((a % b : Nat) : Int) from (Int.ofNat_tmod a b).symm)
      have LT := Lib.hid (Nat.mod_lt a (by omega : 0 < b))
      have X := Lib.hid (show Nat.gcd b (a % b) = g by rw [← G.out, Nat.gcd_comm a b]; exact (Nat.gcd_rec b a).symm ▸ (by rw [Nat.gcd_comm]))
      clear h
      go_wp2
      go_big_quiet (fail)
      go_wp2
      go_roundw
      case rel => exact ⟨b, a % b, rfl, by first | rfl | (congr 1; exact M.out) | (simp), X.out, hb, by have := LT.out; omega, by first | exact hB.trans (Below.drewN' _ _ _) | exact hB.drew.trans (Below.drewN' _ _ _)⟩
      case measure => have := LT.out; have := M.out; simp [intOf]; omega
/-- a slice that lies behind what lay -/
theorem fresh_mono {B B' : Nat} {A : Option Addr} (h : Fresh B A) (hb : B' ≤ B) : Fresh B' A := fun b off e => ⟨Nat.le_trans hb (h b off e).1, (h b off e).2⟩
/-- what answers a new slice that reads as the list m -/
def ListF (w : World) (m : List Int) (e : Ending) (w' : World) : Prop := ∃ A c, e = .returned (.slice A m.length c) ∧ IsAt w' A m.length m ∧ Fresh w.heap.size A ∧ Below w.heap.size w w'
/-- a day's numbers and their sums -/
structure SprOk (T N : List Int) (k : Int) : Prop where
  room : T.length * N.length ≤ 100000
  bT : ∀ x ∈ T, 0 ≤ x ∧ x ≤ 1000000
  bN : ∀ x ∈ N, 0 ≤ x ∧ x ≤ 1000000 ∧ 0 ≤ x * k ∧ x * k ≤ 1000000
def rowL (t : Int) (N : List Int) (k : Int) : List Int := N.map fun n => t + n * k
theorem spread_take {T N : List Int} {k : Int} {t : Nat} (ht : t < T.length) : spreadL (T.take (t + 1)) N k = spreadL (T.take t) N k ++ rowL (iat T t) N k := by
  unfold spreadL; rw [take_at ht, List.flatMap_append]; simp [rowL]
theorem row_take {N : List Int} {t k : Int} {u : Nat} (hu : u < N.length) : rowL t (N.take (u + 1)) k = rowL t (N.take u) k ++ [t + iat N u * k] := by
  unfold rowL; rw [take_at hu, List.map_append]; rfl
theorem spread_len (T N : List Int) (k : Int) : (spreadL T N k).length = T.length * N.length := flat_len fun x _ => by simp
theorem row_len (t : Int) (N : List Int) (k : Int) : (rowL t N k).length = N.length := by simp [rowL]
theorem roomS {T N : List Int} {t u : Nat} {x k : Int} (h : T.length * N.length ≤ 100000) (ht : t < T.length) : (spreadL (T.take t) N k ++ rowL x (N.take u) k).length ≤ 1000000 := by
  rw [List.length_append, spread_len, row_len, List.length_take, List.length_take]
  have a : min t T.length * N.length ≤ T.length * N.length := Nat.mul_le_mul (by omega) (Nat.le_refl _)
  have b : N.length ≤ T.length * N.length := by
    have := Nat.mul_le_mul (show 1 ≤ T.length by omega) (Nat.le_refl N.length)
    omega
  omega
set_option maxRecDepth 100000 in
set_option maxHeartbeats 8000000 in
/-- expand.spread -/
theorem spread_is (w : World) (A B : Option Addr) (n m c d : Nat) (T N : List Int) (k : Int) (hT : IsAt w A n T) (hN : IsAt w B m N) (h1 : n ≤ 1000000) (h2 : m ≤ 1000000) (ok : SprOk T N k) (x : List Int) (hx : spreadL T N k = x) :
    Calls Tryz.prog 174 #[.slice A n c, .slice B m d, .int .i64 k] w (ListF w x) := by
  have LN1 := Lib.hid hT.1.symm
  have LN2 := Lib.hid hN.1.symm
  have K1 := Lib.hid hT
  have K2 := Lib.hid hN
  have BT := Lib.hid ok.bT
  have BN := Lib.hid ok.bN
  have PN : n * m ≤ 100000 := by rw [hT.1, hN.1]; exact ok.room
  have RM := Lib.hid (fun (t u : Nat) (g : Int) (h : t < T.length) => roomS (T := T) (N := N) (t := t) (u := u) (x := g) (k := k) ok.room h)
  have XT := Lib.hid hx
  clear hT hN ok hx
  have PE := Lib.hid (show (n : Int) * (m : Int) = ((n * m : Nat) : Int) by simp)
  have IW : IntKind.i64.wrap ((n : Int) * (m : Int)) = (n : Int) * (m : Int) := IntWalk.i64_in _ (by rw [PE.out]; omega)
  obtain ⟨i0, hi, hz0, hz1, hz2⟩ := info_parts info_int
  go_enter Tryz.func174, Tryz.ntmps174
  go_wp2_with (at_make; refine wpList_make_own _ rfl _ _ 22 rfl w.heap.size 3 i0 (.int .i64 0) 1 Tryz.underlying22 hi hz0 hz1 .i64 .i64 _ (n * m) rfl rfl (by rw [← PE.out]) (by rw [hz2]; omega) (by unfold maxLen; omega) (Nat.le_refl _) ?_)
  intro wm hown hg
  have OW0 := Lib.hid (show OwnI w wm (.slice (some ⟨w.heap.size, 0, none⟩) 0 (n * m)) [] from hown)
  have BW := Lib.hid (show Below w.heap.size w wm from (Below.refl _ _).grown hg (Nat.le_refl _) (fun k hk => by cases hk))
  clear hown hg hi hz0 hz1 hz2 i0 IW
  go_wp2
  go_loopw [7, 20] (fun ov i wr => ∃ (v : Value) (t1 : Nat) (acc : List Int), t1 ≤ n ∧ v = ov ∧ i = .int .i64 t1 ∧ OwnI w wr v acc ∧ Hid (spreadL (T.take t1) N k = acc) ∧ Below w.heap.size w wr) (fun _ i _ => n - (intOf i).toNat)
  case atStart => exact ⟨_, 0, [], Nat.zero_le _, rfl, rfl, OW0.out, Lib.hid rfl, BW.out⟩
  case round =>
    obtain ⟨wo, rfl⟩ : ∃ wo : World, wo = wr := ⟨_, rfl⟩
    obtain ⟨v0, t1, acc1, ht1, rfl, rfl, ov1, D1, hB1⟩ := hrel
    have OV1 := Lib.hid ov1
    clear ov1
    by_cases hlt1 : t1 < n
    · obtain ⟨bl1, of1, ea1, hl1, hc1⟩ := K1.out.2 (show 0 < n by omega)
      subst ea1
      have c1 := (hB1.cell (p := ⟨bl1, _, none⟩) hl1).trans (hc1 t1 hlt1)
      have e1 := BT.out (iat T t1) (by rw [iat_lt (by rw [LN1.out]; exact hlt1)]; exact List.getElem_mem _)
      have N1 := Lib.hid (spread_take (T := T) (N := N) (k := k) (t := t1) (by rw [LN1.out]; exact hlt1))
      have RR := Lib.hid (fun u => RM.out t1 u (iat T t1) (by rw [LN1.out]; exact hlt1))
      clear hc1
      generalize iat T t1 = g1 at *
      go_wp2
      go_loopw [7, 26] (fun ov i wr => ∃ (v : Value) (t2 : Nat) (acc : List Int), t2 ≤ m ∧ v = ov ∧ i = .int .i64 t2 ∧ OwnI w wr v acc ∧ Hid (acc1 ++ rowL g1 (N.take t2) k = acc) ∧ Below w.heap.size w wr) (fun _ i _ => m - (intOf i).toNat)
      case atStart => exact ⟨_, 0, acc1, Nat.zero_le _, rfl, rfl, OV1.out, Lib.hid (by simp [rowL]), hB1⟩
      case round =>
        obtain ⟨v1, t2, acc2, ht2, rfl, rfl, ov2, D2, hB2⟩ := hrel
        have OV2 := Lib.hid ov2
        clear ov2
        by_cases hlt2 : t2 < m
        · obtain ⟨bl2, of2, ea2, hl2, hc2⟩ := K2.out.2 (show 0 < m by omega)
          subst ea2
          have c2 := (hB2.cell (p := ⟨bl2, _, none⟩) hl2).trans (hc2 t2 hlt2)
          obtain ⟨e2, e3, e4, e5⟩ := BN.out (iat N t2) (by rw [iat_lt (by rw [LN2.out]; exact hlt2)]; exact List.getElem_mem _)
          have N2 := Lib.hid (row_take (N := N) (t := g1) (k := k) (u := t2) (by rw [LN2.out]; exact hlt2))
          have R := RR.out t2
          rw [D1.out, D2.out] at R
          clear hc2
          generalize iat N t2 = g2 at *
          have W1 : IntKind.i64.wrap (g2 * k) = g2 * k := IntWalk.i64_in _ (by omega)
          have W2 : IntKind.i64.wrap (g1 + g2 * k) = g1 + g2 * k := IntWalk.i64_in _ (by omega)
          go_wp2_with (at_builtin; refine append_num rfl _ _ rfl _ acc2 rfl OV2.out hB2 _ _ _ rfl R ?_)
          intro v4 w4 ow4 hb4
          have OW := Lib.hid ow4
          clear ow4
          go_wp2
          go_roundw
          case rel => exact ⟨v4, t2 + 1, _, by omega, rfl, by go_num, OW.out, Lib.hid (by rw [N2.out, ← List.append_assoc, D2.out]), hb4⟩
          case measure => simp [intOf]; omega
        · obtain rfl : m = t2 := by omega
          have E2 := Lib.hid (show acc1 ++ rowL g1 N k = acc2 by rw [← D2.out, List.take_of_length_le (by rw [LN2.out]; exact Nat.le_refl _)])
          go_wp2
          go_roundw
          case rel => exact ⟨v1, t1 + 1, acc2, by omega, rfl, by go_num, OV2.out, Lib.hid (by rw [N1.out, D1.out, E2.out]), hB2⟩
          case measure => simp [intOf]; omega
    · obtain rfl : n = t1 := by omega
      have E1 := Lib.hid (show x = acc1 by rw [← XT.out, ← D1.out, List.take_of_length_le (by rw [LN1.out]; exact Nat.le_refl _)])
      go_wp2
      go_ret
      obtain ⟨A, c, rfl, ia, -, -⟩ := OV1.out.at_
      have e := E1.out
      subst e
      exact ⟨A, c, rfl, ia, OV1.out.fresh, hB1⟩
end Go.Proofs.YtnfcchimkfnmkaaGreatDoor.Ex
