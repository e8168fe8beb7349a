/- The walk of package expand's reached. -/
import Derived.Test.YtnfcchimkfnmkaaGreatDoorExA
import Derived.Test.YtnfcchimkfnmkaaGreatDoorDyP
set_option linter.unusedVariables false
namespace Go.Proofs.YtnfcchimkfnmkaaGreatDoor.Ex
open Go.RowKit Cv St Ru Dd Mb

theorem unit_01 {r : Ru} (h : mayR r = true) : unitR r = 86400 ∨ unitR r = 3600 ∨ unitR r = 60 ∨ unitR r = 1 := by rcases unit_cases h with ⟨-, u⟩ | ⟨-, u⟩ | ⟨-, u⟩ | ⟨-, u⟩ <;> rw [u] <;> simp
theorem unit_div {r : Ru} (h : mayR r = true) : (86400 : Int).tdiv (unitR r) = ((86400 / unitR r).toNat : Int) ∧ (86400 / unitR r).toNat ≤ 86400 ∧ 1 ≤ (86400 / unitR r).toNat ∧ 86400 / unitR r = ((86400 / unitR r).toNat : Int) := by
  rcases unit_01 h with u | u | u | u <;> rw [u] <;> decide
theorem tdiv_nn {s u : Int} (h : 0 ≤ s) : s.tdiv u = s / u := Int.tdiv_eq_ediv_of_nonneg h
/-- s's unit is taken by Interval on some day -/
def reachB (r : Ru) (p g s : Int) : Bool := decide ((p + s / unitR r) % g = 0)
theorem filt_yes {q : Int → Bool} {T : List Int} {k : Nat} (hk : k < T.length) (h : q (iat T k) = true) : (T.take (k + 1)).filter q = (T.take k).filter q ++ [iat T k] := by
  rw [take_at hk, List.filter_append]; simp [h]
theorem filt_no {q : Int → Bool} {T : List Int} {k : Nat} (hk : k < T.length) (h : q (iat T k) = false) : (T.take (k + 1)).filter q = (T.take k).filter q := by
  rw [take_at hk, List.filter_append]; simp [h]
theorem filt_room {q : Int → Bool} {T : List Int} {k : Nat} (h : T.length ≤ 100000) : ((T.take k).filter q).length ≤ 1000000 := by
  have := List.length_filter_le q (T.take k)
  rw [List.length_take] at this
  omega
set_option maxRecDepth 100000 in
set_option maxHeartbeats 8000000 in
/-- expand.reached -/
theorem reached_is (w : World) (S : RS) (r : Ru) (start : Int) (A : Option Addr) (n c : Nat) (T x : List Int) (h : RuAt w S r) (hm : mayR r = true) (hs : St.may start = true) (hT : IsAt w A n T) (bT : ∀ x ∈ T, 0 ≤ x ∧ x ≤ 86399) (lT : T.length ≤ 100000) (hx : reachL r start T = x) :
    Calls Tryz.prog 131 #[S.val r, .int .i64 start, .slice A n c] w (ListF w x) := by
  have RA := Lib.hid h
  have st := of_decide_eq_true hs
  obtain ⟨itv1, itv2⟩ := (freq_may hm).2
  obtain ⟨N, hN⟩ : ∃ N : Nat, r.itv = (N : Int) := ⟨r.itv.toNat, by omega⟩
  obtain ⟨U, hU⟩ : ∃ U, unitR r = U := ⟨_, rfl⟩
  obtain ⟨d1, d2, d3, d4⟩ := unit_div hm
  rw [hU] at d1 d2 d3 d4
  obtain ⟨K, hK⟩ : ∃ K, (86400 / U).toNat = K := ⟨_, rfl⟩
  rw [hK] at d1 d2 d3 d4
  have U1 := unit_01 hm
  rw [hU] at U1
  obtain ⟨p, hp⟩ : ∃ p, per r (start / 86400 * 86400) - per r start = p := ⟨_, rfl⟩
  have md := may_day hs
  have pb1 := per_bd hm hs
  have pb2 := per_bd hm md
  have HP := Lib.hid (show perR r start (start / 86400 * 86400) = (p, true) by unfold perR; rw [if_pos (by rw [hm, hs, md]; rfl), hp])
  have p1 : -4000000000000 ≤ p := by omega
  have p2 : p ≤ 4000000000000 := by omega
  have XT := Lib.hid (show T.filter (reachB r p (Nat.gcd N K : Int)) = x by
    rw [← hx]
    unfold reachL reachB
    rw [hU, d4, hN, hp]
    rfl)
  have HU := Lib.hid hU
  have DV := Lib.hid d1
  have LN := Lib.hid hT.1.symm
  have KT := Lib.hid hT
  have BT := Lib.hid bT
  have LL : n ≤ 100000 := by rw [hT.1]; exact lT
  have RMX := Lib.hid (fun k q => filt_room (q := q) (k := k) lT)
  have G0 := Lib.hid (Nat.gcd_pos_of_pos_right N (show 0 < K by omega))
  have G1 := Lib.hid (Nat.le_of_dvd (show 0 < K by omega) (Nat.gcd_dvd_right N K))
  have HN := Lib.hid hN
  have SD : -719162 ≤ start / 86400 ∧ start / 86400 ≤ 2932896 := by omega
  have s1 : -9223372036854775808 ≤ start := by omega
  have s2 : start ≤ 9223372036854775807 := by omega
  have n1 : N ≤ 1000 := by omega
  clear h hx hT bT lT hU hK md pb1 pb2 st hm hs hp d1 d4 itv1 itv2 hN
  obtain ⟨ra6, rn6, rc6, ra7, rn7, rc7, ra8, rn8, rc8, ra9, rn9, rc9, ra10, rn10, rc10, ra11, rn11, rc11, ra12, rn12, rc12, ra13, rn13, rc13, ra14, rn14, rc14⟩ := S
  obtain ⟨rfreq, ritv, rcnt, rtil, rwkst, rends, rmon, rweek, ryday, rmday, rday, rhour, rminu, rsec, rpos⟩ := r
  have HN := Lib.hid (show ritv = (N : Int) from HN.out)
  show Calls Tryz.prog 131 #[.agg #[.int .i64 rfreq, .int .i64 ritv, .int .i64 rcnt, .int .i64 rtil, .int .i64 rwkst, .bool rends, .slice ra6 rn6 rc6, .slice ra7 rn7 rc7, .slice ra8 rn8 rc8, .slice ra9 rn9 rc9, .slice ra10 rn10 rc10, .slice ra11 rn11 rc11, .slice ra12 rn12 rc12, .slice ra13 rn13 rc13, .slice ra14 rn14 rc14], .int .i64 start, .slice A n c] w _
  go_enter Tryz.func131, Tryz.ntmps131
  go_upto_region 1 with fail
  have B0 := alloc_below w (.cells #[.int .i64 rfreq, .int .i64 ritv, .int .i64 rcnt, .int .i64 rtil, .int .i64 rwkst, .bool rends, .slice ra6 rn6 rc6, .slice ra7 rn7 rc7, .slice ra8 rn8 rc8, .slice ra9 rn9 rc9, .slice ra10 rn10 rc10, .slice ra11 rn11 rc11, .slice ra12 rn12 rc12, .slice ra13 rn13 rc13, .slice ra14 rn14 rc14] 25)
  have Xr0 := Box.new w #[.int .i64 rfreq, .int .i64 ritv, .int .i64 rcnt, .int .i64 rtil, .int .i64 rwkst, .bool rends, .slice ra6 rn6 rc6, .slice ra7 rn7 rc7, .slice ra8 rn8 rc8, .slice ra9 rn9 rc9, .slice ra10 rn10 rc10, .slice ra11 rn11 rc11, .slice ra12 rn12 rc12, .slice ra13 rn13 rc13, .slice ra14 rn14 rc14] 25
  generalize w.alloc (.cells #[.int .i64 rfreq, .int .i64 ritv, .int .i64 rcnt, .int .i64 rtil, .int .i64 rwkst, .bool rends, .slice ra6 rn6 rc6, .slice ra7 rn7 rc7, .slice ra8 rn8 rc8, .slice ra9 rn9 rc9, .slice ra10 rn10 rc10, .slice ra11 rn11 rc11, .slice ra12 rn12 rc12, .slice ra13 rn13 rc13, .slice ra14 rn14 rc14] 25) = w0 at *
  have KT := Lib.hid (KT.out.below B0)
  go_wp2_with fail
  refine (day_any start _ s1 s2).mono ?_
  rintro e w' ⟨rfl, rfl⟩
  obtain ⟨n0, hn0⟩ : ∃ n0, start / 86400 = n0 := ⟨_, rfl⟩
  rw [hn0] at HP SD ⊢
  clear hn0
  have IW : IntKind.i64.wrap (n0 * 86400) = n0 * 86400 := IntWalk.i64_in _ (by omega)
  have rz0 : w0.cell? ⟨w.heap.size, 0, none⟩ = some (.int .i64 rfreq) := Xr0.at_ 0 _ rfl
  have rz1 : w0.cell? ⟨w.heap.size, 1, none⟩ = some (.int .i64 ritv) := Xr0.at_ 1 _ rfl
  have rz2 : w0.cell? ⟨w.heap.size, 2, none⟩ = some (.int .i64 rcnt) := Xr0.at_ 2 _ rfl
  have rz3 : w0.cell? ⟨w.heap.size, 3, none⟩ = some (.int .i64 rtil) := Xr0.at_ 3 _ rfl
  have rz4 : w0.cell? ⟨w.heap.size, 4, none⟩ = some (.int .i64 rwkst) := Xr0.at_ 4 _ rfl
  have rz5 : w0.cell? ⟨w.heap.size, 5, none⟩ = some (.bool rends) := Xr0.at_ 5 _ rfl
  have rz6 : w0.cell? ⟨w.heap.size, 6, none⟩ = some (.slice ra6 rn6 rc6) := Xr0.at_ 6 _ rfl
  have rz7 : w0.cell? ⟨w.heap.size, 7, none⟩ = some (.slice ra7 rn7 rc7) := Xr0.at_ 7 _ rfl
  have rz8 : w0.cell? ⟨w.heap.size, 8, none⟩ = some (.slice ra8 rn8 rc8) := Xr0.at_ 8 _ rfl
  have rz9 : w0.cell? ⟨w.heap.size, 9, none⟩ = some (.slice ra9 rn9 rc9) := Xr0.at_ 9 _ rfl
  have rz10 : w0.cell? ⟨w.heap.size, 10, none⟩ = some (.slice ra10 rn10 rc10) := Xr0.at_ 10 _ rfl
  have rz11 : w0.cell? ⟨w.heap.size, 11, none⟩ = some (.slice ra11 rn11 rc11) := Xr0.at_ 11 _ rfl
  have rz12 : w0.cell? ⟨w.heap.size, 12, none⟩ = some (.slice ra12 rn12 rc12) := Xr0.at_ 12 _ rfl
  have rz13 : w0.cell? ⟨w.heap.size, 13, none⟩ = some (.slice ra13 rn13 rc13) := Xr0.at_ 13 _ rfl
  have rz14 : w0.cell? ⟨w.heap.size, 14, none⟩ = some (.slice ra14 rn14 rc14) := Xr0.at_ 14 _ rfl
  go_wp2_with fail
  refine (periodP_is _ ⟨ra6, rn6, rc6, ra7, rn7, rc7, ra8, rn8, rc8, ra9, rn9, rc9, ra10, rn10, rc10, ra11, rn11, rc11, ra12, rn12, rc12, ra13, rn13, rc13, ra14, rn14, rc14⟩ ⟨rfreq, ritv, rcnt, rtil, rwkst, rends, rmon, rweek, ryday, rmday, rday, rhour, rminu, rsec, rpos⟩ start (n0 * 86400) p true (RA.out.below B0) HP.out).mono ?_
  rintro e w1 ⟨rfl, b1⟩
  clear rz0 rz1 rz2 rz3 rz4 rz5 rz6 rz7 rz8 rz9 rz10 rz11 rz12 rz13 rz14
  have B1 := B0.trans (b1.mono B0.size)
  have Xr1 := Xr0.below b1
  clear B0 Xr0
  have KT := Lib.hid (KT.out.below b1)
  clear b1
  go_upto_region 3 with fail
  refine wp_region_late (fun _ => false) (fun v => Below w1.heap.size w1 v) (by kernel_rfl) ?_
  have D0 : Below w1.heap.size w1 w1.drew := (Below.refl _ _).drew
  refine Late.take 0 (.pointer (some ⟨w.heap.size, 1, none⟩)) rfl (by kernel_rfl) (by kernel_rfl) (by kernel_rfl) (by kernel_rfl) (fun _ _ _ h => h) (.inl ⟨rfl, fun w' hs => ?_⟩) D0 ?_
  · go_simp
  refine Late.take 1 (.int .i64 ritv) rfl (by kernel_rfl) (by kernel_rfl) (by kernel_rfl) (by kernel_rfl) (fun _ _ _ h => h) (.inl ⟨rfl, fun w' hs => ?_⟩) D0 ?_
  · have XQ := Xr1.below hs
    have z1 : w'.cell? ⟨w.heap.size, 1, none⟩ = some (.int .i64 ritv) := XQ.at_ 1 _ rfl
    clear XQ
    go_simp
  refine Late.take 2 (.agg #[.int .i64 rfreq, .int .i64 ritv, .int .i64 rcnt, .int .i64 rtil, .int .i64 rwkst, .bool rends, .slice ra6 rn6 rc6, .slice ra7 rn7 rc7, .slice ra8 rn8 rc8, .slice ra9 rn9 rc9, .slice ra10 rn10 rc10, .slice ra11 rn11 rc11, .slice ra12 rn12 rc12, .slice ra13 rn13 rc13, .slice ra14 rn14 rc14]) rfl (by kernel_rfl) (by kernel_rfl) (by kernel_rfl) (by kernel_rfl) (fun _ _ _ h => h) (.inl ⟨rfl, fun w' hs => ?_⟩) D0 ?_
  · have XQ := Xr1.below hs
    have z0 : w'.cell? ⟨w.heap.size, 0, none⟩ = some (.int .i64 rfreq) := XQ.at_ 0 _ rfl
    have z1 : w'.cell? ⟨w.heap.size, 1, none⟩ = some (.int .i64 ritv) := XQ.at_ 1 _ rfl
    have z2 : w'.cell? ⟨w.heap.size, 2, none⟩ = some (.int .i64 rcnt) := XQ.at_ 2 _ rfl
    have z3 : w'.cell? ⟨w.heap.size, 3, none⟩ = some (.int .i64 rtil) := XQ.at_ 3 _ rfl
    have z4 : w'.cell? ⟨w.heap.size, 4, none⟩ = some (.int .i64 rwkst) := XQ.at_ 4 _ rfl
    have z5 : w'.cell? ⟨w.heap.size, 5, none⟩ = some (.bool rends) := XQ.at_ 5 _ rfl
    have z6 : w'.cell? ⟨w.heap.size, 6, none⟩ = some (.slice ra6 rn6 rc6) := XQ.at_ 6 _ rfl
    have z7 : w'.cell? ⟨w.heap.size, 7, none⟩ = some (.slice ra7 rn7 rc7) := XQ.at_ 7 _ rfl
    have z8 : w'.cell? ⟨w.heap.size, 8, none⟩ = some (.slice ra8 rn8 rc8) := XQ.at_ 8 _ rfl
    have z9 : w'.cell? ⟨w.heap.size, 9, none⟩ = some (.slice ra9 rn9 rc9) := XQ.at_ 9 _ rfl
    have z10 : w'.cell? ⟨w.heap.size, 10, none⟩ = some (.slice ra10 rn10 rc10) := XQ.at_ 10 _ rfl
    have z11 : w'.cell? ⟨w.heap.size, 11, none⟩ = some (.slice ra11 rn11 rc11) := XQ.at_ 11 _ rfl
    have z12 : w'.cell? ⟨w.heap.size, 12, none⟩ = some (.slice ra12 rn12 rc12) := XQ.at_ 12 _ rfl
    have z13 : w'.cell? ⟨w.heap.size, 13, none⟩ = some (.slice ra13 rn13 rc13) := XQ.at_ 13 _ rfl
    have z14 : w'.cell? ⟨w.heap.size, 14, none⟩ = some (.slice ra14 rn14 rc14) := XQ.at_ 14 _ rfl
    clear XQ
    go_simp
  have C0 := B1.trans (D0.mono B1.size)
  refine Late.one 3 rfl (by kernel_rfl) rfl ?_
  go_simp
  refine (unit_is _ ⟨ra6, rn6, rc6, ra7, rn7, rc7, ra8, rn8, rc8, ra9, rn9, rc9, ra10, rn10, rc10, ra11, rn11, rc11, ra12, rn12, rc12, ra13, rn13, rc13, ra14, rn14, rc14⟩ ⟨rfreq, ritv, rcnt, rtil, rwkst, rends, rmon, rweek, ryday, rmday, rday, rhour, rminu, rsec, rpos⟩ U HU.out).mono ?_
  rintro e x1 ⟨rfl, y1⟩
  have D1 := D0.trans (y1.mono D0.size)
  refine ⟨D1, ?_⟩
  have u0 : ¬ U = 0 := by omega
  have u1 : ((U : Int) == 0) = false := by rw [beq_eq_false_iff_ne]; omega
  have TD := DV.out
  have WK : IntKind.i64.wrap (K : Int) = (K : Int) := IntWalk.i64_in _ (by omega)
  refine Late.take 4 (.int .i64 K) rfl (by kernel_rfl) (by kernel_rfl) (by kernel_rfl) (by kernel_rfl) (fun _ _ _ h => h) (.inl ⟨rfl, fun w' hs => ?_⟩) D1 ?_
  · go_simp
  have EN := HN.out
  subst EN
  refine Late.one 5 rfl (by kernel_rfl) rfl ?_
  go_simp
  refine (common_is _ N K (by omega) (by omega)).mono ?_
  rintro e x2 ⟨rfl, y2⟩
  have D2 := D1.trans (y2.mono D1.size)
  refine ⟨D2, ?_⟩
  obtain ⟨g, hg⟩ : ∃ g, Nat.gcd N K = g := ⟨_, rfl⟩
  rw [hg] at XT G0 G1 ⊢
  clear hg
  refine Late.take 6 (.int .i64 g) rfl (by kernel_rfl) (by kernel_rfl) (by kernel_rfl) (by kernel_rfl) (fun _ _ _ h => h) (.inl ⟨rfl, fun w' hs => ?_⟩) D2 ?_
  · go_simp
  refine Late.done (by kernel_rfl) ?_
  have g0 : 1 ≤ g := G0.out
  have g1 : g ≤ 100000 := by have := G1.out; omega
  have HB := B1.trans (D2.mono B1.size)
  have XR := Xr1.below D2
  have KT := Lib.hid (KT.out.below D2)
  clear y1 y2 D0 D1 D2 C0 B1 Xr1 TD WK G0 G1 HN
  obtain ⟨i0, hi, hz0, hz1, hz2⟩ := info_parts info_int
  go_wp2_with (at_make; refine wpList_make_own _ rfl _ _ 22 rfl x2.heap.size 3 i0 (.int .i64 0) 1 Tryz.underlying22 hi hz0 hz1 .i64 .i64 _ n rfl rfl rfl (by rw [hz2]; omega) (by unfold maxLen; omega) (Nat.le_refl _) ?_)
  intro wm hown hg
  have OW0 := Lib.hid (show OwnI x2 wm (.slice (some ⟨x2.heap.size, 0, none⟩) 0 n) [] from hown)
  have BW := Lib.hid (show Below x2.heap.size x2 wm from (Below.refl _ _).grown hg (Nat.le_refl _) (fun k hk => by cases hk))
  clear hown hg hi hz0 hz1 hz2 i0
  go_wp2
  go_loopw [12, 39] (fun ov i wr => ∃ (v : Value) (t1 : Nat) (acc : List Int), t1 ≤ n ∧ v = ov ∧ i = .int .i64 t1 ∧ OwnI x2 wr v acc ∧ Hid ((T.take t1).filter (reachB ⟨rfreq, (N : Int), rcnt, rtil, rwkst, rends, rmon, rweek, ryday, rmday, rday, rhour, rminu, rsec, rpos⟩ p g) = acc) ∧ Below x2.heap.size x2 wr) (fun _ i _ => n - (intOf i).toNat)
  case atStart => exact ⟨_, 0, [], Nat.zero_le _, rfl, rfl, OW0.out, Lib.hid rfl, BW.out⟩
  case round =>
    obtain ⟨v0, t1, acc1, ht1, rfl, rfl, ov1, D1, hB1⟩ := hrel
    have OV1 := Lib.hid ov1
    clear ov1
    by_cases hlt1 : t1 < n
    · obtain ⟨bl1, of1, ea1, hl1, hc1⟩ := KT.out.2 (show 0 < n by omega)
      subst ea1
      have c1 := (hB1.cell (p := ⟨bl1, _, none⟩) hl1).trans (hc1 t1 hlt1)
      have e1 := BT.out (iat T t1) (by rw [iat_lt (by rw [LN.out]; exact hlt1)]; exact List.getElem_mem _)
      have R := RMX.out t1 (reachB ⟨rfreq, (N : Int), rcnt, rtil, rwkst, rends, rmon, rweek, ryday, rmday, rday, rhour, rminu, rsec, rpos⟩ p g)
      rw [D1.out] at R
      obtain ⟨f, hf⟩ : ∃ f, reachB ⟨rfreq, (N : Int), rcnt, rtil, rwkst, rends, rmon, rweek, ryday, rmday, rday, rhour, rminu, rsec, rpos⟩ p g (iat T t1) = f := ⟨_, rfl⟩
      have FY := Lib.hid (fun (e : f = true) => show (T.take (t1 + 1)).filter (reachB ⟨rfreq, (N : Int), rcnt, rtil, rwkst, rends, rmon, rweek, ryday, rmday, rday, rhour, rminu, rsec, rpos⟩ p g) = acc1 ++ [iat T t1] by rw [filt_yes (by rw [LN.out]; exact hlt1) (hf.trans e), D1.out])
      have FN := Lib.hid (fun (e : f = false) => show (T.take (t1 + 1)).filter (reachB ⟨rfreq, (N : Int), rcnt, rtil, rwkst, rends, rmon, rweek, ryday, rmday, rday, rhour, rminu, rsec, rpos⟩ p g) = acc1 by rw [filt_no (by rw [LN.out]; exact hlt1) (hf.trans e), D1.out])
      have TF := Lib.hid (show (((p + iat T t1 / U : Int).tmod g : Int) == 0) = f by rw [tmod_z, ← hf]; unfold reachB; rw [HU.out])
      clear hc1 hf
      generalize iat T t1 = g1 at *
      have XRr := XR.below hB1
      have BR := HB.trans (hB1.mono HB.size)
      have rz0 : wr.cell? ⟨w.heap.size, 0, none⟩ = some (.int .i64 rfreq) := XRr.at_ 0 _ rfl
      have rz1 : wr.cell? ⟨w.heap.size, 1, none⟩ = some (.int .i64 (N : Int)) := XRr.at_ 1 _ rfl
      have rz2 : wr.cell? ⟨w.heap.size, 2, none⟩ = some (.int .i64 rcnt) := XRr.at_ 2 _ rfl
      have rz3 : wr.cell? ⟨w.heap.size, 3, none⟩ = some (.int .i64 rtil) := XRr.at_ 3 _ rfl
      have rz4 : wr.cell? ⟨w.heap.size, 4, none⟩ = some (.int .i64 rwkst) := XRr.at_ 4 _ rfl
      have rz5 : wr.cell? ⟨w.heap.size, 5, none⟩ = some (.bool rends) := XRr.at_ 5 _ rfl
      have rz6 : wr.cell? ⟨w.heap.size, 6, none⟩ = some (.slice ra6 rn6 rc6) := XRr.at_ 6 _ rfl
      have rz7 : wr.cell? ⟨w.heap.size, 7, none⟩ = some (.slice ra7 rn7 rc7) := XRr.at_ 7 _ rfl
      have rz8 : wr.cell? ⟨w.heap.size, 8, none⟩ = some (.slice ra8 rn8 rc8) := XRr.at_ 8 _ rfl
      have rz9 : wr.cell? ⟨w.heap.size, 9, none⟩ = some (.slice ra9 rn9 rc9) := XRr.at_ 9 _ rfl
      have rz10 : wr.cell? ⟨w.heap.size, 10, none⟩ = some (.slice ra10 rn10 rc10) := XRr.at_ 10 _ rfl
      have rz11 : wr.cell? ⟨w.heap.size, 11, none⟩ = some (.slice ra11 rn11 rc11) := XRr.at_ 11 _ rfl
      have rz12 : wr.cell? ⟨w.heap.size, 12, none⟩ = some (.slice ra12 rn12 rc12) := XRr.at_ 12 _ rfl
      have rz13 : wr.cell? ⟨w.heap.size, 13, none⟩ = some (.slice ra13 rn13 rc13) := XRr.at_ 13 _ rfl
      have rz14 : wr.cell? ⟨w.heap.size, 14, none⟩ = some (.slice ra14 rn14 rc14) := XRr.at_ 14 _ rfl
      go_wp2_with fail
      refine (unit_is _ ⟨ra6, rn6, rc6, ra7, rn7, rc7, ra8, rn8, rc8, ra9, rn9, rc9, ra10, rn10, rc10, ra11, rn11, rc11, ra12, rn12, rc12, ra13, rn13, rc13, ra14, rn14, rc14⟩ ⟨rfreq, (N : Int), rcnt, rtil, rwkst, rends, rmon, rweek, ryday, rmday, rday, rhour, rminu, rsec, rpos⟩ U HU.out).mono ?_
      rintro e w5 ⟨rfl, b5⟩
      clear rz0 rz1 rz2 rz3 rz4 rz5 rz6 rz7 rz8 rz9 rz10 rz11 rz12 rz13 rz14
      have hB5 := hB1.trans (b5.mono hB1.size)
      have OV5 := Lib.hid (OV1.out.on b5)
      have q1 := tdiv_nn (u := U) e1.1
      have q2 : 0 ≤ g1 / U := Int.ediv_nonneg e1.1 (by omega)
      have q3 : g1 / U ≤ g1 := Int.ediv_le_self U e1.1
      obtain ⟨q, hq⟩ : ∃ q, g1 / U = q := ⟨_, rfl⟩
      rw [hq] at q1 q2 q3 TF
      clear hq
      have W0 : IntKind.i64.wrap q = q := IntWalk.i64_in _ (by omega)
      have W1 : IntKind.i64.wrap (p + q) = p + q := IntWalk.i64_in _ (by omega)
      have z1 : ¬ (g : Int) = 0 := by omega
      have z2 : ((g : Int) == 0) = false := by rw [beq_eq_false_iff_ne]; omega
      have T1 := TF.out
      clear TF
      cases f
      · have F2 := FN.out rfl
        have F3 := Lib.hid F2
        clear FN FY F2
        go_wp2
        go_roundw
        case rel => exact ⟨v0, t1 + 1, acc1, by omega, rfl, by go_num, OV5.out, F3, hB5⟩
        case measure => simp [intOf]; omega
      · have F2 := FY.out rfl
        have F3 := Lib.hid F2
        clear FN FY F2
        go_wp2_with (at_builtin; refine append_num rfl _ _ rfl _ acc1 rfl OV5.out hB5 _ _ _ rfl R ?_)
        intro v4 w4 ow4 hb4
        have OW := Lib.hid ow4
        clear ow4
        go_wp2
        go_roundw
        case rel => exact ⟨v4, t1 + 1, _, by omega, rfl, by go_num, OW.out, F3, hb4⟩
        case measure => simp [intOf]; omega
    · obtain rfl : n = t1 := by omega
      have E1 := Lib.hid (show x = acc1 by rw [← XT.out, ← D1.out, List.take_of_length_le (by rw [LN.out]; exact Nat.le_refl _)])
      go_wp2
      go_ret
      obtain ⟨A, c, rfl, ia, -, -⟩ := OV1.out.at_
      have e := E1.out
      subst e
      exact ⟨A, c, rfl, ia, fresh_mono OV1.out.fresh HB.size, HB.trans (hB1.mono HB.size)⟩
end Go.Proofs.YtnfcchimkfnmkaaGreatDoor.Ex
