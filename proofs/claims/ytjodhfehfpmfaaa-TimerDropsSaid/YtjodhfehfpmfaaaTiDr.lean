/- The walk of voklaw11.TimerDrops. -/
import Derived.Test.YtjodhfehfpmfaaaTiPu
set_option linter.unusedVariables false
namespace Go.Proofs.Ytjodhfehfpmfaaa.Ti
open Go.RowKit Iv

/-- how many of the first t operations have this ID -/
def cntN (ops : List Tg) (id : Int) : Nat → Nat
  | 0 => 0
  | t + 1 => cntN ops id t + (if (gt ops t).2 = id then 1 else 0)
theorem drop_ins (id : Int) (x : It) (L : List It) : (dropL id (insL x L)).length = (dropL id L).length + (if x.2 = id then 0 else 1) := by
  unfold dropL
  rw [((ins_perm x L).filter _).length_eq, List.filter_cons]
  by_cases e : x.2 = id
  · simp [e]
  · simp [e]
theorem drop_cnt (ops : List Tg) (id : Int) : ∀ t, (dropL id (pushN ops t)).length + cntN ops id t = t
  | 0 => rfl
  | t + 1 => by
    have ih := drop_cnt ops id t
    show (dropL id (insL (itOf (gt ops t)) (pushN ops t))).length + (cntN ops id t + (if (gt ops t).2 = id then 1 else 0)) = _
    rw [drop_ins]
    have e : (itOf (gt ops t)).2 = (gt ops t).2 := rfl
    rw [e]
    by_cases h : (gt ops t).2 = id
    · rw [if_pos h, if_pos h]; omega
    · rw [if_neg h, if_neg h]; omega
theorem drop_drop (id : Int) (L : List It) : dropL id (dropL id L) = dropL id L := by
  unfold dropL
  rw [List.filter_filter]
  simp
theorem drop_take {id : Int} {L : List It} {i : Nat} (h : i < L.length) : dropL id (L.take (i + 1)) = dropL id (L.take i) ++ (if (gt L i).2 = id then [] else [gt L i]) := by
  unfold dropL
  rw [List.take_succ_eq_append_getElem h, List.filter_append, gt_lt h]
  congr 1
  by_cases e : (L[i]).2 = id <;> simp [e]
theorem drop_at {id : Int} {L : List It} {i : Nat} (h : i < L.length) (hk : ¬ (gt L i).2 = id) : (dropL id (L.take i)).length < (dropL id L).length ∧ gt (dropL id L) (dropL id (L.take i)).length = gt L i := by
  have e : dropL id L = dropL id (L.take (i + 1)) ++ dropL id (L.drop (i + 1)) := by
    unfold dropL
    rw [← List.filter_append, List.take_append_drop]
  have e2 := drop_take (id := id) h
  rw [if_neg hk] at e2
  rw [e, e2]
  have hl : (dropL id (L.take i)).length < (dropL id (L.take i) ++ [gt L i] ++ dropL id (L.drop (i + 1))).length := by simp
  refine ⟨hl, ?_⟩
  rw [gt_lt hl]
  simp
set_option maxRecDepth 100000 in
set_option maxHeartbeats 16000000 in
theorem drops_walk (w : World) (A : Option Addr) (n c : Nat) (ops : List Tg) (id : Int) (hA : TgAt w A n ops) (hm : n ≤ 9223372036854775807) :
    Calls Try.prog 10 #[.slice A n c, .int .i64 id] w fun e w' => e = .returned (.bool true) ∧ Below w.heap.size w w' := by
  have HA := Lib.hid hA
  have LN := Lib.hid hA.1
  clear hA
  go_enter Try.func10, Try.ntmps10
  go_wp2_with fail
  refine (first11 _).mono ?_
  rintro e w0 ⟨rfl, b0⟩
  have B0 := Lib.hid b0
  have sz0 := b0.size
  clear b0
  go_wp2_with fail
  refine (newB w0 w.heap.size sz0).mono ?_
  rintro e w1 ⟨rfl, q1, b1⟩
  generalize w0.heap.size = q at *
  have Q1 := Lib.hid q1
  have B1 := Lib.hid (B0.out.trans (b1.mono sz0))
  clear q1 b1 B0
  by_cases hb : 300 < n
  · have s1 : decide (300 < n) = true := decide_eq_true hb
    have s2 : decide ((300 : Int) < n) = true := decide_eq_true (by omega)
    go_wp2_with fail
    refine (first11 _).mono ?_
    rintro e wz ⟨rfl, bz⟩
    have BZ := Lib.hid (B1.out.trans (bz.mono B1.out.size))
    clear bz
    go_wp2_with fail
    go_ret
    exact ⟨rfl, BZ.out⟩
  have s1 : decide (300 < n) = false := decide_eq_false hb
  have s2 : decide ((300 : Int) < n) = false := decide_eq_false (by omega)
  go_wp2_with fail
  go_loopw [6, 7] (fun m i wr => ∃ t : Nat, i = .int .i64 t ∧ t ≤ n ∧ m = .int .i64 (cntN ops id t : Nat) ∧ QB wr q (pushN ops t) w.heap.size (fun _ => False) ∧ Below w.heap.size w wr) (fun _ i _ => n - (intOf i).toNat)
  case atStart => exact ⟨0, rfl, Nat.zero_le _, rfl, Q1.out, B1.out⟩
  case round =>
    obtain ⟨wo, rfl⟩ : ∃ wo : World, wo = wr := ⟨_, rfl⟩
    obtain ⟨t, rfl, ht, rfl, hQ, hB⟩ := hrel
    have QO := Lib.hid hQ
    have BO := Lib.hid hB
    have szo := hB.size
    have CD := Lib.hid (drop_cnt ops id t)
    clear hQ hB Q1 B1
    by_cases hlt : t < n
    · have s0 : decide ((t : Int) < n) = true := decide_eq_true (by omega)
      have s00 : decide (t < n) = true := decide_eq_true hlt
      have i5 : (t : Int) < n := by omega
      have W1 : IntKind.i64.wrap ((t : Int) + 1) = (t : Int) + 1 := IntWalk.i64_in _ (by omega)
      have LE := Lib.hid (pushN_len ops t)
      have BD := Lib.hid (BO.out.trans ((Below.refl wo.heap.size wo).drew.mono szo))
      have QD := Lib.hid (QO.out.below ((Below.refl wo.heap.size wo).drew))
      have PE := Lib.hid (show pushN ops (t + 1) = insL ((gt ops t).1.2, (gt ops t).2) (pushN ops t) from rfl)
      have CE := Lib.hid (show cntN ops id (t + 1) = cntN ops id t + (if (gt ops t).2 = id then 1 else 0) from rfl)
      have cb : cntN ops id t ≤ t := by have := CD.out; omega
      obtain ⟨bq, oq, rfl, hlq, hcq⟩ := HA.out.2 (by omega)
      obtain ⟨-, c1, c2⟩ := hcq t (by omega)
      replace c1 := (BO.out.cell (p := ⟨bq, _, none⟩) hlq).trans c1
      replace c2 := (BO.out.cell (p := ⟨bq, _, none⟩) hlq).trans c2
      clear hcq
      go_wp2_with fail
      go_still_tail 11, (by kernel_rfl)
      change wpList _ _ _ _ _ wo.drew
      generalize hwd : wo.drew = wd at *
      have WD := Lib.hid (show Below wo.heap.size wo wd from hwd ▸ (Below.refl wo.heap.size wo).drew)
      clear hwd
      have szd := BD.out.size
      go_wp2_with fail
      refine (pushB QD.out (gt ops t).1.2 (gt ops t).2 (by rw [LE.out]; omega)).mono ?_
      rintro e w2 ⟨rfl, q2, k2⟩
      rw [← PE.out] at q2
      have Q2 := Lib.hid q2
      have b2 := k2.below szd
      have B2 := Lib.hid (BD.out.trans b2)
      have d2 : w2.cell? ⟨bq, oq + t * 3 + 2, none⟩ = some (.int .i64 (gt ops t).2) := ((b2.cell (p := ⟨bq, _, none⟩) hlq).trans (WD.out.cell (p := ⟨bq, _, none⟩) (Nat.lt_of_lt_of_le hlq szo))).trans c2
      clear q2 k2 b2 QD BD QO BO c1 c2 WD
      generalize cntN ops id t = cn at *
      by_cases hid : (gt ops t).2 = id
      · have s3 : (((gt ops t).2 : Int) == id) = true := by rw [beq_iff_eq]; exact hid
        have W2 : IntKind.i64.wrap ((cn : Int) + 1) = ((cn + 1 : Nat) : Int) := by rw [IntWalk.i64_in _ (by omega)]; omega
        have C2 := Lib.hid (show cntN ops id (t + 1) = cn + 1 by rw [CE.out, if_pos hid])
        clear hid
        generalize (gt ops t).2 = yb at *
        go_wp2
        go_roundw
        case rel => exact ⟨t + 1, by go_num, by omega, by rw [C2.out]; simp, Q2.out, B2.out⟩
        case measure => simp [intOf]; omega
      · have s3 : (((gt ops t).2 : Int) == id) = false := by rw [beq_eq_false_iff_ne]; exact hid
        have C2 := Lib.hid (show cntN ops id (t + 1) = cn by rw [CE.out, if_neg hid, Nat.add_zero])
        clear hid
        generalize (gt ops t).2 = yb at *
        go_wp2
        go_roundw
        case rel => exact ⟨t + 1, by go_num, by omega, by rw [C2.out], Q2.out, B2.out⟩
        case measure => simp [intOf]; omega
    · obtain rfl : n = t := by omega
      have s0 : decide ((n : Int) < n) = false := decide_eq_false (by omega)
      have s00 : decide (n < n) = false := decide_eq_false (by omega)
      have PL := Lib.hid (pushN_len ops n)
      generalize pushN ops n = L at *
      have DD := Lib.hid (drop_drop id L)
      have lf : (dropL id L).length ≤ L.length := List.length_filter_le _ _
      have cd := CD.out
      have pl := PL.out
      generalize cntN ops id n = cn at *
      go_wp2_with fail
      refine (listB QO.out (by omega)).mono ?_
      rintro e w2 ⟨A1, c1, rfl, S1, -, F1, b2⟩
      have S1H := Lib.hid S1
      have B2 := Lib.hid b2
      have sz2 := b2.size
      have Q2 := Lib.hid (QO.out.below b2)
      clear S1 b2
      go_wp2_with fail
      refine (copyB Q2.out (by omega)).mono ?_
      rintro e w3 ⟨q2, rfl, C3, b3⟩
      have sz3 := b3.size
      have Q3 := Lib.hid (QO.out.more (B2.out.trans (b3.mono sz2)) (fun k => wo.heap.size ≤ k ∧ k < w3.heap.size) fun k hk => ⟨hk.2, .inr hk.1⟩)
      have C3H := Lib.hid (show QIn (fun k => wo.heap.size ≤ k ∧ k < w3.heap.size) w3 q2 L from C3.mono fun k h1 h2 => ⟨by omega, h2⟩)
      have S3 := Lib.hid (S1H.out.below b3)
      have B3 := Lib.hid (BO.out.trans ((B2.out.trans (b3.mono sz2)).mono szo))
      have sz30 := B3.out.size
      have OFF := Lib.hid (show Off (fun k => w.heap.size ≤ k ∧ ¬ (wo.heap.size ≤ k ∧ k < w3.heap.size)) A1 L.length from fun h a e => by
        obtain ⟨b', o', ea, hlt, -⟩ := S3.out.2 h
        rw [e] at ea
        injection ea with ea
        subst ea
        have := F1 b' o' e
        simp only
        omega)
      clear C3 b3 F1 S1H Q2
      have W1 : IntKind.i64.wrap ((n : Int) - cn) = ((dropL id L).length : Int) := by rw [IntWalk.i64_in _ (by omega)]; omega
      go_wp2_with fail
      refine (dropB Q3.out id (by omega)).mono ?_
      rintro e w4 ⟨rfl, Q4, k4⟩
      have Q4H := Lib.hid Q4
      have C4 := Lib.hid (C3H.out.on k4 fun k h1 h2 h => h.2 h1)
      have S4 := Lib.hid (S3.out.kp k4 OFF.out)
      have B4 := Lib.hid (B3.out.trans (k4.below sz30))
      have sz4 := k4.size
      clear Q4 k4
      have e1 : L.length - (dropL id L).length = cn := by omega
      rw [e1]
      go_wp2_with fail
      refine (dropB Q4H.out id (by omega)).mono ?_
      rintro e w5 ⟨rfl, Q5, k5⟩
      rw [DD.out] at Q5 ⊢
      have Q5H := Lib.hid Q5
      have C5 := Lib.hid (C4.out.on k5 fun k h1 h2 h => h.2 h1)
      have S5 := Lib.hid (S4.out.kp k5 OFF.out)
      have B5 := Lib.hid (B4.out.trans (k5.below (by omega)))
      have sz5 := k5.size
      clear Q5 k5
      rw [Nat.sub_self]
      go_wp2_with fail
      refine (lenB Q5H.out).mono ?_
      rintro e w' ⟨rfl, rfl⟩
      go_wp2_with fail
      refine (qlen_is w5 q2 L C5.out).mono ?_
      rintro e w' ⟨rfl, rfl⟩
      rw [pl]
      go_wp2_with fail
      refine (listB Q5H.out (by omega)).mono ?_
      rintro e w6 ⟨A6, c6, rfl, S6, -, -, b6⟩
      have S6H := Lib.hid S6
      have S1 := Lib.hid (S5.out.below b6)
      have B6 := Lib.hid (B5.out.trans (b6.mono B5.out.size))
      have sz6 := B6.out.size
      clear S6 b6 Q5H C5 S5 B5 Q4H C4 S4 B4 Q3 C3H S3 B3 QO BO OFF
      generalize hm2 : (dropL id L).length = m at *
      have HM := Lib.hid hm2
      clear hm2
      have DA := Lib.hid (fun (i : Nat) (h : i < L.length) (hk : ¬ (gt L i).2 = id) => drop_at h hk)
      have DT := Lib.hid (fun (i : Nat) (h : i < L.length) => drop_take (id := id) h)
      have FL : L.take L.length = L := List.take_of_length_le (Nat.le_refl _)
      rw [pl] at S1 DA DT FL
      go_wp2_with fail
      go_loopw [11, 12] (fun kv i wr => ∃ t k : Nat, i = .int .i64 t ∧ t ≤ n ∧ kv = .int .i64 k ∧ Hid ((dropL id (L.take t)).length = k) ∧ k ≤ t ∧ Below w6.heap.size w6 wr) (fun _ i _ => n - (intOf i).toNat)
      case atStart => exact ⟨0, 0, rfl, Nat.zero_le _, rfl, Lib.hid (by simp [dropL]), Nat.le_refl _, Below.refl _ _⟩
      case round =>
        obtain ⟨wi, rfl⟩ : ∃ wi : World, wi = wr := ⟨_, rfl⟩
        obtain ⟨t, k, rfl, ht, rfl, hk, hkt, hI⟩ := hrel
        by_cases hlt : t < n
        · have i5 : (t : Int) < n := by omega
          have s5 : decide ((t : Int) < n) = true := decide_eq_true (by omega)
          have s55 : decide (t < n) = true := decide_eq_true hlt
          have W2 : IntKind.i64.wrap ((t : Int) + 1) = (t : Int) + 1 := IntWalk.i64_in _ (by omega)
          have W3 : IntKind.i64.wrap ((k : Int) + 1) = ((k + 1 : Nat) : Int) := by rw [IntWalk.i64_in _ (by omega)]; omega
          obtain ⟨b1, o1, rfl, hl1, hc1⟩ := S1.out.2 (by omega)
          obtain ⟨x0, x1⟩ := hc1 t hlt
          replace x0 := (hI.cell (p := ⟨b1, _, none⟩) hl1).trans x0
          replace x1 := (hI.cell (p := ⟨b1, _, none⟩) hl1).trans x1
          clear hc1
          have dt := DT.out t hlt
          by_cases hid : (gt L t).2 = id
          · rw [if_pos hid, List.append_nil] at dt
            have s6 : (((gt L t).2 : Int) == id) = true := by rw [beq_iff_eq]; exact hid
            have K2 := Lib.hid (show (dropL id (L.take (t + 1))).length = k by rw [dt]; exact hk.out)
            have II := Lib.hid hI
            clear hid dt hI
            generalize gt L t = x at *
            go_wp2
            go_roundw
            case rel => exact ⟨t + 1, k, by go_num, by omega, rfl, K2, by omega, II.out⟩
            case measure => simp [intOf]; omega
          · rw [if_neg hid] at dt
            obtain ⟨d1, d2⟩ := DA.out t hlt hid
            rw [hk.out] at d1 d2
            rw [HM.out] at d1
            have s6 : (((gt L t).2 : Int) == id) = false := by rw [beq_eq_false_iff_ne]; exact hid
            have K2 := Lib.hid (show (dropL id (L.take (t + 1))).length = k + 1 by rw [dt, List.length_append, hk.out]; rfl)
            obtain ⟨b2, o2, rfl, hl2, hc2⟩ := S6H.out.2 (by omega)
            obtain ⟨v0, v1⟩ := hc2 k d1
            replace v0 := (hI.cell (p := ⟨b2, _, none⟩) hl2).trans v0
            replace v1 := (hI.cell (p := ⟨b2, _, none⟩) hl2).trans v1
            rw [d2] at v0 v1
            have s7 : decide ((m : Int) ≤ k) = false := decide_eq_false (by omega)
            have s77 : decide (m ≤ k) = false := decide_eq_false (by omega)
            have i6 : (k : Int) < m := by omega
            have II := Lib.hid hI
            clear hid dt hI hc2 d2
            generalize gt L t = x at *
            generalize x.1 = xa at *
            generalize x.2 = xb at *
            go_wp2
            go_big_quiet (fail)
            go_wp2
            go_roundw
            case rel => exact ⟨t + 1, k + 1, by go_num, by omega, by simp, K2, by omega, II.out.trans (by first | exact below_drewN _ _ _ | exact Below.refl _ _)⟩
            case measure => simp [intOf]; omega
        · obtain rfl : n = t := by omega
          have s5 : decide ((n : Int) < n) = false := decide_eq_false (by omega)
          have s55 : decide (n < n) = false := decide_eq_false (by omega)
          obtain rfl : k = m := by
            have := hk.out
            rw [FL, HM.out] at this
            exact this.symm
          have BI := Lib.hid (B6.out.trans (hI.mono sz6))
          clear hI
          go_wp2_with fail
          refine (first11 _).mono ?_
          rintro e wz ⟨rfl, bz⟩
          have BZ := Lib.hid (BI.out.trans (bz.mono BI.out.size))
          clear bz
          go_wp2_with fail
          go_ret
          exact ⟨by simp, BZ.out⟩
end Go.Proofs.Ytjodhfehfpmfaaa.Ti
