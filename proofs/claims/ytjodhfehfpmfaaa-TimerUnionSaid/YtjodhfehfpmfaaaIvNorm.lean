/- The walk of iv.Norm. -/
import Derived.Test.YtjodhfehfpmfaaaIvSort
import Derived.StillTailTactics
set_option linter.unusedVariables false
namespace Go.Proofs.Ytjodhfehfpmfaaa.Iv
open Go.RowKit

theorem jnS_in {x : Int × Int} {acc : List (Int × Int)} {k : Nat} (hk : acc.length = k + 1) (h : x.1 ≤ (gt acc k).2) : jnS acc x = acc.set k ((gt acc k).1, max (gt acc k).2 x.2) := by
  obtain ⟨p, z, rfl⟩ : ∃ p z, acc = p ++ [z] := ⟨_, _, (List.dropLast_concat_getLast (by intro e; rw [e] at hk; simp at hk)).symm⟩
  have hp : p.length = k := by simpa using hk
  have e : gt (p ++ [z]) k = z := by rw [gt_lt (by simp; omega)]; simp [← hp]
  rw [e] at h ⊢
  unfold jnS
  rw [List.getLast?_concat]
  dsimp only
  rw [if_pos h, List.dropLast_concat, ← hp]
  simp
theorem jnS_out {x : Int × Int} {acc : List (Int × Int)} {k : Nat} (hk : acc.length = k + 1) (h : ¬ x.1 ≤ (gt acc k).2) : jnS acc x = acc ++ [x] := by
  obtain ⟨p, z, rfl⟩ : ∃ p z, acc = p ++ [z] := ⟨_, _, (List.dropLast_concat_getLast (by intro e; rw [e] at hk; simp at hk)).symm⟩
  have hp : p.length = k := by simpa using hk
  have e : gt (p ++ [z]) k = z := by rw [gt_lt (by simp; omega)]; simp [← hp]
  rw [e] at h
  unfold jnS
  rw [List.getLast?_concat]
  dsimp only
  rw [if_neg h]
theorem jnS_nil (x : Int × Int) : jnS [] x = [x] := rfl
theorem jnL_take {l : List (Int × Int)} {t : Nat} (h : t < l.length) : jnL (l.take (t + 1)) = jnS (jnL (l.take t)) (gt l t) := by rw [gt_lt h]; exact jn_take h
theorem norm_nil : normL [] = [] := (IsNorm.eq ⟨Norms.nil, fun _ => Iff.rfl⟩).symm
theorem new_nil (w w' : World) (hb : Below w.heap.size w w') : NewS w [] (.returned (.slice none 0 0)) w' := ⟨none, 0, rfl, SpAt.nil _ _, fun h => absurd h (by simp), Nat.le_refl _, hb⟩
set_option maxRecDepth 100000 in
set_option maxHeartbeats 4000000 in
/-- iv.Norm of nil -/
theorem norm_none (w : World) (c : Nat) : Calls Try.prog 14 #[.slice none 0 c] w (NewS w []) := by
  have hp := new_nil w
  go_enter Try.func14, Try.ntmps14
  go_wp2_with (first
    | (go_at_call 52; refine (Try.slices_Clone_nil_f52 _ _ _).mono ?_; rintro e w' ⟨rfl, rfl⟩)
    | (go_at_call 51; refine (del_nil _ _).mono ?_; rintro e w' ⟨rfl, rfl⟩)
    | (go_at_call 54; refine (sort_nil _ _ _).mono ?_; rintro e w' ⟨rfl, rfl⟩))
  refine wp_loop_rounds 1 ?_
  rw [rounds_succ]
  go_wp2
  go_ret
  exact hp _ (Below.refl _ _)
set_option maxRecDepth 100000 in
set_option maxHeartbeats 8000000 in
/-- iv.Norm of a slice that is not nil -/
theorem norm_some (w : World) (ad : Addr) (n c : Nat) (l : List (Int × Int)) (hA : SpAt w (some ad) n l) (h1 : n ≤ 900000) : Calls Try.prog 14 #[.slice (some ad) n c] w (NewS w (normL l)) := by
  have KA := Lib.hid hA
  have LN := Lib.hid hA.1
  have eg : ∀ args w, (callFunc 53 args).run Try.prog w = .ok (.enter 53 args) w := enters_of Try.func53 (by kernel_rfl) rfl
  have FE := Lib.hid (show (l.filter fun x => !decide (x.2 ≤ x.1)) = realL l by
    unfold realL
    refine List.filter_congr fun x _ => ?_
    by_cases q : x.2 ≤ x.1
    · rw [decide_eq_true q, decide_eq_false (by omega)]; rfl
    · rw [decide_eq_false q, decide_eq_true (by omega)]; rfl)
  have EG := Lib.hid eg
  clear eg hA
  go_enter Try.func14, Try.ntmps14
  go_wp2_with fail
  refine (cloneS_any _ ad n c l KA.out (by omega)).mono ?_
  rintro e w1 ⟨g, cap, rfl, R1, hcap, hg, hb1⟩
  have R1H := Lib.hid R1
  clear R1
  go_wp2_with fail
  refine (delS_is _ g l.length cap l (fun x => decide (x.2 ≤ x.1)) 53 #[] EG.out R1H.out rfl hcap (by have := LN.out; omega) (fun W x _ => (none_is x W).mono fun _ _ ⟨he, hw⟩ => ⟨he, by rw [hw]; exact below_alloc _ _⟩)).mono ?_
  rw [FE.out]
  rintro e w2 ⟨rfl, R2, K2⟩
  have R2H := Lib.hid R2
  have B2 := Lib.hid (hb1.trans (K2.below hb1.size (fun k e => e ▸ hg)))
  have RL := Lib.hid (show (realL l).length ≤ n by rw [LN.out]; exact List.length_filter_le _ _)
  clear R2 K2 hb1 R1H hcap
  go_wp2_with fail
  refine (sort_is _ g cap (realL l) R2H.out (by have := RL.out; omega)).mono ?_
  rintro e w3 ⟨rfl, m, hp, hr, S3, K3⟩
  have B3 := Lib.hid (B2.out.trans (K3.below B2.out.size (fun k e => e ▸ hg)))
  have LM := Lib.hid hp.length_eq
  have HR := Lib.hid (jn_norm hp hr)
  have S3H := Lib.hid S3
  have STEP := Lib.hid (fun (t : Nat) (h : t < m.length) => jnL_take (l := m) h)
  have LEN := Lib.hid (jnL_len m)
  clear B2 R2H K3 S3 hp hr KA
  rw [← LM.out]
  have mn : m.length ≤ n := by rw [LM.out]; exact RL.out
  generalize hn : m.length = k at *
  have KM := Lib.hid hn
  clear hn LN RL LM
  go_wp2
  go_loopw [4, 15] (fun ov i wr => ∃ (t : Nat) (acc : List (Int × Int)) (v : Value), v = ov ∧ i = .int .i64 t ∧ t ≤ k ∧ Hid (jnL (m.take t) = acc) ∧ Hid (OwnP w3.heap.size wr v acc) ∧ Below w3.heap.size w3 wr) (fun _ i _ => k - (intOf i).toNat)
  case atStart => exact ⟨0, [], _, rfl, rfl, Nat.zero_le _, Lib.hid rfl, Lib.hid (OwnP.nil _ _), Below.refl _ _⟩
  case round =>
    obtain ⟨wo, rfl⟩ : ∃ wo : World, wo = wr := ⟨_, rfl⟩
    obtain ⟨t, acc, v, rfl, rfl, ht, D, OV, hB⟩ := hrel
    by_cases hlt : t < k
    · obtain ⟨b', o', ea, hg2, hc⟩ := S3H.out.2 (by omega)
      injection ea with ea
      injection ea with e1 e2
      subst e1 e2
      obtain ⟨c0, c1⟩ := hc t hlt
      rw [Nat.zero_add] at c0 c1
      replace c0 := (hB.cell (p := ⟨g, _, none⟩) hg2).trans c0
      replace c1 := (hB.cell (p := ⟨g, _, none⟩) hg2).trans c1
      have ST := Lib.hid (STEP.out t hlt)
      have al : acc.length ≤ t := by rw [← D.out]; exact LEN.out t
      rw [D.out] at ST
      clear hc
      generalize gt m t = x at *
      have s0 : decide ((t : Int) < k) = true := decide_eq_true (by omega)
      have s00 : decide (t < k) = true := decide_eq_true hlt
      have i5 : (t : Int) < k := by omega
      have W2 : IntKind.i64.wrap ((t : Int) + 1) = (t : Int) + 1 := IntWalk.i64_in _ (by omega)
      have SZ := hB.size
      by_cases k0 : acc.length = 0
      · obtain rfl : acc = [] := List.length_eq_zero_iff.1 k0
        have S := Lib.hid (show jnL (m.take (t + 1)) = [] ++ [x] by rw [ST.out, jnS_nil]; rfl)
        have OVH := Lib.hid OV.out
        clear ST D k0
        rcases OV.out.form with ⟨rfl, -⟩ | ⟨g3, cap3, rfl, -⟩
        all_goals
          clear OV
          go_wp2
          go_big_quiet (fail)
          have ba := below_alloc wo (.cells #[.int .i64 x.1, .int .i64 x.2] 40)
          generalize hwa : (wo.alloc (.cells #[.int .i64 x.1, .int .i64 x.2] 40)).drewN nq = wa
          have BA0 := Lib.hid (show Below wo.heap.size wo wa from hwa ▸ (ba.trans (below_drewN _ _ _)))
          have cb1 : wa.cell? ⟨wo.heap.size, 0, none⟩ = some (.int .i64 x.1) := by rw [← hwa]; simp
          have cb2 : wa.cell? ⟨wo.heap.size, 1, none⟩ = some (.int .i64 x.2) := by rw [← hwa]; simp
          have SZ2 := Nat.le_trans SZ BA0.out.size
          clear hwa ba
          go_wp2_with (at_builtin; refine append_sp rfl _ _ rfl _ [] rfl (OVH.out.on BA0.out) SZ2 x _ rfl _ _ rfl (by simp) ?_)
          intro v4 w4 ow4 hb4
          have OW := Lib.hid ow4
          have B4 := Lib.hid (hB.trans ((BA0.out.mono SZ).trans hb4))
          clear ow4 hb4
          go_wp2
          go_roundw
          case rel => exact ⟨t + 1, _, v4, rfl, by go_num, by omega, S, OW, B4.out⟩
          case measure => simp [intOf]; omega
      · obtain ⟨q, hk⟩ : ∃ q, acc.length = q + 1 := ⟨acc.length - 1, by omega⟩
        rcases OV.out.form with ⟨rfl, rfl⟩ | ⟨g3, cap3, rfl, sp, hg1, hg3, hcap3⟩
        · simp at hk
        have cz : wo.cell? ⟨g3, q * 2 + 1, none⟩ = some (.int .i64 (gt acc q).2) := by
          obtain ⟨b, o, e, -, hc⟩ := sp.2 (by omega)
          injection e with e
          injection e with e1 e2
          subst e1 e2
          have := (hc q (by omega)).2
          rwa [Nat.zero_add] at this
        have ne : g3 ≠ wo.heap.size := by omega
        have IN := Lib.hid (fun (h : x.1 ≤ (gt acc q).2) => show jnL (m.take (t + 1)) = acc.set q ((gt acc q).1, max (gt acc q).2 x.2) by rw [ST.out, jnS_in hk h])
        have OUT := Lib.hid (fun (h : ¬ x.1 ≤ (gt acc q).2) => show jnL (m.take (t + 1)) = acc ++ [x] by rw [ST.out, jnS_out hk h])
        have fz := World.ownsRow.frozenAt OV.out (q * 2 + 1)
        have OVK := Lib.hid OV.out
        rw [hk] at OVK
        clear ST D sp OV
        generalize (gt acc q).2 = hi at *
        have w1 : IntKind.i64.wrap (((q + 1 : Nat) : Int) - 1) = (q : Int) := by rw [show ((q + 1 : Nat) : Int) - 1 = (q : Int) from by omega]; exact IntWalk.i64_in _ (by omega)
        have w2' : IntKind.i64.wrap ((q : Int) + 1 - 1) = (q : Int) := by rw [show (q : Int) + 1 - 1 = (q : Int) from by omega]; exact IntWalk.i64_in _ (by omega)
        have w3' : IntKind.i64.wrap (q : Int) = (q : Int) := IntWalk.i64_in _ (by omega)
        have i1 : (q : Int) < (q : Int) + 1 := by omega
        have i0 : (0 : Int) ≤ (q : Int) := by omega
        have i2 : q < q + 1 := by omega
        have i3 : (0 : Int) < (q : Int) + 1 := by omega
        have i4 : decide ((0 : Int) < (q : Int) + 1) = true := decide_eq_true i3
        have i5' : decide (0 < q + 1) = true := decide_eq_true (by omega)
        rw [hk]
        by_cases cc : x.1 ≤ hi
        · have s1 : decide (x.1 ≤ hi) = true := decide_eq_true cc
          have S := Lib.hid (IN.out cc)
          clear IN OUT
          go_wp2
          go_big_quiet (fail)
          have ba := below_alloc wo (.cells #[.int .i64 x.1, .int .i64 x.2] 40)
          generalize hwa : (wo.alloc (.cells #[.int .i64 x.1, .int .i64 x.2] 40)).drewN nq = wa
          have BA0 : Below wo.heap.size wo wa := hwa ▸ (ba.trans (below_drewN _ _ _))
          have cz2 : wa.cell? ⟨g3, q * 2 + 1, none⟩ = some (.int .i64 hi) := (BA0.cell (p := ⟨g3, _, none⟩) hg3).trans cz
          have cb2 : wa.cell? ⟨wo.heap.size, 1, none⟩ = some (.int .i64 x.2) := by rw [← hwa]; simp
          have fz2 : wa.frozen? ⟨g3, q * 2 + 1, none⟩ = false := (BA0.frozen (p := ⟨g3, _, none⟩) hg3).trans fz
          have BA := Lib.hid BA0.drew
          have SO := Lib.hid (OwnP.store (by have := OVK.out.on BA.out; rw [← hk] at this; exact this) q (by omega) (max hi x.2))
          rw [hk] at SO
          have BW := Lib.hid ((hB.trans (BA.out.mono hB.size)).trans (SO.out.2 (hB.trans (BA.out.mono hB.size)).size))
          clear hwa ba BA0 BA OVK cz fz c0 c1
          go_wp2
          go_still_tail 14, (by kernel_rfl)
          change wpList _ _ _ _ _ wa.drew
          go_wp2
          go_roundw
          case rel => exact ⟨t + 1, _, _, rfl, by go_num, by omega, S, Lib.hid SO.out.1, BW.out⟩
          case measure => simp [intOf]; omega
        · have s1 : decide (x.1 ≤ hi) = false := decide_eq_false cc
          have S := Lib.hid (OUT.out cc)
          clear IN OUT
          go_wp2
          go_big_quiet (fail)
          have ba := below_alloc wo (.cells #[.int .i64 x.1, .int .i64 x.2] 40)
          generalize hwa : (wo.alloc (.cells #[.int .i64 x.1, .int .i64 x.2] 40)).drewN nq = wa
          have BA0 := Lib.hid (show Below wo.heap.size wo wa from hwa ▸ (ba.trans (below_drewN _ _ _)))
          have cb1 : wa.cell? ⟨wo.heap.size, 0, none⟩ = some (.int .i64 x.1) := by rw [← hwa]; simp
          have cb2 : wa.cell? ⟨wo.heap.size, 1, none⟩ = some (.int .i64 x.2) := by rw [← hwa]; simp
          have SZ2 := Nat.le_trans SZ BA0.out.size
          clear hwa ba
          go_wp2_with (at_builtin; refine append_sp rfl _ _ rfl _ acc rfl (OVK.out.on BA0.out) SZ2 x _ rfl _ _ rfl (by omega) ?_)
          intro v4 w4 ow4 hb4
          have OW := Lib.hid ow4
          have B4 := Lib.hid (hB.trans ((BA0.out.mono SZ).trans hb4))
          clear ow4 hb4
          go_wp2
          go_roundw
          case rel => exact ⟨t + 1, _, v4, rfl, by go_num, by omega, S, OW, B4.out⟩
          case measure => simp [intOf]; omega
    · obtain rfl : k = t := by omega
      have E := Lib.hid (show acc = normL l by
        rw [← D.out, List.take_of_length_le (by rw [KM.out]; exact Nat.le_refl _)]; exact HR.out)
      have s0 : decide ((k : Int) < k) = false := decide_eq_false (by omega)
      have s00 : decide (k < k) = false := decide_eq_false (by omega)
      go_wp2
      go_ret
      obtain ⟨A5, c5, rfl, i5, f5, l5⟩ := OV.out.new
      have hs := B3.out.size
      rw [E.out] at i5 l5 f5 ⊢
      exact ⟨A5, c5, rfl, i5, fun h => by obtain ⟨g5, e5, h5⟩ := f5 h; exact ⟨g5, e5, by omega⟩, l5, B3.out.trans (hB.mono hs)⟩
/-- iv.Norm -/
theorem norm_any (w : World) (A : Option Addr) (n c : Nat) (l : List (Int × Int)) (hA : SpAt w A n l) (hz : A = none → n = 0) (h1 : n ≤ 900000) : Calls Try.prog 14 #[.slice A n c] w (NewS w (normL l)) := by
  cases A with
  | none =>
    obtain rfl := hz rfl
    obtain rfl : l = [] := List.length_eq_zero_iff.1 hA.1.symm
    rw [norm_nil]
    exact norm_none w c
  | some a => exact norm_some w a n c l hA h1
end Go.Proofs.Ytjodhfehfpmfaaa.Iv
