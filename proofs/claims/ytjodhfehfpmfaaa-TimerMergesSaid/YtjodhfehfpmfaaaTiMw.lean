/- The walk of voklaw11.TimerMerges. -/
import Derived.Test.YtjodhfehfpmfaaaTiMe
set_option linter.unusedVariables false
namespace Go.Proofs.Ytjodhfehfpmfaaa.Ti
open Go.RowKit Iv

def minN (S : List SlR) : Nat → Nat
  | 0 => 0
  | t + 1 => minN S t + min (gt S t).k 3001
theorem minN_le (S : List SlR) : ∀ t, minN S t ≤ t * 3001
  | 0 => Nat.zero_le _
  | t + 1 => by have := minN_le S t; have := Nat.min_le_right (gt S t).k 3001; unfold minN; omega
theorem minN_mono (S : List SlR) : ∀ {s t : Nat}, s ≤ t → minN S s ≤ minN S t
  | s, 0, h => by
    obtain rfl : s = 0 := by omega
    exact Nat.le_refl _
  | s, t + 1, h => by
    by_cases e : s = t + 1
    · subst e; exact Nat.le_refl _
    · have := minN_mono S (s := s) (t := t) (by omega)
      show minN S s ≤ minN S t + min (gt S t).k 3001
      omega
theorem minN_flat {S : List SlR} (hk : ∀ j, j < S.length → (gt S j).k = (gt S j).l.length) (h : minN S S.length ≤ 3000) : ∀ t, t ≤ S.length → (flatS (S.take t)).length = minN S t
  | 0, _ => by simp [flatS, minN]
  | t + 1, ht => by
    rw [flat_take (by omega), List.length_append, minN_flat hk h t (by omega), ← hk t (by omega)]
    have := minN_mono S (s := t + 1) (t := S.length) ht
    show _ = minN S t + min (gt S t).k 3001
    have e : minN S (t + 1) = minN S t + min (gt S t).k 3001 := rfl
    omega
set_option maxRecDepth 100000 in
set_option maxHeartbeats 16000000 in
theorem merges_walk (w : World) (B : Option Addr) (n c : Nat) (S : List SlR) (hL : LsAt w B n S) (hm : n ≤ 9223372036854775807) (hS : ∀ s ∈ S, (s.A = none → s.c = 0) ∧ s.k ≤ 9223372036854775807) :
    Calls Try.prog 7 #[.slice B n c] w fun e w' => e = .returned (.bool true) ∧ Below w.heap.size w w' := by
  have HL := Lib.hid hL
  have EN := Lib.hid hL.1
  have HK := Lib.hid (show ∀ j, j < S.length → (gt S j).k = (gt S j).l.length from fun j hj => by
    obtain ⟨b, off, -, -, hc⟩ := hL.2 (by rw [hL.1]; omega)
    exact (hc j (by rw [hL.1]; exact hj)).2.1.1)
  have HS := Lib.hid (fun (j : Nat) (hj : j < n) => (hS (gt S j) (gt_mem (by rw [← hL.1]; exact hj))).2)
  clear hL hS
  go_enter Try.func7, Try.ntmps7
  go_wp2_with fail
  refine (first11 _).mono ?_
  rintro e w1 ⟨rfl, b1⟩
  have B1 := Lib.hid b1
  have sz1 := b1.size
  have L1 := Lib.hid (HL.out.below b1)
  clear b1
  go_wp2_with fail
  go_loopw [3, 4] (fun sv i wr => ∃ t : Nat, i = .int .i64 t ∧ t ≤ n ∧ t ≤ 100 ∧ sv = .int .i64 (minN S t : Nat) ∧ w1 = wr) (fun _ i _ => n - (intOf i).toNat)
  case atStart => exact ⟨0, rfl, Nat.zero_le _, by omega, rfl, rfl⟩
  case round =>
    obtain ⟨t, rfl, ht, ht2, rfl, rfl⟩ := hrel
    have mb := minN_le S t
    by_cases hlt : t < n ∧ t < 100
    · obtain ⟨hlt, hl2⟩ := hlt
      have s0 : decide ((t : Int) < n) = true := decide_eq_true (by omega)
      have s00 : decide (t < n) = true := decide_eq_true hlt
      have s1 : decide ((t : Int) < 100) = true := decide_eq_true (by omega)
      have s11 : decide (t < 100) = true := decide_eq_true hl2
      have i5 : (t : Int) < n := by omega
      have W1 : IntKind.i64.wrap ((t : Int) + 1) = (t : Int) + 1 := IntWalk.i64_in _ (by omega)
      obtain ⟨b, off, rfl, hb, hc⟩ := L1.out.2 (by omega)
      obtain ⟨c0, -, -⟩ := hc t hlt
      have kb := HS.out t hlt
      have ME := Lib.hid (show minN S (t + 1) = minN S t + min (gt S t).k 3001 from rfl)
      clear hc
      generalize minN S t = x at *
      generalize (gt S t).k = y at *
      by_cases h3 : y ≤ 3001
      · have m1 : min (y : Int) 3001 = y := Int.min_eq_left (by omega)
        have m2 : min y 3001 = y := Nat.min_eq_left h3
        have s2 : decide ((y : Int) < 3001) = decide (y < 3001) := by
          by_cases q : y < 3001
          · rw [decide_eq_true q, decide_eq_true (by omega)]
          · rw [decide_eq_false q, decide_eq_false (by omega)]
        have W2 : IntKind.i64.wrap ((x : Int) + y) = ((x + y : Nat) : Int) := by rw [IntWalk.i64_in _ (by omega)]; omega
        have E2 := Lib.hid (show minN S (t + 1) = x + y by rw [ME.out, m2])
        clear s2 m2
        go_wp2
        go_roundw
        case rel => exact ⟨t + 1, by go_num, by omega, by omega, by rw [E2.out]; simp, trivial⟩
        case measure => simp [intOf]; omega
      · have m1 : min (y : Int) 3001 = 3001 := Int.min_eq_right (by omega)
        have m2 : min y 3001 = 3001 := Nat.min_eq_right (by omega)
        have W2 : IntKind.i64.wrap ((x : Int) + 3001) = ((x + 3001 : Nat) : Int) := by rw [IntWalk.i64_in _ (by omega)]; omega
        have E2 := Lib.hid (show minN S (t + 1) = x + 3001 by rw [ME.out, m2])
        clear m2
        go_wp2
        go_roundw
        case rel => exact ⟨t + 1, by go_num, by omega, by omega, by rw [E2.out]; simp, trivial⟩
        case measure => simp [intOf]; omega
    · have LAST : ∀ {wz : World}, Below w1.heap.size w1 wz → Below w.heap.size w wz := fun b => B1.out.trans (b.mono sz1)
      by_cases hbig : 100 < n ∨ 3000 < minN S t
      · have EXIT := Lib.hid hbig
        clear hbig
        by_cases hlt1 : t < n
        · have e100 : t = 100 := by omega
          have s0 : decide ((t : Int) < n) = true := decide_eq_true (by omega)
          have s00 : decide (t < n) = true := decide_eq_true hlt1
          have s1 : decide ((t : Int) < 100) = false := decide_eq_false (by omega)
          have s11 : decide (t < 100) = false := decide_eq_false (by omega)
          have s2 : decide ((100 : Int) < n) = true := decide_eq_true (by omega)
          have s22 : decide (100 < n) = true := decide_eq_true (by omega)
          clear e100
          go_wp2_with fail
          refine (first11 _).mono ?_
          rintro e wz ⟨rfl, bz⟩
          have BZ := Lib.hid (LAST bz)
          clear bz
          go_wp2_with fail
          go_ret
          exact ⟨rfl, BZ.out⟩
        · obtain rfl : n = t := by omega
          have s0 : decide ((n : Int) < n) = false := decide_eq_false (by omega)
          have s00 : decide (n < n) = false := decide_eq_false (by omega)
          have s2 : decide ((100 : Int) < n) = false := decide_eq_false (by omega)
          have s22 : decide (100 < n) = false := decide_eq_false (by omega)
          have q : 3000 < minN S n := EXIT.out.resolve_left (by omega)
          have s3 : decide ((3000 : Int) < (minN S n : Nat)) = true := decide_eq_true (by omega)
          have s33 : decide (3000 < minN S n) = true := decide_eq_true q
          go_wp2_with fail
          refine (first11 _).mono ?_
          rintro e wz ⟨rfl, bz⟩
          have BZ := Lib.hid (LAST bz)
          clear bz
          go_wp2_with fail
          go_ret
          exact ⟨rfl, BZ.out⟩
      · obtain rfl : n = t := by omega
        have hf : minN S n ≤ 3000 := by omega
        have FT := Lib.hid (minN_flat HK.out (by rw [← EN.out]; exact hf))
        have tk : S.take n = S := List.take_of_length_le (by rw [← EN.out]; exact Nat.le_refl _)
        have fl : (flatS S).length ≤ 3000 := by
          have := FT.out n (by rw [← EN.out]; exact Nat.le_refl _)
          rw [tk] at this
          omega
        have KS := Lib.hid (show ∀ j, j < n → (gt S j).k ≤ 3000 from fun j hj => by
          have a := minN_mono S (s := j + 1) (t := n) hj
          have e : minN S (j + 1) = minN S j + min (gt S j).k 3001 := rfl
          omega)
        have s0 : decide ((n : Int) < n) = false := decide_eq_false (by omega)
        have s00 : decide (n < n) = false := decide_eq_false (by omega)
        have s2 : decide ((100 : Int) < n) = false := decide_eq_false (by omega)
        have s22 : decide (100 < n) = false := decide_eq_false (by omega)
        have s3 : decide ((3000 : Int) < (minN S n : Nat)) = false := decide_eq_false (by omega)
        have s33 : decide (3000 < minN S n) = false := decide_eq_false (by omega)
        go_wp2_with fail
        go_loopw [5, 6] (fun ov i wr => ∃ (v : Value) (t : Nat) (S' : List SlR), i = .int .i64 t ∧ t ≤ n ∧ v = ov ∧ InAt w1 wr v S' ∧ Hid (S'.map (·.l) = (S.take t).map (·.l)) ∧ Below w1.heap.size w1 wr) (fun _ i _ => n - (intOf i).toNat)
        case atStart => exact ⟨_, 0, [], rfl, Nat.zero_le _, rfl, InAt.nil _ _, Lib.hid (by simp), Below.refl _ _⟩
        case round =>
          obtain ⟨wo, rfl⟩ : ∃ wo : World, wo = wr := ⟨_, rfl⟩
          obtain ⟨v, t, S', rfl, ht1, rfl, hI, hS', hB⟩ := hrel
          have II := Lib.hid hI
          have BO := Lib.hid hB
          have szo := hB.size
          have LO := Lib.hid (L1.out.below hB)
          have ln : S'.length = t := by
            have := congrArg List.length hS'.out
            rw [List.length_map, List.length_map, List.length_take, ← EN.out] at this
            omega
          clear hI hB
          by_cases hlt2 : t < n
          · have s4 : decide ((t : Int) < n) = true := decide_eq_true (by omega)
            have s44 : decide (t < n) = true := decide_eq_true hlt2
            have i5 : (t : Int) < n := by omega
            have W1 : IntKind.i64.wrap ((t : Int) + 1) = (t : Int) + 1 := IntWalk.i64_in _ (by omega)
            obtain ⟨b, off, rfl, hb, hc⟩ := LO.out.2 (by omega)
            obtain ⟨c0, s, k⟩ := hc t hlt2
            have SE := Lib.hid (show (S.take (t + 1)).map (·.l) = S'.map (·.l) ++ [(gt S t).l] by
              rw [List.take_succ_eq_append_getElem (by rw [← EN.out]; exact hlt2), List.map_append, ← hS'.out, gt_lt (by rw [← EN.out]; exact hlt2)]; rfl)
            have CI := Lib.hid (copyints_is wo (gt S t).A (gt S t).k (gt S t).c (gt S t).l s (by have := KS.out t hlt2; omega))
            clear hc s k
            generalize gt S t = y at *
            go_wp2_with fail
            refine CI.out.mono ?_
            rintro e w3 ⟨A', cap, rfl, i3, k3, f3, b3⟩
            have I3 := Lib.hid (II.out.below b3)
            have NY := Lib.hid (show IsAt w3 A' y.k y.l ∧ y.k ≤ cap ∧ ∀ g o, A' = some ⟨g, o, none⟩ → g < w3.heap.size ∧ v.ownBlock ≠ some g from ⟨i3, k3, fun g o e => ⟨(f3 g o e).2, fun q => by
              have := (World.ownsRow.lt II.out.1 g q).2
              have := (f3 g o e).1
              omega⟩⟩)
            have B3 := Lib.hid (BO.out.trans (b3.mono szo))
            clear i3 k3 f3 b3 CI
            go_wp2_with (at_builtin; refine append_sl rfl _ _ rfl v S' rfl I3.out B3.out ⟨A', y.k, cap, y.l⟩ 1 rfl (by omega) NY.out ?_)
            intro v4 w4 ow4 hb4
            have O4 := Lib.hid ow4
            have B4 := Lib.hid hb4
            have S4 := Lib.hid (show (S' ++ [(⟨A', y.k, cap, y.l⟩ : SlR)]).map (·.l) = (S.take (t + 1)).map (·.l) by rw [SE.out, List.map_append]; rfl)
            clear ow4 hb4
            go_wp2
            go_roundw
            case rel => exact ⟨v4, t + 1, _, by go_num, by omega, rfl, O4.out, S4, B4.out⟩
            case measure => simp [intOf]; omega
          · obtain rfl : n = t := by omega
            have s4 : decide ((n : Int) < n) = false := decide_eq_false (by omega)
            have s44 : decide (n < n) = false := decide_eq_false (by omega)
            obtain ⟨Bi, ci, rfl, li⟩ := II.out.ls
            rw [ln] at li ⊢
            have ef : flatS S' = flatS S := by
              have e := hS'.out
              rw [tk] at e
              unfold flatS
              rw [List.flatMap_def, List.flatMap_def, e]
            have GL := Lib.hid (show ∀ j, j < n → (gt S' j).l = (gt S j).l from fun j hj => by
              have e := hS'.out
              rw [tk] at e
              have e2 := congrArg (fun z : List (List Int) => z[j]?) e
              simp only [List.getElem?_map] at e2
              have j1 : j < S'.length := by omega
              have j2 : j < S.length := by rw [← EN.out]; exact hj
              rw [List.getElem?_eq_getElem j1, List.getElem?_eq_getElem j2] at e2
              rw [gt_lt j1, gt_lt j2]
              exact Option.some.inj e2)
            have M1 := Lib.hid (merge_is wo Bi n ci S' li (by omega) (by rw [ef]; omega))
            rw [ef] at M1
            have LI := Lib.hid li
            clear li II
            go_wp2_with fail
            refine M1.out.mono ?_
            rintro e w3 ⟨A3, c3, rfl, i3, -, b3⟩
            have I3 := Lib.hid i3
            have LI3 := Lib.hid (LI.out.below b3)
            have L3 := Lib.hid (LO.out.below b3)
            have B3 := Lib.hid (BO.out.trans (b3.mono szo))
            clear i3 b3 M1 LI
            have M2 := Lib.hid (rmerge_is w3 B n c S L3.out (by omega) (by omega))
            have rl : (sortU iltB (flatS S)).length ≤ 3000 := by have := (sort_all (l := flatS S)).2.1; omega
            generalize sortU iltB (flatS S) = r at *
            go_wp2_with fail
            refine M2.out.mono ?_
            rintro e w4 ⟨A4, c4, rfl, i4, -, b4⟩
            have I4 := Lib.hid i4
            have I34 := Lib.hid (I3.out.below b4)
            have LI4 := Lib.hid (LI3.out.below b4)
            have L4 := Lib.hid (L3.out.below b4)
            have B4 := Lib.hid (B3.out.trans (b4.mono B3.out.size))
            clear i4 b4 M2 I3 LI3 L3
            go_wp2_with fail
            refine (ints_same w4 A3 A4 r.length c3 c4 r I34.out I4.out (by omega)).mono ?_
            rintro e w5 ⟨rfl, b5⟩
            have LI5 := Lib.hid (LI4.out.below b5)
            have L5 := Lib.hid (L4.out.below b5)
            have B5 := Lib.hid (B4.out.trans (b5.mono B4.out.size))
            have sz5 := b5.size
            clear b5 I34 I4 LI4 L4
            go_wp2_with fail
            go_loopw [8] (fun i wr => ∃ t : Nat, i = .int .i64 t ∧ t ≤ n ∧ Below w5.heap.size w5 wr) (fun i _ => n - (intOf i).toNat)
            case atStart => exact ⟨0, rfl, Nat.zero_le _, Below.refl _ _⟩
            case round =>
              obtain ⟨wi, rfl⟩ : ∃ wi : World, wi = wr := ⟨_, rfl⟩
              obtain ⟨t, rfl, ht3, hJ⟩ := hrel
              by_cases hlt3 : t < n
              · have s5 : decide ((t : Int) < n) = true := decide_eq_true (by omega)
                have s55 : decide (t < n) = true := decide_eq_true hlt3
                have i5 : (t : Int) < n := by omega
                have W1 : IntKind.i64.wrap ((t : Int) + 1) = (t : Int) + 1 := IntWalk.i64_in _ (by omega)
                obtain ⟨b1, o1, rfl, hb1, hc1⟩ := (LI5.out.below hJ).2 (by omega)
                obtain ⟨b2, o2, rfl, hb2, hc2⟩ := (L5.out.below hJ).2 (by omega)
                obtain ⟨c0, s1', -⟩ := hc1 t hlt3
                obtain ⟨d0, s2', -⟩ := hc2 t hlt3
                have gl := GL.out t hlt3
                rw [gl] at s1'
                have ek : (gt S' t).k = (gt S t).k := s1'.1.trans s2'.1.symm
                rw [ek] at s1' c0
                have ks := KS.out t hlt3
                have JJ := Lib.hid hJ
                have IS := Lib.hid (fun v (hv : Below wi.heap.size wi v) => ints_same v (gt S' t).A (gt S t).A (gt S t).k (gt S' t).c (gt S t).c (gt S t).l (s1'.below hv) (s2'.below hv) (by omega))
                clear hc1 hc2 s1' s2' gl ek hJ
                generalize gt S t = y at *
                generalize gt S' t = y' at *
                go_wp2_with fail
                go_still_tail 8, (by kernel_rfl)
                change wpList _ _ _ _ _ wi.drew
                have DD : Below wi.heap.size wi wi.drew := (Below.refl _ _).drew
                go_wp2_with fail
                refine (IS.out _ DD).mono ?_
                rintro e w7 ⟨rfl, b7⟩
                have B7 := Lib.hid ((JJ.out.trans (DD.mono JJ.out.size)).trans (b7.mono (Nat.le_trans JJ.out.size DD.size)))
                clear b7 DD IS
                go_wp2_with fail
                go_roundw
                case rel => exact ⟨t + 1, by go_num, by omega, B7.out⟩
                case measure => simp [intOf]; omega
              · obtain rfl : n = t := by omega
                have BZ := Lib.hid (LAST (B5.out.trans (hJ.mono B5.out.size)))
                have szz := BZ.out.size
                clear hJ
                go_wp2_with fail
                refine (first11 _).mono ?_
                rintro e wz ⟨rfl, bz⟩
                have BE := Lib.hid (BZ.out.trans (bz.mono szz))
                clear bz
                go_wp2_with fail
                go_ret
                exact ⟨rfl, BE.out⟩
end Go.Proofs.Ytjodhfehfpmfaaa.Ti
