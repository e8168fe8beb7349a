/- The walk of voklaw10.IvLeast. -/
import Derived.Test.YthekhcmmhhninaaIvPl
import Derived.Test.YthekhcmmhhninaaIvFi
import Derived.Test.YthekhcmmhhninaaIvCuM
import Derived.Test.YthekhcmmhhninaaIvOp
set_option linter.unusedVariables false
namespace Go.Proofs.Ythekhcmmhhninaa.Iv
open Go.RowKit

/-- does a span of another owner's overlap one of these? -/
def meetB (but : Int) (x : Tg) (sp : List (Int × Int)) : Bool := decide (x.2 ≠ but) && sp.any fun s => ovB x.1 s
theorem meet_take {but : Int} {x : Tg} {sp : List (Int × Int)} {j : Nat} (h : j < sp.length) : meetB but x (sp.take (j + 1)) = (meetB but x (sp.take j) || (decide (x.2 ≠ but) && ovB x.1 (gt sp j))) := by
  unfold meetB
  rw [any_take _ h]
  cases decide (x.2 ≠ but) <;> simp
theorem clash_meet (but : Int) (sp : List (Int × Int)) (all : List Tg) : clashL but sp all = all.find? fun t => meetB but t sp := rfl
theorem find_gt {α : Type} [Inhabited α] {p : α → Bool} {m : List α} {j : Nat} (hj : j < m.length) (h : ∀ i, i < j → p (gt m i) = false) (hp : p (gt m j) = true) : m.find? p = some (gt m j) := by
  rw [List.find?_eq_some_iff_getElem]
  refine ⟨hp, j, hj, (gt_lt hj).symm, fun i hi => ?_⟩
  have := h i hi
  rw [gt_lt (by omega)] at this
  rw [this]; rfl
theorem find_no {α : Type} [Inhabited α] {p : α → Bool} {m : List α} (h : ∀ i, i < m.length → p (gt m i) = false) : m.find? p = none := by
  rw [List.find?_eq_none]
  intro x hx
  obtain ⟨i, hi, e⟩ := List.getElem_of_mem hx
  have := h i hi
  rw [gt_lt hi, e] at this
  rw [this]; simp
theorem meet_nil (but : Int) (x : Tg) : meetB but x [] = false := by unfold meetB; simp
theorem ov_yes {a b : Int × Int} (h1 : a.1 < b.2) (h2 : b.1 < a.2) : ovB a b = true := by unfold ovB; exact decide_eq_true ⟨h1, h2⟩
theorem ov_no1 {a b : Int × Int} (h1 : ¬ a.1 < b.2) : ovB a b = false := by unfold ovB; exact decide_eq_false fun h => h1 h.1
theorem ov_no2 {a b : Int × Int} (h2 : ¬ b.1 < a.2) : ovB a b = false := by unfold ovB; exact decide_eq_false fun h => h2 h.2
set_option maxRecDepth 100000 in
set_option maxHeartbeats 8000000 in
theorem least_walk (w : World) (A : Option Addr) (n c : Nat) (ops : List OpR) (A2 : Option Addr) (n2 c2 : Nat) (more : List (Int × Int)) (but : Int) (hA : OpAt w A n ops) (hm : n ≤ 9223372036854775807) (hB : SpAt w A2 n2 more) (hz : A2 = none → n2 = 0) (hm2 : n2 ≤ 9223372036854775807) :
    Calls Try.prog 9 #[.slice A n c, .slice A2 n2 c2, .int .i64 but] w fun e w' => e = .returned (.bool true) ∧ Below w.heap.size w w' := by
  have HA := Lib.hid hA
  have HB := Lib.hid hB
  have HZ := Lib.hid hz
  clear hA hB hz
  go_enter Try.func9, Try.ntmps9
  go_wp2_with fail
  refine (firstV _).mono ?_
  rintro e w1 ⟨rfl, b1⟩
  have B1 := Lib.hid b1
  clear b1
  go_wp2_with fail
  refine (played_is w1 A n c ops (HA.out.below B1.out) hm).mono ?_
  rintro e w2 ⟨b2, ⟨hf, p, rfl, hp, S2, l1', l2'⟩ | ⟨hf, rfl⟩⟩
  · have B2 := Lib.hid (B1.out.trans (b2.mono B1.out.size))
    have S2H := Lib.hid S2
    generalize (playN ops ops.length).1 = all at *
    generalize (playN ops ops.length).2 = ow at *
    clear hf S2 b2 B1
    by_cases g1 : 100 < n2
    · have s1 : decide (100 < n2) = true := decide_eq_true g1
      have s2 : decide ((100 : Int) < n2) = true := decide_eq_true (by omega)
      go_wp2_with fail
      refine (firstV _).mono ?_
      rintro e w5 ⟨rfl, b5⟩
      have B5 := Lib.hid (B2.out.trans (b5.mono B2.out.size))
      clear b5
      go_wp2_with fail
      go_ret
      exact ⟨rfl, B5.out⟩
    have s1 : decide (100 < n2) = false := decide_eq_false g1
    have s2 : decide ((100 : Int) < n2) = false := decide_eq_false (by omega)
    go_wp2_with fail
    refine (clash_is w2 p all ow A2 n2 c2 more but S2H.out (HB.out.below B2.out) HZ.out (by omega) (by omega)).mono ?_
    rintro e w3 ⟨rfl, b3⟩
    have B3 := Lib.hid b3
    have NL := Lib.hid (norm_len more)
    have HM := Lib.hid HB.out.1
    have HR : Hid ((∃ z, clashL but (normL more) all = some z) ∨ clashL but (normL more) all = none) := Lib.hid (by cases clashL but (normL more) all with | some z => exact .inl ⟨z, rfl⟩ | none => exact .inr rfl)
    clear b3
    have ARM : ∃ (Z : Tg) (okb : Bool), tgV (clashL but (normL more) all) = .tuple #[.agg #[.int .i64 Z.1.1, .int .i64 Z.1.2, .int .i64 Z.2], .bool okb] ∧ ((okb = true ∧ clashL but (normL more) all = some Z) ∨ (okb = false ∧ clashL but (normL more) all = none ∧ Z.2 = 0)) := by
      rcases HR.out with ⟨z, h⟩ | h
      · exact ⟨z, true, by rw [h]; rfl, .inl ⟨rfl, h⟩⟩
      · exact ⟨((0, 0), 0), false, by rw [h]; rfl, .inr ⟨rfl, h, rfl⟩⟩
    obtain ⟨Z, okb, hv, harm⟩ := ARM
    rw [hv]
    have AH := Lib.hid harm
    clear hv harm HR
    go_wp2_with fail
    obtain ⟨w4, hw4⟩ : ∃ w4 : World, w4 = w3.alloc (.cells #[.int .i64 Z.1.1, .int .i64 Z.1.2, .int .i64 Z.2] 42) := ⟨_, rfl⟩
    have R4 := Lib.hid (show RowIs w4 w3.heap.size 42 3 1 [.int .i64 Z.1.1, .int .i64 Z.1.2, .int .i64 Z.2] from hw4 ▸ new_row w3 42 3 1 1 #[.int .i64 Z.1.1, .int .i64 Z.1.2, .int .i64 Z.2] #[] rfl (by unfold maxLen; decide))
    have B4 := Lib.hid (show Below w2.heap.size w2 w4 from B3.out.trans ((hw4 ▸ below_alloc w3 _ : Below w3.heap.size w3 w4).mono B3.out.size))
    rw [← hw4]
    clear hw4 B3
    generalize w3.heap.size = t8 at *
    refine (list_is w4 p all ow (S2H.out.below B4.out) (by omega)).mono ?_
    rintro e w5 ⟨A5, c5, rfl, T5, -, -, b5⟩
    have B5 := Lib.hid b5
    have T5H := Lib.hid T5
    have B25 := Lib.hid (B2.out.trans ((B4.out.trans (b5.mono B4.out.size)).mono B2.out.size))
    clear T5 b5
    go_wp2_with fail
    refine (norm_any w5 A2 n2 c2 more (HB.out.below B25.out) HZ.out (by omega)).mono ?_
    rintro e w6 ⟨A6, c6, rfl, P6, -, -, b6⟩
    have P6H := Lib.hid P6
    have T6 := Lib.hid (T5H.out.below b6)
    have R6 := Lib.hid ((R4.out.below B5.out).below b6)
    have B26 := Lib.hid (B25.out.trans (b6.mono B25.out.size))
    have CM := Lib.hid (clash_meet but (normL more) all)
    clear P6 b6 T5H R4 B5 B25 B4 B2 S2H
    generalize normL more = sp at *
    generalize hk : all.length = k at *
    have HK := Lib.hid hk
    generalize hms : sp.length = m at *
    have HS := Lib.hid hms
    have mb : m ≤ 100 := by have := NL.out; have := HM.out; omega
    clear hk hms
    go_wp2_with fail
    go_loopw [12] (fun i wr => ∃ t : Nat, i = .int .i64 t ∧ t ≤ k ∧ Hid (∀ i, i < t → meetB but (gt all i) sp = false) ∧ Below w6.heap.size w6 wr) (fun i _ => k - (intOf i).toNat)
    case atStart => exact ⟨0, rfl, Nat.zero_le _, Lib.hid fun i h => absurd h (by omega), Below.refl _ _⟩
    case round =>
      obtain ⟨wo, rfl⟩ : ∃ wo : World, wo = wr := ⟨_, rfl⟩
      obtain ⟨t, rfl, ht, D, hB⟩ := hrel
      have BO := Lib.hid hB
      have RO := Lib.hid (R6.out.below hB)
      have PO := Lib.hid (P6H.out.below hB)
      by_cases hlt : t < k
      · obtain ⟨b1, o1, rfl, hl1, hc1⟩ := T6.out.2 (by omega)
        obtain ⟨e0, e1, e2⟩ := hc1 t hlt
        have C0 := (hB.cell (p := ⟨b1, _, none⟩) hl1).trans e0
        have C1 := (hB.cell (p := ⟨b1, _, none⟩) hl1).trans e1
        have C2 := (hB.cell (p := ⟨b1, _, none⟩) hl1).trans e2
        have hl1o := Nat.lt_of_lt_of_le hl1 hB.size
        have FG := Lib.hid (fun (h : meetB but (gt all t) sp = true) => find_gt (p := fun t => meetB but t sp) (m := all) (j := t) (by rw [HK.out]; exact hlt) D.out h)
        have FN := Lib.hid (fun (h : meetB but (gt all t) sp = false) => show ∀ i, i < t + 1 → meetB but (gt all i) sp = false from fun i hi => by
          by_cases q : i = t
          · subst q; exact h
          · exact D.out i (by omega))
        clear hc1 e0 e1 e2 hB D
        generalize gt all t = x at *
        have i5 : (t : Int) < k := by omega
        have s5 : decide ((t : Int) < k) = true := decide_eq_true (by omega)
        have s55 : decide (t < k) = true := decide_eq_true hlt
        have W1 : IntKind.i64.wrap ((t : Int) + 1) = (t : Int) + 1 := IntWalk.i64_in _ (by omega)
        go_wp2_with fail
        go_loopw [13, 14] (fun b i wr => ∃ j : Nat, i = .int .i64 j ∧ j ≤ m ∧ (∃ q : Bool, b = .bool q ∧ Hid (q = meetB but x (sp.take j))) ∧ Below wo.heap.size wo wr) (fun b i _ => m - (intOf i).toNat)
        case atStart => exact ⟨0, rfl, Nat.zero_le _, ⟨false, rfl, Lib.hid (meet_nil but x).symm⟩, Below.refl _ _⟩
        case round =>
          obtain ⟨wi, rfl⟩ : ∃ wi : World, wi = wr := ⟨_, rfl⟩
          obtain ⟨j, rfl, hj, ⟨q, rfl, hq⟩, hI⟩ := hrel
          have c0 := (hI.cell (p := ⟨b1, _, none⟩) hl1o).trans C0
          have c1 := (hI.cell (p := ⟨b1, _, none⟩) hl1o).trans C1
          have c2 := (hI.cell (p := ⟨b1, _, none⟩) hl1o).trans C2
          by_cases hlj : j < m
          · obtain ⟨b2, o2, rfl, hl2, hc2⟩ := PO.out.2 (by omega)
            obtain ⟨d0, d1⟩ := hc2 j hlj
            replace d0 := (hI.cell (p := ⟨b2, _, none⟩) hl2).trans d0
            replace d1 := (hI.cell (p := ⟨b2, _, none⟩) hl2).trans d1
            have ST := Lib.hid (meet_take (but := but) (x := x) (show j < sp.length by rw [HS.out]; exact hlj))
            clear hc2
            generalize gt sp j = y at *
            have i6 : (j : Int) < m := by omega
            have s6 : decide ((j : Int) < m) = true := decide_eq_true (by omega)
            have s66 : decide (j < m) = true := decide_eq_true hlj
            have W2 : IntKind.i64.wrap ((j : Int) + 1) = (j : Int) + 1 := IntWalk.i64_in _ (by omega)
            cases q with
            | true =>
              have Q2 := Lib.hid (show true = meetB but x (sp.take (j + 1)) by rw [ST.out, ← hq.out]; rfl)
              go_wp2
              go_big_quiet (fail)
              go_wp2
              go_roundw
              case rel => exact ⟨j + 1, by go_num, by omega, ⟨_, rfl, Q2⟩, hI.trans (below_drewN _ _ _)⟩
              case measure => simp [intOf]; omega
            | false =>
              by_cases g2 : x.2 = but
              · have s7 : ((x.2 : Int) != but) = false := by rw [bne_eq_false_iff_eq]; exact g2
                have Q2 := Lib.hid (show false = meetB but x (sp.take (j + 1)) by rw [ST.out, ← hq.out, decide_eq_false (by intro h; exact h g2)]; rfl)
                clear g2
                go_wp2
                go_big_quiet (fail)
                go_wp2
                go_roundw
                case rel => exact ⟨j + 1, by go_num, by omega, ⟨_, rfl, Q2⟩, hI.trans (below_drewN _ _ _)⟩
                case measure => simp [intOf]; omega
              · have s7 : ((x.2 : Int) != but) = true := by rw [bne_iff_ne]; exact g2
                by_cases g3 : x.1.1 < y.2
                · have s8 : decide (x.1.1 < y.2) = true := decide_eq_true g3
                  by_cases g4 : y.1 < x.1.2
                  · have s9 : decide (y.1 < x.1.2) = true := decide_eq_true g4
                    have Q2 := Lib.hid (show true = meetB but x (sp.take (j + 1)) by rw [ST.out, ← hq.out, decide_eq_true (show x.2 ≠ but from g2), ov_yes g3 g4]; rfl)
                    clear g2
                    go_wp2
                    go_big_quiet (fail)
                    go_wp2
                    go_roundw
                    case rel => exact ⟨j + 1, by go_num, by omega, ⟨_, rfl, Q2⟩, hI.trans (below_drewN _ _ _)⟩
                    case measure => simp [intOf]; omega
                  · have s9 : decide (y.1 < x.1.2) = false := decide_eq_false g4
                    have Q2 := Lib.hid (show false = meetB but x (sp.take (j + 1)) by rw [ST.out, ← hq.out, ov_no2 g4]; simp)
                    clear g2
                    go_wp2
                    go_big_quiet (fail)
                    go_wp2
                    go_roundw
                    case rel => exact ⟨j + 1, by go_num, by omega, ⟨_, rfl, Q2⟩, hI.trans (below_drewN _ _ _)⟩
                    case measure => simp [intOf]; omega
                · have s8 : decide (x.1.1 < y.2) = false := decide_eq_false g3
                  have Q2 := Lib.hid (show false = meetB but x (sp.take (j + 1)) by rw [ST.out, ← hq.out, ov_no1 g3]; simp)
                  clear g2
                  go_wp2
                  go_big_quiet (fail)
                  go_wp2
                  go_roundw
                  case rel => exact ⟨j + 1, by go_num, by omega, ⟨_, rfl, Q2⟩, hI.trans (below_drewN _ _ _)⟩
                  case measure => simp [intOf]; omega
          · obtain rfl : m = j := by omega
            have s6 : decide ((m : Int) < m) = false := decide_eq_false (by omega)
            have s66 : decide (m < m) = false := decide_eq_false (by omega)
            have Q1 := Lib.hid (show q = meetB but x sp by have := hq.out; rwa [List.take_of_length_le (by rw [HS.out]; exact Nat.le_refl _)] at this)
            have RI := Lib.hid (RO.out.below hI)
            have BI := Lib.hid hI
            have B6I := Lib.hid (BO.out.trans (hI.mono BO.out.size))
            clear hI hq
            cases q with
            | false =>
              have D2 := Lib.hid (FN.out Q1.out.symm)
              go_wp2_with fail
              go_roundw
              case rel => exact ⟨t + 1, by go_num, by omega, D2, B6I.out⟩
              case measure => simp [intOf]; omega
            | true =>
              have E := FG.out Q1.out.symm
              rw [← CM.out] at E
              rcases AH.out with ⟨rfl, h⟩ | ⟨-, h, -⟩
              · rw [h] at E
                injection E with E
                subst E
                have q0 : wi.cell? ⟨t8, 0, none⟩ = some (.int .i64 Z.1.1) := RI.out.cell rfl
                have q1 : wi.cell? ⟨t8, 1, none⟩ = some (.int .i64 Z.1.2) := RI.out.cell rfl
                have q2 : wi.cell? ⟨t8, 2, none⟩ = some (.int .i64 Z.2) := RI.out.cell rfl
                have hl8 := RI.out.lt
                have hl9 : b1 < wi.heap.size := Nat.lt_of_lt_of_le hl1o BI.out.size
                have BW := Lib.hid (B26.out.trans (B6I.out.mono B26.out.size))
                clear h FG FN Q1 RI BI B6I C0 C1 C2
                generalize Z.1.1 = z0 at *
                generalize Z.1.2 = z1 at *
                generalize Z.2 = z2 at *
                go_upto_region 17 with fail
                go_region_with (go_at_call 10; refine (firstV _).mono ?_; rintro e w12 ⟨rfl, b12⟩; have r0 := (b12.cell (p := ⟨t8, 0, none⟩) hl8).trans q0; have r1 := (b12.cell (p := ⟨t8, 1, none⟩) hl8).trans q1; have r2 := (b12.cell (p := ⟨t8, 2, none⟩) hl8).trans q2; have y0 := (b12.cell (p := ⟨b1, _, none⟩) hl9).trans c0; have y1 := (b12.cell (p := ⟨b1, _, none⟩) hl9).trans c1; have y2 := (b12.cell (p := ⟨b1, _, none⟩) hl9).trans c2)
                all_goals
                  have BF := Lib.hid (BW.out.trans (((Below.refl wi.heap.size wi).drew.trans b12).mono BW.out.size))
                  clear b12
                  go_wp2
                  go_ret
                  exact ⟨by first | rfl | simp [Act.put, go_sem] | (simp only [Act.put, List.setIfInBounds_toArray, List.set_cons_zero, List.set_cons_succ]; simp), BF.out⟩
              · rw [h] at E; cases E
      · obtain rfl : k = t := by omega
        have s5 : decide ((k : Int) < k) = false := decide_eq_false (by omega)
        have s55 : decide (k < k) = false := decide_eq_false (by omega)
        have E : clashL but sp all = none := by rw [CM.out]; exact find_no (by rw [HK.out]; exact D.out)
        rcases AH.out with ⟨-, h⟩ | ⟨rfl, h, hz⟩
        · rw [E] at h; cases h
        · have BX := Lib.hid (B26.out.trans (BO.out.mono B26.out.size))
          have hl8 := RO.out.lt
          have q2 : wo.cell? ⟨t8, 2, none⟩ = some (.int .i64 Z.2) := RO.out.cell rfl
          rw [hz] at q2
          clear hB D E h
          go_wp2_with fail
          refine (firstV _).mono ?_
          rintro e w12 ⟨rfl, b12⟩
          have r2 := (b12.cell (p := ⟨t8, 2, none⟩) hl8).trans q2
          have B12 := Lib.hid (BX.out.trans (b12.mono BX.out.size))
          clear b12
          go_wp2_with fail
          go_ret
          exact ⟨rfl, B12.out⟩
  · have B2 := Lib.hid (B1.out.trans (b2.mono B1.out.size))
    clear b2
    go_wp2_with fail
    refine (firstV _).mono ?_
    rintro e w5 ⟨rfl, b5⟩
    have B5 := Lib.hid (B2.out.trans (b5.mono B2.out.size))
    clear b5
    go_wp2_with fail
    go_ret
    exact ⟨rfl, B5.out⟩
end Go.Proofs.Ythekhcmmhhninaa.Iv
