/- DaysTimes answers true; the walks of vokref.Has, slices.Clone, times and Times. -/
import Derived.Test.YtkkmhjplfpdhcaaGreatDoorDyWalkE
import Derived.Test.YtkkmhjplfpdhcaaGreatDoorRuCopy
import Derived.Deep.OwnRows
import Derived.Lib.SliceRun
import Derived.Test.YtkkmhjplfpdhcaaGreatDoorRuLate
import Derived.Test.YtkkmhjplfpdhcaaGreatDoorDyFirst
set_option linter.unusedVariables false
namespace Go.Proofs.YtkkmhjplfpdhcaaGreatDoor.Dd
open Go.RowKit Cv St Ru

def hasN (l : List Int) (x : Int) (k : Nat) : Prop := ∀ j, j < k → iat l j ≠ x
theorem hasN.succ {l : List Int} {x : Int} {k : Nat} (h : hasN l x k) (e : iat l k ≠ x) : hasN l x (k + 1) := fun j hj => by
  by_cases c : j = k
  · subst c; exact e
  · exact h j (by omega)
set_option maxHeartbeats 2000000 in
/-- vokref.Has -/
theorem vhas_is (w : World) (A : Option Addr) (n c : Nat) (l : List Int) (x : Int) (hl : IsAt w A n l) (h1 : n ≤ 9223372036854775807) (p : Bool) (hp : decide (x ∈ l) = p) :
    Calls Tryz.prog 23 #[.slice A n c, .int .i64 x] w fun e w' => e = .returned (.bool p) ∧ Below w.heap.size w w' := by
  obtain ⟨en, hc⟩ := hl
  have EN := Lib.hid en
  have HP := Lib.hid hp
  clear en hp
  go_enter Tryz.func23, Tryz.ntmps23
  go_wp2
  go_loopw [5] (fun i wr => ∃ t : Nat, t ≤ n ∧ i = .int .i64 t ∧ Hid (hasN l x t) ∧ ∃ q : Nat, wr = w.drewN q) (fun i _ => n - (intOf i).toNat)
  case atStart => exact ⟨0, Nat.zero_le _, rfl, Lib.hid (fun j hj => absurd hj (by omega)), 0, rfl⟩
  case round =>
    obtain ⟨t, ht, rfl, D, q, rfl⟩ := hrel
    by_cases hlt : t < n
    · obtain ⟨bl, off, rfl, hb, hcc⟩ := hc (by omega)
      have c0 := hcc t hlt
      have Y := Lib.hid (fun (h : iat l t = x) => show true = p by
        rw [← HP.out]
        have hk : t < l.length := by rw [← EN.out]; exact hlt
        rw [iat_lt hk] at h
        exact (decide_eq_true (h ▸ List.getElem_mem hk)).symm)
      have X := Lib.hid (fun (e1 : iat l t ≠ x) => D.out.succ e1)
      clear hc hcc D
      by_cases p1 : iat l t = x
      · have e1 : ((iat l t : Int) == x) = true := by rw [beq_iff_eq]; exact p1
        have F := Lib.hid (Y.out p1)
        clear p1 X Y
        generalize iat l t = s at *
        go_wp2
        go_ret
        exact ⟨ret_bool F.out, Below.drewN' _ _ _⟩
      · have e1 : ((iat l t : Int) == x) = false := by rw [beq_eq_false_iff_ne]; exact p1
        have F := Lib.hid (X.out p1)
        clear p1 X Y
        generalize iat l t = s at *
        go_wp2
        go_roundw
        case rel => exact ⟨t + 1, by omega, by go_num, F, _, rfl⟩
        case measure => simp [intOf]; omega
    · obtain rfl : n = t := by omega
      have F := Lib.hid (show false = p by
        rw [← HP.out]
        refine (decide_eq_false fun g => ?_).symm
        obtain ⟨j, hj, e⟩ := List.getElem_of_mem g
        exact D.out j (by rw [EN.out]; exact hj) (by rw [iat_lt hj]; exact e))
      go_wp2
      go_ret
      exact ⟨ret_bool F.out, Below.drewN' _ _ _⟩
set_option maxRecDepth 100000 in
set_option maxHeartbeats 2000000 in
/-- slices.Clone of a slice that is not empty -/
theorem clone_is (w : World) (A : Option Addr) (n c : Nat) (l : List Int) (h : IsAt w A n l) (hn : n ≤ 1000000) (h0 : 0 < n) : Calls Tryz.prog 109 #[.slice A n c] w (CopyI w l) := by
  have LIT := Lib.hid (lit_none w 3 1)
  obtain ⟨i0, hi, hz0, hz1, hz2⟩ := info_parts info_int
  obtain ⟨b, off, rfl, -, -⟩ := h.2 h0
  have LEN := Lib.hid (show (l.map (Value.int .i64)).length = n * 1 by rw [List.length_map, h.1]; omega)
  have ONE := Lib.hid (fun u (q : u ∈ l.map (Value.int .i64)) => show u.oneCell' = true by obtain ⟨z, -, rfl⟩ := List.mem_map.1 q; rfl)
  have GET := Lib.hid (fun j u (q : (l.map (Value.int .i64))[j]? = some u) => show (w.alloc (.cells #[] 3)).cell? ((⟨b, off, none⟩ : Addr).add j) = some u by
    have hj : j < l.length := by have := (List.getElem?_eq_some_iff.1 q).1; simpa using this
    obtain ⟨b', off', e, hb, hc⟩ := h.2 (by rw [h.1]; omega)
    cases e
    have z := hc j (by rw [h.1]; exact hj)
    rw [iat_lt hj] at z
    rw [List.getElem?_map, List.getElem?_eq_getElem hj] at q
    obtain rfl : Value.int .i64 l[j] = u := by simpa using q
    rw [addr_off]
    exact ((alloc_below w _).cell (p := ⟨b, off + j, none⟩) hb).trans z)
  have HL := Lib.hid h.1
  have SZ := Lib.hid (show 0 + n ≤ maxLen by unfold maxLen; omega)
  clear h
  have nl := fun w => Lib.run_eql_slice_nil (P := Tryz.prog) w 22 3 (some ⟨b, off, none⟩) n c 0 0 Tryz.underlying22
  go_enter Tryz.func109, Tryz.ntmps109
  go_wp2_with (at_builtin; refine wpList_append_own _ rfl _ _ 22 rfl w.heap.size 3 i0 (.int .i64 0) 1 8 Tryz.underlying22 hi hz0 hz1 hz2 rfl (by decide) _ 0 [] rfl LIT.out ⟨b, off, none⟩ n c (l.map (Value.int .i64)) rfl LEN.out GET.out ONE.out SZ.out (by omega) (by simp) ?_)
  intro v' w' hown hg _
  have OW := Lib.hid (show OwnI w w' v' l by unfold OwnI; rw [← HL.out]; exact hown)
  have BW := Lib.hid ((alloc_below w (.cells #[] 3)).grown hg (by simp) (fun k hk => by injection hk with hk; exact Nat.le_of_eq hk))
  clear hown hg
  go_wp2
  go_ret
  exact ⟨_, rfl, OW.out, BW.out⟩
theorem one_at (w : World) (x : Int) : IsAt (w.alloc (.cells #[.int .i64 x] 3)) (some ⟨w.heap.size, 0, none⟩) 1 [x] :=
  ⟨rfl, fun _ => ⟨w.heap.size, 0, rfl, by simp, fun j hj => by
    obtain rfl : j = 0 := by omega
    simp [go_sem, iat]⟩⟩
/-- what times answers: a slice of the call's own that holds the list m -/
def TimesIs (w : World) (m : List Int) (e : Ending) (w' : World) : Prop := ∃ A c, e = .returned (.slice A m.length c) ∧ IsAt w' A m.length m ∧ Below w.heap.size w w'
theorem range_at (n j : Nat) (h : j < n) : iat ((List.range n).map Int.ofNat) j = (j : Int) := by
  rw [iat_lt (by simpa using h)]; simp
set_option maxRecDepth 100000 in
set_option maxHeartbeats 4000000 in
/-- days.times -/
theorem times_is (w : World) (A : Option Addr) (n c : Nat) (l : List Int) (alone : Bool) (own : Int) (most : Nat) (m : List Int) (h : IsAt w A n l) (hn : n ≤ 1000000) (h1 : 1 ≤ most) (h2 : most ≤ 100) (hm : timB l alone own most = m) :
    Calls Tryz.prog 63 #[.slice A n c, .bool alone, .int .i64 own, .int .i64 most] w (TimesIs w m) := by
  have HA := Lib.hid h
  have HL := Lib.hid h.1
  have HM := Lib.hid hm
  clear h hm
  by_cases h0 : 0 < n
  · have E := Lib.hid (show l = m by rw [← HM.out]; unfold timB; rw [if_pos (fun e => by rw [e] at HL; have := HL.out; simp at this; omega)])
    go_enter Tryz.func63, Tryz.ntmps63
    go_wp2_with fail
    refine (clone_is w A n c l HA.out hn h0).mono ?_
    rintro e w' ⟨v, rfl, ho, hb⟩
    obtain ⟨A', c', rfl, ha, -, -⟩ := ho.at_
    have HA2 := Lib.hid ha
    have HB := Lib.hid hb
    clear ho ha hb
    go_wp2
    go_ret
    have e := E.out
    subst e
    exact ⟨A', c', rfl, HA2.out, HB.out⟩
  · have e0 : l = [] := List.length_eq_zero_iff.1 (by rw [← HL.out]; omega)
    cases alone
    · have E := Lib.hid (show (List.range most).map Int.ofNat = m by rw [← HM.out, e0]; unfold timB; simp)
      have LM := Lib.hid (show m.length = most by rw [← E.out]; simp)
      have M0 : (0 : Int) ≤ (most : Int) := by omega
      clear HA HL HM e0
      obtain ⟨i0, hi, hz0, hz1, hz2⟩ := info_parts info_int
      go_enter Tryz.func63, Tryz.ntmps63
      go_wp2_with (refine wpList_make_row _ rfl _ _ 22 rfl 3 i0 (.int .i64 0) Tryz.underlying22 hi hz0 hz1 rfl .i64 .i64 most rfl rfl (by rw [hz2]; omega) (by omega) ?_)
      have B1 := alloc_below w (.cells (madeCells #[.int .i64 0] most) 3)
      have Z1 : ∀ j, j < most → (w.alloc (.cells (madeCells #[.int .i64 0] most) 3)).cell? ⟨w.heap.size, j, none⟩ = some (.int .i64 0) := fun j hj => by
        simp [go_sem, madeCells, hj]
        rw [show j % 1 = 0 from Nat.mod_one j]; rfl
      have F1 : ∀ j, (w.alloc (.cells (madeCells #[.int .i64 0] most) 3)).frozen? ⟨w.heap.size, j, none⟩ = false := fun j => by simp [go_sem]
      have S1 : w.heap.size < (w.alloc (.cells (madeCells #[.int .i64 0] most) 3)).heap.size := by simp
      generalize w.alloc (.cells (madeCells #[.int .i64 0] most) 3) = w1 at *
      go_loopw [23, 10] (fun i v wr => ∃ t : Nat, t ≤ most ∧ i = .int .i64 t ∧ (∀ j, j < t → wr.cell? ⟨w.heap.size, j, none⟩ = some (.int .i64 j)) ∧ (∀ j, t ≤ j → j < most → wr.cell? ⟨w.heap.size, j, none⟩ = some (.int .i64 0)) ∧ (∀ j, wr.frozen? ⟨w.heap.size, j, none⟩ = false) ∧ w.heap.size < wr.heap.size ∧ Below w.heap.size w wr) (fun i _ _ => most - (intOf i).toNat)
      case atStart => exact ⟨0, Nat.zero_le _, rfl, fun j hj => absurd hj (by omega), fun j _ hj => Z1 j hj, F1, S1, B1⟩
      case round =>
        obtain ⟨t, ht, rfl, za, zb, zf, sr, br⟩ := hrel
        by_cases hlt : t < most
        · have z0 := zb t (Nat.le_refl _) hlt
          have f0 := zf t
          have ZA := Lib.hid za
          have ZB := Lib.hid zb
          have ZF := Lib.hid zf
          clear za zb zf Z1 F1 S1 B1
          go_wp2
          go_roundw
          case rel =>
            refine ⟨t + 1, by omega, by go_num, fun j hj => ?_, fun j hj hj2 => ?_, fun j => ?_, by simpa using sr, br.setCell (Nat.le_refl _) _⟩
            · by_cases e : j = t
              · subst e; exact World.cell?_setCell_same _ _ _ z0
              · exact (World.cell?_setCell_other _ _ _ _ (by intro g; injection g; omega)).trans (ZA.out j (by omega))
            · exact (World.cell?_setCell_other _ _ _ _ (by intro g; injection g; omega)).trans (ZB.out j (by omega) hj2)
            · exact (World.frozen?_setCell _ _ _ _).trans (ZF.out j)
          case measure => simp [intOf]; omega
        · obtain rfl : most = t := by omega
          have ZA := Lib.hid za
          clear za zb zf Z1 F1 S1 B1
          go_wp2
          go_ret
          refine ⟨some ⟨w.heap.size, 0, none⟩, most, by rw [LM.out]; rfl, ⟨rfl, fun _ => ⟨w.heap.size, 0, rfl, sr, fun j hj => ?_⟩⟩, br⟩
          rw [Nat.zero_add, ZA.out j (by rw [← LM.out]; exact hj), ← E.out, range_at _ _ (by rw [← LM.out]; exact hj)]
    · have E := Lib.hid (show [own] = m by rw [← HM.out, e0]; unfold timB; simp)
      clear HA HL HM e0
      go_enter Tryz.func63, Tryz.ntmps63
      go_wp2
      go_ret
      exact ⟨_, 1, by rw [← E.out]; rfl, by rw [← E.out]; exact one_at w own, alloc_below _ _⟩
end Go.Proofs.YtkkmhjplfpdhcaaGreatDoor.Dd
namespace Go.Proofs.YtkkmhjplfpdhcaaGreatDoor.Dd
open Go.RowKit Cv St Ru

/-- what Times answers of a rule and a start that may be -/
def TimesR (w : World) (r : Ru) (start : Int) (e : Ending) (w' : World) : Prop :=
  ∃ A a B b C c, e = .returned (.tuple #[.slice A (timH r start).length a, .slice B (timM r start).length b, .slice C (timS r start).length c]) ∧ IsAt w' A (timH r start).length (timH r start) ∧ IsAt w' B (timM r start).length (timM r start) ∧ IsAt w' C (timS r start).length (timS r start) ∧ Below w.heap.size w w'
set_option maxRecDepth 100000 in
set_option maxHeartbeats 4000000 in
theorem timesR_no (w : World) (S : RS) (r : Ru) (start : Int) (h : RuAt w S r) (hn : (mayR r && St.may start) = false) :
    Calls Tryz.prog 24 #[S.val r, .int .i64 start] w fun e w' => e = .returned (.tuple #[.slice none 0 0, .slice none 0 0, .slice none 0 0]) ∧ Below w.heap.size w w' := by
  have RA := Lib.hid h
  have HN := Lib.hid hn
  clear h hn
  obtain ⟨a6, n6, c6, a7, n7, c7, a8, n8, c8, a9, n9, c9, a10, n10, c10, a11, n11, c11, a12, n12, c12, a13, n13, c13, a14, n14, c14⟩ := S
  obtain ⟨freq, itv, cnt, til, wkst, ends, mon, week, yday, mday, day, hour, minu, sec, pos⟩ := r
  obtain ⟨m, hm⟩ : ∃ m, mayR ⟨freq, itv, cnt, til, wkst, ends, mon, week, yday, mday, day, hour, minu, sec, pos⟩ = m := ⟨_, rfl⟩
  have HM := Lib.hid hm
  have HN2 := Lib.hid (show (m && St.may start) = false by rw [← hm]; exact HN.out)
  clear hm HN
  show Calls Tryz.prog 24 #[.agg #[.int .i64 freq, .int .i64 itv, .int .i64 cnt, .int .i64 til, .int .i64 wkst, .bool ends, .slice a6 n6 c6, .slice a7 n7 c7, .slice a8 n8 c8, .slice a9 n9 c9, .slice a10 n10 c10, .slice a11 n11 c11, .slice a12 n12 c12, .slice a13 n13 c13, .slice a14 n14 c14], .int .i64 start] w _
  go_enter Tryz.func24, Tryz.ntmps24
  go_upto_region 1 with fail
  have B0 := alloc_below w (.cells #[.int .i64 freq, .int .i64 itv, .int .i64 cnt, .int .i64 til, .int .i64 wkst, .bool ends, .slice a6 n6 c6, .slice a7 n7 c7, .slice a8 n8 c8, .slice a9 n9 c9, .slice a10 n10 c10, .slice a11 n11 c11, .slice a12 n12 c12, .slice a13 n13 c13, .slice a14 n14 c14] 25)
  have XR0 := Box.new w #[.int .i64 freq, .int .i64 itv, .int .i64 cnt, .int .i64 til, .int .i64 wkst, .bool ends, .slice a6 n6 c6, .slice a7 n7 c7, .slice a8 n8 c8, .slice a9 n9 c9, .slice a10 n10 c10, .slice a11 n11 c11, .slice a12 n12 c12, .slice a13 n13 c13, .slice a14 n14 c14] 25
  generalize w.alloc (.cells #[.int .i64 freq, .int .i64 itv, .int .i64 cnt, .int .i64 til, .int .i64 wkst, .bool ends, .slice a6 n6 c6, .slice a7 n7 c7, .slice a8 n8 c8, .slice a9 n9 c9, .slice a10 n10 c10, .slice a11 n11 c11, .slice a12 n12 c12, .slice a13 n13 c13, .slice a14 n14 c14] 25) = w0 at *
  have z0 : w0.cell? ⟨w.heap.size, 0, none⟩ = some (.int .i64 freq) := XR0.at_ 0 _ rfl
  have z1 : w0.cell? ⟨w.heap.size, 1, none⟩ = some (.int .i64 itv) := XR0.at_ 1 _ rfl
  have z2 : w0.cell? ⟨w.heap.size, 2, none⟩ = some (.int .i64 cnt) := XR0.at_ 2 _ rfl
  have z3 : w0.cell? ⟨w.heap.size, 3, none⟩ = some (.int .i64 til) := XR0.at_ 3 _ rfl
  have z4 : w0.cell? ⟨w.heap.size, 4, none⟩ = some (.int .i64 wkst) := XR0.at_ 4 _ rfl
  have z5 : w0.cell? ⟨w.heap.size, 5, none⟩ = some (.bool ends) := XR0.at_ 5 _ rfl
  have z6 : w0.cell? ⟨w.heap.size, 6, none⟩ = some (.slice a6 n6 c6) := XR0.at_ 6 _ rfl
  have z7 : w0.cell? ⟨w.heap.size, 7, none⟩ = some (.slice a7 n7 c7) := XR0.at_ 7 _ rfl
  have z8 : w0.cell? ⟨w.heap.size, 8, none⟩ = some (.slice a8 n8 c8) := XR0.at_ 8 _ rfl
  have z9 : w0.cell? ⟨w.heap.size, 9, none⟩ = some (.slice a9 n9 c9) := XR0.at_ 9 _ rfl
  have z10 : w0.cell? ⟨w.heap.size, 10, none⟩ = some (.slice a10 n10 c10) := XR0.at_ 10 _ rfl
  have z11 : w0.cell? ⟨w.heap.size, 11, none⟩ = some (.slice a11 n11 c11) := XR0.at_ 11 _ rfl
  have z12 : w0.cell? ⟨w.heap.size, 12, none⟩ = some (.slice a12 n12 c12) := XR0.at_ 12 _ rfl
  have z13 : w0.cell? ⟨w.heap.size, 13, none⟩ = some (.slice a13 n13 c13) := XR0.at_ 13 _ rfl
  have z14 : w0.cell? ⟨w.heap.size, 14, none⟩ = some (.slice a14 n14 c14) := XR0.at_ 14 _ rfl
  go_wp2_with fail
  refine (may_r _ ⟨a6, n6, c6, a7, n7, c7, a8, n8, c8, a9, n9, c9, a10, n10, c10, a11, n11, c11, a12, n12, c12, a13, n13, c13, a14, n14, c14⟩ ⟨freq, itv, cnt, til, wkst, ends, mon, week, yday, mday, day, hour, minu, sec, pos⟩ m (RA.out.below B0) HM.out).mono ?_
  rintro e w1 ⟨rfl, b1⟩
  clear z0 z1 z2 z3 z4 z5 z6 z7 z8 z9 z10 z11 z12 z13 z14
  have B1 := B0.trans (b1.mono B0.size)
  cases m
  · go_wp2
    go_ret3
    exact ⟨rfl, B1⟩
  · have MN := Lib.hid (show St.may start = false from by have := HN2.out; simpa using this)
    go_wp2_with fail
    refine (may_no start _ MN.out).mono ?_
    rintro e w2 ⟨rfl, rfl⟩
    go_wp2
    go_ret3
    exact ⟨rfl, B1⟩
set_option maxRecDepth 100000 in
set_option maxHeartbeats 8000000 in
theorem timesR_yes (w : World) (S : RS) (r : Ru) (start : Int) (h : RuAt w S r) (hm : mayR r = true) (hs : St.may start = true) (q11 : S.n11 ≤ 1000000) (q12 : S.n12 ≤ 1000000) (q13 : S.n13 ≤ 1000000) :
    Calls Tryz.prog 24 #[S.val r, .int .i64 start] w (TimesR w r start) := by
  have RA := Lib.hid h
  have HM := Lib.hid hm
  have HS := Lib.hid hs
  have H11 := Lib.hid h.h11
  have H12 := Lib.hid h.h12
  have H13 := Lib.hid h.h13
  have hs1 := of_decide_eq_true hs
  have sl : -9223372036854775808 ≤ start := by omega
  have sh : start ≤ 9223372036854775807 := by omega
  obtain ⟨A1, A2, A3, e1, e2, e3⟩ : ∃ a b c, timH r start = a ∧ timM r start = b ∧ timS r start = c := ⟨_, _, _, rfl, rfl, rfl⟩
  unfold TimesR
  rw [e1, e2, e3]
  have E1 := Lib.hid e1
  have E2 := Lib.hid e2
  have E3 := Lib.hid e3
  clear h hm hs hs1 e1 e2 e3
  obtain ⟨a6, n6, c6, a7, n7, c7, a8, n8, c8, a9, n9, c9, a10, n10, c10, a11, n11, c11, a12, n12, c12, a13, n13, c13, a14, n14, c14⟩ := S
  obtain ⟨freq, itv, cnt, til, wkst, ends, mon, week, yday, mday, day, hour, minu, sec, pos⟩ := r
  replace q11 : n11 ≤ 1000000 := q11
  replace q12 : n12 ≤ 1000000 := q12
  replace q13 : n13 ≤ 1000000 := q13
  have T1 := Lib.hid (show timB hour (decide (freq ≤ 4)) (start % 86400 / 3600) 24 = A1 from E1.out)
  have T2 := Lib.hid (show timB minu (decide (freq ≤ 5)) (start % 86400 % 3600 / 60) 60 = A2 from E2.out)
  have T3 := Lib.hid (show timB sec (decide (freq ≤ 6)) (start % 86400 % 60) 60 = A3 from E3.out)
  clear E1 E2 E3
  show Calls Tryz.prog 24 #[.agg #[.int .i64 freq, .int .i64 itv, .int .i64 cnt, .int .i64 til, .int .i64 wkst, .bool ends, .slice a6 n6 c6, .slice a7 n7 c7, .slice a8 n8 c8, .slice a9 n9 c9, .slice a10 n10 c10, .slice a11 n11 c11, .slice a12 n12 c12, .slice a13 n13 c13, .slice a14 n14 c14], .int .i64 start] w _
  go_enter Tryz.func24, Tryz.ntmps24
  go_upto_region 1 with fail
  have B0 := alloc_below w (.cells #[.int .i64 freq, .int .i64 itv, .int .i64 cnt, .int .i64 til, .int .i64 wkst, .bool ends, .slice a6 n6 c6, .slice a7 n7 c7, .slice a8 n8 c8, .slice a9 n9 c9, .slice a10 n10 c10, .slice a11 n11 c11, .slice a12 n12 c12, .slice a13 n13 c13, .slice a14 n14 c14] 25)
  have XR0 := Box.new w #[.int .i64 freq, .int .i64 itv, .int .i64 cnt, .int .i64 til, .int .i64 wkst, .bool ends, .slice a6 n6 c6, .slice a7 n7 c7, .slice a8 n8 c8, .slice a9 n9 c9, .slice a10 n10 c10, .slice a11 n11 c11, .slice a12 n12 c12, .slice a13 n13 c13, .slice a14 n14 c14] 25
  generalize w.alloc (.cells #[.int .i64 freq, .int .i64 itv, .int .i64 cnt, .int .i64 til, .int .i64 wkst, .bool ends, .slice a6 n6 c6, .slice a7 n7 c7, .slice a8 n8 c8, .slice a9 n9 c9, .slice a10 n10 c10, .slice a11 n11 c11, .slice a12 n12 c12, .slice a13 n13 c13, .slice a14 n14 c14] 25) = w0 at *
  have z0 : w0.cell? ⟨w.heap.size, 0, none⟩ = some (.int .i64 freq) := XR0.at_ 0 _ rfl
  have z1 : w0.cell? ⟨w.heap.size, 1, none⟩ = some (.int .i64 itv) := XR0.at_ 1 _ rfl
  have z2 : w0.cell? ⟨w.heap.size, 2, none⟩ = some (.int .i64 cnt) := XR0.at_ 2 _ rfl
  have z3 : w0.cell? ⟨w.heap.size, 3, none⟩ = some (.int .i64 til) := XR0.at_ 3 _ rfl
  have z4 : w0.cell? ⟨w.heap.size, 4, none⟩ = some (.int .i64 wkst) := XR0.at_ 4 _ rfl
  have z5 : w0.cell? ⟨w.heap.size, 5, none⟩ = some (.bool ends) := XR0.at_ 5 _ rfl
  have z6 : w0.cell? ⟨w.heap.size, 6, none⟩ = some (.slice a6 n6 c6) := XR0.at_ 6 _ rfl
  have z7 : w0.cell? ⟨w.heap.size, 7, none⟩ = some (.slice a7 n7 c7) := XR0.at_ 7 _ rfl
  have z8 : w0.cell? ⟨w.heap.size, 8, none⟩ = some (.slice a8 n8 c8) := XR0.at_ 8 _ rfl
  have z9 : w0.cell? ⟨w.heap.size, 9, none⟩ = some (.slice a9 n9 c9) := XR0.at_ 9 _ rfl
  have z10 : w0.cell? ⟨w.heap.size, 10, none⟩ = some (.slice a10 n10 c10) := XR0.at_ 10 _ rfl
  have z11 : w0.cell? ⟨w.heap.size, 11, none⟩ = some (.slice a11 n11 c11) := XR0.at_ 11 _ rfl
  have z12 : w0.cell? ⟨w.heap.size, 12, none⟩ = some (.slice a12 n12 c12) := XR0.at_ 12 _ rfl
  have z13 : w0.cell? ⟨w.heap.size, 13, none⟩ = some (.slice a13 n13 c13) := XR0.at_ 13 _ rfl
  have z14 : w0.cell? ⟨w.heap.size, 14, none⟩ = some (.slice a14 n14 c14) := XR0.at_ 14 _ rfl
  go_wp2_with fail
  refine (may_r _ ⟨a6, n6, c6, a7, n7, c7, a8, n8, c8, a9, n9, c9, a10, n10, c10, a11, n11, c11, a12, n12, c12, a13, n13, c13, a14, n14, c14⟩ ⟨freq, itv, cnt, til, wkst, ends, mon, week, yday, mday, day, hour, minu, sec, pos⟩ true (RA.out.below B0) HM.out).mono ?_
  rintro e w1 ⟨rfl, b1⟩
  clear z0 z1 z2 z3 z4 z5 z6 z7 z8 z9 z10 z11 z12 z13 z14
  have B1 := B0.trans (b1.mono B0.size)
  have XR1 := XR0.below b1
  clear B0 XR0 b1
  go_wp2_with fail
  refine (may_yes start _ HS.out).mono ?_
  rintro e w2 ⟨rfl, rfl⟩
  go_wp2_with fail
  refine (day_any start _ sl sh).mono ?_
  rintro e w2 ⟨rfl, rfl⟩
  obtain ⟨s, hs⟩ : ∃ s, start % 86400 = s := ⟨_, rfl⟩
  have g1 : 0 ≤ s ∧ s < 86400 := by omega
  rw [hs] at T1 T2 T3 ⊢
  clear sl sh hs
  have d1 : IntKind.i64.wrap (s.tdiv 3600) = s / 3600 := by rw [Int.tdiv_eq_ediv_of_nonneg g1.1]; exact IntWalk.i64_in _ (by omega)
  have d2 : s.tmod 3600 = s % 3600 := Int.tmod_eq_emod_of_nonneg g1.1
  have d3 : IntKind.i64.wrap ((s % 3600).tdiv 60) = s % 3600 / 60 := by rw [Int.tdiv_eq_ediv_of_nonneg (by omega)]; exact IntWalk.i64_in _ (by omega)
  have d4 : s.tmod 60 = s % 60 := Int.tmod_eq_emod_of_nonneg g1.1
  go_upto_region 4 with fail
  refine wp_region_late (fun _ => false) (fun w' => w'.cell? ⟨w.heap.size, 0, none⟩ = some (.int .i64 freq) ∧ w'.cell? ⟨w.heap.size, 11, none⟩ = some (.slice a11 n11 c11) ∧ w'.cell? ⟨w.heap.size, 12, none⟩ = some (.slice a12 n12 c12) ∧ w'.cell? ⟨w.heap.size, 13, none⟩ = some (.slice a13 n13 c13)) (by kernel_rfl) ?_
  have hS : w1.drew.cell? ⟨w.heap.size, 0, none⟩ = some (.int .i64 freq) ∧ w1.drew.cell? ⟨w.heap.size, 11, none⟩ = some (.slice a11 n11 c11) ∧ w1.drew.cell? ⟨w.heap.size, 12, none⟩ = some (.slice a12 n12 c12) ∧ w1.drew.cell? ⟨w.heap.size, 13, none⟩ = some (.slice a13 n13 c13) := ⟨XR1.at_ 0 _ rfl, XR1.at_ 11 _ rfl, XR1.at_ 12 _ rfl, XR1.at_ 13 _ rfl⟩
  refine Late.take 0 (.pointer (some ⟨w.heap.size, 11, none⟩)) rfl (by kernel_rfl) (by kernel_rfl) (by kernel_rfl) (by kernel_rfl) (fun _ _ _ h => h) (.inl ⟨rfl, fun w' hs => ?_⟩) hS ?_
  · go_simp
  refine Late.take 1 (.slice a11 n11 c11) rfl (by kernel_rfl) (by kernel_rfl) (by kernel_rfl) (by kernel_rfl) (fun _ _ _ h => h) (.inl ⟨rfl, fun w' hs => ?_⟩) hS ?_
  · obtain ⟨s0, s1, s2, s3⟩ := hs
    go_simp
  refine Late.take 2 (.pointer (some ⟨w.heap.size, 0, none⟩)) rfl (by kernel_rfl) (by kernel_rfl) (by kernel_rfl) (by kernel_rfl) (fun _ _ _ h => h) (.inl ⟨rfl, fun w' hs => ?_⟩) hS ?_
  · go_simp
  refine Late.take 3 (.int .i64 freq) rfl (by kernel_rfl) (by kernel_rfl) (by kernel_rfl) (by kernel_rfl) (fun _ _ _ h => h) (.inl ⟨rfl, fun w' hs => ?_⟩) hS ?_
  · obtain ⟨s0, s1, s2, s3⟩ := hs
    go_simp
  refine Late.take 4 (.bool (decide (freq ≤ 4))) rfl (by kernel_rfl) (by kernel_rfl) (by kernel_rfl) (by kernel_rfl) (fun _ _ _ h => h) (.inl ⟨rfl, fun w' hs => ?_⟩) hS ?_
  · go_simp
  refine Late.take 5 (.int .i64 s) rfl (by kernel_rfl) (by kernel_rfl) (by kernel_rfl) (by kernel_rfl) (fun _ _ _ h => h) (.inl ⟨rfl, fun w' hs => ?_⟩) hS ?_
  · go_simp
  refine Late.take 6 (.int .i64 (s / 3600)) rfl (by kernel_rfl) (by kernel_rfl) (by kernel_rfl) (by kernel_rfl) (fun _ _ _ h => h) (.inl ⟨rfl, fun w' hs => ?_⟩) hS ?_
  · go_simp
  refine Late.take 8 (.pointer (some ⟨w.heap.size, 12, none⟩)) rfl (by kernel_rfl) (by kernel_rfl) (by kernel_rfl) (by kernel_rfl) (fun _ _ _ h => h) (.inl ⟨rfl, fun w' hs => ?_⟩) hS ?_
  · go_simp
  refine Late.take 9 (.slice a12 n12 c12) rfl (by kernel_rfl) (by kernel_rfl) (by kernel_rfl) (by kernel_rfl) (fun _ _ _ h => h) (.inl ⟨rfl, fun w' hs => ?_⟩) hS ?_
  · obtain ⟨s0, s1, s2, s3⟩ := hs
    go_simp
  refine Late.take 10 (.pointer (some ⟨w.heap.size, 0, none⟩)) rfl (by kernel_rfl) (by kernel_rfl) (by kernel_rfl) (by kernel_rfl) (fun _ _ _ h => h) (.inl ⟨rfl, fun w' hs => ?_⟩) hS ?_
  · go_simp
  refine Late.take 11 (.int .i64 freq) rfl (by kernel_rfl) (by kernel_rfl) (by kernel_rfl) (by kernel_rfl) (fun _ _ _ h => h) (.inl ⟨rfl, fun w' hs => ?_⟩) hS ?_
  · obtain ⟨s0, s1, s2, s3⟩ := hs
    go_simp
  refine Late.take 12 (.bool (decide (freq ≤ 5))) rfl (by kernel_rfl) (by kernel_rfl) (by kernel_rfl) (by kernel_rfl) (fun _ _ _ h => h) (.inl ⟨rfl, fun w' hs => ?_⟩) hS ?_
  · go_simp
  refine Late.take 13 (.int .i64 s) rfl (by kernel_rfl) (by kernel_rfl) (by kernel_rfl) (by kernel_rfl) (fun _ _ _ h => h) (.inl ⟨rfl, fun w' hs => ?_⟩) hS ?_
  · go_simp
  refine Late.take 14 (.int .i64 (s % 3600)) rfl (by kernel_rfl) (by kernel_rfl) (by kernel_rfl) (by kernel_rfl) (fun _ _ _ h => h) (.inl ⟨rfl, fun w' hs => ?_⟩) hS ?_
  · go_simp
  refine Late.take 15 (.int .i64 (s % 3600 / 60)) rfl (by kernel_rfl) (by kernel_rfl) (by kernel_rfl) (by kernel_rfl) (fun _ _ _ h => h) (.inl ⟨rfl, fun w' hs => ?_⟩) hS ?_
  · go_simp
  refine Late.take 17 (.pointer (some ⟨w.heap.size, 13, none⟩)) rfl (by kernel_rfl) (by kernel_rfl) (by kernel_rfl) (by kernel_rfl) (fun _ _ _ h => h) (.inl ⟨rfl, fun w' hs => ?_⟩) hS ?_
  · go_simp
  refine Late.take 18 (.slice a13 n13 c13) rfl (by kernel_rfl) (by kernel_rfl) (by kernel_rfl) (by kernel_rfl) (fun _ _ _ h => h) (.inl ⟨rfl, fun w' hs => ?_⟩) hS ?_
  · obtain ⟨s0, s1, s2, s3⟩ := hs
    go_simp
  refine Late.take 19 (.pointer (some ⟨w.heap.size, 0, none⟩)) rfl (by kernel_rfl) (by kernel_rfl) (by kernel_rfl) (by kernel_rfl) (fun _ _ _ h => h) (.inl ⟨rfl, fun w' hs => ?_⟩) hS ?_
  · go_simp
  refine Late.take 20 (.int .i64 freq) rfl (by kernel_rfl) (by kernel_rfl) (by kernel_rfl) (by kernel_rfl) (fun _ _ _ h => h) (.inl ⟨rfl, fun w' hs => ?_⟩) hS ?_
  · obtain ⟨s0, s1, s2, s3⟩ := hs
    go_simp
  refine Late.take 21 (.bool (decide (freq ≤ 6))) rfl (by kernel_rfl) (by kernel_rfl) (by kernel_rfl) (by kernel_rfl) (fun _ _ _ h => h) (.inl ⟨rfl, fun w' hs => ?_⟩) hS ?_
  · go_simp
  refine Late.take 22 (.int .i64 s) rfl (by kernel_rfl) (by kernel_rfl) (by kernel_rfl) (by kernel_rfl) (fun _ _ _ h => h) (.inl ⟨rfl, fun w' hs => ?_⟩) hS ?_
  · go_simp
  refine Late.take 23 (.int .i64 (s % 60)) rfl (by kernel_rfl) (by kernel_rfl) (by kernel_rfl) (by kernel_rfl) (fun _ _ _ h => h) (.inl ⟨rfl, fun w' hs => ?_⟩) hS ?_
  · go_simp
  have D0 : Below w1.heap.size w1 w1.drew := (Below.refl _ _).drew
  have C0 := B1.trans (D0.mono B1.size)
  refine Late.one 7 rfl (by kernel_rfl) rfl ?_
  go_simp
  refine (times_is _ a11 n11 c11 hour (decide (freq ≤ 4)) (s / 3600) 24 A1 (H11.out.below C0) q11 (by omega) (by omega) T1.out).mono ?_
  rintro e x1 ⟨P1, p1, rfl, o1, b1⟩
  have D1 := D0.trans (b1.mono D0.size)
  have C1 := B1.trans (D1.mono B1.size)
  have hS1 : x1.cell? ⟨w.heap.size, 0, none⟩ = some (.int .i64 freq) ∧ x1.cell? ⟨w.heap.size, 11, none⟩ = some (.slice a11 n11 c11) ∧ x1.cell? ⟨w.heap.size, 12, none⟩ = some (.slice a12 n12 c12) ∧ x1.cell? ⟨w.heap.size, 13, none⟩ = some (.slice a13 n13 c13) := ⟨(XR1.below D1).at_ 0 _ rfl, (XR1.below D1).at_ 11 _ rfl, (XR1.below D1).at_ 12 _ rfl, (XR1.below D1).at_ 13 _ rfl⟩
  refine ⟨hS1, ?_⟩
  refine Late.one 16 rfl (by kernel_rfl) rfl ?_
  go_simp
  refine (times_is _ a12 n12 c12 minu (decide (freq ≤ 5)) (s % 3600 / 60) 60 A2 (H12.out.below C1) q12 (by omega) (by omega) T2.out).mono ?_
  rintro e x2 ⟨P2, p2, rfl, o2, b2⟩
  have D2 := D1.trans (b2.mono D1.size)
  have C2 := B1.trans (D2.mono B1.size)
  have hS2 : x2.cell? ⟨w.heap.size, 0, none⟩ = some (.int .i64 freq) ∧ x2.cell? ⟨w.heap.size, 11, none⟩ = some (.slice a11 n11 c11) ∧ x2.cell? ⟨w.heap.size, 12, none⟩ = some (.slice a12 n12 c12) ∧ x2.cell? ⟨w.heap.size, 13, none⟩ = some (.slice a13 n13 c13) := ⟨(XR1.below D2).at_ 0 _ rfl, (XR1.below D2).at_ 11 _ rfl, (XR1.below D2).at_ 12 _ rfl, (XR1.below D2).at_ 13 _ rfl⟩
  refine ⟨hS2, ?_⟩
  refine Late.one 24 rfl (by kernel_rfl) rfl ?_
  go_simp
  refine (times_is _ a13 n13 c13 sec (decide (freq ≤ 6)) (s % 60) 60 A3 (H13.out.below C2) q13 (by omega) (by omega) T3.out).mono ?_
  rintro e x3 ⟨P3, p3, rfl, o3, b3⟩
  have D3 := D2.trans (b3.mono D2.size)
  have C3 := B1.trans (D3.mono B1.size)
  have hS3 : x3.cell? ⟨w.heap.size, 0, none⟩ = some (.int .i64 freq) ∧ x3.cell? ⟨w.heap.size, 11, none⟩ = some (.slice a11 n11 c11) ∧ x3.cell? ⟨w.heap.size, 12, none⟩ = some (.slice a12 n12 c12) ∧ x3.cell? ⟨w.heap.size, 13, none⟩ = some (.slice a13 n13 c13) := ⟨(XR1.below D3).at_ 0 _ rfl, (XR1.below D3).at_ 11 _ rfl, (XR1.below D3).at_ 12 _ rfl, (XR1.below D3).at_ 13 _ rfl⟩
  refine ⟨hS3, ?_⟩
  refine Late.take 25 (.slice P1 A1.length p1) rfl (by kernel_rfl) (by kernel_rfl) (by kernel_rfl) (by kernel_rfl) (fun _ _ _ h => h) (.inl ⟨rfl, fun w' hs => ?_⟩) hS3 ?_
  · go_simp
  refine Late.take 26 (.slice P2 A2.length p2) rfl (by kernel_rfl) (by kernel_rfl) (by kernel_rfl) (by kernel_rfl) (fun _ _ _ h => h) (.inl ⟨rfl, fun w' hs => ?_⟩) hS3 ?_
  · go_simp
  refine Late.take 27 (.slice P3 A3.length p3) rfl (by kernel_rfl) (by kernel_rfl) (by kernel_rfl) (by kernel_rfl) (fun _ _ _ h => h) (.inl ⟨rfl, fun w' hs => ?_⟩) hS3 ?_
  · go_simp
  refine Late.done (by kernel_rfl) ?_
  have O1 := o1.below (b2.trans (b3.mono b2.size))
  have O2 := o2.below b3
  go_wp2
  go_ret3
  exact ⟨P1, p1, P2, p2, P3, p3, rfl, O1, O2, o3, C3⟩
end Go.Proofs.YtkkmhjplfpdhcaaGreatDoor.Dd
namespace Go.Proofs.YtkkmhjplfpdhcaaGreatDoor.Dd
open Go.RowKit Cv St Ru

theorem rises_is (w : World) (A : Option Addr) (n c : Nat) (l : List Int) (hl : IsAt w A n l) (h1 : n ≤ 9223372036854775807) (p : Bool) (hp : riseB l = p) :
    Calls Tryz.prog 26 #[.slice A n c] w fun e w' => e = .returned (.bool p) ∧ Below w.heap.size w w' := hp ▸ rises_any w A n c l hl h1
/-- what of a list of times the statement asks -/
structure TimOk (l : List Int) (n : Nat) (hi : Int) : Prop where
  rise : riseB l = true
  len : n = l.length
  one : 1 ≤ n
  many : n ≤ 100
  lo : 0 ≤ iat l 0
  top : iat l (n - 1) ≤ hi
theorem timOk_of {l : List Int} {alone : Bool} {own : Int} {most : Nat} (hm : 1 ≤ most) (hm2 : most ≤ 100) (hl : inB l 0 ((most : Int) - 1) true = true) (h0 : 0 ≤ own) (h1 : own < most) :
    TimOk (timB l alone own most) (timB l alone own most).length ((most : Int) - 1) ∧ (l = [] → own ∈ timB l alone own most) := by
  obtain ⟨a, b, c, d, e⟩ := tim_ok (alone := alone) hm hl h0 h1
  refine ⟨⟨a, rfl, b, by omega, ?_, ?_⟩, e⟩
  · rw [iat_lt (by omega)]; exact (d _ (List.getElem_mem _)).1
  · rw [iat_lt (by omega)]; exact (d _ (List.getElem_mem _)).2
theorem lists_of {r : Ru} (h : mayR r = true) : inB r.hour 0 23 true = true ∧ inB r.minu 0 59 true = true ∧ inB r.sec 0 59 true = true := by
  have l := (mayR_of h).2.2.1
  unfold listB at l
  simp only [Bool.and_eq_true] at l
  obtain ⟨⟨⟨⟨⟨⟨⟨⟨_, _⟩, _⟩, _⟩, _⟩, a⟩, b⟩, c⟩, _⟩ := l
  exact ⟨a, b, c⟩
theorem few_len {S : RS} (h : fewB S = true) : S.n11 ≤ 1000000 ∧ S.n12 ≤ 1000000 ∧ S.n13 ≤ 1000000 := by
  have := of_decide_eq_true h
  omega

set_option maxRecDepth 100000 in
set_option maxHeartbeats 8000000 in
theorem times_a (w : World) (T : Tabs w) (S : RS) (r : Ru) (start : Int) (h : RuIn w S r) (l1 : -9223372036854775808 ≤ start) (u1 : start ≤ 9223372036854775807) (hx1 : fewB S = false) :
    Calls Tryz.prog 6 #[S.val r, .int .i64 start] w fun e w' => e = .returned (.bool true) ∧ Below w.heap.size w w' := by
  have TT := Lib.hid T
  have HK := Lib.hid h
  have X1 := Lib.hid hx1
  clear h T hx1
  obtain ⟨ra6, rn6, rc6, ra7, rn7, rc7, ra8, rn8, rc8, ra9, rn9, rc9, ra10, rn10, rc10, ra11, rn11, rc11, ra12, rn12, rc12, ra13, rn13, rc13, ra14, rn14, rc14⟩ := S
  obtain ⟨rfreq, ritv, rcnt, rtil, rwkst, rends, rmon, rweek, ryday, rmday, rday, rhour, rminu, rsec, rpos⟩ := r
  show Calls Tryz.prog 6 #[.agg #[.int .i64 rfreq, .int .i64 ritv, .int .i64 rcnt, .int .i64 rtil, .int .i64 rwkst, .bool rends, .slice ra6 rn6 rc6, .slice ra7 rn7 rc7, .slice ra8 rn8 rc8, .slice ra9 rn9 rc9, .slice ra10 rn10 rc10, .slice ra11 rn11 rc11, .slice ra12 rn12 rc12, .slice ra13 rn13 rc13, .slice ra14 rn14 rc14], .int .i64 start] w _
  go_enter Tryz.func6, Tryz.ntmps6
  go_upto_region 1 with fail
  have B0 := alloc_below w (.cells #[.int .i64 rfreq, .int .i64 ritv, .int .i64 rcnt, .int .i64 rtil, .int .i64 rwkst, .bool rends, .slice ra6 rn6 rc6, .slice ra7 rn7 rc7, .slice ra8 rn8 rc8, .slice ra9 rn9 rc9, .slice ra10 rn10 rc10, .slice ra11 rn11 rc11, .slice ra12 rn12 rc12, .slice ra13 rn13 rc13, .slice ra14 rn14 rc14] 25)
  have Xr0 := Box.new w #[.int .i64 rfreq, .int .i64 ritv, .int .i64 rcnt, .int .i64 rtil, .int .i64 rwkst, .bool rends, .slice ra6 rn6 rc6, .slice ra7 rn7 rc7, .slice ra8 rn8 rc8, .slice ra9 rn9 rc9, .slice ra10 rn10 rc10, .slice ra11 rn11 rc11, .slice ra12 rn12 rc12, .slice ra13 rn13 rc13, .slice ra14 rn14 rc14] 25
  generalize w.alloc (.cells #[.int .i64 rfreq, .int .i64 ritv, .int .i64 rcnt, .int .i64 rtil, .int .i64 rwkst, .bool rends, .slice ra6 rn6 rc6, .slice ra7 rn7 rc7, .slice ra8 rn8 rc8, .slice ra9 rn9 rc9, .slice ra10 rn10 rc10, .slice ra11 rn11 rc11, .slice ra12 rn12 rc12, .slice ra13 rn13 rc13, .slice ra14 rn14 rc14] 25) = w0 at *
  go_wp2_with fail
  refine (first_is _ (TT.out.on B0)).mono ?_
  rintro e w1 ⟨rfl, b1⟩
  have B1 := B0.trans (b1.mono B0.size)
  have Xr1 := Xr0.below b1
  clear B0 Xr0
  clear b1
  have rz0 : w1.cell? ⟨w.heap.size, 0, none⟩ = some (.int .i64 rfreq) := Xr1.at_ 0 _ rfl
  have rz1 : w1.cell? ⟨w.heap.size, 1, none⟩ = some (.int .i64 ritv) := Xr1.at_ 1 _ rfl
  have rz2 : w1.cell? ⟨w.heap.size, 2, none⟩ = some (.int .i64 rcnt) := Xr1.at_ 2 _ rfl
  have rz3 : w1.cell? ⟨w.heap.size, 3, none⟩ = some (.int .i64 rtil) := Xr1.at_ 3 _ rfl
  have rz4 : w1.cell? ⟨w.heap.size, 4, none⟩ = some (.int .i64 rwkst) := Xr1.at_ 4 _ rfl
  have rz5 : w1.cell? ⟨w.heap.size, 5, none⟩ = some (.bool rends) := Xr1.at_ 5 _ rfl
  have rz6 : w1.cell? ⟨w.heap.size, 6, none⟩ = some (.slice ra6 rn6 rc6) := Xr1.at_ 6 _ rfl
  have rz7 : w1.cell? ⟨w.heap.size, 7, none⟩ = some (.slice ra7 rn7 rc7) := Xr1.at_ 7 _ rfl
  have rz8 : w1.cell? ⟨w.heap.size, 8, none⟩ = some (.slice ra8 rn8 rc8) := Xr1.at_ 8 _ rfl
  have rz9 : w1.cell? ⟨w.heap.size, 9, none⟩ = some (.slice ra9 rn9 rc9) := Xr1.at_ 9 _ rfl
  have rz10 : w1.cell? ⟨w.heap.size, 10, none⟩ = some (.slice ra10 rn10 rc10) := Xr1.at_ 10 _ rfl
  have rz11 : w1.cell? ⟨w.heap.size, 11, none⟩ = some (.slice ra11 rn11 rc11) := Xr1.at_ 11 _ rfl
  have rz12 : w1.cell? ⟨w.heap.size, 12, none⟩ = some (.slice ra12 rn12 rc12) := Xr1.at_ 12 _ rfl
  have rz13 : w1.cell? ⟨w.heap.size, 13, none⟩ = some (.slice ra13 rn13 rc13) := Xr1.at_ 13 _ rfl
  have rz14 : w1.cell? ⟨w.heap.size, 14, none⟩ = some (.slice ra14 rn14 rc14) := Xr1.at_ 14 _ rfl
  go_wp2_with fail
  refine (few_is _ ⟨ra6, rn6, rc6, ra7, rn7, rc7, ra8, rn8, rc8, ra9, rn9, rc9, ra10, rn10, rc10, ra11, rn11, rc11, ra12, rn12, rc12, ra13, rn13, rc13, ra14, rn14, rc14⟩ ⟨rfreq, ritv, rcnt, rtil, rwkst, rends, rmon, rweek, ryday, rmday, rday, rhour, rminu, rsec, rpos⟩ false HK.out.k6 HK.out.k7 HK.out.k8 HK.out.k9 HK.out.k10 HK.out.k11 HK.out.k12 HK.out.k13 HK.out.k14 X1.out).mono ?_
  rintro e w2 ⟨rfl, b2⟩
  clear rz0 rz1 rz2 rz3 rz4 rz5 rz6 rz7 rz8 rz9 rz10 rz11 rz12 rz13 rz14
  have B2 := B1.trans (b2.mono B1.size)
  have Xr2 := Xr1.below b2
  clear B1 Xr1
  clear b2
  go_wp2_with fail
  refine (first_is _ (TT.out.on B2)).mono ?_
  rintro e w3 ⟨rfl, b3⟩
  have B3 := B2.trans (b3.mono B2.size)
  have Xr3 := Xr2.below b3
  clear B2 Xr2
  clear b3
  go_wp2
  go_ret
  exact ⟨rfl, B3⟩
set_option maxRecDepth 100000 in
set_option maxHeartbeats 8000000 in
theorem times_b (w : World) (T : Tabs w) (S : RS) (r : Ru) (start : Int) (h : RuIn w S r) (l1 : -9223372036854775808 ≤ start) (u1 : start ≤ 9223372036854775807) (hx1 : fewB S = true) (hn : (mayR r && St.may start) = false) :
    Calls Tryz.prog 6 #[S.val r, .int .i64 start] w fun e w' => e = .returned (.bool true) ∧ Below w.heap.size w w' := by
  have TT := Lib.hid T
  have HK := Lib.hid h
  have X1 := Lib.hid hx1
  have RA0 := Lib.hid (h.few hx1)
  have HN := Lib.hid hn
  clear hn
  obtain ⟨m, hm⟩ : ∃ m, mayR r = m := ⟨_, rfl⟩
  have HM := Lib.hid hm
  have HN2 := Lib.hid (show (m && St.may start) = false by rw [← hm]; exact HN.out)
  clear hm
  clear h T hx1
  obtain ⟨ra6, rn6, rc6, ra7, rn7, rc7, ra8, rn8, rc8, ra9, rn9, rc9, ra10, rn10, rc10, ra11, rn11, rc11, ra12, rn12, rc12, ra13, rn13, rc13, ra14, rn14, rc14⟩ := S
  obtain ⟨rfreq, ritv, rcnt, rtil, rwkst, rends, rmon, rweek, ryday, rmday, rday, rhour, rminu, rsec, rpos⟩ := r
  show Calls Tryz.prog 6 #[.agg #[.int .i64 rfreq, .int .i64 ritv, .int .i64 rcnt, .int .i64 rtil, .int .i64 rwkst, .bool rends, .slice ra6 rn6 rc6, .slice ra7 rn7 rc7, .slice ra8 rn8 rc8, .slice ra9 rn9 rc9, .slice ra10 rn10 rc10, .slice ra11 rn11 rc11, .slice ra12 rn12 rc12, .slice ra13 rn13 rc13, .slice ra14 rn14 rc14], .int .i64 start] w _
  go_enter Tryz.func6, Tryz.ntmps6
  go_upto_region 1 with fail
  have B0 := alloc_below w (.cells #[.int .i64 rfreq, .int .i64 ritv, .int .i64 rcnt, .int .i64 rtil, .int .i64 rwkst, .bool rends, .slice ra6 rn6 rc6, .slice ra7 rn7 rc7, .slice ra8 rn8 rc8, .slice ra9 rn9 rc9, .slice ra10 rn10 rc10, .slice ra11 rn11 rc11, .slice ra12 rn12 rc12, .slice ra13 rn13 rc13, .slice ra14 rn14 rc14] 25)
  have Xr0 := Box.new w #[.int .i64 rfreq, .int .i64 ritv, .int .i64 rcnt, .int .i64 rtil, .int .i64 rwkst, .bool rends, .slice ra6 rn6 rc6, .slice ra7 rn7 rc7, .slice ra8 rn8 rc8, .slice ra9 rn9 rc9, .slice ra10 rn10 rc10, .slice ra11 rn11 rc11, .slice ra12 rn12 rc12, .slice ra13 rn13 rc13, .slice ra14 rn14 rc14] 25
  generalize w.alloc (.cells #[.int .i64 rfreq, .int .i64 ritv, .int .i64 rcnt, .int .i64 rtil, .int .i64 rwkst, .bool rends, .slice ra6 rn6 rc6, .slice ra7 rn7 rc7, .slice ra8 rn8 rc8, .slice ra9 rn9 rc9, .slice ra10 rn10 rc10, .slice ra11 rn11 rc11, .slice ra12 rn12 rc12, .slice ra13 rn13 rc13, .slice ra14 rn14 rc14] 25) = w0 at *
  go_wp2_with fail
  refine (first_is _ (TT.out.on B0)).mono ?_
  rintro e w1 ⟨rfl, b1⟩
  have B1 := B0.trans (b1.mono B0.size)
  have Xr1 := Xr0.below b1
  clear B0 Xr0
  clear b1
  have Rr1 := RA0.out.below B1
  clear RA0
  have rz0 : w1.cell? ⟨w.heap.size, 0, none⟩ = some (.int .i64 rfreq) := Xr1.at_ 0 _ rfl
  have rz1 : w1.cell? ⟨w.heap.size, 1, none⟩ = some (.int .i64 ritv) := Xr1.at_ 1 _ rfl
  have rz2 : w1.cell? ⟨w.heap.size, 2, none⟩ = some (.int .i64 rcnt) := Xr1.at_ 2 _ rfl
  have rz3 : w1.cell? ⟨w.heap.size, 3, none⟩ = some (.int .i64 rtil) := Xr1.at_ 3 _ rfl
  have rz4 : w1.cell? ⟨w.heap.size, 4, none⟩ = some (.int .i64 rwkst) := Xr1.at_ 4 _ rfl
  have rz5 : w1.cell? ⟨w.heap.size, 5, none⟩ = some (.bool rends) := Xr1.at_ 5 _ rfl
  have rz6 : w1.cell? ⟨w.heap.size, 6, none⟩ = some (.slice ra6 rn6 rc6) := Xr1.at_ 6 _ rfl
  have rz7 : w1.cell? ⟨w.heap.size, 7, none⟩ = some (.slice ra7 rn7 rc7) := Xr1.at_ 7 _ rfl
  have rz8 : w1.cell? ⟨w.heap.size, 8, none⟩ = some (.slice ra8 rn8 rc8) := Xr1.at_ 8 _ rfl
  have rz9 : w1.cell? ⟨w.heap.size, 9, none⟩ = some (.slice ra9 rn9 rc9) := Xr1.at_ 9 _ rfl
  have rz10 : w1.cell? ⟨w.heap.size, 10, none⟩ = some (.slice ra10 rn10 rc10) := Xr1.at_ 10 _ rfl
  have rz11 : w1.cell? ⟨w.heap.size, 11, none⟩ = some (.slice ra11 rn11 rc11) := Xr1.at_ 11 _ rfl
  have rz12 : w1.cell? ⟨w.heap.size, 12, none⟩ = some (.slice ra12 rn12 rc12) := Xr1.at_ 12 _ rfl
  have rz13 : w1.cell? ⟨w.heap.size, 13, none⟩ = some (.slice ra13 rn13 rc13) := Xr1.at_ 13 _ rfl
  have rz14 : w1.cell? ⟨w.heap.size, 14, none⟩ = some (.slice ra14 rn14 rc14) := Xr1.at_ 14 _ rfl
  go_wp2_with fail
  refine (few_is _ ⟨ra6, rn6, rc6, ra7, rn7, rc7, ra8, rn8, rc8, ra9, rn9, rc9, ra10, rn10, rc10, ra11, rn11, rc11, ra12, rn12, rc12, ra13, rn13, rc13, ra14, rn14, rc14⟩ ⟨rfreq, ritv, rcnt, rtil, rwkst, rends, rmon, rweek, ryday, rmday, rday, rhour, rminu, rsec, rpos⟩ true HK.out.k6 HK.out.k7 HK.out.k8 HK.out.k9 HK.out.k10 HK.out.k11 HK.out.k12 HK.out.k13 HK.out.k14 X1.out).mono ?_
  rintro e w2 ⟨rfl, b2⟩
  clear rz0 rz1 rz2 rz3 rz4 rz5 rz6 rz7 rz8 rz9 rz10 rz11 rz12 rz13 rz14
  have B2 := B1.trans (b2.mono B1.size)
  have Xr2 := Xr1.below b2
  have Rr2 := Rr1.below b2
  clear B1 Xr1 Rr1
  clear b2
  have rz0 : w2.cell? ⟨w.heap.size, 0, none⟩ = some (.int .i64 rfreq) := Xr2.at_ 0 _ rfl
  have rz1 : w2.cell? ⟨w.heap.size, 1, none⟩ = some (.int .i64 ritv) := Xr2.at_ 1 _ rfl
  have rz2 : w2.cell? ⟨w.heap.size, 2, none⟩ = some (.int .i64 rcnt) := Xr2.at_ 2 _ rfl
  have rz3 : w2.cell? ⟨w.heap.size, 3, none⟩ = some (.int .i64 rtil) := Xr2.at_ 3 _ rfl
  have rz4 : w2.cell? ⟨w.heap.size, 4, none⟩ = some (.int .i64 rwkst) := Xr2.at_ 4 _ rfl
  have rz5 : w2.cell? ⟨w.heap.size, 5, none⟩ = some (.bool rends) := Xr2.at_ 5 _ rfl
  have rz6 : w2.cell? ⟨w.heap.size, 6, none⟩ = some (.slice ra6 rn6 rc6) := Xr2.at_ 6 _ rfl
  have rz7 : w2.cell? ⟨w.heap.size, 7, none⟩ = some (.slice ra7 rn7 rc7) := Xr2.at_ 7 _ rfl
  have rz8 : w2.cell? ⟨w.heap.size, 8, none⟩ = some (.slice ra8 rn8 rc8) := Xr2.at_ 8 _ rfl
  have rz9 : w2.cell? ⟨w.heap.size, 9, none⟩ = some (.slice ra9 rn9 rc9) := Xr2.at_ 9 _ rfl
  have rz10 : w2.cell? ⟨w.heap.size, 10, none⟩ = some (.slice ra10 rn10 rc10) := Xr2.at_ 10 _ rfl
  have rz11 : w2.cell? ⟨w.heap.size, 11, none⟩ = some (.slice ra11 rn11 rc11) := Xr2.at_ 11 _ rfl
  have rz12 : w2.cell? ⟨w.heap.size, 12, none⟩ = some (.slice ra12 rn12 rc12) := Xr2.at_ 12 _ rfl
  have rz13 : w2.cell? ⟨w.heap.size, 13, none⟩ = some (.slice ra13 rn13 rc13) := Xr2.at_ 13 _ rfl
  have rz14 : w2.cell? ⟨w.heap.size, 14, none⟩ = some (.slice ra14 rn14 rc14) := Xr2.at_ 14 _ rfl
  go_wp2_with fail
  refine (timesR_no _ ⟨ra6, rn6, rc6, ra7, rn7, rc7, ra8, rn8, rc8, ra9, rn9, rc9, ra10, rn10, rc10, ra11, rn11, rc11, ra12, rn12, rc12, ra13, rn13, rc13, ra14, rn14, rc14⟩ ⟨rfreq, ritv, rcnt, rtil, rwkst, rends, rmon, rweek, ryday, rmday, rday, rhour, rminu, rsec, rpos⟩ start Rr2 HN.out).mono ?_
  rintro e w3 ⟨rfl, b3⟩
  clear rz0 rz1 rz2 rz3 rz4 rz5 rz6 rz7 rz8 rz9 rz10 rz11 rz12 rz13 rz14
  have B3 := B2.trans (b3.mono B2.size)
  have Xr3 := Xr2.below b3
  have Rr3 := Rr2.below b3
  clear B2 Xr2 Rr2
  clear b3
  have rz0 : w3.cell? ⟨w.heap.size, 0, none⟩ = some (.int .i64 rfreq) := Xr3.at_ 0 _ rfl
  have rz1 : w3.cell? ⟨w.heap.size, 1, none⟩ = some (.int .i64 ritv) := Xr3.at_ 1 _ rfl
  have rz2 : w3.cell? ⟨w.heap.size, 2, none⟩ = some (.int .i64 rcnt) := Xr3.at_ 2 _ rfl
  have rz3 : w3.cell? ⟨w.heap.size, 3, none⟩ = some (.int .i64 rtil) := Xr3.at_ 3 _ rfl
  have rz4 : w3.cell? ⟨w.heap.size, 4, none⟩ = some (.int .i64 rwkst) := Xr3.at_ 4 _ rfl
  have rz5 : w3.cell? ⟨w.heap.size, 5, none⟩ = some (.bool rends) := Xr3.at_ 5 _ rfl
  have rz6 : w3.cell? ⟨w.heap.size, 6, none⟩ = some (.slice ra6 rn6 rc6) := Xr3.at_ 6 _ rfl
  have rz7 : w3.cell? ⟨w.heap.size, 7, none⟩ = some (.slice ra7 rn7 rc7) := Xr3.at_ 7 _ rfl
  have rz8 : w3.cell? ⟨w.heap.size, 8, none⟩ = some (.slice ra8 rn8 rc8) := Xr3.at_ 8 _ rfl
  have rz9 : w3.cell? ⟨w.heap.size, 9, none⟩ = some (.slice ra9 rn9 rc9) := Xr3.at_ 9 _ rfl
  have rz10 : w3.cell? ⟨w.heap.size, 10, none⟩ = some (.slice ra10 rn10 rc10) := Xr3.at_ 10 _ rfl
  have rz11 : w3.cell? ⟨w.heap.size, 11, none⟩ = some (.slice ra11 rn11 rc11) := Xr3.at_ 11 _ rfl
  have rz12 : w3.cell? ⟨w.heap.size, 12, none⟩ = some (.slice ra12 rn12 rc12) := Xr3.at_ 12 _ rfl
  have rz13 : w3.cell? ⟨w.heap.size, 13, none⟩ = some (.slice ra13 rn13 rc13) := Xr3.at_ 13 _ rfl
  have rz14 : w3.cell? ⟨w.heap.size, 14, none⟩ = some (.slice ra14 rn14 rc14) := Xr3.at_ 14 _ rfl
  go_wp2_with fail
  refine (may_r _ ⟨ra6, rn6, rc6, ra7, rn7, rc7, ra8, rn8, rc8, ra9, rn9, rc9, ra10, rn10, rc10, ra11, rn11, rc11, ra12, rn12, rc12, ra13, rn13, rc13, ra14, rn14, rc14⟩ ⟨rfreq, ritv, rcnt, rtil, rwkst, rends, rmon, rweek, ryday, rmday, rday, rhour, rminu, rsec, rpos⟩ m Rr3 HM.out).mono ?_
  rintro e w4 ⟨rfl, b4⟩
  clear rz0 rz1 rz2 rz3 rz4 rz5 rz6 rz7 rz8 rz9 rz10 rz11 rz12 rz13 rz14
  have B4 := B3.trans (b4.mono B3.size)
  have Xr4 := Xr3.below b4
  have Rr4 := Rr3.below b4
  clear B3 Xr3 Rr3
  clear b4
  cases m
  · go_wp2_with fail
    refine (first_is _ (TT.out.on B4)).mono ?_
    rintro e w5 ⟨rfl, b5⟩
    have B5 := B4.trans (b5.mono B4.size)
    have Xr5 := Xr4.below b5
    have Rr5 := Rr4.below b5
    clear B4 Xr4 Rr4
    clear b5
    go_wp2
    go_ret
    exact ⟨rfl, B5⟩
  · have MN := Lib.hid (show St.may start = false from by have := HN2.out; simpa using this)
    go_wp2_with fail
    refine (may_no start _ MN.out).mono ?_
    rintro e w' ⟨rfl, rfl⟩
    go_wp2_with fail
    refine (first_is _ (TT.out.on B4)).mono ?_
    rintro e w5 ⟨rfl, b5⟩
    have B5 := B4.trans (b5.mono B4.size)
    have Xr5 := Xr4.below b5
    have Rr5 := Rr4.below b5
    clear B4 Xr4 Rr4
    clear b5
    go_wp2
    go_ret
    exact ⟨rfl, B5⟩
set_option maxRecDepth 100000 in
set_option maxHeartbeats 8000000 in
theorem times_c (w : World) (T : Tabs w) (S : RS) (r : Ru) (start : Int) (h : RuIn w S r) (l1 : -9223372036854775808 ≤ start) (u1 : start ≤ 9223372036854775807) (hx1 : fewB S = true) (hm : mayR r = true) (hs : St.may start = true) :
    Calls Tryz.prog 6 #[S.val r, .int .i64 start] w fun e w' => e = .returned (.bool true) ∧ Below w.heap.size w w' := by
  have TT := Lib.hid T
  have HK := Lib.hid h
  have X1 := Lib.hid hx1
  have RA0 := Lib.hid (h.few hx1)
  have HM := Lib.hid hm
  have HS := Lib.hid hs
  obtain ⟨q11, q12, q13⟩ := few_len hx1
  obtain ⟨i1, i2, i3⟩ := lists_of hm
  obtain ⟨t1, o1⟩ := timOk_of (alone := decide (r.freq ≤ 4)) (own := start % 86400 / 3600) (most := 24) (by decide) (by decide) i1 (by omega) (by omega)
  obtain ⟨t2, o2⟩ := timOk_of (alone := decide (r.freq ≤ 5)) (own := start % 86400 % 3600 / 60) (most := 60) (by decide) (by decide) i2 (by omega) (by omega)
  obtain ⟨t3, o3⟩ := timOk_of (alone := decide (r.freq ≤ 6)) (own := start % 86400 % 60) (most := 60) (by decide) (by decide) i3 (by omega) (by omega)
  have O1 := Lib.hid (show r.hour = [] → start % 86400 / 3600 ∈ timH r start from o1)
  have O2 := Lib.hid (show r.minu = [] → start % 86400 / 60 % 60 ∈ timM r start from fun e => by rw [show start % 86400 / 60 % 60 = start % 86400 % 3600 / 60 from by omega]; exact o2 e)
  have O3 := Lib.hid (show r.sec = [] → start % 86400 % 60 ∈ timS r start from o3)
  have Q1 := Lib.hid (show TimOk (timH r start) (timH r start).length 23 from t1)
  have Q2 := Lib.hid (show TimOk (timM r start) (timM r start).length 59 from t2)
  have Q3 := Lib.hid (show TimOk (timS r start) (timS r start).length 59 from t3)
  have E11 := Lib.hid (h.h11.1)
  have E12 := Lib.hid (h.h12.1)
  have E13 := Lib.hid (h.h13.1)
  clear hm hs i1 i2 i3 t1 o1 t2 o2 t3 o3
  clear h T hx1
  obtain ⟨ra6, rn6, rc6, ra7, rn7, rc7, ra8, rn8, rc8, ra9, rn9, rc9, ra10, rn10, rc10, ra11, rn11, rc11, ra12, rn12, rc12, ra13, rn13, rc13, ra14, rn14, rc14⟩ := S
  obtain ⟨rfreq, ritv, rcnt, rtil, rwkst, rends, rmon, rweek, ryday, rmday, rday, rhour, rminu, rsec, rpos⟩ := r
  show Calls Tryz.prog 6 #[.agg #[.int .i64 rfreq, .int .i64 ritv, .int .i64 rcnt, .int .i64 rtil, .int .i64 rwkst, .bool rends, .slice ra6 rn6 rc6, .slice ra7 rn7 rc7, .slice ra8 rn8 rc8, .slice ra9 rn9 rc9, .slice ra10 rn10 rc10, .slice ra11 rn11 rc11, .slice ra12 rn12 rc12, .slice ra13 rn13 rc13, .slice ra14 rn14 rc14], .int .i64 start] w _
  go_enter Tryz.func6, Tryz.ntmps6
  go_upto_region 1 with fail
  have B0 := alloc_below w (.cells #[.int .i64 rfreq, .int .i64 ritv, .int .i64 rcnt, .int .i64 rtil, .int .i64 rwkst, .bool rends, .slice ra6 rn6 rc6, .slice ra7 rn7 rc7, .slice ra8 rn8 rc8, .slice ra9 rn9 rc9, .slice ra10 rn10 rc10, .slice ra11 rn11 rc11, .slice ra12 rn12 rc12, .slice ra13 rn13 rc13, .slice ra14 rn14 rc14] 25)
  have Xr0 := Box.new w #[.int .i64 rfreq, .int .i64 ritv, .int .i64 rcnt, .int .i64 rtil, .int .i64 rwkst, .bool rends, .slice ra6 rn6 rc6, .slice ra7 rn7 rc7, .slice ra8 rn8 rc8, .slice ra9 rn9 rc9, .slice ra10 rn10 rc10, .slice ra11 rn11 rc11, .slice ra12 rn12 rc12, .slice ra13 rn13 rc13, .slice ra14 rn14 rc14] 25
  generalize w.alloc (.cells #[.int .i64 rfreq, .int .i64 ritv, .int .i64 rcnt, .int .i64 rtil, .int .i64 rwkst, .bool rends, .slice ra6 rn6 rc6, .slice ra7 rn7 rc7, .slice ra8 rn8 rc8, .slice ra9 rn9 rc9, .slice ra10 rn10 rc10, .slice ra11 rn11 rc11, .slice ra12 rn12 rc12, .slice ra13 rn13 rc13, .slice ra14 rn14 rc14] 25) = w0 at *
  go_wp2_with fail
  refine (first_is _ (TT.out.on B0)).mono ?_
  rintro e w1 ⟨rfl, b1⟩
  have B1 := B0.trans (b1.mono B0.size)
  have Xr1 := Xr0.below b1
  clear B0 Xr0
  clear b1
  have Rr1 := RA0.out.below B1
  clear RA0
  have rz0 : w1.cell? ⟨w.heap.size, 0, none⟩ = some (.int .i64 rfreq) := Xr1.at_ 0 _ rfl
  have rz1 : w1.cell? ⟨w.heap.size, 1, none⟩ = some (.int .i64 ritv) := Xr1.at_ 1 _ rfl
  have rz2 : w1.cell? ⟨w.heap.size, 2, none⟩ = some (.int .i64 rcnt) := Xr1.at_ 2 _ rfl
  have rz3 : w1.cell? ⟨w.heap.size, 3, none⟩ = some (.int .i64 rtil) := Xr1.at_ 3 _ rfl
  have rz4 : w1.cell? ⟨w.heap.size, 4, none⟩ = some (.int .i64 rwkst) := Xr1.at_ 4 _ rfl
  have rz5 : w1.cell? ⟨w.heap.size, 5, none⟩ = some (.bool rends) := Xr1.at_ 5 _ rfl
  have rz6 : w1.cell? ⟨w.heap.size, 6, none⟩ = some (.slice ra6 rn6 rc6) := Xr1.at_ 6 _ rfl
  have rz7 : w1.cell? ⟨w.heap.size, 7, none⟩ = some (.slice ra7 rn7 rc7) := Xr1.at_ 7 _ rfl
  have rz8 : w1.cell? ⟨w.heap.size, 8, none⟩ = some (.slice ra8 rn8 rc8) := Xr1.at_ 8 _ rfl
  have rz9 : w1.cell? ⟨w.heap.size, 9, none⟩ = some (.slice ra9 rn9 rc9) := Xr1.at_ 9 _ rfl
  have rz10 : w1.cell? ⟨w.heap.size, 10, none⟩ = some (.slice ra10 rn10 rc10) := Xr1.at_ 10 _ rfl
  have rz11 : w1.cell? ⟨w.heap.size, 11, none⟩ = some (.slice ra11 rn11 rc11) := Xr1.at_ 11 _ rfl
  have rz12 : w1.cell? ⟨w.heap.size, 12, none⟩ = some (.slice ra12 rn12 rc12) := Xr1.at_ 12 _ rfl
  have rz13 : w1.cell? ⟨w.heap.size, 13, none⟩ = some (.slice ra13 rn13 rc13) := Xr1.at_ 13 _ rfl
  have rz14 : w1.cell? ⟨w.heap.size, 14, none⟩ = some (.slice ra14 rn14 rc14) := Xr1.at_ 14 _ rfl
  go_wp2_with fail
  refine (few_is _ ⟨ra6, rn6, rc6, ra7, rn7, rc7, ra8, rn8, rc8, ra9, rn9, rc9, ra10, rn10, rc10, ra11, rn11, rc11, ra12, rn12, rc12, ra13, rn13, rc13, ra14, rn14, rc14⟩ ⟨rfreq, ritv, rcnt, rtil, rwkst, rends, rmon, rweek, ryday, rmday, rday, rhour, rminu, rsec, rpos⟩ true HK.out.k6 HK.out.k7 HK.out.k8 HK.out.k9 HK.out.k10 HK.out.k11 HK.out.k12 HK.out.k13 HK.out.k14 X1.out).mono ?_
  rintro e w2 ⟨rfl, b2⟩
  clear rz0 rz1 rz2 rz3 rz4 rz5 rz6 rz7 rz8 rz9 rz10 rz11 rz12 rz13 rz14
  have B2 := B1.trans (b2.mono B1.size)
  have Xr2 := Xr1.below b2
  have Rr2 := Rr1.below b2
  clear B1 Xr1 Rr1
  clear b2
  replace q11 : rn11 ≤ 1000000 := q11
  replace q12 : rn12 ≤ 1000000 := q12
  replace q13 : rn13 ≤ 1000000 := q13
  have rz0 : w2.cell? ⟨w.heap.size, 0, none⟩ = some (.int .i64 rfreq) := Xr2.at_ 0 _ rfl
  have rz1 : w2.cell? ⟨w.heap.size, 1, none⟩ = some (.int .i64 ritv) := Xr2.at_ 1 _ rfl
  have rz2 : w2.cell? ⟨w.heap.size, 2, none⟩ = some (.int .i64 rcnt) := Xr2.at_ 2 _ rfl
  have rz3 : w2.cell? ⟨w.heap.size, 3, none⟩ = some (.int .i64 rtil) := Xr2.at_ 3 _ rfl
  have rz4 : w2.cell? ⟨w.heap.size, 4, none⟩ = some (.int .i64 rwkst) := Xr2.at_ 4 _ rfl
  have rz5 : w2.cell? ⟨w.heap.size, 5, none⟩ = some (.bool rends) := Xr2.at_ 5 _ rfl
  have rz6 : w2.cell? ⟨w.heap.size, 6, none⟩ = some (.slice ra6 rn6 rc6) := Xr2.at_ 6 _ rfl
  have rz7 : w2.cell? ⟨w.heap.size, 7, none⟩ = some (.slice ra7 rn7 rc7) := Xr2.at_ 7 _ rfl
  have rz8 : w2.cell? ⟨w.heap.size, 8, none⟩ = some (.slice ra8 rn8 rc8) := Xr2.at_ 8 _ rfl
  have rz9 : w2.cell? ⟨w.heap.size, 9, none⟩ = some (.slice ra9 rn9 rc9) := Xr2.at_ 9 _ rfl
  have rz10 : w2.cell? ⟨w.heap.size, 10, none⟩ = some (.slice ra10 rn10 rc10) := Xr2.at_ 10 _ rfl
  have rz11 : w2.cell? ⟨w.heap.size, 11, none⟩ = some (.slice ra11 rn11 rc11) := Xr2.at_ 11 _ rfl
  have rz12 : w2.cell? ⟨w.heap.size, 12, none⟩ = some (.slice ra12 rn12 rc12) := Xr2.at_ 12 _ rfl
  have rz13 : w2.cell? ⟨w.heap.size, 13, none⟩ = some (.slice ra13 rn13 rc13) := Xr2.at_ 13 _ rfl
  have rz14 : w2.cell? ⟨w.heap.size, 14, none⟩ = some (.slice ra14 rn14 rc14) := Xr2.at_ 14 _ rfl
  go_wp2_with fail
  refine (timesR_yes _ ⟨ra6, rn6, rc6, ra7, rn7, rc7, ra8, rn8, rc8, ra9, rn9, rc9, ra10, rn10, rc10, ra11, rn11, rc11, ra12, rn12, rc12, ra13, rn13, rc13, ra14, rn14, rc14⟩ ⟨rfreq, ritv, rcnt, rtil, rwkst, rends, rmon, rweek, ryday, rmday, rday, rhour, rminu, rsec, rpos⟩ start Rr2 HM.out HS.out q11 q12 q13).mono ?_
  rintro e w3 ⟨A1, p1, A2, p2, A3, p3, rfl, a1, a2, a3, b3⟩
  clear rz0 rz1 rz2 rz3 rz4 rz5 rz6 rz7 rz8 rz9 rz10 rz11 rz12 rz13 rz14
  have B3 := B2.trans (b3.mono B2.size)
  have Xr3 := Xr2.below b3
  have Rr3 := Rr2.below b3
  clear B2 Xr2 Rr2
  clear b3
  obtain ⟨H1, h1⟩ : ∃ l, timH ⟨rfreq, ritv, rcnt, rtil, rwkst, rends, rmon, rweek, ryday, rmday, rday, rhour, rminu, rsec, rpos⟩ start = l := ⟨_, rfl⟩
  obtain ⟨H2, h2⟩ : ∃ l, timM ⟨rfreq, ritv, rcnt, rtil, rwkst, rends, rmon, rweek, ryday, rmday, rday, rhour, rminu, rsec, rpos⟩ start = l := ⟨_, rfl⟩
  obtain ⟨H3, h3⟩ : ∃ l, timS ⟨rfreq, ritv, rcnt, rtil, rwkst, rends, rmon, rweek, ryday, rmday, rday, rhour, rminu, rsec, rpos⟩ start = l := ⟨_, rfl⟩
  rw [h1] at a1 ⊢
  rw [h2] at a2 ⊢
  rw [h3] at a3 ⊢
  have O1 := Lib.hid (by have := O1.out; rw [h1] at this; exact this)
  have O2 := Lib.hid (by have := O2.out; rw [h2] at this; exact this)
  have O3 := Lib.hid (by have := O3.out; rw [h3] at this; exact this)
  have Q1 := Lib.hid (by have := Q1.out; rw [h1] at this; exact this)
  have Q2 := Lib.hid (by have := Q2.out; rw [h2] at this; exact this)
  have Q3 := Lib.hid (by have := Q3.out; rw [h3] at this; exact this)
  clear h1 h2 h3
  have K1 := Lib.hid a1
  have K2 := Lib.hid a2
  have K3 := Lib.hid a3
  clear a1 a2 a3
  obtain ⟨m1, hm1⟩ : ∃ m, H1.length = m := ⟨_, rfl⟩
  rw [hm1]
  have K1 := Lib.hid (by have := K1.out; rw [hm1] at this; exact this)
  have Q1 := Lib.hid (by have := Q1.out; rw [hm1] at this; exact this)
  clear hm1
  have y1 := Q1.out.many
  have v1 := Q1.out.one
  obtain ⟨m2, hm2⟩ : ∃ m, H2.length = m := ⟨_, rfl⟩
  rw [hm2]
  have K2 := Lib.hid (by have := K2.out; rw [hm2] at this; exact this)
  have Q2 := Lib.hid (by have := Q2.out; rw [hm2] at this; exact this)
  clear hm2
  have y2 := Q2.out.many
  have v2 := Q2.out.one
  obtain ⟨m3, hm3⟩ : ∃ m, H3.length = m := ⟨_, rfl⟩
  rw [hm3]
  have K3 := Lib.hid (by have := K3.out; rw [hm3] at this; exact this)
  have Q3 := Lib.hid (by have := Q3.out; rw [hm3] at this; exact this)
  clear hm3
  have y3 := Q3.out.many
  have v3 := Q3.out.one
  have rz0 : w3.cell? ⟨w.heap.size, 0, none⟩ = some (.int .i64 rfreq) := Xr3.at_ 0 _ rfl
  have rz1 : w3.cell? ⟨w.heap.size, 1, none⟩ = some (.int .i64 ritv) := Xr3.at_ 1 _ rfl
  have rz2 : w3.cell? ⟨w.heap.size, 2, none⟩ = some (.int .i64 rcnt) := Xr3.at_ 2 _ rfl
  have rz3 : w3.cell? ⟨w.heap.size, 3, none⟩ = some (.int .i64 rtil) := Xr3.at_ 3 _ rfl
  have rz4 : w3.cell? ⟨w.heap.size, 4, none⟩ = some (.int .i64 rwkst) := Xr3.at_ 4 _ rfl
  have rz5 : w3.cell? ⟨w.heap.size, 5, none⟩ = some (.bool rends) := Xr3.at_ 5 _ rfl
  have rz6 : w3.cell? ⟨w.heap.size, 6, none⟩ = some (.slice ra6 rn6 rc6) := Xr3.at_ 6 _ rfl
  have rz7 : w3.cell? ⟨w.heap.size, 7, none⟩ = some (.slice ra7 rn7 rc7) := Xr3.at_ 7 _ rfl
  have rz8 : w3.cell? ⟨w.heap.size, 8, none⟩ = some (.slice ra8 rn8 rc8) := Xr3.at_ 8 _ rfl
  have rz9 : w3.cell? ⟨w.heap.size, 9, none⟩ = some (.slice ra9 rn9 rc9) := Xr3.at_ 9 _ rfl
  have rz10 : w3.cell? ⟨w.heap.size, 10, none⟩ = some (.slice ra10 rn10 rc10) := Xr3.at_ 10 _ rfl
  have rz11 : w3.cell? ⟨w.heap.size, 11, none⟩ = some (.slice ra11 rn11 rc11) := Xr3.at_ 11 _ rfl
  have rz12 : w3.cell? ⟨w.heap.size, 12, none⟩ = some (.slice ra12 rn12 rc12) := Xr3.at_ 12 _ rfl
  have rz13 : w3.cell? ⟨w.heap.size, 13, none⟩ = some (.slice ra13 rn13 rc13) := Xr3.at_ 13 _ rfl
  have rz14 : w3.cell? ⟨w.heap.size, 14, none⟩ = some (.slice ra14 rn14 rc14) := Xr3.at_ 14 _ rfl
  go_wp2_with fail
  refine (may_r _ ⟨ra6, rn6, rc6, ra7, rn7, rc7, ra8, rn8, rc8, ra9, rn9, rc9, ra10, rn10, rc10, ra11, rn11, rc11, ra12, rn12, rc12, ra13, rn13, rc13, ra14, rn14, rc14⟩ ⟨rfreq, ritv, rcnt, rtil, rwkst, rends, rmon, rweek, ryday, rmday, rday, rhour, rminu, rsec, rpos⟩ true Rr3 HM.out).mono ?_
  rintro e w4 ⟨rfl, b4⟩
  clear rz0 rz1 rz2 rz3 rz4 rz5 rz6 rz7 rz8 rz9 rz10 rz11 rz12 rz13 rz14
  have B4 := B3.trans (b4.mono B3.size)
  have Xr4 := Xr3.below b4
  have Rr4 := Rr3.below b4
  clear B3 Xr3 Rr3
  have K1 := Lib.hid (K1.out.below b4)
  have K2 := Lib.hid (K2.out.below b4)
  have K3 := Lib.hid (K3.out.below b4)
  clear b4
  go_wp2_with fail
  refine (may_yes start _ HS.out).mono ?_
  rintro e w' ⟨rfl, rfl⟩
  go_wp2_with fail
  refine (day_any start _ l1 u1).mono ?_
  rintro e w' ⟨rfl, rfl⟩
  obtain ⟨s, hs⟩ : ∃ s, start % 86400 = s := ⟨_, rfl⟩
  obtain ⟨sb1, sb2⟩ : 0 ≤ s ∧ s < 86400 := by omega
  rw [hs]
  have O1 := Lib.hid (by have := O1.out; rw [hs] at this; exact this)
  have O2 := Lib.hid (by have := O2.out; rw [hs] at this; exact this)
  have O3 := Lib.hid (by have := O3.out; rw [hs] at this; exact this)
  clear hs
  go_wp2_with fail
  refine (rises_is _ A1 m1 p1 H1 K1.out (by omega) true Q1.out.rise).mono ?_
  rintro e w5 ⟨rfl, b5⟩
  have B5 := B4.trans (b5.mono B4.size)
  have Xr5 := Xr4.below b5
  have Rr5 := Rr4.below b5
  clear B4 Xr4 Rr4
  have K1 := Lib.hid (K1.out.below b5)
  have K2 := Lib.hid (K2.out.below b5)
  have K3 := Lib.hid (K3.out.below b5)
  clear b5
  go_wp2_with fail
  refine (rises_is _ A2 m2 p2 H2 K2.out (by omega) true Q2.out.rise).mono ?_
  rintro e w6 ⟨rfl, b6⟩
  have B6 := B5.trans (b6.mono B5.size)
  have Xr6 := Xr5.below b6
  have Rr6 := Rr5.below b6
  clear B5 Xr5 Rr5
  have K1 := Lib.hid (K1.out.below b6)
  have K2 := Lib.hid (K2.out.below b6)
  have K3 := Lib.hid (K3.out.below b6)
  clear b6
  go_wp2_with fail
  refine (rises_is _ A3 m3 p3 H3 K3.out (by omega) true Q3.out.rise).mono ?_
  rintro e w7 ⟨rfl, b7⟩
  have B7 := B6.trans (b7.mono B6.size)
  have Xr7 := Xr6.below b7
  have Rr7 := Rr6.below b7
  clear B6 Xr6 Rr6
  have K1 := Lib.hid (K1.out.below b7)
  have K2 := Lib.hid (K2.out.below b7)
  have K3 := Lib.hid (K3.out.below b7)
  clear b7
  obtain ⟨bl1, of1, ea1, hl1, hc1⟩ := K1.out.2 (by omega)
  subst ea1
  have c1 : w7.cell? ⟨bl1, of1, none⟩ = some (.int .i64 (iat H1 0)) := hc1 0 (by omega)
  have d1 := hc1 (m1 - 1) (by omega)
  have s1 : decide ((0 : Int) ≤ iat H1 0) = true := decide_eq_true Q1.out.lo
  have t1 : decide (iat H1 (m1 - 1) ≤ 23) = true := decide_eq_true Q1.out.top
  have w1a : IntKind.i64.wrap ((m1 : Int) - 1) = (m1 : Int) - 1 := IntWalk.i64_in _ (by omega)
  have w1b : ((m1 : Int) - 1).toNat = m1 - 1 := by omega
  have w1c : (0 : Int) ≤ (m1 : Int) - 1 := by omega
  have w1d : (m1 : Int) - 1 < (m1 : Int) := by omega
  have w1e : (1 : Int) ≤ (m1 : Int) := by omega
  clear hc1
  generalize iat H1 0 = g1 at *
  generalize iat H1 (m1 - 1) = e1 at *
  obtain ⟨bl2, of2, ea2, hl2, hc2⟩ := K2.out.2 (by omega)
  subst ea2
  have c2 : w7.cell? ⟨bl2, of2, none⟩ = some (.int .i64 (iat H2 0)) := hc2 0 (by omega)
  have d2 := hc2 (m2 - 1) (by omega)
  have s2 : decide ((0 : Int) ≤ iat H2 0) = true := decide_eq_true Q2.out.lo
  have t2 : decide (iat H2 (m2 - 1) ≤ 59) = true := decide_eq_true Q2.out.top
  have w2a : IntKind.i64.wrap ((m2 : Int) - 1) = (m2 : Int) - 1 := IntWalk.i64_in _ (by omega)
  have w2b : ((m2 : Int) - 1).toNat = m2 - 1 := by omega
  have w2c : (0 : Int) ≤ (m2 : Int) - 1 := by omega
  have w2d : (m2 : Int) - 1 < (m2 : Int) := by omega
  have w2e : (1 : Int) ≤ (m2 : Int) := by omega
  clear hc2
  generalize iat H2 0 = g2 at *
  generalize iat H2 (m2 - 1) = e2 at *
  obtain ⟨bl3, of3, ea3, hl3, hc3⟩ := K3.out.2 (by omega)
  subst ea3
  have c3 : w7.cell? ⟨bl3, of3, none⟩ = some (.int .i64 (iat H3 0)) := hc3 0 (by omega)
  have d3 := hc3 (m3 - 1) (by omega)
  have s3 : decide ((0 : Int) ≤ iat H3 0) = true := decide_eq_true Q3.out.lo
  have t3 : decide (iat H3 (m3 - 1) ≤ 59) = true := decide_eq_true Q3.out.top
  have w3a : IntKind.i64.wrap ((m3 : Int) - 1) = (m3 : Int) - 1 := IntWalk.i64_in _ (by omega)
  have w3b : ((m3 : Int) - 1).toNat = m3 - 1 := by omega
  have w3c : (0 : Int) ≤ (m3 : Int) - 1 := by omega
  have w3d : (m3 : Int) - 1 < (m3 : Int) := by omega
  have w3e : (1 : Int) ≤ (m3 : Int) := by omega
  clear hc3
  generalize iat H3 0 = g3 at *
  generalize iat H3 (m3 - 1) = e3 at *
  go_upto_region 10 with fail
  clear c1 d1 s1 t1 w1a w1b w1c w1d w1e c2 d2 s2 t2 w2a w2b w2c w2d w2e c3 d3 s3 t3 w3a w3b w3c w3d w3e
  go_wp2_with fail
  refine (first_is _ (TT.out.on B7)).mono ?_
  rintro e w8 ⟨rfl, b8⟩
  have B8 := B7.trans (b8.mono B7.size)
  have Xr8 := Xr7.below b8
  have Rr8 := Rr7.below b8
  clear B7 Xr7 Rr7
  have K1 := Lib.hid (K1.out.below b8)
  have K2 := Lib.hid (K2.out.below b8)
  have K3 := Lib.hid (K3.out.below b8)
  clear b8
  have rz11 : w8.cell? ⟨w.heap.size, 11, none⟩ = some (.slice ra11 rn11 rc11) := Xr8.at_ 11 _ rfl
  have rz12 : w8.cell? ⟨w.heap.size, 12, none⟩ = some (.slice ra12 rn12 rc12) := Xr8.at_ 12 _ rfl
  have rz13 : w8.cell? ⟨w.heap.size, 13, none⟩ = some (.slice ra13 rn13 rc13) := Xr8.at_ 13 _ rfl
  by_cases c1 : 0 < rn11
  · by_cases c2 : 0 < rn12
    · by_cases c3 : 0 < rn13
      · go_wp2
        go_ret
        exact ⟨rfl, B8⟩
      · have NE3 := Lib.hid (O3.out (List.length_eq_zero_iff.1 (by have : rn13 = rsec.length := E13.out; omega)))
        go_wp2_with fail
        refine (vhas_is _ _ m3 p3 H3 (s % 60) K3.out (by omega) true (decide_eq_true NE3.out)).mono ?_
        rintro e w9 ⟨rfl, b9⟩
        have B9 := B8.trans (b9.mono B8.size)
        have Xr9 := Xr8.below b9
        have Rr9 := Rr8.below b9
        clear B8 Xr8 Rr8
        have K1 := Lib.hid (K1.out.below b9)
        have K2 := Lib.hid (K2.out.below b9)
        have K3 := Lib.hid (K3.out.below b9)
        clear b9
        clear rz11 rz12 rz13
        have rz11 : w9.cell? ⟨w.heap.size, 11, none⟩ = some (.slice ra11 rn11 rc11) := Xr9.at_ 11 _ rfl
        have rz12 : w9.cell? ⟨w.heap.size, 12, none⟩ = some (.slice ra12 rn12 rc12) := Xr9.at_ 12 _ rfl
        have rz13 : w9.cell? ⟨w.heap.size, 13, none⟩ = some (.slice ra13 rn13 rc13) := Xr9.at_ 13 _ rfl
        go_wp2
        go_ret
        exact ⟨rfl, B9⟩
    · have NE2 := Lib.hid (O2.out (List.length_eq_zero_iff.1 (by have : rn12 = rminu.length := E12.out; omega)))
      go_wp2_with fail
      refine (vhas_is _ _ m2 p2 H2 (s / 60 % 60) K2.out (by omega) true (decide_eq_true NE2.out)).mono ?_
      rintro e w9 ⟨rfl, b9⟩
      have B9 := B8.trans (b9.mono B8.size)
      have Xr9 := Xr8.below b9
      have Rr9 := Rr8.below b9
      clear B8 Xr8 Rr8
      have K1 := Lib.hid (K1.out.below b9)
      have K2 := Lib.hid (K2.out.below b9)
      have K3 := Lib.hid (K3.out.below b9)
      clear b9
      clear rz11 rz12 rz13
      have rz11 : w9.cell? ⟨w.heap.size, 11, none⟩ = some (.slice ra11 rn11 rc11) := Xr9.at_ 11 _ rfl
      have rz12 : w9.cell? ⟨w.heap.size, 12, none⟩ = some (.slice ra12 rn12 rc12) := Xr9.at_ 12 _ rfl
      have rz13 : w9.cell? ⟨w.heap.size, 13, none⟩ = some (.slice ra13 rn13 rc13) := Xr9.at_ 13 _ rfl
      by_cases c3 : 0 < rn13
      · go_wp2
        go_ret
        exact ⟨rfl, B9⟩
      · have NE3 := Lib.hid (O3.out (List.length_eq_zero_iff.1 (by have : rn13 = rsec.length := E13.out; omega)))
        go_wp2_with fail
        refine (vhas_is _ _ m3 p3 H3 (s % 60) K3.out (by omega) true (decide_eq_true NE3.out)).mono ?_
        rintro e w10 ⟨rfl, b10⟩
        have B10 := B9.trans (b10.mono B9.size)
        have Xr10 := Xr9.below b10
        have Rr10 := Rr9.below b10
        clear B9 Xr9 Rr9
        have K1 := Lib.hid (K1.out.below b10)
        have K2 := Lib.hid (K2.out.below b10)
        have K3 := Lib.hid (K3.out.below b10)
        clear b10
        clear rz11 rz12 rz13
        have rz11 : w10.cell? ⟨w.heap.size, 11, none⟩ = some (.slice ra11 rn11 rc11) := Xr10.at_ 11 _ rfl
        have rz12 : w10.cell? ⟨w.heap.size, 12, none⟩ = some (.slice ra12 rn12 rc12) := Xr10.at_ 12 _ rfl
        have rz13 : w10.cell? ⟨w.heap.size, 13, none⟩ = some (.slice ra13 rn13 rc13) := Xr10.at_ 13 _ rfl
        go_wp2
        go_ret
        exact ⟨rfl, B10⟩
  · have NE1 := Lib.hid (O1.out (List.length_eq_zero_iff.1 (by have : rn11 = rhour.length := E11.out; omega)))
    go_wp2_with fail
    refine (vhas_is _ _ m1 p1 H1 (s / 3600) K1.out (by omega) true (decide_eq_true NE1.out)).mono ?_
    rintro e w9 ⟨rfl, b9⟩
    have B9 := B8.trans (b9.mono B8.size)
    have Xr9 := Xr8.below b9
    have Rr9 := Rr8.below b9
    clear B8 Xr8 Rr8
    have K1 := Lib.hid (K1.out.below b9)
    have K2 := Lib.hid (K2.out.below b9)
    have K3 := Lib.hid (K3.out.below b9)
    clear b9
    clear rz11 rz12 rz13
    have rz11 : w9.cell? ⟨w.heap.size, 11, none⟩ = some (.slice ra11 rn11 rc11) := Xr9.at_ 11 _ rfl
    have rz12 : w9.cell? ⟨w.heap.size, 12, none⟩ = some (.slice ra12 rn12 rc12) := Xr9.at_ 12 _ rfl
    have rz13 : w9.cell? ⟨w.heap.size, 13, none⟩ = some (.slice ra13 rn13 rc13) := Xr9.at_ 13 _ rfl
    by_cases c2 : 0 < rn12
    · by_cases c3 : 0 < rn13
      · go_wp2
        go_ret
        exact ⟨rfl, B9⟩
      · have NE3 := Lib.hid (O3.out (List.length_eq_zero_iff.1 (by have : rn13 = rsec.length := E13.out; omega)))
        go_wp2_with fail
        refine (vhas_is _ _ m3 p3 H3 (s % 60) K3.out (by omega) true (decide_eq_true NE3.out)).mono ?_
        rintro e w10 ⟨rfl, b10⟩
        have B10 := B9.trans (b10.mono B9.size)
        have Xr10 := Xr9.below b10
        have Rr10 := Rr9.below b10
        clear B9 Xr9 Rr9
        have K1 := Lib.hid (K1.out.below b10)
        have K2 := Lib.hid (K2.out.below b10)
        have K3 := Lib.hid (K3.out.below b10)
        clear b10
        clear rz11 rz12 rz13
        have rz11 : w10.cell? ⟨w.heap.size, 11, none⟩ = some (.slice ra11 rn11 rc11) := Xr10.at_ 11 _ rfl
        have rz12 : w10.cell? ⟨w.heap.size, 12, none⟩ = some (.slice ra12 rn12 rc12) := Xr10.at_ 12 _ rfl
        have rz13 : w10.cell? ⟨w.heap.size, 13, none⟩ = some (.slice ra13 rn13 rc13) := Xr10.at_ 13 _ rfl
        go_wp2
        go_ret
        exact ⟨rfl, B10⟩
    · have NE2 := Lib.hid (O2.out (List.length_eq_zero_iff.1 (by have : rn12 = rminu.length := E12.out; omega)))
      go_wp2_with fail
      refine (vhas_is _ _ m2 p2 H2 (s / 60 % 60) K2.out (by omega) true (decide_eq_true NE2.out)).mono ?_
      rintro e w10 ⟨rfl, b10⟩
      have B10 := B9.trans (b10.mono B9.size)
      have Xr10 := Xr9.below b10
      have Rr10 := Rr9.below b10
      clear B9 Xr9 Rr9
      have K1 := Lib.hid (K1.out.below b10)
      have K2 := Lib.hid (K2.out.below b10)
      have K3 := Lib.hid (K3.out.below b10)
      clear b10
      clear rz11 rz12 rz13
      have rz11 : w10.cell? ⟨w.heap.size, 11, none⟩ = some (.slice ra11 rn11 rc11) := Xr10.at_ 11 _ rfl
      have rz12 : w10.cell? ⟨w.heap.size, 12, none⟩ = some (.slice ra12 rn12 rc12) := Xr10.at_ 12 _ rfl
      have rz13 : w10.cell? ⟨w.heap.size, 13, none⟩ = some (.slice ra13 rn13 rc13) := Xr10.at_ 13 _ rfl
      by_cases c3 : 0 < rn13
      · go_wp2
        go_ret
        exact ⟨rfl, B10⟩
      · have NE3 := Lib.hid (O3.out (List.length_eq_zero_iff.1 (by have : rn13 = rsec.length := E13.out; omega)))
        go_wp2_with fail
        refine (vhas_is _ _ m3 p3 H3 (s % 60) K3.out (by omega) true (decide_eq_true NE3.out)).mono ?_
        rintro e w11 ⟨rfl, b11⟩
        have B11 := B10.trans (b11.mono B10.size)
        have Xr11 := Xr10.below b11
        have Rr11 := Rr10.below b11
        clear B10 Xr10 Rr10
        have K1 := Lib.hid (K1.out.below b11)
        have K2 := Lib.hid (K2.out.below b11)
        have K3 := Lib.hid (K3.out.below b11)
        clear b11
        clear rz11 rz12 rz13
        have rz11 : w11.cell? ⟨w.heap.size, 11, none⟩ = some (.slice ra11 rn11 rc11) := Xr11.at_ 11 _ rfl
        have rz12 : w11.cell? ⟨w.heap.size, 12, none⟩ = some (.slice ra12 rn12 rc12) := Xr11.at_ 12 _ rfl
        have rz13 : w11.cell? ⟨w.heap.size, 13, none⟩ = some (.slice ra13 rn13 rc13) := Xr11.at_ 13 _ rfl
        go_wp2
        go_ret
        exact ⟨rfl, B11⟩
theorem times_walk (w : World) (T : Tabs w) (S : RS) (r : Ru) (start : Int) (h : RuIn w S r) (l1 : -9223372036854775808 ≤ start) (u1 : start ≤ 9223372036854775807) :
    Calls Tryz.prog 6 #[S.val r, .int .i64 start] w fun e w' => e = .returned (.bool true) ∧ Below w.heap.size w w' := by
  cases hx : fewB S
  · exact times_a w T S r start h l1 u1 hx
  cases hn : mayR r && St.may start
  · exact times_b w T S r start h l1 u1 hx hn
  · rw [Bool.and_eq_true] at hn
    exact times_c w T S r start h l1 u1 hx hn.1 hn.2
end Go.Proofs.YtkkmhjplfpdhcaaGreatDoor.Dd
