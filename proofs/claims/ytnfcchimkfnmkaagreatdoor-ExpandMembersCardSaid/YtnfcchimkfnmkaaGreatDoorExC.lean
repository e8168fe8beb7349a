/- The walk of package expand's picked. -/
import Derived.Test.YtnfcchimkfnmkaaGreatDoorExA
set_option linter.unusedVariables false
namespace Go.Proofs.YtnfcchimkfnmkaaGreatDoor.Ex
open Go.RowKit Cv St Ru Dd Mb

/-- the place that a number of Pos names -/
def atI (l : List Int) (p : Int) : Int := if p < 0 then l.length + p else p - 1
def oneP (l : List Int) (p : Int) : List Int := if 0 ≤ atI l p ∧ atI l p < l.length then [iat l (atI l p).toNat] else []
def accL (P l : List Int) : List Int := P.flatMap (oneP l)
theorem acc_take {P l : List Int} {k : Nat} (h : k < P.length) : accL (P.take (k + 1)) l = accL (P.take k) l ++ oneP l (iat P k) := by
  unfold accL; rw [take_at h, List.flatMap_append]; simp
theorem one_le (l : List Int) (p : Int) : (oneP l p).length ≤ 1 := by unfold oneP; split <;> simp
theorem acc_len (l : List Int) : ∀ P : List Int, (accL P l).length ≤ P.length
  | [] => by simp [accL]
  | p :: P => by
    have := acc_len l P
    have e : accL (p :: P) l = oneP l p ++ accL P l := rfl
    rw [e, List.length_append, List.length_cons]
    have := one_le l p
    omega
theorem mem_acc {P l : List Int} {x : Int} : x ∈ accL P l ↔ ∃ p ∈ P, 0 ≤ atI l p ∧ atI l p < l.length ∧ iat l (atI l p).toNat = x := by
  unfold accL oneP
  rw [List.mem_flatMap]
  constructor
  · rintro ⟨p, hp, hx⟩
    split at hx
    · rename_i c; exact ⟨p, hp, c.1, c.2, (by simpa using hx : x = _).symm⟩
    · cases hx
  · rintro ⟨p, hp, a, b, rfl⟩
    exact ⟨p, hp, by rw [if_pos ⟨a, b⟩]; simp⟩
theorem pick_acc {P l : List Int} (hr : l.Pairwise (· < ·)) (hP : P ≠ []) : Lib.compact ((accL P l).mergeSort fun x y => decide (x ≤ y)) = pickL P l := by
  have hp : ((accL P l).mergeSort fun x y => decide (x ≤ y)).Pairwise (fun a b => iltB b a = false) := by
    have := List.pairwise_mergeSort (le := fun x y : Int => decide (x ≤ y)) (fun a b c h1 h2 => by simp at *; omega) (fun a b => by simp; omega) (accL P l)
    exact this.imp fun h => by unfold iltB; simp at *; omega
  obtain ⟨h1, h2⟩ := comp_spec (lt := iltB) (fun a b h1 h2 => by unfold iltB at *; simp at *; omega) hp
  refine Mb.rise_ext (h1.imp fun h => of_decide_eq_true h) (pick_rise hr) fun x => ?_
  rw [h2, List.mem_mergeSort, mem_acc, mem_pick]
  constructor
  · rintro ⟨p, hp, a, b, e⟩
    have hk : (atI l p).toNat < l.length := by omega
    rw [iat_lt hk] at e
    refine ⟨e ▸ List.getElem_mem _, .inr ?_⟩
    rw [← e, idx_rise hr hk]
    unfold atI at a b ⊢
    split at a
    · rename_i c
      rw [if_pos c] at b ⊢
      right
      rw [show (((l.length + p : Int).toNat : Nat) : Int) - l.length = p by omega]
      exact hp
    · rename_i c
      rw [if_neg c] at b ⊢
      left
      rw [show (((p - 1 : Int).toNat : Nat) : Int) + 1 = p by omega]
      exact hp
  · rintro ⟨hx, hq⟩
    obtain ⟨k, hk, rfl⟩ := List.getElem_of_mem hx
    rw [idx_rise hr hk] at hq
    rcases hq with q | q | q
    · exact absurd q hP
    · refine ⟨_, q, ?_⟩
      have e : atI l ((k : Int) + 1) = k := by unfold atI; rw [if_neg (by omega)]; omega
      rw [e]
      exact ⟨by omega, by omega, by rw [Int.toNat_natCast, iat_lt hk]⟩
    · refine ⟨_, q, ?_⟩
      have e : atI l ((k : Int) - l.length) = k := by unfold atI; rw [if_pos (by omega)]; omega
      rw [e]
      exact ⟨by omega, by omega, by rw [Int.toNat_natCast, iat_lt hk]⟩
/-- slices.Sort of numbers of the call's own -/
theorem sortO_is (W w : World) (v : Value) (l : List Int) (h : OwnI W w v l) (hb : Below W.heap.size W w) (hl : l.length ≤ 1000000) :
    Calls Tryz.prog 171 #[v] w fun e w' => e = .returned (.tuple #[]) ∧ OwnI W w' v (l.mergeSort fun x y => decide (x ≤ y)) ∧ Below W.heap.size W w' := by
  by_cases h0 : l = []
  · subst h0
    obtain ⟨A, c, rfl, -, -, -⟩ := h.at_
    refine (Tryz.slices_Sort_int_none A c w).mono ?_
    rintro e w' ⟨rfl, rfl⟩
    exact ⟨rfl, by simpa using h, hb⟩
  · obtain ⟨g, cap, rfl, g1, g2, g3, g4, -, hH⟩ := Lib.holds_of_ownsRow (enc := Value.int .i64) (zs := l) h (by rintro rfl; exact h0 (List.length_eq_zero_iff.1 (by obtain ⟨A, c, e, -⟩ := h.at_; injection e with _ e _; exact e.symm)))
    refine (Tryz.slices_Sort_int g 0 cap l w hH g2 (by omega)).mono ?_
    rintro e w' ⟨rfl, n, os, rfl⟩
    have := OwnI.sorted h hb (m := l.mergeSort fun x y => decide (x ≤ y)) (by simp) n os
    exact ⟨rfl, this.1, this.2⟩
set_option maxRecDepth 100000 in
set_option maxHeartbeats 8000000 in
/-- what picked answers: the list itself, or a new one -/
def PickIs (w : World) (A : Option Addr) (q : Prop) (m : List Int) (e : Ending) (w' : World) : Prop := ∃ B c, e = .returned (.slice B m.length c) ∧ IsAt w' B m.length m ∧ (q ∧ B = A ∨ Fresh w.heap.size B) ∧ Below w.heap.size w w'
/-- expand.picked -/
theorem picked_is (w : World) (S : RS) (r : Ru) (A : Option Addr) (n c : Nat) (l x : List Int) (h : RuAt w S r) (hP : ∀ p ∈ r.pos, -366 ≤ p ∧ p ≤ 366) (h60 : r.pos.length ≤ 60) (hl : IsAt w A n l) (hr : l.Pairwise (· < ·)) (hn : l.length ≤ 1000000) (hx : pickL r.pos l = x) :
    Calls Tryz.prog 127 #[S.val r, .slice A n c] w (PickIs w A (r.pos = []) x) := by
  have K14 := Lib.hid h.h14
  have LN := Lib.hid h.h14.1.symm
  have L60 := Lib.hid h60
  have NN : n ≤ 1000000 := by rw [hl.1]; exact hn
  have LL := Lib.hid hl.1.symm
  have KL := Lib.hid hl
  have X0 := Lib.hid (fun (e : r.pos = []) => show l = x by rw [← hx, e]; rfl)
  have X1 := Lib.hid (fun (e : r.pos ≠ []) => show Lib.compact ((accL r.pos l).mergeSort fun x y => decide (x ≤ y)) = x by rw [← hx]; exact pick_acc hr e)
  have HP := Lib.hid hP
  have l14 : S.n14 ≤ 1000000 := by rw [h.h14.1]; omega
  clear h hl hr hx hP hn h60
  obtain ⟨ra6, rn6, rc6, ra7, rn7, rc7, ra8, rn8, rc8, ra9, rn9, rc9, ra10, rn10, rc10, ra11, rn11, rc11, ra12, rn12, rc12, ra13, rn13, rc13, ra14, rn14, rc14⟩ := S
  obtain ⟨rfreq, ritv, rcnt, rtil, rwkst, rends, rmon, rweek, ryday, rmday, rday, rhour, rminu, rsec, rpos⟩ := r
  replace l14 : rn14 ≤ 1000000 := l14
  replace K14 : Hid (IsAt w ra14 rn14 rpos) := K14
  replace LN : Hid (rpos.length = rn14) := LN
  replace HP : Hid (∀ p ∈ rpos, -366 ≤ p ∧ p ≤ 366) := HP
  replace X0 : Hid (rpos = [] → l = x) := X0
  replace X1 : Hid (rpos ≠ [] → Lib.compact ((accL rpos l).mergeSort fun x y => decide (x ≤ y)) = x) := X1
  show Calls Tryz.prog 127 #[.agg #[.int .i64 rfreq, .int .i64 ritv, .int .i64 rcnt, .int .i64 rtil, .int .i64 rwkst, .bool rends, .slice ra6 rn6 rc6, .slice ra7 rn7 rc7, .slice ra8 rn8 rc8, .slice ra9 rn9 rc9, .slice ra10 rn10 rc10, .slice ra11 rn11 rc11, .slice ra12 rn12 rc12, .slice ra13 rn13 rc13, .slice ra14 rn14 rc14], .slice A n c] w _
  go_enter Tryz.func127, Tryz.ntmps127
  go_upto_region 1 with fail
  have B0 := alloc_below w (.cells #[.int .i64 rfreq, .int .i64 ritv, .int .i64 rcnt, .int .i64 rtil, .int .i64 rwkst, .bool rends, .slice ra6 rn6 rc6, .slice ra7 rn7 rc7, .slice ra8 rn8 rc8, .slice ra9 rn9 rc9, .slice ra10 rn10 rc10, .slice ra11 rn11 rc11, .slice ra12 rn12 rc12, .slice ra13 rn13 rc13, .slice ra14 rn14 rc14] 25)
  have Xr0 := Box.new w #[.int .i64 rfreq, .int .i64 ritv, .int .i64 rcnt, .int .i64 rtil, .int .i64 rwkst, .bool rends, .slice ra6 rn6 rc6, .slice ra7 rn7 rc7, .slice ra8 rn8 rc8, .slice ra9 rn9 rc9, .slice ra10 rn10 rc10, .slice ra11 rn11 rc11, .slice ra12 rn12 rc12, .slice ra13 rn13 rc13, .slice ra14 rn14 rc14] 25
  generalize w.alloc (.cells #[.int .i64 rfreq, .int .i64 ritv, .int .i64 rcnt, .int .i64 rtil, .int .i64 rwkst, .bool rends, .slice ra6 rn6 rc6, .slice ra7 rn7 rc7, .slice ra8 rn8 rc8, .slice ra9 rn9 rc9, .slice ra10 rn10 rc10, .slice ra11 rn11 rc11, .slice ra12 rn12 rc12, .slice ra13 rn13 rc13, .slice ra14 rn14 rc14] 25) = w0 at *
  have K14 := Lib.hid (K14.out.below B0)
  have KL := Lib.hid (KL.out.below B0)
  have rz14 : w0.cell? ⟨w.heap.size, 14, none⟩ = some (.slice ra14 rn14 rc14) := Xr0.at_ 14 _ rfl
  by_cases h0 : rn14 = 0
  · have t0 : ((rn14 : Int) == 0) = true := by rw [beq_iff_eq]; omega
    have PE := Lib.hid (show rpos = [] from List.length_eq_zero_iff.1 (by rw [LN.out]; exact h0))
    have E := Lib.hid (X0.out PE.out)
    have EL := Lib.hid (show n = x.length by rw [← E.out, LL.out])
    clear X0 X1
    go_wp2
    go_ret
    have e := E.out
    subst e
    have q := KL.out
    have en := EL.out
    clear LL KL NN
    subst en
    exact ⟨A, c, rfl, q, .inl ⟨PE.out, rfl⟩, B0⟩
  · have t0 : ((rn14 : Int) == 0) = false := by rw [beq_eq_false_iff_ne]; omega
    have XE := Lib.hid (X1.out (by rintro rfl; have := LN.out; simp at this; omega))
    clear X0 X1 h0
    go_wp2
    go_loopw [5, 17] (fun ov i wr => ∃ (v : Value) (t1 : Nat) (acc : List Int), t1 ≤ rn14 ∧ v = ov ∧ i = .int .i64 t1 ∧ OwnI w0 wr v acc ∧ Hid (accL (rpos.take t1) l = acc) ∧ Below w0.heap.size w0 wr) (fun _ i _ => rn14 - (intOf i).toNat)
    case atStart => exact ⟨_, 0, [], Nat.zero_le _, rfl, rfl, OwnI.nil _ _, Lib.hid rfl, by first | exact Below.refl _ _ | exact (Below.refl _ _).drew⟩
    case round =>
      obtain ⟨v0, t1, acc1, ht1, rfl, rfl, ov1, D1, hB1⟩ := hrel
      have OV1 := Lib.hid ov1
      clear ov1
      have R : acc1.length ≤ 1000000 := by
        have a := acc_len l (rpos.take t1)
        rw [D1.out, List.length_take] at a
        have := LN.out
        omega
      by_cases hlt1 : t1 < rn14
      · obtain ⟨bl1, of1, ea1, hl1, hc1⟩ := K14.out.2 (show 0 < rn14 by omega)
        subst ea1
        have c1 := (hB1.cell (p := ⟨bl1, _, none⟩) hl1).trans (hc1 t1 hlt1)
        have e1 := HP.out (iat rpos t1) (by rw [iat_lt (by rw [LN.out]; exact hlt1)]; exact List.getElem_mem _)
        have N1 := Lib.hid (acc_take (P := rpos) (l := l) (k := t1) (by rw [LN.out]; exact hlt1))
        clear hc1
        generalize iat rpos t1 = g at *
        obtain ⟨a, ha⟩ : ∃ a, atI l g = a := ⟨_, rfl⟩
        have OY := Lib.hid (fun (q : 0 ≤ a ∧ a < n) => show accL (rpos.take (t1 + 1)) l = acc1 ++ [iat l a.toNat] by rw [N1.out, D1.out]; unfold oneP; rw [ha, if_pos ⟨q.1, by rw [LL.out]; exact q.2⟩])
        have ON := Lib.hid (fun (q : ¬ (0 ≤ a ∧ a < n)) => show accL (rpos.take (t1 + 1)) l = acc1 by rw [N1.out, D1.out]; unfold oneP; rw [ha, if_neg (by rw [LL.out]; exact q)]; simp)
        have HA := Lib.hid (show (g < 0 → (n : Int) + g = a) ∧ (¬ g < 0 → g - 1 = a) by
          rw [← ha]; unfold atI
          exact ⟨fun q => by rw [if_pos q, LL.out], fun q => by rw [if_neg q]⟩)
        clear ha N1
        have W1 : IntKind.i64.wrap (g - 1) = g - 1 := IntWalk.i64_in _ (by omega)
        have W2 : IntKind.i64.wrap ((n : Int) + g) = (n : Int) + g := IntWalk.i64_in _ (by omega)
        by_cases q0 : g < 0
        · have u0 : decide (g < 0) = true := decide_eq_true q0
          have EA := HA.out.1 q0
          clear HA
          rw [EA] at W2
          by_cases q1 : 0 ≤ a
          · have u1 : decide (0 ≤ a) = true := decide_eq_true q1
            by_cases q2 : a < n
            · have u2 : decide (a < (n : Int)) = true := decide_eq_true q2
              obtain ⟨bl2, of2, ea2, hl2, hc2⟩ := KL.out.2 (show 0 < n by omega)
              subst ea2
              obtain ⟨m, hm⟩ : ∃ m : Nat, a = m := ⟨a.toNat, by omega⟩
              subst hm
              have q3 : m < n := by omega
              have c2 := (hB1.cell (p := ⟨bl2, _, none⟩) hl2).trans (hc2 m q3)
              have F := Lib.hid (show accL (rpos.take (t1 + 1)) l = acc1 ++ [iat l m] by have := OY.out ⟨q1, q2⟩; rwa [Int.toNat_natCast] at this)
              clear OY ON hc2
              generalize iat l m = h2 at *
              go_wp2_with (at_builtin; refine append_num rfl _ _ rfl _ acc1 rfl OV1.out hB1 _ _ _ rfl R ?_)
              intro v4 w4 ow4 hb4
              have OW := Lib.hid ow4
              clear ow4
              go_wp2
              go_roundw
              case rel => exact ⟨v4, t1 + 1, _, by omega, rfl, by go_num, OW.out, F, hb4⟩
              case measure => simp [intOf]; omega
            · have u2 : decide (a < (n : Int)) = false := decide_eq_false q2
              have F := Lib.hid (ON.out (fun q => q2 q.2))
              clear OY ON
              go_wp2
              go_roundw
              case rel => exact ⟨v0, t1 + 1, acc1, by omega, rfl, by go_num, OV1.out, F, hB1⟩
              case measure => simp [intOf]; omega
          · have u1 : decide (0 ≤ a) = false := decide_eq_false q1
            have F := Lib.hid (ON.out (fun q => q1 q.1))
            clear OY ON
            go_wp2
            go_roundw
            case rel => exact ⟨v0, t1 + 1, acc1, by omega, rfl, by go_num, OV1.out, F, hB1⟩
            case measure => simp [intOf]; omega
        · have u0 : decide (g < 0) = false := decide_eq_false q0
          have EA := HA.out.2 q0
          clear HA
          rw [EA] at W1
          by_cases q1 : 0 ≤ a
          · have u1 : decide (0 ≤ a) = true := decide_eq_true q1
            by_cases q2 : a < n
            · have u2 : decide (a < (n : Int)) = true := decide_eq_true q2
              obtain ⟨bl2, of2, ea2, hl2, hc2⟩ := KL.out.2 (show 0 < n by omega)
              subst ea2
              obtain ⟨m, hm⟩ : ∃ m : Nat, a = m := ⟨a.toNat, by omega⟩
              subst hm
              have q3 : m < n := by omega
              have c2 := (hB1.cell (p := ⟨bl2, _, none⟩) hl2).trans (hc2 m q3)
              have F := Lib.hid (show accL (rpos.take (t1 + 1)) l = acc1 ++ [iat l m] by have := OY.out ⟨q1, q2⟩; rwa [Int.toNat_natCast] at this)
              clear OY ON hc2
              generalize iat l m = h2 at *
              go_wp2_with (at_builtin; refine append_num rfl _ _ rfl _ acc1 rfl OV1.out hB1 _ _ _ rfl R ?_)
              intro v4 w4 ow4 hb4
              have OW := Lib.hid ow4
              clear ow4
              go_wp2
              go_roundw
              case rel => exact ⟨v4, t1 + 1, _, by omega, rfl, by go_num, OW.out, F, hb4⟩
              case measure => simp [intOf]; omega
            · have u2 : decide (a < (n : Int)) = false := decide_eq_false q2
              have F := Lib.hid (ON.out (fun q => q2 q.2))
              clear OY ON
              go_wp2
              go_roundw
              case rel => exact ⟨v0, t1 + 1, acc1, by omega, rfl, by go_num, OV1.out, F, hB1⟩
              case measure => simp [intOf]; omega
          · have u1 : decide (0 ≤ a) = false := decide_eq_false q1
            have F := Lib.hid (ON.out (fun q => q1 q.1))
            clear OY ON
            go_wp2
            go_roundw
            case rel => exact ⟨v0, t1 + 1, acc1, by omega, rfl, by go_num, OV1.out, F, hB1⟩
            case measure => simp [intOf]; omega
      · obtain rfl : rn14 = t1 := by omega
        have E1 := Lib.hid (show Lib.compact (acc1.mergeSort fun x y => decide (x ≤ y)) = x by rw [← XE.out, ← D1.out, List.take_of_length_le (by rw [LN.out]; exact Nat.le_refl _)])
        clear XE D1
        go_wp2_with fail
        refine (sortO_is w0 _ v0 acc1 OV1.out hB1 R).mono ?_
        rintro e w5 ⟨rfl, o5, h5⟩
        have O5 := Lib.hid o5
        clear o5
        go_wp2_with fail
        refine (compactI_is w0 _ v0 _ O5.out h5 (by simp; exact R)).mono ?_
        rintro e w6 ⟨A6, c6, rfl, i6, f6, h6⟩
        have I6 := Lib.hid i6
        clear i6
        have e := E1.out
        clear E1
        subst e
        go_wp2
        go_ret
        exact ⟨A6, c6, rfl, I6.out, .inr (fresh_mono f6 B0.size), B0.trans (h6.mono B0.size)⟩
end Go.Proofs.YtnfcchimkfnmkaaGreatDoor.Ex
