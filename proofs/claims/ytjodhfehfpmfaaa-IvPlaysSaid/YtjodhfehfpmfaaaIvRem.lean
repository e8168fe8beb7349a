/- The walk of (*Set).Remove. -/
import Derived.Test.YtjodhfehfpmfaaaIvAdd
import Derived.Test.YtjodhfehfpmfaaaIvDelT
set_option linter.unusedVariables false
namespace Go.Proofs.Ytjodhfehfpmfaaa.Iv
open Go.RowKit

/-- the owners behind a Remove -/
def remO (owner : Int) (ow : List Int) : List Int := ow.filter fun n => decide (n ≠ owner)
theorem remO_mem {owner : Int} {ow : List Int} {n : Int} : n ∈ remO owner ow ↔ n ∈ ow ∧ n ≠ owner := by
  unfold remO
  rw [List.mem_filter]
  simp
theorem remO_len (owner : Int) (ow : List Int) : (remO owner ow).length ≤ ow.length := List.length_filter_le _ _
theorem remO_none {owner : Int} {ow : List Int} (h : owner ∉ ow) : remO owner ow = ow := List.filter_eq_self.2 fun n hn => decide_eq_true fun e => h (e ▸ hn)
theorem remO_cut {owner : Int} {ow : List Int} (h : ow.Pairwise (· < ·)) (ho : owner ∈ ow) : ow.countP (· < owner) < ow.length ∧ remO owner ow = ow.take (ow.countP (· < owner)) ++ ow.drop (ow.countP (· < owner) + 1) := by
  have lo : ∀ a ∈ ow.take (ow.countP (· < owner)), a < owner := fun a ha => by
    rw [← part_lt h] at ha
    exact of_decide_eq_true (List.mem_filter.1 ha).2
  have hi : ∀ a ∈ ow.drop (ow.countP (· < owner)), owner ≤ a := fun a ha => by
    rw [← part_ge h] at ha
    have := (List.mem_filter.1 ha).2
    simp only [Bool.not_eq_true', decide_eq_false_iff_not] at this
    omega
  generalize ow.countP (· < owner) = k at *
  have hd : owner ∈ ow.drop k := by
    rw [← List.take_append_drop k ow] at ho
    rcases List.mem_append.1 ho with q | q
    · have := lo _ q; omega
    · exact q
  have hr : (ow.drop k).Pairwise (· < ·) := h.sublist (List.drop_sublist _ _)
  have hkl : k < ow.length := by
    rcases Nat.lt_or_ge k ow.length with q | q
    · exact q
    · rw [List.drop_eq_nil_of_le q] at hd; cases hd
  refine ⟨hkl, ?_⟩
  have e1 : ow.drop k = ow[k] :: ow.drop (k + 1) := List.drop_eq_getElem_cons hkl
  rw [e1] at hd hr hi
  have ek : ow[k] = owner := by
    rcases List.mem_cons.1 hd with q | q
    · exact q.symm
    · have a := (List.pairwise_cons.1 hr).1 _ q
      have b := hi _ List.mem_cons_self
      omega
  have hgt := (List.pairwise_cons.1 hr).1
  rw [ek] at hgt
  unfold remO
  conv => lhs; rw [← List.take_append_drop k ow, List.filter_append, e1, List.filter_cons]
  rw [if_neg (by simp [ek])]
  congr 1
  · exact List.filter_eq_self.2 fun a ha => decide_eq_true (by have := lo a ha; omega)
  · exact List.filter_eq_self.2 fun a ha => decide_eq_true (by have := hgt a ha; omega)
theorem remO_ok {owner : Int} {all : List Tg} {ow : List Int} (h : SetOk all ow) : SetOk (remL owner all) (remO owner ow) := rem_ok h (h.rise.sublist List.filter_sublist) fun n => remO_mem
/-- slices.Delete of one on the owners' row -/
theorem delI_is {F : Nat → Prop} (w : World) (O : Option Addr) (d : Nat) (ow : List Int) (k : Nat) (h : RowF F w 3 1 O ow.length d (cellsL encI ow)) (hk : k < ow.length) (hl : ow.length ≤ 1000000) :
    Calls Try.prog 63 #[.slice O ow.length d, .int .i64 k, .int .i64 (k + 1 : Nat)] w fun e w' => ∃ g, O = some ⟨g, 0, none⟩ ∧ e = .returned (.slice O (ow.length - 1) d) ∧ RowIs w' g 3 1 d (cellsL encI (ow.take k ++ ow.drop (k + 1))) ∧ Kp (· = g) w w' := by
  obtain ⟨g, rfl, -, r⟩ : ∃ g, O = some ⟨g, 0, none⟩ ∧ F g ∧ RowIs w g 3 1 d (cellsL encI ow) := by
    rcases h.2.2 with ⟨rfl, q⟩ | q
    · have := h.2.1; omega
    · exact q
  have room := r.room
  have cl := cellsI_len ow
  refine (Try.slices_Delete_int_cells g 0 ow.length d k (k + 1) ow w (Nat.le_refl _) h.2.1 (Nat.le_trans room (by unfold maxLen; decide)) (by omega) hk (fun j hj => ?_) (fun j _ => r.frozen _)).mono ?_
  · rw [Nat.zero_add]
    refine r.cell ?_
    rw [cellsI, List.getElem?_map, List.getElem?_eq_getElem hj, List.getD_eq_getElem?_getD, List.getElem?_eq_getElem hj]
    rfl
  · rintro e w' ⟨rfl, q, rfl⟩
    rw [List.take_length]
    have rd := r.below (below_drewN w.heap.size w q)
    have vl : ((ow.take k ++ ow.drop (k + 1) ++ List.replicate (k + 1 - k) 0).map (Value.int .i64)).length = ow.length := by
      simp only [List.length_map, List.length_append, List.length_take, List.length_drop, List.length_replicate]
      omega
    obtain ⟨r2, k2⟩ := rd.setCells ((ow.take k ++ ow.drop (k + 1) ++ List.replicate (k + 1 - k) 0).map (Value.int .i64)) 0 (by rw [vl, cl]; omega)
    refine ⟨g, rfl, by rw [show k + 1 - k = 1 by omega], ?_, (Kp.of (below_drewN _ _ _)).trans k2⟩
    have c2 := r2.cut (ow.length - 1)
    have e2 : (splice (cellsL encI ow) 0 ((ow.take k ++ ow.drop (k + 1) ++ List.replicate (k + 1 - k) 0).map (Value.int .i64))).take (ow.length - 1) = cellsL encI (ow.take k ++ ow.drop (k + 1)) := by
      unfold splice
      rw [List.take_zero, List.nil_append, List.take_append_of_le_length (by omega), List.map_append, List.take_left' (by simp only [List.length_map, List.length_append, List.length_take, List.length_drop]; omega), cellsI]
    rw [e2] at c2
    exact c2
set_option maxRecDepth 100000 in
theorem rem1_is (W : World) (b : Nat) (owner : Int) (x : Tg) (h : W.cell? ⟨b, 0, none⟩ = some (.int .i64 owner)) (hb : b < W.heap.size) :
    Calls Try.prog 65 #[.agg #[.int .i64 x.1.1, .int .i64 x.1.2, .int .i64 x.2], .pointer (some ⟨b, 0, none⟩)] W fun e w' => e = .returned (.bool (decide (x.2 = owner))) ∧ Below W.heap.size W w' := by
  have ne : b ≠ W.heap.size := by omega
  have E := Lib.hid (show (x.2 == owner) = decide (x.2 = owner) from rfl)
  go_enter Try.func65, Try.ntmps65
  go_wp2
  go_ret
  exact ⟨ret_bool E.out, below_alloc _ _⟩
/-- what Remove leaves -/
def RemIs (F : Nat → Prop) (w : World) (p : Nat) (owner : Int) (all : List Tg) (ow : List Int) (e : Ending) (w' : World) : Prop :=
  e = .returned (.int .i64 (hadL owner all : Nat)) ∧ SetIn F w' p (remL owner all) (remO owner ow) ∧ Kp F w w'
set_option maxRecDepth 100000 in
set_option maxHeartbeats 4000000 in
theorem rem_is {F : Nat → Prop} (w : World) (p : Nat) (all : List Tg) (ow : List Int) (owner : Int) (S : SetIn F w p all ow) (hF : ∀ k, w.heap.size ≤ k → F k) (ha : all.length ≤ 900000) (ho : ow.length ≤ 900000) :
    Calls Try.prog 20 #[.pointer (some ⟨p, 0, none⟩), .int .i64 owner] w (RemIs F w p owner all ow) := by
  obtain ⟨A, cA, O, d, H⟩ := S
  have pl := H.box.lt
  have ok := H.ok
  obtain ⟨w0, hw0⟩ : ∃ w0 : World, w0 = w.alloc (.cells #[.int .i64 owner] 3) := ⟨_, rfl⟩
  have b0 : Below w.heap.size w w0 := hw0 ▸ below_alloc _ _
  have bx : RowIs w0 w.heap.size 3 1 1 [.int .i64 owner] := hw0 ▸ one_row _ _ _
  have H0 := H.below b0
  have x0 : w0.cell? ⟨w.heap.size, 0, none⟩ = some (.int .i64 owner) := bx.cell rfl
  have c1 : w0.cell? ⟨p, 1, none⟩ = some (.slice O ow.length d) := H0.c1
  have H0d := H0.below ((Below.refl w0.heap.size w0).drew)
  have FND := Lib.hid (fun q => find_q (w0.drewN q) O d ow owner (H0.below (below_drewN _ _ q)).nums ok.rise (by omega))
  have KC := Lib.hid (fun (h : owner ∈ ow) => remO_cut ok.rise h)
  generalize ow.countP (· < owner) = k at *
  generalize hcb : ow.contains owner = cb at *
  have CB := Lib.hid hcb
  clear hcb
  have SS := Lib.hid H
  have S0 := Lib.hid H0
  have B0 := Lib.hid b0
  have BX := Lib.hid bx
  have OK := Lib.hid ok
  have HF := Lib.hid hF
  clear H H0 H0d b0 bx ok hF
  go_enter Try.func20, Try.ntmps20
  go_upto_region 1 with fail
  rw [← hw0]
  clear hw0
  go_big_quiet ((go_at_call 57; exact Calls.quiet_of (FND.out _)))
  have b1 := below_drewN w0.heap.size w0 nq
  have S1 := S0.out.below b1
  have BX1 := Lib.hid (BX.out.below b1)
  have B1 := Lib.hid (B0.out.trans (b1.mono B0.out.size))
  have p0 : (w0.drewN nq).cell? ⟨p, 0, none⟩ = some (.slice A all.length cA) := S1.c0
  have p1 : (w0.drewN nq).cell? ⟨p, 1, none⟩ = some (.slice O ow.length d) := S1.c1
  have S1H := Lib.hid S1
  clear b1 S1 S0 BX B0 FND x0 c1
  generalize w0.drewN nq = w1 at *
  cases cb with
  | false =>
    have hin : owner ∉ ow := fun q => by have := CB.out; rw [List.contains_iff_mem.2 q] at this; cases this
    have RES := Lib.hid (show RemIs F w p owner all ow (.returned (.int .i64 0)) w1 from by
      refine ⟨?_, ?_, Kp.of B1.out⟩
      · unfold hadL; rw [rem_none OK.out hin, Nat.sub_self]; rfl
      · rw [rem_none OK.out hin, remO_none hin]; exact S1H.out.in_)
    clear hin
    go_wp2_with fail
    go_ret
    exact RES.out
  | true =>
    have hin : owner ∈ ow := List.contains_iff_mem.1 CB.out
    obtain ⟨hk, hcut⟩ := KC.out hin
    have HC := Lib.hid hcut
    have W1 : IntKind.i64.wrap ((k : Int) + 1) = (k : Int) + 1 := IntWalk.i64_in _ (by omega)
    have DEL := Lib.hid (delI_is w1 O d ow k S1H.out.nums hk (by omega))
    clear hcut KC
    go_wp2_with fail
    refine DEL.out.mono ?_
    rintro e w2 ⟨g, rfl, rfl, R2, K2⟩
    have gp : g ≠ p := R2.ne (S1H.out.box.kp K2 (fun e => by
      have := (S1H.out.nums.has rfl).2.ne S1H.out.box (by decide)
      exact this e.symm)) (by decide)
    have BX2 := S1H.out.box.kp K2 (fun e => gp e.symm)
    have T2 := S1H.out.tags.stay K2 (fun j e q => (S1H.out.tags.has e).2.ne (S1H.out.nums.has rfl).2 (by decide) q)
    have OWN2 := BX1.out.kp K2 (fun e => by have := (SS.out.nums.has rfl).2.lt; omega)
    obtain ⟨gA, rfl⟩ : ∃ gA, A = some ⟨gA, 0, none⟩ := by
      rcases SS.out.tags.2.2 with ⟨rfl, e⟩ | ⟨gA, e, -, -⟩
      · obtain ⟨t, ht, -⟩ := (OK.out.own owner).1 hin
        have := List.length_pos_of_mem ht
        have := SS.out.tags.2.1
        omega
      · exact ⟨gA, e⟩
    obtain ⟨R3, K3⟩ := BX2.setCell 1 (by simp) (.slice (some ⟨g, 0, none⟩) (ow.length - 1) d)
    have q1 : w2.cell? ⟨p, 1, none⟩ = some (.slice (some ⟨g, 0, none⟩) ow.length d) := BX2.cell rfl
    have q2 : w2.frozen? ⟨p, 1, none⟩ = false := BX2.frozen 1
    have q0 : w2.cell? ⟨p, 0, none⟩ = some (.slice (some ⟨gA, 0, none⟩) all.length cA) := BX2.cell rfl
    have gAp : gA ≠ p := (T2.has rfl).2.ne BX2 (by decide)
    have T3 := (T2.has rfl).2.kp K3 gAp
    have OWN3 := OWN2.kp K3 (fun e => by omega)
    have I3 := R2.kp K3 gp
    obtain ⟨w3, hw3⟩ : ∃ w3 : World, w3 = w2.setCell ⟨p, 1, none⟩ (.slice (some ⟨g, 0, none⟩) (ow.length - 1) d) := ⟨_, rfl⟩
    rw [← hw3] at R3 K3 T3 OWN3 I3
    have p3 : w3.cell? ⟨p, 0, none⟩ = some (.slice (some ⟨gA, 0, none⟩) all.length cA) := R3.cell rfl
    have eg : ∀ args w, (callFunc 65 args).run Try.prog w = .ok (.enter 65 args) w := enters_of Try.func65 (by kernel_rfl) rfl
    have gAw : gA ≠ w.heap.size := by have := (SS.out.tags.has rfl).2.lt; omega
    have DT := Lib.hid (delT_is w3 gA all.length cA all (fun x => decide (x.2 = owner)) 65 #[.pointer (some ⟨w.heap.size, 0, none⟩)] eg T3 rfl SS.out.tags.2.1 (by omega) (fun W x hk => by
      have OW := OWN3.kp hk (fun e => gAw e.symm)
      exact rem1_is W w.heap.size owner x (OW.cell rfl) OW.lt))
    have FE := Lib.hid (show (all.filter fun x => !decide (x.2 = owner)) = remL owner all from List.filter_congr fun x _ => by simp)
    rw [FE.out] at DT
    have KW := Lib.hid (show Kp F w w3 from (Kp.of B1.out).trans ((K2.mono fun j e => e ▸ (SS.out.nums.has rfl).1).trans (K3.mono fun j e => e ▸ SS.out.foot)))
    have R3H := Lib.hid R3
    have I3H := Lib.hid I3
    clear eg R3 K3 T3 OWN3 I3 OWN2 T2 BX2 K2 R2 DEL
    go_wp2_with fail
    rw [← hw3]
    clear hw3 q0 q1 q2
    refine DT.out.mono ?_
    rintro e w4 ⟨rfl, R4, K4⟩
    have LR : (remL owner all).length ≤ all.length := List.length_filter_le _ _
    have HL := Lib.hid (show hadL owner all = all.length - (remL owner all).length from rfl)
    have BX4 := R3H.out.kp K4 (fun e => gAp e.symm)
    obtain ⟨R5, K5⟩ := BX4.setCell 0 (by simp) (.slice (some ⟨gA, 0, none⟩) (remL owner all).length cA)
    have r1 : w4.cell? ⟨p, 0, none⟩ = some (.slice (some ⟨gA, 0, none⟩) all.length cA) := BX4.cell rfl
    have r2 : w4.frozen? ⟨p, 0, none⟩ = false := BX4.frozen 0
    obtain ⟨w5, hw5⟩ : ∃ w5 : World, w5 = w4.setCell ⟨p, 0, none⟩ (.slice (some ⟨gA, 0, none⟩) (remL owner all).length cA) := ⟨_, rfl⟩
    have T5 := R4.kp K5 gAp
    have ggA : g ≠ gA := by
      have a := I3H.out
      have b := R4
      have := (a.kp K4 (fun e => ?_))
      · exact this.ne b (by decide)
      · subst e
        exact (SS.out.nums.has rfl).2.ne (SS.out.tags.has rfl).2 (by decide) rfl
    have I5 := (I3H.out.kp K4 ggA).kp K5 gp
    rw [← hw5] at R5 K5 T5 I5
    have KALL := Lib.hid (show Kp F w w5 from KW.out.trans ((K4.mono fun j e => e ▸ (SS.out.tags.has rfl).1).trans (K5.mono fun j e => e ▸ SS.out.foot)))
    have RES := Lib.hid (show SetIn F w5 p (remL owner all) (remO owner ow) from by
      have OKR := remO_ok (owner := owner) OK.out
      have ol : (remO owner ow).length = ow.length - 1 := by
        rw [HC.out, List.length_append, List.length_take, List.length_drop]; omega
      refine ⟨some ⟨gA, 0, none⟩, cA, some ⟨g, 0, none⟩, d, by rw [ol]; exact R5, SS.out.foot, ⟨by rw [cells_len (k := 3) (fun _ => rfl)], Nat.le_trans LR SS.out.tags.2.1, .inr ⟨gA, rfl, (SS.out.tags.has rfl).1, T5⟩⟩, ⟨by rw [cells_len (k := 1) (fun _ => rfl)], Nat.le_trans (remO_len _ _) SS.out.nums.2.1, .inr ⟨g, rfl, (SS.out.nums.has rfl).1, by rw [HC.out]; exact I5⟩⟩, OKR⟩)
    clear R4 K4 BX4 R5 K5 T5 I5 DT
    generalize (remL owner all).length = m at *
    have W2 : IntKind.i64.wrap ((all.length : Int) - m) = ((all.length - m : Nat) : Int) := by rw [show ((all.length : Int) - m) = ((all.length - m : Nat) : Int) from by omega]; exact IntWalk.i64_in _ (by omega)
    generalize all.length - m = hd at *
    go_wp2_with fail
    rw [← hw5]
    go_ret
    exact ⟨by rw [HL.out]; rfl, RES.out, KALL.out⟩
end Go.Proofs.Ytjodhfehfpmfaaa.Iv
