/- The walk of voklaw10.played: a set behind calls. -/
import Derived.Test.YtjodhfehfpmfaaaIvPlay
set_option linter.unusedVariables false
namespace Go.Proofs.Ytjodhfehfpmfaaa.Iv
open Go.RowKit

/-- what played tells -/
def PlayIs (w : World) (ops : List OpR) (e : Ending) (w' : World) : Prop :=
  Below w.heap.size w w' ∧ ((fewB ops = true ∧ ∃ p, e = .returned (.pointer (some ⟨p, 0, none⟩)) ∧ w.heap.size ≤ p ∧ SetIn (fun k => w.heap.size ≤ k) w' p (playN ops ops.length).1 (playN ops ops.length).2 ∧ (playN ops ops.length).1.length ≤ 3000 ∧ (playN ops ops.length).2.length ≤ 200) ∨ (fewB ops = false ∧ e = .returned (.pointer none)))
theorem OpAt.kl {W : World} {A : Option Addr} {n : Nat} {ops : List OpR} (h : OpAt W A n ops) : ∀ t, t < ops.length → (gt ops t).k = (gt ops t).l.length := fun t ht => by
  have e := h.1
  obtain ⟨b, o, -, -, hc⟩ := h.2 (by omega)
  obtain ⟨-, -, -, -, s, -⟩ := hc t (by omega)
  exact s.1
set_option maxRecDepth 100000 in
set_option maxHeartbeats 8000000 in
theorem played_is (w : World) (A : Option Addr) (n c : Nat) (ops : List OpR) (hA : OpAt w A n ops) (hm : n ≤ 9223372036854775807) :
    Calls Try.prog 33 #[.slice A n c] w (PlayIs w ops) := by
  have HA := Lib.hid hA
  have LN := Lib.hid hA.1
  have KL := Lib.hid hA.kl
  clear hA
  go_enter Try.func33, Try.ntmps33
  go_wp2_with fail
  refine (new_is (F := fun k => w.heap.size ≤ k) w fun k h => h).mono ?_
  rintro e w1 ⟨rfl, S1, b1⟩
  have S1H := Lib.hid S1
  have B1 := Lib.hid b1
  clear S1 b1
  go_wp2_with fail
  refine (few_is w1 A n c ops (HA.out.below B1.out) hm).mono ?_
  rintro e w2 ⟨rfl, b2⟩
  have B2 := Lib.hid (B1.out.trans (b2.mono B1.out.size))
  have S2H := Lib.hid (S1H.out.below b2)
  have FI := Lib.hid (few_iff (ops := ops))
  clear b2 S1H B1
  cases hf : fewB ops with
  | false =>
    have HF := Lib.hid hf
    clear hf
    go_wp2_with fail
    go_ret
    exact ⟨B2.out, .inr ⟨HF.out, rfl⟩⟩
  | true =>
    have FW := Lib.hid (FI.out.1 hf)
    have HF := Lib.hid hf
    have hn : n ≤ 200 := by have := FW.out.len; have := LN.out; omega
    clear hf FI
    go_wp2_with fail
    go_loopw [4] (fun i wr => ∃ t : Nat, i = .int .i64 t ∧ t ≤ n ∧ SetIn (fun k => w.heap.size ≤ k) wr w.heap.size (playN ops t).1 (playN ops t).2 ∧ Below w.heap.size w wr) (fun i _ => n - (intOf i).toNat)
    case atStart => exact ⟨0, rfl, Nat.zero_le _, S2H.out, B2.out⟩
    case round =>
      obtain ⟨wo, rfl⟩ : ∃ wo : World, wo = wr := ⟨_, rfl⟩
      obtain ⟨t, rfl, ht, hS, hB⟩ := hrel
      have S := Lib.hid hS
      have B := Lib.hid hB
      have sz := hB.size
      have PL := Lib.hid (play_len FW.out KL.out t (by have := LN.out; omega))
      clear hS hB
      by_cases hlt : t < n
      · have s0 : decide ((t : Int) < n) = true := decide_eq_true (by omega)
        have s00 : decide (t < n) = true := decide_eq_true hlt
        have i5 : (t : Int) < n := by omega
        have W1 : IntKind.i64.wrap ((t : Int) + 1) = (t : Int) + 1 := IntWalk.i64_in _ (by omega)
        have KK := Lib.hid (FW.out.k (t := t) (by have := LN.out; omega))
        have ST := Lib.hid (show playN ops (t + 1) = stepO (playN ops t) (gt ops t) from rfl)
        obtain ⟨b1, o1, rfl, hl1, hc1⟩ := HA.out.2 (by omega)
        obtain ⟨c0, c1, c2, c3, hsp, -⟩ := hc1 t hlt
        replace c0 := (B.out.cell (p := ⟨b1, _, none⟩) hl1).trans c0
        replace c1 := (B.out.cell (p := ⟨b1, _, none⟩) hl1).trans c1
        replace c3 := (B.out.cell (p := ⟨b1, _, none⟩) hl1).trans c3
        have SP := Lib.hid (hsp.below B.out)
        clear hc1 c2 hsp
        have lim : (playN ops t).1.length + (gt ops t).k ≤ 3000 ∧ (playN ops t).2.length ≤ 200 := by
          obtain ⟨a1, a2⟩ := PL.out
          obtain ⟨b1, b2, b3⟩ := KK.out
          omega
        generalize playN ops t = st at *
        generalize gt ops t = o at *
        obtain ⟨lim1, lim2⟩ := lim
        by_cases k0 : o.kind = 0
        · have q0 : ((o.kind : Int) == 0) = true := by rw [beq_iff_eq]; exact k0
          have E := Lib.hid (show stepO st o = addR (normL o.l) o.n st.1 st.2 by unfold stepO; rw [if_pos k0])
          have SD := Lib.hid (S.out.below ((Below.refl wo.heap.size wo).drew))
          have SPD := Lib.hid (SP.out.below ((Below.refl wo.heap.size wo).drew))
          generalize o.kind = kd at *
          have BD := Lib.hid (B.out.trans ((Below.refl wo.heap.size wo).drew.mono sz))
          go_wp2_with fail
          go_still_tail 11, (by kernel_rfl)
          change wpList _ _ _ _ _ wo.drew
          generalize wo.drew = wd at *
          have szd := BD.out.size
          go_wp2_with fail
          refine (add_is (F := fun k => w.heap.size ≤ k) wd w.heap.size st.1 st.2 o.A o.k o.c o.l o.n SD.out (fun k h => Nat.le_trans szd h) SPD.out (sp_zero SPD.out) (by omega) (by omega)).mono ?_
          rintro e w3 ⟨rfl, S3, K3⟩
          have SX := Lib.hid (show SetIn (fun k => w.heap.size ≤ k) w3 w.heap.size (stepO st o).1 (stepO st o).2 by rw [E.out]; exact S3)
          have B3 := Lib.hid (BD.out.trans (K3.below szd fun k h => h))
          clear S3 K3
          go_wp2_with fail
          go_roundw
          case rel => exact ⟨t + 1, by go_num, by omega, by rw [ST.out]; exact SX.out, B3.out⟩
          case measure => simp [intOf]; omega
        · have q0 : ((o.kind : Int) == 0) = false := by rw [beq_eq_false_iff_ne]; exact k0
          by_cases k1 : o.kind = 1
          · have q1 : ((o.kind : Int) == 1) = true := by rw [beq_iff_eq]; exact k1
            have E := Lib.hid (show stepO st o = (remL o.n st.1, remO o.n st.2) by unfold stepO; rw [if_neg k0, if_pos k1])
            generalize o.kind = kd at *
            go_wp2_with fail
            refine (rem_is (F := fun k => w.heap.size ≤ k) wo w.heap.size st.1 st.2 o.n S.out (fun k h => Nat.le_trans sz h) (by omega) (by omega)).mono ?_
            rintro e w3 ⟨rfl, S3, K3⟩
            have SX := Lib.hid (show SetIn (fun k => w.heap.size ≤ k) w3 w.heap.size (stepO st o).1 (stepO st o).2 by rw [E.out]; exact S3)
            have B3 := Lib.hid (B.out.trans (K3.below sz fun k h => h))
            clear S3 K3
            go_wp2_with fail
            go_roundw
            case rel => exact ⟨t + 1, by go_num, by omega, by rw [ST.out]; exact SX.out, B3.out⟩
            case measure => simp [intOf]; omega
          · have q1 : ((o.kind : Int) == 1) = false := by rw [beq_eq_false_iff_ne]; exact k1
            have E := Lib.hid (show stepO st o = st by unfold stepO; rw [if_neg k0, if_neg k1])
            generalize o.kind = kd at *
            go_wp2_with fail
            go_roundw
            case rel => exact ⟨t + 1, by go_num, by omega, by rw [ST.out, E.out]; exact S.out, B.out⟩
            case measure => simp [intOf]; omega
      · obtain rfl : n = t := by omega
        have s0 : decide ((n : Int) < n) = false := decide_eq_false (by omega)
        have s00 : decide (n < n) = false := decide_eq_false (by omega)
        have RES := Lib.hid (show PlayIs w ops (.returned (.pointer (some ⟨w.heap.size, 0, none⟩))) wo from by
          have := LN.out
          subst this
          obtain ⟨a1, a2⟩ := PL.out
          have := FW.out.sum
          have := FW.out.len
          exact ⟨B.out, .inl ⟨HF.out, _, rfl, Nat.le_refl _, S.out, by omega, by omega⟩⟩)
        go_wp2_with fail
        go_ret
        exact RES.out
end Go.Proofs.Ytjodhfehfpmfaaa.Iv
