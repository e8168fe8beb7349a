/- container/heap's up, at the program's heap. -/
import Derived.Test.YtjodhfehfpmfaaaTiHeap
set_option linter.unusedVariables false
namespace Go.Proofs.Ytjodhfehfpmfaaa.Ti
open Go.RowKit Iv

theorem m_less {W : World} {q : Nat} {v : Value} (h : W.cell? ⟨q, 0, none⟩ = some v) (f : Nat) : (method (f + 1) 110 (.pointer (some ⟨q, 0, none⟩)) "Less").run Try.prog W = .ok (164, v) W := by
  have e : (method (f + 1) 110 (.pointer (some ⟨q, 0, none⟩)) "Less").run Try.prog W = ((loadVar 106 ⟨q, 0, none⟩) >>= fun x => pure (164, x)).run Try.prog W := by kernel_rfl
  rw [e]
  simp [loadVar, h]
theorem m_swap {W : World} {q : Nat} {v : Value} (h : W.cell? ⟨q, 0, none⟩ = some v) (f : Nat) : (method (f + 1) 110 (.pointer (some ⟨q, 0, none⟩)) "Swap").run Try.prog W = .ok (165, v) W := by
  have e : (method (f + 1) 110 (.pointer (some ⟨q, 0, none⟩)) "Swap").run Try.prog W = ((loadVar 106 ⟨q, 0, none⟩) >>= fun x => pure (165, x)).run Try.prog W := by kernel_rfl
  rw [e]
  simp [loadVar, h]
theorem m_push (W : World) (q : Nat) (f : Nat) : (method (f + 1) 110 (.pointer (some ⟨q, 0, none⟩)) "Push").run Try.prog W = .ok (167, .pointer (some ⟨q, 0, none⟩)) W := by kernel_rfl
theorem m_pop (W : World) (q : Nat) (f : Nat) : (method (f + 1) 110 (.pointer (some ⟨q, 0, none⟩)) "Pop").run Try.prog W = .ok (166, .pointer (some ⟨q, 0, none⟩)) W := by kernel_rfl
/-- the queue's box: a slice of the row at g -/
abbrev Bx (w : World) (q g n cap : Nat) : Prop := w.cell? ⟨q, 0, none⟩ = some (.slice (some ⟨g, 0, none⟩) n cap)
/-- what up and down leave -/
def Sifted (W : World) (g cap : Nat) (h : List It) (good : List It → Prop) (w' : World) : Prop := ∃ h', Its w' g cap h' ∧ h'.length = h.length ∧ good h' ∧ Kp (· = g) W w'
set_option maxRecDepth 100000 in
set_option maxHeartbeats 8000000 in
theorem up_is (W : World) (q g cap : Nat) (h : List It) (j : Nat) (bx : Bx W q g h.length cap) (qg : q ≠ g) (ql : q < W.heap.size) (r : Its W g cap h) (ui : UpInv h j) (hj : j < h.length) (hl : h.length ≤ 1000000) :
    Calls Try.prog 96 #[.iface 110 (.pointer (some ⟨q, 0, none⟩)), .int .i64 j] W fun e w' => e = .returned (.tuple #[]) ∧ Sifted W g cap h (fun h' => h'.Perm h ∧ HeapFrom h' h'.length 0) w' := by
  have R0 := Lib.hid r
  have U0 := Lib.hid ui
  have BX := Lib.hid bx
  clear r ui bx
  generalize hn : h.length = n at *
  have HN := Lib.hid hn
  clear hn
  go_enter Try.func96, Try.ntmps96
  go_wp2_with fail
  go_loopw [1] (fun jv wr => ∃ (t : Nat) (k : List It), jv = .int .i64 t ∧ t < n ∧ Hid (k.length = n ∧ k.Perm h ∧ UpInv k t ∧ Its wr g cap k ∧ Kp (· = g) W wr)) (fun jv _ => (intOf jv).toNat)
  case atStart => exact ⟨j, h, rfl, hj, Lib.hid ⟨HN.out, List.Perm.refl _, U0.out, R0.out, Kp.refl _ _⟩⟩
  case round =>
    obtain ⟨wo, rfl⟩ : ∃ wo : World, wo = wr := ⟨_, rfl⟩
    obtain ⟨t, k, rfl, ht, HH⟩ := hrel
    have b0 : Bx wo q g n cap := (HH.out.2.2.2.2.cell (o := 0) ql qg).trans BX.out
    have mL := m_less b0 (195 + 100)
    simp only [Nat.reduceAdd] at mL
    rcases Nat.eq_zero_or_pos t with rfl | tp
    · go_wp2_with fail
      go_end0
      exact ⟨rfl, k, HH.out.2.2.2.1, by rw [HN.out]; exact HH.out.1, ⟨HH.out.2.1, HH.out.2.2.1.done (.inl rfl)⟩, HH.out.2.2.2.2⟩
    · obtain ⟨p, hp⟩ : ∃ p, (t - 1) / 2 = p := ⟨_, rfl⟩
      have hpt : p < t := by omega
      have Wa : IntKind.i64.wrap ((t : Int) - 1) = (t : Int) - 1 := IntWalk.i64_in _ (by omega)
      have Wb : IntKind.i64.wrap (((t : Int) - 1).tdiv 2) = (p : Int) := by
        rw [Int.tdiv_eq_ediv_of_nonneg (by omega), IntWalk.i64_in _ (by omega)]
        omega
      have ne : ((p : Int) == t) = false := beq_eq_false_iff_ne.2 (by omega)
      have LM := Lib.hid (less_m wo g cap k t p HH.out.2.2.2.1 (by rw [HH.out.1]; exact ht) (by rw [HH.out.1]; omega) (by rw [HH.out.1]; exact hl))
      rw [HH.out.1] at LM
      cases hb : ltB (gt k t) (gt k p) with
      | false =>
        rw [hb] at LM
        have HB := Lib.hid hb
        clear hb
        go_wp2_with fail
        refine LM.out.mono ?_
        rintro e w1 ⟨rfl, b1⟩
        have DN := Lib.hid (HH.out.2.2.1.done (.inr (by rw [hp]; exact HB.out)))
        have R1 := Lib.hid (HH.out.2.2.2.1.below b1)
        have K1 := Lib.hid (HH.out.2.2.2.2.trans (Kp.of b1))
        clear b1
        go_wp2_with fail
        go_end0
        exact ⟨rfl, k, R1.out, by rw [HN.out]; exact HH.out.1, ⟨HH.out.2.1, DN.out⟩, K1.out⟩
      | true =>
        rw [hb] at LM
        have HB := Lib.hid hb
        clear hb
        go_wp2_with fail
        refine LM.out.mono ?_
        rintro e w1 ⟨rfl, b1⟩
        have R1 := Lib.hid (HH.out.2.2.2.1.below b1)
        have K1 := Lib.hid (HH.out.2.2.2.2.trans (Kp.of b1))
        have b2 : Bx w1 q g n cap := (K1.out.cell (o := 0) ql qg).trans BX.out
        have mS := m_swap b2 (195 + 100)
        simp only [Nat.reduceAdd] at mS
        have SM := Lib.hid (swap_m w1 g cap k p t R1.out (by rw [HH.out.1]; omega) (by rw [HH.out.1]; exact ht) (by rw [HH.out.1]; exact hl))
        rw [HH.out.1] at SM
        have UP := Lib.hid (HH.out.2.2.1.step (by rw [HH.out.1]; exact ht) tp (by rw [hp]; exact HB.out))
        rw [hp] at UP
        clear b1 LM mL b0
        go_wp2_with fail
        refine SM.out.mono ?_
        rintro e w2 ⟨rfl, r2, k2⟩
        have H2 := Lib.hid (show (swp k p t).length = n ∧ (swp k p t).Perm h ∧ UpInv (swp k p t) p ∧ Its w2 g cap (swp k p t) ∧ Kp (· = g) W w2 from ⟨by rw [swp_len]; exact HH.out.1, (swp_perm (by rw [HH.out.1]; omega) (by rw [HH.out.1]; exact ht)).trans HH.out.2.1, UP.out, r2, K1.out.trans k2⟩)
        clear r2 k2 SM UP R1 K1
        go_wp2_with fail
        go_roundw
        case rel => exact ⟨p, swp k p t, rfl, by omega, H2⟩
        case measure => simp [intOf]; omega
end Go.Proofs.Ytjodhfehfpmfaaa.Ti
