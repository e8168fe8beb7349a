/- What the walks of chapter 7 share. -/
import Derived.Test.YtnfcchimkfnmkaaGreatDoorMbG
import Derived.Test.YtnfcchimkfnmkaaGreatDoorRuCopyO
set_option linter.unusedVariables false
namespace Go.Proofs.YtnfcchimkfnmkaaGreatDoor.Mb
open Go.RowKit Cv St Ru Dd

theorem in_below {W w : World} {S : RS} {r : Ru} (h : RuIn W S r) (hb : Below W.heap.size W w) : RuIn w S r :=
  ⟨h.h6.below hb, h.h7.below hb, h.h8.below hb, h.h9.below hb, h.h10.below hb, h.h11.below hb, h.h12.below hb, h.h13.below hb, h.h14.below hb, h.k6, h.k7, h.k8, h.k9, h.k10, h.k11, h.k12, h.k13, h.k14, h.y6, h.y7, h.y8, h.y9, h.y10, h.y11, h.y12, h.y13, h.y14, h.i0, h.i1, h.i2, h.i3, h.i4⟩
theorem own_y {w : World} {B n c k : Nat} {e : TypeId} {A : Option Addr} {xs : List Value} (h : w.ownsRow B e k (.slice A n c) n xs) : A = none → c = 0 := by
  rintro rfl
  rcases h.2 with ⟨q, -⟩ | ⟨g, cap, cur, q, -⟩
  · injection q with q1 q2 q3
  · injection q with q1; cases q1
/-- a copy, as what could have come in -/
theorem in_copy {B : Nat} {W w : World} {S S' : RS} {r : Ru} (h0 : RuIn W S r) (hS : RuAt w S' r) (ow : OwnsR B w S' r) : RuIn w S' r := by
  obtain ⟨u1, u2, u3, u4, u5, u6, u7, u8, u9, -, -, -, -, -, -, -, -, -, -, o6, o7, o8, o9, o10, o11, o12, o13, o14⟩ := ow
  have e6 := hS.h6.1; have e7 := hS.h7.1; have e8 := hS.h8.1; have e9 := hS.h9.1; have e10 := hS.h10.1; have e11 := hS.h11.1; have e12 := hS.h12.1; have e13 := hS.h13.1; have e14 := hS.h14.1
  have l6 := hS.l6; have l7 := hS.l7; have l8 := hS.l8; have l9 := hS.l9; have l10 := hS.l10; have l11 := hS.l11; have l12 := hS.l12; have l13 := hS.l13; have l14 := hS.l14
  refine ⟨hS.h6, hS.h7, hS.h8, hS.h9, hS.h10, hS.h11, hS.h12, hS.h13, hS.h14, by omega, by omega, by omega, by omega, by omega, by omega, by omega, by omega, by omega, ?_, ?_, ?_, ?_, ?_, ?_, ?_, ?_, ?_, h0.i0, h0.i1, h0.i2, h0.i3, h0.i4⟩
  · have q := o6.1; rw [← e6] at q; exact own_y q
  · have q := o7.1; rw [← e7] at q; exact own_y q
  · have q := o8.1; rw [← e8] at q; exact own_y q
  · have q := o9.1; rw [← e9] at q; exact own_y q
  · have q := o10.1; rw [← e10] at q; exact own_y q
  · have q := o11.1; rw [← e11] at q; exact own_y q
  · have q := o12.1; rw [← e12] at q; exact own_y q
  · have q := o13.1; rw [← e13] at q; exact own_y q
  · have q := o14.1; rw [← e14] at q; exact own_y q
theorem few_copy {W w : World} {S S' : RS} {r : Ru} (h0 : RuIn W S r) (hS : RuAt w S' r) (f : fewB S = true) : fewB S' = true := by
  have := of_decide_eq_true f
  have e6 := hS.h6.1; have e7 := hS.h7.1; have e8 := hS.h8.1; have e9 := hS.h9.1; have e10 := hS.h10.1; have e11 := hS.h11.1; have e12 := hS.h12.1; have e13 := hS.h13.1; have e14 := hS.h14.1
  have g6 := h0.h6.1; have g7 := h0.h7.1; have g8 := h0.h8.1; have g9 := h0.h9.1; have g10 := h0.h10.1; have g11 := h0.h11.1; have g12 := h0.h12.1; have g13 := h0.h13.1; have g14 := h0.h14.1
  exact decide_eq_true (by omega)
theorem in_free {w : World} {S : RS} {r : Ru} (h : RuIn w S r) : RuIn w S (freeR r) :=
  ⟨h.h6, h.h7, h.h8, h.h9, h.h10, h.h11, h.h12, h.h13, h.h14, h.k6, h.k7, h.k8, h.k9, h.k10, h.k11, h.k12, h.k13, h.k14, h.y6, h.y7, h.y8, h.y9, h.y10, h.y11, h.y12, h.y13, h.y14, h.i0, h.i1, by show -9223372036854775808 ≤ (0 : Int) ∧ (0 : Int) ≤ 9223372036854775807; omega, by show -9223372036854775808 ≤ (0 : Int) ∧ (0 : Int) ≤ 9223372036854775807; omega, h.i4⟩
end Go.Proofs.YtnfcchimkfnmkaaGreatDoor.Mb
