/- A rule in a box of the call's own, written field by field. -/
import Derived.Test.YtkkmhjplfpdhcaaGreatDoorRpM
set_option linter.unusedVariables false
namespace Go.Proofs.YtkkmhjplfpdhcaaGreatDoor.Ru
open Go.RowKit Cv St

/-- a slice that does not lie in block g -/
def Far (A : Option Addr) (g : Nat) : Prop := ∀ b off, A = some ⟨b, off, none⟩ → b ≠ g
theorem Far.none (g : Nat) : Far none g := fun b off e => by cases e
theorem Far.fresh {B g : Nat} {A : Option Addr} (h : Fresh B A) (hg : g < B) : Far A g := fun b off e => by have := (h b off e).1; omega
theorem IsAt.set {w : World} {A : Option Addr} {n g k : Nat} {l : List Int} {u : Value} (h : IsAt w A n l) (f : Far A g) : IsAt (w.setCell ⟨g, k, none⟩ u) A n l :=
  ⟨h.1, fun h0 => by
    obtain ⟨b, off, e, hlt, hc⟩ := h.2 h0
    have hb := f b off e
    exact ⟨b, off, e, by simpa using hlt, fun j hj => (World.cell?_setCell_other _ _ _ _ (by intro q; injection q with q; exact hb q.symm)).trans (hc j hj)⟩⟩
theorem DyAt.set {w : World} {A : Option Addr} {n g k : Nat} {l : List Dy} {u : Value} (h : DyAt w A n l) (f : Far A g) : DyAt (w.setCell ⟨g, k, none⟩ u) A n l :=
  ⟨h.1, fun h0 => by
    obtain ⟨b, off, e, hlt, hc⟩ := h.2 h0
    have hb := f b off e
    exact ⟨b, off, e, by simpa using hlt, fun j hj => ⟨(World.cell?_setCell_other _ _ _ _ (by intro q; injection q with q; exact hb q.symm)).trans (hc j hj).1, (World.cell?_setCell_other _ _ _ _ (by intro q; injection q with q; exact hb q.symm)).trans (hc j hj).2⟩⟩⟩
structure RFar (S : RS) (g : Nat) : Prop where
  f6 : Far S.a6 g
  f7 : Far S.a7 g
  f8 : Far S.a8 g
  f9 : Far S.a9 g
  f10 : Far S.a10 g
  f11 : Far S.a11 g
  f12 : Far S.a12 g
  f13 : Far S.a13 g
  f14 : Far S.a14 g
theorem RuAt.set {w : World} {S : RS} {r : Ru} {g k : Nat} {u : Value} (h : RuAt w S r) (f : RFar S g) : RuAt (w.setCell ⟨g, k, none⟩ u) S r :=
  ⟨h.h6.set f.f6, h.h7.set f.f7, h.h8.set f.f8, h.h9.set f.f9, h.h10.set f.f10, h.h11.set f.f11, h.h12.set f.f12, h.h13.set f.f13, h.h14.set f.f14, h.l6, h.l7, h.l8, h.l9, h.l10, h.l11, h.l12, h.l13, h.l14⟩
structure RZero (B : Nat) (S : RS) : Prop where
  z6 : Fresh B S.a6
  z7 : Fresh B S.a7
  z8 : Fresh B S.a8
  z9 : Fresh B S.a9
  z10 : Fresh B S.a10
  z11 : Fresh B S.a11
  z12 : Fresh B S.a12
  z13 : Fresh B S.a13
  z14 : Fresh B S.a14
/-- in w, behind W, block g holds the rule r -/
structure RBox (B : Nat) (W w : World) (g : Nat) (S : RS) (r : Ru) : Prop where
  lo : B ≤ g
  lt : g < w.heap.size
  cells : ∀ k u, (S.cells r)[k]? = some u → w.cell? ⟨g, k, none⟩ = some u
  free : ∀ k, w.frozen? ⟨g, k, none⟩ = false
  at_ : RuAt w S r
  far : RFar S g
  zero : RZero B S
  below : Below B W w
theorem RBox.on {B : Nat} {W w w2 : World} {g : Nat} {S : RS} {r : Ru} (h : RBox B W w g S r) (hB : B ≤ w.heap.size) (hb : Below w.heap.size w w2) : RBox B W w2 g S r where
  lo := h.lo
  lt := Nat.lt_of_lt_of_le h.lt hb.size
  cells := fun k u e => (hb.cell (p := ⟨g, k, none⟩) h.lt).trans (h.cells k u e)
  free := fun k => (hb.frozen (p := ⟨g, k, none⟩) h.lt).trans (h.free k)
  at_ := h.at_.below hb
  far := h.far
  zero := h.zero
  below := h.below.trans (hb.mono hB)
theorem RBox.put {B : Nat} {W w : World} {g : Nat} {S S' : RS} {r r' : Ru} (h : RBox B W w g S r) (k : Nat) (u : Value) (hk : k < 15) (hc : S'.cells r' = (S.cells r).setIfInBounds k u) (ha : RuAt (w.setCell ⟨g, k, none⟩ u) S' r') (hf : RFar S' g) (hz : RZero B S') : RBox B W (w.setCell ⟨g, k, none⟩ u) g S' r' where
  lo := h.lo
  lt := by simpa using h.lt
  cells := fun j v e => by
    rw [hc] at e
    by_cases ej : k = j
    · subst ej
      have hs : k < (S.cells r).size := hk
      rw [Array.getElem?_setIfInBounds_self_of_lt hs] at e
      injection e with e; subst e
      exact World.cell?_setCell_same _ _ _ (h.cells k _ (Array.getElem?_eq_getElem hs))
    · rw [Array.getElem?_setIfInBounds_ne ej] at e
      exact (World.cell?_setCell_other _ _ _ _ (by intro q; injection q with _ q; exact ej q)).trans (h.cells j v e)
  free := fun j => by simpa using h.free j
  at_ := ha
  far := hf
  zero := hz
  below := h.below.setCell (p := ⟨g, k, none⟩) h.lo u
theorem RBox.put0 {B : Nat} {W w : World} {g : Nat} {S : RS} {r : Ru} (h : RBox B W w g S r) (z : Int) : RBox B W (w.setCell ⟨g, 0, none⟩ (.int .i64 z)) g S { r with freq := z } :=
  h.put 0 (.int .i64 z) (by decide) rfl (h.at_.set h.far |> fun a => ⟨a.h6, a.h7, a.h8, a.h9, a.h10, a.h11, a.h12, a.h13, a.h14, a.l6, a.l7, a.l8, a.l9, a.l10, a.l11, a.l12, a.l13, a.l14⟩) h.far h.zero
theorem RBox.put1 {B : Nat} {W w : World} {g : Nat} {S : RS} {r : Ru} (h : RBox B W w g S r) (z : Int) : RBox B W (w.setCell ⟨g, 1, none⟩ (.int .i64 z)) g S { r with itv := z } :=
  h.put 1 (.int .i64 z) (by decide) rfl (h.at_.set h.far |> fun a => ⟨a.h6, a.h7, a.h8, a.h9, a.h10, a.h11, a.h12, a.h13, a.h14, a.l6, a.l7, a.l8, a.l9, a.l10, a.l11, a.l12, a.l13, a.l14⟩) h.far h.zero
theorem RBox.put2 {B : Nat} {W w : World} {g : Nat} {S : RS} {r : Ru} (h : RBox B W w g S r) (z : Int) : RBox B W (w.setCell ⟨g, 2, none⟩ (.int .i64 z)) g S { r with cnt := z } :=
  h.put 2 (.int .i64 z) (by decide) rfl (h.at_.set h.far |> fun a => ⟨a.h6, a.h7, a.h8, a.h9, a.h10, a.h11, a.h12, a.h13, a.h14, a.l6, a.l7, a.l8, a.l9, a.l10, a.l11, a.l12, a.l13, a.l14⟩) h.far h.zero
theorem RBox.put3 {B : Nat} {W w : World} {g : Nat} {S : RS} {r : Ru} (h : RBox B W w g S r) (z : Int) : RBox B W (w.setCell ⟨g, 3, none⟩ (.int .i64 z)) g S { r with til := z } :=
  h.put 3 (.int .i64 z) (by decide) rfl (h.at_.set h.far |> fun a => ⟨a.h6, a.h7, a.h8, a.h9, a.h10, a.h11, a.h12, a.h13, a.h14, a.l6, a.l7, a.l8, a.l9, a.l10, a.l11, a.l12, a.l13, a.l14⟩) h.far h.zero
theorem RBox.put4 {B : Nat} {W w : World} {g : Nat} {S : RS} {r : Ru} (h : RBox B W w g S r) (z : Int) : RBox B W (w.setCell ⟨g, 4, none⟩ (.int .i64 z)) g S { r with wkst := z } :=
  h.put 4 (.int .i64 z) (by decide) rfl (h.at_.set h.far |> fun a => ⟨a.h6, a.h7, a.h8, a.h9, a.h10, a.h11, a.h12, a.h13, a.h14, a.l6, a.l7, a.l8, a.l9, a.l10, a.l11, a.l12, a.l13, a.l14⟩) h.far h.zero
theorem RBox.put5 {B : Nat} {W w : World} {g : Nat} {S : RS} {r : Ru} (h : RBox B W w g S r) (z : Bool) : RBox B W (w.setCell ⟨g, 5, none⟩ (.bool z)) g S { r with ends := z } :=
  h.put 5 (.bool z) (by decide) rfl (h.at_.set h.far |> fun a => ⟨a.h6, a.h7, a.h8, a.h9, a.h10, a.h11, a.h12, a.h13, a.h14, a.l6, a.l7, a.l8, a.l9, a.l10, a.l11, a.l12, a.l13, a.l14⟩) h.far h.zero
theorem RBox.put6 {B : Nat} {W w : World} {g : Nat} {S : RS} {r : Ru} (h : RBox B W w g S r) (A : Option Addr) (c : Nat) (m : List Int) (hm : IsAt w A m.length m) (hl : m.length ≤ 140737488355328) (hf : Far A g) (hz : Fresh B A) : RBox B W (w.setCell ⟨g, 6, none⟩ (.slice A m.length c)) g { S with a6 := A, n6 := m.length, c6 := c } { r with mon := m } :=
  h.put 6 (.slice A m.length c) (by decide) rfl (h.at_.set h.far |> fun a => ⟨hm.set hf, a.h7, a.h8, a.h9, a.h10, a.h11, a.h12, a.h13, a.h14, hl, a.l7, a.l8, a.l9, a.l10, a.l11, a.l12, a.l13, a.l14⟩) ⟨hf, h.far.f7, h.far.f8, h.far.f9, h.far.f10, h.far.f11, h.far.f12, h.far.f13, h.far.f14⟩ ⟨hz, h.zero.z7, h.zero.z8, h.zero.z9, h.zero.z10, h.zero.z11, h.zero.z12, h.zero.z13, h.zero.z14⟩
theorem RBox.put7 {B : Nat} {W w : World} {g : Nat} {S : RS} {r : Ru} (h : RBox B W w g S r) (A : Option Addr) (c : Nat) (m : List Int) (hm : IsAt w A m.length m) (hl : m.length ≤ 140737488355328) (hf : Far A g) (hz : Fresh B A) : RBox B W (w.setCell ⟨g, 7, none⟩ (.slice A m.length c)) g { S with a7 := A, n7 := m.length, c7 := c } { r with week := m } :=
  h.put 7 (.slice A m.length c) (by decide) rfl (h.at_.set h.far |> fun a => ⟨a.h6, hm.set hf, a.h8, a.h9, a.h10, a.h11, a.h12, a.h13, a.h14, a.l6, hl, a.l8, a.l9, a.l10, a.l11, a.l12, a.l13, a.l14⟩) ⟨h.far.f6, hf, h.far.f8, h.far.f9, h.far.f10, h.far.f11, h.far.f12, h.far.f13, h.far.f14⟩ ⟨h.zero.z6, hz, h.zero.z8, h.zero.z9, h.zero.z10, h.zero.z11, h.zero.z12, h.zero.z13, h.zero.z14⟩
theorem RBox.put8 {B : Nat} {W w : World} {g : Nat} {S : RS} {r : Ru} (h : RBox B W w g S r) (A : Option Addr) (c : Nat) (m : List Int) (hm : IsAt w A m.length m) (hl : m.length ≤ 140737488355328) (hf : Far A g) (hz : Fresh B A) : RBox B W (w.setCell ⟨g, 8, none⟩ (.slice A m.length c)) g { S with a8 := A, n8 := m.length, c8 := c } { r with yday := m } :=
  h.put 8 (.slice A m.length c) (by decide) rfl (h.at_.set h.far |> fun a => ⟨a.h6, a.h7, hm.set hf, a.h9, a.h10, a.h11, a.h12, a.h13, a.h14, a.l6, a.l7, hl, a.l9, a.l10, a.l11, a.l12, a.l13, a.l14⟩) ⟨h.far.f6, h.far.f7, hf, h.far.f9, h.far.f10, h.far.f11, h.far.f12, h.far.f13, h.far.f14⟩ ⟨h.zero.z6, h.zero.z7, hz, h.zero.z9, h.zero.z10, h.zero.z11, h.zero.z12, h.zero.z13, h.zero.z14⟩
theorem RBox.put9 {B : Nat} {W w : World} {g : Nat} {S : RS} {r : Ru} (h : RBox B W w g S r) (A : Option Addr) (c : Nat) (m : List Int) (hm : IsAt w A m.length m) (hl : m.length ≤ 140737488355328) (hf : Far A g) (hz : Fresh B A) : RBox B W (w.setCell ⟨g, 9, none⟩ (.slice A m.length c)) g { S with a9 := A, n9 := m.length, c9 := c } { r with mday := m } :=
  h.put 9 (.slice A m.length c) (by decide) rfl (h.at_.set h.far |> fun a => ⟨a.h6, a.h7, a.h8, hm.set hf, a.h10, a.h11, a.h12, a.h13, a.h14, a.l6, a.l7, a.l8, hl, a.l10, a.l11, a.l12, a.l13, a.l14⟩) ⟨h.far.f6, h.far.f7, h.far.f8, hf, h.far.f10, h.far.f11, h.far.f12, h.far.f13, h.far.f14⟩ ⟨h.zero.z6, h.zero.z7, h.zero.z8, hz, h.zero.z10, h.zero.z11, h.zero.z12, h.zero.z13, h.zero.z14⟩
theorem RBox.put10 {B : Nat} {W w : World} {g : Nat} {S : RS} {r : Ru} (h : RBox B W w g S r) (A : Option Addr) (c : Nat) (m : List Dy) (hm : DyAt w A m.length m) (hl : m.length ≤ 140737488355328) (hf : Far A g) (hz : Fresh B A) : RBox B W (w.setCell ⟨g, 10, none⟩ (.slice A m.length c)) g { S with a10 := A, n10 := m.length, c10 := c } { r with day := m } :=
  h.put 10 (.slice A m.length c) (by decide) rfl (h.at_.set h.far |> fun a => ⟨a.h6, a.h7, a.h8, a.h9, hm.set hf, a.h11, a.h12, a.h13, a.h14, a.l6, a.l7, a.l8, a.l9, hl, a.l11, a.l12, a.l13, a.l14⟩) ⟨h.far.f6, h.far.f7, h.far.f8, h.far.f9, hf, h.far.f11, h.far.f12, h.far.f13, h.far.f14⟩ ⟨h.zero.z6, h.zero.z7, h.zero.z8, h.zero.z9, hz, h.zero.z11, h.zero.z12, h.zero.z13, h.zero.z14⟩
theorem RBox.put11 {B : Nat} {W w : World} {g : Nat} {S : RS} {r : Ru} (h : RBox B W w g S r) (A : Option Addr) (c : Nat) (m : List Int) (hm : IsAt w A m.length m) (hl : m.length ≤ 140737488355328) (hf : Far A g) (hz : Fresh B A) : RBox B W (w.setCell ⟨g, 11, none⟩ (.slice A m.length c)) g { S with a11 := A, n11 := m.length, c11 := c } { r with hour := m } :=
  h.put 11 (.slice A m.length c) (by decide) rfl (h.at_.set h.far |> fun a => ⟨a.h6, a.h7, a.h8, a.h9, a.h10, hm.set hf, a.h12, a.h13, a.h14, a.l6, a.l7, a.l8, a.l9, a.l10, hl, a.l12, a.l13, a.l14⟩) ⟨h.far.f6, h.far.f7, h.far.f8, h.far.f9, h.far.f10, hf, h.far.f12, h.far.f13, h.far.f14⟩ ⟨h.zero.z6, h.zero.z7, h.zero.z8, h.zero.z9, h.zero.z10, hz, h.zero.z12, h.zero.z13, h.zero.z14⟩
theorem RBox.put12 {B : Nat} {W w : World} {g : Nat} {S : RS} {r : Ru} (h : RBox B W w g S r) (A : Option Addr) (c : Nat) (m : List Int) (hm : IsAt w A m.length m) (hl : m.length ≤ 140737488355328) (hf : Far A g) (hz : Fresh B A) : RBox B W (w.setCell ⟨g, 12, none⟩ (.slice A m.length c)) g { S with a12 := A, n12 := m.length, c12 := c } { r with minu := m } :=
  h.put 12 (.slice A m.length c) (by decide) rfl (h.at_.set h.far |> fun a => ⟨a.h6, a.h7, a.h8, a.h9, a.h10, a.h11, hm.set hf, a.h13, a.h14, a.l6, a.l7, a.l8, a.l9, a.l10, a.l11, hl, a.l13, a.l14⟩) ⟨h.far.f6, h.far.f7, h.far.f8, h.far.f9, h.far.f10, h.far.f11, hf, h.far.f13, h.far.f14⟩ ⟨h.zero.z6, h.zero.z7, h.zero.z8, h.zero.z9, h.zero.z10, h.zero.z11, hz, h.zero.z13, h.zero.z14⟩
theorem RBox.put13 {B : Nat} {W w : World} {g : Nat} {S : RS} {r : Ru} (h : RBox B W w g S r) (A : Option Addr) (c : Nat) (m : List Int) (hm : IsAt w A m.length m) (hl : m.length ≤ 140737488355328) (hf : Far A g) (hz : Fresh B A) : RBox B W (w.setCell ⟨g, 13, none⟩ (.slice A m.length c)) g { S with a13 := A, n13 := m.length, c13 := c } { r with sec := m } :=
  h.put 13 (.slice A m.length c) (by decide) rfl (h.at_.set h.far |> fun a => ⟨a.h6, a.h7, a.h8, a.h9, a.h10, a.h11, a.h12, hm.set hf, a.h14, a.l6, a.l7, a.l8, a.l9, a.l10, a.l11, a.l12, hl, a.l14⟩) ⟨h.far.f6, h.far.f7, h.far.f8, h.far.f9, h.far.f10, h.far.f11, h.far.f12, hf, h.far.f14⟩ ⟨h.zero.z6, h.zero.z7, h.zero.z8, h.zero.z9, h.zero.z10, h.zero.z11, h.zero.z12, hz, h.zero.z14⟩
theorem RBox.put14 {B : Nat} {W w : World} {g : Nat} {S : RS} {r : Ru} (h : RBox B W w g S r) (A : Option Addr) (c : Nat) (m : List Int) (hm : IsAt w A m.length m) (hl : m.length ≤ 140737488355328) (hf : Far A g) (hz : Fresh B A) : RBox B W (w.setCell ⟨g, 14, none⟩ (.slice A m.length c)) g { S with a14 := A, n14 := m.length, c14 := c } { r with pos := m } :=
  h.put 14 (.slice A m.length c) (by decide) rfl (h.at_.set h.far |> fun a => ⟨a.h6, a.h7, a.h8, a.h9, a.h10, a.h11, a.h12, a.h13, hm.set hf, a.l6, a.l7, a.l8, a.l9, a.l10, a.l11, a.l12, a.l13, hl⟩) ⟨h.far.f6, h.far.f7, h.far.f8, h.far.f9, h.far.f10, h.far.f11, h.far.f12, h.far.f13, hf⟩ ⟨h.zero.z6, h.zero.z7, h.zero.z8, h.zero.z9, h.zero.z10, h.zero.z11, h.zero.z12, h.zero.z13, hz⟩
theorem grown_1 {w w2 : World} {g k : Nat} {u : Value} (hb : Below w.heap.size w w2) : w.grownBy (w2.setCell ⟨g, k, none⟩ u) (some g) :=
  ⟨hb.os, hb.tape, hb.output, by simpa using hb.size, fun j hj hne => (Below.heap_setCell w2 ⟨g, k, none⟩ u j (fun e => hne (by rw [e]))).trans (hb.block j hj)⟩
theorem grown_2 {w w2 : World} {g k i : Nat} {u v : Value} (hb : Below w.heap.size w w2) : w.grownBy ((w2.setCell ⟨g, k, none⟩ u).setCell ⟨g, i, none⟩ v) (some g) :=
  ⟨hb.os, hb.tape, hb.output, by simpa using hb.size, fun j hj hne => (Below.heap_setCell (w2.setCell ⟨g, k, none⟩ u) ⟨g, i, none⟩ v j (fun e => hne (by rw [e]))).trans ((Below.heap_setCell w2 ⟨g, k, none⟩ u j (fun e => hne (by rw [e]))).trans (hb.block j hj))⟩
theorem grown_0 {w w2 : World} {row : Option Nat} (hb : Below w.heap.size w w2) : w.grownBy w2 row := ⟨hb.os, hb.tape, hb.output, hb.size, fun j hj _ => hb.block j hj⟩
theorem IsAt.kept {w w2 : World} {A : Option Addr} {n : Nat} {l : List Int} {row : Option Nat} (h : IsAt w A n l) (hg : w.grownBy w2 row) (f : 0 < n → ∀ b off, A = some ⟨b, off, none⟩ → some b ≠ row) : IsAt w2 A n l :=
  ⟨h.1, fun h0 => by
    obtain ⟨b, off, e, hlt, hc⟩ := h.2 h0
    have hb := hg.block b hlt (f h0 b off e)
    exact ⟨b, off, e, Nat.lt_of_lt_of_le hlt hg.size, fun j hj => (World.cell?_of_block (a := ⟨b, _, none⟩) hb).trans (hc j hj)⟩⟩
theorem DyAt.kept {w w2 : World} {A : Option Addr} {n : Nat} {l : List Dy} {row : Option Nat} (h : DyAt w A n l) (hg : w.grownBy w2 row) (f : 0 < n → ∀ b off, A = some ⟨b, off, none⟩ → some b ≠ row) : DyAt w2 A n l :=
  ⟨h.1, fun h0 => by
    obtain ⟨b, off, e, hlt, hc⟩ := h.2 h0
    have hb := hg.block b hlt (f h0 b off e)
    exact ⟨b, off, e, Nat.lt_of_lt_of_le hlt hg.size, fun j hj => ⟨(World.cell?_of_block (a := ⟨b, _, none⟩) hb).trans (hc j hj).1, (World.cell?_of_block (a := ⟨b, _, none⟩) hb).trans (hc j hj).2⟩⟩⟩
theorem SsAt.kept {w w2 : World} {A : Option Addr} {n : Nat} {l : List ByteArray} {row : Option Nat} (h : SsAt w A n l) (hg : w.grownBy w2 row) (f : ∀ b off, A = some ⟨b, off, none⟩ → some b ≠ row) : SsAt w2 A n l :=
  ⟨h.1, fun h0 => by
    obtain ⟨b, off, e, hlt, hc⟩ := h.2 h0
    have hb := hg.block b hlt (f b off e)
    exact ⟨b, off, e, Nat.lt_of_lt_of_le hlt hg.size, fun j hj => (World.cell?_of_block (a := ⟨b, _, none⟩) hb).trans (hc j hj)⟩⟩
/-- an own slice of strings lies where no number lies -/
theorem own_apart {W w : World} {v : Value} {names : List ByteArray} (hv : OwnT W w v names) (hne : names ≠ [] ∨ v = .slice none 0 0) {b : Nat} {x : Int} (hc : w.cell? ⟨b, 0, none⟩ = some (.int .i64 x)) : some b ≠ v.ownBlock := by
  rcases hv.2 with ⟨rfl, -⟩ | ⟨g, cap, cur, rfl, -, hg, -⟩
  · simp [Value.ownBlock]
  · intro e
    have e' : b = g := by simpa [Value.ownBlock] using e
    subst e'
    rcases hne with hne | hne
    · have h0 : 0 < names.length := List.length_pos_iff.2 hne
      have := World.ownsRow.cellAt hv 0 (by omega)
      rw [hc, List.getElem?_map, List.getElem?_eq_getElem h0] at this
      cases this
    · cases hne
theorem RBox.kept {B : Nat} {W0 W w w2 : World} {g : Nat} {S : RS} {r : Ru} {v : Value} {names : List ByteArray} (h : RBox B W w g S r) (hv : OwnT W0 w v names) (hne : names ≠ [] ∨ v = .slice none 0 0) (hg : w.grownBy w2 v.ownBlock) (hB : Below W0.heap.size w w2) (hl : g < W0.heap.size) (hBW : B ≤ W0.heap.size) : RBox B W w2 g S r where
  lo := h.lo
  lt := Nat.lt_of_lt_of_le h.lt hg.size
  cells := fun k u e => (hB.cell (p := ⟨g, k, none⟩) hl).trans (h.cells k u e)
  free := fun k => (hB.frozen (p := ⟨g, k, none⟩) hl).trans (h.free k)
  at_ := ⟨h.at_.h6.kept hg (fun h0 b off e => by
    obtain ⟨b', off', e', -, hc⟩ := h.at_.h6.2 h0
    have z := (h.zero.z6 b off e).2
    have e2 := e'.symm.trans e
    injection e2 with e2; injection e2 with e2 e3; subst e2; subst e3; subst z
    exact own_apart hv hne (by have q := hc 0 h0; rwa [Nat.zero_add] at q)), h.at_.h7.kept hg (fun h0 b off e => by
    obtain ⟨b', off', e', -, hc⟩ := h.at_.h7.2 h0
    have z := (h.zero.z7 b off e).2
    have e2 := e'.symm.trans e
    injection e2 with e2; injection e2 with e2 e3; subst e2; subst e3; subst z
    exact own_apart hv hne (by have q := hc 0 h0; rwa [Nat.zero_add] at q)), h.at_.h8.kept hg (fun h0 b off e => by
    obtain ⟨b', off', e', -, hc⟩ := h.at_.h8.2 h0
    have z := (h.zero.z8 b off e).2
    have e2 := e'.symm.trans e
    injection e2 with e2; injection e2 with e2 e3; subst e2; subst e3; subst z
    exact own_apart hv hne (by have q := hc 0 h0; rwa [Nat.zero_add] at q)), h.at_.h9.kept hg (fun h0 b off e => by
    obtain ⟨b', off', e', -, hc⟩ := h.at_.h9.2 h0
    have z := (h.zero.z9 b off e).2
    have e2 := e'.symm.trans e
    injection e2 with e2; injection e2 with e2 e3; subst e2; subst e3; subst z
    exact own_apart hv hne (by have q := hc 0 h0; rwa [Nat.zero_add] at q)), h.at_.h10.kept hg (fun h0 b off e => by
    obtain ⟨b', off', e', -, hc⟩ := h.at_.h10.2 h0
    have z := (h.zero.z10 b off e).2
    have e2 := e'.symm.trans e
    injection e2 with e2; injection e2 with e2 e3; subst e2; subst e3; subst z
    exact own_apart hv hne (x := (dat r.day 0).n) (by have q := (hc 0 h0).1; simpa using q)), h.at_.h11.kept hg (fun h0 b off e => by
    obtain ⟨b', off', e', -, hc⟩ := h.at_.h11.2 h0
    have z := (h.zero.z11 b off e).2
    have e2 := e'.symm.trans e
    injection e2 with e2; injection e2 with e2 e3; subst e2; subst e3; subst z
    exact own_apart hv hne (by have q := hc 0 h0; rwa [Nat.zero_add] at q)), h.at_.h12.kept hg (fun h0 b off e => by
    obtain ⟨b', off', e', -, hc⟩ := h.at_.h12.2 h0
    have z := (h.zero.z12 b off e).2
    have e2 := e'.symm.trans e
    injection e2 with e2; injection e2 with e2 e3; subst e2; subst e3; subst z
    exact own_apart hv hne (by have q := hc 0 h0; rwa [Nat.zero_add] at q)), h.at_.h13.kept hg (fun h0 b off e => by
    obtain ⟨b', off', e', -, hc⟩ := h.at_.h13.2 h0
    have z := (h.zero.z13 b off e).2
    have e2 := e'.symm.trans e
    injection e2 with e2; injection e2 with e2 e3; subst e2; subst e3; subst z
    exact own_apart hv hne (by have q := hc 0 h0; rwa [Nat.zero_add] at q)), h.at_.h14.kept hg (fun h0 b off e => by
    obtain ⟨b', off', e', -, hc⟩ := h.at_.h14.2 h0
    have z := (h.zero.z14 b off e).2
    have e2 := e'.symm.trans e
    injection e2 with e2; injection e2 with e2 e3; subst e2; subst e3; subst z
    exact own_apart hv hne (by have q := hc 0 h0; rwa [Nat.zero_add] at q)), h.at_.l6, h.at_.l7, h.at_.l8, h.at_.l9, h.at_.l10, h.at_.l11, h.at_.l12, h.at_.l13, h.at_.l14⟩
  far := h.far
  zero := h.zero
  below := h.below.trans (hB.mono hBW)
end Go.Proofs.YtkkmhjplfpdhcaaGreatDoor.Ru
