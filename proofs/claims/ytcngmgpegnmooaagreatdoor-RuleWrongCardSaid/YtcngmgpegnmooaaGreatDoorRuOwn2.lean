/- What each way of RuleWrong leaves behind. -/
import Derived.Test.YtcngmgpegnmooaaGreatDoorRuOwn
import Derived.Test.YtcngmgpegnmooaaGreatDoorRpP
set_option linter.unusedVariables false
namespace Go.Proofs.YtcngmgpegnmooaaGreatDoor.Ru
open Go.RowKit Cv St Go.Proofs.YtcngmgpegnmooaaGreatDoor.Fd

def boxOf (S : RS) (r : Ru) : Array Value := #[.int .i64 r.freq, .int .i64 r.itv, .int .i64 r.cnt, .int .i64 r.til, .int .i64 r.wkst, .bool r.ends, .slice S.a6 S.n6 S.c6, .slice S.a7 S.n7 S.c7, .slice S.a8 S.n8 S.c8, .slice S.a9 S.n9 S.c9, .slice S.a10 S.n10 S.c10, .slice S.a11 S.n11 S.c11, .slice S.a12 S.n12 S.c12, .slice S.a13 S.n13 S.c13, .slice S.a14 S.n14 S.c14]
def WrongK (W : World) (g : Nat) (r : Ru) (wx : World) : Prop := ∃ S : RS, Box wx g (boxOf S r) ∧ RuAt wx S r ∧ Below W.heap.size W wx
theorem own_is {w : World} {B n c : Nat} {A : Option Addr} {l : List Int} (h : w.ownsRow B 3 1 (.slice A n c) l.length (l.map (Value.int .i64))) : IsAt w A n l := by
  obtain ⟨A', c', e, hA⟩ := own_form h
  injection e with e1 e2 e3
  subst e1 e2 e3
  exact hA
theorem own_isD {w : World} {B n c : Nat} {A : Option Addr} {l : List Dy} (h : w.ownsRow B 40 2 (.slice A n c) l.length (dyCells l)) : DyAt w A n l := by
  obtain ⟨A', c', e, hA⟩ := own_formD h
  injection e with e1 e2 e3
  subst e1 e2 e3
  exact hA
theorem own_off {w : World} {B C n c g : Nat} {A : Option Addr} {l : List Int} (h : OwnB B C w (.slice A n c) l) (hg : C ≤ g) : Far A g := fun b off e => by
  subst e
  have := h.2 b rfl
  omega
theorem own_offD {w : World} {B C n c g : Nat} {A : Option Addr} {l : List Dy} (h : OwnDB B C w (.slice A n c) l) (hg : C ≤ g) : Far A g := fun b off e => by
  subst e
  have := h.2 b rfl
  omega
theorem gr_none {w w' : World} (h : Below w.heap.size w w') : w.grownBy w' none := ⟨h.1, h.2, h.3, h.4, fun k hk _ => h.5 k hk⟩
theorem no_row {P : Nat → Prop} : ∀ k, (none : Option Nat) = some k → P k := fun k z => by cases z
theorem owns_far {B : Nat} {w : World} {S : RS} {r : Ru} (h : OwnsR B w S r) : RFar S w.heap.size := by
  obtain ⟨u1, u2, u3, u4, u5, u6, u7, u8, u9, v0, v1, v2, v3, v4, v5, v6, v7, v8, v9, o6, o7, o8, o9, o10, o11, o12, o13, o14⟩ := h
  exact ⟨own_off o6 (by omega), own_off o7 (by omega), own_off o8 (by omega), own_off o9 (by omega), own_offD o10 (by omega), own_off o11 (by omega), own_off o12 (by omega), own_off o13 (by omega), own_off o14 (by omega)⟩
/-- a number of the rule set -/
theorem wrS {W w4 w5 : World} {S : RS} {r q : Ru} {i : Nat} {u : Value} (hO : OwnsR W.heap.size w4 S r) (hS : RuAt w4 S r) (h4 : Below W.heap.size W w4) (h5 : Below w4.heap.size w4 w5) (X : Box w5 w4.heap.size (boxOf S r)) (hi : i < 15)
    (hq : boxOf S q = (boxOf S r).setIfInBounds i u) (hr : ∀ w, RuAt w S r → RuAt w S q) : WrongK W w4.heap.size q (w5.setCell ⟨w4.heap.size, i, none⟩ u) :=
  ⟨S, hq ▸ X.put i u hi, (hr _ (hS.below h5)).set (owns_far hO), setL_below h4.size [u] i _ (h4.trans (h5.mono h4.size))⟩
/-- the list of place 6, owned: where append wants it -/
theorem wo6 {W w4 w5 : World} {S : RS} {r : Ru} (hO : OwnsR W.heap.size w4 S r) (h4 : Below W.heap.size W w4) (h5 : Below w4.heap.size w4 w5) : ∃ B C, OwnB B C w5 (.slice S.a6 S.n6 S.c6) r.mon ∧ B ≤ w5.heap.size := by
  obtain ⟨u1, u2, u3, u4, u5, u6, u7, u8, u9, v0, v1, v2, v3, v4, v5, v6, v7, v8, v9, o6, o7, o8, o9, o10, o11, o12, o13, o14⟩ := hO
  exact ⟨_, _, o6.keep (gr_none h5) no_row, by have := h5.size; have := h4.size; omega⟩
theorem wn6 {B : Nat} {w4 : World} {S : RS} {r : Ru} (hO : OwnsR B w4 S r) : some w4.heap.size ≠ (Value.slice S.a6 S.n6 S.c6).ownBlock := by
  obtain ⟨u1, u2, u3, u4, u5, u6, u7, u8, u9, v0, v1, v2, v3, v4, v5, v6, v7, v8, v9, o6, o7, o8, o9, o10, o11, o12, o13, o14⟩ := hO
  intro z
  have := o6.row _ z.symm
  omega
theorem wr6 {W w4 w5 w' : World} {S : RS} {r : Ru} {A : Option Addr} {c' : Nat} {t : Int} (hO : OwnsR W.heap.size w4 S r) (hS : RuAt w4 S r) (h4 : Below W.heap.size W w4) (h5 : Below w4.heap.size w4 w5) (X : Box w5 w4.heap.size (boxOf S r)) (hl : r.mon.length ≤ 1000)
    (hG : w5.grownBy w' (Value.slice S.a6 S.n6 S.c6).ownBlock) (hA : IsAt w' A (r.mon.length + 1) (r.mon ++ [t])) (hF : ∀ g, g < w5.heap.size → (∀ k, (Value.slice S.a6 S.n6 S.c6).ownBlock = some k → k ≠ g) → Far A g) :
    WrongK W w4.heap.size { r with mon := r.mon ++ [t] } (w'.setCell ⟨w4.heap.size, 6, none⟩ (.slice A (r.mon.length + 1) c')) := by
  obtain ⟨u1, u2, u3, u4, u5, u6, u7, u8, u9, v0, v1, v2, v3, v4, v5, v6, v7, v8, v9, o6, o7, o8, o9, o10, o11, o12, o13, o14⟩ := hO
  have g5 := X.1
  have s4 := h4.size
  have q7 := (o7.keep (gr_none h5) no_row).keep hG (fun k q => by have := o6.row k q; omega)
  have q8 := (o8.keep (gr_none h5) no_row).keep hG (fun k q => by have := o6.row k q; omega)
  have q9 := (o9.keep (gr_none h5) no_row).keep hG (fun k q => by have := o6.row k q; omega)
  have q10 := (o10.keep (gr_none h5) no_row).keep hG (fun k q => by have := o6.row k q; omega)
  have q11 := (o11.keep (gr_none h5) no_row).keep hG (fun k q => by have := o6.row k q; omega)
  have q12 := (o12.keep (gr_none h5) no_row).keep hG (fun k q => by have := o6.row k q; omega)
  have q13 := (o13.keep (gr_none h5) no_row).keep hG (fun k q => by have := o6.row k q; omega)
  have q14 := (o14.keep (gr_none h5) no_row).keep hG (fun k q => by have := o6.row k q; omega)
  have ne : some w4.heap.size ≠ (Value.slice S.a6 S.n6 S.c6).ownBlock := fun z => by
    have := o6.row _ z.symm
    omega
  have FA := hF w4.heap.size g5 (fun k q => by have := o6.row k q; omega)
  have XB : Box w' w4.heap.size (boxOf S r) := ⟨Nat.lt_of_lt_of_le g5 hG.size, fun j u e => (hG.cell_far ⟨_, j, none⟩ g5 ne).trans (X.2 j u e)⟩
  have b5 := h4.trans (h5.mono h4.size)
  refine ⟨{ S with a6 := A, n6 := r.mon.length + 1, c6 := c' }, XB.put 6 _ (show 6 < 15 by decide), RuAt.set ⟨hA, own_is q7.1, own_is q8.1, own_is q9.1, own_isD q10.1, own_is q11.1, own_is q12.1, own_is q13.1, own_is q14.1, (by show r.mon.length + 1 ≤ _; omega), hS.l7, hS.l8, hS.l9, hS.l10, hS.l11, hS.l12, hS.l13, hS.l14⟩ ⟨FA, own_off q7 (by omega), own_off q8 (by omega), own_off q9 (by omega), own_offD q10 (by omega), own_off q11 (by omega), own_off q12 (by omega), own_off q13 (by omega), own_off q14 (by omega)⟩, setL_below s4 [_] 6 _ (b5.grown hG b5.size fun k q => by have := o6.row k q; omega)⟩
/-- the list of place 9, owned: where append wants it -/
theorem wo9 {W w4 w5 : World} {S : RS} {r : Ru} (hO : OwnsR W.heap.size w4 S r) (h4 : Below W.heap.size W w4) (h5 : Below w4.heap.size w4 w5) : ∃ B C, OwnB B C w5 (.slice S.a9 S.n9 S.c9) r.mday ∧ B ≤ w5.heap.size := by
  obtain ⟨u1, u2, u3, u4, u5, u6, u7, u8, u9, v0, v1, v2, v3, v4, v5, v6, v7, v8, v9, o6, o7, o8, o9, o10, o11, o12, o13, o14⟩ := hO
  exact ⟨_, _, o9.keep (gr_none h5) no_row, by have := h5.size; have := h4.size; omega⟩
theorem wn9 {B : Nat} {w4 : World} {S : RS} {r : Ru} (hO : OwnsR B w4 S r) : some w4.heap.size ≠ (Value.slice S.a9 S.n9 S.c9).ownBlock := by
  obtain ⟨u1, u2, u3, u4, u5, u6, u7, u8, u9, v0, v1, v2, v3, v4, v5, v6, v7, v8, v9, o6, o7, o8, o9, o10, o11, o12, o13, o14⟩ := hO
  intro z
  have := o9.row _ z.symm
  omega
theorem wr9 {W w4 w5 w' : World} {S : RS} {r : Ru} {A : Option Addr} {c' : Nat} {t : Int} (hO : OwnsR W.heap.size w4 S r) (hS : RuAt w4 S r) (h4 : Below W.heap.size W w4) (h5 : Below w4.heap.size w4 w5) (X : Box w5 w4.heap.size (boxOf S r)) (hl : r.mday.length ≤ 1000)
    (hG : w5.grownBy w' (Value.slice S.a9 S.n9 S.c9).ownBlock) (hA : IsAt w' A (r.mday.length + 1) (r.mday ++ [t])) (hF : ∀ g, g < w5.heap.size → (∀ k, (Value.slice S.a9 S.n9 S.c9).ownBlock = some k → k ≠ g) → Far A g) :
    WrongK W w4.heap.size { r with mday := r.mday ++ [t] } (w'.setCell ⟨w4.heap.size, 9, none⟩ (.slice A (r.mday.length + 1) c')) := by
  obtain ⟨u1, u2, u3, u4, u5, u6, u7, u8, u9, v0, v1, v2, v3, v4, v5, v6, v7, v8, v9, o6, o7, o8, o9, o10, o11, o12, o13, o14⟩ := hO
  have g5 := X.1
  have s4 := h4.size
  have q6 := (o6.keep (gr_none h5) no_row).keep hG (fun k q => by have := o9.row k q; omega)
  have q7 := (o7.keep (gr_none h5) no_row).keep hG (fun k q => by have := o9.row k q; omega)
  have q8 := (o8.keep (gr_none h5) no_row).keep hG (fun k q => by have := o9.row k q; omega)
  have q10 := (o10.keep (gr_none h5) no_row).keep hG (fun k q => by have := o9.row k q; omega)
  have q11 := (o11.keep (gr_none h5) no_row).keep hG (fun k q => by have := o9.row k q; omega)
  have q12 := (o12.keep (gr_none h5) no_row).keep hG (fun k q => by have := o9.row k q; omega)
  have q13 := (o13.keep (gr_none h5) no_row).keep hG (fun k q => by have := o9.row k q; omega)
  have q14 := (o14.keep (gr_none h5) no_row).keep hG (fun k q => by have := o9.row k q; omega)
  have ne : some w4.heap.size ≠ (Value.slice S.a9 S.n9 S.c9).ownBlock := fun z => by
    have := o9.row _ z.symm
    omega
  have FA := hF w4.heap.size g5 (fun k q => by have := o9.row k q; omega)
  have XB : Box w' w4.heap.size (boxOf S r) := ⟨Nat.lt_of_lt_of_le g5 hG.size, fun j u e => (hG.cell_far ⟨_, j, none⟩ g5 ne).trans (X.2 j u e)⟩
  have b5 := h4.trans (h5.mono h4.size)
  refine ⟨{ S with a9 := A, n9 := r.mday.length + 1, c9 := c' }, XB.put 9 _ (show 9 < 15 by decide), RuAt.set ⟨own_is q6.1, own_is q7.1, own_is q8.1, hA, own_isD q10.1, own_is q11.1, own_is q12.1, own_is q13.1, own_is q14.1, hS.l6, hS.l7, hS.l8, (by show r.mday.length + 1 ≤ _; omega), hS.l10, hS.l11, hS.l12, hS.l13, hS.l14⟩ ⟨own_off q6 (by omega), own_off q7 (by omega), own_off q8 (by omega), FA, own_offD q10 (by omega), own_off q11 (by omega), own_off q12 (by omega), own_off q13 (by omega), own_off q14 (by omega)⟩, setL_below s4 [_] 9 _ (b5.grown hG b5.size fun k q => by have := o9.row k q; omega)⟩
/-- the list of place 10, owned: where append wants it -/
theorem wo10 {W w4 w5 : World} {S : RS} {r : Ru} (hO : OwnsR W.heap.size w4 S r) (h4 : Below W.heap.size W w4) (h5 : Below w4.heap.size w4 w5) : ∃ B C, OwnDB B C w5 (.slice S.a10 S.n10 S.c10) r.day ∧ B ≤ w5.heap.size := by
  obtain ⟨u1, u2, u3, u4, u5, u6, u7, u8, u9, v0, v1, v2, v3, v4, v5, v6, v7, v8, v9, o6, o7, o8, o9, o10, o11, o12, o13, o14⟩ := hO
  exact ⟨_, _, o10.keep (gr_none h5) no_row, by have := h5.size; have := h4.size; omega⟩
theorem wn10 {B : Nat} {w4 : World} {S : RS} {r : Ru} (hO : OwnsR B w4 S r) : some w4.heap.size ≠ (Value.slice S.a10 S.n10 S.c10).ownBlock := by
  obtain ⟨u1, u2, u3, u4, u5, u6, u7, u8, u9, v0, v1, v2, v3, v4, v5, v6, v7, v8, v9, o6, o7, o8, o9, o10, o11, o12, o13, o14⟩ := hO
  intro z
  have := o10.row _ z.symm
  omega
theorem wr10 {W w4 w5 w' : World} {S : RS} {r : Ru} {A : Option Addr} {c' : Nat} {t : Dy} (hO : OwnsR W.heap.size w4 S r) (hS : RuAt w4 S r) (h4 : Below W.heap.size W w4) (h5 : Below w4.heap.size w4 w5) (X : Box w5 w4.heap.size (boxOf S r)) (hl : r.day.length ≤ 1000)
    (hG : w5.grownBy w' (Value.slice S.a10 S.n10 S.c10).ownBlock) (hA : DyAt w' A (r.day.length + 1) (r.day ++ [t])) (hF : ∀ g, g < w5.heap.size → (∀ k, (Value.slice S.a10 S.n10 S.c10).ownBlock = some k → k ≠ g) → Far A g) :
    WrongK W w4.heap.size { r with day := r.day ++ [t] } (w'.setCell ⟨w4.heap.size, 10, none⟩ (.slice A (r.day.length + 1) c')) := by
  obtain ⟨u1, u2, u3, u4, u5, u6, u7, u8, u9, v0, v1, v2, v3, v4, v5, v6, v7, v8, v9, o6, o7, o8, o9, o10, o11, o12, o13, o14⟩ := hO
  have g5 := X.1
  have s4 := h4.size
  have q6 := (o6.keep (gr_none h5) no_row).keep hG (fun k q => by have := o10.row k q; omega)
  have q7 := (o7.keep (gr_none h5) no_row).keep hG (fun k q => by have := o10.row k q; omega)
  have q8 := (o8.keep (gr_none h5) no_row).keep hG (fun k q => by have := o10.row k q; omega)
  have q9 := (o9.keep (gr_none h5) no_row).keep hG (fun k q => by have := o10.row k q; omega)
  have q11 := (o11.keep (gr_none h5) no_row).keep hG (fun k q => by have := o10.row k q; omega)
  have q12 := (o12.keep (gr_none h5) no_row).keep hG (fun k q => by have := o10.row k q; omega)
  have q13 := (o13.keep (gr_none h5) no_row).keep hG (fun k q => by have := o10.row k q; omega)
  have q14 := (o14.keep (gr_none h5) no_row).keep hG (fun k q => by have := o10.row k q; omega)
  have ne : some w4.heap.size ≠ (Value.slice S.a10 S.n10 S.c10).ownBlock := fun z => by
    have := o10.row _ z.symm
    omega
  have FA := hF w4.heap.size g5 (fun k q => by have := o10.row k q; omega)
  have XB : Box w' w4.heap.size (boxOf S r) := ⟨Nat.lt_of_lt_of_le g5 hG.size, fun j u e => (hG.cell_far ⟨_, j, none⟩ g5 ne).trans (X.2 j u e)⟩
  have b5 := h4.trans (h5.mono h4.size)
  refine ⟨{ S with a10 := A, n10 := r.day.length + 1, c10 := c' }, XB.put 10 _ (show 10 < 15 by decide), RuAt.set ⟨own_is q6.1, own_is q7.1, own_is q8.1, own_is q9.1, hA, own_is q11.1, own_is q12.1, own_is q13.1, own_is q14.1, hS.l6, hS.l7, hS.l8, hS.l9, (by show r.day.length + 1 ≤ _; omega), hS.l11, hS.l12, hS.l13, hS.l14⟩ ⟨own_off q6 (by omega), own_off q7 (by omega), own_off q8 (by omega), own_off q9 (by omega), FA, own_off q11 (by omega), own_off q12 (by omega), own_off q13 (by omega), own_off q14 (by omega)⟩, setL_below s4 [_] 10 _ (b5.grown hG b5.size fun k q => by have := o10.row k q; omega)⟩
/-- the list of place 11, owned: where append wants it -/
theorem wo11 {W w4 w5 : World} {S : RS} {r : Ru} (hO : OwnsR W.heap.size w4 S r) (h4 : Below W.heap.size W w4) (h5 : Below w4.heap.size w4 w5) : ∃ B C, OwnB B C w5 (.slice S.a11 S.n11 S.c11) r.hour ∧ B ≤ w5.heap.size := by
  obtain ⟨u1, u2, u3, u4, u5, u6, u7, u8, u9, v0, v1, v2, v3, v4, v5, v6, v7, v8, v9, o6, o7, o8, o9, o10, o11, o12, o13, o14⟩ := hO
  exact ⟨_, _, o11.keep (gr_none h5) no_row, by have := h5.size; have := h4.size; omega⟩
theorem wn11 {B : Nat} {w4 : World} {S : RS} {r : Ru} (hO : OwnsR B w4 S r) : some w4.heap.size ≠ (Value.slice S.a11 S.n11 S.c11).ownBlock := by
  obtain ⟨u1, u2, u3, u4, u5, u6, u7, u8, u9, v0, v1, v2, v3, v4, v5, v6, v7, v8, v9, o6, o7, o8, o9, o10, o11, o12, o13, o14⟩ := hO
  intro z
  have := o11.row _ z.symm
  omega
theorem wr11 {W w4 w5 w' : World} {S : RS} {r : Ru} {A : Option Addr} {c' : Nat} {t : Int} (hO : OwnsR W.heap.size w4 S r) (hS : RuAt w4 S r) (h4 : Below W.heap.size W w4) (h5 : Below w4.heap.size w4 w5) (X : Box w5 w4.heap.size (boxOf S r)) (hl : r.hour.length ≤ 1000)
    (hG : w5.grownBy w' (Value.slice S.a11 S.n11 S.c11).ownBlock) (hA : IsAt w' A (r.hour.length + 1) (r.hour ++ [t])) (hF : ∀ g, g < w5.heap.size → (∀ k, (Value.slice S.a11 S.n11 S.c11).ownBlock = some k → k ≠ g) → Far A g) :
    WrongK W w4.heap.size { r with hour := r.hour ++ [t] } (w'.setCell ⟨w4.heap.size, 11, none⟩ (.slice A (r.hour.length + 1) c')) := by
  obtain ⟨u1, u2, u3, u4, u5, u6, u7, u8, u9, v0, v1, v2, v3, v4, v5, v6, v7, v8, v9, o6, o7, o8, o9, o10, o11, o12, o13, o14⟩ := hO
  have g5 := X.1
  have s4 := h4.size
  have q6 := (o6.keep (gr_none h5) no_row).keep hG (fun k q => by have := o11.row k q; omega)
  have q7 := (o7.keep (gr_none h5) no_row).keep hG (fun k q => by have := o11.row k q; omega)
  have q8 := (o8.keep (gr_none h5) no_row).keep hG (fun k q => by have := o11.row k q; omega)
  have q9 := (o9.keep (gr_none h5) no_row).keep hG (fun k q => by have := o11.row k q; omega)
  have q10 := (o10.keep (gr_none h5) no_row).keep hG (fun k q => by have := o11.row k q; omega)
  have q12 := (o12.keep (gr_none h5) no_row).keep hG (fun k q => by have := o11.row k q; omega)
  have q13 := (o13.keep (gr_none h5) no_row).keep hG (fun k q => by have := o11.row k q; omega)
  have q14 := (o14.keep (gr_none h5) no_row).keep hG (fun k q => by have := o11.row k q; omega)
  have ne : some w4.heap.size ≠ (Value.slice S.a11 S.n11 S.c11).ownBlock := fun z => by
    have := o11.row _ z.symm
    omega
  have FA := hF w4.heap.size g5 (fun k q => by have := o11.row k q; omega)
  have XB : Box w' w4.heap.size (boxOf S r) := ⟨Nat.lt_of_lt_of_le g5 hG.size, fun j u e => (hG.cell_far ⟨_, j, none⟩ g5 ne).trans (X.2 j u e)⟩
  have b5 := h4.trans (h5.mono h4.size)
  refine ⟨{ S with a11 := A, n11 := r.hour.length + 1, c11 := c' }, XB.put 11 _ (show 11 < 15 by decide), RuAt.set ⟨own_is q6.1, own_is q7.1, own_is q8.1, own_is q9.1, own_isD q10.1, hA, own_is q12.1, own_is q13.1, own_is q14.1, hS.l6, hS.l7, hS.l8, hS.l9, hS.l10, (by show r.hour.length + 1 ≤ _; omega), hS.l12, hS.l13, hS.l14⟩ ⟨own_off q6 (by omega), own_off q7 (by omega), own_off q8 (by omega), own_off q9 (by omega), own_offD q10 (by omega), FA, own_off q12 (by omega), own_off q13 (by omega), own_off q14 (by omega)⟩, setL_below s4 [_] 11 _ (b5.grown hG b5.size fun k q => by have := o11.row k q; omega)⟩
/-- the list of place 12, owned: where append wants it -/
theorem wo12 {W w4 w5 : World} {S : RS} {r : Ru} (hO : OwnsR W.heap.size w4 S r) (h4 : Below W.heap.size W w4) (h5 : Below w4.heap.size w4 w5) : ∃ B C, OwnB B C w5 (.slice S.a12 S.n12 S.c12) r.minu ∧ B ≤ w5.heap.size := by
  obtain ⟨u1, u2, u3, u4, u5, u6, u7, u8, u9, v0, v1, v2, v3, v4, v5, v6, v7, v8, v9, o6, o7, o8, o9, o10, o11, o12, o13, o14⟩ := hO
  exact ⟨_, _, o12.keep (gr_none h5) no_row, by have := h5.size; have := h4.size; omega⟩
theorem wn12 {B : Nat} {w4 : World} {S : RS} {r : Ru} (hO : OwnsR B w4 S r) : some w4.heap.size ≠ (Value.slice S.a12 S.n12 S.c12).ownBlock := by
  obtain ⟨u1, u2, u3, u4, u5, u6, u7, u8, u9, v0, v1, v2, v3, v4, v5, v6, v7, v8, v9, o6, o7, o8, o9, o10, o11, o12, o13, o14⟩ := hO
  intro z
  have := o12.row _ z.symm
  omega
theorem wr12 {W w4 w5 w' : World} {S : RS} {r : Ru} {A : Option Addr} {c' : Nat} {t : Int} (hO : OwnsR W.heap.size w4 S r) (hS : RuAt w4 S r) (h4 : Below W.heap.size W w4) (h5 : Below w4.heap.size w4 w5) (X : Box w5 w4.heap.size (boxOf S r)) (hl : r.minu.length ≤ 1000)
    (hG : w5.grownBy w' (Value.slice S.a12 S.n12 S.c12).ownBlock) (hA : IsAt w' A (r.minu.length + 1) (r.minu ++ [t])) (hF : ∀ g, g < w5.heap.size → (∀ k, (Value.slice S.a12 S.n12 S.c12).ownBlock = some k → k ≠ g) → Far A g) :
    WrongK W w4.heap.size { r with minu := r.minu ++ [t] } (w'.setCell ⟨w4.heap.size, 12, none⟩ (.slice A (r.minu.length + 1) c')) := by
  obtain ⟨u1, u2, u3, u4, u5, u6, u7, u8, u9, v0, v1, v2, v3, v4, v5, v6, v7, v8, v9, o6, o7, o8, o9, o10, o11, o12, o13, o14⟩ := hO
  have g5 := X.1
  have s4 := h4.size
  have q6 := (o6.keep (gr_none h5) no_row).keep hG (fun k q => by have := o12.row k q; omega)
  have q7 := (o7.keep (gr_none h5) no_row).keep hG (fun k q => by have := o12.row k q; omega)
  have q8 := (o8.keep (gr_none h5) no_row).keep hG (fun k q => by have := o12.row k q; omega)
  have q9 := (o9.keep (gr_none h5) no_row).keep hG (fun k q => by have := o12.row k q; omega)
  have q10 := (o10.keep (gr_none h5) no_row).keep hG (fun k q => by have := o12.row k q; omega)
  have q11 := (o11.keep (gr_none h5) no_row).keep hG (fun k q => by have := o12.row k q; omega)
  have q13 := (o13.keep (gr_none h5) no_row).keep hG (fun k q => by have := o12.row k q; omega)
  have q14 := (o14.keep (gr_none h5) no_row).keep hG (fun k q => by have := o12.row k q; omega)
  have ne : some w4.heap.size ≠ (Value.slice S.a12 S.n12 S.c12).ownBlock := fun z => by
    have := o12.row _ z.symm
    omega
  have FA := hF w4.heap.size g5 (fun k q => by have := o12.row k q; omega)
  have XB : Box w' w4.heap.size (boxOf S r) := ⟨Nat.lt_of_lt_of_le g5 hG.size, fun j u e => (hG.cell_far ⟨_, j, none⟩ g5 ne).trans (X.2 j u e)⟩
  have b5 := h4.trans (h5.mono h4.size)
  refine ⟨{ S with a12 := A, n12 := r.minu.length + 1, c12 := c' }, XB.put 12 _ (show 12 < 15 by decide), RuAt.set ⟨own_is q6.1, own_is q7.1, own_is q8.1, own_is q9.1, own_isD q10.1, own_is q11.1, hA, own_is q13.1, own_is q14.1, hS.l6, hS.l7, hS.l8, hS.l9, hS.l10, hS.l11, (by show r.minu.length + 1 ≤ _; omega), hS.l13, hS.l14⟩ ⟨own_off q6 (by omega), own_off q7 (by omega), own_off q8 (by omega), own_off q9 (by omega), own_offD q10 (by omega), own_off q11 (by omega), FA, own_off q13 (by omega), own_off q14 (by omega)⟩, setL_below s4 [_] 12 _ (b5.grown hG b5.size fun k q => by have := o12.row k q; omega)⟩
end Go.Proofs.YtcngmgpegnmooaaGreatDoor.Ru
