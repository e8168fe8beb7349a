/- A rule as a value: its numbers, and its lists as slices that are read. -/
import Derived.Test.YtkkmhjplfpdhcaaGreatDoorRuClass
import Derived.Deep.DeepCutAuto
set_option linter.unusedVariables false
namespace Go.Proofs.YtkkmhjplfpdhcaaGreatDoor.Ru
open Go.RowKit Cv St

/-- the slices of a rule -/
structure RS where
  a6 : Option Addr
  n6 : Nat
  c6 : Nat
  a7 : Option Addr
  n7 : Nat
  c7 : Nat
  a8 : Option Addr
  n8 : Nat
  c8 : Nat
  a9 : Option Addr
  n9 : Nat
  c9 : Nat
  a10 : Option Addr
  n10 : Nat
  c10 : Nat
  a11 : Option Addr
  n11 : Nat
  c11 : Nat
  a12 : Option Addr
  n12 : Nat
  c12 : Nat
  a13 : Option Addr
  n13 : Nat
  c13 : Nat
  a14 : Option Addr
  n14 : Nat
  c14 : Nat
def RS.cells (S : RS) (r : Ru) : Array Value := #[.int .i64 r.freq, .int .i64 r.itv, .int .i64 r.cnt, .int .i64 r.til, .int .i64 r.wkst, .bool r.ends, .slice S.a6 S.n6 S.c6, .slice S.a7 S.n7 S.c7, .slice S.a8 S.n8 S.c8, .slice S.a9 S.n9 S.c9, .slice S.a10 S.n10 S.c10, .slice S.a11 S.n11 S.c11, .slice S.a12 S.n12 S.c12, .slice S.a13 S.n13 S.c13, .slice S.a14 S.n14 S.c14]
def RS.val (S : RS) (r : Ru) : Value := .agg (S.cells r)
/-- the rule's value S.val r reads as the rule r, in W -/
structure RuAt (W : World) (S : RS) (r : Ru) : Prop where
  h6 : IsAt W S.a6 S.n6 r.mon
  h7 : IsAt W S.a7 S.n7 r.week
  h8 : IsAt W S.a8 S.n8 r.yday
  h9 : IsAt W S.a9 S.n9 r.mday
  h10 : DyAt W S.a10 S.n10 r.day
  h11 : IsAt W S.a11 S.n11 r.hour
  h12 : IsAt W S.a12 S.n12 r.minu
  h13 : IsAt W S.a13 S.n13 r.sec
  h14 : IsAt W S.a14 S.n14 r.pos
  l6 : S.n6 ≤ 140737488355328
  l7 : S.n7 ≤ 140737488355328
  l8 : S.n8 ≤ 140737488355328
  l9 : S.n9 ≤ 140737488355328
  l10 : S.n10 ≤ 140737488355328
  l11 : S.n11 ≤ 140737488355328
  l12 : S.n12 ≤ 140737488355328
  l13 : S.n13 ≤ 140737488355328
  l14 : S.n14 ≤ 140737488355328
theorem RuAt.below {W w : World} {S : RS} {r : Ru} (h : RuAt W S r) (hb : Below W.heap.size W w) : RuAt w S r :=
  ⟨h.h6.below hb, h.h7.below hb, h.h8.below hb, h.h9.below hb, h.h10.below hb, h.h11.below hb, h.h12.below hb, h.h13.below hb, h.h14.below hb, h.l6, h.l7, h.l8, h.l9, h.l10, h.l11, h.l12, h.l13, h.l14⟩
/-- a block of cells -/
def Box (v : World) (g : Nat) (cs : Array Value) : Prop := g < v.heap.size ∧ ∀ k u, cs[k]? = some u → v.cell? ⟨g, k, none⟩ = some u
theorem Box.new (w : World) (cs : Array Value) (T : TypeId) : Box (w.alloc (.cells cs T)) w.heap.size cs :=
  ⟨by simp, fun k u h => by rw [World.cell?_alloc_new]; exact h⟩
theorem Box.below {v v' : World} {g : Nat} {cs : Array Value} (h : Box v g cs) (hb : Below v.heap.size v v') : Box v' g cs :=
  ⟨Nat.lt_of_lt_of_le h.1 hb.size, fun k u hk => (hb.cell (p := ⟨g, k, none⟩) h.1).trans (h.2 k u hk)⟩
theorem Box.past {v : World} {g : Nat} {cs : Array Value} (h : Box v g cs) (x : In (Past v)) : Box x.w g cs := h.below (show Below _ _ _ from x.h)
theorem Box.at_ {v : World} {g : Nat} {cs : Array Value} (h : Box v g cs) (k : Nat) (u : Value) (hk : cs[k]? = some u) : v.cell? ⟨g, k, none⟩ = some u := h.2 k u hk
/-- behind W, with a box of its own -/
theorem alloc_below (w : World) (o : Obj) : Below w.heap.size w (w.alloc o) := (Below.refl _ _).alloc (Nat.le_refl _) _
end Go.Proofs.YtkkmhjplfpdhcaaGreatDoor.Ru
