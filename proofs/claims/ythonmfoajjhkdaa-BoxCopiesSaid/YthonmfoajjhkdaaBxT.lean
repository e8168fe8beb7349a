/- Boxes: two of them among a law's own memory; their lists; First of the two. -/
import Derived.Test.YthonmfoajjhkdaaBxOn
set_option linter.unusedVariables false
namespace Go.Proofs.Ythonmfoajjhkdaa.Bx
open Go.RowKit Iv

/-- of what W held nothing has turned; two boxes, made since -/
structure Two (W w : World) (p c n : Nat) (l : List Int) (q d m : Nat) (k : List Int) : Prop where
  a : One W w p c n l
  b : One W w q d m k
  ne : c ≠ d
/-- the list of a box: new, or nothing -/
structure Lst (w0 w : World) (A : Option Addr) (k : Nat) (l : List Int) : Prop where
  at_ : IsAt w A l.length l
  cap : l.length ≤ k
  new : ∀ a, A = some a → w0.heap.size ≤ a.block
  nil : A = none → k = 0
section
variable {W w w' : World} {p c n q d m : Nat} {l k : List Int}
theorem Two.swap (h : Two W w p c n l q d m k) : Two W w q d m k p c n l := ⟨h.b, h.a, fun e => h.ne e.symm⟩
theorem Two.turn {l' : List Int} (h : Two W w p c n l q d m k) (i : BoxIn w' p c n l') (t : Kp (· = c) w w') : Two W w' p c n l' q d m k :=
  ⟨h.a.turn i t, ⟨h.b.is.other t h.a.is (fun e => h.ne e.symm), h.b.ps, h.b.cs, (h.a.turn i t).at_⟩, h.ne⟩
theorem Two.below (h : Two W w p c n l q d m k) (b : Below w.heap.size w w') : Two W w' p c n l q d m k := ⟨h.a.below b, h.b.below b, h.ne⟩
theorem Two.put (h : Two W w p c n l q d m k) (x : Int) : Calls Try.prog 11 #[.pointer (some ⟨p, 0, none⟩), .int .i64 x] w fun e w' => e = .returned (.int .i64 (putE n l)) ∧ Two W w' p c n (putL n l x) q d m k ∧ Kp (· = c) w w' := by
  refine (put_is w p c n l x h.a.is).mono ?_
  rintro e w' ⟨he, i, t⟩
  exact ⟨he, h.turn i t, t⟩
theorem Two.take (h : Two W w p c n l q d m k) : Calls Try.prog 13 #[.pointer (some ⟨p, 0, none⟩)] w fun e w' => e = .returned (.tuple #[.int .i64 (headL l), .bool (someB l)]) ∧ Two W w' p c n l.tail q d m k ∧ Kp (· = c) w w' := by
  refine (take_is w p c n l h.a.is).mono ?_
  rintro e w' ⟨he, i, t⟩
  exact ⟨he, h.turn i t, t⟩
theorem Two.len (h : Two W w p c n l q d m k) : Calls Try.prog 18 #[.pointer (some ⟨p, 0, none⟩)] w fun e w' => e = .returned (.int .i64 (l.length : Nat)) ∧ w = w' := blen_is w p c n l h.a.is
theorem Two.first (h : Two W w p c n l q d m k) : Calls Try.prog 9 #[] w fun e w' => e = .returned (.bool true) ∧ Two W w' p c n l q d m k ∧ Below w.heap.size w w' := by
  refine (first12 w).mono ?_
  rintro e w' ⟨he, b⟩
  exact ⟨he, h.below b, b⟩
theorem list_new (h : BoxIn w p c n l) : Calls Try.prog 17 #[.pointer (some ⟨p, 0, none⟩)] w fun e w' => ∃ A r, e = .returned (.slice A l.length r) ∧ Lst w w' A r l ∧ BoxIn w' p c n l ∧ Kp (· = c) w w' := by
  refine (list_is w p c n l h).mono ?_
  rintro e w' ⟨v, rfl, o, i, t⟩
  obtain ⟨A, r, rfl, h1, h2, h3, h4⟩ := o.form
  exact ⟨A, r, rfl, ⟨h2, h1, fun a e => (h3 a e).1, h4⟩, i, t⟩
theorem Two.list (h : Two W w p c n l q d m k) : Calls Try.prog 17 #[.pointer (some ⟨p, 0, none⟩)] w fun e w' => ∃ A r, e = .returned (.slice A l.length r) ∧ Lst w w' A r l ∧ Two W w' p c n l q d m k ∧ Kp (· = c) w w' := by
  refine (list_new h.a.is).mono ?_
  rintro e w' ⟨A, r, he, L, i, t⟩
  exact ⟨A, r, he, L, h.turn i t, t⟩
theorem One.list (h : One W w p c n l) : Calls Try.prog 17 #[.pointer (some ⟨p, 0, none⟩)] w fun e w' => ∃ A r, e = .returned (.slice A l.length r) ∧ Lst w w' A r l ∧ One W w' p c n l ∧ Kp (· = c) w w' := by
  refine (list_new h.is).mono ?_
  rintro e w' ⟨A, r, he, L, i, t⟩
  exact ⟨A, r, he, L, h.turn i t, t⟩
/-- Copy -/
theorem One.copy (h : One W w p c n l) : Calls Try.prog 15 #[.pointer (some ⟨p, 0, none⟩)] w fun e w' => ∃ q d, e = .returned (.pointer (some ⟨q, 0, none⟩)) ∧ Two W w' p c n l q d n l := by
  refine (copy_is w p c n l h.is).mono ?_
  rintro e w' ⟨q, d, he, h1, h2, i, j, t⟩
  have sz := h.at_.size
  have cl := h.is.cl
  exact ⟨q, d, he, ⟨h.turn j t, ⟨i, Nat.le_trans sz h1, Nat.le_trans sz h2, (h.turn j t).at_⟩, by omega⟩⟩
theorem two_new (h : One W w p c n l) (m : Nat) (h1 : 1 ≤ m) (h2 : m ≤ 1000) :
    Calls Try.prog 10 #[.int .i64 m] w fun e w' => ∃ q d, e = .returned (.tuple #[.pointer (some ⟨q, 0, none⟩), .int .i64 0]) ∧ Two W w' p c n l q d m [] := by
  refine (bnew_is w m h1 h2).mono ?_
  rintro e w' ⟨he, i, t⟩
  have sz := h.at_.size
  have cl := h.is.cl
  exact ⟨_, _, he, h.below t, ⟨i, by omega, by omega, (h.below t).at_⟩, by omega⟩
def two (l k : List Int) : Nat → List Int
  | 0 => l
  | _ => k
/-- the two boxes in a slice -/
theorem Two.slice (h : Two W w p c n l q d m k) (T : TypeId) : BsAt (w.alloc (.cells #[.pointer (some ⟨p, 0, none⟩), .pointer (some ⟨q, 0, none⟩)] T)) (some ⟨w.heap.size, 0, none⟩) 2 [⟨p, c, n⟩, ⟨q, d, m⟩] ∧ AllIn (w.alloc (.cells #[.pointer (some ⟨p, 0, none⟩), .pointer (some ⟨q, 0, none⟩)] T)) [⟨p, c, n⟩, ⟨q, d, m⟩] (two l k) := by
  have ba := below_alloc w (.cells #[.pointer (some ⟨p, 0, none⟩), .pointer (some ⟨q, 0, none⟩)] T)
  refine ⟨⟨rfl, fun _ => ⟨_, _, rfl, by simp, fun j hj => ?_⟩⟩, fun j hj => ?_⟩
  · rw [Nat.zero_add, World.cell?_alloc_new]
    match j, hj with
    | 0, _ => rfl
    | 1, _ => rfl
  · match j, hj with
    | 0, _ => exact h.a.is.below ba
    | 1, _ => exact h.b.is.below ba
theorem Two.bfirst_a {x : Int} {l : List Int} (h : Two W w p c n (x :: l) q d m k) (T : TypeId) (cp : Nat) :
    Calls Try.prog 19 #[.slice (some ⟨w.heap.size, 0, none⟩) 2 cp] (w.alloc (.cells #[.pointer (some ⟨p, 0, none⟩), .pointer (some ⟨q, 0, none⟩)] T)) fun e w' => e = .returned (.tuple #[.int .i64 0, .int .i64 x, .bool true]) ∧ Two W w' p c n l q d m k := by
  obtain ⟨s, a⟩ := h.slice T
  refine (bfirst_some _ _ 2 cp 0 _ _ s a (by omega) (fun j hj => absurd hj (Nat.not_lt_zero _)) x l rfl (by omega)).mono ?_
  rintro e w' ⟨he, i, t⟩
  exact ⟨he, (h.below (below_alloc _ _)).turn i t⟩
theorem Two.bfirst_b {x : Int} {k : List Int} (h : Two W w p c n [] q d m (x :: k)) (T : TypeId) (cp : Nat) :
    Calls Try.prog 19 #[.slice (some ⟨w.heap.size, 0, none⟩) 2 cp] (w.alloc (.cells #[.pointer (some ⟨p, 0, none⟩), .pointer (some ⟨q, 0, none⟩)] T)) fun e w' => e = .returned (.tuple #[.int .i64 1, .int .i64 x, .bool true]) ∧ Two W w' p c n [] q d m k := by
  obtain ⟨s, a⟩ := h.slice T
  refine (bfirst_some _ _ 2 cp 1 _ _ s a (by omega) (fun j hj => match j, hj with
    | 0, _ => rfl) x k rfl (by omega)).mono ?_
  rintro e w' ⟨he, i, t⟩
  exact ⟨he, ((h.below (below_alloc _ _)).swap.turn i t).swap⟩
theorem Two.bfirst_no (h : Two W w p c n [] q d m []) (T : TypeId) (cp : Nat) :
    Calls Try.prog 19 #[.slice (some ⟨w.heap.size, 0, none⟩) 2 cp] (w.alloc (.cells #[.pointer (some ⟨p, 0, none⟩), .pointer (some ⟨q, 0, none⟩)] T)) fun e w' => e = .returned (.tuple #[.int .i64 0, .int .i64 0, .bool false]) ∧ Two W w' p c n [] q d m [] := by
  obtain ⟨s, a⟩ := h.slice T
  refine (bfirst_none _ _ 2 cp _ _ s a (fun j hj => ?_) (by omega)).mono ?_
  · match j, hj with
    | 0, _ => rfl
    | 1, _ => rfl
  rintro e w' ⟨he, rfl⟩
  exact ⟨he, h.below (below_alloc _ _)⟩
theorem Two.bfirst_nil (h : Two W w p c n l q d m k) :
    Calls Try.prog 19 #[.slice none 0 0] w fun e w' => e = .returned (.tuple #[.int .i64 0, .int .i64 0, .bool false]) ∧ Two W w' p c n l q d m k := by
  refine (bfirst_none w none 0 0 [] (fun _ => []) ⟨rfl, fun h => absurd h (by omega)⟩ (fun j hj => absurd hj (by simp)) (fun j hj => absurd hj (Nat.not_lt_zero _)) (by omega)).mono ?_
  rintro e w' ⟨he, rfl⟩
  exact ⟨he, h⟩
end
end Go.Proofs.Ythonmfoajjhkdaa.Bx
