/- Boxes: a box among a law's own memory: one proposition, one contract a call. -/
import Derived.Test.YthonmfoajjhkdaaBxP
set_option linter.unusedVariables false
namespace Go.Proofs.Ythonmfoajjhkdaa.Bx
open Go.RowKit Iv

/-- of what W held nothing has turned; a box of size n, made since, holds l -/
structure One (W w : World) (p c n : Nat) (l : List Int) : Prop where
  is : BoxIn w p c n l
  ps : W.heap.size ≤ p
  cs : W.heap.size ≤ c
  at_ : Below W.heap.size W w
section
variable {W w w' : World} {p c n : Nat} {l : List Int}
theorem One.turn {l' : List Int} (h : One W w p c n l) (q : BoxIn w' p c n l') (k : Kp (· = c) w w') : One W w' p c n l' :=
  ⟨q, h.ps, h.cs, h.at_.trans (k.below h.at_.size fun g e => by have := h.cs; omega)⟩
theorem One.below (h : One W w p c n l) (k : Below w.heap.size w w') : One W w' p c n l := ⟨h.is.below k, h.ps, h.cs, h.at_.trans (k.mono h.at_.size)⟩
theorem One.put (h : One W w p c n l) (x : Int) : Calls Try.prog 11 #[.pointer (some ⟨p, 0, none⟩), .int .i64 x] w fun e w' => e = .returned (.int .i64 (putE n l)) ∧ One W w' p c n (putL n l x) := by
  refine (put_is w p c n l x h.is).mono ?_
  rintro e w' ⟨he, q, k⟩
  exact ⟨he, h.turn q k⟩
theorem One.take (h : One W w p c n l) : Calls Try.prog 13 #[.pointer (some ⟨p, 0, none⟩)] w fun e w' => e = .returned (.tuple #[.int .i64 (headL l), .bool (someB l)]) ∧ One W w' p c n l.tail := by
  refine (take_is w p c n l h.is).mono ?_
  rintro e w' ⟨he, q, k⟩
  exact ⟨he, h.turn q k⟩
theorem One.len (h : One W w p c n l) : Calls Try.prog 18 #[.pointer (some ⟨p, 0, none⟩)] w fun e w' => e = .returned (.int .i64 (l.length : Nat)) ∧ w = w' := blen_is w p c n l h.is
theorem One.first (h : One W w p c n l) : Calls Try.prog 9 #[] w fun e w' => e = .returned (.bool true) ∧ One W w' p c n l := by
  refine (first12 w).mono ?_
  rintro e w' ⟨he, b⟩
  exact ⟨he, h.below b⟩
/-- a box made -/
theorem one_new (hW : Below W.heap.size W w) (n : Nat) (h1 : 1 ≤ n) (h2 : n ≤ 1000) :
    Calls Try.prog 10 #[.int .i64 n] w fun e w' => ∃ p c, e = .returned (.tuple #[.pointer (some ⟨p, 0, none⟩), .int .i64 0]) ∧ One W w' p c n [] := by
  refine (bnew_is w n h1 h2).mono ?_
  rintro e w' ⟨he, q, k⟩
  have := hW.size
  exact ⟨_, _, he, q, by omega, by omega, hW.trans (k.mono this)⟩
end
theorem i_le {t n : Nat} (h : (n : Int) ≤ 2000) : n ≤ 2000 := by omega
/-- the numbers that lie in a wheel of size n at the round t -/
def whL (n t : Nat) : List Int := (List.range' (t - (n - 1)) (t - (t - (n - 1)))).map fun (k : Nat) => (k : Int)
theorem wh_len {n t : Nat} (h : 1 ≤ n) : (whL n t).length = min t (n - 1) := by
  unfold whL
  rw [List.length_map, List.length_range']
  omega
theorem wh_put {n t : Nat} (h : 1 ≤ n) : putL n (whL n t) t = (List.range' (t - (n - 1)) (t - (t - (n - 1)) + 1)).map fun (k : Nat) => (k : Int) := by
  rw [putL_room (by rw [wh_len h]; omega)]
  unfold whL
  rw [List.range'_concat, List.map_append]
  congr 1
  simp only [List.map_cons, List.map_nil, Nat.one_mul]
  congr 1
  omega
theorem wh_room {n t : Nat} (h : 1 ≤ n) : putE n (whL n t) = 0 := putE_room (by rw [wh_len h]; omega)
theorem wh_less {n t : Nat} (h : 1 ≤ n) (hl : t + 1 < n) : putL n (whL n t) t = whL n (t + 1) := by
  rw [wh_put h]
  unfold whL
  rw [show t - (n - 1) = 0 by omega, show t + 1 - (n - 1) = 0 by omega]
  rfl
theorem wh_more {n t : Nat} (h : 1 ≤ n) (hl : ¬ t + 1 < n) : headL (putL n (whL n t) t) = (t : Int) + 1 - n ∧ someB (putL n (whL n t) t) = true ∧ (putL n (whL n t) t).tail = whL n (t + 1) := by
  rw [wh_put h, List.range'_succ, List.map_cons]
  refine ⟨?_, rfl, ?_⟩
  · show ((t - (n - 1) : Nat) : Int) = _
    omega
  · rw [List.tail_cons]
    unfold whL
    rw [show t + 1 - (n - 1) = t - (n - 1) + 1 by omega, show t + 1 - (t - (n - 1) + 1) = t - (t - (n - 1)) by omega]
end Go.Proofs.Ythonmfoajjhkdaa.Bx
