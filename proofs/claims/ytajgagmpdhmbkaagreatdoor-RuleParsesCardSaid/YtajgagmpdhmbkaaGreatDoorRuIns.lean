/- Plain mathematics of vokref.Sorted: a number put into a list that rises. -/
import Derived.Test.YtajgagmpdhmbkaaGreatDoorRuComp
import Derived.Test.YtajgagmpdhmbkaaGreatDoorMaA
set_option linter.unusedVariables false
namespace Go.Proofs.YtajgagmpdhmbkaaGreatDoor.Ru
open Go.RowKit Cv St

/-- all ahead of k are less than x -/
def lowTo (l : List Int) (x : Int) (k : Nat) : Prop := ∀ j, j < k → iat l j < x
theorem lowTo.zero (l : List Int) (x : Int) : lowTo l x 0 := fun j h => absurd h (by omega)
theorem lowTo.succ {l : List Int} {x : Int} {k : Nat} (h : lowTo l x k) (e : iat l k < x) : lowTo l x (k + 1) := fun j hj => by
  by_cases c : j = k
  · subst c; exact e
  · exact h j (by omega)
theorem iat_cons (y : Int) (l : List Int) (j : Nat) : iat (y :: l) (j + 1) = iat l j := by unfold iat; simp
theorem iat_head (y : Int) (l : List Int) : iat (y :: l) 0 = y := rfl
/-- the number is there already -/
theorem ins_there {x : Int} : ∀ {l : List Int} {k : Nat}, lowTo l x k → k < l.length → iat l k = x → ins iltB x l = l
  | [], k, _, h, _ => absurd h (by simp)
  | y :: l, 0, _, _, e => by
    rw [iat_head] at e; subst e
    unfold ins iltB
    rw [if_neg (by simp), if_neg (by simp)]
  | y :: l, k + 1, lo, h, e => by
    have h0 := lo 0 (by omega)
    rw [iat_head] at h0
    rw [iat_cons] at e
    unfold ins
    rw [if_pos (show iltB y x = true from decide_eq_true h0), ins_there (k := k) (fun j hj => by have := lo (j + 1) (by omega); rwa [iat_cons] at this) (by simpa using h) e]
/-- the number goes in at k -/
theorem ins_new {x : Int} : ∀ {l : List Int} {k : Nat}, lowTo l x k → k ≤ l.length → (k < l.length → x < iat l k) → ins iltB x l = l.take k ++ x :: l.drop k
  | [], 0, _, _, _ => rfl
  | [], k + 1, _, h, _ => absurd h (by simp)
  | y :: l, 0, _, _, e => by
    have := e (by simp)
    rw [iat_head] at this
    unfold ins
    rw [if_neg (show ¬ iltB y x = true by unfold iltB; simp; omega), if_pos (show iltB x y = true from decide_eq_true this)]
    rfl
  | y :: l, k + 1, lo, h, e => by
    have h0 := lo 0 (by omega)
    rw [iat_head] at h0
    unfold ins
    rw [if_pos (show iltB y x = true from decide_eq_true h0), ins_new (k := k) (fun j hj => by have := lo (j + 1) (by omega); rwa [iat_cons] at this) (by simpa using h) (fun hk => by have := e (by simpa using hk); rwa [iat_cons] at this)]
    rfl
theorem sortU_take {l : List Int} {t : Nat} (h : t < l.length) : sortU iltB (l.take (t + 1)) = ins iltB (iat l t) (sortU iltB (l.take t)) := by
  unfold sortU
  rw [List.take_succ_eq_append_getElem h, List.foldl_append, iat_lt h]
  rfl
theorem sortU_take_len (l : List Int) (t : Nat) : (sortU iltB (l.take t)).length ≤ l.length := by
  have := (sort_all (l := l.take t)).2.1
  have h2 := List.length_take_le t l
  have h3 : (l.take t).length ≤ l.length := by rw [List.length_take]; omega
  omega
/-- an own row, cut off -/
theorem own_cut {w : World} {base : Nat} {e : TypeId} {g n k cap : Nat} {xs : List Value} (h : w.ownsRow base e 1 (.slice (some ⟨g, 0, none⟩) n cap) n xs) (hk : k ≤ n) : w.ownsRow base e 1 (.slice (some ⟨g, 0, none⟩) k cap) k (xs.take k) := by
  obtain ⟨h1, h2⟩ := h
  refine ⟨by rw [List.length_take]; omega, ?_⟩
  rcases h2 with ⟨q, _⟩ | ⟨g', cap', cur, q, a1, a2, a3, a4, a5, a6⟩
  · cases q
  · injection q with q1 q2 q3
    injection q1 with q1; injection q1 with q1 _
    subst q1 q3
    refine .inr ⟨g, cap, cur, rfl, a1, a2, by omega, a4, a5, ?_⟩
    rw [← a6, List.take_take]
    congr 1; omega
end Go.Proofs.YtajgagmpdhmbkaaGreatDoor.Ru
