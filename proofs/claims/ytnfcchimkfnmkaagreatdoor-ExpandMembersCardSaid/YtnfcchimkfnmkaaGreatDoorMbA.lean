/- The walks of slices.Index and slices.Contains of numbers, and of member.only. -/
import Derived.Test.YtnfcchimkfnmkaaGreatDoorRuB
import Derived.Test.YtnfcchimkfnmkaaGreatDoorMbLaw
set_option linter.unusedVariables false
namespace Go.Proofs.YtnfcchimkfnmkaaGreatDoor.Mb
open Go.RowKit Cv St Ru

def noTo (l : List Int) (x : Int) (k : Nat) : Prop := ∀ j, j < k → iat l j ≠ x
theorem noTo.succ {l : List Int} {x : Int} {k : Nat} (h : noTo l x k) (e : iat l k ≠ x) : noTo l x (k + 1) := fun j hj => by
  by_cases c : j = k
  · subst c; exact e
  · exact h j (by omega)
theorem noTo_idx {l : List Int} {x : Int} {k : Nat} (h : noTo l x k) (hk : k < l.length) (e : iat l k = x) : idx l x = (k : Int) :=
  idx_of hk (by rw [← iat_lt hk]; exact e) fun j hj => by rw [← iat_lt (by omega)]; exact h j hj
theorem noTo_none {l : List Int} {x : Int} (h : noTo l x l.length) : idx l x = -1 := idx_no fun g => by
  obtain ⟨j, hj, e⟩ := List.getElem_of_mem g
  exact h j hj (by rw [iat_lt hj]; exact e)
theorem idx_mem {l : List Int} {x : Int} : (0 ≤ idx l x) ↔ x ∈ l := by
  constructor
  · intro h
    by_cases c : x ∈ l
    · exact c
    · rw [idx_no c] at h; omega
  · intro h
    induction l with
    | nil => cases h
    | cons y l ih =>
      unfold idx
      split
      · omega
      · rename_i c
        have := ih (by rcases List.mem_cons.1 h with q | q; exact absurd q.symm c; exact q)
        split <;> omega
theorem idx_hi (l : List Int) (x : Int) : idx l x ≤ l.length := by
  induction l with
  | nil => simp [idx]
  | cons y l ih =>
    unfold idx
    rw [List.length_cons]
    split
    · omega
    · split <;> omega
set_option maxHeartbeats 2000000 in
/-- slices.Index of numbers -/
theorem index_is (w : World) (A : Option Addr) (n c : Nat) (l : List Int) (x : Int) (hl : IsAt w A n l) (h1 : n ≤ 9223372036854775807) (p : Int) (hp : idx l x = p) :
    Calls Tryz.prog 65 #[.slice A n c, .int .i64 x] w fun e w' => e = .returned (.int .i64 p) ∧ Below w.heap.size w w' := by
  obtain ⟨en, hc⟩ := hl
  have EN := Lib.hid en
  have HP := Lib.hid hp
  clear en hp
  go_enter Tryz.func65, Tryz.ntmps65
  go_wp2
  go_loopw [8] (fun i wr => ∃ t : Nat, t ≤ n ∧ i = .int .i64 t ∧ Hid (noTo l x t) ∧ ∃ q : Nat, wr = w.drewN q) (fun i _ => n - (intOf i).toNat)
  case atStart => exact ⟨0, Nat.zero_le _, rfl, Lib.hid (fun j hj => absurd hj (by omega)), 0, rfl⟩
  case round =>
    obtain ⟨t, ht, rfl, D, q, rfl⟩ := hrel
    by_cases hlt : t < n
    · obtain ⟨bl, off, rfl, hb, hcc⟩ := hc (by omega)
      have c0 := hcc t hlt
      have Y := Lib.hid (fun (h : iat l t = x) => show (t : Int) = p from (noTo_idx D.out (by rw [← EN.out]; exact hlt) h).symm.trans HP.out)
      have X := Lib.hid (fun (e1 : iat l t ≠ x) => D.out.succ e1)
      clear hc hcc D
      by_cases p1 : iat l t = x
      · have e1 : ((x : Int) == iat l t) = true := by rw [beq_iff_eq]; exact p1.symm
        have F := Lib.hid (Y.out p1)
        clear p1 X Y
        generalize iat l t = s at *
        go_wp2
        go_ret
        exact ⟨ret_int F.out, Below.drewN' _ _ _⟩
      · have e1 : ((x : Int) == iat l t) = false := by rw [beq_eq_false_iff_ne]; exact fun g => p1 g.symm
        have F := Lib.hid (X.out p1)
        clear p1 X Y
        generalize iat l t = s at *
        go_wp2
        go_roundw
        case rel => exact ⟨t + 1, by omega, by go_num, F, _, rfl⟩
        case measure => simp [intOf]; omega
    · obtain rfl : n = t := by omega
      have F := Lib.hid (show (-1 : Int) = p from (noTo_none (by rw [← EN.out]; exact D.out)).symm.trans HP.out)
      go_wp2
      go_ret
      exact ⟨ret_int F.out, Below.drewN' _ _ _⟩
set_option maxHeartbeats 2000000 in
/-- slices.Contains of numbers -/
theorem contains_is (w : World) (A : Option Addr) (n c : Nat) (l : List Int) (x : Int) (hl : IsAt w A n l) (h1 : n ≤ 9223372036854775807) (p : Bool) (hp : decide (x ∈ l) = p) :
    Calls Tryz.prog 63 #[.slice A n c, .int .i64 x] w fun e w' => e = .returned (.bool p) ∧ Below w.heap.size w w' := by
  obtain ⟨z, hz⟩ : ∃ z, idx l x = z := ⟨_, rfl⟩
  have F := Lib.hid (show decide (0 ≤ z) = p by rw [← hp, ← hz]; exact decide_eq_decide.2 idx_mem)
  have HL := Lib.hid hl
  have HZ := Lib.hid hz
  clear hp hz hl
  go_enter Tryz.func63, Tryz.ntmps63
  go_wp2_with fail
  refine (index_is _ A n c l x HL.out h1 z HZ.out).mono ?_
  rintro e w' ⟨rfl, hb⟩
  go_wp2
  go_ret
  exact ⟨ret_bool F.out, hb⟩
/-- what answers a slice that reads as the list m -/
def ListIs (w : World) (m : List Int) (e : Ending) (w' : World) : Prop := ∃ A c, e = .returned (.slice A m.length c) ∧ IsAt w' A m.length m ∧ Below w.heap.size w w'
theorem oneI (w : World) (x : Int) : IsAt (w.alloc (.cells #[.int .i64 x] 3)) (some ⟨w.heap.size, 0, none⟩) 1 [x] :=
  ⟨rfl, fun _ => ⟨w.heap.size, 0, rfl, by simp, fun j hj => by
    obtain rfl : j = 0 := by omega
    simp [go_sem, iat]⟩⟩
set_option maxHeartbeats 2000000 in
/-- member.only -/
theorem only_is (w : World) (A : Option Addr) (n c : Nat) (l : List Int) (x : Int) (hl : IsAt w A n l) (h1 : n ≤ 9223372036854775807) (m : List Int) (hm : only l x = m) :
    Calls Tryz.prog 153 #[.slice A n c, .int .i64 x] w (ListIs w m) := by
  obtain ⟨b, hb⟩ : ∃ b, decide (x ∈ l) = b := ⟨_, rfl⟩
  have HB := Lib.hid hb
  have HL := Lib.hid hl
  have F1 := Lib.hid (fun (h : b = true) => show [x] = m by rw [← hm]; unfold only; rw [if_pos (of_decide_eq_true (hb.trans h))])
  have F0 := Lib.hid (fun (h : b = false) => show [] = m by rw [← hm]; unfold only; rw [if_neg (of_decide_eq_false (hb.trans h))])
  clear hb hl hm
  go_enter Tryz.func153, Tryz.ntmps153
  go_wp2_with fail
  refine (contains_is _ A n c l x HL.out h1 b HB.out).mono ?_
  rintro e w1 ⟨rfl, b1⟩
  cases b
  · have E := F0.out rfl
    subst E
    go_wp2
    go_ret
    exact ⟨none, 0, rfl, IsAt.nil _ _, b1⟩
  · have E := F1.out rfl
    subst E
    go_wp2
    go_ret
    exact ⟨_, 1, rfl, oneI _ x, b1.trans ((alloc_below _ _).mono b1.size)⟩
end Go.Proofs.YtnfcchimkfnmkaaGreatDoor.Mb
