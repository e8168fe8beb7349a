/- The walk of voklaw13.FrameBack. -/
import Derived.Test.YtdaabjoiokgjlaaDoorFrSu
import Derived.IntWalk
set_option linter.unusedVariables false
namespace Go.Proofs.YtdaabjoiokgjlaaDoor.Fr
open Go.RowKit

/-- how many bytes, none counted beyond 20001 -/
def sumK (S : List SlB) : Nat → Nat
  | 0 => 0
  | t + 1 => sumK S t + min (gt S t).k 20001
theorem sumK_le (S : List SlB) : ∀ t, sumK S t ≤ 20001 * t
  | 0 => Nat.le_refl _
  | t + 1 => by have := sumK_le S t; unfold sumK; omega
theorem sumK_mono (S : List SlB) {a : Nat} : ∀ {b}, a ≤ b → sumK S a ≤ sumK S b
  | 0, h => by obtain rfl : a = 0 := by omega
               exact Nat.le_refl _
  | b + 1, h => by
    by_cases e : a = b + 1
    · subst e; exact Nat.le_refl _
    · have := sumK_mono S (a := a) (b := b) (by omega)
      show sumK S a ≤ sumK S b + min (gt S b).k 20001
      omega
theorem sumK_has (S : List SlB) {j t : Nat} (h : j < t) (hs : sumK S t ≤ 20000) : (gt S j).k ≤ 20000 ∧ sumK S (j + 1) = sumK S j + (gt S j).k := by
  have h1 := sumK_mono S (a := j + 1) (b := t) h
  have h2 : sumK S (j + 1) = sumK S j + min (gt S j).k 20001 := rfl
  rcases Nat.le_total (gt S j).k 20001 with q | q
  · rw [Nat.min_eq_left q] at h2
    exact ⟨by omega, h2⟩
  · rw [Nat.min_eq_right q] at h2
    omega
/-- a list that is read, in every later world -/
theorem ls_cell {W : World} {A : Option Addr} {k : Nat} {S : List SlB} (h : LsAt W A k S) {t : Nat} (ht : t < k) : ∃ b off, A = some ⟨b, off, none⟩ ∧ ∀ w, Below W.heap.size W w → w.cell? ⟨b, off + t, none⟩ = some (.slice (gt S t).A (gt S t).k (gt S t).c) ∧ BsAt w (gt S t).A (gt S t).k (gt S t).l ∧ (gt S t).k ≤ (gt S t).c ∧ ((gt S t).A = none → (gt S t).c = 0) := by
  obtain ⟨b, off, rfl, hb, hc⟩ := h.2 (by omega)
  exact ⟨b, off, rfl, fun w hw => ⟨(hw.cell (p := ⟨b, _, none⟩) hb).trans (hc t ht).1, (hc t ht).2.1.below hw, (hc t ht).2.2⟩⟩
def fewB (S : List SlB) (n : Nat) : Bool := decide (n ≤ 300 ∧ sumK S (min n 300) ≤ 20000)
set_option maxRecDepth 100000 in
set_option maxHeartbeats 4000000 in
theorem few_is (w : World) (A : Option Addr) (n c : Nat) (S : List SlB) (h : LsAt w A n S) (hn : n ≤ 9223372036854775807) (hS : ∀ s ∈ S, s.c ≤ 9223372036854775807) :
    Calls Tryd.prog 22 #[.slice A n c] w fun e w' => e = .returned (.bool (fewB S n)) ∧ w' = w := by
  have HA := Lib.hid h
  have SM := Lib.hid (fun t (ht : t < n) => hS (gt S t) (gt_mem (by rw [← h.1]; exact ht)))
  clear h hS
  go_enter Tryd.func22, Tryd.ntmps22
  go_wp2
  go_loop [3, 4] (fun s i => ∃ t : Nat, t ≤ n ∧ t ≤ 300 ∧ s = .int .i64 (sumK S t : Nat) ∧ i = .int .i64 t) (fun _ i => 300 - (intOf i).toNat)
  case atStart => exact ⟨0, Nat.zero_le _, Nat.zero_le _, rfl, rfl⟩
  case round =>
    obtain ⟨t, ht, ht2, rfl, rfl⟩ := hrel
    by_cases hlt : t < n ∧ t < 300
    · obtain ⟨h1, h2⟩ := hlt
      have s0 : decide ((t : Int) < n) = true := decide_eq_true (by omega)
      have s00 : decide (t < n) = true := decide_eq_true h1
      have s1 : decide ((t : Int) < 300) = true := decide_eq_true (by omega)
      have s11 : decide (t < 300) = true := decide_eq_true h2
      have i5 : (t : Int) < n := by omega
      obtain ⟨b, off, rfl, hc⟩ := ls_cell HA.out h1
      obtain ⟨x0, -, kk, -⟩ := hc w (Below.refl _ _)
      have sl := sumK_le S t
      have SE := Lib.hid (show sumK S (t + 1) = sumK S t + min (gt S t).k 20001 from rfl)
      have kz := Nat.le_trans kk (SM.out t h1)
      clear hc kk
      generalize (gt S t).k = z at *
      generalize (gt S t).A = az at *
      generalize (gt S t).c = cz at *
      generalize sumK S t = y at *
      have M1 : min (z : Int) 20001 = ((min z 20001 : Nat) : Int) := by omega
      by_cases hz : 20001 < z
      · go_wp2
        all_goals first
          | (exfalso; omega)
          | (go_round
             case rel => exact ⟨t + 1, by omega, by omega, by rw [SE.out, Nat.min_eq_right (by omega)]; first | rfl | (congr 1; omega), by go_num⟩
             case measure => simp [intOf]; omega)
      · go_wp2
        all_goals first
          | (exfalso; omega)
          | (go_round
             case rel => exact ⟨t + 1, by omega, by omega, by rw [SE.out]; first | rfl | (congr 1; omega), by go_num⟩
             case measure => simp [intOf]; omega)
    · obtain ⟨m, hm⟩ : ∃ m, min n 300 = m := ⟨_, rfl⟩
      obtain rfl : t = m := by omega
      by_cases h3 : n ≤ 300
      · obtain rfl : t = n := by omega
        have s0 : decide ((t : Int) ≤ 300) = true := decide_eq_true (by omega)
        have F := Lib.hid (show fewB S t = decide (sumK S t ≤ 20000) by unfold fewB; rw [hm]; simp [h3])
        generalize sumK S t = y at *
        by_cases hy : y ≤ 20000
        · have s4 : decide ((y : Int) ≤ 20000) = true := decide_eq_true (by omega)
          have G := Lib.hid (ret_bool (show true = fewB S t by rw [F.out]; exact (decide_eq_true hy).symm))
          go_wp2
          go_ret
          exact ⟨G.out, rfl⟩
        · have s4 : decide ((y : Int) ≤ 20000) = false := decide_eq_false (by omega)
          have G := Lib.hid (ret_bool (show false = fewB S t by rw [F.out]; exact (decide_eq_false hy).symm))
          go_wp2
          go_ret
          exact ⟨G.out, rfl⟩
      · obtain rfl : t = 300 := by omega
        have s0 : decide ((n : Int) ≤ 300) = false := decide_eq_false (by omega)
        have G := Lib.hid (ret_bool (show false = fewB S n by unfold fewB; simp [h3]))
        generalize sumK S 300 = y at *
        go_wp2
        go_ret
        exact ⟨G.out, rfl⟩
end Go.Proofs.YtdaabjoiokgjlaaDoor.Fr
