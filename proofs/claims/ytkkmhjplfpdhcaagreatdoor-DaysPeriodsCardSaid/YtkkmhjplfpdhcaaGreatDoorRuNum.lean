/- Plain mathematics of numbers in texts: a number's decimal text is that of no other number, and has no other sign than digits and one at its head. -/
import Derived.Lib.ItoaNum
import Derived.Lib.ItoaLen
set_option linter.unusedVariables false
namespace Go.Proofs.YtkkmhjplfpdhcaaGreatDoor.Ru

/-- what digits say -/
def valD (l : List UInt8) : Nat := l.foldl (fun n c => n * 10 + (c.toNat - 48)) 0
theorem valD_snoc (l : List UInt8) (c : UInt8) : valD (l ++ [c]) = valD l * 10 + (c.toNat - 48) := by unfold valD; rw [List.foldl_append]; rfl
theorem dig_val {k : Nat} (h : k < 10) : (UInt8.ofNat (48 + k)).toNat = 48 + k := by
  rw [UInt8.toNat_ofNat']; omega
theorem valD_dec : ∀ (n : Nat), valD (Lib.decDigits n) = n := fun n => by
  induction n using Nat.strongRecOn with
  | _ n ih =>
    rw [Lib.decDigits]
    split
    · rename_i h; show 0 * 10 + ((UInt8.ofNat (48 + n)).toNat - 48) = n; rw [dig_val h]; omega
    · rename_i h
      rw [valD_snoc, ih (n / 10) (by omega), dig_val (by omega)]; omega
def isD (c : UInt8) : Prop := 48 ≤ c.toNat ∧ c.toNat ≤ 57
theorem dec_digits : ∀ (n : Nat), ∀ c ∈ Lib.decDigits n, isD c := fun n => by
  induction n using Nat.strongRecOn with
  | _ n ih =>
    intro c hc
    rw [Lib.decDigits] at hc
    split at hc
    · rename_i h
      obtain rfl : c = UInt8.ofNat (48 + n) := by simpa using hc
      exact ⟨by rw [dig_val h]; omega, by rw [dig_val h]; omega⟩
    · rename_i h
      rcases List.mem_append.1 hc with hc | hc
      · exact ih (n / 10) (by omega) c hc
      · obtain rfl : c = UInt8.ofNat (48 + n % 10) := by simpa using hc
        exact ⟨by rw [dig_val (by omega)]; omega, by rw [dig_val (by omega)]; omega⟩
theorem dec_ne (n : Nat) : Lib.decDigits n ≠ [] := by
  rw [Lib.decDigits]; split <;> simp
theorem itoa_ne (n : Int) : Lib.itoa n ≠ [] := by
  unfold Lib.itoa; split
  · simp
  · exact dec_ne _
theorem itoa_neg_head {n : Int} : (Lib.itoa n).head? = some 45 ↔ n < 0 := by
  unfold Lib.itoa
  constructor
  · intro h
    split at h
    · assumption
    · cases e : Lib.decDigits n.toNat with
      | nil => exact absurd e (dec_ne _)
      | cons c r =>
        rw [e] at h
        simp at h
        have := dec_digits n.toNat c (by rw [e]; exact List.mem_cons_self ..)
        rw [h] at this
        exact absurd this.1 (by decide)
  · intro h; rw [if_pos h]; rfl
theorem itoa_inj {m n : Int} (h : Lib.itoa m = Lib.itoa n) : m = n := by
  have hs : (m < 0) ↔ (n < 0) := by rw [← itoa_neg_head, ← itoa_neg_head, h]
  unfold Lib.itoa at h
  by_cases hm : m < 0
  · have hn := hs.1 hm
    rw [if_pos hm, if_pos hn] at h
    injection h with _ h
    have := congrArg valD h
    rw [valD_dec, valD_dec] at this
    omega
  · have hn : ¬ n < 0 := fun g => hm (hs.2 g)
    rw [if_neg hm, if_neg hn] at h
    have := congrArg valD h
    rw [valD_dec, valD_dec] at this
    omega
/-- a byte of a number's text is a digit or '-' -/
theorem itoa_sign {n : Int} {c : UInt8} (h : c ∈ Lib.itoa n) : isD c ∨ c = 45 := by
  unfold Lib.itoa at h
  split at h
  · rcases List.mem_cons.1 h with h | h
    · exact .inr h
    · exact .inl (dec_digits _ _ h)
  · exact .inl (dec_digits _ _ h)
theorem itoa_no {n : Int} {c : UInt8} (h : ¬ isD c) (h2 : c ≠ 45) : c ∉ Lib.itoa n := fun g => (itoa_sign g).elim h h2
theorem dec_len {k : Nat} : ∀ {n : Nat}, 1 ≤ k → n < 10 ^ k → (Lib.decDigits n).length ≤ k := by
  induction k with
  | zero => intro n h; omega
  | succ k ih =>
    intro n _ hn
    rw [Lib.decDigits]
    split
    · simp
    · rename_i h
      have hk : 1 ≤ k := by
        cases k with
        | zero => simp at hn; omega
        | succ k => omega
      have := ih (n := n / 10) hk (by rw [Nat.pow_succ] at hn; omega)
      simp; omega
theorem dec_len_lt {k : Nat} : ∀ {n : Nat}, (Lib.decDigits n).length ≤ k → n < 10 ^ k := by
  intro n h
  have := Lib.lt_pow_nDigits n
  rw [Lib.decDigits_length] at h
  exact Nat.lt_of_lt_of_le this (Nat.pow_le_pow_right (by decide) h)
/-- a number of at most nine digits, as it is printed -/
def NumIs (l : List UInt8) (n : Int) : Prop := Lib.itoa n = l ∧ -999999999 ≤ n ∧ n ≤ 999999999
open Classical in
noncomputable def numOf (l : List UInt8) : Option Int := if h : ∃ n, NumIs l n then some h.choose else none
theorem numOf_of {l : List UInt8} {n : Int} (h : NumIs l n) : numOf l = some n := by
  have h' : ∃ n, NumIs l n := ⟨n, h⟩
  unfold numOf
  rw [dif_pos h']
  have := h'.choose_spec
  rw [itoa_inj (this.1.trans h.1.symm)]
theorem numOf_some {l : List UInt8} {n : Int} (h : numOf l = some n) : NumIs l n := by
  unfold numOf at h
  split at h
  · rename_i g; injection h with h; rw [← h]; exact g.choose_spec
  · cases h
theorem numOf_none {l : List UInt8} (h : ∀ n, ¬ NumIs l n) : numOf l = none := by
  unfold numOf; rw [dif_neg (fun ⟨n, g⟩ => h n g)]
end Go.Proofs.YtkkmhjplfpdhcaaGreatDoor.Ru
