/- Plain mathematics of vokref.Num: what a text says, digit by digit. -/
import Derived.Test.YtajgagmpdhmbkaaGreatDoorMaA
set_option linter.unusedVariables false
namespace Go.Proofs.YtajgagmpdhmbkaaGreatDoor.Ru

/-- what Num answers of the text l -/
structure NumC (l : List UInt8) (n : Int) (ok : Bool) : Prop where
  yes : ∀ m, NumIs l m → ok = true ∧ n = m
  text : ok = true → Lib.itoa n = l
  lo : -9223372036854775808 ≤ n
  hi : n ≤ 9223372036854775807
theorem valD_le (l : List UInt8) : ∀ k, valD (l.take k) ≤ valD l := by
  have step : ∀ (m : List UInt8) (a : Nat), a ≤ m.foldl (fun n c => n * 10 + (c.toNat - 48)) a := by
    intro m
    induction m with
    | nil => intro a; exact Nat.le_refl _
    | cons c m ih => intro a; rw [List.foldl_cons]; exact Nat.le_trans (by omega) (ih _)
  intro k
  conv => rhs; rw [← List.take_append_drop k l]
  unfold valD
  rw [List.foldl_append]
  exact step _ _
/-- the digits of a number's text -/
def digs (neg : Bool) (l : List UInt8) : List UInt8 := if neg then l.drop 1 else l
def negB (l : List UInt8) : Bool := decide (l.head? = some 45)
theorem num_neg {l : List UInt8} {m : Int} (h : NumIs l m) : negB l = decide (m < 0) := by
  unfold negB
  rw [← h.1]
  exact decide_eq_decide.2 itoa_neg_head
theorem num_digs {l : List UInt8} {m : Int} (h : NumIs l m) : (∀ c ∈ digs (negB l) l, isD c) ∧ (valD (digs (negB l) l) : Int) = (if negB l then -m else m) ∧ 1 ≤ (digs (negB l) l).length ∧ (digs (negB l) l).length ≤ 9 := by
  have e := num_neg h
  obtain ⟨h1, h2, h3⟩ := h
  unfold Lib.itoa at h1
  by_cases c : m < 0
  · rw [if_pos c] at h1
    rw [e, decide_eq_true c]
    have d : digs true l = Lib.decDigits m.natAbs := by unfold digs; rw [if_pos rfl, ← h1]; rfl
    rw [d]
    refine ⟨dec_digits _, by rw [valD_dec, if_pos rfl]; omega, ?_, dec_len (by decide) (by omega)⟩
    have := dec_ne m.natAbs
    cases q : Lib.decDigits m.natAbs with
    | nil => exact absurd q this
    | cons x r => simp
  · rw [if_neg c] at h1
    rw [e, decide_eq_false c]
    have d : digs false l = Lib.decDigits m.toNat := by unfold digs; rw [if_neg (by decide), ← h1]
    rw [d]
    refine ⟨dec_digits _, by rw [valD_dec, if_neg (by decide)]; omega, ?_, dec_len (by decide) (by omega)⟩
    have := dec_ne m.toNat
    cases q : Lib.decDigits m.toNat with
    | nil => exact absurd q this
    | cons x r => simp
/-- none: no number of nine digits -/
theorem numC_no {l : List UInt8} (h : ∀ m, ¬ NumIs l m) : NumC l 0 false := ⟨fun m g => absurd g (h m), (fun e => nomatch e), by decide, by decide⟩
theorem no_size {l : List UInt8} (h : (digs (negB l) l).length < 1 ∨ 19 < (digs (negB l) l).length) : ∀ m, ¬ NumIs l m := fun m g => by
  have := (num_digs g).2.2; omega
theorem no_digit {l : List UInt8} {c : UInt8} (hc : c ∈ digs (negB l) l) (h : ¬ isD c) : ∀ m, ¬ NumIs l m := fun m g => h ((num_digs g).1 c hc)
theorem no_far {l : List UInt8} {k : Nat} (h : 1000000000 ≤ valD ((digs (negB l) l).take k)) : ∀ m, ¬ NumIs l m := fun m g => by
  have a := valD_le (digs (negB l) l) k
  have b := (num_digs g).2.1
  have c := g.2
  split at b <;> omega
/-- at the end -/
theorem numC_end {l : List UInt8} {n : Int} (hn : n = (if negB l then -(valD (digs (negB l) l) : Int) else (valD (digs (negB l) l) : Int))) (lo : -9223372036854775808 ≤ n) (hi : n ≤ 9223372036854775807) (ok : Bool) (hok : decide (Lib.itoa n = l) = ok) : NumC l n ok := by
  refine ⟨fun m g => ?_, fun e => of_decide_eq_true (hok.trans e), lo, hi⟩
  have b := (num_digs g).2.1
  have e : n = m := by
    rw [hn]
    split at b
    · rename_i q; rw [if_pos q]; omega
    · rename_i q; rw [if_neg q]; omega
  exact ⟨by rw [← hok, e]; exact decide_eq_true g.1, e⟩
theorem no_top {l : List UInt8} (h : 9223372036854775808 ≤ valD (digs (negB l) l)) : ∀ m, ¬ NumIs l m := fun m g => by
  have b := (num_digs g).2.1
  have c := g.2
  split at b <;> omega
/-- one digit more -/
theorem valD_take {l : List UInt8} {k : Nat} (h : k < l.length) : valD (l.take (k + 1)) = valD (l.take k) * 10 + (l[k].toNat - 48) := by
  rw [List.take_succ_eq_append_getElem h, valD_snoc]
end Go.Proofs.YtajgagmpdhmbkaaGreatDoor.Ru
