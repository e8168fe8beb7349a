/- The document's sum of a duration's text: of what DurText writes it is the duration. -/
import Derived.Test.YtbnncdfkmlfjhaaDoorStMath2
import Derived.Lib.ItoaLen
namespace Go.Proofs.YtbnncdfkmlfjhaaDoor.St
open Cv

/-- The document's sum, given the total so far and the number that is being read. -/
def rsumL : List UInt8 → Int → Int → Int
  | [], a, _ => a
  | c :: r, a, n =>
    if isd c = true then rsumL r a (min (10 * n + ((c.toNat : Int) - 48)) 8589934592)
    else if 0 < sec c.toNat then rsumL r (min (a + n * sec c.toNat) 1152921504606846976) 0 else rsumL r a n
theorem rsumL_dig {c : UInt8} {r : List UInt8} {a n m : Int} (hc : isd c = true) (hm : n * 10 + ((c.toNat : Int) - 48) = m) (hb : m ≤ 2147483648) : rsumL (c :: r) a n = rsumL r a m := by
  rw [rsumL, if_pos hc, show min (10 * n + ((c.toNat : Int) - 48)) 8589934592 = m by omega]
theorem rsumL_unit {c : UInt8} {r : List UInt8} {a n m : Int} (hc : isd c = false) (hs : 0 < sec c.toNat) (hm : a + n * sec c.toNat = m) (hb : m ≤ 2147483648) : rsumL (c :: r) a n = rsumL r m 0 := by
  rw [rsumL, if_neg (by simp [hc]), if_pos hs, hm, show min m 1152921504606846976 = m by omega]
theorem rsumL_skip {c : UInt8} {r : List UInt8} {a n : Int} (hc : isd c = false) (hs : sec c.toNat = 0) : rsumL (c :: r) a n = rsumL r a n := by
  rw [rsumL, if_neg (by simp [hc]), if_neg (by omega)]
theorem rsumL_itoa : ∀ (k : Nat) (r : List UInt8) (a : Int), k ≤ 2147483648 → rsumL (Lib.decDigits k ++ r) a 0 = rsumL r a k := by
  intro k
  induction k using Nat.strongRecOn with
  | ind k ih =>
    intro r a hk
    rw [Lib.decDigits]
    split
    · rename_i h
      obtain ⟨d1, d2⟩ := dig_nat h
      exact rsumL_dig d1 (by rw [d2]; omega) (by omega)
    · rename_i h
      obtain ⟨d1, d2⟩ := dig_nat (k := k % 10) (by omega)
      rw [List.append_assoc, ih (k / 10) (by omega) _ a (by omega)]
      exact rsumL_dig d1 (by rw [d2]; omega) (by omega)
theorem rsumL_part {n u a m : Int} {r : List UInt8} (h0 : 0 ≤ n) (h1 : n ≤ 2147483648) (hu : isd (u8 u) = false) (hs : 0 < sec (u8 u).toNat) (hm : a + n * sec (u8 u).toNat = m) (hb : m ≤ 2147483648) : rsumL (part n u ++ r) a 0 = rsumL r m 0 := by
  unfold part
  split
  · rename_i h
    subst h
    rw [show m = a by rw [← hm]; simp]; rfl
  · obtain ⟨k, rfl⟩ := Int.eq_ofNat_of_zero_le h0
    rw [List.append_assoc, Lib.itoa, if_neg (by omega), Int.toNat_natCast, rsumL_itoa k _ a (by omega)]
    exact rsumL_unit hu hs hm hb
/-- Of the text of a duration, its first byte left out. -/
theorem rsumL_durText {n : Int} (h1 : 1 ≤ n) (h2 : n ≤ 2147483648) : rsumL (durText n).tail 0 0 = n := by
  have uW : isd (u8 87) = false := by decide
  have uD : isd (u8 68) = false := by decide
  have uH : isd (u8 72) = false := by decide
  have uM : isd (u8 77) = false := by decide
  have uS : isd (u8 83) = false := by decide
  have sW : sec (u8 87).toNat = 604800 := by decide
  have sD : sec (u8 68).toNat = 86400 := by decide
  have sH : sec (u8 72).toNat = 3600 := by decide
  have sM : sec (u8 77).toNat = 60 := by decide
  have sS : sec (u8 83).toNat = 1 := by decide
  have pT : ∀ r a, rsumL (84 :: r) a 0 = rsumL r a 0 := fun r a => rsumL_skip (by decide) (by decide)
  unfold durText
  split
  · rw [List.tail_cons, ← List.append_nil (part _ _), rsumL_part (m := n) (by omega) (by omega) uW (by omega) (by rw [sW]; omega) h2]; rfl
  split
  · rw [List.tail_cons, ← List.append_nil (part _ _), rsumL_part (m := n) (by omega) (by omega) uD (by omega) (by rw [sD]; omega) h2]; rfl
  · rw [List.tail_cons, rsumL_part (m := n / 86400 * 86400) (by omega) (by omega) uD (by omega) (by rw [sD]; omega) (by omega), pT, List.append_assoc,
      rsumL_part (m := n / 86400 * 86400 + n % 86400 / 3600 * 3600) (by omega) (by omega) uH (by omega) (by rw [sH]) (by omega),
      rsumL_part (m := n / 86400 * 86400 + n % 86400 / 3600 * 3600 + n % 3600 / 60 * 60) (by omega) (by omega) uM (by omega) (by rw [sM]) (by omega),
      ← List.append_nil (part _ _), rsumL_part (m := n) (by omega) (by omega) uS (by omega) (by rw [sS]; omega) h2]; rfl
theorem dec_short : ∀ (k n : Nat), 1 ≤ k → n < 10 ^ k → (Lib.decDigits n).length ≤ k := by
  intro k
  induction k with
  | zero => intro n h; omega
  | succ k ih =>
    intro n _ hn
    rw [Lib.decDigits]
    split
    · simp
    · rename_i h
      rw [List.length_append, List.length_singleton]
      have hk : 1 ≤ k := by
        rcases Nat.eq_zero_or_pos k with e | e
        · subst e; simp at hn; omega
        · exact e
      have := ih (n / 10) hk (by rw [Nat.pow_succ] at hn; omega)
      omega
theorem part_short {n u : Int} (k : Nat) (hk : 1 ≤ k) (h0 : 0 ≤ n) (h1 : n < ((10 ^ k : Nat) : Int)) : (part n u).length ≤ k + 1 := by
  unfold part
  split
  · simp
  · obtain ⟨m, rfl⟩ := Int.eq_ofNat_of_zero_le h0
    rw [List.length_append, Lib.itoa, if_neg (by omega), Int.toNat_natCast]
    have := dec_short k m hk (by omega)
    simp; omega
theorem durText_short {n : Int} (h1 : 1 ≤ n) (h2 : n ≤ 2147483648) : (durText n).length ≤ 30 := by
  have e4 : ((10 ^ 4 : Nat) : Int) = 10000 := by decide
  have e5 : ((10 ^ 5 : Nat) : Int) = 100000 := by decide
  have e2 : ((10 ^ 2 : Nat) : Int) = 100 := by decide
  have k0 := part_short (n := n / 604800) (u := 87) 4 (by decide) (by omega) (by omega)
  have k1 := part_short (n := n / 86400) (u := 68) 5 (by decide) (by omega) (by omega)
  have k2 := part_short (n := n % 86400 / 3600) (u := 72) 2 (by decide) (by omega) (by omega)
  have k3 := part_short (n := n % 3600 / 60) (u := 77) 2 (by decide) (by omega) (by omega)
  have k4 := part_short (n := n % 60) (u := 83) 2 (by decide) (by omega) (by omega)
  unfold durText
  split <;> (try split) <;> simp <;> omega
theorem durParse_long {l : List UInt8} (h : 30 < l.length) : durParse l = (0, 4) := by
  have hn : ¬ l = [] := by rintro rfl; simp at h
  by_cases g : 1 ≤ sumL l 0 0 ∧ sumL l 0 0 ≤ 2147483648
  · by_cases e : durText (sumL l 0 0) = l
    · have := durText_short g.1 g.2; rw [e] at this; omega
    · exact durParse_4 hn g e
  · exact durParse_2 hn g
theorem durParse_same {l : List UInt8} (h1 : 1 ≤ rsumL l.tail 0 0) (h2 : rsumL l.tail 0 0 ≤ 2147483648) (e : durText (rsumL l.tail 0 0) = l) : durParse l = (rsumL l.tail 0 0, 0) := by
  have := durParse_durText h1 h2
  rwa [e] at this
theorem durParse_none {l : List UInt8} (hn : ¬ l = []) (h : ¬ (1 ≤ rsumL l.tail 0 0 ∧ rsumL l.tail 0 0 ≤ 2147483648 ∧ durText (rsumL l.tail 0 0) = l)) : durParse l = (0, 4) := by
  by_cases g : 1 ≤ sumL l 0 0 ∧ sumL l 0 0 ≤ 2147483648
  · by_cases e : durText (sumL l 0 0) = l
    · refine absurd ?_ h
      have r := rsumL_durText g.1 g.2
      rw [e] at r
      rw [r]; exact ⟨g.1, g.2, e⟩
    · exact durParse_4 hn g e
  · exact durParse_2 hn g
/-- What is left of the sum behind k bytes. -/
def RRest (s : ByteArray) (k : Nat) (a n : Int) : Prop := rsumL (s.data.toList.drop k) a n = rsumL (s.data.toList.drop 1) 0 0
theorem rrest_1 {s : ByteArray} {k : Nat} {x y : Int} (hlt : k < s.size) (hc : isd s[k] = true) (hr : RRest s k x y) : RRest s (k + 1) x (min (10 * y + ((s[k].toNat : Int) - 48)) 8589934592) := by
  unfold RRest at *; rw [drop_cons s k hlt, rsumL, if_pos hc] at hr; exact hr
theorem rrest_2 {s : ByteArray} {k : Nat} {x y : Int} (hlt : k < s.size) (hc : isd s[k] = false) (hs : 0 < sec s[k].toNat) (hr : RRest s k x y) : RRest s (k + 1) (min (x + y * sec s[k].toNat) 1152921504606846976) 0 := by
  unfold RRest at *; rw [drop_cons s k hlt, rsumL, if_neg (by simp [hc]), if_pos hs] at hr; exact hr
theorem rrest_3 {s : ByteArray} {k : Nat} {x y : Int} (hlt : k < s.size) (hc : isd s[k] = false) (hs : ¬ 0 < sec s[k].toNat) (hr : RRest s k x y) : RRest s (k + 1) x y := by
  unfold RRest at *; rw [drop_cons s k hlt, rsumL, if_neg (by simp [hc]), if_neg hs] at hr; exact hr
theorem rrest_end {s : ByteArray} {k : Nat} {x y : Int} (hk : s.size ≤ k) (hr : RRest s k x y) : x = rsumL (s.data.toList.drop 1) 0 0 := by
  unfold RRest at hr; rw [List.drop_of_length_le (by simpa using hk), rsumL] at hr; exact hr
end Go.Proofs.YtbnncdfkmlfjhaaDoor.St
