/- Texts of moments rise with the moments. -/
import Derived.Test.YtbnncdfkmlfjhaaDoorStMath2
import GoSem.Op.String
namespace Go.Proofs.YtbnncdfkmlfjhaaDoor.St
open Cv

theorem less_same : ∀ x : List UInt8, Op.bytesLess x x = false
  | [] => rfl
  | a :: x => by rw [Op.bytesLess, less_same x]; simp
theorem less_not : ∀ x y : List UInt8, Op.bytesLess x y = true → Op.bytesLess y x = false
  | [], [], h => by cases h
  | [], _ :: _, _ => rfl
  | _ :: _, [], h => by cases h
  | a :: x, b :: y, h => by
    rw [Op.bytesLess] at h ⊢
    rw [Bool.or_eq_true] at h
    rcases h with h | h
    · have g := of_decide_eq_true h
      have : (a.toNat : Nat) < b.toNat := UInt8.lt_iff_toNat_lt.1 g
      have n1 : ¬ b < a := fun x => by have := UInt8.lt_iff_toNat_lt.1 x; omega
      have n2 : (b == a) = false := by rw [beq_eq_false_iff_ne]; intro e; subst e; omega
      simp [n1, n2]
    · rw [Bool.and_eq_true, beq_iff_eq] at h
      obtain ⟨rfl, h⟩ := h
      rw [less_not x y h]; simp
theorem less_head {a b : UInt8} (x y : List UInt8) (h : (a.toNat : Int) < b.toNat) : Op.bytesLess (a :: x) (b :: y) = true := by
  have : a < b := UInt8.lt_iff_toNat_lt.2 (by omega)
  rw [Op.bytesLess]; simp [this]
theorem less_tail (a : UInt8) (x y : List UInt8) : Op.bytesLess (a :: x) (a :: y) = Op.bytesLess x y := by
  rw [Op.bytesLess]; simp
theorem less_d2 {p q : Int} (x y : List UInt8) (h0 : 0 ≤ p) (h : p < q) (h1 : q ≤ 99) : Op.bytesLess (d2 p ++ x) (d2 q ++ y) = true := by
  show Op.bytesLess (u8 _ :: u8 _ :: x) (u8 _ :: u8 _ :: y) = true
  by_cases e : p / 10 < q / 10
  · exact less_head _ _ (by rw [u8_nat _ (by omega) (by omega), u8_nat _ (by omega) (by omega)]; omega)
  · rw [show p / 10 = q / 10 by omega, less_tail]
    exact less_head _ _ (by rw [u8_nat _ (by omega) (by omega), u8_nat _ (by omega) (by omega)]; omega)
theorem same_d2 (p : Int) (x y : List UInt8) : Op.bytesLess (d2 p ++ x) (d2 p ++ y) = Op.bytesLess x y := by
  show Op.bytesLess (u8 _ :: u8 _ :: x) (u8 _ :: u8 _ :: y) = _
  rw [less_tail, less_tail]
theorem date_order {y m d a b c : Int} (h : valid y m d = true) (g : valid a b c = true) (b1 : 1 ≤ b) (b2 : b ≤ 12) (hn : num y m d < num a b c) :
    y < a ∨ y = a ∧ (m < b ∨ m = b ∧ d < c) := by
  obtain ⟨p1, p2⟩ := num_in h
  obtain ⟨q1, q2⟩ := num_in g
  obtain ⟨v1, v2, v3, v4⟩ := of_decide_eq_true h
  obtain ⟨w1, w2, w3, w4⟩ := of_decide_eq_true g
  rcases Int.lt_trichotomy y a with l | l | l
  · exact .inl l
  · subst l
    refine .inr ⟨rfl, ?_⟩
    rcases Int.lt_trichotomy m b with l | l | l
    · exact .inl l
    · subst l
      refine .inr ⟨rfl, ?_⟩
      unfold num at hn; omega
    · have s := ah_succ y b b1 b2
      have t := ah_mono y (b + 1) m (by omega) (by omega)
      unfold num at hn; omega
  · have := ny_mono (a + 1) y (by omega); omega
theorem text_less {a b : Int} (ha : may a = true) (hb : may b = true) (h : a < b) : Op.bytesLess (text a) (text b) = true := by
  obtain ⟨h1, h2⟩ := of_decide_eq_true ha
  obtain ⟨g1, g2⟩ := of_decide_eq_true hb
  obtain ⟨y1, y2, m1, m2, d1, d2', V, e⟩ := moment h1 h2
  obtain ⟨z1, z2, n1, n2, c1, c2, U, f⟩ := moment g1 g2
  show Op.bytesLess (d2 _ ++ (d2 _ ++ (d2 _ ++ (d2 _ ++ (84 :: (d2 _ ++ (d2 _ ++ d2 _))))))) (d2 _ ++ (d2 _ ++ (d2 _ ++ (d2 _ ++ (84 :: (d2 _ ++ (d2 _ ++ d2 _))))))) = true
  by_cases hd : a / 86400 < b / 86400
  · rcases date_order V U n1 n2 (by rw [e, f]; exact hd) with l | ⟨l, l2 | ⟨l2, l3⟩⟩
    · by_cases k : yr (a / 86400) / 100 < yr (b / 86400) / 100
      · exact less_d2 _ _ (by omega) k (by omega)
      · rw [show yr (a / 86400) / 100 = yr (b / 86400) / 100 by omega, same_d2]
        exact less_d2 _ _ (by omega) (by omega) (by omega)
    · rw [l, same_d2, same_d2]
      exact less_d2 _ _ (by omega) l2 (by omega)
    · rw [l, l2, same_d2, same_d2, same_d2]
      exact less_d2 _ _ (by omega) l3 (by omega)
  · have hq : a / 86400 = b / 86400 := by omega
    rw [hq, same_d2, same_d2, same_d2, same_d2, less_tail]
    by_cases k : a % 86400 / 3600 < b % 86400 / 3600
    · exact less_d2 _ _ (by omega) k (by omega)
    rw [show a % 86400 / 3600 = b % 86400 / 3600 by omega, same_d2]
    by_cases k2 : a % 3600 / 60 < b % 3600 / 60
    · exact less_d2 _ _ (by omega) k2 (by omega)
    rw [show a % 3600 / 60 = b % 3600 / 60 by omega, same_d2]
    have := less_d2 (p := a % 60) (q := b % 60) [] [] (by omega) (by omega) (by omega)
    simpa using this
theorem text_order {a b : Int} (ha : may a = true) (hb : may b = true) : Op.bytesLess (text a) (text b) = decide (a < b) ∧ (text a == text b) = decide (a = b) := by
  rcases Int.lt_trichotomy a b with h | h | h
  · have l := text_less ha hb h
    refine ⟨by rw [l]; exact (decide_eq_true h).symm, ?_⟩
    rw [decide_eq_false (by omega), beq_eq_false_iff_ne]
    intro e; rw [e, less_same] at l; cases l
  · subst h
    exact ⟨by rw [less_same]; exact (decide_eq_false (by omega)).symm, by simp⟩
  · have l := text_less hb ha h
    refine ⟨by rw [less_not _ _ l]; exact (decide_eq_false (by omega)).symm, ?_⟩
    rw [decide_eq_false (by omega), beq_eq_false_iff_ne]
    intro e; rw [e, less_same] at l; cases l
end Go.Proofs.YtbnncdfkmlfjhaaDoor.St
