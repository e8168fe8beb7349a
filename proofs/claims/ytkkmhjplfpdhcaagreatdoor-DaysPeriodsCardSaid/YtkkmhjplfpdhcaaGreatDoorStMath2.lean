/- Moments and durations written and read, in plain words: what is written is read as itself, what is read is written just so. -/
import Derived.Test.YtkkmhjplfpdhcaaGreatDoorStMath
namespace Go.Proofs.YtkkmhjplfpdhcaaGreatDoor.St
open Cv

theorem isd_bd {c : UInt8} (h : isd c = true) : 48 ≤ (c.toNat : Int) ∧ (c.toNat : Int) ≤ 57 := of_decide_eq_true h
theorem isd_u8 {n : Int} (h0 : 0 ≤ n) (h1 : n ≤ 9) : isd (u8 (48 + n)) = true := by
  unfold isd; rw [u8_nat _ (by omega) (by omega)]; exact decide_eq_true (by omega)
theorem u8_back (c : UInt8) : u8 (c.toNat : Int) = c := by unfold u8; simp
theorem nmb_two (a b : UInt8) : nmb [a, b] = ((a.toNat : Int) - 48) * 10 + ((b.toNat : Int) - 48) := by simp [nmb]
theorem nmb_four (a b c d : UInt8) : nmb [a, b, c, d] = ((((a.toNat : Int) - 48) * 10 + ((b.toNat : Int) - 48)) * 10 + ((c.toNat : Int) - 48)) * 10 + ((d.toNat : Int) - 48) := by simp [nmb]
theorem nmb_d2 {n : Int} (h0 : 0 ≤ n) (h1 : n ≤ 99) : nmb (d2 n) = n := by
  unfold d2
  rw [nmb_two, u8_nat _ (by omega) (by omega), u8_nat _ (by omega) (by omega)]; omega
theorem nmb_d4 {n : Int} (h0 : 0 ≤ n) (h1 : n ≤ 9999) : nmb (d2 (n / 100) ++ d2 (n % 100)) = n := by
  unfold d2
  show nmb [_, _, _, _] = n
  rw [nmb_four, u8_nat _ (by omega) (by omega), u8_nat _ (by omega) (by omega), u8_nat _ (by omega) (by omega), u8_nat _ (by omega) (by omega)]; omega
theorem digs_d2 {n : Int} (h0 : 0 ≤ n) (h1 : n ≤ 99) : digs (d2 n) = true := by
  simp [digs, d2, isd_u8 (n := n / 10) (by omega) (by omega), isd_u8 (n := n % 10) (by omega) (by omega)]
theorem digs_app {a b : List UInt8} (h : digs a = true) (g : digs b = true) : digs (a ++ b) = true := by
  unfold digs at *; rw [List.all_append, h, g]; rfl
/-- The parts of a moment, with their bounds. -/
theorem moment {t : Int} (h1 : -62135596800 ≤ t) (h2 : t ≤ 253402300799) :
    1 ≤ yr (t / 86400) ∧ yr (t / 86400) ≤ 9999 ∧ 1 ≤ mon (t / 86400) ∧ mon (t / 86400) ≤ 12 ∧ 1 ≤ dom (t / 86400) ∧ dom (t / 86400) ≤ 31 ∧
    valid (yr (t / 86400)) (mon (t / 86400)) (dom (t / 86400)) = true ∧ num (yr (t / 86400)) (mon (t / 86400)) (dom (t / 86400)) = t / 86400 := by
  obtain ⟨q1, q2⟩ := may_day h1 h2
  obtain ⟨V, e⟩ := back q1 q2
  have g := of_decide_eq_true V
  have lb := (len_bd (yr (t / 86400)) (mon (t / 86400))).2
  by_cases hm : 1 ≤ mon (t / 86400) ∧ mon (t / 86400) ≤ 12
  · exact ⟨g.1, g.2.1, hm.1, hm.2, g.2.2.1, by omega, V, e⟩
  · have := len_no (yr (t / 86400)) (mon (t / 86400)) (by omega); omega
theorem parse_text {t : Int} (h : may t = true) : parse (text t) = (t, 0) := by
  obtain ⟨h1, h2⟩ := of_decide_eq_true h
  obtain ⟨y1, y2, m1, m2, g1, g2, V, e⟩ := moment h1 h2
  have D1 : digs ((text t).take 8) = true := by
    show digs (d2 _ ++ d2 _ ++ d2 _ ++ d2 _) = true
    exact digs_app (digs_app (digs_app (digs_d2 (by omega) (by omega)) (digs_d2 (by omega) (by omega))) (digs_d2 (by omega) (by omega))) (digs_d2 (by omega) (by omega))
  have D2 : digs ((text t).drop 9) = true := by
    show digs (d2 _ ++ d2 _ ++ d2 _) = true
    exact digs_app (digs_app (digs_d2 (by omega) (by omega)) (digs_d2 (by omega) (by omega))) (digs_d2 (by omega) (by omega))
  rw [parse_6 rfl rfl D1 D2]
  have n1 : nmb ((text t).take 4) = yr (t / 86400) := nmb_d4 (by omega) (by omega)
  have n2 : nmb (((text t).drop 4).take 2) = mon (t / 86400) := nmb_d2 (by omega) (by omega)
  have n3 : nmb (((text t).drop 6).take 2) = dom (t / 86400) := nmb_d2 (by omega) (by omega)
  have n4 : nmb (((text t).drop 9).take 2) = t % 86400 / 3600 := nmb_d2 (by omega) (by omega)
  have n5 : nmb (((text t).drop 11).take 2) = t % 3600 / 60 := nmb_d2 (by omega) (by omega)
  have n6 : nmb ((text t).drop 13) = t % 60 := nmb_d2 (by omega) (by omega)
  unfold fields
  rw [n1, n2, n3, n4, n5, n6]
  unfold makeR
  rw [if_pos ⟨V, decide_eq_true (by omega)⟩]
  unfold mk
  rw [e]
  refine Prod.ext ?_ rfl
  show _ = t
  simp only
  omega
theorem list15 {l : List UInt8} (h : l.length = 15) : ∃ a b c d e f g i j k m n o p q, l = [a, b, c, d, e, f, g, i, j, k, m, n, o, p, q] := by
  match l, h with
  | [a, b, c, d, e, f, g, i, j, k, m, n, o, p, q], _ => exact ⟨a, b, c, d, e, f, g, i, j, k, m, n, o, p, q, rfl⟩
theorem d2_back {a b : UInt8} {x : Int} (ha : isd a = true) (hb : isd b = true) (h : x = ((a.toNat : Int) - 48) * 10 + ((b.toNat : Int) - 48)) : d2 x = [a, b] := by
  obtain ⟨a1, a2⟩ := isd_bd ha
  obtain ⟨b1, b2⟩ := isd_bd hb
  unfold d2
  rw [show 48 + x / 10 = (a.toNat : Int) by omega, show 48 + x % 10 = (b.toNat : Int) by omega, u8_back, u8_back]
theorem makeR_ok {y mo d h mi s c : Int} (e : makeR y mo d h mi s = (c, 0)) : valid y mo d = true ∧ time h mi s = true ∧ c = mk y mo d h mi s := by
  unfold makeR at e
  split at e
  · rename_i g
    injection e with e1 _
    exact ⟨g.1, g.2, e1.symm⟩
  · injection e with _ e2; cases e2
theorem mk_parts {y mo d h mi s : Int} (ht : time h mi s = true) : mk y mo d h mi s / 86400 = num y mo d ∧ mk y mo d h mi s % 86400 / 3600 = h ∧ mk y mo d h mi s % 3600 / 60 = mi ∧ mk y mo d h mi s % 60 = s ∧ mk y mo d h mi s % 86400 = 3600 * h + 60 * mi + s := by
  obtain ⟨h1, h2, h3, h4, h5, h6⟩ := of_decide_eq_true ht
  unfold mk; omega
theorem mk_may {y mo d h mi s : Int} (hv : valid y mo d = true) (ht : time h mi s = true) : may (mk y mo d h mi s) = true := by
  obtain ⟨h1, h2, h3, h4, h5, h6⟩ := of_decide_eq_true ht
  obtain ⟨b1, b2⟩ := num_bd hv
  refine decide_eq_true ?_
  unfold mk; omega
theorem text_parse {l : List UInt8} {c : Int} (h : parse l = (c, 0)) : may c = true ∧ text c = l := by
  unfold parse at h
  split at h
  · injection h with _ h; cases h
  split at h
  · injection h with _ h; cases h
  rename_i g1 g2
  have hl : l.length = 15 := by
    rcases Nat.lt_trichotomy l.length 15 with x | x | x
    · exact absurd x g1
    · exact x
    · exact absurd (.inl x) g2
  have ht : (l.getD 8 0).toNat = 84 := Classical.byContradiction fun x => g2 (.inr (.inl x))
  have hd : digs (l.take 8) = true := by cases x : digs (l.take 8); exact absurd (.inr (.inr (.inl x))) g2; rfl
  have he : digs (l.drop 9) = true := by cases x : digs (l.drop 9); exact absurd (.inr (.inr (.inr x))) g2; rfl
  clear g1 g2
  obtain ⟨b0, b1, b2, b3, b4, b5, b6, b7, b8, b9, b10, b11, b12, b13, b14, rfl⟩ := list15 hl
  simp only [digs, List.take, List.drop, List.all_cons, List.all_nil, Bool.and_eq_true, and_true] at hd he
  obtain ⟨i0, i1, i2, i3, i4, i5, i6, i7⟩ := hd
  obtain ⟨i9, i10, i11, i12, i13, i14⟩ := he
  obtain ⟨V, T, hc⟩ := makeR_ok h
  change c = mk (nmb [b0, b1, b2, b3]) (nmb [b4, b5]) (nmb [b6, b7]) (nmb [b9, b10]) (nmb [b11, b12]) (nmb [b13, b14]) at hc
  subst hc
  change valid (nmb [b0, b1, b2, b3]) (nmb [b4, b5]) (nmb [b6, b7]) = true at V
  change time (nmb [b9, b10]) (nmb [b11, b12]) (nmb [b13, b14]) = true at T
  refine ⟨mk_may V T, ?_⟩
  obtain ⟨e1, e2, e3, e4, _⟩ := mk_parts (y := nmb [b0, b1, b2, b3]) (mo := nmb [b4, b5]) (d := nmb [b6, b7]) T
  have eT : b8 = 84 := UInt8.toNat_inj.1 ht
  obtain ⟨p0, q0⟩ := isd_bd i0
  obtain ⟨p1, q1⟩ := isd_bd i1
  obtain ⟨p2, q2⟩ := isd_bd i2
  obtain ⟨p3, q3⟩ := isd_bd i3
  have hy := nmb_four b0 b1 b2 b3
  unfold text
  show d2 (yr (mk (nmb [b0, b1, b2, b3]) (nmb [b4, b5]) (nmb [b6, b7]) (nmb [b9, b10]) (nmb [b11, b12]) (nmb [b13, b14]) / 86400) / 100) ++ _ ++ _ ++ _ ++ _ ++ _ ++ _ ++ _ = _
  rw [e1, e2, e3, e4, yr_num V, (mon_num V).1, (mon_num V).2]
  rw [d2_back i0 i1 (by omega), d2_back i2 i3 (by omega), d2_back i4 i5 (nmb_two _ _), d2_back i6 i7 (nmb_two _ _), d2_back i9 i10 (nmb_two _ _), d2_back i11 i12 (nmb_two _ _), d2_back i13 i14 (nmb_two _ _), eT]
  rfl
theorem sumL_dig {c : UInt8} {r : List UInt8} {a n m : Int} (hc : isd c = true) (hm : n * 10 + ((c.toNat : Int) - 48) = m) (hb : m ≤ 2147483648) : sumL (c :: r) a n = sumL r a m := by
  rw [sumL, if_pos hc, hm, if_neg (by omega)]
theorem sumL_unit {c : UInt8} {r : List UInt8} {a n m : Int} (hc : isd c = false) (hm : a + n * sec c.toNat = m) (hb : m ≤ 2147483648) : sumL (c :: r) a n = sumL r m 0 := by
  rw [sumL, if_neg (by simp [hc]), hm, if_neg (by omega)]
theorem dig_nat {k : Nat} (h : k < 10) : isd (UInt8.ofNat (48 + k)) = true ∧ ((UInt8.ofNat (48 + k)).toNat : Int) = 48 + k := by
  have e : (UInt8.ofNat (48 + k)).toNat = 48 + k := by rw [UInt8.toNat_ofNat']; omega
  refine ⟨decide_eq_true ?_, ?_⟩ <;> rw [e] <;> omega
/-- A number's digits are read as the number. -/
theorem sumL_itoa : ∀ (k : Nat) (r : List UInt8) (a : Int), k ≤ 2147483648 → sumL (Lib.decDigits k ++ r) a 0 = sumL r a k := by
  intro k
  induction k using Nat.strongRecOn with
  | ind k ih =>
    intro r a hk
    rw [Lib.decDigits]
    split
    · rename_i h
      obtain ⟨d1, d2⟩ := dig_nat h
      exact sumL_dig d1 (by rw [d2]; omega) (by omega)
    · rename_i h
      obtain ⟨d1, d2⟩ := dig_nat (k := k % 10) (by omega)
      rw [List.append_assoc, ih (k / 10) (by omega) _ a (by omega)]
      exact sumL_dig d1 (by rw [d2]; omega) (by omega)
theorem sumL_part {n u a m : Int} {r : List UInt8} (h0 : 0 ≤ n) (h1 : n ≤ 2147483648) (hu : isd (u8 u) = false) (hm : a + n * sec (u8 u).toNat = m) (hb : m ≤ 2147483648) : sumL (part n u ++ r) a 0 = sumL r m 0 := by
  unfold part
  split
  · rename_i h
    subst h
    rw [show m = a by rw [← hm]; simp]; rfl
  · obtain ⟨k, rfl⟩ := Int.eq_ofNat_of_zero_le h0
    rw [List.append_assoc, Lib.itoa, if_neg (by omega), Int.toNat_natCast, sumL_itoa k _ a (by omega)]
    exact sumL_unit hu hm hb
theorem durText_ne (n : Int) : durText n ≠ [] := by
  unfold durText; split <;> (try split) <;> simp
/-- The text of a duration is read as the duration. -/
theorem sumL_durText {n : Int} (h1 : 1 ≤ n) (h2 : n ≤ 2147483648) : sumL (durText n) 0 0 = n := by
  have uW : isd (u8 87) = false := by decide
  have uD : isd (u8 68) = false := by decide
  have uH : isd (u8 72) = false := by decide
  have uM : isd (u8 77) = false := by decide
  have uS : isd (u8 83) = false := by decide
  have sW : sec (u8 87).toNat = 604800 := by decide
  have sD : sec (u8 68).toNat = 86400 := by decide
  have sH : sec (u8 72).toNat = 3600 := by decide
  have sM : sec (u8 77).toNat = 60 := by decide
  have sS : sec (u8 83).toNat = 1 := by decide
  have pP : ∀ r, sumL (80 :: r) 0 0 = sumL r 0 0 := fun r => sumL_unit (by decide) (by decide) (by decide)
  have pT : ∀ r a, a ≤ 2147483648 → sumL (84 :: r) a 0 = sumL r a 0 := fun r a ha => sumL_unit (by decide) (by simp) ha
  unfold durText
  split
  · rw [pP, ← List.append_nil (part _ _), sumL_part (m := n) (by omega) (by omega) uW (by rw [sW]; omega) h2]; rfl
  split
  · rw [pP, ← List.append_nil (part _ _), sumL_part (m := n) (by omega) (by omega) uD (by rw [sD]; omega) h2]; rfl
  · rw [pP, sumL_part (m := n / 86400 * 86400) (by omega) (by omega) uD (by rw [sD]; omega) (by omega), pT _ _ (by omega), List.append_assoc,
      sumL_part (m := n / 86400 * 86400 + n % 86400 / 3600 * 3600) (by omega) (by omega) uH (by rw [sH]) (by omega),
      sumL_part (m := n / 86400 * 86400 + n % 86400 / 3600 * 3600 + n % 3600 / 60 * 60) (by omega) (by omega) uM (by rw [sM]) (by omega),
      ← List.append_nil (part _ _), sumL_part (m := n) (by omega) (by omega) uS (by rw [sS]; omega) h2]; rfl
theorem durParse_durText {n : Int} (h1 : 1 ≤ n) (h2 : n ≤ 2147483648) : durParse (durText n) = (n, 0) := by
  have e := sumL_durText h1 h2
  rw [durParse_3 (durText_ne n) (by rw [e]; exact ⟨h1, h2⟩) (by rw [e]), e]
theorem durText_durParse {l : List UInt8} {k : Int} (h : durParse l = (k, 0)) : 1 ≤ k ∧ k ≤ 2147483648 ∧ durText k = l := by
  unfold durParse at h
  split at h
  · injection h with _ h; cases h
  split at h
  · rename_i g
    injection h with e _
    rw [← e]; exact g
  · injection h with _ h; cases h
theorem parse_bad {l : List UInt8} (h : l.length = 15) (g : (l.getD 8 0).toNat ≠ 84 ∨ digs (l.take 8) = false ∨ digs (l.drop 9) = false) : parse l = (0, 4) := by
  unfold parse; rw [if_neg (by omega), if_pos (.inr g)]
theorem digs_mem {l : List UInt8} {c : UInt8} (h : c ∈ l) (hc : isd c = false) : digs l = false := by
  unfold digs; rw [List.all_eq_false]; exact ⟨c, h, by simp [hc]⟩
/-- A text of 15 bytes with another sign at place k. -/
theorem parse_cut {l : List UInt8} {c : UInt8} (h : l.length = 15) (hc : isd c = false) (ht : c.toNat ≠ 84) {k : Nat} (hk : k ≤ 14) : parse (l.take k ++ [c] ++ l.drop (k + 1)) = (0, 4) := by
  obtain ⟨b0, b1, b2, b3, b4, b5, b6, b7, b8, b9, b10, b11, b12, b13, b14, rfl⟩ := list15 h
  have : k = 0 ∨ k = 1 ∨ k = 2 ∨ k = 3 ∨ k = 4 ∨ k = 5 ∨ k = 6 ∨ k = 7 ∨ k = 8 ∨ k = 9 ∨ k = 10 ∨ k = 11 ∨ k = 12 ∨ k = 13 ∨ k = 14 := by omega
  rcases this with rfl | rfl | rfl | rfl | rfl | rfl | rfl | rfl | rfl | rfl | rfl | rfl | rfl | rfl | rfl
  case inr.inr.inr.inr.inr.inr.inr.inr.inl => exact parse_bad rfl (.inl ht)
  all_goals first
    | (refine parse_bad rfl (.inr (.inl (digs_mem (c := c) ?_ hc))); simp; done)
    | (refine parse_bad rfl (.inr (.inr (digs_mem (c := c) ?_ hc))); simp; done)
end Go.Proofs.YtkkmhjplfpdhcaaGreatDoor.St
