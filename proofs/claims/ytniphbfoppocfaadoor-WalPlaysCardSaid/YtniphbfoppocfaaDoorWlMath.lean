/- Plain mathematics of a log: the records of a file that was cut. -/
import Derived.Test.YtniphbfoppocfaaDoorFrRec
set_option linter.unusedVariables false
namespace Go.Proofs.YtniphbfoppocfaaDoor.Wl
open Fr

theorem frames_take_mono (r : List (List UInt8)) {a b : Nat} (h : a ≤ b) : (framesL (r.take a)).length ≤ (framesL (r.take b)).length := by
  have e : r.take b = r.take a ++ (r.take b).drop a := by
    conv => lhs; rw [← List.take_append_drop a (r.take b)]
    rw [List.take_take, Nat.min_eq_left h]
  rw [e, framesL_app, List.length_append]; omega
theorem frames_next {r : List (List UInt8)} {n : Nat} (h : n < r.length) : (framesL (r.take (n + 1))).length = (framesL (r.take n)).length + 6 + r[n].length := by
  have e : r.take (n + 1) = r.take n ++ [r[n]] := List.take_succ_eq_append_getElem h
  rw [e, framesL_app, framesL_one, List.length_append, frameL_len]; omega
/-- how many records lie whole in the first c bytes -/
theorem whole_in (r : List (List UInt8)) (c : Nat) : ∀ b, b ≤ r.length → ∃ n, n ≤ b ∧ (framesL (r.take n)).length ≤ c ∧ (n = b ∨ c < (framesL (r.take (n + 1))).length)
  | 0, _ => ⟨0, Nat.le_refl _, by simp [framesL], .inl rfl⟩
  | b + 1, h => by
    obtain ⟨n, h1, h2, h3⟩ := whole_in r c b (by omega)
    rcases h3 with rfl | h3
    · by_cases q : (framesL (r.take (n + 1))).length ≤ c
      · exact ⟨n + 1, Nat.le_refl _, q, .inl rfl⟩
      · exact ⟨n, by omega, h2, .inr (by omega)⟩
    · exact ⟨n, by omega, h2, .inr h3⟩
/-- opened behind a cut: a beginning of the records, at least those that lay whole ahead of it -/
theorem open_cut {r : List (List UInt8)} (h : ∀ p ∈ r, p.length ≤ 8192) {c s : Nat} (hs : s ≤ r.length) (hc : (framesL (r.take s)).length ≤ c) :
    ∃ n, s ≤ n ∧ n ≤ r.length ∧ scanL ((framesL r).take c) = (r.take n, (framesL (r.take n)).length) ∧ (framesL (r.take n)).length ≤ c := by
  obtain ⟨n, h1, h2, h3⟩ := whole_in r c r.length (Nat.le_refl _)
  refine ⟨n, ?_, h1, scan_cut h h2 h3, h2⟩
  rcases h3 with rfl | h3
  · exact hs
  · rcases Nat.lt_or_ge n s with q | q
    · have := frames_take_mono r (show n + 1 ≤ s from q); omega
    · exact q
theorem frames_take (r : List (List UInt8)) (n : Nat) : (framesL r).take (framesL (r.take n)).length = framesL (r.take n) := by
  have e : framesL r = framesL (r.take n) ++ framesL (r.drop n) := by rw [← framesL_app, List.take_append_drop]
  rw [e, List.take_append, List.take_of_length_le (Nat.le_refl _), Nat.sub_self, List.take_zero, List.append_nil]
/-- opened once more it cuts nothing -/
theorem open_again {r : List (List UInt8)} (h : ∀ p ∈ r, p.length ≤ 8192) (n : Nat) : scanL (framesL (r.take n)) = (r.take n, (framesL (r.take n)).length) :=
  scan_all fun p hp => h p (List.mem_of_mem_take hp)
/-- the record there is as it is put, just if its sum is right -/
theorem same_fr {r : List UInt8} {m : Nat} (hm : numL (r.take 2) = m) (h8 : m ≤ 8192) (hl : 6 + m ≤ r.length) : frameL (pay r) = r.take (6 + m) ↔ sumL (r.take 2 ++ pay r) = numL ((r.drop 2).take 4) := by
  have hp : (pay r).length = m := by unfold pay; rw [List.length_take, List.length_drop, hm]; omega
  have l2 : (r.take 2).length = 2 := by rw [List.length_take]; omega
  have l4 : ((r.drop 2).take 4).length = 4 := by rw [List.length_take, List.length_drop]; omega
  have e2 : be2 (pay r).length = r.take 2 := by rw [hp, ← hm]; exact be2_numL l2
  have er : r.take (6 + m) = r.take 2 ++ ((r.drop 2).take 4 ++ pay r) := by
    unfold pay
    rw [hm, show 6 + m = 2 + (4 + m) by omega, List.take_add, List.take_add, List.drop_drop]
  unfold frameL
  rw [e2, er]
  constructor
  · intro h
    have h1 := List.append_cancel_left h
    have h2 := List.append_cancel_right h1
    rw [← h2, numL_be4 (sumL_lt _)]
  · intro h
    rw [h, be4_numL l4]
/-- whatever the file is: what scanning finds are records -/
theorem scan_is_frames : ∀ (k : Nat) (l : List UInt8), l.length ≤ k → l.take (scanL l).2 = framesL (scanL l).1 ∧ ∀ p ∈ (scanL l).1, p.length ≤ 8192
  | 0, l, h => by
    obtain rfl : l = [] := List.length_eq_zero_iff.1 (by omega)
    exact ⟨rfl, fun p hp => by cases hp⟩
  | k + 1, l, h => by
    by_cases e : get1 l = 0
    · obtain ⟨e1, e2, e3, e4, e5⟩ := get1_ok e
      obtain ⟨i1, i2⟩ := scan_is_frames k (l.drop (6 + (pay l).length)) (by rw [List.length_drop]; omega)
      rw [scan_step e]
      refine ⟨?_, fun p hp => ?_⟩
      · show l.take (6 + (pay l).length + _) = framesL (_ :: _)
        rw [framesL_cons, ← i1, List.take_add]
        congr 1
        rw [e5]
        exact ((same_fr rfl e2 e3).2 e4).symm
      · rcases List.mem_cons.1 hp with rfl | hp
        · omega
        · exact i2 p hp
    · rw [scan_stop e]
      exact ⟨rfl, fun p hp => by cases hp⟩
end Go.Proofs.YtniphbfoppocfaaDoor.Wl
