/- Records by definition: their bytes, one at a place, all of a text; what follows. -/
import Derived.Test.YtniphbfoppocfaaDoorFrMath
namespace Go.Proofs.YtniphbfoppocfaaDoor.Fr

def numL (l : List UInt8) : Nat := l.foldl (fun n c => n * 256 + c.toNat) 0
def be2 (n : Nat) : List UInt8 := [UInt8.ofNat (n / 256), UInt8.ofNat n]
def be4 (n : Nat) : List UInt8 := [UInt8.ofNat (n / 16777216), UInt8.ofNat (n / 65536), UInt8.ofNat (n / 256), UInt8.ofNat n]
theorem numL_be2 {n : Nat} (h : n < 65536) : numL (be2 n) = n := by
  simp only [numL, be2, List.foldl, UInt8.toNat_ofNat']
  omega
theorem numL_be4 {n : Nat} (h : n < 4294967296) : numL (be4 n) = n := by
  simp only [numL, be4, List.foldl, UInt8.toNat_ofNat']
  omega
theorem be2_numL {l : List UInt8} (h : l.length = 2) : be2 (numL l) = l := by
  match l, h with
  | [a, b], _ =>
    have := u8_lt a; have := u8_lt b
    simp only [numL, be2, List.foldl]
    congr 1
    · refine UInt8.toNat_inj.1 ?_
      rw [UInt8.toNat_ofNat']; omega
    · congr 1
      refine UInt8.toNat_inj.1 ?_
      rw [UInt8.toNat_ofNat']; omega
theorem be4_numL {l : List UInt8} (h : l.length = 4) : be4 (numL l) = l := by
  match l, h with
  | [a, b, c, d], _ =>
    have := u8_lt a; have := u8_lt b; have := u8_lt c; have := u8_lt d
    simp only [numL, be4, List.foldl]
    congr 1
    · refine UInt8.toNat_inj.1 ?_
      rw [UInt8.toNat_ofNat']; omega
    · congr 1
      · refine UInt8.toNat_inj.1 ?_
        rw [UInt8.toNat_ofNat']; omega
      · congr 1
        · refine UInt8.toNat_inj.1 ?_
          rw [UInt8.toNat_ofNat']; omega
        · congr 1
          refine UInt8.toNat_inj.1 ?_
          rw [UInt8.toNat_ofNat']; omega
theorem numL_lt4 {l : List UInt8} (h : l.length = 4) : numL l < 4294967296 := by
  match l, h with
  | [a, b, c, d], _ =>
    have := u8_lt a; have := u8_lt b; have := u8_lt c; have := u8_lt d
    simp only [numL, List.foldl]; omega
theorem numL_lt2 {l : List UInt8} (h : l.length = 2) : numL l < 65536 := by
  match l, h with
  | [a, b], _ =>
    have := u8_lt a; have := u8_lt b
    simp only [numL, List.foldl]; omega
/-- the bytes of a record -/
def frameL (p : List UInt8) : List UInt8 := be2 p.length ++ (be4 (sumL (be2 p.length ++ p)) ++ p)
theorem frameL_len (p : List UInt8) : (frameL p).length = 6 + p.length := by simp [frameL, be2, be4]; omega
def pay (r : List UInt8) : List UInt8 := (r.drop 6).take (numL (r.take 2))
/-- what is wrong with the record at the head -/
def get1 (r : List UInt8) : Nat :=
  if r.length < 6 then 2 else if 8192 < numL (r.take 2) then 3 else if r.length < 6 + numL (r.take 2) then 2 else if sumL (r.take 2 ++ pay r) ≠ numL ((r.drop 2).take 4) then 5 else 0
theorem get1_ok {r : List UInt8} (h : get1 r = 0) : 6 ≤ r.length ∧ numL (r.take 2) ≤ 8192 ∧ 6 + numL (r.take 2) ≤ r.length ∧ sumL (r.take 2 ++ pay r) = numL ((r.drop 2).take 4) ∧ (pay r).length = numL (r.take 2) := by
  unfold get1 at h
  split at h
  · omega
  · split at h
    · omega
    · split at h
      · omega
      · split at h
        · omega
        · rename_i h1 h2 h3 h4
          refine ⟨by omega, by omega, by omega, by simpa using h4, ?_⟩
          unfold pay
          rw [List.length_take, List.length_drop]; omega
theorem head2 (p t : List UInt8) : (frameL p ++ t).take 2 = be2 p.length := rfl
theorem head4 (p t : List UInt8) : ((frameL p ++ t).drop 2).take 4 = be4 (sumL (be2 p.length ++ p)) := rfl
theorem tail6 (p t : List UInt8) : (frameL p ++ t).drop 6 = p ++ t := rfl
theorem pay_frame {p : List UInt8} (t : List UInt8) (h : p.length ≤ 8192) : pay (frameL p ++ t) = p := by
  unfold pay
  rw [head2, tail6, numL_be2 (by omega), List.take_left']
  rfl
theorem get1_frame {p : List UInt8} (t : List UInt8) (h : p.length ≤ 8192) : get1 (frameL p ++ t) = 0 := by
  have hl : (frameL p ++ t).length = 6 + p.length + t.length := by rw [List.length_append, frameL_len]
  unfold get1
  rw [pay_frame t h, head2, head4, numL_be2 (by omega), numL_be4 (sumL_lt _)]
  rw [if_neg (by omega), if_neg (by omega), if_neg (by omega), if_neg (by simp)]
/-- cut off it is too short -/
theorem get1_cut {p : List UInt8} (t : List UInt8) (h : p.length ≤ 8192) {c : Nat} (hc : c < 6 + p.length) : get1 ((frameL p ++ t).take c) = 2 := by
  have hl : (frameL p ++ t).length = 6 + p.length + t.length := by rw [List.length_append, frameL_len]
  have ht : ((frameL p ++ t).take c).length = c := by rw [List.length_take]; omega
  unfold get1
  by_cases h6 : c < 6
  · rw [if_pos (by omega)]
  · rw [if_neg (by omega), List.take_take, Nat.min_eq_left (by omega), head2, numL_be2 (by omega), if_neg (by omega), if_pos (by omega)]
theorem get1_nil : get1 [] = 2 := rfl
/-- one byte behind the length turned: the sum is wrong -/
theorem get1_turned {p : List UInt8} (h : p.length ≤ 8192) {j : Nat} (h2 : 2 ≤ j) (hj : j < (frameL p).length) {d : UInt8} (hd : (frameL p)[j] ≠ d) : get1 ((frameL p).set j d) = 5 := by
  have hl := frameL_len p
  have hs : ((frameL p).set j d).length = 6 + p.length := by rw [List.length_set, hl]
  have t2 : ((frameL p).set j d).take 2 = be2 p.length := by
    rw [List.take_set, List.set_eq_of_length_le (by rw [List.length_take]; omega)]
    have := head2 p []
    rwa [List.append_nil] at this
  unfold get1
  rw [t2, numL_be2 (by omega), if_neg (by omega), if_neg (by omega), if_neg (by omega), if_pos]
  unfold pay
  rw [t2, numL_be2 (by omega)]
  have d6 := tail6 p []
  have d2 := head4 p []
  rw [List.append_nil] at d6 d2
  rw [List.append_nil] at d6
  by_cases h6 : j < 6
  · have e1 : ((frameL p).set j d).drop 6 = p := by
      rw [List.drop_set, if_pos h6, d6]
    have e2 : (((frameL p).set j d).drop 2).take 4 = (be4 (sumL (be2 p.length ++ p))).set (j - 2) d := by
      rw [List.drop_set, if_neg (by omega), List.take_set, d2]
    rw [e1, e2, List.take_length]
    intro q
    have q2 := congrArg be4 q
    rw [be4_numL (by rw [List.length_set]; rfl)] at q2
    have hb : j - 2 < (be4 (sumL (be2 p.length ++ p))).length := by show j - 2 < 4; omega
    have q3 : (be4 (sumL (be2 p.length ++ p)))[j - 2]? = some d := by
      conv => lhs; rw [q2]
      rw [List.getElem?_set_self hb]
    have q4 : (frameL p)[j]? = some d := by
      unfold frameL
      rw [List.getElem?_append_right (by show 2 ≤ j; omega), List.getElem?_append_left (by show j - 2 < 4; omega)]
      exact q3
    rw [List.getElem?_eq_getElem hj] at q4
    exact hd (by injection q4)
  · have e1 : ((frameL p).set j d).drop 6 = p.set (j - 6) d := by
      rw [List.drop_set, if_neg (by omega), d6]
    have e2 : (((frameL p).set j d).drop 2).take 4 = be4 (sumL (be2 p.length ++ p)) := by
      rw [List.drop_set, if_neg (by omega), List.take_set, d2, List.set_eq_of_length_le (by show 4 ≤ j - 2; omega)]
    have e3 : (p.set (j - 6) d).take p.length = p.set (j - 6) d := List.take_of_length_le (by rw [List.length_set]; omega)
    rw [e1, e2, e3, numL_be4 (sumL_lt _)]
    have hp : j - 6 < p.length := by omega
    have hx : p[j - 6] ≠ d := by
      intro q
      refine hd ?_
      have q4 : (frameL p)[j]? = some d := by
        unfold frameL
        rw [List.getElem?_append_right (by show 2 ≤ j; omega), List.getElem?_append_right (by show 4 ≤ j - 2; omega), ← q, ← List.getElem?_eq_getElem hp]
        show p[j - 2 - 4]? = _
        rw [show j - 2 - 4 = j - 6 by omega]
      rw [List.getElem?_eq_getElem hj] at q4
      injection q4
    have := sum_set (be2 p.length ++ p) (j - 4) d (by rw [List.length_append]; show j - 4 < 2 + p.length; omega) (by
      intro q
      refine hx ?_
      have q5 : (be2 p.length ++ p)[j - 4]? = some d := by rw [List.getElem?_eq_getElem (by rw [List.length_append]; show j - 4 < 2 + p.length; omega), q]
      rw [List.getElem?_append_right (by show 2 ≤ j - 4; omega)] at q5
      have q6 : p[j - 6]? = some d := by rw [← q5]; show p[j - 6]? = p[j - 4 - 2]?; rw [show j - 4 - 2 = j - 6 by omega]
      rw [List.getElem?_eq_getElem hp] at q6
      injection q6)
    rwa [List.set_append_right _ _ (by show 2 ≤ j - 4; omega), show j - 4 - (be2 p.length).length = j - 6 by show j - 4 - 2 = j - 6; omega] at this
/-- all records from the head on, and where the last one ends -/
def scanN : Nat → List UInt8 → List (List UInt8) × Nat
  | 0, _ => ([], 0)
  | f + 1, r => if get1 r = 0 then (pay r :: (scanN f (r.drop (6 + (pay r).length))).1, 6 + (pay r).length + (scanN f (r.drop (6 + (pay r).length))).2) else ([], 0)
def scanL (r : List UInt8) : List (List UInt8) × Nat := scanN r.length r
theorem scanN_more : ∀ (f g : Nat) (r : List UInt8), r.length ≤ f → r.length ≤ g → scanN f r = scanN g r
  | 0, 0, _, _, _ => rfl
  | 0, g + 1, r, h, _ => by
    obtain rfl : r = [] := List.length_eq_zero_iff.1 (by omega)
    rfl
  | f + 1, 0, r, _, h => by
    obtain rfl : r = [] := List.length_eq_zero_iff.1 (by omega)
    rfl
  | f + 1, g + 1, r, h1, h2 => by
    unfold scanN
    by_cases e : get1 r = 0
    · have := get1_ok e
      rw [if_pos e, if_pos e, scanN_more f g (r.drop (6 + (pay r).length)) (by rw [List.length_drop]; omega) (by rw [List.length_drop]; omega)]
    · rw [if_neg e, if_neg e]
theorem scan_step {r : List UInt8} (h : get1 r = 0) : scanL r = (pay r :: (scanL (r.drop (6 + (pay r).length))).1, 6 + (pay r).length + (scanL (r.drop (6 + (pay r).length))).2) := by
  have := get1_ok h
  have e : scanL r = scanN ((r.length - 1) + 1) r := scanN_more _ _ _ (Nat.le_refl _) (by omega)
  rw [e]
  conv => lhs; unfold scanN
  rw [if_pos h]
  unfold scanL
  rw [scanN_more (r.length - 1) ((r.drop (6 + (pay r).length)).length) _ (by rw [List.length_drop]; omega) (Nat.le_refl _)]
theorem scan_stop {r : List UInt8} (h : get1 r ≠ 0) : scanL r = ([], 0) := by
  unfold scanL
  cases r.length with
  | zero => rfl
  | succ n => unfold scanN; rw [if_neg h]
theorem scan_nil : scanL [] = ([], 0) := rfl
theorem scan_le : ∀ (n : Nat) (r : List UInt8), r.length ≤ n → (scanL r).2 ≤ r.length
  | 0, r, h => by
    obtain rfl : r = [] := List.length_eq_zero_iff.1 (by omega)
    exact Nat.le_refl _
  | n + 1, r, h => by
    by_cases e : get1 r = 0
    · have := get1_ok e
      have ih := scan_le n (r.drop (6 + (pay r).length)) (by rw [List.length_drop]; omega)
      rw [List.length_drop] at ih
      rw [scan_step e]
      show 6 + (pay r).length + _ ≤ _
      omega
    · rw [scan_stop e]; exact Nat.zero_le _
/-- records one behind the other -/
def framesL (ps : List (List UInt8)) : List UInt8 := ps.flatMap frameL
theorem framesL_cons (p : List UInt8) (ps : List (List UInt8)) : framesL (p :: ps) = frameL p ++ framesL ps := rfl
theorem framesL_app (a b : List (List UInt8)) : framesL (a ++ b) = framesL a ++ framesL b := by unfold framesL; rw [List.flatMap_append]
theorem framesL_one (p : List UInt8) : framesL [p] = frameL p := by unfold framesL; simp
theorem scan_frames : ∀ (ps : List (List UInt8)) (t : List UInt8), (∀ p ∈ ps, p.length ≤ 8192) → scanL (framesL ps ++ t) = (ps ++ (scanL t).1, (framesL ps).length + (scanL t).2)
  | [], t, _ => by simp [framesL]
  | p :: ps, t, h => by
    have hp := h p (List.mem_cons_self ..)
    have ih := scan_frames ps t fun q hq => h q (List.mem_cons_of_mem _ hq)
    rw [framesL_cons, List.append_assoc, scan_step (get1_frame _ hp), pay_frame _ hp]
    have e : (frameL p ++ (framesL ps ++ t)).drop (6 + p.length) = framesL ps ++ t := List.drop_left' (frameL_len p)
    rw [e, ih, List.length_append, frameL_len]
    simp [Nat.add_assoc]
theorem scan_all {ps : List (List UInt8)} (h : ∀ p ∈ ps, p.length ≤ 8192) : scanL (framesL ps) = (ps, (framesL ps).length) := by
  have := scan_frames ps [] h
  rwa [List.append_nil, scan_nil, List.append_nil] at this
/-- cut off: those that are whole -/
theorem scan_cut {ps : List (List UInt8)} (h : ∀ p ∈ ps, p.length ≤ 8192) {c n : Nat} (hc : (framesL (ps.take n)).length ≤ c) (he : n = ps.length ∨ c < (framesL (ps.take (n + 1))).length) :
    scanL ((framesL ps).take c) = (ps.take n, (framesL (ps.take n)).length) := by
  have e : framesL ps = framesL (ps.take n) ++ framesL (ps.drop n) := by rw [← framesL_app, List.take_append_drop]
  rw [e, List.take_append, List.take_of_length_le hc, scan_frames _ _ fun p hp => h p (List.mem_of_mem_take hp)]
  have z : scanL ((framesL (ps.drop n)).take (c - (framesL (ps.take n)).length)) = ([], 0) := by
    rcases Nat.lt_or_ge n ps.length with g | g
    · have hd : ps.drop n = ps[n] :: ps.drop (n + 1) := List.drop_eq_getElem_cons g
      have e3 : framesL (ps.take (n + 1)) = framesL (ps.take n) ++ frameL ps[n] := by rw [← framesL_one, ← framesL_app, List.take_append_getElem g]
      rw [e3, List.length_append, frameL_len] at he
      rw [hd, framesL_cons]
      refine scan_stop ?_
      rw [get1_cut _ (h _ (List.getElem_mem g)) (by omega)]
      decide
    · rw [List.drop_of_length_le g]
      show scanL ([].take _) = _
      rw [List.take_nil, scan_nil]
  rw [z]
  simp
end Go.Proofs.YtniphbfoppocfaaDoor.Fr
