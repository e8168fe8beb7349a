/- Plain mathematics of joining: folding lines, and splitting them again. -/
import Derived.Test.YtbinhnlajflndaaFdCuts
set_option linter.unusedVariables false
namespace Go.Proofs.Ytbinhnlajflndaa.Fd

/-- may the line be written? -/
def mayLn (z : List UInt8) : Bool := decide (z ≠ [] ∧ z.head? ≠ some 32 ∧ ∀ c ∈ z, mayI (c.toNat : Int) = true)
/-- what follows a full line: its end, or a fold and the rest -/
def more (z : List UInt8) : List UInt8 := if h : z = [] then [13, 10] else [13, 10, 32] ++ (z.take 74 ++ more (z.drop 74))
termination_by z.length
decreasing_by rw [List.length_drop]; have := List.length_pos_iff.2 h; omega
theorem more_nil : more [] = [13, 10] := by rw [more]; simp
theorem more_step {z : List UInt8} (h : z ≠ []) : more z = [13, 10, 32] ++ (z.take 74 ++ more (z.drop 74)) := by rw [more]; simp [h]
/-- the first n bytes of a line, and what follows -/
def foldN (n : Nat) (z : List UInt8) : List UInt8 := z.take n ++ more (z.drop n)
theorem foldN_end {n : Nat} {z : List UInt8} (h : z.length ≤ n) : foldN n z = z ++ [13, 10] := by
  unfold foldN; rw [List.take_of_length_le h, List.drop_of_length_le h, more_nil]
theorem foldN_step {n : Nat} {z : List UInt8} (h : n < z.length) : foldN n z = z.take n ++ ([13, 10, 32] ++ foldN 74 (z.drop n)) := by
  unfold foldN
  rw [more_step (z := z.drop n) (fun e => by have := congrArg List.length e; rw [List.length_drop] at this; simp at this; omega)]
def fold1 (z : List UInt8) : List UInt8 := foldN 75 z
def joinL (l : List (List UInt8)) : List UInt8 := l.flatMap fold1
theorem more_len (z : List UInt8) : z.length + 2 ≤ (more z).length ∧ (more z).length ≤ 4 * z.length + 2 := by
  suffices H : ∀ (k : Nat) (z : List UInt8), z.length ≤ k → z.length + 2 ≤ (more z).length ∧ (more z).length ≤ 4 * z.length + 2 from H z.length z (Nat.le_refl _)
  intro k
  induction k with
  | zero =>
    intro z h
    have : z = [] := List.length_eq_zero_iff.1 (by omega)
    subst this; rw [more_nil]; simp
  | succ k ih =>
    intro z h
    by_cases h0 : z = []
    · subst h0; rw [more_nil]; simp
    · have := List.length_pos_iff.2 h0
      have e := ih (z.drop 74) (by rw [List.length_drop]; omega)
      rw [more_step h0]
      simp only [List.length_append, List.length_cons, List.length_nil, List.length_take]
      rw [List.length_drop] at e
      omega
theorem fold1_len (z : List UInt8) : z.length + 2 ≤ (fold1 z).length ∧ (fold1 z).length ≤ 4 * z.length + 2 := by
  have := more_len (z.drop 75)
  unfold fold1 foldN
  rw [List.length_append, List.length_take]
  rw [List.length_drop] at this
  omega
def joinE (l : List (List UInt8)) : Int := if l.all mayLn then (if (joinL l).length ≤ 4096 then 0 else 3) else 4
def joinB (l : List (List UInt8)) : List UInt8 := if joinE l = 0 then joinL l else []
theorem joinE_4 {l : List (List UInt8)} (h : l.all mayLn = false) : joinE l = 4 ∧ joinB l = [] := by
  have : joinE l = 4 := by unfold joinE; rw [h]; rfl
  exact ⟨this, by unfold joinB; rw [this]; rfl⟩
theorem joinE_3 {l : List (List UInt8)} (h : l.all mayLn = true) (g : 4096 < (joinL l).length) : joinE l = 3 ∧ joinB l = [] := by
  have : joinE l = 3 := by unfold joinE; rw [h, if_pos rfl, if_neg (by omega)]
  exact ⟨this, by unfold joinB; rw [this]; rfl⟩
theorem joinE_0 {l : List (List UInt8)} (h : l.all mayLn = true) (g : (joinL l).length ≤ 4096) : joinE l = 0 ∧ joinB l = joinL l := by
  have : joinE l = 0 := by unfold joinE; rw [h, if_pos rfl, if_pos g]
  exact ⟨this, by unfold joinB; rw [this]; rfl⟩
theorem joinE_in {l : List (List UInt8)} (h : joinE l = 0) : l.all mayLn = true ∧ (joinL l).length ≤ 4096 ∧ joinB l = joinL l := by
  unfold joinE at h
  split at h
  · rename_i h1
    split at h
    · rename_i h2; exact ⟨h1, h2, (joinE_0 h1 h2).2⟩
    · simp at h
  · simp at h
theorem joinL_take {l : List (List UInt8)} {t : Nat} (h : t < l.length) : joinL (l.take (t + 1)) = joinL (l.take t) ++ fold1 l[t] := by
  unfold joinL; rw [List.take_succ_eq_append_getElem h, List.flatMap_append]; simp
theorem joinL_pre (l : List (List UInt8)) (t : Nat) : (joinL (l.take t)).length ≤ (joinL l).length := by
  have : joinL l = joinL (l.take t) ++ joinL (l.drop t) := by unfold joinL; rw [← List.flatMap_append, List.take_append_drop]
  rw [this, List.length_append]; omega
theorem all_take {l : List (List UInt8)} (h : l.all mayLn = true) {t : Nat} (ht : t < l.length) : mayLn l[t] = true := List.all_eq_true.1 h _ (List.getElem_mem ht)
theorem mayLn_of {z : List UInt8} (h : mayLn z = true) : z ≠ [] ∧ z.head? ≠ some 32 ∧ Lin z := by
  obtain ⟨h1, h2, h3⟩ := of_decide_eq_true h
  exact ⟨h1, h2, fun c hc => of_decide_eq_true (h3 c hc)⟩
-- there and back
theorem lin_take {z : List UInt8} (h : Lin z) (k : Nat) : Lin (z.take k) := fun c hc => h c (List.mem_of_mem_take hc)
theorem lin_drop {z : List UInt8} (h : Lin z) (k : Nat) : Lin (z.drop k) := fun c hc => h c (List.mem_of_mem_drop hc)
theorem lin_blank {z : List UInt8} (h : Lin z) : Lin (32 :: z) := fun c hc => by
  rcases List.mem_cons.1 hc with rfl | hc
  · decide
  · exact h c hc
theorem lines_more (k : Nat) : ∀ (x : List UInt8), x.length ≤ k → ∀ (acc acc' : List (List UInt8)) (p q r : List UInt8), Lin p → Lin x → put acc p = acc' ++ [q] → lines acc (p ++ (more x ++ r)) = lines (acc' ++ [q ++ x]) r := by
  induction k with
  | zero =>
    intro x hx acc acc' p q r hp hl h
    have : x = [] := List.length_eq_zero_iff.1 (by omega)
    subst this
    rw [more_nil, lines_line (.inr rfl) hp, h, List.append_nil]
  | succ k ih =>
    intro x hx acc acc' p q r hp hl h
    by_cases h0 : x = []
    · subst h0
      rw [more_nil, lines_line (.inr rfl) hp, h, List.append_nil]
    · have := List.length_pos_iff.2 h0
      rw [more_step h0]
      rw [show p ++ ([13, 10, 32] ++ (x.take 74 ++ more (x.drop 74)) ++ r) = p ++ ([13, 10] ++ ((32 :: x.take 74) ++ (more (x.drop 74) ++ r))) from by simp]
      rw [lines_line (.inr rfl) hp, h]
      rw [ih (x.drop 74) (by rw [List.length_drop]; omega) (acc' ++ [q]) acc' (32 :: x.take 74) (q ++ x.take 74) r (lin_blank (lin_take hl _)) (lin_drop hl _) put_old]
      rw [List.append_assoc, List.take_append_drop]
theorem lines_fold {acc : List (List UInt8)} {z r : List UInt8} (h : mayLn z = true) : lines acc (fold1 z ++ r) = lines (acc ++ [z]) r := by
  obtain ⟨h1, h2, h3⟩ := mayLn_of h
  unfold fold1 foldN
  rw [List.append_assoc]
  have hh : (z.take 75).head? ≠ some 32 := by
    cases z with
    | nil => exact absurd rfl h1
    | cons c z => simpa using h2
  rw [lines_more _ (z.drop 75) (Nat.le_refl _) acc acc (z.take 75) (z.take 75) r (lin_take h3 _) (lin_drop h3 _) (put_new hh), List.take_append_drop]
theorem lines_join {l : List (List UInt8)} (h : l.all mayLn = true) (acc : List (List UInt8)) : lines acc (joinL l) = acc ++ l := by
  induction l generalizing acc with
  | nil => rw [show joinL [] = [] from rfl, lines_nil, List.append_nil]
  | cons z l ih =>
    rw [List.all_cons, Bool.and_eq_true] at h
    rw [show joinL (z :: l) = fold1 z ++ joinL l from by simp [joinL], lines_fold h.1, ih h.2]
    simp
theorem good_more (k : Nat) : ∀ (x : List UInt8), x.length ≤ k → ∀ r, Lin x → good r → good (more x ++ r) := by
  induction k with
  | zero =>
    intro x hx r hl h
    have : x = [] := List.length_eq_zero_iff.1 (by omega)
    subst this
    rw [more_nil]; exact good_cr h
  | succ k ih =>
    intro x hx r hl h
    by_cases h0 : x = []
    · subst h0
      rw [more_nil]; exact good_cr h
    · have := List.length_pos_iff.2 h0
      rw [more_step h0, show [13, 10, 32] ++ (x.take 74 ++ more (x.drop 74)) ++ r = 13 :: 10 :: ((32 :: x.take 74) ++ (more (x.drop 74) ++ r)) from by simp]
      exact good_cr (good_app (lin_blank (lin_take hl _)).may (ih _ (by rw [List.length_drop]; omega) r (lin_drop hl _) h))
theorem good_join {l : List (List UInt8)} (h : l.all mayLn = true) : good (joinL l) := by
  induction l with
  | nil => exact good_nil
  | cons z l ih =>
    rw [List.all_cons, Bool.and_eq_true] at h
    obtain ⟨h1, h2, h3⟩ := mayLn_of h.1
    rw [show joinL (z :: l) = fold1 z ++ joinL l from by simp [joinL]]
    unfold fold1 foldN
    rw [List.append_assoc]
    exact good_app (lin_take h3 _).may (good_more _ _ (Nat.le_refl _) _ (lin_drop h3 _) (ih h.2))
theorem join_head {l : List (List UInt8)} (h : l.all mayLn = true) : (joinL l).head? ≠ some 32 := by
  cases l with
  | nil => simp [joinL]
  | cons z l =>
    rw [List.all_cons, Bool.and_eq_true] at h
    obtain ⟨h1, h2, h3⟩ := mayLn_of h.1
    cases z with
    | nil => exact absurd rfl h1
    | cons c z => simp [joinL, fold1, foldN]; simpa using h2
theorem back_split {l : List (List UInt8)} (h : l.all mayLn = true) (g : (joinL l).length ≤ 4096) : splitL (joinL l) = l ∧ splitN (joinL l) = 0 ∧ splitE (joinL l) = 0 := by
  have := good_split g (good_join h) (join_head h)
  rw [lines_join h] at this
  exact this
/-- the lengths of lines, counted on from n -/
def runs : Nat → List UInt8 → Prop
  | _, [] => True
  | n, c :: r => (if c = 10 then 0 else n + 1) ≤ 76 ∧ runs (if c = 10 then 0 else n + 1) r
theorem runs_app {a r : List UInt8} (ha : ∀ c ∈ a, c ≠ 10) : ∀ {n : Nat}, n + a.length ≤ 76 → runs (n + a.length) r → runs n (a ++ r) := by
  induction a with
  | nil => intro n _ h; exact h
  | cons x a ih =>
    intro n hn h
    have hx := ha x (List.mem_cons_self ..)
    simp only [List.length_cons] at hn h
    show (if x = 10 then 0 else n + 1) ≤ 76 ∧ runs (if x = 10 then 0 else n + 1) (a ++ r)
    rw [if_neg hx]
    exact ⟨by omega, ih (fun c hc => ha c (List.mem_cons_of_mem _ hc)) (by omega) (by rw [show n + 1 + a.length = n + (a.length + 1) from by omega]; exact h)⟩
theorem runs_end {n : Nat} {r : List UInt8} (hn : n ≤ 75) (h : runs 0 r) : runs n (13 :: 10 :: r) := by
  show (if (13 : UInt8) = 10 then 0 else n + 1) ≤ 76 ∧ (if (10 : UInt8) = 10 then 0 else _) ≤ 76 ∧ runs (if (10 : UInt8) = 10 then 0 else _) r
  rw [if_neg (by decide), if_pos rfl]
  exact ⟨by omega, by omega, h⟩
theorem runs_more (k : Nat) : ∀ (x : List UInt8), x.length ≤ k → ∀ (n : Nat) r, Lin x → n ≤ 75 → runs 0 r → runs n (more x ++ r) := by
  induction k with
  | zero =>
    intro x hx n r hl hn h
    have : x = [] := List.length_eq_zero_iff.1 (by omega)
    subst this
    rw [more_nil]; exact runs_end hn h
  | succ k ih =>
    intro x hx n r hl hn h
    by_cases h0 : x = []
    · subst h0
      rw [more_nil]; exact runs_end hn h
    · have := List.length_pos_iff.2 h0
      rw [more_step h0, show [13, 10, 32] ++ (x.take 74 ++ more (x.drop 74)) ++ r = 13 :: 10 :: ((32 :: x.take 74) ++ (more (x.drop 74) ++ r)) from by simp]
      refine runs_end hn (runs_app (lin_blank (lin_take hl _)).no10 (by simp; omega) ?_)
      exact ih _ (by rw [List.length_drop]; omega) _ r (lin_drop hl _) (by simp; omega) h
theorem runs_join {l : List (List UInt8)} (h : l.all mayLn = true) : runs 0 (joinL l) := by
  induction l with
  | nil => exact trivial
  | cons z l ih =>
    rw [List.all_cons, Bool.and_eq_true] at h
    obtain ⟨h1, h2, h3⟩ := mayLn_of h.1
    rw [show joinL (z :: l) = fold1 z ++ joinL l from by simp [joinL]]
    unfold fold1 foldN
    rw [List.append_assoc]
    exact runs_app (lin_take h3 _).no10 (by simp; omega) (runs_more _ _ (Nat.le_refl _) _ _ (lin_drop h3 _) (by simp; omega) (ih h.2))
end Go.Proofs.Ytbinhnlajflndaa.Fd
