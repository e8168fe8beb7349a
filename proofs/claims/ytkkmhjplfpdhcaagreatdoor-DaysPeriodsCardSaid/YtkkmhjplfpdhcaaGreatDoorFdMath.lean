/- Plain mathematics of content lines: the first byte that may not be, cutting at each 10, joining folded. -/
import Derived.Lib.Bytealg
import Derived.Lib.IndexLaws
import Derived.Lib.Strings
import Derived.Lib.Bytes
import Derived.Lib.Hide
set_option linter.unusedVariables false
namespace Go.Proofs.YtkkmhjplfpdhcaaGreatDoor.Fd

/-- a byte that may stand in a line -/
def mayI (c : Int) : Bool := decide (32 ≤ c ∧ c ≤ 126)
def bat (l : List UInt8) (i : Nat) : Int := ((l.getD i 0).toNat : Int)
def okAt (l : List UInt8) (i : Nat) : Bool := mayI (bat l i) || decide (bat l i = 10) || decide (bat l i = 13 ∧ bat l (i + 1) = 10)
def goodTo (l : List UInt8) (k : Nat) : Prop := ∀ j, j < k → okAt l j = true
def faultF (l : List UInt8) : Option Nat := (List.range l.length).find? (fun i => !okAt l i)
def faultN (l : List UInt8) : Int := match faultF l with | some i => (i : Int) | none => 0
def blank1 (l : List UInt8) : Bool := decide (l.head? = some 32)
def faultB (l : List UInt8) : Bool := match faultF l with | some _ => true | none => blank1 l
theorem bat_bd (l : List UInt8) (i : Nat) : 0 ≤ bat l i ∧ bat l i ≤ 255 := by
  unfold bat; have := (l.getD i 0).toNat_lt; omega
theorem bat_lt {l : List UInt8} {i : Nat} (h : i < l.length) : bat l i = (l[i].toNat : Int) := by
  unfold bat; rw [List.getD_eq_getElem?_getD, List.getElem?_eq_getElem h]; rfl
theorem bat_out {l : List UInt8} {i : Nat} (h : l.length ≤ i) : bat l i = 0 := by
  unfold bat; rw [List.getD_eq_getElem?_getD, List.getElem?_eq_none h]; rfl
theorem goodTo.succ {l : List UInt8} {k : Nat} (h : goodTo l k) (e : okAt l k = true) : goodTo l (k + 1) := fun j hj => by
  rcases Nat.lt_or_ge j k with g | g
  · exact h j g
  · obtain rfl : j = k := by omega
    exact e
theorem faultF_some {l : List UInt8} {k : Nat} (hk : k < l.length) (h : goodTo l k) (e : okAt l k = false) : faultF l = some k := by
  unfold faultF
  rw [List.find?_range_eq_some]
  exact ⟨by rw [e]; rfl, by simpa using hk, fun j hj => by rw [h j hj]; rfl⟩
theorem faultF_none {l : List UInt8} (h : goodTo l l.length) : faultF l = none := by
  unfold faultF
  rw [List.find?_eq_none]
  intro x hx
  rw [h x (by simpa using hx)]; decide
theorem faultN_some {l : List UInt8} {k : Nat} (h : faultF l = some k) : (k : Int) = faultN l ∧ true = faultB l := by
  unfold faultN faultB; rw [h]; exact ⟨rfl, rfl⟩
theorem faultN_none {l : List UInt8} (h : faultF l = none) : 0 = faultN l ∧ blank1 l = faultB l := by
  unfold faultN faultB; rw [h]; exact ⟨rfl, rfl⟩
theorem ok_may {l : List UInt8} {i : Nat} (h : mayI (bat l i) = true) : okAt l i = true := by unfold okAt; rw [h]; rfl
theorem ok_ten {l : List UInt8} {i : Nat} (h : bat l i = 10) : okAt l i = true := by unfold okAt; rw [h]; simp
theorem ok_end {l : List UInt8} {i : Nat} (h : bat l i = 13) (g : bat l (i + 1) = 10) : okAt l i = true := by unfold okAt; rw [h, g]; simp
theorem ok_no {l : List UInt8} {i : Nat} (h : mayI (bat l i) = false) (h2 : bat l i ≠ 10) (h3 : ¬ (bat l i = 13 ∧ bat l (i + 1) = 10)) : okAt l i = false := by
  unfold okAt; rw [h]; simp [h2]; simpa using h3
theorem blank_at {l : List UInt8} (h : 0 < l.length) : blank1 l = decide (bat l 0 = 32) := by
  unfold blank1 bat
  cases l with
  | nil => simp at h
  | cons c r =>
    rw [Bool.eq_iff_iff, decide_eq_true_eq, decide_eq_true_eq]
    simp only [List.head?_cons, Option.some.injEq, List.getD_cons_zero]
    constructor
    · rintro rfl; rfl
    · intro h2
      exact UInt8.toNat_inj.1 (by have : (32 : UInt8).toNat = 32 := rfl; omega)
theorem blank_nil : blank1 [] = false := by decide
/-- starts with 13 10 -/
theorem pre_end (l : List UInt8) (i : Nat) : Lib.hasPrefix (l.drop i) [13, 10] = decide (bat l i = 13 ∧ bat l (i + 1) = 10) := by
  unfold Lib.hasPrefix
  have k : ∀ (j : Nat) (c : UInt8), c ≠ 0 → ((l[j]? = some c) ↔ bat l j = (c.toNat : Int)) := fun j c hc => by
    unfold bat
    rw [List.getD_eq_getElem?_getD]
    cases h : l[j]? with
    | none => simp; intro e; exact hc (UInt8.toNat_inj.1 (by simpa using e.symm))
    | some x => simp; constructor
                · rintro rfl; rfl
                · intro e; exact UInt8.toNat_inj.1 (by omega)
  rw [Bool.eq_iff_iff, List.isPrefixOf_iff_prefix, decide_eq_true_eq]
  have k1 := k i 13 (by decide); have k2 := k (i + 1) 10 (by decide)
  have e13 : ((13 : UInt8).toNat : Int) = 13 := rfl
  have e10 : ((10 : UInt8).toNat : Int) = 10 := rfl
  rw [e13] at k1; rw [e10] at k2
  rw [← k1, ← k2]
  constructor
  · rintro ⟨r, hr⟩
    have a0 : (l.drop i)[0]? = some 13 := by rw [← hr]; rfl
    have a1 : (l.drop i)[1]? = some 10 := by rw [← hr]; rfl
    rw [List.getElem?_drop] at a0 a1
    exact ⟨a0, a1⟩
  · rintro ⟨a0, a1⟩
    refine ⟨l.drop (i + 2), ?_⟩
    have g0 : i < l.length := by rcases Nat.lt_or_ge i l.length with g | g; exact g; rw [List.getElem?_eq_none g] at a0; cases a0
    have g1 : i + 1 < l.length := by rcases Nat.lt_or_ge (i + 1) l.length with g | g; exact g; rw [List.getElem?_eq_none g] at a1; cases a1
    rw [List.getElem?_eq_getElem g0] at a0
    rw [List.getElem?_eq_getElem g1] at a1
    injection a0 with a0; injection a1 with a1
    rw [List.drop_eq_getElem_cons g0, List.drop_eq_getElem_cons g1, a0, a1]; rfl

-- cutting
def strip (p : List UInt8) : List UInt8 := if p.getLast? = some 13 then p.dropLast else p
def put (acc : List (List UInt8)) (p : List UInt8) : List (List UInt8) := if p.head? = some 32 then acc.dropLast ++ [acc.getLastD [] ++ p.tail] else acc ++ [p]
def piece (l : List UInt8) : List UInt8 := l.takeWhile (· != 10)
def rest (l : List UInt8) : List UInt8 := (l.dropWhile (· != 10)).drop 1
theorem rest_lt {l : List UInt8} (h : l ≠ []) : (rest l).length < l.length := by
  unfold rest
  rw [List.length_drop]
  have e := congrArg List.length (List.takeWhile_append_dropWhile (p := (· != 10)) (l := l))
  rw [List.length_append] at e
  have : 0 < l.length := List.length_pos_iff.2 h
  by_cases g : (l.dropWhile (· != 10)).length = 0 <;> omega
def lines (acc : List (List UInt8)) (l : List UInt8) : List (List UInt8) := if h : l = [] then acc else lines (put acc (strip (piece l))) (rest l)
termination_by l.length
decreasing_by exact rest_lt h
theorem lines_nil (acc : List (List UInt8)) : lines acc [] = acc := by rw [lines]; simp
theorem lines_step {acc : List (List UInt8)} {l : List UInt8} (h : l ≠ []) : lines acc l = lines (put acc (strip (piece l))) (rest l) := by
  rw [lines]; simp [h]
theorem index_10 (l : List UInt8) : (Lib.indexByte l 10 = -1 ∧ piece l = l ∧ rest l = []) ∨ (∃ j : Nat, j < l.length ∧ Lib.indexByte l 10 = j ∧ piece l = l.take j ∧ rest l = l.drop (j + 1)) := by
  induction l with
  | nil => exact .inl ⟨rfl, rfl, rfl⟩
  | cons c r ih =>
    by_cases hc : c = 10
    · subst hc
      exact .inr ⟨0, by simp, by simp [Lib.indexByte], by simp [piece], by simp [rest]⟩
    · have hc2 : (c == 10) = false := by simpa using hc
      have hp : piece (c :: r) = c :: piece r := by unfold piece; rw [List.takeWhile_cons]; simp [hc]
      have hr : rest (c :: r) = rest r := by unfold rest; rw [List.dropWhile_cons]; simp [hc]
      rcases ih with ⟨h1, h2, h3⟩ | ⟨j, hj, h1, h2, h3⟩
      · refine .inl ⟨?_, by rw [hp, h2], by rw [hr, h3]⟩
        rw [Lib.indexByte, hc2, h1]; rfl
      · refine .inr ⟨j + 1, by simpa using hj, ?_, by rw [hp, h2]; rfl, by rw [hr, h3]; rfl⟩
        rw [Lib.indexByte, hc2, h1]
        have : ((j : Int) == -1) = false := by rw [beq_eq_false_iff_ne]; omega
        rw [this]; simp
theorem piece_app {p r : List UInt8} (h : ∀ c ∈ p, c ≠ 10) : piece (p ++ 10 :: r) = p ∧ rest (p ++ 10 :: r) = r := by
  induction p with
  | nil => exact ⟨by simp [piece], by simp [rest]⟩
  | cons c p ih =>
    obtain ⟨h1, h2⟩ := ih fun x hx => h x (List.mem_cons_of_mem _ hx)
    have hc := h c (List.mem_cons_self ..)
    refine ⟨?_, ?_⟩
    · rw [List.cons_append]; unfold piece at *; rw [List.takeWhile_cons]; simp [hc]; simpa using h1
    · rw [List.cons_append]; unfold rest at *; rw [List.dropWhile_cons]; simp [hc]; simpa using h2
theorem piece_all {p : List UInt8} (h : ∀ c ∈ p, c ≠ 10) : piece p = p ∧ rest p = [] := by
  induction p with
  | nil => exact ⟨rfl, rfl⟩
  | cons c p ih =>
    obtain ⟨h1, h2⟩ := ih fun x hx => h x (List.mem_cons_of_mem _ hx)
    have hc := h c (List.mem_cons_self ..)
    refine ⟨?_, ?_⟩
    · unfold piece at *; rw [List.takeWhile_cons]; simp [hc]; simpa using h1
    · unfold rest at *; rw [List.dropWhile_cons]; simp [hc]; simpa using h2
theorem lines_app {acc : List (List UInt8)} {p r : List UInt8} (h : ∀ c ∈ p, c ≠ 10) : lines acc (p ++ 10 :: r) = lines (put acc (strip p)) r := by
  rw [lines_step (by simp), (piece_app h).1, (piece_app h).2]
theorem lines_end {acc : List (List UInt8)} {p : List UInt8} (h : ∀ c ∈ p, c ≠ 10) (hp : p ≠ []) : lines acc p = put acc (strip p) := by
  rw [lines_step hp, (piece_all h).1, (piece_all h).2, lines_nil]
theorem strip_cr (p : List UInt8) : strip (p ++ [13]) = p := by unfold strip; simp
theorem strip_no {p : List UInt8} (h : ∀ c ∈ p, c ≠ 13) : strip p = p := by
  unfold strip
  rw [if_neg]
  intro e
  exact h 13 (List.mem_of_getLast? e) rfl
theorem strip_pre (p : List UInt8) : ∃ t, p = strip p ++ t := by
  unfold strip
  split
  · rename_i h
    have hp : p ≠ [] := by rintro rfl; simp at h
    exact ⟨[p.getLast hp], (List.dropLast_concat_getLast hp).symm⟩
  · exact ⟨[], by simp⟩
theorem strip_len (p : List UInt8) : (strip p).length ≤ p.length := by
  obtain ⟨t, h⟩ := strip_pre p
  have := congrArg List.length h
  rw [List.length_append] at this; omega
theorem strip_take (p : List UInt8) : strip p = p.take (strip p).length := by
  obtain ⟨t, h⟩ := strip_pre p
  exact (List.prefix_iff_eq_take.1 ⟨t, h.symm⟩)
theorem put_new {acc : List (List UInt8)} {p : List UInt8} (h : p.head? ≠ some 32) : put acc p = acc ++ [p] := by unfold put; rw [if_neg h]
theorem put_old {acc : List (List UInt8)} {z t : List UInt8} : put (acc ++ [z]) (32 :: t) = acc ++ [z ++ t] := by
  unfold put; simp [List.getLastD_eq_getLast?]
/-- what the loop knows of the lines so far and of what is left -/
def Room (acc : List (List UInt8)) (l : List UInt8) : Prop := (∀ z ∈ acc, z.length + l.length ≤ 4096) ∧ acc.length + l.length ≤ 4096 ∧ (acc = [] → blank1 l = false)
theorem piece_rest (l : List UInt8) (h : l ≠ []) : (piece l).length + (rest l).length ≤ l.length ∧ (rest l).length + 1 ≤ l.length := by
  have e := congrArg List.length (List.takeWhile_append_dropWhile (p := (· != 10)) (l := l))
  rw [List.length_append] at e
  have := rest_lt h
  unfold piece rest at *
  rw [List.length_drop] at *
  omega
theorem strip_head {p : List UInt8} (h : (strip p).head? = some 32) : p.head? = some 32 := by
  obtain ⟨t, e⟩ := strip_pre p
  rw [e, List.head?_append, h]; rfl
theorem piece_head {l : List UInt8} (h : (piece l).head? = some 32) : l.head? = some 32 := by
  have e := List.takeWhile_append_dropWhile (p := (· != 10)) (l := l)
  rw [← e, List.head?_append]; unfold piece at h; rw [h]; rfl
theorem Room.old {acc : List (List UInt8)} {l : List UInt8} (h : Room acc l) (g : (strip (piece l)).head? = some 32) : acc ≠ [] := by
  rintro rfl
  have := h.2.2 rfl
  unfold blank1 at this
  rw [piece_head (strip_head g)] at this
  simp at this
theorem Room.next {acc : List (List UInt8)} {l : List UInt8} (h : Room acc l) (hl : l ≠ []) : Room (put acc (strip (piece l))) (rest l) := by
  obtain ⟨h1, h2, h3⟩ := h
  obtain ⟨r1, r2⟩ := piece_rest l hl
  have r3 := strip_len (piece l)
  have hne : l.length ≤ 4096 := by omega
  unfold put
  split
  · rename_i g
    have hacc := Room.old ⟨h1, h2, h3⟩ g
    obtain ⟨a, z, rfl⟩ : ∃ a z, acc = a ++ [z] := ⟨_, _, (List.dropLast_concat_getLast hacc).symm⟩
    have hz := h1 z (by simp)
    refine ⟨fun y hy => ?_, by simp at *; omega, fun e => by simp at e⟩
    simp only [List.dropLast_concat, List.mem_append, List.mem_singleton] at hy
    rcases hy with hy | rfl
    · have := h1 y (by simp [hy]); omega
    · simp [List.getLastD_eq_getLast?]; omega
  · refine ⟨fun y hy => ?_, by simp; omega, fun e => by simp at e⟩
    rcases List.mem_append.1 hy with hy | hy
    · have := h1 y hy; omega
    · obtain rfl : y = strip (piece l) := by simpa using hy
      omega
/-- what Split answers -/
def splitL (l : List UInt8) : List (List UInt8) := if 4096 < l.length then [] else if faultB l = true then [] else lines [] l
def splitN (l : List UInt8) : Int := if 4096 < l.length then 0 else if faultB l = true then faultN l else 0
def splitE (l : List UInt8) : Int := if 4096 < l.length then 3 else if faultB l = true then 4 else 0
theorem split_long {l : List UInt8} (h : 4096 < l.length) : splitL l = [] ∧ splitN l = 0 ∧ splitE l = 3 := by
  unfold splitL splitN splitE; simp [h]
theorem split_bad {l : List UInt8} (h : l.length ≤ 4096) (g : faultB l = true) : splitL l = [] ∧ splitN l = faultN l ∧ splitE l = 4 := by
  unfold splitL splitN splitE; simp [Nat.not_lt.2 h, g]
theorem split_good {l : List UInt8} (h : l.length ≤ 4096) (g : faultB l = false) : splitL l = lines [] l ∧ splitN l = 0 ∧ splitE l = 0 := by
  unfold splitL splitN splitE; simp [Nat.not_lt.2 h, g]
-- ahead of a sign, and behind it
def bef1 (c : UInt8) (l : List UInt8) : List UInt8 := l.takeWhile (· != c)
def aft1 (c : UInt8) (l : List UInt8) : List UInt8 := (l.dropWhile (· != c)).drop 1
theorem index_of (c : UInt8) (l : List UInt8) : (Lib.indexByte l c = -1 ∧ bef1 c l = l ∧ aft1 c l = [] ∧ c ∉ l) ∨ (∃ j : Nat, j < l.length ∧ Lib.indexByte l c = j ∧ bef1 c l = l.take j ∧ aft1 c l = l.drop (j + 1) ∧ c ∈ l) := by
  induction l with
  | nil => exact .inl ⟨rfl, rfl, rfl, by simp⟩
  | cons x r ih =>
    by_cases hc : x = c
    · subst hc
      exact .inr ⟨0, by simp, by simp [Lib.indexByte], by simp [bef1], by simp [aft1], by simp⟩
    · have hc2 : (x == c) = false := by simpa using hc
      have hp : bef1 c (x :: r) = x :: bef1 c r := by unfold bef1; rw [List.takeWhile_cons]; simp [hc]
      have hr : aft1 c (x :: r) = aft1 c r := by unfold aft1; rw [List.dropWhile_cons]; simp [hc]
      rcases ih with ⟨h1, h2, h3, h4⟩ | ⟨j, hj, h1, h2, h3, h4⟩
      · refine .inl ⟨?_, by rw [hp, h2], by rw [hr, h3], ?_⟩
        · rw [Lib.indexByte, hc2, h1]; rfl
        · simp only [List.mem_cons, not_or]; exact ⟨fun e => hc e.symm, h4⟩
      · refine .inr ⟨j + 1, by simpa using hj, ?_, by rw [hp, h2]; rfl, by rw [hr, h3]; rfl, List.mem_cons_of_mem _ h4⟩
        rw [Lib.indexByte, hc2, h1]
        have : ((j : Int) == -1) = false := by rw [beq_eq_false_iff_ne]; omega
        rw [this]; simp
theorem bef1_len (c : UInt8) (l : List UInt8) : (bef1 c l).length ≤ l.length := by
  rcases index_of c l with ⟨-, h, -⟩ | ⟨j, _, -, h, -⟩
  · rw [h]; omega
  · rw [h, List.length_take]; omega
theorem aft1_len (c : UInt8) (l : List UInt8) : (aft1 c l).length ≤ l.length := by
  rcases index_of c l with ⟨-, -, h, -⟩ | ⟨j, _, -, -, h, -⟩
  · rw [h]; simp
  · rw [h, List.length_drop]; omega
theorem bef1_app {c : UInt8} {a r : List UInt8} (h : c ∉ a) : bef1 c (a ++ c :: r) = a ∧ aft1 c (a ++ c :: r) = r := by
  induction a with
  | nil => exact ⟨by simp [bef1], by simp [aft1]⟩
  | cons x a ih =>
    simp only [List.mem_cons, not_or] at h
    obtain ⟨h1, h2⟩ := ih h.2
    have hx : x ≠ c := fun e => h.1 e.symm
    refine ⟨?_, ?_⟩
    · rw [List.cons_append]; unfold bef1 at *; rw [List.takeWhile_cons]; simp [hx]; simpa using h1
    · rw [List.cons_append]; unfold aft1 at *; rw [List.dropWhile_cons]; simp [hx]; simpa using h2
theorem bef1_no {c : UInt8} {a : List UInt8} (h : c ∉ a) : bef1 c a = a ∧ aft1 c a = [] := by
  rcases index_of c a with ⟨-, h1, h2, -⟩ | ⟨j, -, -, -, -, h2⟩
  · exact ⟨h1, h2⟩
  · exact absurd h2 h
end Go.Proofs.YtkkmhjplfpdhcaaGreatDoor.Fd
