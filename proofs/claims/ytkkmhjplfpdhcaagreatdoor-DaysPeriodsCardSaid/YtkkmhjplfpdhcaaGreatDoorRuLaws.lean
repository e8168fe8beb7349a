/- Plain mathematics of what voklaw5's laws ask of rules. -/
import Derived.Test.YtkkmhjplfpdhcaaGreatDoorRuTurn
set_option linter.unusedVariables false
namespace Go.Proofs.YtkkmhjplfpdhcaaGreatDoor.Ru
open Go.Proofs.YtkkmhjplfpdhcaaGreatDoor.Fd

theorem inB_app {l : List Int} {lo hi x : Int} {z : Bool} (h : ¬ (lo ≤ x ∧ x ≤ hi)) : inB (l ++ [x]) lo hi z = false := by
  unfold inB
  rw [decide_eq_false (fun g => h ⟨(g x (by simp)).1, (g x (by simp)).2.1⟩)]; rfl
theorem dayB_app {l : List Dy} {d : Dy} (h : 6 < d.w) : dayB (l ++ [d]) = false := by
  unfold dayB
  rw [decide_eq_false (fun g => by have := (g d (by simp)).2.2.2; omega)]; rfl
theorem may_list {r : Ru} (h : listB r = false) : mayR r = false := by unfold mayR; rw [h]; simp
theorem may_scal {r : Ru} (h : scalB r = false) : mayR r = false := by unfold mayR; rw [h]; simp
/-- what RuleWrong makes of a rule -/
def wrongR (r : Ru) (which : Int) : Ru :=
  if which = 0 then { r with mon := r.mon ++ [13] } else if which = 1 then { r with mday := r.mday ++ [32] } else if which = 2 then { r with hour := r.hour ++ [24] } else if which = 3 then { r with minu := r.minu ++ [60] } else
    if which = 4 then { r with day := r.day ++ [⟨53, 7⟩] } else if which = 5 then { r with itv := 0 } else if which = 6 then { r with cnt := 4097 } else if which = 7 then { r with freq := r.freq + 7 } else { r with wkst := 7 }
theorem wrong_may {r : Ru} (h : mayR r = true) (which : Int) : mayR (wrongR r which) = false := by
  obtain ⟨f1, f2, -⟩ := of_decide_eq_true (mayR_of h).1
  unfold wrongR
  split
  · exact may_list (by unfold listB; simp only; rw [inB_app (by omega)]; simp)
  split
  · exact may_list (by unfold listB; simp only; rw [inB_app (by omega)]; simp)
  split
  · exact may_list (by unfold listB; simp only; rw [inB_app (by omega)]; simp)
  split
  · exact may_list (by unfold listB; simp only; rw [inB_app (by omega)]; simp)
  split
  · exact may_list (by unfold listB; simp only; rw [dayB_app (by simp)]; simp)
  split
  · exact may_scal (decide_eq_false (by simp only; omega))
  split
  · exact may_scal (decide_eq_false (by simp only; omega))
  split
  · exact may_scal (decide_eq_false (by simp only; omega))
  · exact may_scal (decide_eq_false (by simp only; omega))
/-- what RuleLess makes of a rule -/
def lessR (r : Ru) (by_ : Int) : Ru := { r with cnt := 0, til := 0, ends := false, pos := [], itv := by_ }
theorem less_may {r : Ru} (h : mayR r = true) {k : Int} (h1 : 1 ≤ k) (h2 : k ≤ 1000) : mayR (lessR r k) = true := by
  obtain ⟨m1, m2, m3, m4, m5, m6, m7⟩ := mayR_of h
  obtain ⟨f1, f2, i1, i2, c1, c2, w1, w2⟩ := of_decide_eq_true m1
  obtain ⟨l1, l2, l3, l4, l5, l6, l7, l8, l9⟩ := listB_of m3
  have a1 : scalB (lessR r k) = true := decide_eq_true ⟨f1, f2, h1, h2, by show (0 : Int) ≤ 0; omega, by show (0 : Int) ≤ 4096; omega, w1, w2⟩
  have a2 : endB (lessR r k) = true := by unfold endB lessR; simp
  have a3 : listB (lessR r k) = true := by
    have e : inB [] (-366) 366 false = true := by decide
    unfold listB lessR; simp only [l1, l2, l3, l4, l6, l7, l8, l9, e, Bool.and_self]
  have a6 : posB (lessR r k) = true := decide_eq_true (by unfold lessR; simp)
  unfold mayR
  rw [a1, a2, a3, a6, show besideB (lessR r k) = true from m4, show nthB (lessR r k) = true from m5, show oftenB (lessR r k) = true from m7]; rfl
-- numbers in any order, more than once
def headT : List UInt8 := [70, 82, 69, 81, 61, 89, 69, 65, 82, 76, 89, 59, 66, 89, 77, 79, 78, 84, 72, 68, 65, 89, 61]
theorem headT_parts (l : List Int) : cutAt 59 (headT ++ commaL l) = [partT (0, freqW 1), partT (7, commaL l)] := by
  have e : headT ++ commaL l = partT (0, freqW 1) ++ 59 :: partT (7, commaL l) := by
    show _ = (nameK 0 ++ 61 :: freqW 1) ++ 59 :: (nameK 7 ++ 61 :: commaL l)
    rfl
  rw [e, cutAt_app (by decide), cutAt_one]
  intro h
  unfold partT at h
  rcases List.mem_append.1 h with h | h
  · exact (name_sign ⟨7, by decide⟩ 59 h).1 rfl
  · rcases List.mem_cons.1 h with h | h
    · exact absurd h (by decide)
    · exact comma_no59 l h
theorem sort_all {l : List Int} : (sortU iltB l).Pairwise (· < ·) ∧ (sortU iltB l).length ≤ l.length ∧ ∀ y, y ∈ sortU iltB l ↔ y ∈ l := by
  obtain ⟨a, b, c⟩ := sort_spec (l := l) ilt_tri ilt_tr (a := []) List.Pairwise.nil
  exact ⟨a.imp fun h => of_decide_eq_true h, by simpa [sortU] using b, fun y => by simpa [sortU] using c y⟩
theorem lists_parse {l : List Int} (h0 : l ≠ []) (hl : l.length ≤ 60) (hb : ∀ x ∈ l, -999999999 ≤ x ∧ x ≤ 999999999) :
    ruParse (headT ++ commaL l) = if ∀ x ∈ l, -31 ≤ x ∧ x ≤ 31 ∧ x ≠ 0 then ({ startR with freq := 1, mday := sortU iltB l }, 0, 0) else (zeroR, 0, 1) := by
  have cl := comma_len (l := l) (k := 10) fun x hx => itoa_len9 (hb x hx).1 (hb x hx).2
  have : l.length * 11 ≤ 60 * 11 := Nat.mul_le_mul_right 11 hl
  have hd : headT.length = 23 := rfl
  unfold ruParse
  rw [if_neg (by rw [List.length_append, hd]; omega), headT_parts]
  have p0 : partOf (partT (0, freqW 1)) = some (0, .num 1) := partOf_T (by decide) (by rw [valOf_0, freqOf_word ⟨1, by decide⟩ (by decide)]; rfl)
  have p1 : partOf (partT (7, commaL l)) = some (7, .list (sortU iltB l)) := partOf_T (by decide) (by
    have : valOf 7 (commaL l) = (numsOf (commaL l)).map Fl.list := rfl
    rw [this, numsOf_comma h0 hl hb]; rfl)
  rw [parseL, p0]
  simp only
  rw [if_neg (by simp), parseL, p1]
  simp only
  rw [if_neg (by simp), parseL]
  show endP { startR with freq := 1, mday := sortU iltB l } = _
  obtain ⟨s1, s2, s3⟩ := sort_all (l := l)
  unfold endP
  rw [if_neg (by show ¬ (1 : Int) = 0; decide)]
  by_cases g : ∀ x ∈ l, -31 ≤ x ∧ x ≤ 31 ∧ x ≠ 0
  · have hin : inB (sortU iltB l) (-31) 31 false = true := by
      unfold inB riseB
      rw [decide_eq_true (fun x hx => by have := g x ((s3 x).1 hx); exact ⟨this.1, this.2.1, .inl this.2.2⟩), decide_eq_true (by omega), decide_eq_true s1]; rfl
    have hm : mayR { startR with freq := 1, mday := sortU iltB l } = true := by
      have e : ∀ lo hi z, inB [] lo hi z = true := fun lo hi z => by unfold inB riseB; simp
      unfold mayR scalB endB listB besideB nthB posB oftenB startR zeroR
      simp only [hin, e]
      simp [dayB, numbB]
    rw [if_pos hm, if_pos g]
  · have hm : mayR { startR with freq := 1, mday := sortU iltB l } = false := may_list (by
      have hin : inB (sortU iltB l) (-31) 31 false = false := by
        unfold inB
        rw [decide_eq_false (fun k => g fun x hx => by
          have := k x ((s3 x).2 hx)
          exact ⟨this.1, this.2.1, by rcases this.2.2 with h | h; exact h; cases h⟩)]; rfl
      unfold listB; simp only [hin]; simp)
    rw [if_neg (by rw [hm]; decide), if_neg g]
-- names
theorem again_part : partOf [70, 82, 69, 81, 61, 68, 65, 73, 76, 89] = some (0, .num 4) := by
  have : [70, 82, 69, 81, 61, 68, 65, 73, 76, 89] = partT (0, freqW 4) := rfl
  rw [this]
  exact partOf_T (by decide) (by rw [valOf_0, freqOf_word ⟨4, by decide⟩ (by decide)]; rfl)
theorem no_part : partOf [66, 89, 69, 65, 83, 84, 69, 82, 61, 49] = none := by
  unfold partOf
  rw [if_pos (by decide), show keyOf (bef1 61 [66, 89, 69, 65, 83, 84, 69, 82, 61, 49]) = none from by decide]
theorem key0 (r : Ru) : 0 ∈ (fieldsP r).map Prod.fst := by unfold fieldsP; simp
end Go.Proofs.YtkkmhjplfpdhcaaGreatDoor.Ru
