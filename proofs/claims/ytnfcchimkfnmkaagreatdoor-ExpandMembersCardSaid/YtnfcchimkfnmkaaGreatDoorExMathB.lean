/- Plain mathematics of chapter 8: periods, and all of a rule's moments. -/
import Derived.Test.YtnfcchimkfnmkaaGreatDoorExMath
set_option linter.unusedVariables false
namespace Go.Proofs.YtnfcchimkfnmkaaGreatDoor.Ex
open Cv St Ru Dd Mb

theorem take_at {l : List Int} {t : Nat} (h : t < l.length) : l.take (t + 1) = l.take t ++ [iat l t] := by
  rw [iat_lt h, List.take_succ_eq_append_getElem h]
theorem tmod_z (a b : Int) : ((a.tmod b : Int) == 0) = decide (a % b = 0) := by
  rw [Bool.eq_iff_iff, beq_iff_eq, decide_eq_true_eq]
  constructor
  · intro h; exact Int.emod_eq_zero_of_dvd (Int.dvd_of_tmod_eq_zero h)
  · intro h; exact Int.tmod_eq_zero_of_dvd (Int.dvd_of_emod_eq_zero h)
theorem perD_3 {r : Ru} (h : mayR r = true) (h3 : r.freq ≤ 4) (y : Int) : per r y = perD r (y / 86400) := by
  unfold per; rw [if_neg (by omega), if_neg (by omega), if_neg (by omega)]
/-- moments of one period have one set -/
theorem set_same {r : Ru} {start x t : Int} (h : mayR r = true) (h3 : r.freq ≤ 4) (hx : St.may x = true) (ht : St.may t = true) (e : per r x = per r t) (m : Int) : setR r start x m = setR r start t m := by
  have ip : inPer r start x = inPer r start t := by unfold inPer; rw [hx, ht, e]
  have so : setOk r start x m = setOk r start t m := by unfold setOk; rw [hx, ht]
  have ed : perD r (x / 86400) = perD r (t / 86400) := by rw [← perD_3 h h3, ← perD_3 h h3]; exact e
  have hd : dysR r start x = dysR r start t := rise_ext (dys_rise _ _ _) (dys_rise _ _ _) fun n => by rw [mem_dys h hx, mem_dys h ht, ed]
  have hh : tmsR r start x = tmsR r start t := by
    unfold tmsR setH setM setS
    rw [if_neg (by omega), if_neg (by omega), if_neg (by omega), if_neg (by omega), if_neg (by omega), if_neg (by omega)]
  have ha : allR r start x = allR r start t := by unfold allR; rw [hd, hh]
  unfold setR
  rw [so, ip, hd, hh, ha]
theorem day_may {n : Int} (h : isday n = true) : St.may (n * 86400) = true := by
  have := of_decide_eq_true h
  exact decide_eq_true (by omega)
theorem may_day {t : Int} (h : St.may t = true) : St.may (t / 86400 * 86400) = true := by
  have := of_decide_eq_true h
  exact decide_eq_true (by omega)
theorem days_eq {r : Ru} {n : Int} (h : mayR r = true) (hn : isday n = true) : daysR r (n * 86400) = (max (pfirst r n) (-719162), min (plast r n) 2932896) := by
  unfold daysR
  rw [if_pos (by rw [h, day_may hn]; rfl), show n * 86400 / 86400 = n by omega]
theorem days_in {r : Ru} {n : Int} (h : mayR r = true) (hn : isday n = true) : (daysR r (n * 86400)).1 ≤ n ∧ n ≤ (daysR r (n * 86400)).2 ∧ (daysR r (n * 86400)).2 ≤ 2932896 ∧ -719162 ≤ (daysR r (n * 86400)).1 := by
  have a := p_in r n
  have b := of_decide_eq_true hn
  rw [days_eq h hn]
  simp only
  omega
/-- the day behind a period begins the next -/
theorem days_next {r : Ru} {n : Int} (h : mayR r = true) (hn : isday n = true) (hb : isday ((daysR r (n * 86400)).2 + 1) = true) : (daysR r (((daysR r (n * 86400)).2 + 1) * 86400)).1 = (daysR r (n * 86400)).2 + 1 := by
  have a := p_in r n
  have b := of_decide_eq_true hn
  have c := of_decide_eq_true hb
  rw [days_eq h hb]
  have d : (daysR r (n * 86400)).2 = plast r n := by
    rw [days_eq h hn] at c ⊢
    simp only at c ⊢
    omega
  rw [d] at c ⊢
  simp only
  have e : pfirst r (plast r n + 1) = plast r n + 1 := by
    have f := p_in r (plast r n + 1)
    by_cases g : pfirst r (plast r n + 1) ≤ plast r n
    · have k := p_iff.2 (show pfirst r (plast r n + 1) ≤ plast r n ∧ plast r n ≤ plast r (plast r n + 1) from ⟨g, by omega⟩)
      rw [p_next] at k
      have l := p_iff.2 (show pfirst r n ≤ plast r n ∧ plast r n ≤ plast r n from ⟨by omega, by omega⟩)
      omega
    · omega
  rw [e]
  omega
/-- the same period has the same days -/
theorem days_same {r : Ru} {n m : Int} (h : mayR r = true) (hn : isday n = true) (hm : isday m = true) : (perD r m = perD r n) ↔ ((daysR r (n * 86400)).1 ≤ m ∧ m ≤ (daysR r (n * 86400)).2) := by
  have b := of_decide_eq_true hm
  rw [days_eq h hn, p_iff]
  simp only
  omega
/-- a period -/
theorem per_eq {r : Ru} {start n : Int} (h : mayR r = true) (hs : St.may start = true) (h3 : r.freq ≤ 4) (hp : r.pos ≠ []) (hn : isday n = true) :
    pickL r.pos (setR r start (n * 86400) 100000).1 = selL (inA r start) ((daysR r (n * 86400)).1 * 86400) (((daysR r (n * 86400)).2 + 1) * 86400) := by
  have mn := day_may hn
  refine sel_eq (pick_rise ones_rise) fun x => ?_
  rw [mem_pick]
  unfold inA
  simp only [Bool.and_eq_true, Bool.or_eq_true, decide_eq_true_eq, hp, false_or]
  have core : rawB r start x = true → per r x = per r (n * 86400) → (Mb.placeB r start x = true ↔ (setR r start (n * 86400) 100000).2 = 0 ∧ (idx (setR r start (n * 86400) 100000).1 x + 1 ∈ r.pos ∨ idx (setR r start (n * 86400) 100000).1 x - (setR r start (n * 86400) 100000).1.length ∈ r.pos)) := fun hr e => by
    unfold Mb.placeB
    rw [set_same h h3 (inPer_may (raw_may hr)).2.2.1 mn e]
    simp only [Bool.and_eq_true, Bool.or_eq_true, decide_eq_true_eq]
  constructor
  · rintro ⟨hx, hq⟩
    have z : (setR r start (n * 86400) 100000).2 = 0 := by
      by_cases c : (setR r start (n * 86400) 100000).2 = 0
      · exact c
      · rw [setR_no c] at hx; cases hx
    obtain ⟨-, -, -, k⟩ := setR_ok z
    rcases k with ⟨-, k⟩ | ⟨ki, k⟩
    · rw [k] at hx; cases hx
    · have hx2 := hx
      rw [k, mem_allR ki] at hx2
      obtain ⟨hr, e⟩ := hx2
      have dx : isday (x / 86400) = true := may_isday (inPer_may (raw_may hr)).2.2.1
      have e2 := (days_same h hn dx).1 (by rw [← perD_3 h h3, e, perD_3 h h3, show n * 86400 / 86400 = n by omega])
      exact ⟨by omega, by omega, hr, (core hr e).2 ⟨z, hq⟩⟩
  · rintro ⟨a, b, hr, hq⟩
    have dx : isday (x / 86400) = true := may_isday (inPer_may (raw_may hr)).2.2.1
    have e : per r x = per r (n * 86400) := by
      rw [perD_3 h h3, perD_3 h h3, show n * 86400 / 86400 = n by omega]
      exact (days_same h hn dx).2 ⟨by omega, by omega⟩
    obtain ⟨z, hq⟩ := (core hr e).1 hq
    refine ⟨?_, hq⟩
    obtain ⟨-, -, -, k⟩ := setR_ok z
    have ip : inPer r start (n * 86400) = true := by
      have := raw_may hr
      unfold inPer at this ⊢
      rw [mn, ← e]
      simp only [Bool.and_eq_true] at this ⊢
      exact ⟨⟨this.1.1, trivial⟩, this.2⟩
    rcases k with ⟨k, -⟩ | ⟨-, k⟩
    · rw [ip] at k; cases k
    · rw [k]; exact (mem_allR ip).2 ⟨hr, e⟩
-- the whole
/-- expand.inDays, expand.inPeriods, expand.around: what they go through -/
def daysL (r : Ru) (start first last : Int) : List Int := selL (inA r start) (first * 86400) ((last + 1) * 86400)
def persL (r : Ru) (start first last : Int) : List Int := if first ≤ last then selL (inA r start) ((daysR r (first * 86400)).1 * 86400) (((daysR r (last * 86400)).2 + 1) * 86400) else []
def arndL (r : Ru) (start from_ hi : Int) : List Int := if r.freq ≤ 3 ∧ r.pos ≠ [] then persL r start (from_ / 86400) ((hi - 1) / 86400) else daysL r start (from_ / 86400) ((hi - 1) / 86400)
/-- where a rule's window ends -/
def hiR (r : Ru) (end_ : Int) : Int := if r.ends = true then min end_ (r.til + 1) else end_
def cutL (c : Int) (l : List Int) : List Int := if c = 0 then l else l.take c.toNat
/-- expand.moments -/
def momL (r : Ru) (start from_ end_ : Int) : List Int := cutL r.cnt (selL (hasM r start) from_ (hiR r end_))
theorem arnd_rise (r : Ru) (start from_ hi : Int) : (arndL r start from_ hi).Pairwise (· < ·) := by
  unfold arndL persL daysL
  split
  · split
    · exact sel_rise _ _ _
    · simp
  · exact sel_rise _ _ _
theorem has_sel {r : Ru} {start from_ end_ : Int} (hf : start ≤ from_) : selL (inA r start) from_ (hiR r end_) = selL (hasM r start) from_ (hiR r end_) :=
  sel_congr fun x a b => by
    have e : (!r.ends || decide (x ≤ r.til)) = true := by
      unfold hiR at b
      cases h : r.ends
      · rfl
      · rw [if_pos h] at b
        exact decide_eq_true (by omega)
    rw [has_inA, e, decide_eq_true (show start ≤ x by omega)]
    rfl
/-- those from a moment on, below an end -/
theorem arnd_win {r : Ru} {start from_ hi : Int} (h : mayR r = true) (hf : St.may from_ = true) (hh : hi ≤ 253402300800) :
    (arndL r start from_ hi).filter (fun x => decide (from_ ≤ x ∧ x < hi)) = selL (inA r start) from_ hi := by
  have a := of_decide_eq_true hf
  unfold arndL
  split
  · unfold persL
    split
    · rename_i c
      have d1 : isday (from_ / 86400) = true := may_isday hf
      have d2 : isday ((hi - 1) / 86400) = true := decide_eq_true (by omega)
      have := days_in h d1; have := days_in h d2
      exact sel_filter (.inr ⟨by omega, by omega⟩)
    · rw [sel_nil (by omega)]; rfl
  · unfold daysL
    exact sel_filter (.inr ⟨by omega, by omega⟩)
/-- may List be asked this? -/
def mayE (r : Ru) (start end_ most : Int) : Bool := mayR r && St.may start && St.may end_ && decide (end_ - start ≤ 316224000) && decide (1 ≤ most ∧ most ≤ 4096)
/-- expand.List -/
def listR (r : Ru) (start end_ most : Int) : List Int × Int :=
  if mayE r start end_ most = false then ([], 1) else if most < (momL r start start end_).length then ([], 10) else (momL r start start end_, 0)
end Go.Proofs.YtnfcchimkfnmkaaGreatDoor.Ex
