/- Plain mathematics of the statements of chapter 6. -/
import Derived.Test.YtkkmhjplfpdhcaaGreatDoorDyMath
set_option linter.unusedVariables false
namespace Go.Proofs.YtkkmhjplfpdhcaaGreatDoor.Dd
open Cv St Ru

def plainR (freq : Int) : Ru := ⟨freq, 1, 0, 0, 0, false, [], [], [], [], [], [], [], [], []⟩
theorem plain_may (freq : Int) : mayR (plainR freq) = decide (1 ≤ freq ∧ freq ≤ 7) := by
  have e : ∀ lo hi z, inB [] lo hi z = true := fun lo hi z => by unfold inB riseB; simp
  have d : dayB [] = true := by unfold dayB; simp
  unfold mayR scalB endB listB besideB nthB posB oftenB plainR
  simp only [e, d]
  simp [numbB]
def plainW (freq s n : Int) : Bool := if freq = 1 then decide (mon n = mon s ∧ dom n = dom s) else if freq = 2 then decide (dom n = dom s) else if freq = 3 then decide (wd n = wd s) else true
theorem plain_fits (freq start n : Int) : fitsB (plainR freq) start n = (isday n && decide (1 ≤ freq ∧ freq ≤ 7) && St.may start && plainW freq (start / 86400) n) := by
  unfold fitsB
  rw [plain_may]
  congr 1
  unfold fitB weekB placeB dayFB startB plainW plainR
  simp [hasB, dhasB]
  by_cases a : freq = 1
  · subst a; simp [Bool.and_comm]
  · by_cases b : freq = 2
    · subst b; simp
    · by_cases c : freq = 3
      · subst c; simp
      · simp [a, b, c]
def nthR (n w : Int) : Ru := ⟨2, 1, 0, 0, 0, false, [], [], [], [], [⟨n, w⟩], [], [], [], []⟩
theorem nthR_may {n w : Int} (h : n ≠ 0 ∧ -5 ≤ n ∧ n ≤ 5 ∧ 0 ≤ w ∧ w ≤ 6) : mayR (nthR n w) = true := by
  have e : ∀ lo hi z, inB [] lo hi z = true := fun lo hi z => by unfold inB riseB; simp
  have d : dayB [⟨n, w⟩] = true := by unfold dayB; simp; omega
  unfold mayR scalB endB listB besideB nthB posB oftenB nthR
  simp only [e, d]
  simp
def nthW (n w y m : Int) : Int := if 0 < n then nth y m 1 w + 7 * (n - 1) else nth y m 5 w + 7 * (n + 1)
theorem nth_fits {n w start day : Int} (h : n ≠ 0 ∧ -5 ≤ n ∧ n ≤ 5 ∧ 0 ≤ w ∧ w ≤ 6) (hd : isday day = true) (hs : St.may start = true) :
    fitsB (nthR n w) start day = decide (dom day = nthW n w (yr day) (mon day) ∧ 1 ≤ nthW n w (yr day) (mon day)) := by
  have hd' := of_decide_eq_true hd
  have b := mon_bd day
  have l3 := len_lo (yr day) (mon day) b.1 b.2.1
  have l2 := (len_bd (yr day) (mon day)).2
  have f1 : fitB (nthR n w) start day = decide (wd day = w ∧ (n = (dom day - 1) / 7 + 1 ∨ n = -((len (yr day) (mon day) - dom day) / 7) - 1)) := by
    unfold fitB weekB placeB dayFB startB nthR dpl dln
    simp only [hasB, dhasB]
    simp [h.1, eq_comm]
  unfold fitsB
  rw [hd, hs, nthR_may h, f1]
  simp only [Bool.true_and]
  refine decide_eq_decide.2 ?_
  have n1 : nth (yr day) (mon day) 1 w = 1 + (w - wd (ny (yr day) + ah (yr day) (mon day))) % 7 := by rw [nth_2 (by omega)]; omega
  have n5 : (nth (yr day) (mon day) 5 w = 1 + (w - wd (ny (yr day) + ah (yr day) (mon day))) % 7 + 21 ∧ len (yr day) (mon day) < 1 + (w - wd (ny (yr day) + ah (yr day) (mon day))) % 7 + 28) ∨
      (nth (yr day) (mon day) 5 w = 1 + (w - wd (ny (yr day) + ah (yr day) (mon day))) % 7 + 28 ∧ ¬ len (yr day) (mon day) < 1 + (w - wd (ny (yr day) + ah (yr day) (mon day))) % 7 + 28) := by
    by_cases c : len (yr day) (mon day) < 1 + (w - wd (ny (yr day) + ah (yr day) (mon day))) % 7 + 7 * (5 - 1)
    · exact .inl ⟨by rw [nth_1 c]; omega, by omega⟩
    · exact .inr ⟨by rw [nth_2 c]; omega, by omega⟩
  unfold nthW
  rw [n1]
  have e : dom day = day - ny (yr day) - ah (yr day) (mon day) + 1 := rfl
  generalize dom day = d at *
  generalize len (yr day) (mon day) = l at *
  generalize nth (yr day) (mon day) 5 w = v at *
  obtain ⟨g, hg⟩ : ∃ g, ny (yr day) + ah (yr day) (mon day) = g := ⟨_, rfl⟩
  rw [hg] at b n5 ⊢
  obtain rfl : day = g + d - 1 := by omega
  clear hg e hd hd' f1 hs n1
  have b3 := b.2.2
  clear b
  unfold wd at *
  split <;> omega
/-- all weekdays -/
def eachD : List Dy := [⟨0, 0⟩, ⟨0, 1⟩, ⟨0, 2⟩, ⟨0, 3⟩, ⟨0, 4⟩, ⟨0, 5⟩, ⟨0, 6⟩]
def wkR (k x : Int) : Ru := ⟨1, 1, 0, 0, k, false, [], [x], [], [], eachD, [], [], [], []⟩
theorem wkR_may {k x : Int} (k1 : 0 ≤ k) (k2 : k ≤ 6) (h : x ≠ 0 ∧ -53 ≤ x ∧ x ≤ 53) : mayR (wkR k x) = true := by
  have e : ∀ lo hi z, inB [] lo hi z = true := fun lo hi z => by unfold inB riseB; simp
  have g : inB [x] (-53) 53 false = true := by unfold inB riseB; simp; omega
  have d : dayB eachD = true := by decide
  have n : numbB eachD = false := by decide
  unfold mayR scalB endB listB besideB nthB posB oftenB wkR
  simp only [e, d, g, n]
  simp
  omega
theorem each_has (w f b : Int) (h : 0 ≤ w) (g : w ≤ 6) : dhasB eachD w f b = true := by
  refine decide_eq_true (.inr ?_)
  refine ⟨⟨0, w⟩, ?_, rfl, .inl rfl⟩
  have : w = 0 ∨ w = 1 ∨ w = 2 ∨ w = 3 ∨ w = 4 ∨ w = 5 ∨ w = 6 := by omega
  rcases this with rfl | rfl | rfl | rfl | rfl | rfl | rfl <;> decide
theorem wk_fits {start day k x : Int} (hd : isday day = true) (hs : St.may start = true) (k1 : 0 ≤ k) (k2 : k ≤ 6) (h : x ≠ 0 ∧ -53 ≤ x ∧ x ≤ 53) (hy : isyear (wky day k) = true) :
    fitsB (wkR k x) start day = decide (wkn day k = x ∨ wkn day k - wks (wky day k) k - 1 = x) := by
  have hw : 0 ≤ wd day ∧ wd day ≤ 6 := by unfold wd; omega
  have f1 : fitB (wkR k x) start day = decide (wkn day k = x ∨ wkn day k - wks (wky day k) k - 1 = x) := by
    unfold fitB weekB placeB dayFB startB wkR
    simp only [each_has _ _ _ hw.1 hw.2, hy]
    simp only [hasB]
    simp [eachD]
  unfold fitsB
  rw [hd, hs, wkR_may k1 k2 h, f1]
  simp
theorem wk_three {day k : Int} (k1 : 0 ≤ k) (k2 : k ≤ 6) :
    (wkn day k ≠ 0 ∧ -53 ≤ wkn day k ∧ wkn day k ≤ 53) ∧
    (wkn day k - wks (wky day k) k - 1 ≠ 0 ∧ -53 ≤ wkn day k - wks (wky day k) k - 1 ∧ wkn day k - wks (wky day k) k - 1 ≤ 53) ∧
    (wkn day k % wks (wky day k) k + 1 ≠ 0 ∧ -53 ≤ wkn day k % wks (wky day k) k + 1 ∧ wkn day k % wks (wky day k) k + 1 ≤ 53) ∧
    ¬ (wkn day k = wkn day k % wks (wky day k) k + 1 ∨ wkn day k - wks (wky day k) k - 1 = wkn day k % wks (wky day k) k + 1) := by
  have a := wkn_le (n := day) k1 k2
  have b := wks_bd (wky day k) k k1 k2
  rcases b with b | b <;> rw [b] at a ⊢ <;> omega
-- DaysParts
theorem hasB_nil (f b : Int) : hasB [] f b = true := decide_eq_true (.inl rfl)
theorem parts_month {r : Ru} {start day : Int} (hf : r.freq ≠ 1) (hl : 0 < r.day.length + r.yday.length + r.mday.length) (hq : mayR { r with mon := [] } = true) (h : fitsB r start day = true) : fitsB { r with mon := [] } start day = true := by
  unfold fitsB fitB at *
  simp only [Bool.and_eq_true] at *
  obtain ⟨⟨⟨h1, h2⟩, h3⟩, ⟨⟨⟨h4, h5⟩, h6⟩, h7⟩, h8⟩ := h
  refine ⟨⟨⟨h1, hq⟩, h3⟩, ⟨⟨⟨hasB_nil _ _, h5⟩, h6⟩, ?_⟩, ?_⟩
  · unfold dayFB dpl dln at *
    simp only [hf, false_and, if_false] at h7 ⊢
    exact h7
  · unfold startB
    rw [if_pos (by show 0 < r.yday.length + r.mday.length + r.day.length; omega)]
theorem parts_day {r : Ru} {start day : Int} (hl : 0 < r.day.length) (hq : mayR { r with mday := [], yday := [] } = true) (h : fitsB r start day = true) : fitsB { r with mday := [], yday := [] } start day = true := by
  unfold fitsB fitB at *
  simp only [Bool.and_eq_true] at *
  obtain ⟨⟨⟨h1, h2⟩, h3⟩, ⟨⟨⟨h4, h5⟩, h6⟩, h7⟩, h8⟩ := h
  refine ⟨⟨⟨h1, hq⟩, h3⟩, ⟨⟨⟨h4, h5⟩, ?_⟩, h7⟩, ?_⟩
  · unfold placeB
    simp [hasB_nil]
  · unfold startB
    rw [if_pos (by simp; omega)]
theorem parts_has {r : Ru} {start day : Int} (h : fitsB r start day = true) : isday day = true ∧ (r.mon = [] ∨ mon day ∈ r.mon) := by
  unfold fitsB fitB at h
  simp only [Bool.and_eq_true] at h
  obtain ⟨⟨⟨h1, h2⟩, h3⟩, ⟨⟨⟨h4, h5⟩, h6⟩, h7⟩, h8⟩ := h
  refine ⟨h1, ?_⟩
  have := of_decide_eq_true h4
  rcases this with a | a | a
  · exact .inl a
  · exact .inr a
  · exact .inr a
-- DaysTimes
def timB (l : List Int) (alone : Bool) (own : Int) (most : Nat) : List Int := if l ≠ [] then l else if alone then [own] else (List.range most).map Int.ofNat
def timH (r : Ru) (start : Int) : List Int := timB r.hour (decide (r.freq ≤ 4)) (start % 86400 / 3600) 24
def timM (r : Ru) (start : Int) : List Int := timB r.minu (decide (r.freq ≤ 5)) (start % 86400 % 3600 / 60) 60
def timS (r : Ru) (start : Int) : List Int := timB r.sec (decide (r.freq ≤ 6)) (start % 86400 % 60) 60
theorem riseB_range (n : Nat) : riseB ((List.range n).map Int.ofNat) = true := by
  refine decide_eq_true ?_
  rw [List.pairwise_map]
  exact List.pairwise_lt_range.imp fun h => by simpa using h
theorem tim_ok {l : List Int} {alone : Bool} {own : Int} {most : Nat} (hm : 1 ≤ most) (hl : inB l 0 ((most : Int) - 1) true = true) (h0 : 0 ≤ own) (h1 : own < most) :
    riseB (timB l alone own most) = true ∧ 1 ≤ (timB l alone own most).length ∧ (timB l alone own most).length ≤ max 60 most ∧ (∀ x ∈ timB l alone own most, 0 ≤ x ∧ x ≤ (most : Int) - 1) ∧ (l = [] → own ∈ timB l alone own most) := by
  unfold timB
  split
  · rename_i c
    unfold inB at hl
    simp only [Bool.and_eq_true] at hl
    obtain ⟨⟨a, b⟩, d⟩ := hl
    have a := of_decide_eq_true a; have b := of_decide_eq_true b
    refine ⟨d, ?_, by omega, fun x hx => ⟨(a x hx).1, (a x hx).2.1⟩, fun e => absurd e c⟩
    cases l with
    | nil => exact absurd rfl c
    | cons x l => simp
  · split
    · refine ⟨by unfold riseB; simp, by simp, by simp; omega, fun x hx => ?_, fun _ => by simp⟩
      simp at hx; subst hx; omega
    · refine ⟨riseB_range most, by simp; omega, by simp; omega, fun x hx => ?_, fun _ => ?_⟩
      · simp at hx
        obtain ⟨i, hi, rfl⟩ := hx
        omega
      · rw [List.mem_map]
        exact ⟨own.toNat, by rw [List.mem_range]; omega, by simp; omega⟩
end Go.Proofs.YtkkmhjplfpdhcaaGreatDoor.Dd
