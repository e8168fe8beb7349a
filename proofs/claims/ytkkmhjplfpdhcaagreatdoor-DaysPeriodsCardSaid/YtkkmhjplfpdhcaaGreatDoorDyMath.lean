/- Plain mathematics of chapter 6: which days a rule takes, its periods. -/
import Derived.Test.YtkkmhjplfpdhcaaGreatDoorRuLaws
import Derived.Test.YtkkmhjplfpdhcaaGreatDoorCvMath2
set_option linter.unusedVariables false
namespace Go.Proofs.YtkkmhjplfpdhcaaGreatDoor.Dd
open Cv St Ru

def ylen (y : Int) : Int := 365 + lp y
def yd (n : Int) : Int := n - ny (yr n) + 1
def hasB (l : List Int) (f b : Int) : Bool := decide (l = [] ∨ f ∈ l ∨ b ∈ l)
def weekB (r : Ru) (n : Int) : Bool := if r.week = [] then true else isyear (wky n r.wkst) && hasB r.week (wkn n r.wkst) (wkn n r.wkst - wks (wky n r.wkst) r.wkst - 1)
def placeB (r : Ru) (n : Int) : Bool := hasB r.yday (yd n) (yd n - ylen (yr n) - 1) && hasB r.mday (dom n) (dom n - len (yr n) (mon n) - 1)
def dhasB (l : List Dy) (w f b : Int) : Bool := decide (l = [] ∨ ∃ d ∈ l, d.w = w ∧ (d.n = 0 ∨ d.n = f ∨ d.n = b))
def dpl (r : Ru) (n : Int) : Int := if r.freq = 1 ∧ r.mon = [] then yd n else dom n
def dln (r : Ru) (n : Int) : Int := if r.freq = 1 ∧ r.mon = [] then ylen (yr n) else len (yr n) (mon n)
def dayFB (r : Ru) (n : Int) : Bool := dhasB r.day (wd n) ((dpl r n - 1) / 7 + 1) (-((dln r n - dpl r n) / 7) - 1)
def startB (r : Ru) (s n : Int) : Bool :=
  if 0 < r.yday.length + r.mday.length + r.day.length then true
  else if r.freq = 3 ∨ r.week ≠ [] then decide (wd n = wd s)
  else if r.freq = 1 then decide (dom n = dom s ∧ (r.mon ≠ [] ∨ mon n = mon s))
  else if r.freq = 2 then decide (dom n = dom s) else true
def fitB (r : Ru) (start n : Int) : Bool := hasB r.mon (mon n) (mon n) && weekB r n && placeB r n && dayFB r n && startB r (start / 86400) n
/-- days.Fits -/
def fitsB (r : Ru) (start n : Int) : Bool := isday n && mayR r && St.may start && fitB r start n
/-- the day that a day's week begins with -/
def wst (n k : Int) : Int := n - (wd n - k) % 7
def yro (r : Ru) (n : Int) : Int := if r.week = [] then yr n else wky n r.wkst
/-- a day's period, of years to days -/
def perD (r : Ru) (n : Int) : Int :=
  if r.freq = 1 then yro r n else if r.freq = 2 then yr n * 12 + mon n else if r.freq = 3 then (n + 3 - r.wkst) / 7 else n
/-- a moment's period -/
def per (r : Ru) (t : Int) : Int :=
  if r.freq = 5 then t / 3600 else if r.freq = 6 then t / 60 else if r.freq = 7 then t else perD r (t / 86400)
def pfirst (r : Ru) (n : Int) : Int :=
  if r.freq = 1 then (if r.week = [] then ny (yr n) else on (wky n r.wkst) r.wkst)
  else if r.freq = 2 then ny (yr n) + ah (yr n) (mon n) else if r.freq = 3 then wst n r.wkst else n
def plast (r : Ru) (n : Int) : Int :=
  if r.freq = 1 then (if r.week = [] then ny (yr n + 1) - 1 else on (wky n r.wkst + 1) r.wkst - 1)
  else if r.freq = 2 then ny (yr n) + ah (yr n) (mon n) + len (yr n) (mon n) - 1 else if r.freq = 3 then wst n r.wkst + 6 else n
/-- days.Period -/
def perR (r : Ru) (start t : Int) : Int × Bool := if mayR r && St.may start && St.may t then (per r t - per r start, true) else (0, false)
/-- days.Days -/
def daysR (r : Ru) (t : Int) : Int × Int := if mayR r && St.may t then (max (pfirst r (t / 86400)) (-719162), min (plast r (t / 86400)) 2932896) else (0, 0)
-- weeks
theorem wst_eq (n k : Int) : wst n k = 7 * ((n + 3 - k) / 7) + k - 3 := by unfold wst wd; omega
theorem fo_wst (n k : Int) : fo n k = wst n k + 3 := by unfold fo wst; omega
theorem wky_iff {m k y : Int} : wky m k = y ↔ on y k ≤ m ∧ m < on (y + 1) k := by
  have e1 := fo_in m y k
  have e2 := fo_in m (y + 1) k
  constructor
  · intro h
    have s := yr_spec (fo m k)
    rw [show yr (fo m k) = y from h] at s
    omega
  · intro h
    exact yr_of _ _ (by omega) (by omega)
theorem wst_on {n k : Int} (k1 : 0 ≤ k) (k2 : k ≤ 6) : wst n k - 7 * (wkn n k - 1) = on (wky n k) k := by
  unfold wky wkn wst
  have s := (yr_spec (fo n k)).1
  generalize hy : ny (yr (fo n k)) = a at *
  unfold on
  rw [hy]
  unfold fo wd at *
  omega
theorem on_div (y k : Int) : (on (y + 1) k - on y k) % 7 = 0 := by unfold on wd; omega
theorem on_len (y k : Int) : on y k + 7 * wks y k = on (y + 1) k := by
  rw [wks_eq]; have := on_div y k; omega
theorem on_lt (y k : Int) : on y k < on (y + 1) k := by
  have a := on_bd y k; have b := on_bd (y + 1) k; have c := ny_succ y; have d := lp_01 y; omega
theorem wkn_le {n k : Int} (k1 : 0 ≤ k) (k2 : k ≤ 6) : 1 ≤ wkn n k ∧ wkn n k ≤ wks (wky n k) k := by
  refine ⟨(wkn_bd n k).1, ?_⟩
  have a := wst_on (n := n) k1 k2
  have b := on_len (wky n k) k
  have c := (wky_iff (m := n) (k := k)).1 rfl
  have d : wst n k ≤ n := by unfold wst; omega
  omega
-- what lies together
theorem yr_mono {a b : Int} (h : a ≤ b) : yr a ≤ yr b := by
  have s := yr_spec a; have t := yr_spec b
  by_cases c : yr b < yr a
  · have := ny_mono (yr b + 1) (yr a) (by omega); omega
  · omega
theorem mon_bd (n : Int) : 1 ≤ mon n ∧ mon n ≤ 12 ∧ ny (yr n) + ah (yr n) (mon n) ≤ n ∧ n < ny (yr n) + ah (yr n) (mon n) + len (yr n) (mon n) := by
  have i := in_year n
  obtain ⟨a, b, c, d⟩ := mo_spec (yr n) (n - ny (yr n)) i.1 i.2
  have e := ah_succ (yr n) (mon n) a b
  unfold mon at *
  omega
theorem mon_of {n y m : Int} (h1 : 1 ≤ m) (h2 : m ≤ 12) (a : ny y + ah y m ≤ n) (b : n < ny y + ah y m + len y m) : yr n = y ∧ mon n = m := by
  have e := ah_succ y m h1 h2
  have m1 := ah_mono y 1 m (by omega) h1
  have m2 := ah_mono y (m + 1) 13 (by omega) (by omega)
  rw [ah_one] at m1
  rw [ah_end] at m2
  have hy : yr n = y := yr_of _ _ (by omega) (by have := ny_succ y; omega)
  refine ⟨hy, ?_⟩
  have i := in_year n
  unfold mon
  rw [hy] at i ⊢
  exact mo_of y _ m i.1 i.2 h1 (by omega) (by omega)
theorem mon_mono {a b : Int} (h : a ≤ b) : yr a * 12 + mon a ≤ yr b * 12 + mon b := by
  have s := mon_bd a; have t := mon_bd b; have u := yr_mono h
  by_cases c : yr a = yr b
  · rw [c] at s ⊢
    by_cases d : mon b < mon a
    · have e := ah_succ (yr b) (mon b) t.1 t.2.1
      have f := ah_mono (yr b) (mon b + 1) (mon a) (by omega) (by omega)
      omega
    · omega
  · omega
theorem wky_mono {a b k : Int} (h : a ≤ b) : wky a k ≤ wky b k := by
  unfold wky
  exact yr_mono (by rw [fo_wst, fo_wst, wst_eq, wst_eq]; omega)
theorem perD_mono {r : Ru} {a b : Int} (h : a ≤ b) : perD r a ≤ perD r b := by
  unfold perD yro
  split
  · split
    · exact yr_mono h
    · exact wky_mono h
  · split
    · exact mon_mono h
    · split <;> omega
theorem per_mono {r : Ru} {a b : Int} (h : a ≤ b) : per r a ≤ per r b := by
  unfold per
  split
  · omega
  · split
    · omega
    · split
      · exact h
      · exact perD_mono (by omega)
theorem p_in (r : Ru) (n : Int) : pfirst r n ≤ n ∧ n ≤ plast r n := by
  unfold pfirst plast
  split
  · split
    · have := yr_spec n; omega
    · have := (wky_iff (m := n) (k := r.wkst)).1 rfl; omega
  · split
    · have := mon_bd n; omega
    · split
      · unfold wst; omega
      · omega
theorem p_same {r : Ru} {n m : Int} (h : pfirst r n ≤ m ∧ m ≤ plast r n) : perD r m = perD r n := by
  unfold pfirst plast at h
  unfold perD yro
  split
  · rename_i c
    rw [if_pos c, if_pos c] at h
    split
    · rename_i d
      rw [if_pos d, if_pos d] at h
      exact yr_of _ _ h.1 (by omega)
    · rename_i d
      rw [if_neg d, if_neg d] at h
      exact wky_iff.2 ⟨h.1, by omega⟩
  · rename_i c
    rw [if_neg c, if_neg c] at h
    split
    · rename_i d
      rw [if_pos d, if_pos d] at h
      have b := mon_bd n
      obtain ⟨e, f⟩ := mon_of b.1 b.2.1 h.1 (by omega)
      rw [e, f]
    · rename_i d
      rw [if_neg d, if_neg d] at h
      split
      · rename_i e
        rw [if_pos e, if_pos e, wst_eq] at h
        omega
      · rename_i e
        rw [if_neg e, if_neg e] at h
        omega
theorem p_prev (r : Ru) (n : Int) : perD r (pfirst r n - 1) = perD r n - 1 := by
  unfold pfirst perD yro
  split
  · split
    · refine yr_of _ _ ?_ ?_
      · have := ny_succ (yr n - 1); rw [show yr n - 1 + 1 = yr n from by omega] at this; have := lp_01 (yr n - 1); omega
      · rw [show yr n - 1 + 1 = yr n from by omega]; omega
    · refine wky_iff.2 ⟨?_, ?_⟩
      · have := on_lt (wky n r.wkst - 1) r.wkst; rw [show wky n r.wkst - 1 + 1 = wky n r.wkst from by omega] at this; omega
      · rw [show wky n r.wkst - 1 + 1 = wky n r.wkst from by omega]; omega
  · split
    · have b := mon_bd n
      by_cases c : mon n = 1
      · rw [c, ah_one]
        have e : ah (yr n - 1) 13 = 365 + lp (yr n - 1) := ah_end _
        have f := ah_succ (yr n - 1) 12 (by omega) (by omega)
        rw [show (12 : Int) + 1 = 13 from rfl] at f
        have g := ny_succ (yr n - 1); rw [show yr n - 1 + 1 = yr n from by omega] at g
        have l := len_lo (yr n - 1) 12 (by omega) (by omega)
        obtain ⟨x, y⟩ := mon_of (n := ny (yr n) + 0 - 1) (y := yr n - 1) (m := 12) (by omega) (by omega) (by omega) (by omega)
        rw [x, y]; omega
      · have f := ah_succ (yr n) (mon n - 1) (by omega) (by omega)
        rw [show mon n - 1 + 1 = mon n from by omega] at f
        have l := len_lo (yr n) (mon n - 1) (by omega) (by omega)
        obtain ⟨x, y⟩ := mon_of (n := ny (yr n) + ah (yr n) (mon n) - 1) (y := yr n) (m := mon n - 1) (by omega) (by omega) (by omega) (by omega)
        rw [x, y]; omega
    · split
      · rw [wst_eq]; omega
      · omega
theorem p_next (r : Ru) (n : Int) : perD r (plast r n + 1) = perD r n + 1 := by
  unfold plast perD yro
  split
  · split
    · refine yr_of _ _ (by omega) ?_
      have := ny_succ (yr n + 1); have := lp_01 (yr n + 1); omega
    · refine wky_iff.2 ⟨by omega, ?_⟩
      have := on_lt (wky n r.wkst + 1) r.wkst; omega
  · split
    · have b := mon_bd n
      have f := ah_succ (yr n) (mon n) b.1 b.2.1
      by_cases c : mon n = 12
      · rw [c] at f b ⊢
        rw [show (12 : Int) + 1 = 13 from rfl, ah_end] at f
        have g := ny_succ (yr n)
        have l := len_lo (yr n + 1) 1 (by omega) (by omega)
        obtain ⟨x, y⟩ := mon_of (n := ny (yr n) + ah (yr n) 12 + len (yr n) 12 - 1 + 1) (y := yr n + 1) (m := 1) (by omega) (by omega) (by rw [ah_one]; omega) (by rw [ah_one]; omega)
        rw [x, y]; omega
      · have l := len_lo (yr n) (mon n + 1) (by omega) (by omega)
        obtain ⟨x, y⟩ := mon_of (n := ny (yr n) + ah (yr n) (mon n) + len (yr n) (mon n) - 1 + 1) (y := yr n) (m := mon n + 1) (by omega) (by omega) (by omega) (by omega)
        rw [x, y]; omega
    · split
      · rw [wst_eq]; omega
      · omega
/-- a day of the same period lies between its first and its last day -/
theorem p_iff {r : Ru} {n m : Int} : perD r m = perD r n ↔ pfirst r n ≤ m ∧ m ≤ plast r n := by
  constructor
  · intro h
    constructor
    · by_cases c : m < pfirst r n
      · have a := perD_mono (r := r) (a := m) (b := pfirst r n - 1) (by omega)
        have b := p_prev r n; omega
      · omega
    · by_cases c : plast r n < m
      · have a := perD_mono (r := r) (a := plast r n + 1) (b := m) (by omega)
        have b := p_next r n; omega
      · omega
  · exact p_same
end Go.Proofs.YtkkmhjplfpdhcaaGreatDoor.Dd
