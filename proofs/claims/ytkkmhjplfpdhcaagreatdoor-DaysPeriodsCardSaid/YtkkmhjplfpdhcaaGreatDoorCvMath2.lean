/- More plain arithmetic of the calendar, no Go in sight: what voklaw1's laws say of it. Conditions stand at each lemma. -/
import Derived.Test.YtkkmhjplfpdhcaaGreatDoorCvMath
set_option linter.unusedVariables false
namespace Go.Proofs.YtkkmhjplfpdhcaaGreatDoor.Cv

theorem valid_bits {y m d : Int} (h : valid y m d = true) : 1 ≤ y ∧ y ≤ 9999 ∧ 1 ≤ m ∧ m ≤ 12 ∧ 1 ≤ d ∧ d ≤ len y m := by
  have g := of_decide_eq_true h
  by_cases hm : 1 ≤ m ∧ m ≤ 12
  · exact ⟨g.1, g.2.1, hm.1, hm.2, g.2.2⟩
  · have := len_no y m hm; omega
theorem ny_1 : ny 1 = -719162 := by decide
theorem ny_10000 : ny 10000 = 2932897 := by decide
theorem num_in {y m d : Int} (h : valid y m d = true) : ny y ≤ num y m d ∧ num y m d < ny (y + 1) := by
  obtain ⟨h1, h2, h3, h4, h5, h6⟩ := valid_bits h
  have a := ah_bd y m h3 (by omega)
  have b := ah_succ y m h3 h4
  have c := ah_mono y (m + 1) 13 (by omega) (by omega)
  have d := ah_end y
  have e := ny_succ y
  unfold num
  omega
theorem num_bd {y m d : Int} (h : valid y m d = true) : -719162 ≤ num y m d ∧ num y m d ≤ 2932896 := by
  obtain ⟨h1, h2, _⟩ := valid_bits h
  have a := num_in h
  have b := ny_mono 1 y h1
  have c := ny_mono (y + 1) 10000 (by omega)
  rw [ny_1] at b
  rw [ny_10000] at c
  omega
theorem yr_num {y m d : Int} (h : valid y m d = true) : yr (num y m d) = y := by
  have a := num_in h
  exact yr_of _ _ a.1 a.2
theorem mon_num {y m d : Int} (h : valid y m d = true) : mon (num y m d) = m ∧ dom (num y m d) = d := by
  obtain ⟨h1, h2, h3, h4, h5, h6⟩ := valid_bits h
  have g := mon_eq (n := num y m d) (yr_num h).symm h3 h4 (by unfold num; omega) (by unfold num; omega)
  refine ⟨g.1, ?_⟩
  rw [g.2]; unfold num; omega
theorem back {n : Int} (h1 : -719162 ≤ n) (h2 : n ≤ 2932896) : valid (yr n) (mon n) (dom n) = true ∧ num (yr n) (mon n) (dom n) = n := by
  have a := yr_day n h1 h2
  have b := in_year n
  have c := mo_spec (yr n) (n - ny (yr n)) b.1 b.2
  have e : mon n = mo (yr n) (n - ny (yr n)) := rfl
  rw [← e] at c
  have s := ah_succ (yr n) (mon n) c.1 c.2.1
  refine ⟨decide_eq_true ⟨a.1, a.2, ?_, ?_⟩, ?_⟩
  · unfold dom; omega
  · unfold dom; omega
  · unfold num dom; omega
theorem num_next (y m d : Int) : num y m (d + 1) = num y m d + 1 := by unfold num; omega
theorem num_new (y : Int) : num y 1 1 = ny y := by unfold num; rw [ah_one]; omega
theorem num_last (y : Int) : num y 12 31 = ny (y + 1) - 1 := by
  have a := ah_succ y 12 (by decide) (by decide)
  have b := ah_end y
  have c := ny_succ y
  have l : len y 12 = 31 := by simp [len]
  rw [show (12 : Int) + 1 = 13 from rfl] at a
  unfold num
  omega
theorem valid_new {y : Int} (h1 : 1 ≤ y) (h2 : y ≤ 9999) : valid y 1 1 = true := decide_eq_true ⟨h1, h2, by decide, by simp [len]⟩
theorem valid_4 {y : Int} (h1 : 1 ≤ y) (h2 : y ≤ 9999) : valid y 1 4 = true := decide_eq_true ⟨h1, h2, by decide, by simp [len]⟩
theorem valid_last {y : Int} (h1 : 1 ≤ y) (h2 : y ≤ 9999) : valid y 12 31 = true := decide_eq_true ⟨h1, h2, by decide, by simp [len]⟩
theorem rise_y {y m d a b c : Int} (h : valid y m d = true) (g : valid a b c = true) (l : a < y) : num a b c < num y m d := by
  have p := num_in h
  have q := num_in g
  have r := ny_mono (a + 1) y (by omega)
  omega
theorem rise_m {y m d b c : Int} (h : valid y m d = true) (g : valid y b c = true) (l : b < m) : num y b c < num y m d := by
  obtain ⟨h1, h2, h3, h4, h5, h6⟩ := valid_bits h
  obtain ⟨g1, g2, g3, g4, g5, g6⟩ := valid_bits g
  have r := ah_mono y (b + 1) m (by omega) (by omega)
  have s := ah_succ y b g3 g4
  unfold num
  omega
theorem rise_d {y m d c : Int} (l : c < d) : num y m c < num y m d := by unfold num; omega
theorem wd_7 (n : Int) : wd (n + 7) = wd n := by unfold wd; omega
theorem wd_1 (n : Int) : wd (n + 1) = (wd n + 1) % 7 := by unfold wd; omega
theorem fo_stay {n k : Int} (h : wd (n + 1) ≠ k) (k1 : 0 ≤ k) (k2 : k ≤ 6) : fo (n + 1) k = fo n k := by unfold fo wd at *; omega
theorem fo_go {n k : Int} (h : wd (n + 1) = k) : fo (n + 1) k = fo n k + 7 := by unfold fo wd at *; omega
theorem fo_7 (n k : Int) : fo (n + 7) k = fo n k + 7 := by unfold fo wd; omega
theorem wkn_bd (n k : Int) : 1 ≤ wkn n k ∧ wkn n k ≤ 53 := by
  have a := in_year (fo n k)
  have b := lp_01 (yr (fo n k))
  unfold wkn
  omega
/-- a week on: the next number, or the first of the next year -/
theorem wk_on {f : Int} : (yr (f + 7) = yr f ∧ (f + 7 - ny (yr (f + 7))) / 7 + 1 = (f - ny (yr f)) / 7 + 1 + 1) ∨
    (yr (f + 7) = yr f + 1 ∧ (f + 7 - ny (yr (f + 7))) / 7 + 1 = 1 ∧ f < ny (yr f + 1) ∧ ny (yr f + 1) ≤ f + 7) := by
  have a := yr_spec f
  have b := ny_mono (yr f + 1) (yr f + 1 + 1) (by omega)
  by_cases c : f + 7 < ny (yr f + 1)
  · left
    have e : yr (f + 7) = yr f := yr_of _ _ (by omega) c
    rw [e]
    omega
  · right
    have e : yr (f + 7) = yr f + 1 := yr_of _ _ (by omega) (by omega)
    rw [e]
    omega
theorem wk_last {n k : Int} (k1 : 0 ≤ k) (k2 : k ≤ 6) (h : ny (yr (fo n k) + 1) ≤ fo n k + 7) : wkn n k = wks (yr (fo n k)) k := by
  have a := yr_spec (fo n k)
  have b := ny_mono (yr (fo n k)) (yr (fo n k) + 1) (by omega)
  unfold wkn wks
  generalize hy : yr (fo n k) = y at *
  unfold fo wd at *
  omega
theorem year_top {n k : Int} (h : -719528 ≤ fo n k) (g : fo n k ≤ 2932896) : wky n k ≤ 9999 := by
  have a := yr_spec (fo n k)
  unfold wky
  by_cases c : yr (fo n k) ≤ 9999
  · exact c
  · have := ny_mono 10000 (yr (fo n k)) (by omega)
    rw [ny_10000] at this
    omega
theorem nth_ok {y m k x : Int} (h1 : 1 ≤ y) (h2 : y ≤ 9999) (h3 : 1 ≤ m) (h4 : m ≤ 12) (h5 : 1 ≤ k) (h6 : k ≤ 5) :
    valid y m (nth y m k x) = true := by
  have l1 := (len_bd y m).2
  have l3 := len_lo y m h3 h4
  have n : 1 ≤ nth y m k x ∧ nth y m k x ≤ len y m := by
    unfold nth; split <;> omega
  exact decide_eq_true ⟨h1, h2, n⟩
theorem nth_wd {y m k x : Int} (h7 : 0 ≤ x) (h8 : x ≤ 6) : wd (num y m (nth y m k x)) = x := by
  unfold nth num; split <;> (unfold wd; omega)
theorem nth_5 {y m x : Int} (h3 : 1 ≤ m) (h4 : m ≤ 12) : len y m < nth y m 5 x + 7 := by
  have l1 := (len_bd y m).2
  have l3 := len_lo y m h3 h4
  unfold nth; split <;> omega
theorem nth_k {y m k x : Int} (h3 : 1 ≤ m) (h4 : m ≤ 12) (h5 : 1 ≤ k) (h6 : k < 5) : (nth y m k x - 1) / 7 + 1 = k := by
  have l3 := len_lo y m h3 h4
  unfold nth; split <;> omega
theorem leap_400 (y : Int) : leap (y + 400) = leap y := by
  unfold leap
  rw [show (y + 400) % 4 = y % 4 by omega, show (y + 400) % 100 = y % 100 by omega, show (y + 400) % 400 = y % 400 by omega]
theorem num_400 (y m d : Int) : num (y + 400) m d = num y m d + 146097 := by
  unfold num ah lp
  rw [leap_400]
  unfold ny
  omega
theorem len_400 (y m : Int) : len (y + 400) m = len y m := by
  unfold len lp
  rw [leap_400]
theorem valid_400 {y m d : Int} (h : valid y m d = true) (l : y + 400 ≤ 9999) : valid (y + 400) m d = true := by
  have g := of_decide_eq_true h
  exact decide_eq_true ⟨by omega, l, g.2.2.1, by rw [len_400]; exact g.2.2.2⟩
theorem wd_400 (n : Int) : wd (n + 146097) = wd n := by unfold wd; omega
theorem num_4 (y : Int) : num y 1 4 = ny y + 3 := by unfold num; rw [ah_one]; omega
theorem wk_4 (y k : Int) (k1 : 0 ≤ k) (k2 : k ≤ 6) : wky (ny y + 3) k = y ∧ wkn (ny y + 3) k = 1 := by
  have c := ny_mono y (y + 1) (by omega)
  have o := on_bd (y + 1) k
  have a : on y k ≤ ny y + 3 := (on_bd y k).2
  have b : ny y + 3 < on (y + 1) k := by omega
  have g := wk_in a b
  refine ⟨g.1, ?_⟩
  rw [g.2]
  unfold on
  omega
theorem wk_4b (y k : Int) (k1 : 0 ≤ k) (k2 : k ≤ 6) : wky (ny (y + 1) + 3 - 7) k = y ∧ wkn (ny (y + 1) + 3 - 7) k = wks y k := by
  have c := ny_mono y (y + 1) (by omega)
  have o := on_bd y k
  have p := on_bd (y + 1) k
  have a : on y k ≤ ny (y + 1) + 3 - 7 := by omega
  have b : ny (y + 1) + 3 - 7 < on (y + 1) k := by unfold on; omega
  have g := wk_in a b
  refine ⟨g.1, ?_⟩
  rw [g.2, wks_eq]
  unfold on wd
  omega
theorem wks_bd (y k : Int) (k1 : 0 ≤ k) (k2 : k ≤ 6) : wks y k = 52 ∨ wks y k = 53 := by
  have c := ny_succ y
  have d := lp_01 y
  unfold wks wd
  omega
theorem yr_last {y : Int} : yr (ny (y + 1) - 1) = y := by
  have c := ny_mono y (y + 1) (by omega)
  exact yr_of _ _ (by omega) (by omega)
end Go.Proofs.YtkkmhjplfpdhcaaGreatDoor.Cv
