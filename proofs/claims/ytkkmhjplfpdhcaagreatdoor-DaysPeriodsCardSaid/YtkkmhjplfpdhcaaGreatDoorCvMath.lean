/- The plain arithmetic of the proleptic Gregorian calendar, no Go in sight: leap years, lengths of months, numbers of days, weeks, months on, nth weekdays. Conditions stand at each lemma. -/
namespace Go.Proofs.YtkkmhjplfpdhcaaGreatDoor.Cv

def leap (y : Int) : Bool := y % 4 == 0 && (y % 100 != 0 || y % 400 == 0)
def lp (y : Int) : Int := if leap y = true then 1 else 0
def len (y m : Int) : Int :=
  if m = 2 then 28 + lp y else if m = 4 ∨ m = 6 ∨ m = 9 ∨ m = 11 then 30 else if 1 ≤ m ∧ m ≤ 12 then 31 else 0
def valid (y m d : Int) : Bool := decide (1 ≤ y ∧ y ≤ 9999 ∧ 1 ≤ d ∧ d ≤ len y m)
def ny (y : Int) : Int := 365 * y + (y + 3) / 4 - (y + 99) / 100 + (y + 399) / 400 - 719528
def ah (y m : Int) : Int := (367 * m - 362) / 12 - (if m ≤ 2 then 0 else 2 - lp y)
def num (y m d : Int) : Int := ny y + ah y m + d - 1
def yr (n : Int) : Int :=
  if n < ny ((n + 719528) * 400 / 146097) then (n + 719528) * 400 / 146097 - 1
  else if ny ((n + 719528) * 400 / 146097 + 1) ≤ n then (n + 719528) * 400 / 146097 + 1 else (n + 719528) * 400 / 146097
def mo (y a : Int) : Int := if ah y (a / 31 + 1 + 1) ≤ a then a / 31 + 1 + 1 else a / 31 + 1
def isday (n : Int) : Bool := decide (-719162 ≤ n ∧ n ≤ 2932896)
def isyear (y : Int) : Bool := decide (1 ≤ y ∧ y ≤ 9999)
def ismonth (m : Int) : Bool := decide (1 ≤ m ∧ m ≤ 12)
def isweekday (m : Int) : Bool := decide (0 ≤ m ∧ m ≤ 6)
def wd (n : Int) : Int := (n + 3) % 7
def mon (n : Int) : Int := mo (yr n) (n - ny (yr n))
def dom (n : Int) : Int := n - ny (yr n) - ah (yr n) (mon n) + 1
def fo (n k : Int) : Int := n - (wd n - k) % 7 + 3
def wky (n k : Int) : Int := yr (fo n k)
def wkn (n k : Int) : Int := (fo n k - ny (yr (fo n k))) / 7 + 1
def wks (y k : Int) : Int := (ny (y + 1) - 1 - (ny y + (k + 3 - wd (ny y)) % 7)) / 7 + 1
def on (y k : Int) : Int := ny y + 3 - (wd (ny y + 3) - k) % 7
def cnt (y m x j : Int) : Int := (j + 5 - (x - wd (ny y + ah y m)) % 7) / 7
def lst (y m x j : Int) : Int := if cnt y m x j = 0 then 0 else 1 + (x - wd (ny y + ah y m)) % 7 + 7 * (cnt y m x j - 1)
def nth (y m k d : Int) : Int :=
  if len y m < 1 + (d - wd (ny y + ah y m)) % 7 + 7 * (k - 1) then 1 + (d - wd (ny y + ah y m)) % 7 + 7 * (k - 1) - 7
  else 1 + (d - wd (ny y + ah y m)) % 7 + 7 * (k - 1)

theorem lp_01 (y : Int) : 0 ≤ lp y ∧ lp y ≤ 1 := by unfold lp; split <;> omega
theorem lp_def (y : Int) : (lp y = 1 ∧ y % 4 = 0 ∧ (y % 100 ≠ 0 ∨ y % 400 = 0)) ∨ (lp y = 0 ∧ ¬ (y % 4 = 0 ∧ (y % 100 ≠ 0 ∨ y % 400 = 0))) := by
  unfold lp
  by_cases h : leap y = true
  · left
    rw [if_pos h]
    simpa [leap] using h
  · right
    rw [if_neg h]
    simpa [leap] using h
theorem ny_succ (y : Int) : ny (y + 1) = ny y + 365 + lp y := by
  have h := lp_def y
  unfold ny
  omega
theorem ny_lo (y k : Int) (hk : 0 ≤ k) : ny y + 365 * k ≤ ny (y + k) := by unfold ny; omega
theorem ny_mono (a b : Int) (h : a ≤ b) : ny a + 365 * (b - a) ≤ ny b := by
  have := ny_lo a (b - a) (by omega)
  rwa [show a + (b - a) = b from by omega] at this
theorem ny_bd (y : Int) (h0 : 0 ≤ y) (h1 : y ≤ 10001) : -719528 ≤ ny y ∧ ny y ≤ 2933263 := by unfold ny; omega
theorem ny_old (y : Int) : 365 * (y - 1) + (y - 1) / 4 - (y - 1) / 100 + (y - 1) / 400 - 719162 = ny y := by unfold ny; omega
theorem guess (n y : Int) (a : 146097 * y ≤ 400 * (n + 719528)) (b : 400 * (n + 719528) < 146097 * (y + 1)) : ny (y - 1) ≤ n ∧ n < ny (y + 2) := by
  unfold ny; omega
theorem yr_spec (n : Int) : ny (yr n) ≤ n ∧ n < ny (yr n + 1) := by
  have g := guess n ((n + 719528) * 400 / 146097) (by omega) (by omega)
  unfold yr
  generalize (n + 719528) * 400 / 146097 = y at *
  split
  · exact ⟨g.1, by rwa [show y - 1 + 1 = y from by omega]⟩
  · split
    · exact ⟨by assumption, by rw [show y + 1 + 1 = y + 2 from by omega]; exact g.2⟩
    · omega
theorem yr_of (n y : Int) (a : ny y ≤ n) (b : n < ny (y + 1)) : yr n = y := by
  have ⟨c, d⟩ := yr_spec n
  by_cases e : yr n < y
  · have := ny_mono (yr n + 1) y (by omega); omega
  · by_cases e' : y < yr n
    · have := ny_mono (y + 1) (yr n) (by omega); omega
    · omega
theorem yr_bd (n : Int) (h0 : -719528 ≤ n) (h1 : n ≤ 2932899) : 0 ≤ yr n ∧ yr n ≤ 10000 := by
  have ⟨c, d⟩ := yr_spec n
  unfold ny at c d
  omega
theorem yr_day (n : Int) (h0 : -719162 ≤ n) (h1 : n ≤ 2932896) : 1 ≤ yr n ∧ yr n ≤ 9999 := by
  have ⟨c, d⟩ := yr_spec n
  unfold ny at c d
  omega
theorem ah_one (y : Int) : ah y 1 = 0 := by unfold ah; simp
theorem len_bd (y m : Int) : 0 ≤ len y m ∧ len y m ≤ 31 := by
  have := lp_01 y
  unfold len; split <;> (try split) <;> (try split) <;> omega
theorem len_lo (y m : Int) (h1 : 1 ≤ m) (h2 : m ≤ 12) : 28 ≤ len y m := by
  have := lp_01 y
  unfold len; split <;> (try split) <;> (try split) <;> omega
theorem len_no (y m : Int) (h : ¬ (1 ≤ m ∧ m ≤ 12)) : len y m = 0 := by
  unfold len; split <;> (try split) <;> (try split) <;> omega
theorem ah_succ (y m : Int) (h1 : 1 ≤ m) (h2 : m ≤ 12) : ah y (m + 1) = ah y m + len y m := by
  have hl := lp_01 y
  have hm : m = 1 ∨ m = 2 ∨ m = 3 ∨ m = 4 ∨ m = 5 ∨ m = 6 ∨ m = 7 ∨ m = 8 ∨ m = 9 ∨ m = 10 ∨ m = 11 ∨ m = 12 := by omega
  rcases hm with rfl | rfl | rfl | rfl | rfl | rfl | rfl | rfl | rfl | rfl | rfl | rfl <;> simp [ah, len] <;> omega
theorem ah_end (y : Int) : ah y 13 = 365 + lp y := by
  have hl := lp_01 y
  simp [ah]; omega
theorem ah_bd (y m : Int) (h1 : 1 ≤ m) (h2 : m ≤ 13) : 0 ≤ ah y m ∧ ah y m ≤ 366 := by
  have hl := lp_01 y
  unfold ah; split <;> omega
theorem ah_mono (y a b : Int) (h1 : 1 ≤ a) (h : a ≤ b) : ah y a ≤ ah y b := by
  have hl := lp_01 y
  unfold ah; split <;> split <;> omega
theorem mo_spec (y a : Int) (h0 : 0 ≤ a) (h1 : a < 365 + lp y) : 1 ≤ mo y a ∧ mo y a ≤ 12 ∧ ah y (mo y a) ≤ a ∧ a < ah y (mo y a + 1) := by
  have hl := lp_01 y
  unfold mo ah
  split <;> (repeat' split) <;> (try split at *) <;> omega
theorem mo_of (y a m : Int) (h0 : 0 ≤ a) (h1 : a < 365 + lp y) (h2 : 1 ≤ m) (b : ah y m ≤ a) (c : a < ah y (m + 1)) : mo y a = m := by
  have ⟨d, e, f, g⟩ := mo_spec y a h0 h1
  by_cases k : mo y a < m
  · have := ah_mono y (mo y a + 1) m (by omega) (by omega); omega
  · by_cases k' : m < mo y a
    · have := ah_mono y (m + 1) (mo y a) (by omega) (by omega); omega
    · omega
theorem in_year (n : Int) : 0 ≤ n - ny (yr n) ∧ n - ny (yr n) < 365 + lp (yr n) := by
  have ⟨a, b⟩ := yr_spec n
  have c := ny_succ (yr n)
  omega
theorem yr_1 {n : Int} (c : n < ny ((n + 719528) * 400 / 146097)) : yr n = (n + 719528) * 400 / 146097 - 1 := by unfold yr; rw [if_pos c]
theorem yr_2 {n : Int} (c : ¬ n < ny ((n + 719528) * 400 / 146097)) (d : ny ((n + 719528) * 400 / 146097 + 1) ≤ n) : yr n = (n + 719528) * 400 / 146097 + 1 := by unfold yr; rw [if_neg c, if_pos d]
theorem yr_3 {n : Int} (c : ¬ n < ny ((n + 719528) * 400 / 146097)) (d : ¬ ny ((n + 719528) * 400 / 146097 + 1) ≤ n) : yr n = (n + 719528) * 400 / 146097 := by unfold yr; rw [if_neg c, if_neg d]
theorem nth_1 {y m k d : Int} (c : len y m < 1 + (d - wd (ny y + ah y m)) % 7 + 7 * (k - 1)) : nth y m k d = 1 + (d - wd (ny y + ah y m)) % 7 + 7 * (k - 1) - 7 := by unfold nth; rw [if_pos c]
theorem nth_2 {y m k d : Int} (c : ¬ len y m < 1 + (d - wd (ny y + ah y m)) % 7 + 7 * (k - 1)) : nth y m k d = 1 + (d - wd (ny y + ah y m)) % 7 + 7 * (k - 1) := by unfold nth; rw [if_neg c]
theorem div_bd (n b : Int) (h : 0 ≤ n) (hb : 1 ≤ b) : 0 ≤ n / b ∧ n / b ≤ n :=
  ⟨Int.ediv_nonneg h (by omega), Int.ediv_le_self b h⟩
theorem tdiv_neg (n b : Int) (h : n < 0) : n.tdiv b = -((-n) / b) ∧ n.tmod b = -((-n) % b) := by
  have e := Int.tmod_eq_emod_of_nonneg (a := -n) (b := b) (by omega)
  have f := Int.tdiv_eq_ediv_of_nonneg (a := -n) (b := b) (by omega)
  rw [Int.neg_tmod] at e
  rw [Int.neg_tdiv] at f
  omega
theorem tdiv_bd (n b : Int) (h : n < 0) (hb : 1 ≤ b) : n ≤ n.tdiv b ∧ n.tdiv b ≤ 0 := by
  rw [(tdiv_neg n b h).1]
  have := div_bd (-n) b (by omega) hb
  omega
theorem down_1 (n b : Int) (h : n < 0) (hb : 1 ≤ b) (hz : n.tmod b < 0) : n / b = n.tdiv b - 1 := by
  obtain ⟨e, f⟩ := tdiv_neg n b h
  rw [f] at hz
  rw [e]
  have m1 := Int.mul_ediv_add_emod (-n) b
  have m2 := Int.mul_ediv_add_emod n b
  have r1 := Int.emod_lt_of_pos n (b := b) (by omega)
  have r2 := Int.emod_nonneg n (b := b) (by omega)
  have r3 := Int.emod_lt_of_pos (-n) (b := b) (by omega)
  have key : b * (n / b + (-n) / b) = -(n % b + (-n) % b) := by rw [Int.mul_add]; omega
  have lo : -1 ≤ n / b + (-n) / b := by
    by_cases g : n / b + (-n) / b ≤ -2
    · have : b * (n / b + (-n) / b) ≤ b * (-2) := Int.mul_le_mul_of_nonneg_left g (by omega)
      omega
    · omega
  have hi : n / b + (-n) / b ≤ -1 := by
    by_cases g : 0 ≤ n / b + (-n) / b
    · have : b * 0 ≤ b * (n / b + (-n) / b) := Int.mul_le_mul_of_nonneg_left g (by omega)
      omega
    · omega
  omega
theorem down_2 (n b : Int) (h : n < 0) (hb : 1 ≤ b) (hz : ¬ n.tmod b < 0) : n / b = n.tdiv b := by
  obtain ⟨e, f⟩ := tdiv_neg n b h
  rw [f] at hz
  rw [e]
  have r4 := Int.emod_nonneg (-n) (b := b) (by omega)
  have z : (-n) % b = 0 := by omega
  have d : b ∣ n := by
    have := Int.dvd_of_emod_eq_zero z
    rwa [Int.dvd_neg] at this
  rw [Int.neg_ediv_of_dvd d]
  omega
theorem valid_dec {y d : Int} (h1 : 1 ≤ y) (h2 : y ≤ 9999) (h3 : 1 ≤ d) (m : Int) : valid y m d = decide (d ≤ len y m) := by
  unfold valid; simp [h1, h2, h3]
theorem yr_ge {n y : Int} (h : ny (y + 1) ≤ n) : y + 1 ≤ yr n := by
  have ⟨a, b⟩ := yr_spec n
  by_cases c : yr n ≤ y
  · have := ny_mono (yr n + 1) (y + 1) (by omega); omega
  · omega
theorem yr_le {n y : Int} (h : y ≤ yr n) (g : ¬ ny (y + 1) ≤ n) : y = yr n := by
  have ⟨a, b⟩ := yr_spec n
  by_cases c : y < yr n
  · have := ny_mono (y + 1) (yr n) (by omega); omega
  · omega
theorem start_le (n : Int) (h1 : -719162 ≤ n) : (n + 719162) / 366 + 1 ≤ yr n := by
  have : ny ((n + 719162) / 366 + 1) ≤ n := by unfold ny; omega
  have e : (n + 719162) / 366 + 1 = ((n + 719162) / 366) + 1 := rfl
  exact yr_ge (y := (n + 719162) / 366) this
theorem month_lt {n y m : Int} (hm : m ≤ 12) (b : n - ny y < 365 + lp y) (d : len y m ≤ n - ny y - ah y m) (hm1 : 1 ≤ m) : m < 12 := by
  by_cases e : m = 12
  · subst e
    have := ah_succ y 12 (by decide) (by decide)
    have h := ah_end y
    rw [show (12 : Int) + 1 = 13 from rfl] at this
    omega
  · omega
theorem mon_eq {n y m : Int} (e : y = yr n) (h1 : 1 ≤ m) (h2 : m ≤ 12) (a : 0 ≤ n - ny y - ah y m) (b : ¬ len y m ≤ n - ny y - ah y m) :
    mon n = m ∧ dom n = n - ny y - ah y m + 1 := by
  have c := in_year n
  have s := ah_succ y m h1 h2
  subst e
  have g : mon n = m := mo_of _ _ _ (by omega) (by omega) h1 (by omega) (by omega)
  exact ⟨g, by unfold dom; rw [g]⟩
theorem on_bd (y k : Int) : ny y - 3 ≤ on y k ∧ on y k ≤ ny y + 3 := by unfold on; omega
theorem on_le (y k : Int) : on y k ≤ on (y + 1) k := by
  have a := on_bd y k
  have b := on_bd (y + 1) k
  have c := ny_mono y (y + 1) (by omega)
  omega
theorem fo_in (n y k : Int) : ny y ≤ fo n k ↔ on y k ≤ n := by unfold fo on wd; omega
theorem wk_in {n y k : Int} (a : on y k ≤ n) (b : n < on (y + 1) k) : wky n k = y ∧ wkn n k = (n - on y k) / 7 + 1 := by
  have c := (fo_in n y k).2 a
  have d : ¬ ny (y + 1) ≤ fo n k := fun h => by have := (fo_in n (y + 1) k).1 h; omega
  have e : yr (fo n k) = y := yr_of _ _ c (by omega)
  refine ⟨e, ?_⟩
  unfold wkn
  rw [e]
  unfold fo on wd at *
  omega
theorem wk_up {n k : Int} (c : on (yr n + 1) k ≤ n) (_ : 0 ≤ k) (_ : k ≤ 6) : wky n k = yr n + 1 ∧ wkn n k = (n - on (yr n + 1) k) / 7 + 1 := by
  refine wk_in c ?_
  have a := (yr_spec n).2
  have b := on_bd (yr n + 1 + 1) k
  have d := ny_mono (yr n + 1) (yr n + 1 + 1) (by omega)
  omega
theorem wk_down {n k : Int} (c : n < on (yr n) k) (_ : 0 ≤ k) (_ : k ≤ 6) : wky n k = yr n - 1 ∧ wkn n k = (n - on (yr n - 1) k) / 7 + 1 := by
  refine wk_in ?_ (by rwa [show yr n - 1 + 1 = yr n from by omega])
  have a := (yr_spec n).1
  have b := on_bd (yr n - 1) k
  have d := ny_mono (yr n - 1) (yr n) (by omega)
  omega
theorem wk_mid {n k : Int} (c : ¬ on (yr n + 1) k ≤ n) (d : ¬ n < on (yr n) k) (_ : 0 ≤ k) (_ : k ≤ 6) : wky n k = yr n ∧ wkn n k = (n - on (yr n) k) / 7 + 1 :=
  wk_in (by omega) (by omega)
theorem on_low {n k : Int} (_ : n < on (yr n) k) : on (yr n - 1) k ≤ n := by
  have a := (yr_spec n).1
  have b := on_bd (yr n - 1) k
  have d := ny_mono (yr n - 1) (yr n) (by omega)
  omega
theorem wks_eq (y k : Int) : wks y k = (on (y + 1) k - on y k) / 7 := by
  have c := ny_mono y (y + 1) (by omega)
  unfold wks on wd
  omega
theorem valid_one {y m : Int} (h : 1 ≤ y ∧ y ≤ 9999 ∧ 1 ≤ m ∧ m ≤ 12) : valid y m 1 = true := by
  have := len_lo y m h.2.2.1 h.2.2.2
  exact decide_eq_true ⟨h.1, h.2.1, by omega, by omega⟩
theorem valid_none {y m : Int} (h : ¬ (1 ≤ y ∧ y ≤ 9999 ∧ 1 ≤ m ∧ m ≤ 12)) : valid y m 1 = false := by
  refine decide_eq_false fun g => ?_
  have := len_no y m
  omega
def Still (k c : Int) : Prop := k = 5 ∨ c < k
theorem cnt_one (y m x : Int) : cnt y m x 1 = 0 := by unfold cnt; omega
theorem lst_one (y m x : Int) : lst y m x 1 = 0 := by unfold lst; rw [if_pos (cnt_one y m x)]
theorem cnt_bd (y m x j : Int) (h1 : 1 ≤ j) (h2 : j ≤ 32) : 0 ≤ cnt y m x j ∧ cnt y m x j ≤ 5 := by unfold cnt; omega
theorem cnt_yes {y m x j : Int} (h : wd (num y m j) = x) (h1 : 1 ≤ j) : cnt y m x (j + 1) = cnt y m x j + 1 ∧ lst y m x (j + 1) = j := by
  have a : cnt y m x (j + 1) = cnt y m x j + 1 := by unfold cnt wd num at *; omega
  refine ⟨a, ?_⟩
  unfold lst
  rw [if_neg (by rw [a]; have : 0 ≤ cnt y m x j := by unfold cnt; omega
                 omega), a]
  unfold cnt wd num at *
  omega
theorem cnt_no {y m x j : Int} (h : ¬ wd (num y m j) = x) (hx : 0 ≤ x) (hx6 : x ≤ 6) : cnt y m x (j + 1) = cnt y m x j ∧ lst y m x (j + 1) = lst y m x j := by
  have a : cnt y m x (j + 1) = cnt y m x j := by unfold cnt wd num at *; omega
  exact ⟨a, by unfold lst; rw [a]⟩
theorem nth_here {y m x k j : Int} (a : cnt y m x j + 1 = k) (h : wd (num y m j) = x) (hj : j ≤ len y m) : nth y m k x = j := by
  have e : 1 + (x - wd (ny y + ah y m)) % 7 + 7 * (k - 1) = j := by
    rw [← a]; unfold cnt wd num at *; omega
  rw [nth_2 (by rw [e]; omega), e]
theorem nth_end {y m x k j : Int} (e : j = len y m + 1) (l3 : 28 ≤ len y m) (l2 : len y m ≤ 31) (h : k = 5 ∨ cnt y m x j < k) (h6 : k ≤ 5) : nth y m k x = lst y m x j := by
  have k5 : k = 5 := by
    rcases h with h | h
    · exact h
    · unfold cnt at h; omega
  subst k5
  subst e
  unfold lst
  rw [if_neg (by unfold cnt; omega)]
  unfold nth cnt
  split <;> omega
theorem fo_bd (n k : Int) : n - 3 ≤ fo n k ∧ fo n k ≤ n + 3 := by unfold fo; omega
end Go.Proofs.YtkkmhjplfpdhcaaGreatDoor.Cv
