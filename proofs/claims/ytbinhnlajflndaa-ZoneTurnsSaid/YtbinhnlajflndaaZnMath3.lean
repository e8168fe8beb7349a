/- Plain words for package zone: local time and back, by an offset that turns once at most within two days; what voklaw3's laws say of it. Conditions stand at each lemma. -/
import Derived.Test.YtbinhnlajflndaaZnMath2
set_option linter.unusedVariables false
namespace Go.Proofs.Ytbinhnlajflndaa.Zn
open Cv

def utcF (F : Int → Int) (L : Int) : Int :=
  if (L - F (L - 64800)) + F (L - F (L - 64800)) ≠ L ∧ (L - F (L + 64800)) + F (L - F (L + 64800)) = L then L - F (L + 64800) else L - F (L - 64800)
def rutcF (F : Int → Int) (L : Int) : Int :=
  if L = min (L - F (L - 64801)) (L - F (L + 64800)) + F (min (L - F (L - 64801)) (L - F (L + 64800))) then min (L - F (L - 64801)) (L - F (L + 64800))
  else if L = max (L - F (L - 64801)) (L - F (L + 64800)) + F (max (L - F (L - 64801)) (L - F (L + 64800))) then max (L - F (L - 64801)) (L - F (L + 64800))
  else L - F (L - 64801)
def Turn (F : Int → Int) (L t o p : Int) : Prop := ∀ u, L - 64801 ≤ u → u ≤ L + 64800 → (u < t → F u = o) ∧ (t ≤ u → F u = p)
section
variable {F : Int → Int} {L t o p : Int}
theorem turn_at (h : Turn F L t o p) (v : Int) (h1 : L - 64801 ≤ v) (h2 : v ≤ L + 64800) : (v < t ∧ F v = o) ∨ (t ≤ v ∧ F v = p) := by
  obtain ⟨a, b⟩ := h v h1 h2
  by_cases c : v < t
  · exact .inl ⟨c, a c⟩
  · exact .inr ⟨by omega, b (by omega)⟩
theorem utc_same (h : Turn F L t o p) (o1 : -64800 ≤ o) (o2 : o ≤ 64800) (p1 : -64800 ≤ p) (p2 : p ≤ 64800) : utcF F L = rutcF F L := by
  have a := turn_at h (L - 64800) (by omega) (by omega)
  have b := turn_at h (L - 64801) (by omega) (by omega)
  have c := turn_at h (L + 64800) (by omega) (by omega)
  have d := turn_at h (L - o) (by omega) (by omega)
  have e := turn_at h (L - p) (by omega) (by omega)
  unfold utcF rutcF
  rcases a with ⟨a1, a2⟩ | ⟨a1, a2⟩ <;> rcases b with ⟨b1, b2⟩ | ⟨b1, b2⟩ <;> rcases c with ⟨c1, c2⟩ | ⟨c1, c2⟩ <;> simp only [a2, b2, c2] <;>
  rcases d with ⟨d1, d2⟩ | ⟨d1, d2⟩ <;> rcases e with ⟨e1, e2⟩ | ⟨e1, e2⟩ <;>
  rcases Int.le_total (L - o) (L - p) with m | m <;> simp only [Int.min_eq_left m, Int.min_eq_right m, Int.max_eq_left m, Int.max_eq_right m, Int.min_self, Int.max_self, d2, e2] <;>
  (repeat' split) <;> omega
theorem utc_bd (h : Turn F L t o p) (o1 : -64800 ≤ o) (o2 : o ≤ 64800) (p1 : -64800 ≤ p) (p2 : p ≤ 64800) : L - 64800 ≤ utcF F L ∧ utcF F L ≤ L + 64800 := by
  have a := turn_at h (L - 64800) (by omega) (by omega)
  have c := turn_at h (L + 64800) (by omega) (by omega)
  unfold utcF
  rcases a with ⟨a1, a2⟩ | ⟨a1, a2⟩ <;> rcases c with ⟨c1, c2⟩ | ⟨c1, c2⟩ <;> simp only [a2, c2] <;> split <;> omega
theorem utc_back (h : Turn F L t o p) (o1 : -64800 ≤ o) (o2 : o ≤ 64800) (p1 : -64800 ≤ p) (p2 : p ≤ 64800) {u : Int} (hu : u + F u = L) (u1 : -64800 ≤ F u) (u2 : F u ≤ 64800) :
    utcF F L ≤ u ∧ u - utcF F L ≤ 129600 ∧ utcF F L + F (utcF F L) = L := by
  have a := turn_at h (L - 64800) (by omega) (by omega)
  have c := turn_at h (L + 64800) (by omega) (by omega)
  have d := turn_at h (L - o) (by omega) (by omega)
  have e := turn_at h (L - p) (by omega) (by omega)
  have g := turn_at h u (by omega) (by omega)
  unfold utcF
  rcases a with ⟨a1, a2⟩ | ⟨a1, a2⟩ <;> rcases c with ⟨c1, c2⟩ | ⟨c1, c2⟩ <;> simp only [a2, c2] <;>
  rcases d with ⟨d1, d2⟩ | ⟨d1, d2⟩ <;> rcases e with ⟨e1, e2⟩ | ⟨e1, e2⟩ <;> rcases g with ⟨g1, g2⟩ | ⟨g1, g2⟩ <;> simp only [d2, e2] <;> split <;> (try simp only [d2, e2]) <;> omega
theorem utc_gap (h : Turn F L t o p) (o1 : -64800 ≤ o) (o2 : o ≤ 64800) (p1 : -64800 ≤ p) (p2 : p ≤ 64800) (hm : utcF F L + F (utcF F L) ≠ L) :
    utcF F L = L - o ∧ t ≤ L - o ∧ o < p ∧ L - 64800 < t ∧ t + o ≤ L ∧ L < t + p := by
  have a := turn_at h (L - 64800) (by omega) (by omega)
  have c := turn_at h (L + 64800) (by omega) (by omega)
  have d := turn_at h (L - o) (by omega) (by omega)
  have e := turn_at h (L - p) (by omega) (by omega)
  unfold utcF at *
  rcases a with ⟨a1, a2⟩ | ⟨a1, a2⟩ <;> rcases c with ⟨c1, c2⟩ | ⟨c1, c2⟩ <;> simp only [a2, c2] at hm ⊢ <;>
  rcases d with ⟨d1, d2⟩ | ⟨d1, d2⟩ <;> rcases e with ⟨e1, e2⟩ | ⟨e1, e2⟩ <;> simp only [d2, e2] at hm ⊢ <;> split at hm <;> (try simp only [d2, e2] at hm) <;> (try split) <;> omega
end
def mayL (L : Int) : Bool := decide (-62104060800 ≤ L ∧ L ≤ 253370764799)
def utc (b : Int) (l : List Sh) (ys : List Yr) (f L : Int) : Int := utcF (ofs b l ys f) L
section
variable {b : Int} {l : List Sh} {ys : List Yr} {f : Int}
/-- around a local time one shift at most -/
theorem turns (h : mayB b l ys f = true) {L : Int} (hL : mayL L = true) :
    ∃ t o p, Turn (ofs b l ys f) L t o p ∧ -64800 ≤ o ∧ o ≤ 64800 ∧ -64800 ≤ p ∧ p ≤ 64800 ∧
      (L - 64801 < t → ∃ s, Is l ys f s ∧ s.t = t ∧ s.o = p ∧ ofs b l ys f (t - 1) = o ∧ ∀ u, t ≤ u → u ≤ L + 64800 → bef l ys f u = some s) := by
  obtain ⟨l1, l2⟩ := of_decide_eq_true hL
  have may : ∀ u, L - 64801 ≤ u → u ≤ L + 64800 → mayT u = true := fun u p q => decide_eq_true (by omega)
  have h0 : mayT (L - 64801) = true := decide_eq_true (by omega)
  have h1 : mayT (L - 64801 + 172800) = true := decide_eq_true (by omega)
  have bd := ofs_bd h h0
  rcases window h h0 h1 with w | ⟨s, i, s1, s2, w1, w2⟩
  · refine ⟨L - 64801, ofs b l ys f (L - 64801), ofs b l ys f (L - 64801), fun u p q => ⟨fun c => absurd c (by omega), fun c => ?_⟩, bd.1, bd.2, bd.1, bd.2, fun c => absurd c (by omega)⟩
    unfold ofs
    rw [w u p (by omega)]
  · have bs := offB_of (is_may h i).2
    refine ⟨s.t, ofs b l ys f (L - 64801), s.o, fun u p q => ⟨fun c => ?_, fun c => ?_⟩, bd.1, bd.2, bs.1, bs.2, fun c => ⟨s, i, rfl, rfl, ?_, fun u p q => w2 u p (by omega)⟩⟩
    · unfold ofs; rw [w1 u p c]
    · unfold ofs; rw [w2 u c (by omega)]
    · unfold ofs; rw [w1 (s.t - 1) (by omega) (by omega)]
theorem utc_rutc (h : mayB b l ys f = true) {L : Int} (hL : mayL L = true) : rutcF (ofs b l ys f) L = utc b l ys f L := by
  obtain ⟨t, o, p, a, c, d, e, g, _⟩ := turns h hL
  exact (utc_same a c d e g).symm
theorem utc_in (h : mayB b l ys f = true) {L : Int} (hL : mayL L = true) : L - 64800 ≤ utc b l ys f L ∧ utc b l ys f L ≤ L + 64800 := by
  obtain ⟨t, o, p, a, c, d, e, g, _⟩ := turns h hL
  exact utc_bd a c d e g
theorem law_back (h : mayB b l ys f = true) {u : Int} (hu : mayT u = true) (hL : mayL (u + ofs b l ys f u) = true) :
    utc b l ys f (u + ofs b l ys f u) ≤ u ∧ u - utc b l ys f (u + ofs b l ys f u) ≤ 129600 ∧ utc b l ys f (u + ofs b l ys f u) + ofs b l ys f (utc b l ys f (u + ofs b l ys f u)) = u + ofs b l ys f u := by
  obtain ⟨t, o, p, a, c, d, e, g, _⟩ := turns h hL
  have bd := ofs_bd h hu
  exact utc_back a c d e g rfl bd.1 bd.2
theorem law_gap (h : mayB b l ys f = true) {L : Int} (hL : mayL L = true) (hm : utc b l ys f L + ofs b l ys f (utc b l ys f L) ≠ L) :
    ∃ s, bef l ys f (utc b l ys f L) = some s ∧ ofs b l ys f (utc b l ys f L) = s.o ∧ L < utc b l ys f L + s.o ∧ utc b l ys f L + s.o - L = s.o - ofs b l ys f (s.t - 1) ∧ s.t + ofs b l ys f (s.t - 1) ≤ L ∧ L < s.t + s.o ∧ mayT (s.t - 1) = true := by
  obtain ⟨t, o, p, a, c, d, e, g, k⟩ := turns h hL
  obtain ⟨m1, m2, m3, m4, m5, m6⟩ := utc_gap a c d e g hm
  obtain ⟨s, i, rfl, rfl, q, r⟩ := k (by omega)
  obtain ⟨l1, l2⟩ := of_decide_eq_true hL
  have m1' : utc b l ys f L = L - o := m1
  have v := r (utc b l ys f L) (by omega) (by omega)
  refine ⟨s, v, by unfold ofs; rw [v], ?_, ?_, ?_, m6, decide_eq_true (by omega)⟩
  · rw [m1']; omega
  · rw [q, m1']; omega
  · rw [q]; omega
theorem law_first (h : mayB b l ys f = true) {L k : Int} (hL : mayL L = true) (hu : utc b l ys f L + ofs b l ys f (utc b l ys f L) = L) (k1 : 1 ≤ k) (hk : mayT (utc b l ys f L - k) = true) :
    utc b l ys f L - k + ofs b l ys f (utc b l ys f L - k) ≠ L := by
  intro c
  rw [← c] at hL
  have := (law_back h hk hL).1
  rw [c] at this
  omega
end
/-- a shift more at the end -/
theorem bef_more {l : List Sh} {s : Sh} {f u : Int} : bef (l ++ [s]) [] f u = if s.t ≤ u then some s else bef l [] f u := by
  unfold bef befL rows
  by_cases c : s.t ≤ u <;> simp [c]
section
variable {b : Int} {ys : List Yr} {f : Int}
theorem inY_on (r : Yr) (y : Int) : inY r (y + 400) = ⟨(inY r y).t + 12622780800, (inY r y).o⟩ := by
  have e1 : ny (y + 400) = ny y + 146097 := by unfold ny; omega
  have e2 : lp (y + 400) = lp y := by unfold lp leap; simp [show (y + 400) % 4 = y % 4 from by omega, show (y + 400) % 100 = y % 100 from by omega]
  have e3 : ∀ m, ah (y + 400) m = ah y m := fun m => by unfold ah; rw [e2]
  have e4 : ∀ m, len (y + 400) m = len y m := fun m => by unfold len; rw [e2]
  have e5 : ∀ n, wd (n + 146097) = wd n := fun n => by unfold wd; omega
  have e6 : ∀ m k d, nth (y + 400) m k d = nth y m k d := fun m k d => by
    unfold nth; rw [e1, e3, e4, show ny y + 146097 + ah y m = ny y + ah y m + 146097 from by omega, e5]
  unfold inY num
  simp only [e1, e3, e6, Sh.mk.injEq, and_true]
  omega
/-- 400 years on -/
theorem law_years (h : mayB b [] ys f = true) {u : Int} (hu : mayT u = true) (hv : mayT (u + 12622780800) = true) {s : Sh} (hs : bef [] ys f u = some s) :
    bef [] ys f (u + 12622780800) = some ⟨s.t + 12622780800, s.o⟩ := by
  have B := bef_is h hu
  rw [hs] at B
  obtain ⟨i, b1, b2⟩ := B
  refine bef_eq h hv ?_
  rcases i with i | ⟨r, hr, y, y1, y2, rfl⟩
  · cases i
  have iy := in_its_year (yrs_ok h hr) (y + 400)
  rw [inY_on] at iy
  obtain ⟨v1, v2⟩ := mayT_of hv
  have y3 : y + 400 ≤ 9999 := by
    by_cases c : 10000 ≤ y + 400
    · have := ny_mono 10000 (y + 400) c; rw [ny_10000] at this; simp only at iy; omega
    · omega
  refine ⟨.inr ⟨r, hr, y + 400, by omega, y3, (inY_on r y).symm⟩, by simp only; omega, ?_⟩
  rintro s' (i' | ⟨r', hr', y', z1, z2, rfl⟩) hs'
  · cases i'
  by_cases c : f ≤ y' - 400
  · have := b2 (inY r' (y' - 400)) (.inr ⟨r', hr', y' - 400, c, by omega, rfl⟩)
    have e := inY_on r' (y' - 400)
    rw [Int.sub_add_cancel] at e
    rw [e] at hs' ⊢
    simp only at hs' ⊢
    have := this (by omega)
    omega
  · have := year_gap (yrs_ok h hr) (yrs_ok h hr') (y := y') (z := y + 400) (by omega)
    rw [inY_on] at this
    simp only at this ⊢
    omega
end
section
variable {b : Int} {l : List Sh} {ys : List Yr} {f : Int}
/-- how long an offset holds -/
theorem law_shifts (h : mayB b l ys f = true) {u : Int} (hu : mayT u = true) :
    (∀ s, bef l ys f u = some s → s.t ≤ u ∧ mayT s.t = true ∧ ofs b l ys f s.t = s.o) ∧
    (∀ s, aft l ys f u = some s → u < s.t ∧ mayT s.t = true ∧ ofs b l ys f s.t = s.o ∧ mayT (s.t - 1) = true ∧ ofs b l ys f (s.t - 1) = ofs b l ys f u) ∧
    (∀ s s', bef l ys f u = some s → aft l ys f u = some s' → 172800 < s'.t - s.t) := by
  have B := bef_is h hu
  have A := aft_is h hu
  obtain ⟨u1, u2⟩ := mayT_of hu
  have self : ∀ s, Is l ys f s → bef l ys f s.t = some s := fun s i => bef_eq h (is_may h i).1 ⟨i, Int.le_refl _, fun _ _ k => k⟩
  refine ⟨fun s e => ?_, fun s e => ?_, fun s s' e e' => ?_⟩
  · rw [e] at B
    exact ⟨B.2.1, (is_may h B.1).1, by unfold ofs; rw [self s B.1]⟩
  · rw [e] at A
    obtain ⟨i, a1, a2⟩ := A
    have m := (is_may h i).1
    obtain ⟨m1, m2⟩ := mayT_of m
    have m3 : mayT (s.t - 1) = true := decide_eq_true (by omega)
    refine ⟨a1, m, by unfold ofs; rw [self s i], m3, ?_⟩
    have : bef l ys f (s.t - 1) = bef l ys f u := by
      refine bef_eq h m3 ?_
      cases e' : bef l ys f u with
      | none =>
        rw [e'] at B; intro s' hs'
        have := a2 s' hs' (B s' hs'); omega
      | some x =>
        rw [e'] at B
        refine ⟨B.1, by have := B.2.1; omega, fun s' hs' k => ?_⟩
        by_cases c : s'.t ≤ u
        · exact B.2.2 s' hs' c
        · have := a2 s' hs' (by omega); omega
    unfold ofs; rw [this]
  · rw [e] at B; rw [e'] at A
    have := B.2.1
    have := A.2.1
    rcases is_apart h B.1 A.1 with k | k | k
    · subst k; omega
    · omega
    · omega
end
end Go.Proofs.Ytbinhnlajflndaa.Zn
