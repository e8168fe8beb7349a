/- More plain words for package zone: the code's way to find the shift ahead and behind, and the document's, find the same; where an offset holds; local time and back. Conditions stand at each lemma. -/
import Derived.Test.YtbinhnlajflndaaZnMath
set_option linter.unusedVariables false
namespace Go.Proofs.Ytbinhnlajflndaa.Zn
open Cv

/-- the yearly shifts of n years from a on, in order -/
def run (ys : List Yr) : Int → Nat → List Sh
  | _, 0 => []
  | a, n + 1 => cols ys a ++ run ys (a + 1) n
theorem run_snoc (ys : List Yr) : ∀ (n : Nat) (a : Int), run ys a (n + 1) = run ys a n ++ cols ys (a + n)
  | 0, a => by simp [run]
  | n + 1, a => by
    show cols ys a ++ run ys (a + 1) (n + 1) = cols ys a ++ run ys (a + 1) n ++ cols ys (a + (n + 1 : Nat))
    rw [run_snoc ys n (a + 1), List.append_assoc, show a + 1 + (n : Int) = a + ((n + 1 : Nat) : Int) from by omega]
theorem run_nil : ∀ (n : Nat) (a : Int), run [] a n = []
  | 0, _ => rfl
  | n + 1, a => by show cols [] a ++ run [] (a + 1) n = []; rw [run_nil n]; rfl
theorem mem_run {ys : List Yr} {s : Sh} : ∀ {n : Nat} {a : Int}, s ∈ run ys a n ↔ ∃ y, a ≤ y ∧ y < a + n ∧ ∃ r ∈ ys, s = inY r y
  | 0, a => by simp [run]; intro y h1 h2; omega
  | n + 1, a => by
    show s ∈ cols ys a ++ run ys (a + 1) n ↔ _
    rw [List.mem_append, mem_run]
    constructor
    · rintro (h | ⟨y, h1, h2, h3⟩)
      · obtain ⟨r, hr, e⟩ := List.mem_map.1 h
        exact ⟨a, by omega, by omega, r, hr, e.symm⟩
      · exact ⟨y, by omega, by omega, h3⟩
    · rintro ⟨y, h1, h2, r, hr, e⟩
      by_cases c : y = a
      · subst c; exact .inl (List.mem_map.2 ⟨r, hr, e.symm⟩)
      · exact .inr ⟨y, by omega, by omega, r, hr, e⟩
/-- the document's own list: the zone's, then those of the years around the moment, in order -/
def near (l : List Sh) (ys : List Yr) (f u : Int) : List Sh := l ++ run ys (max f (year u - 1)) (min (max f (year u) + 1) 9999 + 1 - max f (year u - 1)).toNat
def rbef (l : List Sh) (ys : List Yr) (f u : Int) : Option Sh := (near l ys f u).reverse.find? (fun s => decide (s.t ≤ u))
def raft (l : List Sh) (ys : List Yr) (f u : Int) : Option Sh := (near l ys f u).find? (fun s => decide (u < s.t))
section
variable {b : Int} {l : List Sh} {ys : List Yr} {f : Int}
theorem is_inj (h : mayB b l ys f = true) : ∀ s s', Is l ys f s → Is l ys f s' → s.t = s'.t → s = s' := fun s s' hs hs' e => by
  rcases is_apart h hs hs' with a | a | a
  · exact a
  · omega
  · omega
theorem is_yr {r : Yr} (hr : r ∈ ys) {y : Int} (h1 : f ≤ y) (h2 : y ≤ 9999) : Is l ys f (inY r y) := .inr ⟨r, hr, y, h1, h2, rfl⟩
theorem pair_down (h : okTo l l.length = true) : l.reverse.Pairwise (fun a b => b.t < a.t) := by
  rw [List.pairwise_reverse]
  exact (pair_up h).imp (fun h => by omega)
theorem bef_is (h : mayB b l ys f = true) {u : Int} (hu : mayT u = true) : IsBef (Is l ys f) u (bef l ys f u) := by
  obtain ⟨_, _, h3, h4⟩ := may_of h
  obtain ⟨y1, y2, y3, y4⟩ := year_may hu
  have hy : year u = year u := rfl
  revert hy; generalize hY : year u = Y at *; intro hy
  rcases h4 with ⟨rfl, rfl⟩ | ⟨r, q, rfl, a, c, d, e, f1, f2, g⟩
  · refine find_bef ?_ ?_ ?_
    · unfold befL rows; simpa using pair_down h3
    · unfold befL rows; intro s hs; exact .inl (by simpa using hs)
    · intro s hs hsu
      refine ⟨s, ?_, hsu, Int.le_refl _⟩
      rcases hs with hs | ⟨r, hr, _⟩
      · unfold befL rows; simpa using hs
      · simp at hr
  · have g0 := in_gap a c d Y
    have g1 := in_gap a c d (Y - 1)
    have g2 := next_gap a c e (Y - 1)
    rw [Int.sub_add_cancel] at g2
    have i0 := in_its_year a Y
    have i1 := in_its_year a (Y - 1)
    have low : ∀ s ∈ l, s.t + 200000 ≤ 86400 * ny f := fun s hs => mem_last h3 hs g
    have m0 := ny_mono f Y
    have m1 := ny_mono f (Y - 1)
    have z1 := in_its_year c (Y - 1)
    rw [Int.sub_add_cancel] at i1 z1
    unfold bef befL
    rw [hY]
    by_cases k0 : f ≤ Y
    · by_cases k1 : f ≤ Y - 1
      · rw [if_pos k0, if_pos k1]
        refine find_bef ?_ ?_ ?_
        · simp only [rows, List.reverse_cons, List.reverse_nil, List.nil_append, List.cons_append, List.map_cons, List.map_nil, List.pairwise_cons, List.mem_cons, List.mem_reverse, forall_eq_or_imp]
          refine ⟨⟨by omega, by omega, by omega, fun s hs => ?_⟩, ⟨by omega, by omega, fun s hs => ?_⟩, ⟨by omega, fun s hs => ?_⟩, fun s hs => ?_, pair_down h3⟩
          all_goals have := low s hs; omega
        · intro s hs
          simp [rows] at hs
          rcases hs with rfl | rfl | rfl | rfl | hs
          · exact is_yr (by simp) k0 y2
          · exact is_yr (by simp) k0 y2
          · exact is_yr (by simp) k1 (by omega)
          · exact is_yr (by simp) k1 (by omega)
          · exact .inl hs
        · intro s hs hsu
          rcases hs with hs | ⟨r', hr', y', w1, w2, rfl⟩
          · exact ⟨s, by simp [hs], hsu, Int.le_refl _⟩
          · have hr2 : r' = r ∨ r' = q := by simpa using hr'
            have hyr : yrB r' = true := by rcases hr2 with rfl | rfl <;> assumption
            have yi := in_its_year hyr y'
            by_cases t : y' = Y
            · subst t; refine ⟨_, ?_, hsu, Int.le_refl _⟩; rcases hr2 with rfl | rfl <;> simp [rows]
            · by_cases t2 : y' = Y - 1
              · subst t2; refine ⟨_, ?_, hsu, Int.le_refl _⟩; rcases hr2 with rfl | rfl <;> simp [rows]
              · have : y' < Y - 1 := by
                  by_cases t3 : Y + 1 ≤ y'
                  · have := ny_mono (Y + 1) y' t3; omega
                  · omega
                have p := year_gap c hyr this
                exact ⟨inY q (Y - 1), by simp [rows], by omega, by omega⟩
      · obtain rfl : f = Y := by omega
        rw [if_pos k0, if_neg k1]
        refine find_bef ?_ ?_ ?_
        · simp only [rows, List.reverse_cons, List.reverse_nil, List.nil_append, List.append_nil, List.cons_append, List.map_cons, List.map_nil, List.pairwise_cons, List.mem_cons, List.mem_reverse, forall_eq_or_imp]
          refine ⟨⟨by omega, fun s hs => ?_⟩, fun s hs => ?_, pair_down h3⟩
          all_goals have := low s hs; omega
        · intro s hs
          simp [rows] at hs
          rcases hs with rfl | rfl | hs
          · exact is_yr (by simp) k0 y2
          · exact is_yr (by simp) k0 y2
          · exact .inl hs
        · intro s hs hsu
          rcases hs with hs | ⟨r', hr', y', w1, w2, rfl⟩
          · exact ⟨s, by simp [hs], hsu, Int.le_refl _⟩
          · have hr2 : r' = r ∨ r' = q := by simpa using hr'
            have hyr : yrB r' = true := by rcases hr2 with rfl | rfl <;> assumption
            have yi := in_its_year hyr y'
            have t : y' = f := by
              by_cases t3 : f + 1 ≤ y'
              · have := ny_mono (f + 1) y' t3; omega
              · omega
            subst t; refine ⟨_, ?_, hsu, Int.le_refl _⟩; rcases hr2 with rfl | rfl <;> simp [rows]
    · rw [if_neg k0, if_neg (by omega)]
      refine find_bef ?_ ?_ ?_
      · simpa using pair_down h3
      · intro s hs; exact .inl (by simpa using hs)
      · intro s hs hsu
        rcases hs with hs | ⟨r', hr', y', w1, w2, rfl⟩
        · exact ⟨s, by simp [hs], hsu, Int.le_refl _⟩
        · have hr2 : r' = r ∨ r' = q := by simpa using hr'
          have hyr : yrB r' = true := by rcases hr2 with rfl | rfl <;> assumption
          have yi := in_its_year hyr y'
          have := ny_mono (Y + 1) y' (by omega)
          omega
theorem run_pair (h : mayB b l ys f = true) (n : Nat) (a : Int) (hf : f ≤ a) (hn : a + n ≤ 10000) : (l ++ run ys a n).Pairwise (fun a b => a.t < b.t) := by
  obtain ⟨_, _, h3, h4⟩ := may_of h
  rcases h4 with ⟨rfl, rfl⟩ | ⟨r, q, rfl, a0, c, d, e, f1, f2, g⟩
  · rw [run_nil, List.append_nil]
    exact (pair_up h3).imp (fun h => by omega)
  · rw [List.pairwise_append]
    refine ⟨(pair_up h3).imp (fun h => by omega), ?_, ?_⟩
    · clear hf hn
      induction n generalizing a with
      | zero => exact List.Pairwise.nil
      | succ n ih =>
        show (cols [r, q] a ++ run [r, q] (a + 1) n).Pairwise _
        rw [List.pairwise_append]
        refine ⟨?_, ih (a + 1), ?_⟩
        · have := in_gap a0 c d a
          simp [cols]; omega
        · intro x hx y hy
          obtain ⟨z, z1, z2, p, hp, rfl⟩ := mem_run.1 hy
          have hp2 : p = r ∨ p = q := by simpa using hp
          have hpy : yrB p = true := by rcases hp2 with rfl | rfl <;> assumption
          simp [cols] at hx
          rcases hx with rfl | rfl
          · exact year_gap hpy a0 (by omega)
          · exact year_gap hpy c (by omega)
    · intro s hs y hy
      obtain ⟨z, z1, z2, p, hp, rfl⟩ := mem_run.1 hy
      have hp2 : p = r ∨ p = q := by simpa using hp
      have hpy : yrB p = true := by rcases hp2 with rfl | rfl <;> assumption
      have := mem_last h3 hs g
      have := in_its_year hpy z
      have := ny_mono f z (by omega)
      omega
theorem run_sub {n : Nat} {a : Int} (hf : f ≤ a) (hn : a + n ≤ 10000) : ∀ s ∈ l ++ run ys a n, Is l ys f s := fun s hs => by
  rcases List.mem_append.1 hs with hs | hs
  · exact .inl hs
  · obtain ⟨y, y1, y2, r, hr, e⟩ := mem_run.1 hs
    exact .inr ⟨r, hr, y, by omega, by omega, e⟩
theorem yrs_ok (h : mayB b l ys f = true) {r : Yr} (hr : r ∈ ys) : yrB r = true := by
  obtain ⟨_, _, h3, h4⟩ := may_of h
  rcases h4 with ⟨rfl, rfl⟩ | ⟨r0, q, rfl, a0, c, _⟩
  · simp at hr
  · simp only [List.mem_cons, List.not_mem_nil, or_false] at hr
    rcases hr with rfl | rfl <;> assumption
theorem run_bef (h : mayB b l ys f = true) {u : Int} (hu : mayT u = true) {n : Nat} {a : Int} (hf : f ≤ a) (hn : a + n ≤ 10000) (ha : a = f ∨ a < year u) (hb : year u < a + n) : IsBef (Is l ys f) u ((l ++ run ys a n).reverse.find? (fun s => decide (s.t ≤ u))) := by
  obtain ⟨y1, y2, y3, y4⟩ := year_may hu
  refine find_bef (by rw [List.pairwise_reverse]; exact run_pair h n a hf hn) (fun s hs => run_sub hf hn s (List.mem_reverse.1 hs)) ?_
  rintro s (hs | ⟨r, hr, y, w1, w2, rfl⟩) hsu
  · exact ⟨s, by simp [hs], hsu, Int.le_refl _⟩
  · have i := in_its_year (yrs_ok h hr) y
    have hy : y ≤ year u := by
      by_cases c : year u + 1 ≤ y
      · have := ny_mono (year u + 1) y c; omega
      · omega
    by_cases c : a ≤ y
    · exact ⟨_, by rw [List.mem_reverse, List.mem_append]; exact .inr (mem_run.2 ⟨y, c, by omega, r, hr, rfl⟩), hsu, Int.le_refl _⟩
    · have j := in_its_year (yrs_ok h hr) a
      have m := ny_mono (a + 1) (year u) (by omega)
      have g := year_gap (yrs_ok h hr) (yrs_ok h hr) (y := y) (z := a) (by omega)
      exact ⟨inY r a, by rw [List.mem_reverse, List.mem_append]; exact .inr (mem_run.2 ⟨a, by omega, by omega, r, hr, rfl⟩), by omega, by omega⟩
theorem run_aft (h : mayB b l ys f = true) {u : Int} (hu : mayT u = true) {n : Nat} {a : Int} (hf : f ≤ a) (hn : a + n ≤ 10000) (ha : a = f ∨ a ≤ year u) (hb : (year u + 1 < a + n ∧ 0 < n) ∨ a + n = 10000 ∨ (year u < a ∧ 0 < n)) : IsAft (Is l ys f) u ((l ++ run ys a n).find? (fun s => decide (u < s.t))) := by
  obtain ⟨y1, y2, y3, y4⟩ := year_may hu
  refine find_aft (run_pair h n a hf hn) (fun s hs => run_sub hf hn s hs) ?_
  rintro s (hs | ⟨r, hr, y, w1, w2, rfl⟩) hsu
  · exact ⟨s, by simp [hs], hsu, Int.le_refl _⟩
  · have i := in_its_year (yrs_ok h hr) y
    have hy : year u ≤ y := by
      by_cases c : y + 1 ≤ year u
      · have := ny_mono (y + 1) (year u) c; omega
      · omega
    by_cases c : y < a + n
    · exact ⟨_, by rw [List.mem_append]; exact .inr (mem_run.2 ⟨y, by omega, c, r, hr, rfl⟩), hsu, Int.le_refl _⟩
    · have j := in_its_year (yrs_ok h hr) (max a (year u + 1))
      have m := ny_mono (year u + 1) (max a (year u + 1)) (by omega)
      have g : (inY r (max a (year u + 1))).t ≤ (inY r y).t := by
        by_cases e : max a (year u + 1) = y
        · rw [e]; exact Int.le_refl _
        · have := year_gap (yrs_ok h hr) (yrs_ok h hr) (y := max a (year u + 1)) (z := y) (by omega); omega
      exact ⟨inY r (max a (year u + 1)), by rw [List.mem_append]; exact .inr (mem_run.2 ⟨_, by omega, by omega, r, hr, rfl⟩), by omega, g⟩
theorem frm_bd (h : mayB b l ys f = true) : 0 ≤ f ∧ f ≤ 9999 := by
  obtain ⟨_, _, h3, h4⟩ := may_of h
  rcases h4 with ⟨_, rfl⟩ | ⟨r0, q, _, _, _, _, _, f1, f2, _⟩ <;> omega
theorem rbef_is (h : mayB b l ys f = true) {u : Int} (hu : mayT u = true) : IsBef (Is l ys f) u (rbef l ys f u) := by
  obtain ⟨y1, y2, _⟩ := year_may hu
  obtain ⟨f1, f2⟩ := frm_bd h
  exact run_bef h hu (by omega) (by omega) (by omega) (by omega)
theorem raft_is (h : mayB b l ys f = true) {u : Int} (hu : mayT u = true) : IsAft (Is l ys f) u (raft l ys f u) := by
  obtain ⟨y1, y2, _⟩ := year_may hu
  obtain ⟨f1, f2⟩ := frm_bd h
  exact run_aft h hu (by omega) (by omega) (by omega) (by omega)
theorem aftL_run {u : Int} (f2 : f ≤ 9999) (y2 : year u ≤ 9999) : aftL l ys f u = l ++ run ys (max f (year u)) (min (max f (year u) + 1) 9999 + 1 - max f (year u)).toNat := by
  unfold aftL
  by_cases c : max f (year u) + 1 ≤ 9999
  · rw [if_pos c, show (min (max f (year u) + 1) 9999 + 1 - max f (year u)).toNat = 2 from by omega]; simp [run]
  · rw [if_neg c, show (min (max f (year u) + 1) 9999 + 1 - max f (year u)).toNat = 1 from by omega]; simp [run]
theorem aft_is (h : mayB b l ys f = true) {u : Int} (hu : mayT u = true) : IsAft (Is l ys f) u (aft l ys f u) := by
  obtain ⟨y1, y2, _⟩ := year_may hu
  obtain ⟨f1, f2⟩ := frm_bd h
  unfold aft
  rw [aftL_run f2 y2]
  exact run_aft h hu (by omega) (by omega) (by omega) (by omega)
theorem bef_rbef (h : mayB b l ys f = true) {u : Int} (hu : mayT u = true) : rbef l ys f u = bef l ys f u := bef_one (is_inj h) (rbef_is h hu) (bef_is h hu)
theorem aft_raft (h : mayB b l ys f = true) {u : Int} (hu : mayT u = true) : raft l ys f u = aft l ys f u := aft_one (is_inj h) (raft_is h hu) (aft_is h hu)
theorem bef_eq (h : mayB b l ys f = true) {u : Int} (hu : mayT u = true) {x : Option Sh} (hx : IsBef (Is l ys f) u x) : bef l ys f u = x := bef_one (is_inj h) (bef_is h hu) hx
theorem aft_eq (h : mayB b l ys f = true) {u : Int} (hu : mayT u = true) {x : Option Sh} (hx : IsAft (Is l ys f) u x) : aft l ys f u = x := aft_one (is_inj h) (aft_is h hu) hx
theorem ofs_bd (h : mayB b l ys f = true) {u : Int} (hu : mayT u = true) : -64800 ≤ ofs b l ys f u ∧ ofs b l ys f u ≤ 64800 := by
  have := bef_is h hu
  unfold ofs
  cases e : bef l ys f u with
  | none => exact (may_of h).1
  | some s => rw [e] at this; exact offB_of (is_may h this.1).2
/-- of two days and a little more, one shift at most lies in them -/
theorem window (h : mayB b l ys f = true) {u0 : Int} (h0 : mayT u0 = true) (h1 : mayT (u0 + 172800) = true) :
    (∀ u, u0 ≤ u → u ≤ u0 + 172800 → bef l ys f u = bef l ys f u0) ∨
    ∃ s, Is l ys f s ∧ u0 < s.t ∧ s.t ≤ u0 + 172800 ∧ (∀ u, u0 ≤ u → u < s.t → bef l ys f u = bef l ys f u0) ∧ ∀ u, s.t ≤ u → u ≤ u0 + 172800 → bef l ys f u = some s := by
  obtain ⟨a1, a2⟩ := mayT_of h0
  obtain ⟨c1, c2⟩ := mayT_of h1
  have may : ∀ u, u0 ≤ u → u ≤ u0 + 172800 → mayT u = true := fun u p q => decide_eq_true (by omega)
  have B := bef_is h h0
  have A := aft_is h h0
  have stay : ∀ u, u0 ≤ u → u ≤ u0 + 172800 → (∀ s', Is l ys f s' → u0 < s'.t → u < s'.t) → bef l ys f u = bef l ys f u0 := fun u p q no => by
    refine bef_eq h (may u p q) ?_
    cases e : bef l ys f u0 with
    | none => rw [e] at B; intro s' hs'; exact no s' hs' (B s' hs')
    | some s =>
      rw [e] at B
      refine ⟨B.1, by have := B.2.1; omega, fun s' hs' hu => ?_⟩
      by_cases k : s'.t ≤ u0
      · exact B.2.2 s' hs' k
      · have := no s' hs' (by omega); omega
  cases e : aft l ys f u0 with
  | none =>
    rw [e] at A
    exact .inl fun u p q => stay u p q fun s' hs' hk => by have := A s' hs'; omega
  | some s =>
    rw [e] at A
    by_cases k : s.t ≤ u0 + 172800
    · right
      refine ⟨s, A.1, A.2.1, k, fun u p q => stay u p (by omega) fun s' hs' hk => by have := A.2.2 s' hs' hk; omega, fun u p q => ?_⟩
      have := A.2.1
      refine bef_eq h (may u (by omega) q) ⟨A.1, p, fun s' hs' hu => ?_⟩
      rcases is_apart h A.1 hs' with rfl | g | g <;> omega
    · exact .inl fun u p q => stay u p q fun s' hs' hk => by have := A.2.2 s' hs' hk; omega
end
end Go.Proofs.Ytbinhnlajflndaa.Zn
