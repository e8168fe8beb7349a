/- Plain words for package zone, no Go in sight: shifts, yearly shifts, what zone may be, the shift ahead and behind, local time and back. Conditions stand at each lemma. -/
import Derived.Test.YtbinhnlajflndaaCvMath2
set_option linter.unusedVariables false
namespace Go.Proofs.Ytbinhnlajflndaa.Zn
open Cv

structure Sh where
  t : Int
  o : Int
  deriving DecidableEq
structure Yr where
  m : Int
  k : Int
  d : Int
  s : Int
  o : Int
  deriving DecidableEq
def mayT (t : Int) : Bool := decide (-62135596800 ≤ t ∧ t ≤ 253402300799)
def offB (o : Int) : Bool := decide (-64800 ≤ o ∧ o ≤ 64800)
def yrB (r : Yr) : Bool := decide (1 ≤ r.m ∧ r.m ≤ 12 ∧ 1 ≤ r.k ∧ r.k ≤ 5 ∧ 0 ≤ r.d ∧ r.d ≤ 6 ∧ 0 ≤ r.s ∧ r.s ≤ 86399 ∧ -64800 ≤ r.o ∧ r.o ≤ 64800)
def inY (r : Yr) (y : Int) : Sh := ⟨86400 * num y r.m (nth y r.m r.k r.d) + r.s, r.o⟩
def at_ (l : List Sh) (i : Nat) : Sh := l[i]?.getD ⟨0, 0⟩
def okAt (l : List Sh) (i : Nat) : Bool := mayT (at_ l i).t && offB (at_ l i).o && (i == 0 || decide (200000 ≤ (at_ l i).t - (at_ l (i - 1)).t))
def okTo (l : List Sh) (k : Nat) : Bool := (List.range k).all (okAt l)
def shB (l : List Sh) : Bool := decide (l.length ≤ 64) && okTo l l.length
def endB (l : List Sh) (f : Int) : Bool := l.length == 0 || decide (200000 ≤ 86400 * ny f - (at_ l (l.length - 1)).t)
def yrsB (l : List Sh) (ys : List Yr) (f : Int) : Bool := match ys with
  | [] => f == 0
  | [r, q] => yrB r && yrB q && decide (2 ≤ q.m - r.m ∧ q.m - r.m ≤ 10) && decide (1 ≤ f ∧ f ≤ 9999) && endB l f
  | _ => false
def mayB (b : Int) (l : List Sh) (ys : List Yr) (f : Int) : Bool := offB b && shB l && yrsB l ys f
/-- the shifts of a zone -/
def Is (l : List Sh) (ys : List Yr) (f : Int) (s : Sh) : Prop := s ∈ l ∨ ∃ r ∈ ys, ∃ y, f ≤ y ∧ y ≤ 9999 ∧ s = inY r y
/-- as the code looks for it: of the moment's year and the one ahead, then the zone's own, from the end -/
def rows (ys : List Yr) (y : Int) : List Sh := ys.reverse.map (fun r => inY r y)
def year (u : Int) : Int := yr (u / 86400)
def befL (l : List Sh) (ys : List Yr) (f u : Int) : List Sh := (if f ≤ year u then rows ys (year u) else []) ++ (if f ≤ year u - 1 then rows ys (year u - 1) else []) ++ l.reverse
def bef (l : List Sh) (ys : List Yr) (f u : Int) : Option Sh := (befL l ys f u).find? (fun s => decide (s.t ≤ u))
def cols (ys : List Yr) (y : Int) : List Sh := ys.map (fun r => inY r y)
def aftL (l : List Sh) (ys : List Yr) (f u : Int) : List Sh := l ++ (cols ys (max f (year u)) ++ if max f (year u) + 1 ≤ 9999 then cols ys (max f (year u) + 1) else [])
def aft (l : List Sh) (ys : List Yr) (f u : Int) : Option Sh := (aftL l ys f u).find? (fun s => decide (u < s.t))
def ofs (b : Int) (l : List Sh) (ys : List Yr) (f u : Int) : Int := match bef l ys f u with | some s => s.o | none => b

theorem offB_of {o : Int} (h : offB o = true) : -64800 ≤ o ∧ o ≤ 64800 := of_decide_eq_true h
theorem mayT_of {t : Int} (h : mayT t = true) : -62135596800 ≤ t ∧ t ≤ 253402300799 := of_decide_eq_true h
theorem year_may {u : Int} (h : mayT u = true) : 1 ≤ year u ∧ year u ≤ 9999 ∧ 86400 * ny (year u) ≤ u ∧ u < 86400 * ny (year u + 1) := by
  obtain ⟨h1, h2⟩ := mayT_of h
  have a := yr_day (u / 86400) (by omega) (by omega)
  have b := yr_spec (u / 86400)
  unfold year
  omega
theorem num_month {y m : Int} {k d : Int} (h3 : 1 ≤ m) (h4 : m ≤ 12) (h5 : 1 ≤ k) (h6 : k ≤ 5) : ny y + ah y m ≤ num y m (nth y m k d) ∧ num y m (nth y m k d) < ny y + ah y (m + 1) := by
  have l3 := len_lo y m h3 h4
  have l2 := (len_bd y m).2
  have s := ah_succ y m h3 h4
  have n : 1 ≤ nth y m k d ∧ nth y m k d ≤ len y m := by unfold nth; split <;> omega
  unfold num; omega
theorem in_month {r : Yr} (h : yrB r = true) (y : Int) : 86400 * (ny y + ah y r.m) ≤ (inY r y).t ∧ (inY r y).t < 86400 * (ny y + ah y (r.m + 1)) := by
  obtain ⟨h1, h2, h3, h4, h5, h6, h7, h8, _⟩ := of_decide_eq_true h
  have a := num_month (y := y) (d := r.d) h1 h2 h3 h4
  unfold inY; simp only; omega
theorem in_its_year {r : Yr} (h : yrB r = true) (y : Int) : 86400 * ny y ≤ (inY r y).t ∧ (inY r y).t < 86400 * ny (y + 1) := by
  obtain ⟨h1, h2, _⟩ := of_decide_eq_true h
  have a := in_month h y
  have b := ah_bd y r.m h1 (by omega)
  have c := ah_mono y (r.m + 1) 13 (by omega) (by omega)
  have d := ah_end y
  have e := ny_succ y
  omega
theorem in_gap {r q : Yr} (h : yrB r = true) (g : yrB q = true) (a : 2 ≤ q.m - r.m) (y : Int) : (inY r y).t + 172800 < (inY q y).t := by
  obtain ⟨h1, h2, _⟩ := of_decide_eq_true h
  obtain ⟨g1, g2, _⟩ := of_decide_eq_true g
  have a1 := in_month h y
  have a2 := in_month g y
  have b := ah_mono y (r.m + 1 + 1) q.m (by omega) (by omega)
  have c := ah_succ y (r.m + 1) (by omega) (by omega)
  have d := len_lo y (r.m + 1) (by omega) (by omega)
  omega
theorem next_gap {r q : Yr} (h : yrB r = true) (g : yrB q = true) (a : q.m - r.m ≤ 10) (y : Int) : (inY q y).t + 172800 < (inY r (y + 1)).t := by
  obtain ⟨h1, h2, _⟩ := of_decide_eq_true h
  obtain ⟨g1, g2, _⟩ := of_decide_eq_true g
  have a1 := in_month h (y + 1)
  have a2 := in_month g y
  have e := ny_succ y
  have d := ah_end y
  by_cases c : q.m ≤ 11
  · have b := ah_mono y (q.m + 1) 12 (by omega) (by omega)
    have s := ah_succ y 12 (by decide) (by decide)
    have l := len_lo y 12 (by decide) (by decide)
    have z := ah_bd (y + 1) r.m h1 (by omega)
    rw [show (12 : Int) + 1 = 13 from rfl] at s
    omega
  · have b := ah_mono y (q.m + 1) 13 (by omega) (by omega)
    have s := ah_succ (y + 1) 1 (by decide) (by decide)
    have l := len_lo (y + 1) 1 (by decide) (by decide)
    have z := ah_mono (y + 1) 2 r.m (by omega) (by omega)
    have o := ah_one (y + 1)
    rw [show (1 : Int) + 1 = 2 from rfl] at s
    omega
theorem year_gap {r q : Yr} (h : yrB r = true) (g : yrB q = true) {y z : Int} (c : y < z) : (inY q y).t < (inY r z).t := by
  have a := in_its_year h z
  have b := in_its_year g y
  have d := ny_mono (y + 1) z (by omega)
  omega
/-- what a zone that may be is -/
theorem may_of {b : Int} {l : List Sh} {ys : List Yr} {f : Int} (h : mayB b l ys f = true) :
    (-64800 ≤ b ∧ b ≤ 64800) ∧ l.length ≤ 64 ∧ okTo l l.length = true ∧ ((ys = [] ∧ f = 0) ∨ ∃ r q, ys = [r, q] ∧ yrB r = true ∧ yrB q = true ∧ 2 ≤ q.m - r.m ∧ q.m - r.m ≤ 10 ∧ 1 ≤ f ∧ f ≤ 9999 ∧ endB l f = true) := by
  unfold mayB shB at h
  simp only [Bool.and_eq_true, decide_eq_true_eq] at h
  obtain ⟨⟨h1, h2, h3⟩, h4⟩ := h
  refine ⟨offB_of h1, h2, h3, ?_⟩
  match ys, h4 with
  | [], h4 => exact .inl ⟨rfl, by simpa [yrsB] using h4⟩
  | [r, q], h4 =>
    simp only [yrsB, Bool.and_eq_true, decide_eq_true_eq] at h4
    obtain ⟨⟨⟨⟨a, b⟩, c, d⟩, e, f⟩, g⟩ := h4
    exact .inr ⟨r, q, rfl, a, b, c, d, e, f, g⟩
  | [_], h4 => simp [yrsB] at h4
  | _ :: _ :: _ :: _, h4 => simp [yrsB] at h4
theorem okTo_at {l : List Sh} {k i : Nat} (h : okTo l k = true) (hi : i < k) : mayT (at_ l i).t = true ∧ offB (at_ l i).o = true ∧ (0 < i → 200000 ≤ (at_ l i).t - (at_ l (i - 1)).t) := by
  have := List.all_eq_true.1 h i (by simpa using hi)
  unfold okAt at this
  simp only [Bool.and_eq_true, Bool.or_eq_true, beq_iff_eq, decide_eq_true_eq] at this
  obtain ⟨⟨a, b⟩, c⟩ := this
  exact ⟨a, b, fun h0 => by rcases c with c | c <;> omega⟩
theorem at_get {l : List Sh} {i : Nat} (h : i < l.length) : at_ l i = l[i] := by unfold at_; rw [List.getElem?_eq_getElem h]; rfl
theorem okTo_mono {l : List Sh} (h : okTo l l.length = true) : ∀ (j : Nat) (i : Nat), i < j → j < l.length → (at_ l i).t + 200000 ≤ (at_ l j).t := by
  intro j
  induction j with
  | zero => intro i hi; omega
  | succ j ih =>
    intro i hi hj
    have a := (okTo_at h hj).2.2 (by omega)
    rw [Nat.add_sub_cancel] at a
    by_cases e : i = j
    · subst e; omega
    · have := ih i (by omega) (by omega); omega
theorem mem_at {l : List Sh} {s : Sh} (h : s ∈ l) : ∃ i, i < l.length ∧ at_ l i = s := by
  obtain ⟨i, hi, rfl⟩ := List.getElem_of_mem h
  exact ⟨i, hi, at_get hi⟩
theorem mem_may {l : List Sh} (h : okTo l l.length = true) {s : Sh} (hs : s ∈ l) : mayT s.t = true ∧ offB s.o = true := by
  obtain ⟨i, hi, rfl⟩ := mem_at hs
  exact ⟨(okTo_at h hi).1, (okTo_at h hi).2.1⟩
theorem pair_up {l : List Sh} (h : okTo l l.length = true) : l.Pairwise (fun a b => a.t + 172800 < b.t) := by
  rw [List.pairwise_iff_getElem]
  intro i j hi hj hij
  have := okTo_mono h j i hij hj
  rw [at_get hi, at_get hj] at this
  omega
theorem mem_last {l : List Sh} (h : okTo l l.length = true) {s : Sh} (hs : s ∈ l) {f : Int} (he : endB l f = true) : s.t + 200000 ≤ 86400 * ny f := by
  obtain ⟨i, hi, rfl⟩ := mem_at hs
  unfold endB at he
  simp only [Bool.or_eq_true, beq_iff_eq, decide_eq_true_eq] at he
  rcases he with he | he
  · omega
  · by_cases e : i = l.length - 1
    · subst e; omega
    · have := okTo_mono h (l.length - 1) i (by omega) (by omega); omega
section
variable {b : Int} {l : List Sh} {ys : List Yr} {f : Int}
theorem is_may (h : mayB b l ys f = true) {s : Sh} (hs : Is l ys f s) : mayT s.t = true ∧ offB s.o = true := by
  obtain ⟨_, _, h3, h4⟩ := may_of h
  rcases hs with hs | ⟨r, hr, y, y1, y2, rfl⟩
  · exact mem_may h3 hs
  · rcases h4 with ⟨rfl, _⟩ | ⟨r0, r1, rfl, a, c, d, e, f1, f2, g⟩
    · simp at hr
    · have hy : yrB r = true := by
        simp only [List.mem_cons, List.not_mem_nil, or_false] at hr
        rcases hr with rfl | rfl <;> assumption
      have i := in_its_year hy y
      obtain ⟨g1, g2, g3, g4, g5, g6, g7, g8, g9, g10⟩ := of_decide_eq_true hy
      have m1 := ny_mono 1 y (by omega)
      have m2 := ny_mono (y + 1) 10000 (by omega)
      rw [ny_1] at m1
      rw [ny_10000] at m2
      exact ⟨decide_eq_true (by omega), decide_eq_true ⟨g9, g10⟩⟩
/-- two shifts are the same, or lie more than two days apart -/
theorem is_apart (h : mayB b l ys f = true) {s s' : Sh} (hs : Is l ys f s) (hs' : Is l ys f s') : s = s' ∨ s.t + 172800 < s'.t ∨ s'.t + 172800 < s.t := by
  obtain ⟨_, _, h3, h4⟩ := may_of h
  have both : ∀ (r0 r1 : Yr), yrB r0 = true → yrB r1 = true → 2 ≤ r1.m - r0.m → r1.m - r0.m ≤ 10 → ∀ {r r' : Yr} {y y' : Int}, (r = r0 ∨ r = r1) → (r' = r0 ∨ r' = r1) → y < y' → (inY r y).t + 172800 < (inY r' y').t := by
    intro r0 r1 a c d e r r' y y' hr hr' hy
    have n := next_gap a c e y
    have g0 := in_gap a c d y
    have g1 := in_gap a c d (y + 1)
    have up : ∀ q : Yr, (q = r0 ∨ q = r1) → (inY q (y + 1)).t ≤ (inY q y').t := fun q hq => by
      by_cases e : y' = y + 1
      · subst e; exact Int.le_refl _
      · have hq' : yrB q = true := by rcases hq with rfl | rfl <;> assumption
        have := year_gap hq' hq' (y := y + 1) (z := y') (by omega)
        omega
    have u' := up r' hr'
    have hn : ∀ q : Yr, (q = r0 ∨ q = r1) → (inY q y).t ≤ (inY r1 y).t := fun q hq => by rcases hq with rfl | rfl <;> omega
    have hm : ∀ q : Yr, (q = r0 ∨ q = r1) → (inY r0 (y + 1)).t ≤ (inY q (y + 1)).t := fun q hq => by rcases hq with rfl | rfl <;> omega
    have := hn r hr
    have := hm r' hr'
    omega
  rcases hs with hs | ⟨r, hr, y, y1, y2, rfl⟩
  · rcases hs' with hs' | ⟨r, hr, y, y1, y2, rfl⟩
    · obtain ⟨i, hi, rfl⟩ := mem_at hs
      obtain ⟨j, hj, rfl⟩ := mem_at hs'
      rcases Nat.lt_trichotomy i j with c | rfl | c
      · have := okTo_mono h3 j i c hj; right; left; omega
      · exact .inl rfl
      · have := okTo_mono h3 i j c hi; right; right; omega
    · rcases h4 with ⟨rfl, _⟩ | ⟨r0, r1, rfl, a, c, d, e, f1, f2, g⟩
      · simp at hr
      · have hy : yrB r = true := by
          simp only [List.mem_cons, List.not_mem_nil, or_false] at hr
          rcases hr with rfl | rfl <;> assumption
        have i := in_its_year hy y
        have k := mem_last h3 hs g
        have m := ny_mono f y y1
        right; left; omega
  · rcases h4 with ⟨rfl, _⟩ | ⟨r0, r1, rfl, a, c, d, e, f1, f2, g⟩
    · simp at hr
    · have hr2 : r = r0 ∨ r = r1 := by simpa using hr
      have hy : yrB r = true := by rcases hr2 with rfl | rfl <;> assumption
      rcases hs' with hs' | ⟨r', hr', y', y1', y2', rfl⟩
      · have i := in_its_year hy y
        have k := mem_last h3 hs' g
        have m := ny_mono f y y1
        right; right; omega
      · have hr2' : r' = r0 ∨ r' = r1 := by simpa using hr'
        rcases Int.lt_trichotomy y y' with t | rfl | t
        · right; left; exact both r0 r1 a c d e hr2 hr2' t
        · have g0 := in_gap a c d y
          rcases hr2 with rfl | rfl <;> rcases hr2' with rfl | rfl
          · exact .inl rfl
          · exact .inr (.inl g0)
          · exact .inr (.inr g0)
          · exact .inl rfl
        · right; right; exact both r0 r1 a c d e hr2' hr2 t
end
/-- the last shift not later than u; the first one later -/
def IsBef (S : Sh → Prop) (u : Int) : Option Sh → Prop
  | some s => S s ∧ s.t ≤ u ∧ ∀ s', S s' → s'.t ≤ u → s'.t ≤ s.t
  | none => ∀ s', S s' → u < s'.t
def IsAft (S : Sh → Prop) (u : Int) : Option Sh → Prop
  | some s => S s ∧ u < s.t ∧ ∀ s', S s' → u < s'.t → s.t ≤ s'.t
  | none => ∀ s', S s' → s'.t ≤ u
theorem bef_one {S : Sh → Prop} (hi : ∀ s s', S s → S s' → s.t = s'.t → s = s') {u : Int} : ∀ {x y : Option Sh}, IsBef S u x → IsBef S u y → x = y
  | none, none, _, _ => rfl
  | none, some s, h, g => by have := h s g.1; have := g.2.1; omega
  | some s, none, g, h => by have := h s g.1; have := g.2.1; omega
  | some s, some s', h, g => by rw [hi s s' h.1 g.1 (by have := h.2.2 _ g.1 g.2.1; have := g.2.2 _ h.1 h.2.1; omega)]
theorem aft_one {S : Sh → Prop} (hi : ∀ s s', S s → S s' → s.t = s'.t → s = s') {u : Int} : ∀ {x y : Option Sh}, IsAft S u x → IsAft S u y → x = y
  | none, none, _, _ => rfl
  | none, some s, h, g => by have := h s g.1; have := g.2.1; omega
  | some s, none, g, h => by have := h s g.1; have := g.2.1; omega
  | some s, some s', h, g => by rw [hi s s' h.1 g.1 (by have := h.2.2 _ g.1 g.2.1; have := g.2.2 _ h.1 h.2.1; omega)]
theorem find_bef {S : Sh → Prop} {u : Int} : ∀ {L : List Sh}, L.Pairwise (fun a b => b.t < a.t) → (∀ s ∈ L, S s) → (∀ s, S s → s.t ≤ u → ∃ s' ∈ L, s'.t ≤ u ∧ s.t ≤ s'.t) → IsBef S u (L.find? (fun s => decide (s.t ≤ u)))
  | L, hp, hs, hc => by
    cases hf : L.find? (fun s => decide (s.t ≤ u)) with
    | none =>
      intro s' h'
      rw [List.find?_eq_none] at hf
      by_cases c : u < s'.t
      · exact c
      · obtain ⟨x, hx, h1, h2⟩ := hc s' h' (by omega)
        exact absurd (decide_eq_true h1) (hf x hx)
    | some s =>
      have h1 : s.t ≤ u := by simpa using List.find?_some hf
      obtain ⟨_, as, bs, rfl, hno⟩ := List.find?_eq_some_iff_append.1 hf
      refine ⟨hs _ (by simp), h1, fun s' h' hu => ?_⟩
      obtain ⟨x, hx, x1, x2⟩ := hc s' h' hu
      rw [List.mem_append, List.mem_cons] at hx
      rcases hx with hx | rfl | hx
      · have := hno x hx; simp at this; omega
      · exact x2
      · have := (List.pairwise_cons.1 (List.pairwise_append.1 hp).2.1).1 x hx; omega
theorem find_aft {S : Sh → Prop} {u : Int} : ∀ {L : List Sh}, L.Pairwise (fun a b => a.t < b.t) → (∀ s ∈ L, S s) → (∀ s, S s → u < s.t → ∃ s' ∈ L, u < s'.t ∧ s'.t ≤ s.t) → IsAft S u (L.find? (fun s => decide (u < s.t)))
  | L, hp, hs, hc => by
    cases hf : L.find? (fun s => decide (u < s.t)) with
    | none =>
      intro s' h'
      rw [List.find?_eq_none] at hf
      by_cases c : s'.t ≤ u
      · exact c
      · obtain ⟨x, hx, h1, h2⟩ := hc s' h' (by omega)
        exact absurd (decide_eq_true h1) (hf x hx)
    | some s =>
      have h1 : u < s.t := by simpa using List.find?_some hf
      obtain ⟨_, as, bs, rfl, hno⟩ := List.find?_eq_some_iff_append.1 hf
      refine ⟨hs _ (by simp), h1, fun s' h' hu => ?_⟩
      obtain ⟨x, hx, x1, x2⟩ := hc s' h' hu
      rw [List.mem_append, List.mem_cons] at hx
      rcases hx with hx | rfl | hx
      · have := hno x hx; simp at this; omega
      · exact x2
      · have := (List.pairwise_cons.1 (List.pairwise_append.1 hp).2.1).1 x hx; omega
end Go.Proofs.Ytbinhnlajflndaa.Zn
