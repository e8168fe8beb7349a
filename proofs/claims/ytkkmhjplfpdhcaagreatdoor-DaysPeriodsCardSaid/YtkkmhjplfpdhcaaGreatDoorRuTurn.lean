/- Plain mathematics of recurrence rules: how long a text is; parts turned round; rules with more and with less. -/
import Derived.Test.YtkkmhjplfpdhcaaGreatDoorRuBack
set_option linter.unusedVariables false
namespace Go.Proofs.YtkkmhjplfpdhcaaGreatDoor.Ru
open Go.Proofs.YtkkmhjplfpdhcaaGreatDoor.Fd

-- how long a text is
theorem sep_len {c : UInt8} : ∀ (ps : List (List UInt8)), (sep c ps).length ≤ (ps.map fun p => p.length + 1).sum
  | [] => by simp [sep]
  | [p] => by simp [sep]
  | p :: q :: ps => by
    have := sep_len (c := c) (q :: ps)
    rw [sep_cons, List.length_append, List.length_cons]
    simp only [List.map_cons, List.sum_cons] at this ⊢
    omega
theorem itoa_len4 {n : Int} (h1 : -999 ≤ n) (h2 : n ≤ 999) : (Lib.itoa n).length ≤ 4 := by
  unfold Lib.itoa
  split
  · have := dec_len (k := 3) (n := n.natAbs) (by decide) (by show n.natAbs < 1000; omega)
    simp; omega
  · have := dec_len (k := 3) (n := n.toNat) (by decide) (by show n.toNat < 1000; omega)
    omega
theorem itoa_len9 {n : Int} (h1 : -999999999 ≤ n) (h2 : n ≤ 999999999) : (Lib.itoa n).length ≤ 10 := by
  unfold Lib.itoa
  split
  · have := dec_len (k := 9) (n := n.natAbs) (by decide) (by show n.natAbs < 1000000000; omega)
    simp; omega
  · have := dec_len (k := 9) (n := n.toNat) (by decide) (by show n.toNat < 1000000000; omega)
    omega
theorem comma_len {l : List Int} {k : Nat} (h : ∀ x ∈ l, (Lib.itoa x).length ≤ k) : (commaL l).length ≤ l.length * (k + 1) := by
  unfold commaL
  have := len_sep (c := 44) (ps := l.map Lib.itoa) (k := k) (fun p hp => by obtain ⟨x, hx, rfl⟩ := List.mem_map.1 hp; exact h x hx)
  rwa [List.length_map] at this
theorem comma_in {l : List Int} {lo hi : Int} {z : Bool} (h : inB l lo hi z = true) (h1 : -999 ≤ lo) (h2 : hi ≤ 999) : (commaL l).length ≤ 300 := by
  obtain ⟨a, b, -⟩ := inB_of h
  have := comma_len (l := l) (k := 4) fun x hx => by have := a x hx; exact itoa_len4 (by omega) (by omega)
  have : l.length * 5 ≤ 60 * 5 := Nat.mul_le_mul_right 5 b
  omega
theorem name_len : ∀ k : Fin 14, (nameK k.val).length ≤ 10 := by decide
theorem freq_len : ∀ k : Fin 8, (freqW k.val).length ≤ 8 := by decide
theorem days_len {l : List Dy} (h : dayB l = true) : (sep 44 (l.map dayT)).length ≤ 420 := by
  obtain ⟨a, b, -⟩ := dayB_of h
  have := len_sep (c := 44) (ps := l.map dayT) (k := 6) (fun p hp => by
    obtain ⟨d, hd, rfl⟩ := List.mem_map.1 hp
    have := a d hd
    have w := wday_len ⟨d.w.toNat, by omega⟩
    simp only at w
    have i := itoa_len4 (n := d.n) (by omega) (by omega)
    unfold dayT
    rw [List.length_append, w]
    split
    · simp
    · omega)
  rw [List.length_map] at this
  have : l.length * 7 ≤ 60 * 7 := Nat.mul_le_mul_right 7 b
  omega
theorem text_len15 {t : Int} : (St.text t).length = 15 := rfl
theorem part_len {kv : Nat × List UInt8} (h : kv.1 < 14) : (partT kv).length ≤ 11 + kv.2.length := by
  have := name_len ⟨kv.1, h⟩
  simp only at this
  unfold partT; rw [List.length_append, List.length_cons]; omega
theorem sum_opt {α : Type} {c : Prop} [Decidable c] (f : α → Nat) (x : α) : ((if c then [] else [x]).map f).sum ≤ f x := by split <;> simp
theorem sum_opt2 {α : Type} {b : Bool} (f : α → Nat) (x : α) : ((if b = true then [x] else []).map f).sum ≤ f x := by split <;> simp
/-- a rule's text is no longer than a text may be -/
theorem ruText_len {r : Ru} (h : mayR r = true) : (ruText r).length ≤ 4096 := by
  obtain ⟨m1, m2, m3, -, -, -, -⟩ := mayR_of h
  obtain ⟨f1, f2, i1, i2, c1, c2, w1, w2⟩ := of_decide_eq_true m1
  obtain ⟨l1, l2, l3, l4, l5, l6, l7, l8, l9⟩ := listB_of m3
  have e := sep_len (c := 59) ((fieldsP r).map partT)
  unfold ruText
  refine Nat.le_trans e ?_
  rw [List.map_map]
  unfold fieldsP listP
  simp only [List.map_append, List.sum_append]
  generalize hF : ((fun p : List UInt8 => p.length + 1) ∘ partT) = F
  have hf : ∀ k v, k < 14 → F (k, v) ≤ 12 + v.length := fun k v hk => by
    rw [← hF]; have := part_len (kv := (k, v)) hk; show (partT (k, v)).length + 1 ≤ _; simp only at this; omega
  have a0 := hf 0 (freqW r.freq.toNat) (by decide)
  have a0' := freq_len ⟨r.freq.toNat, by omega⟩
  have a1 := Nat.le_trans (sum_opt (c := r.itv = 1) F (1, Lib.itoa r.itv)) (hf _ _ (by decide))
  have a1' := itoa_len9 (n := r.itv) (by omega) (by omega)
  have a2 := Nat.le_trans (sum_opt (c := r.cnt = 0) F (2, Lib.itoa r.cnt)) (hf _ _ (by decide))
  have a2' := itoa_len9 (n := r.cnt) (by omega) (by omega)
  have a3 := Nat.le_trans (sum_opt2 (b := r.ends) F (3, St.text r.til)) (hf _ _ (by decide))
  have a3' := text_len15 (t := r.til)
  have a4 := Nat.le_trans (sum_opt (c := r.mon = []) F (4, commaL r.mon)) (hf _ _ (by decide))
  have a4' := comma_in l1 (by decide) (by decide)
  have a5 := Nat.le_trans (sum_opt (c := r.week = []) F (5, commaL r.week)) (hf _ _ (by decide))
  have a5' := comma_in l2 (by decide) (by decide)
  have a6 := Nat.le_trans (sum_opt (c := r.yday = []) F (6, commaL r.yday)) (hf _ _ (by decide))
  have a6' := comma_in l3 (by decide) (by decide)
  have a7 := Nat.le_trans (sum_opt (c := r.mday = []) F (7, commaL r.mday)) (hf _ _ (by decide))
  have a7' := comma_in l4 (by decide) (by decide)
  have a8 := Nat.le_trans (sum_opt (c := r.day = []) F (8, sep 44 (r.day.map dayT))) (hf _ _ (by decide))
  have a8' := days_len l9
  have a9 := Nat.le_trans (sum_opt (c := r.hour = []) F (9, commaL r.hour)) (hf _ _ (by decide))
  have a9' := comma_in l6 (by decide) (by decide)
  have a10 := Nat.le_trans (sum_opt (c := r.minu = []) F (10, commaL r.minu)) (hf _ _ (by decide))
  have a10' := comma_in l7 (by decide) (by decide)
  have a11 := Nat.le_trans (sum_opt (c := r.sec = []) F (11, commaL r.sec)) (hf _ _ (by decide))
  have a11' := comma_in l8 (by decide) (by decide)
  have a12 := Nat.le_trans (sum_opt (c := r.pos = []) F (12, commaL r.pos)) (hf _ _ (by decide))
  have a12' := comma_in l5 (by decide) (by decide)
  have a13 := Nat.le_trans (sum_opt (c := r.wkst = 0) F (13, wdayW r.wkst.toNat)) (hf _ _ (by decide))
  have a13' := wday_len ⟨r.wkst.toNat, by omega⟩
  simp only at a0' a13'
  have a0'' : ([(0, freqW r.freq.toNat)].map F).sum = F (0, freqW r.freq.toNat) := by simp
  rw [a0'']
  omega
/-- what is printed is read as itself, of every rule that may be -/
theorem print_parse {r : Ru} (h : mayR r = true) : ruParse (ruText r) = (r, 0, 0) := parse_text h (ruText_len h)
theorem text_inj {r q : Ru} (h : mayR r = true) (g : mayR q = true) (e : ruText r = ruText q) : r = q := by
  have := print_parse h
  rw [e, print_parse g] at this
  injection this with this
  exact this.symm
-- parts turned round
theorem setF_comm (r : Ru) {j k : Nat} (h : j ≠ k) (f g : Fl) : setF (setF r j f) k g = setF (setF r k g) j f := by
  unfold setF
  split <;> split <;> first | rfl | exact absurd rfl h
theorem fold_set {kfs : List (Nat × Fl)} : ∀ {r : Ru} {k : Nat} {f : Fl}, k ∉ kfs.map Prod.fst → kfs.foldl (fun R x => setF R x.1 x.2) (setF r k f) = setF (kfs.foldl (fun R x => setF R x.1 x.2) r) k f := by
  induction kfs with
  | nil => intro r k f _; rfl
  | cons x kfs ih =>
    intro r k f h
    simp only [List.map_cons, List.mem_cons, not_or] at h
    rw [List.foldl_cons, List.foldl_cons, setF_comm r h.1, ih h.2]
theorem fold_rev {kfs : List (Nat × Fl)} (h : (kfs.map Prod.fst).Nodup) (r : Ru) : kfs.reverse.foldl (fun R x => setF R x.1 x.2) r = kfs.foldl (fun R x => setF R x.1 x.2) r := by
  induction kfs generalizing r with
  | nil => rfl
  | cons x kfs ih =>
    rw [List.map_cons, List.nodup_cons] at h
    rw [List.reverse_cons, List.foldl_append, ih h.2, List.foldl_cons, List.foldl_nil, List.foldl_cons, fold_set h.1]
/-- when parts are read as a rule -/
theorem parseL_iff : ∀ {ps : List (List UInt8)} {i : Nat} {seen : List Nat} {r q : Ru} {a : Int}, parseL i seen r ps = (q, a, 0) ↔ ∃ kfs : List (Nat × Fl), ps.map partOf = kfs.map some ∧ (kfs.map Prod.fst).Nodup ∧ (∀ k ∈ kfs.map Prod.fst, k ∉ seen) ∧ endP (kfs.foldl (fun R x => setF R x.1 x.2) r) = (q, a, 0)
  | [], i, seen, r, q, a => by
    constructor
    · intro h; exact ⟨[], rfl, by simp, by simp, h⟩
    · rintro ⟨kfs, h1, -, -, h4⟩
      cases kfs with
      | nil => exact h4
      | cons x k => simp at h1
  | p :: ps, i, seen, r, q, a => by
    unfold parseL
    constructor
    · intro h
      split at h
      · injection h with _ h; injection h with _ h; exact absurd h (by decide)
      · rename_i k f hp
        split at h
        · injection h with _ h; injection h with _ h; exact absurd h (by decide)
        · rename_i hk
          obtain ⟨kfs, h1, h2, h3, h4⟩ := parseL_iff.1 h
          refine ⟨(k, f) :: kfs, by rw [List.map_cons, List.map_cons, hp, h1], ?_, ?_, h4⟩
          · rw [List.map_cons, List.nodup_cons]
            exact ⟨fun g => (h3 k g) (by simp), h2⟩
          · intro j hj
            rw [List.map_cons, List.mem_cons] at hj
            rcases hj with rfl | hj
            · exact hk
            · exact fun g => h3 j hj (List.mem_cons_of_mem _ g)
    · rintro ⟨kfs, h1, h2, h3, h4⟩
      cases kfs with
      | nil => simp at h1
      | cons x kfs =>
        obtain ⟨k, f⟩ := x
        rw [List.map_cons, List.map_cons] at h1
        injection h1 with h0 h1
        rw [List.map_cons, List.nodup_cons] at h2
        rw [h0]
        simp only
        rw [if_neg (h3 k (by simp))]
        refine parseL_iff.2 ⟨kfs, h1, h2.2, fun j hj => ?_, h4⟩
        simp only [List.mem_cons, not_or]
        exact ⟨fun e => h2.1 (e ▸ hj), h3 j (by simp only [List.map_cons, List.mem_cons]; exact .inr hj)⟩
theorem parse_rev {ps : List (List UInt8)} {q : Ru} {a : Int} (h : parseL 0 [] startR ps = (q, a, 0)) : parseL 0 [] startR ps.reverse = (q, a, 0) := by
  obtain ⟨kfs, h1, h2, h3, h4⟩ := parseL_iff.1 h
  refine parseL_iff.2 ⟨kfs.reverse, by rw [List.map_reverse, h1, List.map_reverse], by rw [List.map_reverse]; exact List.pairwise_reverse.2 (h2.imp fun g => Ne.symm g), fun k _ => by simp, ?_⟩
  rw [fold_rev h2]; exact h4
/-- beside an error the rule is none -/
theorem endP_zero {r q : Ru} {a e : Int} (h : endP r = (q, a, e)) (he : e ≠ 0) : q = zeroR := by
  unfold endP at h
  split at h
  · injection h with h _; exact h.symm
  · split at h
    · injection h with _ h; injection h with _ h; exact absurd h.symm he
    · injection h with h _; exact h.symm
theorem parseL_zero : ∀ {ps : List (List UInt8)} {i : Nat} {seen : List Nat} {r q : Ru} {a e : Int}, parseL i seen r ps = (q, a, e) → e ≠ 0 → q = zeroR
  | [], _, _, _, _, _, _, h, he => endP_zero h he
  | p :: ps, i, seen, r, q, a, e, h, he => by
    unfold parseL at h
    split at h
    · injection h with h _; exact h.symm
    · split at h
      · injection h with h _; exact h.symm
      · exact parseL_zero h he
theorem ruParse_zero {l : List UInt8} {q : Ru} {a e : Int} (h : ruParse l = (q, a, e)) (he : e ≠ 0) : q = zeroR := by
  unfold ruParse at h
  split at h
  · injection h with h _; exact h.symm
  · exact parseL_zero h he
theorem sep_cut (c : UInt8) : ∀ (l : List UInt8), sep c (cutAt c l) = l
  | [] => rfl
  | x :: r => by
    have ih := sep_cut c r
    unfold cutAt
    split
    · rename_i h
      subst h
      cases e : cutAt x r with
      | nil => exact absurd e (cutAt_ne x r)
      | cons p ps => rw [sep_cons, ← e, ih]; rfl
    · cases e : cutAt c r with
      | nil => exact absurd e (cutAt_ne c r)
      | cons p ps =>
        simp only
        rw [e] at ih
        rw [← ih]
        simp [sep]
theorem cut_no (c : UInt8) : ∀ (l : List UInt8), ∀ p ∈ cutAt c l, c ∉ p
  | [], p, h => by obtain rfl : p = [] := by simpa [cutAt] using h
                   simp
  | x :: r, p, h => by
    have ih := cut_no c r
    unfold cutAt at h
    split at h
    · rcases List.mem_cons.1 h with rfl | h
      · simp
      · exact ih p h
    · rename_i hx
      cases e : cutAt c r with
      | nil => exact absurd e (cutAt_ne c r)
      | cons q ps =>
        rw [e] at h ih
        simp only at h
        rcases List.mem_cons.1 h with rfl | h
        · simp only [List.mem_cons, not_or]; exact ⟨fun g => hx g.symm, ih q (by simp)⟩
        · exact ih p (by simp [h])
theorem sep_len_rev {c : UInt8} (ps : List (List UInt8)) : (sep c ps).length + 1 = (ps.map fun p => p.length + 1).sum ∨ ps = [] := by
  cases ps with
  | nil => exact .inr rfl
  | cons p ps =>
    left
    induction ps generalizing p with
    | nil => simp [sep]
    | cons q ps ih =>
      have := ih q
      rw [sep_cons, List.length_append, List.length_cons]
      simp only [List.map_cons, List.sum_cons] at this ⊢
      omega
theorem rev_len {c : UInt8} (ps : List (List UInt8)) : (sep c ps.reverse).length = (sep c ps).length := by
  rcases sep_len_rev (c := c) ps with h | h
  · rcases sep_len_rev (c := c) ps.reverse with g | g
    · have : (ps.reverse.map fun p => p.length + 1).sum = (ps.map fun p => p.length + 1).sum := by rw [List.map_reverse, List.sum_reverse]
      omega
    · have : ps = [] := by simpa using g
      subst this; rfl
  · subst h; rfl
/-- a text's parts turned round: the same rule, or none -/
theorem turned (s : List UInt8) : ((ruParse s).2.2 = 0 ↔ (ruParse (sep 59 (cutAt 59 s).reverse)).2.2 = 0) ∧ (ruParse s).1 = (ruParse (sep 59 (cutAt 59 s).reverse)).1 := by
  have hl : (sep 59 (cutAt 59 s).reverse).length = s.length := by rw [rev_len, sep_cut]
  have hc : cutAt 59 (sep 59 (cutAt 59 s).reverse) = (cutAt 59 s).reverse := cutAt_sep (by simpa using cutAt_ne 59 s) (fun p hp => cut_no 59 s p (by simpa using hp))
  have key : (ruParse s).2.2 = 0 ↔ (ruParse (sep 59 (cutAt 59 s).reverse)).2.2 = 0 := by
    unfold ruParse
    rw [hl, hc]
    split
    · simp
    · constructor
      · intro h
        have := parse_rev (ps := cutAt 59 s) (q := (parseL 0 [] startR (cutAt 59 s)).1) (a := (parseL 0 [] startR (cutAt 59 s)).2.1) (by rw [← h])
        rw [this]
      · intro h
        have := parse_rev (ps := (cutAt 59 s).reverse) (q := (parseL 0 [] startR (cutAt 59 s).reverse).1) (a := (parseL 0 [] startR (cutAt 59 s).reverse).2.1) (by rw [← h])
        rw [List.reverse_reverse] at this
        rw [this]
  refine ⟨key, ?_⟩
  by_cases h : (ruParse s).2.2 = 0
  · have g := h
    unfold ruParse at h ⊢
    rw [hl, hc]
    split
    · rfl
    · rename_i hn
      rw [if_neg hn] at h
      have := parse_rev (ps := cutAt 59 s) (q := (parseL 0 [] startR (cutAt 59 s)).1) (a := (parseL 0 [] startR (cutAt 59 s)).2.1) (by rw [← h])
      rw [this]
  · have g : (ruParse (sep 59 (cutAt 59 s).reverse)).2.2 ≠ 0 := fun k => h (key.2 k)
    rw [ruParse_zero (l := s) (q := (ruParse s).1) (a := (ruParse s).2.1) (e := (ruParse s).2.2) rfl h, ruParse_zero (l := sep 59 (cutAt 59 s).reverse) (q := (ruParse (sep 59 (cutAt 59 s).reverse)).1) (a := (ruParse (sep 59 (cutAt 59 s).reverse)).2.1) (e := (ruParse (sep 59 (cutAt 59 s).reverse)).2.2) rfl g]
end Go.Proofs.YtkkmhjplfpdhcaaGreatDoor.Ru
