/- Plain mathematics of recurrence rules (chapter 5): what may be, a rule's text, a text's rule. -/
import Derived.Test.YtkkmhjplfpdhcaaGreatDoorRuNum
set_option linter.unusedVariables false
namespace Go.Proofs.YtkkmhjplfpdhcaaGreatDoor.Ru

structure Dy where
  n : Int
  w : Int
  deriving DecidableEq
structure Ru where
  freq : Int
  itv : Int
  cnt : Int
  til : Int
  wkst : Int
  ends : Bool
  mon : List Int
  week : List Int
  yday : List Int
  mday : List Int
  day : List Dy
  hour : List Int
  minu : List Int
  sec : List Int
  pos : List Int
  deriving DecidableEq
def iat (l : List Int) (i : Nat) : Int := l.getD i 0
def dat (l : List Dy) (i : Nat) : Dy := l.getD i ⟨0, 0⟩
theorem iat_lt {l : List Int} {i : Nat} (h : i < l.length) : iat l i = l[i] := by
  unfold iat; rw [List.getD_eq_getElem?_getD, List.getElem?_eq_getElem h]; rfl
theorem dat_lt {l : List Dy} {i : Nat} (h : i < l.length) : dat l i = l[i] := by
  unfold dat; rw [List.getD_eq_getElem?_getD, List.getElem?_eq_getElem h]; rfl
def dlt (a b : Dy) : Prop := a.n < b.n ∨ (a.n = b.n ∧ a.w < b.w)
instance (a b : Dy) : Decidable (dlt a b) := inferInstanceAs (Decidable (_ ∨ _))
/-- a list rises, each number once -/
def riseB (l : List Int) : Bool := decide (l.Pairwise (· < ·))
def inB (l : List Int) (lo hi : Int) (zero : Bool) : Bool := decide (∀ x ∈ l, lo ≤ x ∧ x ≤ hi ∧ (x ≠ 0 ∨ zero = true)) && decide (l.length ≤ 60) && riseB l
def dayB (l : List Dy) : Bool := decide (∀ x ∈ l, -53 ≤ x.n ∧ x.n ≤ 53 ∧ 0 ≤ x.w ∧ x.w ≤ 6) && decide (l.length ≤ 60) && decide (l.Pairwise dlt)
def numbB (l : List Dy) : Bool := l.any fun d => decide (d.n ≠ 0)
def mayT (t : Int) : Bool := decide (-62135596800 ≤ t ∧ t ≤ 253402300799)
def scalB (r : Ru) : Bool := decide (1 ≤ r.freq ∧ r.freq ≤ 7 ∧ 1 ≤ r.itv ∧ r.itv ≤ 1000 ∧ 0 ≤ r.cnt ∧ r.cnt ≤ 4096 ∧ 0 ≤ r.wkst ∧ r.wkst ≤ 6)
def endB (r : Ru) : Bool := if r.ends then decide (r.cnt ≤ 0) && mayT r.til else decide (r.til = 0)
def listB (r : Ru) : Bool := inB r.mon 1 12 true && inB r.week (-53) 53 false && inB r.yday (-366) 366 false && inB r.mday (-31) 31 false && inB r.pos (-366) 366 false && inB r.hour 0 23 true && inB r.minu 0 59 true && inB r.sec 0 59 true && dayB r.day
def besideB (r : Ru) : Bool := decide (¬ ((0 < r.week.length ∧ r.freq ≠ 1) ∨ (0 < r.yday.length ∧ 2 ≤ r.freq ∧ r.freq ≤ 4) ∨ (0 < r.mday.length ∧ r.freq = 3)))
def nthB (r : Ru) : Bool := decide (¬ (numbB r.day = true ∧ r.freq ≠ 2 ∧ (r.freq ≠ 1 ∨ 0 < r.week.length)))
def posB (r : Ru) : Bool := decide (¬ (0 < r.pos.length ∧ r.mon.length + r.week.length + r.yday.length + r.mday.length + r.day.length + r.hour.length + r.minu.length + r.sec.length = 0))
def oftenB (r : Ru) : Bool := decide (4 < r.freq ∨ max r.hour.length 1 * max r.minu.length 1 * max r.sec.length 1 ≤ 1000)
/-- a rule may be -/
def mayR (r : Ru) : Bool := scalB r && endB r && listB r && besideB r && nthB r && posB r && oftenB r
theorem mayR_of {r : Ru} (h : mayR r = true) : scalB r = true ∧ endB r = true ∧ listB r = true ∧ besideB r = true ∧ nthB r = true ∧ posB r = true ∧ oftenB r = true := by
  unfold mayR at h; simp only [Bool.and_eq_true] at h; simp only [h, and_self]
-- words
def nameK : Nat → List UInt8
  | 0 => [70, 82, 69, 81]
  | 1 => [73, 78, 84, 69, 82, 86, 65, 76]
  | 2 => [67, 79, 85, 78, 84]
  | 3 => [85, 78, 84, 73, 76]
  | 4 => [66, 89, 77, 79, 78, 84, 72]
  | 5 => [66, 89, 87, 69, 69, 75, 78, 79]
  | 6 => [66, 89, 89, 69, 65, 82, 68, 65, 89]
  | 7 => [66, 89, 77, 79, 78, 84, 72, 68, 65, 89]
  | 8 => [66, 89, 68, 65, 89]
  | 9 => [66, 89, 72, 79, 85, 82]
  | 10 => [66, 89, 77, 73, 78, 85, 84, 69]
  | 11 => [66, 89, 83, 69, 67, 79, 78, 68]
  | 12 => [66, 89, 83, 69, 84, 80, 79, 83]
  | 13 => [87, 75, 83, 84]
  | _ => []
def freqW : Nat → List UInt8
  | 1 => [89, 69, 65, 82, 76, 89]
  | 2 => [77, 79, 78, 84, 72, 76, 89]
  | 3 => [87, 69, 69, 75, 76, 89]
  | 4 => [68, 65, 73, 76, 89]
  | 5 => [72, 79, 85, 82, 76, 89]
  | 6 => [77, 73, 78, 85, 84, 69, 76, 89]
  | 7 => [83, 69, 67, 79, 78, 68, 76, 89]
  | _ => []
def wdayW : Nat → List UInt8
  | 0 => [77, 79]
  | 1 => [84, 85]
  | 2 => [87, 69]
  | 3 => [84, 72]
  | 4 => [70, 82]
  | 5 => [83, 65]
  | 6 => [83, 85]
  | _ => []
def keyOf (z : List UInt8) : Option Nat := (List.range 14).find? fun k => decide (nameK k = z)
def freqOf (z : List UInt8) : Option Nat := if z = [] then none else (List.range 8).find? fun k => decide (freqW k = z)
def wdayOf (z : List UInt8) : Option Nat := if z = [] then none else (List.range 7).find? fun k => decide (wdayW k = z)
theorem keyOf_name : ∀ k : Fin 14, keyOf (nameK k.val) = some k.val := by decide
theorem freqOf_word : ∀ k : Fin 8, 1 ≤ k.val → freqOf (freqW k.val) = some k.val := by decide
theorem wdayOf_word : ∀ k : Fin 7, wdayOf (wdayW k.val) = some k.val := by decide
-- cutting at a sign
def cutAt (c : UInt8) : List UInt8 → List (List UInt8)
  | [] => [[]]
  | x :: r => if x = c then [] :: cutAt c r else match cutAt c r with | [] => [[x]] | p :: ps => (x :: p) :: ps
theorem cutAt_ne (c : UInt8) (l : List UInt8) : cutAt c l ≠ [] := by
  cases l with
  | nil => simp [cutAt]
  | cons x r => unfold cutAt; split <;> (try split) <;> simp
theorem cutAt_one {c : UInt8} {p : List UInt8} (h : c ∉ p) : cutAt c p = [p] := by
  induction p with
  | nil => rfl
  | cons x p ih =>
    simp only [List.mem_cons, not_or] at h
    unfold cutAt; rw [if_neg (fun e => h.1 e.symm), ih h.2]
theorem cutAt_app {c : UInt8} {p : List UInt8} (h : c ∉ p) (r : List UInt8) : cutAt c (p ++ c :: r) = p :: cutAt c r := by
  induction p with
  | nil => rw [List.nil_append, cutAt, if_pos rfl]
  | cons x p ih =>
    simp only [List.mem_cons, not_or] at h
    rw [List.cons_append, cutAt, if_neg (fun e => h.1 e.symm), ih h.2]
/-- pieces with a sign between -/
def sep (c : UInt8) : List (List UInt8) → List UInt8
  | [] => []
  | p :: ps => p ++ ps.flatMap fun q => c :: q
theorem sep_cons (c : UInt8) (p q : List UInt8) (ps : List (List UInt8)) : sep c (p :: q :: ps) = p ++ c :: sep c (q :: ps) := by simp [sep]
theorem cutAt_sep {c : UInt8} : ∀ {ps : List (List UInt8)}, ps ≠ [] → (∀ p ∈ ps, c ∉ p) → cutAt c (sep c ps) = ps
  | [p], _, h => by rw [show sep c [p] = p from by simp [sep], cutAt_one (h p (by simp))]
  | p :: q :: ps, _, h => by
    rw [sep_cons, cutAt_app (h p (by simp)), cutAt_sep (by simp) (fun x hx => h x (List.mem_cons_of_mem _ hx))]
theorem cutAt_sep_app {c : UInt8} {ps : List (List UInt8)} (h0 : ps ≠ []) (h : ∀ p ∈ ps, c ∉ p) (r : List UInt8) : cutAt c (sep c ps ++ c :: r) = ps ++ cutAt c r := by
  induction ps with
  | nil => exact absurd rfl h0
  | cons p ps ih =>
    cases ps with
    | nil => rw [show sep c [p] = p from by simp [sep], cutAt_app (h p (by simp))]; rfl
    | cons q ps =>
      rw [sep_cons, List.append_assoc, List.cons_append, cutAt_app (h p (by simp)), ih (by simp) (fun x hx => h x (List.mem_cons_of_mem _ hx))]; rfl
theorem mem_sep {c x : UInt8} {ps : List (List UInt8)} (h : x ∈ sep c ps) : x = c ∨ ∃ p ∈ ps, x ∈ p := by
  cases ps with
  | nil => simp [sep] at h
  | cons p ps =>
    unfold sep at h
    rcases List.mem_append.1 h with h | h
    · exact .inr ⟨p, by simp, h⟩
    · obtain ⟨q, hq, hx⟩ := List.mem_flatMap.1 h
      rcases List.mem_cons.1 hx with hx | hx
      · exact .inl hx
      · exact .inr ⟨q, by simp [hq], hx⟩
theorem len_sep {c : UInt8} {ps : List (List UInt8)} {k : Nat} (h : ∀ p ∈ ps, p.length ≤ k) : (sep c ps).length ≤ ps.length * (k + 1) := by
  induction ps with
  | nil => simp [sep]
  | cons p ps ih =>
    have := ih fun q hq => h q (List.mem_cons_of_mem _ hq)
    have hp := h p (by simp)
    cases ps with
    | nil => simp [sep]; omega
    | cons q ps =>
      rw [sep_cons, List.length_append, List.length_cons]
      simp only [List.length_cons, Nat.succ_mul] at this ⊢
      omega
-- sorted, each once
def ins {α : Type} (lt : α → α → Bool) (x : α) : List α → List α
  | [] => [x]
  | y :: l => if lt y x then y :: ins lt x l else if lt x y then x :: y :: l else y :: l
def sortU {α : Type} (lt : α → α → Bool) (l : List α) : List α := l.foldl (fun a x => ins lt x a) []
def iltB (a b : Int) : Bool := decide (a < b)
def dltB (a b : Dy) : Bool := decide (dlt a b)
theorem mem_ins {α : Type} {lt : α → α → Bool} (tri : ∀ a b, lt a b = false → lt b a = false → a = b) {x y : α} {l : List α} : y ∈ ins lt x l ↔ y = x ∨ y ∈ l := by
  induction l with
  | nil => simp [ins]
  | cons z l ih =>
    unfold ins
    by_cases h1 : lt z x = true
    · rw [if_pos h1, List.mem_cons, ih, List.mem_cons]
      constructor
      · rintro (h | h | h)
        · exact .inr (.inl h)
        · exact .inl h
        · exact .inr (.inr h)
      · rintro (h | h | h)
        · exact .inr (.inl h)
        · exact .inl h
        · exact .inr (.inr h)
    · rw [if_neg h1]
      by_cases h2 : lt x z = true
      · rw [if_pos h2, List.mem_cons]
      · rw [if_neg h2]
        have := tri x z (by simpa using h2) (by simpa using h1)
        subst this
        rw [List.mem_cons]; simp
theorem len_ins {α : Type} {lt : α → α → Bool} {x : α} {l : List α} : (ins lt x l).length ≤ l.length + 1 := by
  induction l with
  | nil => simp [ins]
  | cons z l ih => unfold ins; split <;> (try split) <;> simp; omega
theorem rise_ins {α : Type} {lt : α → α → Bool} (tri : ∀ a b, lt a b = false → lt b a = false → a = b) (tr : ∀ a b c, lt a b = true → lt b c = true → lt a c = true) {x : α} {l : List α} (h : l.Pairwise fun a b => lt a b = true) :
    (ins lt x l).Pairwise fun a b => lt a b = true := by
  induction l with
  | nil => simp [ins]
  | cons z l ih =>
    rw [List.pairwise_cons] at h
    unfold ins
    by_cases h1 : lt z x = true
    · rw [if_pos h1, List.pairwise_cons]
      refine ⟨fun y hy => ?_, ih h.2⟩
      rcases (mem_ins tri).1 hy with rfl | hy
      · exact h1
      · exact h.1 y hy
    · rw [if_neg h1]
      by_cases h2 : lt x z = true
      · rw [if_pos h2, List.pairwise_cons, List.pairwise_cons]
        refine ⟨fun y hy => ?_, h⟩
        rcases List.mem_cons.1 hy with rfl | hy
        · exact h2
        · exact tr _ _ _ h2 (h.1 y hy)
      · rw [if_neg h2, List.pairwise_cons]; exact h
theorem ins_end {α : Type} {lt : α → α → Bool} {x : α} {l : List α} (h : ∀ y ∈ l, lt y x = true) : ins lt x l = l ++ [x] := by
  induction l with
  | nil => rfl
  | cons z l ih =>
    unfold ins
    rw [if_pos (h z (by simp)), ih fun y hy => h y (List.mem_cons_of_mem _ hy)]; rfl
theorem sort_go {α : Type} {lt : α → α → Bool} {l : List α} : ∀ {a : List α}, (a ++ l).Pairwise (fun x y => lt x y = true) → l.foldl (fun a x => ins lt x a) a = a ++ l := by
  induction l with
  | nil => intro a _; simp
  | cons x l ih =>
    intro a h
    rw [List.foldl_cons, ins_end fun y hy => (List.pairwise_append.1 h).2.2 y hy x (by simp), ih (by simpa using h)]
    simp
/-- what rises stays -/
theorem sortU_id {α : Type} {lt : α → α → Bool} {l : List α} (h : l.Pairwise fun x y => lt x y = true) : sortU lt l = l := by
  have := sort_go (a := []) (l := l) (by simpa using h)
  simpa [sortU] using this
theorem sort_spec {α : Type} {lt : α → α → Bool} (tri : ∀ a b, lt a b = false → lt b a = false → a = b) (tr : ∀ a b c, lt a b = true → lt b c = true → lt a c = true) {l : List α} :
    ∀ {a : List α}, a.Pairwise (fun x y => lt x y = true) → (l.foldl (fun a x => ins lt x a) a).Pairwise (fun x y => lt x y = true) ∧ (l.foldl (fun a x => ins lt x a) a).length ≤ a.length + l.length ∧ ∀ y, y ∈ l.foldl (fun a x => ins lt x a) a ↔ y ∈ a ∨ y ∈ l := by
  induction l with
  | nil => intro a h; exact ⟨h, by simp, by simp⟩
  | cons x l ih =>
    intro a h
    obtain ⟨i1, i2, i3⟩ := ih (rise_ins tri tr (x := x) h)
    refine ⟨i1, ?_, fun y => ?_⟩
    · have := len_ins (lt := lt) (x := x) (l := a)
      rw [List.foldl_cons, List.length_cons]; omega
    · rw [List.foldl_cons, i3, mem_ins tri, List.mem_cons]
      constructor
      · rintro ((h | h) | h)
        · exact .inr (.inl h)
        · exact .inl h
        · exact .inr (.inr h)
      · rintro (h | h | h)
        · exact .inl (.inr h)
        · exact .inl (.inl h)
        · exact .inr h
theorem ilt_tri (a b : Int) (h : iltB a b = false) (g : iltB b a = false) : a = b := by
  have := of_decide_eq_false h; have := of_decide_eq_false g; omega
theorem ilt_tr (a b c : Int) (h : iltB a b = true) (g : iltB b c = true) : iltB a c = true := by
  have := of_decide_eq_true h; have := of_decide_eq_true g; exact decide_eq_true (by omega)
theorem dlt_tri (a b : Dy) (h : dltB a b = false) (g : dltB b a = false) : a = b := by
  have h := of_decide_eq_false h; have g := of_decide_eq_false g
  unfold dlt at h g
  have e1 : a.n = b.n := by omega
  have e2 : a.w = b.w := by omega
  cases a; cases b; simp only at e1 e2; rw [e1, e2]
theorem dlt_tr (a b c : Dy) (h : dltB a b = true) (g : dltB b c = true) : dltB a c = true := by
  have h := of_decide_eq_true h; have g := of_decide_eq_true g
  unfold dlt at h g
  exact decide_eq_true (by unfold dlt; omega)
/-- a list that rises has no other of its members -/
theorem rise_ext {α : Type} {lt : α → α → Bool} (irr : ∀ a, lt a a = false) (tr : ∀ a b c, lt a b = true → lt b c = true → lt a c = true) : ∀ {l m : List α}, l.Pairwise (fun x y => lt x y = true) → m.Pairwise (fun x y => lt x y = true) → (∀ y, y ∈ l ↔ y ∈ m) → l = m
  | [], [], _, _, _ => rfl
  | [], y :: m, _, _, h => by have := (h y).2 (by simp); simp at this
  | x :: l, [], _, _, h => by have := (h x).1 (by simp); simp at this
  | x :: l, y :: m, hl, hm, h => by
    rw [List.pairwise_cons] at hl hm
    have e : x = y := by
      rcases List.mem_cons.1 ((h x).1 (by simp)) with g | g
      · exact g
      · rcases List.mem_cons.1 ((h y).2 (by simp)) with g' | g'
        · exact g'.symm
        · have := tr _ _ _ (hm.1 x g) (hl.1 y g')
          rw [irr] at this; cases this
    subst e
    congr 1
    refine rise_ext irr tr hl.2 hm.2 fun z => ?_
    have hz := h z
    rw [List.mem_cons, List.mem_cons] at hz
    constructor
    · intro g
      rcases hz.1 (.inr g) with rfl | g'
      · have := hl.1 z g; rw [irr] at this; cases this
      · exact g'
    · intro g
      rcases hz.2 (.inr g) with rfl | g'
      · have := hm.1 z g; rw [irr] at this; cases this
      · exact g'
end Go.Proofs.YtkkmhjplfpdhcaaGreatDoor.Ru
