/- The walks of voklaw10.few and voklaw10.played: a set behind calls. -/
import Derived.Test.YtjodhfehfpmfaaaIvRem
import Derived.Test.YtjodhfehfpmfaaaIvOp
set_option linter.unusedVariables false
namespace Go.Proofs.Ytjodhfehfpmfaaa.Iv
open Go.RowKit

def fewN (ops : List OpR) : Nat → Nat
  | 0 => 0
  | t + 1 => fewN ops t + min (gt ops t).k 3001
def fewB (ops : List OpR) : Bool := decide (ops.length ≤ 200) && decide (fewN ops (min ops.length 200) ≤ 3000)
theorem fewN_le (ops : List OpR) : ∀ t, fewN ops t ≤ t * 3001
  | 0 => Nat.zero_le _
  | t + 1 => by have := fewN_le ops t; have := Nat.min_le_right (gt ops t).k 3001; unfold fewN; omega
theorem fewN_mono (ops : List OpR) : ∀ {s t : Nat}, s ≤ t → fewN ops s ≤ fewN ops t
  | s, 0, h => by
    obtain rfl : s = 0 := by omega
    exact Nat.le_refl _
  | s, t + 1, h => by
    by_cases e : s = t + 1
    · subst e; exact Nat.le_refl _
    · have := fewN_mono ops (s := s) (t := t) (by omega)
      show fewN ops s ≤ fewN ops t + min (gt ops t).k 3001
      omega
structure Few (ops : List OpR) : Prop where
  len : ops.length ≤ 200
  sum : fewN ops ops.length ≤ 3000
theorem few_iff {ops : List OpR} : fewB ops = true ↔ Few ops := by
  unfold fewB
  rw [Bool.and_eq_true, decide_eq_true_eq, decide_eq_true_eq]
  constructor
  · rintro ⟨h1, h2⟩
    rw [Nat.min_eq_left h1] at h2
    exact ⟨h1, h2⟩
  · rintro ⟨h1, h2⟩
    rw [Nat.min_eq_left h1]
    exact ⟨h1, h2⟩
theorem Few.k {ops : List OpR} (h : Few ops) {t : Nat} (ht : t < ops.length) : (gt ops t).k ≤ 3000 ∧ fewN ops (t + 1) = fewN ops t + (gt ops t).k ∧ fewN ops (t + 1) ≤ 3000 := by
  have a := fewN_mono ops (s := t + 1) (t := ops.length) ht
  have b : fewN ops (t + 1) = fewN ops t + min (gt ops t).k 3001 := rfl
  have c := h.sum
  rcases Nat.le_total (gt ops t).k 3001 with q | q
  · rw [Nat.min_eq_left q] at b; omega
  · rw [Nat.min_eq_right q] at b; omega
/-- a call on a set -/
def stepO (s : List Tg × List Int) (o : OpR) : List Tg × List Int :=
  if o.kind = 0 then addR (normL o.l) o.n s.1 s.2 else if o.kind = 1 then (remL o.n s.1, remO o.n s.2) else s
def playN (ops : List OpR) : Nat → List Tg × List Int
  | 0 => ([], [])
  | t + 1 => stepO (playN ops t) (gt ops t)
theorem play_len {ops : List OpR} (h : Few ops) (hk : ∀ t, t < ops.length → (gt ops t).k = (gt ops t).l.length) : ∀ t, t ≤ ops.length → (playN ops t).1.length ≤ fewN ops t ∧ (playN ops t).2.length ≤ t
  | 0, _ => ⟨Nat.zero_le _, Nat.zero_le _⟩
  | t + 1, ht => by
    obtain ⟨a, b⟩ := play_len h hk t (by omega)
    obtain ⟨-, e, -⟩ := h.k (t := t) ht
    have kl := hk t ht
    have nl := norm_len (gt ops t).l
    have rl := addR_len (normL (gt ops t).l) (gt ops t).n (playN ops t).1 (playN ops t).2
    have r1 : (remL (gt ops t).n (playN ops t).1).length ≤ (playN ops t).1.length := List.length_filter_le _ _
    have r2 := remO_len (gt ops t).n (playN ops t).2
    show (stepO (playN ops t) (gt ops t)).1.length ≤ _ ∧ (stepO (playN ops t) (gt ops t)).2.length ≤ _
    unfold stepO
    split
    · omega
    · split
      · dsimp only; omega
      · omega
set_option maxRecDepth 100000 in
set_option maxHeartbeats 4000000 in
theorem few_is (w : World) (A : Option Addr) (n c : Nat) (ops : List OpR) (hA : OpAt w A n ops) (hm : n ≤ 9223372036854775807) :
    Calls Try.prog 17 #[.slice A n c] w fun e w' => e = .returned (.bool (fewB ops)) ∧ Below w.heap.size w w' := by
  have HA := Lib.hid hA
  have FB := Lib.hid (show fewB ops = (decide (n ≤ 200) && decide (fewN ops (min n 200) ≤ 3000)) by rw [hA.1]; rfl)
  clear hA
  go_enter Try.func17, Try.ntmps17
  go_wp2
  go_loopw [3, 4] (fun s i wr => ∃ t : Nat, i = .int .i64 t ∧ t ≤ n ∧ t ≤ 200 ∧ s = .int .i64 (fewN ops t : Nat) ∧ Below w.heap.size w wr) (fun s i _ => 200 - (intOf i).toNat)
  case atStart => exact ⟨0, rfl, Nat.zero_le _, Nat.zero_le _, rfl, Below.refl _ _⟩
  case round =>
    obtain ⟨wo, rfl⟩ : ∃ wo : World, wo = wr := ⟨_, rfl⟩
    obtain ⟨t, rfl, ht, ht2, rfl, hB⟩ := hrel
    have fl := fewN_le ops t
    by_cases hlt : t < n
    · have s0 : decide ((t : Int) < n) = true := decide_eq_true (by omega)
      have s00 : decide (t < n) = true := decide_eq_true hlt
      by_cases h2 : t < 200
      · have s1 : decide ((t : Int) < 200) = true := decide_eq_true (by omega)
        have s11 : decide (t < 200) = true := decide_eq_true h2
        obtain ⟨b1, o1, rfl, hl1, hc1⟩ := HA.out.2 (by omega)
        obtain ⟨-, -, -, c3, -, -⟩ := hc1 t hlt
        replace c3 := (hB.cell (p := ⟨b1, _, none⟩) hl1).trans c3
        have ST := Lib.hid (show fewN ops (t + 1) = fewN ops t + min (gt ops t).k 3001 from rfl)
        have mr := Nat.min_le_right (gt ops t).k 3001
        clear hc1
        generalize (gt ops t).A = A3 at *
        generalize (gt ops t).c = c4 at *
        generalize (gt ops t).k = k at *
        have M1 : min (k : Int) 3001 = ((min k 3001 : Nat) : Int) := by omega
        generalize min k 3001 = mk at *
        generalize fewN ops t = a at *
        have i5 : (t : Int) < n := by omega
        have W1 : IntKind.i64.wrap ((t : Int) + 1) = (t : Int) + 1 := IntWalk.i64_in _ (by omega)
        have W2 : IntKind.i64.wrap ((a : Int) + (mk : Int)) = (a : Int) + (mk : Int) := IntWalk.i64_in _ (by omega)
        go_wp2
        go_roundw
        case rel => exact ⟨t + 1, by go_num, by omega, by omega, by rw [ST.out]; rfl, hB⟩
        case measure => simp [intOf]; omega
      · obtain rfl : t = 200 := by omega
        have F := Lib.hid (show false = fewB ops by rw [FB.out, decide_eq_false (by omega : ¬ n ≤ 200)]; rfl)
        have s2 : decide ((n : Int) ≤ 200) = false := decide_eq_false (by omega)
        have s22 : decide (n ≤ 200) = false := decide_eq_false (by omega)
        generalize fewN ops 200 = a at *
        go_wp2
        go_ret
        exact ⟨ret_bool F.out, hB⟩
    · obtain rfl : n = t := by omega
      have s0 : decide ((n : Int) < n) = false := decide_eq_false (by omega)
      have s00 : decide (n < n) = false := decide_eq_false (by omega)
      have F := Lib.hid (show decide (fewN ops n ≤ 3000) = fewB ops by rw [FB.out, decide_eq_true (by omega : n ≤ 200), Nat.min_eq_left ht2, Bool.true_and])
      have s2 : decide ((n : Int) ≤ 200) = true := decide_eq_true (by omega)
      have s22 : decide (n ≤ 200) = true := decide_eq_true (by omega)
      generalize fewN ops n = a at *
      by_cases ha : a ≤ 3000
      · have s3 : decide ((a : Int) ≤ 3000) = true := decide_eq_true (by omega)
        have s33 : decide (a ≤ 3000) = true := decide_eq_true ha
        have F2 := Lib.hid (show true = fewB ops by rw [← F.out, s33])
        clear F
        go_wp2
        go_ret
        exact ⟨ret_bool F2.out, hB⟩
      · have s3 : decide ((a : Int) ≤ 3000) = false := decide_eq_false (by omega)
        have s33 : decide (a ≤ 3000) = false := decide_eq_false ha
        have F2 := Lib.hid (show false = fewB ops by rw [← F.out, s33])
        clear F
        go_wp2
        go_ret
        exact ⟨ret_bool F2.out, hB⟩
end Go.Proofs.Ytjodhfehfpmfaaa.Iv
