/- Slices of numbers and of days that are read, as lists; the walks of vokref's and vokref4's small functions on them. -/
import Derived.Test.YtkkmhjplfpdhcaaGreatDoorStMem
import Derived.Test.YtkkmhjplfpdhcaaGreatDoorRuLaws
import Derived.LoopTactic
import Derived.Deep.QuietTactic
import Derived.BigQuiet
import Derived.IntWalk
set_option linter.unusedVariables false
namespace Go.Proofs.YtkkmhjplfpdhcaaGreatDoor.Ru
open Go.RowKit Cv St

theorem no_bool {p : Prop} [Decidable p] (h : ¬ p) : false = decide p := (decide_eq_false h).symm
theorem yes_bool {p : Prop} [Decidable p] (h : p) : true = decide p := (decide_eq_true h).symm
theorem two_bool {a b : Bool} (h : a = true ↔ b = true) : a = b := Bool.eq_iff_iff.2 h
/-- the slice at A of n elements holds the numbers l, in W -/
def IsAt (W : World) (A : Option Addr) (n : Nat) (l : List Int) : Prop :=
  n = l.length ∧ (0 < n → ∃ b off, A = some ⟨b, off, none⟩ ∧ b < W.heap.size ∧ ∀ j, j < n → W.cell? ⟨b, off + j, none⟩ = some (.int .i64 (iat l j)))
/-- the slice at A of n elements holds the days l, in W -/
def DyAt (W : World) (A : Option Addr) (n : Nat) (l : List Dy) : Prop :=
  n = l.length ∧ (0 < n → ∃ b off, A = some ⟨b, off, none⟩ ∧ b < W.heap.size ∧ ∀ j, j < n → W.cell? ⟨b, off + j * 2, none⟩ = some (.int .i64 (dat l j).n) ∧ W.cell? ⟨b, off + j * 2 + 1, none⟩ = some (.int .i64 (dat l j).w))
theorem IsAt.below {W w : World} {A : Option Addr} {n : Nat} {l : List Int} (h : IsAt W A n l) (hb : Below W.heap.size W w) : IsAt w A n l :=
  ⟨h.1, fun h0 => by
    obtain ⟨b, off, e, hlt, hc⟩ := h.2 h0
    exact ⟨b, off, e, Nat.lt_of_lt_of_le hlt hb.size, fun j hj => (hb.cell (p := ⟨b, _, none⟩) hlt).trans (hc j hj)⟩⟩
theorem DyAt.below {W w : World} {A : Option Addr} {n : Nat} {l : List Dy} (h : DyAt W A n l) (hb : Below W.heap.size W w) : DyAt w A n l :=
  ⟨h.1, fun h0 => by
    obtain ⟨b, off, e, hlt, hc⟩ := h.2 h0
    exact ⟨b, off, e, Nat.lt_of_lt_of_le hlt hb.size, fun j hj => ⟨(hb.cell (p := ⟨b, _, none⟩) hlt).trans (hc j hj).1, (hb.cell (p := ⟨b, _, none⟩) hlt).trans (hc j hj).2⟩⟩⟩
theorem IsAt.nil (W : World) (A : Option Addr) : IsAt W A 0 [] := ⟨rfl, fun h => absurd h (by omega)⟩
theorem DyAt.nil (W : World) (A : Option Addr) : DyAt W A 0 [] := ⟨rfl, fun h => absurd h (by omega)⟩
def isTo (l m : List Int) (k : Nat) : Prop := ∀ j, j < k → iat l j = iat m j
theorem isTo.succ {l m : List Int} {k : Nat} (h : isTo l m k) (e : iat l k = iat m k) : isTo l m (k + 1) := fun j hj => by
  by_cases c : j = k
  · subst c; exact e
  · exact h j (by omega)
theorem is_ext {l m : List Int} (e : l.length = m.length) (h : ∀ j, j < l.length → iat l j = iat m j) : l = m := by
  refine List.ext_getElem e fun i h1 h2 => ?_
  have := h i h1
  rwa [iat_lt h1, iat_lt h2] at this
def dyTo (l m : List Dy) (k : Nat) : Prop := ∀ j, j < k → dat l j = dat m j
theorem dyTo.succ {l m : List Dy} {k : Nat} (h : dyTo l m k) (e : dat l k = dat m k) : dyTo l m (k + 1) := fun j hj => by
  by_cases c : j = k
  · subst c; exact e
  · exact h j (by omega)
theorem dy_ext {l m : List Dy} (e : l.length = m.length) (h : ∀ j, j < l.length → dat l j = dat m j) : l = m := by
  refine List.ext_getElem e fun i h1 h2 => ?_
  have := h i h1
  rwa [dat_lt h1, dat_lt h2] at this
/-- vokref.Ints -/
theorem ints_any (w : World) (A B : Option Addr) (n c m d : Nat) (l k : List Int) (hl : IsAt w A n l) (hk : IsAt w B m k) (h1 : n ≤ 9223372036854775807) (h2 : m ≤ 9223372036854775807) :
    Calls Tryz.prog 83 #[.slice A n c, .slice B m d] w fun e w' => e = .returned (.bool (decide (l = k))) ∧ Below w.heap.size w w' := by
  obtain ⟨en, hc⟩ := hl
  obtain ⟨en2, hc2⟩ := hk
  by_cases hn : n = m
  · subst hn
    have EN := Lib.hid en
    have EN2 := Lib.hid en2
    clear en en2
    go_enter Tryz.func83, Tryz.ntmps83
    go_wp2
    go_loopw [5] (fun i wr => ∃ t : Nat, t ≤ n ∧ i = .int .i64 t ∧ Hid (isTo l k t) ∧ ∃ q : Nat, wr = w.drewN q) (fun i _ => n - (intOf i).toNat)
    case atStart => exact ⟨0, Nat.zero_le _, rfl, Lib.hid (fun j hj => absurd hj (by omega)), 0, rfl⟩
    case round =>
      obtain ⟨t, ht, rfl, D, q, rfl⟩ := hrel
      by_cases hlt : t < n
      · obtain ⟨b, off, rfl, hb, hcc⟩ := hc (by omega)
        obtain ⟨b2, off2, rfl, hb2, hcc2⟩ := hc2 (by omega)
        have c0 := hcc t hlt
        have d0 := hcc2 t hlt
        clear hc hc2 hcc hcc2
        by_cases he : iat l t = iat k t
        · have X := Lib.hid (D.out.succ he)
          rw [← he] at d0
          clear he D
          generalize iat l t = s at *
          go_wp2
          go_big_quiet (fail)
          go_wp2
          go_roundw
          case rel => exact ⟨t + 1, by omega, by go_num, X, _, rfl⟩
          case measure => simp [intOf]; omega
        · have F := Lib.hid (show false = decide (l = k) from no_bool (fun e => he (by rw [e])))
          have e1 : ((iat l t : Int) != iat k t) = true := by rw [bne_iff_ne]; exact he
          clear he D
          generalize iat l t = s at *
          generalize iat k t = s2 at *
          go_wp2
          go_big_quiet (fail)
          go_wp2
          go_ret
          exact ⟨ret_bool F.out, (Below.drewN' _ _ _).trans (Below.drewN' _ _ _)⟩
      · obtain rfl : n = t := by omega
        have F := Lib.hid (show true = decide (l = k) from yes_bool (is_ext (by rw [← EN.out, ← EN2.out]) (by rw [← EN.out]; exact D.out)))
        go_wp2
        go_ret
        exact ⟨ret_bool F.out, Below.drewN' _ _ _⟩
  · have F := Lib.hid (show false = decide (l = k) from no_bool (fun e => hn (by rw [en, en2, e])))
    have t1 : ((n : Int) != m) = true := by rw [bne_iff_ne]; omega
    clear en en2 hc hc2 hn
    go_enter Tryz.func83, Tryz.ntmps83
    go_wp2
    go_ret
    exact ⟨ret_bool F.out, Below.refl _ _⟩
/-- vokref.Days -/
theorem days_any (w : World) (A B : Option Addr) (n c m d : Nat) (l k : List Dy) (hl : DyAt w A n l) (hk : DyAt w B m k) (h1 : n ≤ 9223372036854775807) (h2 : m ≤ 9223372036854775807) :
    Calls Tryz.prog 84 #[.slice A n c, .slice B m d] w fun e w' => e = .returned (.bool (decide (l = k))) ∧ Below w.heap.size w w' := by
  obtain ⟨en, hc⟩ := hl
  obtain ⟨en2, hc2⟩ := hk
  by_cases hn : n = m
  · subst hn
    have EN := Lib.hid en
    have EN2 := Lib.hid en2
    clear en en2
    go_enter Tryz.func84, Tryz.ntmps84
    go_wp2
    go_loopw [5] (fun i wr => ∃ t : Nat, t ≤ n ∧ i = .int .i64 t ∧ Hid (dyTo l k t) ∧ ∃ q : Nat, wr = w.drewN q) (fun i _ => n - (intOf i).toNat)
    case atStart => exact ⟨0, Nat.zero_le _, rfl, Lib.hid (fun j hj => absurd hj (by omega)), 0, rfl⟩
    case round =>
      obtain ⟨t, ht, rfl, D, q, rfl⟩ := hrel
      by_cases hlt : t < n
      · obtain ⟨b, off, rfl, hb, hcc⟩ := hc (by omega)
        obtain ⟨b2, off2, rfl, hb2, hcc2⟩ := hc2 (by omega)
        obtain ⟨c0, c1⟩ := hcc t hlt
        obtain ⟨d0, d1⟩ := hcc2 t hlt
        clear hc hc2 hcc hcc2
        have X := Lib.hid (fun (e1 : (dat l t).n = (dat k t).n) (e2 : (dat l t).w = (dat k t).w) => D.out.succ (by cases h1 : dat l t; cases h2 : dat k t; rw [h1, h2] at e1 e2; simp only at e1 e2; rw [e1, e2]))
        have F1 := Lib.hid (fun (h : (dat l t).n ≠ (dat k t).n) => show false = decide (l = k) from no_bool (fun e => h (by rw [e])))
        have F2 := Lib.hid (fun (h : (dat l t).w ≠ (dat k t).w) => show false = decide (l = k) from no_bool (fun e => h (by rw [e])))
        clear D
        by_cases p1 : (dat l t).n = (dat k t).n
        · have s1 : (((dat l t).n : Int) != (dat k t).n) = false := by rw [bne_eq_false_iff_eq]; exact p1
          by_cases p2 : (dat l t).w = (dat k t).w
          · have s2 : (((dat l t).w : Int) != (dat k t).w) = false := by rw [bne_eq_false_iff_eq]; exact p2
            have Y := Lib.hid (X.out p1 p2)
            clear p1 p2 X F1 F2
            go_wp2
            go_big_quiet (fail)
            go_wp2
            go_roundw
            case rel => exact ⟨t + 1, by omega, by go_num, Y, _, rfl⟩
            case measure => simp [intOf]; omega
          · have s2 : (((dat l t).w : Int) != (dat k t).w) = true := by rw [bne_iff_ne]; exact p2
            have F := Lib.hid (F2.out p2)
            clear p1 p2 X F1 F2
            go_wp2
            go_big_quiet (fail)
            go_wp2
            go_ret
            exact ⟨ret_bool F.out, (Below.drewN' _ _ _).trans (Below.drewN' _ _ _)⟩
        · have s1 : (((dat l t).n : Int) != (dat k t).n) = true := by rw [bne_iff_ne]; exact p1
          have F := Lib.hid (F1.out p1)
          clear p1 X F1 F2
          go_wp2
          go_big_quiet (fail)
          go_wp2
          go_ret
          exact ⟨ret_bool F.out, (Below.drewN' _ _ _).trans (Below.drewN' _ _ _)⟩
      · obtain rfl : n = t := by omega
        have F := Lib.hid (show true = decide (l = k) from yes_bool (dy_ext (by rw [← EN.out, ← EN2.out]) (by rw [← EN.out]; exact D.out)))
        go_wp2
        go_ret
        exact ⟨ret_bool F.out, Below.drewN' _ _ _⟩
  · have F := Lib.hid (show false = decide (l = k) from no_bool (fun e => hn (by rw [en, en2, e])))
    have t1 : ((n : Int) != m) = true := by rw [bne_iff_ne]; omega
    clear en en2 hc hc2 hn
    go_enter Tryz.func84, Tryz.ntmps84
    go_wp2
    go_ret
    exact ⟨ret_bool F.out, Below.refl _ _⟩
theorem rise_adj : ∀ {l : List Int}, (∀ j, j + 1 < l.length → iat l j < iat l (j + 1)) → l.Pairwise (· < ·)
  | [], _ => List.Pairwise.nil
  | [x], _ => by simp
  | x :: y :: l, h => by
    have ih := rise_adj (l := y :: l) fun j hj => h (j + 1) (by simpa using hj)
    have h0 : x < y := h 0 (by simp)
    rw [List.pairwise_cons] at ih ⊢
    refine ⟨fun z hz => ?_, List.pairwise_cons.2 ih⟩
    rcases List.mem_cons.1 hz with rfl | hz
    · exact h0
    · have := ih.1 z hz; omega
theorem rise_of {l : List Int} (h : riseB l = true) {j : Nat} (hj : j + 1 < l.length) : iat l j < iat l (j + 1) := by
  have := List.pairwise_iff_getElem.1 (of_decide_eq_true h) j (j + 1) (by omega) hj (by omega)
  rwa [iat_lt (by omega), iat_lt hj]
def riseTo (l : List Int) (k : Nat) : Prop := ∀ j, j + 1 < k → iat l j < iat l (j + 1)
theorem riseTo.succ {l : List Int} {k : Nat} (h : riseTo l k) (e : iat l (k - 1) < iat l k) : riseTo l (k + 1) := fun j hj => by
  by_cases c : j + 1 = k
  · subst c; simpa using e
  · exact h j (by omega)
/-- vokref.Rises -/
theorem rises_any (w : World) (A : Option Addr) (n c : Nat) (l : List Int) (hl : IsAt w A n l) (h1 : n ≤ 9223372036854775807) :
    Calls Tryz.prog 26 #[.slice A n c] w fun e w' => e = .returned (.bool (riseB l)) ∧ Below w.heap.size w w' := by
  obtain ⟨en, hc⟩ := hl
  have EN := Lib.hid en
  clear en
  go_enter Tryz.func26, Tryz.ntmps26
  go_wp2
  go_loopw [3] (fun i wr => ∃ t : Nat, 1 ≤ t ∧ (t ≤ n ∨ t = 1) ∧ i = .int .i64 t ∧ Hid (riseTo l t) ∧ ∃ q : Nat, wr = w.drewN q) (fun i _ => n - (intOf i).toNat)
  case atStart => exact ⟨1, Nat.le_refl _, .inr rfl, rfl, Lib.hid (fun j hj => absurd hj (by omega)), 0, rfl⟩
  case round =>
    obtain ⟨t, ht1, ht, rfl, D, q, rfl⟩ := hrel
    by_cases hlt : t < n
    · obtain ⟨b, off, rfl, hb, hcc⟩ := hc (by omega)
      have c0 := hcc t hlt
      have d0 := hcc (t - 1) (by omega)
      have X := Lib.hid (fun (e : iat l (t - 1) < iat l t) => D.out.succ e)
      have F := Lib.hid (fun (e : ¬ iat l (t - 1) < iat l t) => show false = riseB l from by
        cases g : riseB l
        · rfl
        · have := rise_of g (j := t - 1) (by rw [← EN.out]; omega)
          rw [show t - 1 + 1 = t from by omega] at this
          exact absurd this e)
      have w1 : IntKind.i64.wrap ((t : Int) - 1) = (t : Int) - 1 := IntWalk.i64_in _ (by omega)
      have w2 : ((t : Int) - 1).toNat = t - 1 := by omega
      have w3 : (0 : Int) ≤ (t : Int) - 1 := by omega
      have w4 : (t : Int) - 1 < (n : Int) := by omega
      have w5 : (1 : Int) ≤ (t : Int) := by omega
      clear hc hcc D
      by_cases he : iat l (t - 1) < iat l t
      · have Y := Lib.hid (X.out he)
        have e1 : decide (iat l t ≤ iat l (t - 1)) = false := decide_eq_false (by omega)
        clear he X F
        generalize iat l t = s at *
        generalize iat l (t - 1) = s2 at *
        go_wp2
        go_big_quiet (fail)
        go_wp2
        go_roundw
        case rel => exact ⟨t + 1, by omega, .inl (by omega), by go_num, Y, _, rfl⟩
        case measure => simp [intOf]; omega
      · have G := Lib.hid (F.out he)
        have e1 : decide (iat l t ≤ iat l (t - 1)) = true := decide_eq_true (by omega)
        clear he X F
        generalize iat l t = s at *
        generalize iat l (t - 1) = s2 at *
        go_wp2
        go_big_quiet (fail)
        go_wp2
        go_ret
        exact ⟨ret_bool G.out, (Below.drewN' _ _ _).trans (Below.drewN' _ _ _)⟩
    · have F := Lib.hid (show true = riseB l from yes_bool (rise_adj fun j hj => D.out j (by rw [← EN.out] at hj; omega)))
      go_wp2
      go_ret
      exact ⟨ret_bool F.out, Below.drewN' _ _ _⟩
end Go.Proofs.YtkkmhjplfpdhcaaGreatDoor.Ru
