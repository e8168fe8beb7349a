/- The walks of package days' small functions: a day's date, a list asked, a year's length, a week's start. -/
import Derived.Test.YtkkmhjplfpdhcaaGreatDoorDyLaw
import Derived.Test.YtkkmhjplfpdhcaaGreatDoorRuRule
import Derived.Test.YtkkmhjplfpdhcaaGreatDoorStWalkA
set_option linter.unusedVariables false
namespace Go.Proofs.YtkkmhjplfpdhcaaGreatDoor.Dd
open Go.RowKit Cv St Ru

/-- a day's date, as days.date holds it -/
def dcells (n : Int) : Array Value := #[.int .i64 (yr n), .int .i64 (mon n), .int .i64 (dom n), .int .i64 (yd n), .int .i64 (wd n)]
set_option maxRecDepth 100000 in
set_option maxHeartbeats 2000000 in
/-- days.dateOf -/
theorem dateOf_yes (n : Int) (w : World) (h1 : -719162 ≤ n) (h2 : n ≤ 2932896) :
    Calls Tryz.prog 46 #[.int .i64 n] w fun e w' => e = .returned (.tuple #[.agg (dcells n), .bool true]) ∧ Below w.heap.size w w' := by
  go_enter Tryz.func46, Tryz.ntmps46
  go_wp2_with (first
    | (go_at_call 22; refine (date_yes _ _ h1 h2).mono ?_; rintro e w' ⟨rfl, rfl⟩)
    | (go_at_call 97; refine (yearDay_yes _ _ h1 h2).mono ?_; rintro e w' ⟨rfl, rfl⟩)
    | (go_at_call 27; refine (weekday_any _ _).mono ?_; rintro e w' ⟨rfl, rfl⟩))
  exact bodyPost_ret (v := .tuple #[.agg (dcells n), .bool true]) (by simp [results, Tryz.results46, go_sem, dcells, yd]) rfl ⟨rfl, alloc_below _ _⟩
set_option maxRecDepth 100000 in
set_option maxHeartbeats 2000000 in
theorem dateOf_no (n : Int) (w : World) (h : ¬ (-719162 ≤ n ∧ n ≤ 2932896)) :
    Calls Tryz.prog 46 #[.int .i64 n] w fun e w' => e = .returned (.tuple #[.agg #[.int .i64 0, .int .i64 0, .int .i64 0, .int .i64 0, .int .i64 0], .bool false]) ∧ Below w.heap.size w w' := by
  have H := Lib.hid h
  clear h
  go_enter Tryz.func46, Tryz.ntmps46
  go_wp2_with (go_at_call 22; refine (date_no _ _ H.out).mono ?_; rintro e w' ⟨rfl, rfl⟩)
  exact bodyPost_ret (v := .tuple #[.agg #[.int .i64 0, .int .i64 0, .int .i64 0, .int .i64 0, .int .i64 0], .bool false]) (by simp [results, Tryz.results46, go_sem]) rfl ⟨rfl, alloc_below _ _⟩
/-- days.yearLength -/
theorem ylen_any (y : Int) (w : World) :
    Calls Tryz.prog 98 #[.int .i64 y] w fun e w' => e = .returned (.int .i64 (ylen y)) ∧ w = w' := by
  cases h : leap y
  · have G := Lib.hid (show (365 : Int) = ylen y by simp [ylen, lp, h])
    go_enter Tryz.func98, Tryz.ntmps98
    go_wp2_with (go_at_call 99; refine (leap_no _ _ h).mono ?_; rintro e w' ⟨rfl, rfl⟩)
    go_ret
    exact ⟨ret_int G.out, rfl⟩
  · have G := Lib.hid (show (366 : Int) = ylen y by simp [ylen, lp, h])
    go_enter Tryz.func98, Tryz.ntmps98
    go_wp2_with (go_at_call 99; refine (leap_yes _ _ h).mono ?_; rintro e w' ⟨rfl, rfl⟩)
    go_ret
    exact ⟨ret_int G.out, rfl⟩
/-- days.weekStart -/
theorem wst_any (n k : Int) (w : World) (h1 : -719162 ≤ n) (h2 : n ≤ 2932896) (k1 : 0 ≤ k) (k2 : k ≤ 6) :
    Calls Tryz.prog 48 #[.int .i64 n, .int .i64 k] w fun e w' => e = .returned (.int .i64 (wst n k)) ∧ w = w' := by
  obtain ⟨d1, d2⟩ := wd_bd n
  have G := Lib.hid (show n - (wd n - k) % 7 = wst n k from rfl)
  go_enter Tryz.func48, Tryz.ntmps48
  go_wp2_with (go_at_call 27; refine (weekday_any _ _).mono ?_; rintro e w' ⟨rfl, rfl⟩)
  go_ret
  exact ⟨ret_int G.out, rfl⟩
def hasTo (l : List Int) (f b : Int) (k : Nat) : Prop := ∀ j, j < k → iat l j ≠ f ∧ iat l j ≠ b
theorem hasTo.succ {l : List Int} {f b : Int} {k : Nat} (h : hasTo l f b k) (e1 : iat l k ≠ f) (e2 : iat l k ≠ b) : hasTo l f b (k + 1) := fun j hj => by
  by_cases c : j = k
  · subst c; exact ⟨e1, e2⟩
  · exact h j (by omega)
theorem has_yes {l : List Int} {f b : Int} {k : Nat} (hk : k < l.length) (h : iat l k = f ∨ iat l k = b) : true = hasB l f b := by
  refine (decide_eq_true (.inr ?_)).symm
  rw [iat_lt hk] at h
  rcases h with h | h
  · exact .inl (h ▸ List.getElem_mem hk)
  · exact .inr (h ▸ List.getElem_mem hk)
theorem has_no {l : List Int} {f b : Int} (h0 : l ≠ []) (h : hasTo l f b l.length) : false = hasB l f b := by
  refine (decide_eq_false ?_).symm
  rintro (g | g | g)
  · exact h0 g
  · obtain ⟨j, hj, e⟩ := List.getElem_of_mem g
    exact (h j hj).1 (by rw [iat_lt hj]; exact e)
  · obtain ⟨j, hj, e⟩ := List.getElem_of_mem g
    exact (h j hj).2 (by rw [iat_lt hj]; exact e)
set_option maxHeartbeats 2000000 in
/-- days.has -/
theorem has_any (w : World) (A : Option Addr) (n c : Nat) (l : List Int) (f b : Int) (hl : IsAt w A n l) (h1 : n ≤ 9223372036854775807) :
    Calls Tryz.prog 53 #[.slice A n c, .int .i64 f, .int .i64 b] w fun e w' => e = .returned (.bool (hasB l f b)) ∧ Below w.heap.size w w' := by
  obtain ⟨en, hc⟩ := hl
  have EN := Lib.hid en
  clear en
  go_enter Tryz.func53, Tryz.ntmps53
  go_wp2
  go_loopw [11] (fun i wr => ∃ t : Nat, t ≤ n ∧ i = .int .i64 t ∧ Hid (hasTo l f b t) ∧ ∃ q : Nat, wr = w.drewN q) (fun i _ => n - (intOf i).toNat)
  case atStart => exact ⟨0, Nat.zero_le _, rfl, Lib.hid (fun j hj => absurd hj (by omega)), 0, rfl⟩
  case round =>
    obtain ⟨t, ht, rfl, D, q, rfl⟩ := hrel
    by_cases hlt : t < n
    · obtain ⟨bl, off, rfl, hb, hcc⟩ := hc (by omega)
      have c0 := hcc t hlt
      have Y := Lib.hid (fun (h : iat l t = f ∨ iat l t = b) => has_yes (f := f) (b := b) (by rw [← EN.out]; exact hlt) h)
      have X := Lib.hid (fun (e1 : iat l t ≠ f) (e2 : iat l t ≠ b) => D.out.succ e1 e2)
      clear hc hcc D
      by_cases p1 : iat l t = f
      · have e1 : ((iat l t : Int) == f) = true := by rw [beq_iff_eq]; exact p1
        have F := Lib.hid (Y.out (.inl p1))
        clear p1 X Y
        generalize iat l t = s at *
        go_wp2
        go_ret
        exact ⟨ret_bool F.out, Below.drewN' _ _ _⟩
      · have e1 : ((iat l t : Int) == f) = false := by rw [beq_eq_false_iff_ne]; exact p1
        by_cases p2 : iat l t = b
        · have e2 : ((iat l t : Int) == b) = true := by rw [beq_iff_eq]; exact p2
          have F := Lib.hid (Y.out (.inr p2))
          clear p1 p2 X Y
          generalize iat l t = s at *
          go_wp2
          go_ret
          exact ⟨ret_bool F.out, Below.drewN' _ _ _⟩
        · have e2 : ((iat l t : Int) == b) = false := by rw [beq_eq_false_iff_ne]; exact p2
          have F := Lib.hid (X.out p1 p2)
          clear p1 p2 X Y
          generalize iat l t = s at *
          go_wp2
          go_roundw
          case rel => exact ⟨t + 1, by omega, by go_num, F, _, rfl⟩
          case measure => simp [intOf]; omega
    · obtain rfl : n = t := by omega
      by_cases h0 : n = 0
      · have F := Lib.hid (show true = hasB l f b from by
          have : l = [] := List.length_eq_zero_iff.1 (by rw [← EN.out]; exact h0)
          rw [this]; exact (hasB_nil f b).symm)
        subst h0
        go_wp2
        go_ret
        exact ⟨ret_bool F.out, Below.drewN' _ _ _⟩
      · have F := Lib.hid (has_no (l := l) (f := f) (b := b) (fun e => h0 (by rw [EN.out, e]; rfl)) (by rw [← EN.out]; exact D.out))
        have e0 : ((n : Int) == 0) = false := by rw [beq_eq_false_iff_ne]; omega
        go_wp2
        go_ret
        exact ⟨ret_bool F.out, Below.drewN' _ _ _⟩
end Go.Proofs.YtkkmhjplfpdhcaaGreatDoor.Dd
