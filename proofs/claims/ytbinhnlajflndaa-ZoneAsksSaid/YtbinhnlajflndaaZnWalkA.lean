/- The walks of package zone's small functions, and of the document's own on yearly shifts, each a contract. -/
import Derived.Test.YtbinhnlajflndaaStWalkC
import Derived.Test.YtbinhnlajflndaaCvWalkS
import Derived.Test.YtbinhnlajflndaaStRDay
import Derived.Test.YtbinhnlajflndaaZnMath3
import Derived.Outline
set_option linter.unusedVariables false
namespace Go.Proofs.Ytbinhnlajflndaa.Zn
open Go.RowKit Cv St

/-- of what W held nothing has turned -/
structure At (W w : World) : Prop where
  below : Below W.heap.size W w
theorem At.refl {W : World} : At W W := ⟨Below.refl _ _⟩
theorem At.on {W w w' : World} (h : At W w) (hb : Below W.heap.size w w') : At W w' := ⟨h.below.trans hb⟩
theorem At.size {W w : World} (h : At W w) : W.heap.size ≤ w.heap.size := h.below.size
theorem At.drewN {W w : World} (h : At W w) (n : Nat) : At W (w.drewN n) := h.on (Below.drewN' _ _ _)
theorem At.alloc {W w : World} (h : At W w) (o : Obj) : At W (w.alloc o) := h.on ((Below.refl _ _).alloc h.size _)
theorem At.drew {W w : World} (h : At W w) : At W w.drew := h.on ((Below.refl _ _).drew)
theorem yr_bool {a b : Bool} (h : a = true ↔ b = true) : a = b := Bool.eq_iff_iff.2 h
theorem no_bool {p : Prop} [Decidable p] (h : ¬ p) : false = decide p := (decide_eq_false h).symm
theorem may_same (t : Int) : mayT t = may t := rfl
theorem mayOff_any (o : Int) (w : World) :
    Calls Try.prog 43 #[.int .i64 o] w fun e w' => e = .returned (.bool (offB o)) ∧ w = w' := by
  by_cases h1 : -64800 ≤ o
  · go_enter Try.func43, Try.ntmps43
    go_wp2
    go_ret
    exact ⟨ret_bool (by simp [offB, h1]), rfl⟩
  · have h2 : o < -64800 := by omega
    clear h1
    go_enter Try.func43, Try.ntmps43
    go_wp2
    go_ret
    exact ⟨ret_bool (by simp [offB]; omega), rfl⟩
theorem mayOff_yes (o : Int) (w : World) (h : offB o = true) :
    Calls Try.prog 43 #[.int .i64 o] w fun e w' => e = .returned (.bool true) ∧ w = w' := by
  have := mayOff_any o w; rwa [h] at this
theorem mayOff_no (o : Int) (w : World) (h : offB o = false) :
    Calls Try.prog 43 #[.int .i64 o] w fun e w' => e = .returned (.bool false) ∧ w = w' := by
  have := mayOff_any o w; rwa [h] at this
/-- a yearly shift as a value -/
abbrev yrV (r : Yr) : Value := .agg #[.int .i64 r.m, .int .i64 r.k, .int .i64 r.d, .int .i64 r.s, .int .i64 r.o]
abbrev shV (s : Sh) : Value := .agg #[.int .i64 s.t, .int .i64 s.o]
set_option maxHeartbeats 1000000 in
theorem mayYearly_any (r : Yr) (w : World) :
    Calls Try.prog 68 #[yrV r] w fun e w' => e = .returned (.bool (yrB r)) ∧ Below w.heap.size w w' := by
  obtain ⟨m, k, d, s, o⟩ := r
  show Calls _ _ #[.agg #[.int .i64 m, .int .i64 k, .int .i64 d, .int .i64 s, .int .i64 o]] _ _
  go_enter Try.func68, Try.ntmps68
  go_wp2_with (go_at_call 43; refine (mayOff_any _ _).mono ?_; rintro e w' ⟨rfl, rfl⟩)
  all_goals
    go_ret
    first
      | exact ⟨ret_bool (no_bool (by dsimp only; omega)), (Below.refl _ _).alloc (Nat.le_refl _) _⟩
      | exact ⟨ret_bool (yr_bool (by simp only [yrB, offB, decide_eq_true_eq]; omega)), (Below.refl _ _).alloc (Nat.le_refl _) _⟩
set_option maxHeartbeats 1000000 in
theorem right_any (r : Yr) (w : World) :
    Calls Try.prog 46 #[yrV r] w fun e w' => e = .returned (.bool (yrB r)) ∧ Below w.heap.size w w' := by
  obtain ⟨m, k, d, s, o⟩ := r
  show Calls _ _ #[.agg #[.int .i64 m, .int .i64 k, .int .i64 d, .int .i64 s, .int .i64 o]] _ _
  go_enter Try.func46, Try.ntmps46
  go_wp2
  all_goals
    go_ret
    first
      | exact ⟨ret_bool (no_bool (by dsimp only; omega)), (Below.refl _ _).alloc (Nat.le_refl _) _⟩
      | exact ⟨ret_bool (yr_bool (by simp only [yrB, decide_eq_true_eq]; omega)), (Below.refl _ _).alloc (Nat.le_refl _) _⟩
theorem yearOf_any' (u : Int) (w : World) (hu : mayT u = true) :
    Calls Try.prog 61 #[.int .i64 u] w fun e w' => e = .returned (.int .i64 (year u)) ∧ w = w' := by
  obtain ⟨h1, h2⟩ := mayT_of hu
  clear hu
  go_enter Try.func61, Try.ntmps61
  go_wp2_with fail
  refine (day_any _ _ (by omega) (by omega)).mono ?_
  rintro e w' ⟨rfl, rfl⟩
  go_wp2_with fail
  refine (yearDay_yes _ _ (by omega) (by omega)).mono ?_
  rintro e w' ⟨rfl, rfl⟩
  go_wp2
  go_ret
  exact ⟨rfl, rfl⟩
set_option maxHeartbeats 1000000 in
theorem inYear_any (r : Yr) (y : Int) (w : World) (hr : yrB r = true) (h1 : 1 ≤ y) (h2 : y ≤ 9999) :
    Calls Try.prog 63 #[yrV r, .int .i64 y] w fun e w' => e = .returned (shV (inY r y)) ∧ Below w.heap.size w w' := by
  obtain ⟨m, k, d, s, o⟩ := r
  obtain ⟨g1, g2, g3, g4, g5, g6, g7, g8, g9, g10⟩ := of_decide_eq_true hr
  simp only at g1 g2 g3 g4 g5 g6 g7 g8 g9 g10
  have hv := nth_ok (x := d) h1 h2 g1 g2 g3 g4
  have nb := num_bd hv
  have V := Lib.hid hv
  have M := Lib.hid (show mk y m (nth y m k d) 0 0 0 = 86400 * num y m (nth y m k d) from by unfold mk; omega)
  have T := Lib.hid (show time 0 0 0 = true from by decide)
  clear hv hr
  show Calls _ _ #[.agg #[.int .i64 m, .int .i64 k, .int .i64 d, .int .i64 s, .int .i64 o], .int .i64 y] _ _
  go_enter Try.func63, Try.ntmps63
  go_wp2_with fail
  refine (nth_yes _ _ _ _ _ h1 h2 g1 g2 g3 g4 g5 g6).mono ?_
  rintro e w' ⟨rfl, rfl⟩
  go_wp2_with fail
  refine (make_yes _ _ _ _ _ _ _ V.out T.out).mono ?_
  rintro e w' ⟨rfl, rfl⟩
  rw [M.out]
  go_wp2
  exact bodyPost_ret (v := .agg #[.int .i64 (86400 * num y m (nth y m k d) + s), .int .i64 o]) (by simp [results, Try.f63, go_sem]) rfl ⟨rfl, ((Below.refl _ _).alloc (Nat.le_refl _) _).alloc (by simp) _⟩
end Go.Proofs.Ytbinhnlajflndaa.Zn
