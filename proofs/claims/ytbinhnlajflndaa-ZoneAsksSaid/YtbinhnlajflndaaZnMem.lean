/- What package zone's walks share: a slice of shifts, of yearly shifts, as a list; below the world that a law began in nothing turns. -/
import Derived.Test.YtbinhnlajflndaaZnWalkA
import Derived.LoopTactic
import Derived.Deep.QuietTactic
import Derived.BigQuiet
set_option linter.unusedVariables false
namespace Go.Proofs.Ytbinhnlajflndaa.Zn
open Go.RowKit Cv St

/-- the slice at A of n elements holds the shifts l, in W -/
def ShAt (W : World) (A : Option Addr) (n : Nat) (l : List Sh) : Prop :=
  n = l.length ∧ (0 < n → ∃ b off, A = some ⟨b, off, none⟩ ∧ b < W.heap.size ∧ ∀ j, j < n → W.cell? ⟨b, off + j * 2, none⟩ = some (.int .i64 (at_ l j).t) ∧ W.cell? ⟨b, off + j * 2 + 1, none⟩ = some (.int .i64 (at_ l j).o))
def yat (l : List Yr) (i : Nat) : Yr := l[i]?.getD ⟨0, 0, 0, 0, 0⟩
/-- the slice at A of n elements holds the yearly shifts ys, in W -/
def YrAt (W : World) (A : Option Addr) (n : Nat) (ys : List Yr) : Prop :=
  n = ys.length ∧ (0 < n → ∃ b off, A = some ⟨b, off, none⟩ ∧ b < W.heap.size ∧ ∀ j, j < n → W.cell? ⟨b, off + j * 5, none⟩ = some (.int .i64 (yat ys j).m) ∧ W.cell? ⟨b, off + j * 5 + 1, none⟩ = some (.int .i64 (yat ys j).k) ∧
    W.cell? ⟨b, off + j * 5 + 2, none⟩ = some (.int .i64 (yat ys j).d) ∧ W.cell? ⟨b, off + j * 5 + 3, none⟩ = some (.int .i64 (yat ys j).s) ∧ W.cell? ⟨b, off + j * 5 + 4, none⟩ = some (.int .i64 (yat ys j).o))
theorem ShAt.below {W w : World} {A : Option Addr} {n : Nat} {l : List Sh} (h : ShAt W A n l) (hb : Below W.heap.size W w) : ShAt w A n l :=
  ⟨h.1, fun h0 => by
    obtain ⟨b, off, e, hlt, hc⟩ := h.2 h0
    exact ⟨b, off, e, Nat.lt_of_lt_of_le hlt hb.size, fun j hj => ⟨(hb.cell (p := ⟨b, _, none⟩) hlt).trans (hc j hj).1, (hb.cell (p := ⟨b, _, none⟩) hlt).trans (hc j hj).2⟩⟩⟩
theorem YrAt.below {W w : World} {A : Option Addr} {n : Nat} {l : List Yr} (h : YrAt W A n l) (hb : Below W.heap.size W w) : YrAt w A n l :=
  ⟨h.1, fun h0 => by
    obtain ⟨b, off, e, hlt, hc⟩ := h.2 h0
    refine ⟨b, off, e, Nat.lt_of_lt_of_le hlt hb.size, fun j hj => ?_⟩
    obtain ⟨c0, c1, c2, c3, c4⟩ := hc j hj
    exact ⟨(hb.cell (p := ⟨b, _, none⟩) hlt).trans c0, (hb.cell (p := ⟨b, _, none⟩) hlt).trans c1, (hb.cell (p := ⟨b, _, none⟩) hlt).trans c2, (hb.cell (p := ⟨b, _, none⟩) hlt).trans c3, (hb.cell (p := ⟨b, _, none⟩) hlt).trans c4⟩⟩
theorem ShAt.nil (W : World) (A : Option Addr) : ShAt W A 0 [] := ⟨rfl, fun h => absurd h (by omega)⟩
theorem YrAt.nil (W : World) (A : Option Addr) : YrAt W A 0 [] := ⟨rfl, fun h => absurd h (by omega)⟩
theorem okTo_succ {l : List Sh} {k : Nat} : okTo l (k + 1) = (okTo l k && okAt l k) := by
  unfold okTo; rw [List.range_succ, List.all_append]; simp
theorem okTo_no {l : List Sh} {n k : Nat} (hk : k < n) (hn : n ≤ 64) (e : n = l.length) (h : okAt l k = false) : false = shB l := by
  unfold shB
  have : okTo l l.length = false := by
    cases c : okTo l l.length
    · rfl
    · have := List.all_eq_true.1 c k (by simpa using e ▸ hk)
      rw [h] at this; cases this
  rw [this]; simp
theorem shB_long {l : List Sh} {n : Nat} (hn : 64 < n) (e : n = l.length) : false = shB l := by
  unfold shB; rw [← e]; simp; omega
theorem shB_yes {l : List Sh} {n : Nat} (hn : n ≤ 64) (e : n = l.length) (h : okTo l n = true) : true = shB l := by
  unfold shB; rw [← e, h]; simp; omega
set_option maxHeartbeats 1000000 in
theorem mayShifts_any (W w : World) (A : Option Addr) (n c : Nat) (l : List Sh) (h : ShAt W A n l) (hn : n ≤ 9223372036854775807) (ha : At W w) :
    Calls Try.prog 44 #[.slice A n c] w fun e w' => e = .returned (.bool (shB l)) ∧ At W w' := by
  obtain ⟨en, hc⟩ := h
  have EN := Lib.hid en
  clear en
  by_cases h64 : n ≤ 64
  · go_enter Try.func44, Try.ntmps44
    go_wp2
    go_loopw [10] (fun i wr => ∃ k : Nat, k ≤ n ∧ i = .int .i64 k ∧ Hid (okTo l k = true) ∧ At W wr) (fun i _ => n - (intOf i).toNat)
    case atStart => exact ⟨0, Nat.zero_le _, rfl, Lib.hid rfl, ha⟩
    case round =>
      obtain ⟨k, hk, rfl, D, hat⟩ := hrel
      by_cases hlt : k < n
      · obtain ⟨b, off, rfl, hb, hcc⟩ := hc (by omega)
        have hbw := Nat.lt_of_lt_of_le hb hat.size
        have c0 := (hat.below.cell (p := ⟨b, off + k * 2, none⟩) hb).trans (hcc k hlt).1
        have c1 := (hat.below.cell (p := ⟨b, off + k * 2 + 1, none⟩) hb).trans (hcc k hlt).2
        cases h1 : mayT (at_ l k).t
        · have F := Lib.hid (okTo_no (k := k) hlt h64 EN.out (by unfold okAt; rw [h1]; simp))
          have H1 := Lib.hid h1
          clear h1 hcc hc
          go_wp2_with (go_at_call 38; refine (may_no _ _ H1.out).mono ?_; rintro e w' ⟨rfl, rfl⟩)
          go_ret
          exact ⟨ret_bool F.out, hat.alloc _⟩
        · cases h2 : offB (at_ l k).o
          · have F := Lib.hid (okTo_no (k := k) hlt h64 EN.out (by unfold okAt; rw [h1, h2]; simp))
            have H1 := Lib.hid h1
            have H2 := Lib.hid h2
            clear h1 h2 hcc hc
            go_wp2_with (first | (go_at_call 38; refine (may_yes _ _ H1.out).mono ?_; rintro e w' ⟨rfl, rfl⟩) | (go_at_call 43; refine (mayOff_no _ _ H2.out).mono ?_; rintro e w' ⟨rfl, rfl⟩))
            go_ret
            exact ⟨ret_bool F.out, hat.alloc _⟩
          · have H1 := Lib.hid h1
            have H2 := Lib.hid h2
            obtain ⟨t1, t2⟩ := mayT_of h1
            cases k with
            | zero =>
              simp only [Nat.zero_mul, Nat.add_zero] at c0 c1
              have F := Lib.hid (show okTo l (0 + 1) = true from by rw [okTo_succ, D.out]; unfold okAt; rw [h1, h2]; rfl)
              clear h1 h2 hcc hc
              go_wp2_with (first | (go_at_call 38; refine (may_yes _ _ H1.out).mono ?_; rintro e w' ⟨rfl, rfl⟩) | (go_at_call 43; refine (mayOff_yes _ _ H2.out).mono ?_; rintro e w' ⟨rfl, rfl⟩))
              go_quiet (fail)
              go_wp2
              go_roundw
              case rel => exact ⟨0 + 1, by omega, by go_num, F, (hat.alloc _).drewN _⟩
              case measure => simp [intOf]; omega
            | succ k =>
              have h0 := okTo_at (l := l) (k := k + 1) (i := k) D.out (by omega)
              obtain ⟨s1, s2⟩ := mayT_of h0.1
              have d0 := (hat.below.cell (p := ⟨b, off + k * 2, none⟩) hb).trans (hcc k (by omega)).1
              by_cases h3 : (at_ l (k + 1)).t - (at_ l k).t < 200000
              · have F := Lib.hid (okTo_no (k := k + 1) hlt h64 EN.out (by unfold okAt; rw [h1, h2]; simp; omega))
                clear h1 h2 hcc hc h0
                go_wp2_with (first | (go_at_call 38; refine (may_yes _ _ H1.out).mono ?_; rintro e w' ⟨rfl, rfl⟩) | (go_at_call 43; refine (mayOff_yes _ _ H2.out).mono ?_; rintro e w' ⟨rfl, rfl⟩))
                go_quiet (fail)
                go_wp2
                go_ret
                exact ⟨ret_bool F.out, (hat.alloc _).drewN _⟩
              · have h4 : 200000 ≤ (at_ l (k + 1)).t - (at_ l k).t := by omega
                have F := Lib.hid (show okTo l (k + 1 + 1) = true from by rw [okTo_succ, D.out]; unfold okAt; rw [h1, h2]; simp; omega)
                clear h1 h2 hcc hc h0 h3
                go_wp2_with (first | (go_at_call 38; refine (may_yes _ _ H1.out).mono ?_; rintro e w' ⟨rfl, rfl⟩) | (go_at_call 43; refine (mayOff_yes _ _ H2.out).mono ?_; rintro e w' ⟨rfl, rfl⟩))
                go_quiet (fail)
                go_wp2
                go_roundw
                case rel => exact ⟨k + 1 + 1, by omega, by go_num, F, (hat.alloc _).drewN _⟩
                case measure => simp [intOf]; omega
      · obtain rfl : k = n := by omega
        go_wp2
        go_ret
        exact ⟨ret_bool (shB_yes h64 EN.out D.out), hat⟩
  · go_enter Try.func44, Try.ntmps44
    go_wp2
    go_ret
    exact ⟨ret_bool (shB_long (by omega) EN.out), ha⟩
end Go.Proofs.Ytbinhnlajflndaa.Zn
