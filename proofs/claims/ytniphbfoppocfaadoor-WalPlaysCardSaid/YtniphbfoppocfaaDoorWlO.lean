/- Operations of a log in memory; voklaw15.few. -/
import Derived.Test.YtniphbfoppocfaaDoorWlF
import Derived.IntWalk
set_option linter.unusedVariables false
namespace Go.Proofs.YtniphbfoppocfaaDoor.Wl
open Go.RowKit Fr Dk

/-- an operation, where its bytes and its list lie -/
structure OpW where
  k : Int
  n : Int
  A : Option Addr
  m : Nat
  c : Nat
  b : List UInt8
  B : Option Addr
  N : Nat
  C : Nat
  P : List SlB
instance : Inhabited OpW := ⟨⟨0, 0, none, 0, 0, [], none, 0, 0, []⟩⟩
/-- what is told of one -/
def OpIn (W : World) (o : OpW) : Prop :=
  BsAt W o.A o.m o.b ∧ o.m ≤ o.c ∧ (o.A = none → o.c = 0) ∧ o.c ≤ 9223372036854775807 ∧ LsAt W o.B o.N o.P ∧ o.N ≤ 9223372036854775807 ∧ (∀ s ∈ o.P, s.c ≤ 9223372036854775807) ∧ -9223372036854775808 ≤ o.n ∧ o.n ≤ 9223372036854775807
theorem OpIn.below {W w : World} {o : OpW} (h : OpIn W o) (b : Below W.heap.size W w) : OpIn w o := ⟨h.1.below b, h.2.1, h.2.2.1, h.2.2.2.1, h.2.2.2.2.1.below b, h.2.2.2.2.2⟩
/-- a slice of operations that is read -/
def OsW (W : World) (A : Option Addr) (n : Nat) (S : List OpW) : Prop :=
  n = S.length ∧ (0 < n → ∃ b off, A = some ⟨b, off, none⟩ ∧ b < W.heap.size ∧ ∀ j, j < n → W.cell? ⟨b, off + j * 4, none⟩ = some (.int .i64 (gt S j).k) ∧ W.cell? ⟨b, off + j * 4 + 1, none⟩ = some (.int .i64 (gt S j).n) ∧ W.cell? ⟨b, off + j * 4 + 2, none⟩ = some (.slice (gt S j).A (gt S j).m (gt S j).c) ∧ W.cell? ⟨b, off + j * 4 + 3, none⟩ = some (.slice (gt S j).B (gt S j).N (gt S j).C) ∧ OpIn W (gt S j))
theorem OsW.below {W w : World} {A : Option Addr} {n : Nat} {S : List OpW} (h : OsW W A n S) (hb : Below W.heap.size W w) : OsW w A n S := by
  refine ⟨h.1, fun h0 => ?_⟩
  obtain ⟨b, off, e, hlt, hc⟩ := h.2 h0
  refine ⟨b, off, e, Nat.lt_of_lt_of_le hlt hb.size, fun j hj => ?_⟩
  obtain ⟨c0, c1, c2, c3, s⟩ := hc j hj
  exact ⟨(hb.cell (p := ⟨b, _, none⟩) hlt).trans c0, (hb.cell (p := ⟨b, _, none⟩) hlt).trans c1, (hb.cell (p := ⟨b, _, none⟩) hlt).trans c2, (hb.cell (p := ⟨b, _, none⟩) hlt).trans c3, s.below hb⟩
theorem OsW.nil (W : World) (A : Option Addr) : OsW W A 0 [] := ⟨rfl, fun h => absurd h (by omega)⟩
/-- one of them, in every later world -/
theorem ow_cell {W : World} {A : Option Addr} {n : Nat} {S : List OpW} (h : OsW W A n S) {t : Nat} (ht : t < n) : ∃ b off, A = some ⟨b, off, none⟩ ∧
    ∀ w, Below W.heap.size W w → w.cell? ⟨b, off + t * 4, none⟩ = some (.int .i64 (gt S t).k) ∧ w.cell? ⟨b, off + t * 4 + 1, none⟩ = some (.int .i64 (gt S t).n) ∧ w.cell? ⟨b, off + t * 4 + 2, none⟩ = some (.slice (gt S t).A (gt S t).m (gt S t).c) ∧ w.cell? ⟨b, off + t * 4 + 3, none⟩ = some (.slice (gt S t).B (gt S t).N (gt S t).C) ∧ OpIn w (gt S t) := by
  obtain ⟨b, off, rfl, hb, hc⟩ := h.2 (by omega)
  obtain ⟨c0, c1, c2, c3, s⟩ := hc t ht
  exact ⟨b, off, rfl, fun w hw => ⟨(hw.cell (p := ⟨b, _, none⟩) hb).trans c0, (hw.cell (p := ⟨b, _, none⟩) hb).trans c1, (hw.cell (p := ⟨b, _, none⟩) hb).trans c2, (hw.cell (p := ⟨b, _, none⟩) hb).trans c3, s.below hw⟩⟩
/-- how many bytes, of each none counted beyond 20001 -/
def sumB (S : List SlB) : Nat → Nat
  | 0 => 0
  | t + 1 => sumB S t + min (gt S t).k 20001
theorem sumB_le (S : List SlB) : ∀ t, sumB S t ≤ 20001 * t
  | 0 => Nat.le_refl _
  | t + 1 => by have := sumB_le S t; unfold sumB; omega
def sumW (S : List OpW) : Nat → Nat
  | 0 => 0
  | t + 1 => sumW S t + min (gt S t).m 20001 + sumB (gt S t).P (min (gt S t).N 300)
theorem sumW_le (S : List OpW) : ∀ t, sumW S t ≤ 6020301 * t
  | 0 => Nat.le_refl _
  | t + 1 => by
    have := sumW_le S t
    have := sumB_le (gt S t).P (min (gt S t).N 300)
    unfold sumW; omega
def shortW (S : List OpW) (t : Nat) : Prop := ∀ j, j < t → (gt S j).N ≤ 300
instance (S : List OpW) (t : Nat) : Decidable (shortW S t) := by unfold shortW; infer_instance
def fewW (S : List OpW) (n : Nat) : Bool := decide (shortW S (min n 100)) && decide (n ≤ 100 ∧ sumW S (min n 100) ≤ 20000)
set_option maxRecDepth 100000 in
set_option maxHeartbeats 8000000 in
theorem feww_is (w : World) (A : Option Addr) (n c : Nat) (S : List OpW) (h : OsW w A n S) (hn : n ≤ 9223372036854775807) :
    Calls Tryd.prog 10 #[.slice A n c] w fun e w' => e = .returned (.bool (fewW S n)) ∧ w' = w := by
  have HA := Lib.hid h
  clear h
  go_enter Tryd.func10, Tryd.ntmps10
  go_wp2
  go_loop [3, 4] (fun s i => ∃ t : Nat, t ≤ n ∧ t ≤ 100 ∧ s = .int .i64 (sumW S t : Nat) ∧ i = .int .i64 t ∧ Hid (shortW S t)) (fun _ i => 100 - (intOf i).toNat)
  case atStart => exact ⟨0, Nat.zero_le _, Nat.zero_le _, rfl, rfl, Lib.hid (fun j h => absurd h (by omega))⟩
  case round =>
    obtain ⟨t, ht, ht2, rfl, rfl, hsh⟩ := hrel
    by_cases hlt : t < n ∧ t < 100
    · obtain ⟨h1, h2⟩ := hlt
      have s0 : decide ((t : Int) < n) = true := decide_eq_true (by omega)
      have s00 : decide (t < n) = true := decide_eq_true h1
      have s1 : decide ((t : Int) < 100) = true := decide_eq_true (by omega)
      have s11 : decide (t < 100) = true := decide_eq_true h2
      have i5 : (t : Int) < n := by omega
      obtain ⟨b, off, rfl, hc⟩ := ow_cell HA.out h1
      obtain ⟨-, -, x2, x3, oi⟩ := hc w (Below.refl _ _)
      have LS := Lib.hid oi.2.2.2.2.1
      have CS := Lib.hid oi.2.2.2.2.2.2.1
      have sl := sumW_le S t
      have SE := Lib.hid (show sumW S (t + 1) = sumW S t + min (gt S t).m 20001 + sumB (gt S t).P (min (gt S t).N 300) from rfl)
      have SH := Lib.hid (fun (h : (gt S t).N ≤ 300) => show shortW S (t + 1) from fun j hj => by
        by_cases e : j = t
        · subst e; exact h
        · exact hsh.out j (by omega))
      have FF := Lib.hid (fun (h : ¬ (gt S t).N ≤ 300) => show false = fewW S n from by
        unfold fewW
        rw [decide_eq_false (fun z => h (z t (by omega))), Bool.false_and])
      have kz : (gt S t).m ≤ 9223372036854775807 := Nat.le_trans oi.2.1 oi.2.2.2.1
      have kN := oi.2.2.2.2.2.1
      clear hc oi hsh
      generalize (gt S t).m = z at *
      generalize (gt S t).A = az at *
      generalize (gt S t).c = cz at *
      generalize (gt S t).B = aB at *
      generalize (gt S t).N = N at *
      generalize (gt S t).C = C at *
      generalize (gt S t).P = P at *
      generalize sumW S t = y at *
      obtain ⟨Y0, hY⟩ : ∃ Y0, y + min z 20001 = Y0 := ⟨_, rfl⟩
      have HY := Lib.hid hY
      have yb : Y0 ≤ 1000000000 := by omega
      clear hY
      have sb := sumB_le P
      have SB := Lib.hid sb
      clear sb
      by_cases hz : 20001 < z
      all_goals
        go_wp2
        all_goals try (exfalso; omega)
        go_loop [3, 5] (fun s k => ∃ kk : Nat, kk ≤ N ∧ kk ≤ 300 ∧ s = .int .i64 ((Y0 + sumB P kk : Nat)) ∧ k = .int .i64 kk) (fun _ k => 300 - (intOf k).toNat)
        case atStart => exact ⟨0, Nat.zero_le _, Nat.zero_le _, by have := HY.out; have e : sumB P 0 = 0 := rfl; rw [e]; congr 1; omega, rfl⟩
        case round =>
          obtain ⟨kk, hk1, hk2, rfl, rfl⟩ := hrel
          have sk := SB.out kk
          by_cases hk : kk < N ∧ kk < 300
          · obtain ⟨h3, h4⟩ := hk
            obtain ⟨g, o2, rfl, hg, hcc⟩ := LS.out.2 (by omega)
            obtain ⟨c0, -, c2, -⟩ := hcc kk h3
            have hP := CS.out (gt P kk) (gt_mem (by have := LS.out.1; omega))
            have kk2 := Nat.le_trans c2 hP
            have SN := Lib.hid (show sumB P (kk + 1) = sumB P kk + min (gt P kk).k 20001 from rfl)
            unfold SlB.val at c0
            clear hcc c2 hP
            have k3 : decide ((kk : Int) < N) = true := decide_eq_true (by omega)
            have k33 : decide (kk < N) = true := decide_eq_true h3
            have k4 : decide ((kk : Int) < 300) = true := decide_eq_true (by omega)
            have k44 : decide (kk < 300) = true := decide_eq_true h4
            have k5 : (kk : Int) < N := by omega
            generalize (gt P kk).k = z2 at *
            generalize (gt P kk).A = a2 at *
            generalize (gt P kk).c = cc2 at *
            generalize sumB P kk = y2 at *
            by_cases hz2 : 20001 < z2
            all_goals
              go_wp2
              all_goals first
                | (exfalso; omega)
                | (go_round
                   case rel => exact ⟨kk + 1, by omega, by omega, by rw [SN.out]; first | rfl | (congr 1; omega), by go_num⟩
                   case measure => simp [intOf]; omega)
          · obtain ⟨m, hm⟩ : ∃ m, min N 300 = m := ⟨_, rfl⟩
            obtain rfl : kk = m := by omega
            have SM := Lib.hid (show Y0 + sumB P kk = y + min z 20001 + sumB P (min N 300) by rw [hm, ← HY.out])
            generalize sumB P kk = y2 at *
            by_cases h5 : N ≤ 300
            · have q5 : decide ((300 : Int) < N) = false := decide_eq_false (by omega)
              have SH2 := Lib.hid (SH.out h5)
              go_wp2
              all_goals first
                | (exfalso; omega)
                | (go_round
                   case rel => exact ⟨t + 1, by omega, by omega, by have e := SE.out; have f := SM.out; congr 1; omega, by go_num, SH2⟩
                   case measure => simp [intOf]; omega)
            · have q5 : decide ((300 : Int) < N) = true := decide_eq_true (by omega)
              have G := Lib.hid (ret_bool (FF.out h5))
              go_wp2
              all_goals first
                | (exfalso; omega)
                | (go_ret
                   exact ⟨G.out, rfl⟩)
    · obtain ⟨m, hm⟩ : ∃ m, min n 100 = m := ⟨_, rfl⟩
      obtain rfl : t = m := by omega
      by_cases h3 : n ≤ 100
      · obtain rfl : t = n := by omega
        have s0 : decide ((t : Int) ≤ 100) = true := decide_eq_true (by omega)
        have F := Lib.hid (show fewW S t = decide (sumW S t ≤ 20000) by unfold fewW; rw [hm, decide_eq_true hsh.out]; simp [h3])
        generalize sumW S t = y at *
        by_cases hy : y ≤ 20000
        · have s4 : decide ((y : Int) ≤ 20000) = true := decide_eq_true (by omega)
          have G := Lib.hid (ret_bool (show true = fewW S t by rw [F.out]; exact (decide_eq_true hy).symm))
          go_wp2
          go_ret
          exact ⟨G.out, rfl⟩
        · have s4 : decide ((y : Int) ≤ 20000) = false := decide_eq_false (by omega)
          have G := Lib.hid (ret_bool (show false = fewW S t by rw [F.out]; exact (decide_eq_false hy).symm))
          go_wp2
          go_ret
          exact ⟨G.out, rfl⟩
      · obtain rfl : t = 100 := by omega
        have s0 : decide ((n : Int) ≤ 100) = false := decide_eq_false (by omega)
        have G := Lib.hid (ret_bool (show false = fewW S n by unfold fewW; simp [h3]))
        generalize sumW S 100 = y at *
        go_wp2
        go_ret
        exact ⟨G.out, rfl⟩
end Go.Proofs.YtniphbfoppocfaaDoor.Wl
