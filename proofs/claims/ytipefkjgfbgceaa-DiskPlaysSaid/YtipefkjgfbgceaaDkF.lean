/- A disk among a law's own memory; operations in memory; few. -/
import Derived.Test.YtipefkjgfbgceaaDkQ
import Derived.IntWalk
set_option linter.unusedVariables false
namespace Go.Proofs.Ytipefkjgfbgceaa.Dk
open Go.RowKit Fr

/-- of what W held nothing has turned; the law's own disk at p -/
structure Dsk (W w : World) (p : Nat) (R Y : Int) (l : List UInt8) (v : Value) : Prop where
  d : DkV 52 w p R Y l v
  hi : ∀ k, Ft p v k → W.heap.size ≤ k
  at_ : Below W.heap.size W w
theorem Dsk.below {W w w' : World} {p : Nat} {R Y : Int} {l : List UInt8} {v : Value} (h : Dsk W w p R Y l v) (b : Below w.heap.size w w') : Dsk W w' p R Y l v := ⟨h.d.below b, h.hi, h.at_.trans (b.mono h.at_.size)⟩
/-- what an operation leaves -/
theorem Dsk.next {W w w' : World} {p : Nat} {R Y R' Y' : Int} {l l' : List UInt8} {v v' : Value} (h : Dsk W w p R Y l v) (d : DkV 52 w' p R' Y' l' v') (k : Kp (Ft p v) w w') (n : New w v v') : Dsk W w' p R' Y' l' v' := by
  refine ⟨d, fun g hg => ?_, h.at_.trans (k.below h.at_.size h.hi)⟩
  rcases hg with hg | hg
  · exact h.hi g (.inl hg)
  · rcases n with n | n
    · exact h.hi g (.inr (n ▸ hg))
    · exact Nat.le_trans h.at_.size (n g hg)
/-- memory of the law's own that is no part of the disk -/
def Out (w : World) (p : Nat) (v : Value) (u : Value) : Prop := ∀ g, u.ownBlock = some g → g < w.heap.size ∧ ¬ Ft p v g
theorem Out.next {w w' : World} {p : Nat} {v v' u : Value} (h : Out w p v u) (k : Kp (Ft p v) w w') (n : New w v v') : Out w' p v' u := fun g hg => by
  obtain ⟨h1, h2⟩ := h g hg
  refine ⟨Nat.lt_of_lt_of_le h1 k.size, fun q => ?_⟩
  rcases q with q | q
  · exact h2 (.inl q)
  · rcases n with n | n
    · exact h2 (.inr (n ▸ q))
    · exact absurd (n g q) (by omega)
theorem Out.below {w w' : World} {p : Nat} {v u : Value} (h : Out w p v u) (b : Below w.heap.size w w') : Out w' p v u := fun g hg => ⟨Nat.lt_of_lt_of_le (h g hg).1 b.size, (h g hg).2⟩
/-- new memory is no part of the disk -/
theorem Out.of {T : TypeId} {w w' : World} {p : Nat} {R Y : Int} {l m : List UInt8} {v u : Value} (h : DkV T w p R Y l v) (o : OwnB w.heap.size w' u m) : Out w' p v u := fun g hg => by
  have q := World.ownsRow.lt o g hg
  refine ⟨q.2, fun z => ?_⟩
  rcases z with z | z
  · have := h.lt; omega
  · have := (World.ownsRow.lt h.own g z).2; omega
theorem own_out {w w' : World} {p B : Nat} {v u : Value} {m : List UInt8} (h : Out w p v u) (o : OwnB B w u m) (k : Kp (Ft p v) w w') : OwnB B w' u m := own_kp o k fun g hg => (h g hg).2
/-- an operation, where its bytes lie -/
structure OpS where
  k : Int
  n : Int
  A : Option Addr
  m : Nat
  c : Nat
  b : List UInt8
instance : Inhabited OpS := ⟨⟨0, 0, none, 0, 0, []⟩⟩
/-- a slice of operations that is read -/
def OsAt (W : World) (A : Option Addr) (n : Nat) (S : List OpS) : Prop :=
  n = S.length ∧ (0 < n → ∃ b off, A = some ⟨b, off, none⟩ ∧ b < W.heap.size ∧ ∀ j, j < n → W.cell? ⟨b, off + j * 3, none⟩ = some (.int .i64 (gt S j).k) ∧ W.cell? ⟨b, off + j * 3 + 1, none⟩ = some (.int .i64 (gt S j).n) ∧ W.cell? ⟨b, off + j * 3 + 2, none⟩ = some (.slice (gt S j).A (gt S j).m (gt S j).c) ∧
    BsAt W (gt S j).A (gt S j).m (gt S j).b ∧ (gt S j).m ≤ (gt S j).c ∧ ((gt S j).A = none → (gt S j).c = 0) ∧ (gt S j).c ≤ 9223372036854775807 ∧ -9223372036854775808 ≤ (gt S j).n ∧ (gt S j).n ≤ 9223372036854775807)
theorem OsAt.below {W w : World} {A : Option Addr} {n : Nat} {S : List OpS} (h : OsAt W A n S) (hb : Below W.heap.size W w) : OsAt w A n S := by
  refine ⟨h.1, fun h0 => ?_⟩
  obtain ⟨b, off, e, hlt, hc⟩ := h.2 h0
  refine ⟨b, off, e, Nat.lt_of_lt_of_le hlt hb.size, fun j hj => ?_⟩
  obtain ⟨c0, c1, c2, s, r⟩ := hc j hj
  exact ⟨(hb.cell (p := ⟨b, _, none⟩) hlt).trans c0, (hb.cell (p := ⟨b, _, none⟩) hlt).trans c1, (hb.cell (p := ⟨b, _, none⟩) hlt).trans c2, s.below hb, r⟩
theorem OsAt.nil (W : World) (A : Option Addr) : OsAt W A 0 [] := ⟨rfl, fun h => absurd h (by omega)⟩
/-- how many bytes, none counted beyond 20001 -/
def sumO (S : List OpS) : Nat → Nat
  | 0 => 0
  | t + 1 => sumO S t + min (gt S t).m 20001
theorem sumO_le (S : List OpS) : ∀ t, sumO S t ≤ 20001 * t
  | 0 => Nat.le_refl _
  | t + 1 => by have := sumO_le S t; unfold sumO; omega
theorem sumO_mono (S : List OpS) {a : Nat} : ∀ {b}, a ≤ b → sumO S a ≤ sumO S b
  | 0, h => by obtain rfl : a = 0 := by omega
               exact Nat.le_refl _
  | b + 1, h => by
    by_cases e : a = b + 1
    · subst e; exact Nat.le_refl _
    · have := sumO_mono S (a := a) (b := b) (by omega)
      show sumO S a ≤ sumO S b + min (gt S b).m 20001
      omega
theorem sumO_has (S : List OpS) {j t : Nat} (h : j < t) (hs : sumO S t ≤ 20000) : (gt S j).m ≤ 20000 ∧ sumO S (j + 1) = sumO S j + (gt S j).m := by
  have h1 := sumO_mono S (a := j + 1) (b := t) h
  have h2 : sumO S (j + 1) = sumO S j + min (gt S j).m 20001 := rfl
  rcases Nat.le_total (gt S j).m 20001 with q | q
  · rw [Nat.min_eq_left q] at h2
    exact ⟨by omega, h2⟩
  · rw [Nat.min_eq_right q] at h2
    omega
def fewO (S : List OpS) (n : Nat) : Bool := decide (n ≤ 200 ∧ sumO S (min n 200) ≤ 20000)
/-- one of them, in every later world -/
theorem os_cell {W : World} {A : Option Addr} {n : Nat} {S : List OpS} (h : OsAt W A n S) {t : Nat} (ht : t < n) : ∃ b off, A = some ⟨b, off, none⟩ ∧ ((gt S t).m ≤ (gt S t).c ∧ ((gt S t).A = none → (gt S t).c = 0) ∧ (gt S t).c ≤ 9223372036854775807 ∧ -9223372036854775808 ≤ (gt S t).n ∧ (gt S t).n ≤ 9223372036854775807) ∧
    ∀ w, Below W.heap.size W w → w.cell? ⟨b, off + t * 3, none⟩ = some (.int .i64 (gt S t).k) ∧ w.cell? ⟨b, off + t * 3 + 1, none⟩ = some (.int .i64 (gt S t).n) ∧ w.cell? ⟨b, off + t * 3 + 2, none⟩ = some (.slice (gt S t).A (gt S t).m (gt S t).c) ∧ BsAt w (gt S t).A (gt S t).m (gt S t).b := by
  obtain ⟨b, off, rfl, hb, hc⟩ := h.2 (by omega)
  obtain ⟨c0, c1, c2, s, r⟩ := hc t ht
  exact ⟨b, off, rfl, r, fun w hw => ⟨(hw.cell (p := ⟨b, _, none⟩) hb).trans c0, (hw.cell (p := ⟨b, _, none⟩) hb).trans c1, (hw.cell (p := ⟨b, _, none⟩) hb).trans c2, s.below hw⟩⟩
set_option maxRecDepth 100000 in
set_option maxHeartbeats 4000000 in
theorem fewo_is (w : World) (A : Option Addr) (n c : Nat) (S : List OpS) (h : OsAt w A n S) (hn : n ≤ 9223372036854775807) :
    Calls Try.prog 10 #[.slice A n c] w fun e w' => e = .returned (.bool (fewO S n)) ∧ w' = w := by
  have HA := Lib.hid h
  clear h
  go_enter Try.func10, Try.ntmps10
  go_wp2
  go_loop [3, 4] (fun s i => ∃ t : Nat, t ≤ n ∧ t ≤ 200 ∧ s = .int .i64 (sumO S t : Nat) ∧ i = .int .i64 t) (fun _ i => 200 - (intOf i).toNat)
  case atStart => exact ⟨0, Nat.zero_le _, Nat.zero_le _, rfl, rfl⟩
  case round =>
    obtain ⟨t, ht, ht2, rfl, rfl⟩ := hrel
    by_cases hlt : t < n ∧ t < 200
    · obtain ⟨h1, h2⟩ := hlt
      have s0 : decide ((t : Int) < n) = true := decide_eq_true (by omega)
      have s00 : decide (t < n) = true := decide_eq_true h1
      have s1 : decide ((t : Int) < 200) = true := decide_eq_true (by omega)
      have s11 : decide (t < 200) = true := decide_eq_true h2
      have i5 : (t : Int) < n := by omega
      obtain ⟨b, off, rfl, ⟨kk, -, kc, -, -⟩, hc⟩ := os_cell HA.out h1
      have x0 := (hc w (Below.refl _ _)).2.2.1
      have sl := sumO_le S t
      have SE := Lib.hid (show sumO S (t + 1) = sumO S t + min (gt S t).m 20001 from rfl)
      have kz := Nat.le_trans kk kc
      clear hc kk kc
      generalize (gt S t).m = z at *
      generalize (gt S t).A = az at *
      generalize (gt S t).c = cz at *
      generalize sumO S t = y at *
      have M1 : min (z : Int) 20001 = ((min z 20001 : Nat) : Int) := by omega
      by_cases hz : 20001 < z
      · go_wp2
        all_goals first
          | (exfalso; omega)
          | (go_round
             case rel => exact ⟨t + 1, by omega, by omega, by rw [SE.out, Nat.min_eq_right (by omega)]; first | rfl | (congr 1; omega), by go_num⟩
             case measure => simp [intOf]; omega)
      · go_wp2
        all_goals first
          | (exfalso; omega)
          | (go_round
             case rel => exact ⟨t + 1, by omega, by omega, by rw [SE.out]; first | rfl | (congr 1; omega), by go_num⟩
             case measure => simp [intOf]; omega)
    · obtain ⟨m, hm⟩ : ∃ m, min n 200 = m := ⟨_, rfl⟩
      obtain rfl : t = m := by omega
      by_cases h3 : n ≤ 200
      · obtain rfl : t = n := by omega
        have s0 : decide ((t : Int) ≤ 200) = true := decide_eq_true (by omega)
        have F := Lib.hid (show fewO S t = decide (sumO S t ≤ 20000) by unfold fewO; rw [hm]; simp [h3])
        generalize sumO S t = y at *
        by_cases hy : y ≤ 20000
        · have s4 : decide ((y : Int) ≤ 20000) = true := decide_eq_true (by omega)
          have G := Lib.hid (ret_bool (show true = fewO S t by rw [F.out]; exact (decide_eq_true hy).symm))
          go_wp2
          go_ret
          exact ⟨G.out, rfl⟩
        · have s4 : decide ((y : Int) ≤ 20000) = false := decide_eq_false (by omega)
          have G := Lib.hid (ret_bool (show false = fewO S t by rw [F.out]; exact (decide_eq_false hy).symm))
          go_wp2
          go_ret
          exact ⟨G.out, rfl⟩
      · obtain rfl : t = 200 := by omega
        have s0 : decide ((n : Int) ≤ 200) = false := decide_eq_false (by omega)
        have G := Lib.hid (ret_bool (show false = fewO S n by unfold fewO; simp [h3]))
        generalize sumO S 200 = y at *
        go_wp2
        go_ret
        exact ⟨G.out, rfl⟩
end Go.Proofs.Ytipefkjgfbgceaa.Dk
