/- The walks of voklaw3's laws that hold the program against itself. -/
import Derived.Test.YtbinhnlajflndaaZnFirst
set_option linter.unusedVariables false
namespace Go.Proofs.Ytbinhnlajflndaa.Zn
open Go.RowKit Cv St

def fewB (n n' : Nat) : Bool := decide (n ≤ 400 ∧ n' ≤ 400)
theorem few_any (w : World) (b f : Int) (A A' : Option Addr) (n c n' c' : Nat) :
    Calls Try.prog 12 #[.agg #[.int .i64 b, .slice A n c, .slice A' n' c', .int .i64 f]] w fun e w' => e = .returned (.bool (fewB n n')) ∧ Below w.heap.size w w' := by
  by_cases h : n ≤ 400
  · by_cases g : n' ≤ 400
    · have F := Lib.hid (show decide ((n' : Int) ≤ 400) = fewB n n' from yr_bool (by unfold fewB; simp only [decide_eq_true_eq]; omega))
      go_enter Try.func12, Try.ntmps12
      go_wp2
      go_ret
      exact ⟨ret_bool F.out, (Below.refl _ _).alloc (Nat.le_refl _) _⟩
    · have g' : 400 < n' := by omega
      have F := Lib.hid (show decide ((n' : Int) ≤ 400) = fewB n n' from yr_bool (by unfold fewB; simp only [decide_eq_true_eq]; omega))
      clear g
      go_enter Try.func12, Try.ntmps12
      go_wp2
      go_ret
      exact ⟨ret_bool F.out, (Below.refl _ _).alloc (Nat.le_refl _) _⟩
  · have h' : 400 < n := by omega
    have F := Lib.hid (show false = fewB n n' from no_bool (fun k => h k.1))
    clear h
    go_enter Try.func12, Try.ntmps12
    go_wp2
    go_ret
    exact ⟨ret_bool F.out, (Below.refl _ _).alloc (Nat.le_refl _) _⟩
theorem few_is (w : World) (b f : Int) (A A' : Option Addr) (n c n' c' : Nat) (x : Bool) (hx : fewB n n' = x) :
    Calls Try.prog 12 #[.agg #[.int .i64 b, .slice A n c, .slice A' n' c', .int .i64 f]] w fun e w' => e = .returned (.bool x) ∧ Below w.heap.size w w' := hx ▸ few_any w b f A A' n c n' c'
section
variable {b f : Int} {l : List Sh} {ys : List Yr}
theorem locR_eq (h : mayB b l ys f = true) {u : Int} (hu : mayT u = true) : locR b l ys f u = u + ofs b l ys f u := by unfold locR; simp [h, hu]
theorem offR_eq (h : mayB b l ys f = true) {u : Int} (hu : mayT u = true) : offR b l ys f u = ofs b l ys f u := by unfold offR; simp [h, hu]
theorem befR_eq (h : mayB b l ys f = true) {u : Int} (hu : mayT u = true) : befR b l ys f u = bef l ys f u := by unfold befR; simp [h, hu]
theorem aftR_eq (h : mayB b l ys f = true) {u : Int} (hu : mayT u = true) : aftR b l ys f u = aft l ys f u := by unfold aftR; simp [h, hu]
theorem utcR_eq (h : mayB b l ys f = true) {u : Int} (hu : mayL u = true) : utcR b l ys f u = utc b l ys f u := by unfold utcR; simp [h, hu]
/-- what ZoneBack says -/
theorem back_nums (h : mayB b l ys f = true) {u : Int} (hu : mayT u = true) (u1 : -60000000000 ≤ u) (u2 : u ≤ 250000000000) :
    ∃ L v, locR b l ys f u = L ∧ utcR b l ys f L = v ∧ locR b l ys f v = L ∧ v ≤ u ∧ u - v ≤ 129600 ∧ -9000000000000 ≤ L ∧ L ≤ 9000000000000 := by
  have bd := ofs_bd h hu
  have hL : mayL (u + ofs b l ys f u) = true := decide_eq_true ⟨by omega, by omega⟩
  obtain ⟨a1, a2, a3⟩ := law_back h hu hL
  have hv : mayT (utc b l ys f (u + ofs b l ys f u)) = true := decide_eq_true ⟨by omega, by omega⟩
  exact ⟨_, _, locR_eq h hu, utcR_eq h hL, by rw [locR_eq h hv]; exact a3, a1, a2, by omega, by omega⟩
theorem gap_nums (h : mayB b l ys f = true) {L : Int} (l1 : -60000000000 ≤ L) (l2 : L ≤ 250000000000) :
    ∃ v m, utcR b l ys f L = v ∧ locR b l ys f v = m ∧ -9000000000000 ≤ m ∧ m ≤ 9000000000000 ∧ (m = L ∨ (m ≠ L ∧ ∃ s o, befR b l ys f v = some s ∧ offR b l ys f (s.t - 1) = o ∧ L < m ∧ m - L = s.o - o ∧ s.t + o ≤ L ∧ L < s.t + s.o ∧ -64800 ≤ s.o ∧ s.o ≤ 64800 ∧ -64800 ≤ o ∧ o ≤ 64800)) := by
  have hL : mayL L = true := decide_eq_true ⟨by omega, by omega⟩
  have ui := utc_in h hL
  have hv : mayT (utc b l ys f L) = true := decide_eq_true ⟨by omega, by omega⟩
  have bd := ofs_bd h hv
  refine ⟨_, _, utcR_eq h hL, locR_eq h hv, by omega, by omega, ?_⟩
  by_cases c : utc b l ys f L + ofs b l ys f (utc b l ys f L) = L
  · exact .inl c
  · right
    obtain ⟨s, a1, a2, a3, a4, a5, a6, a7⟩ := law_gap h hL c
    have bo := ofs_bd h a7
    have i := bef_is h hv
    rw [a1] at i
    have bs := offB_of (is_may h i.1).2
    exact ⟨c, s, _, by rw [befR_eq h hv]; exact a1, offR_eq h a7, by rw [a2]; exact a3, by rw [a2]; exact a4, a5, a6, bs.1, bs.2, bo.1, bo.2⟩
theorem first_nums (h : mayB b l ys f = true) {L k : Int} (l1 : -60000000000 ≤ L) (l2 : L ≤ 250000000000) (k1 : 1 ≤ k) (k2 : k ≤ 129600) :
    ∃ v m, utcR b l ys f L = v ∧ locR b l ys f v = m ∧ -9000000000000 ≤ v ∧ v ≤ 9000000000000 ∧ (m = L → ∃ x, locR b l ys f (v - k) = x ∧ x ≠ L) := by
  have hL : mayL L = true := decide_eq_true ⟨by omega, by omega⟩
  have ui := utc_in h hL
  have hv : mayT (utc b l ys f L) = true := decide_eq_true ⟨by omega, by omega⟩
  have hk : mayT (utc b l ys f L - k) = true := decide_eq_true ⟨by omega, by omega⟩
  exact ⟨_, _, utcR_eq h hL, locR_eq h hv, by omega, by omega, fun c => ⟨_, locR_eq h hk, law_first h hL c k1 hk⟩⟩
theorem off_zero {u : Int} (h : (mayB b l ys f && mayT u) = false) : offR b l ys f u = 0 := by unfold offR; rw [h]; rfl
theorem few_may {n n' : Nat} (e : n = l.length) (e' : n' = ys.length) (h : fewB n n' = false) : mayB b l ys f = false := by
  cases c : mayB b l ys f
  · rfl
  · obtain ⟨_, h64, _, h4⟩ := may_of c
    have := of_decide_eq_false h
    rcases h4 with ⟨rfl, _⟩ | ⟨r, q, rfl, _⟩ <;> simp at e' <;> omega
end
end Go.Proofs.Ytbinhnlajflndaa.Zn
