/- The walks of package iv's smallest functions: none, the closures that are searched and sorted by, vokref10.overlap. -/
import Derived.Test.YtjodhfehfpmfaaaIvMem
set_option linter.unusedVariables false
namespace Go.Proofs.Ytjodhfehfpmfaaa.Iv
open Go.RowKit

/-- iv.none -/
theorem none_is (x : Int × Int) (W : World) : Calls Try.prog 53 #[.agg #[.int .i64 x.1, .int .i64 x.2]] W fun e w' => e = .returned (.bool (decide (x.2 ≤ x.1))) ∧ w' = W.alloc (.cells #[.int .i64 x.1, .int .i64 x.2] 40) := by
  go_enter Try.func53, Try.ntmps53
  go_wp2
  go_ret
  exact ⟨rfl, rfl⟩
/-- what a search asks: does a span end behind lo? -/
theorem over1_is (p g n c : Nat) (A : Option Addr) (b1 b2 : Nat) (l : List Tg) (lo : Int) (i : Nat) (W : World) (h1 : W.cell? ⟨b1, 0, none⟩ = some (.pointer (some ⟨p, 0, none⟩))) (h2 : W.cell? ⟨b2, 0, none⟩ = some (.int .i64 lo)) (h3 : W.cell? ⟨p, 0, none⟩ = some (.slice A n c)) (hA : TgAt W A n l) (hi : i < n) (hn : n ≤ 1000000) :
    Calls Try.prog 95 #[.int .i64 i, .pointer (some ⟨b1, 0, none⟩), .pointer (some ⟨b2, 0, none⟩)] W fun e w' => e = .returned (.bool (decide (lo < (gt l i).1.2))) ∧ ∃ q, w' = W.drewN q := by
  obtain ⟨b, off, rfl, hb, hc⟩ := hA.2 (by omega)
  obtain ⟨-, c1, -⟩ := hc i hi
  clear hc hA
  have i1 : (i : Int) < n := by omega
  have i0 : (0 : Int) ≤ i := by omega
  generalize (gt l i).1.2 = x at *
  go_enter Try.func95, Try.ntmps95
  go_wp2
  go_big_quiet (fail)
  go_wp2
  go_ret
  exact ⟨rfl, _, rfl⟩
/-- .. does it begin at lo or behind? -/
theorem below1_is (n c : Nat) (A : Option Addr) (b1 b2 : Nat) (l : List Tg) (lo : Int) (i : Nat) (W : World) (h1 : W.cell? ⟨b1, 0, none⟩ = some (.slice A n c)) (h2 : W.cell? ⟨b2, 0, none⟩ = some (.int .i64 lo)) (hA : TgAt W A n l) (hi : i < n) (hn : n ≤ 1000000) :
    Calls Try.prog 115 #[.int .i64 i, .pointer (some ⟨b1, 0, none⟩), .pointer (some ⟨b2, 0, none⟩)] W fun e w' => e = .returned (.bool (decide (lo ≤ (gt l i).1.1))) ∧ ∃ q, w' = W.drewN q := by
  obtain ⟨b, off, rfl, hb, hc⟩ := hA.2 (by omega)
  obtain ⟨c1, -, -⟩ := hc i hi
  clear hc hA
  have i1 : (i : Int) < n := by omega
  have i0 : (0 : Int) ≤ i := by omega
  generalize (gt l i).1.1 = x at *
  go_enter Try.func115, Try.ntmps115
  go_wp2
  go_big_quiet (fail)
  go_wp2
  go_ret
  exact ⟨rfl, _, rfl⟩
end Go.Proofs.Ytjodhfehfpmfaaa.Iv
