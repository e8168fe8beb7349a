/- The walks of vokref1's May and Day. -/
import Derived.Test.YtbinhnlajflndaaStWalkA
import Derived.Test.YtbinhnlajflndaaCvWalkR
namespace Go.Proofs.Ytbinhnlajflndaa.St
open Go.RowKit Cv

theorem rmay_yes (t : Int) (w : World) (h : may t = true) :
    Calls Try.prog 40 #[.int .i64 t] w fun e w' => e = .returned (.bool true) ∧ w = w' := by
  obtain ⟨h1, h2⟩ := of_decide_eq_true h; clear h
  have h3 : t < 253402300800 := by omega
  go_enter Try.func40, Try.ntmps40
  go_wp2
  go_ret
  exact ⟨rfl, rfl⟩
theorem rmay_no (t : Int) (w : World) (h : may t = false) :
    Calls Try.prog 40 #[.int .i64 t] w fun e w' => e = .returned (.bool false) ∧ w = w' := by
  have g := of_decide_eq_false h; clear h
  by_cases h1 : t < -62135596800
  · clear g
    go_enter Try.func40, Try.ntmps40
    go_wp2
    go_ret
    exact ⟨rfl, rfl⟩
  · have h2 : 253402300799 < t := by omega
    clear g
    go_enter Try.func40, Try.ntmps40
    go_wp2
    go_ret
    exact ⟨ret_bool (decide_eq_false (by omega)), rfl⟩
theorem rmay_any (t : Int) (w : World) :
    Calls Try.prog 40 #[.int .i64 t] w fun e w' => e = .returned (.bool (may t)) ∧ w = w' := by
  cases h : may t
  · exact rmay_no t w h
  · exact rmay_yes t w h
theorem rdown_day (t : Int) (w : World) (h1 : -9223372036854775808 ≤ t) (h2 : t ≤ 9223372036854775807) :
    Calls Try.prog 69 #[.int .i64 t, .int .i64 86400] w fun e w' => e = .returned (.int .i64 (t / 86400)) ∧ w = w' := by
  by_cases hn : 0 ≤ t
  · have g := Int.emod_nonneg t (b := 86400) (by omega)
    have g' : ¬ t % 86400 < 0 := by omega
    clear g
    go_enter Try.func69, Try.ntmps69
    go_wp2
    go_ret
    exact ⟨rfl, rfl⟩
  · obtain ⟨e1, e2, b1, b2, b3, b4⟩ := tday (t := t) (by omega) h1
    by_cases hz : t.tmod 86400 < 0
    · obtain ⟨e, f⟩ := e1 hz
      have E := Lib.hid e; clear e f e1 e2
      go_enter Try.func69, Try.ntmps69
      go_wp2
      go_ret
      exact ⟨ret_int E.out, rfl⟩
    · obtain ⟨e, f⟩ := e2 hz
      have E := Lib.hid e; clear e f e1 e2
      go_enter Try.func69, Try.ntmps69
      go_wp2
      go_ret
      exact ⟨ret_int E.out, rfl⟩
theorem rday_any (t : Int) (w : World) (h1 : -9223372036854775808 ≤ t) (h2 : t ≤ 9223372036854775807) :
    Calls Try.prog 65 #[.int .i64 t] w fun e w' => e = .returned (.tuple #[.int .i64 (t / 86400), .int .i64 (t % 86400)]) ∧ w = w' := by
  by_cases hn : 0 ≤ t
  · have g := Int.emod_nonneg t (b := 86400) (by omega)
    have g' : ¬ t % 86400 < 0 := by omega
    clear g
    go_enter Try.func65, Try.ntmps65
    go_wp2_with (go_at_call 69; refine (rdown_day _ _ h1 h2).mono ?_; rintro e w' ⟨rfl, rfl⟩)
    go_ret2
    exact ⟨rfl, rfl⟩
  · obtain ⟨e1, e2, b1, b2, b3, b4⟩ := tday (t := t) (by omega) h1
    by_cases hz : t.tmod 86400 < 0
    · obtain ⟨e, f⟩ := e1 hz
      have F := Lib.hid f; clear e f e1 e2
      go_enter Try.func65, Try.ntmps65
      go_wp2_with (go_at_call 69; refine (rdown_day _ _ h1 h2).mono ?_; rintro e w' ⟨rfl, rfl⟩)
      go_ret2
      exact ⟨ret_two rfl F.out, rfl⟩
    · obtain ⟨e, f⟩ := e2 hz
      have F := Lib.hid f; clear e f e1 e2
      go_enter Try.func65, Try.ntmps65
      go_wp2_with (go_at_call 69; refine (rdown_day _ _ h1 h2).mono ?_; rintro e w' ⟨rfl, rfl⟩)
      go_ret2
      exact ⟨ret_two rfl F.out, rfl⟩
end Go.Proofs.Ytbinhnlajflndaa.St
