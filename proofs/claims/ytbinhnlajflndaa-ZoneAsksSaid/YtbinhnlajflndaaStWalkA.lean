/- The walks of package stamp's functions that write: two, part, Text, DurText; and of those that only compute: Make, Day, May, Add. -/
import Derived.Test.YtbinhnlajflndaaStMem
import Derived.Outline
namespace Go.Proofs.Ytbinhnlajflndaa.St
open Go.RowKit Cv

theorem may_yes (t : Int) (w : World) (h : may t = true) :
    Calls Try.prog 38 #[.int .i64 t] w fun e w' => e = .returned (.bool true) ∧ w = w' := by
  obtain ⟨h1, h2⟩ := of_decide_eq_true h; clear h
  go_enter Try.func38, Try.ntmps38
  go_wp2
  go_ret
  exact ⟨rfl, rfl⟩
theorem may_no (t : Int) (w : World) (h : may t = false) :
    Calls Try.prog 38 #[.int .i64 t] w fun e w' => e = .returned (.bool false) ∧ w = w' := by
  have g := of_decide_eq_false h; clear h
  by_cases h1 : t < -62135596800
  · clear g
    go_enter Try.func38, Try.ntmps38
    go_wp2
    go_ret
    exact ⟨rfl, rfl⟩
  · have h2 : 253402300799 < t := by omega
    clear g
    go_enter Try.func38, Try.ntmps38
    go_wp2
    go_ret
    exact ⟨ret_bool (decide_eq_false (by omega)), rfl⟩
theorem may_any (t : Int) (w : World) :
    Calls Try.prog 38 #[.int .i64 t] w fun e w' => e = .returned (.bool (may t)) ∧ w = w' := by
  cases h : may t
  · exact may_no t w h
  · exact may_yes t w h
theorem time_no {h mi s : Int} (g : time h mi s = false) : h < 0 ∨ 0 ≤ h ∧ 23 < h ∨ 0 ≤ h ∧ h ≤ 23 ∧ (mi < 0 ∨ 0 ≤ mi ∧ 59 < mi ∨ 0 ≤ mi ∧ mi ≤ 59 ∧ (s < 0 ∨ 0 ≤ s ∧ 59 < s)) := by
  have := of_decide_eq_false g; omega
theorem make_date (y mo d h mi s : Int) (w : World) (hv : valid y mo d = false) :
    Calls Try.prog 59 #[.int .i64 y, .int .i64 mo, .int .i64 d, .int .i64 h, .int .i64 mi, .int .i64 s] w fun e w' => e = .returned (.tuple #[.int .i64 0, .int .i64 1]) ∧ w = w' := by
  have V := Lib.hid hv; clear hv
  go_enter Try.func59, Try.ntmps59
  go_wp2_with (go_at_call 77; refine (days_no _ _ _ _ V.out).mono ?_; rintro e w' ⟨rfl, rfl⟩)
  go_ret2
  exact ⟨rfl, rfl⟩
theorem make_time (y mo d h mi s : Int) (w : World) (hv : valid y mo d = true) (ht : time h mi s = false) :
    Calls Try.prog 59 #[.int .i64 y, .int .i64 mo, .int .i64 d, .int .i64 h, .int .i64 mi, .int .i64 s] w fun e w' => e = .returned (.tuple #[.int .i64 0, .int .i64 1]) ∧ w = w' := by
  have V := Lib.hid hv; clear hv
  rcases time_no ht with h1 | ⟨h1, h2⟩ | ⟨h1, h2, h3 | ⟨h3, h4⟩ | ⟨h3, h4, h5 | ⟨h5, h6⟩⟩⟩
  all_goals
    clear ht
    go_enter Try.func59, Try.ntmps59
    go_wp2_with (go_at_call 77; refine (days_yes _ _ _ _ V.out).mono ?_; rintro e w' ⟨rfl, rfl⟩)
    go_ret2
    exact ⟨rfl, rfl⟩
theorem make_yes (y mo d h mi s : Int) (w : World) (hv : valid y mo d = true) (ht : time h mi s = true) :
    Calls Try.prog 59 #[.int .i64 y, .int .i64 mo, .int .i64 d, .int .i64 h, .int .i64 mi, .int .i64 s] w fun e w' => e = .returned (.tuple #[.int .i64 (mk y mo d h mi s), .int .i64 0]) ∧ w = w' := by
  obtain ⟨h1, h2, h3, h4, h5, h6⟩ := of_decide_eq_true ht; clear ht
  obtain ⟨b1, b2⟩ := num_bd hv
  have V := Lib.hid hv; clear hv
  go_enter Try.func59, Try.ntmps59
  go_wp2_with (go_at_call 77; refine (days_yes _ _ _ _ V.out).mono ?_; rintro e w' ⟨rfl, rfl⟩)
  go_ret2
  exact ⟨rfl, rfl⟩
theorem make_any (y mo d h mi s a b : Int) (w : World) (hr : makeR y mo d h mi s = (a, b)) :
    Calls Try.prog 59 #[.int .i64 y, .int .i64 mo, .int .i64 d, .int .i64 h, .int .i64 mi, .int .i64 s] w fun e w' => e = .returned (.tuple #[.int .i64 a, .int .i64 b]) ∧ w = w' := by
  unfold makeR at hr
  cases hv : valid y mo d
  · rw [if_neg (by simp [hv])] at hr
    injection hr with h1 h2; subst h1 h2
    exact make_date y mo d h mi s w hv
  · cases ht : time h mi s
    · rw [if_neg (by simp [ht])] at hr
      injection hr with h1 h2; subst h1 h2
      exact make_time y mo d h mi s w hv ht
    · rw [if_pos ⟨hv, ht⟩] at hr
      injection hr with h1 h2; subst h1 h2
      exact make_yes y mo d h mi s w hv ht
theorem day_any (t : Int) (w : World) (h1 : -9223372036854775808 ≤ t) (h2 : t ≤ 9223372036854775807) :
    Calls Try.prog 78 #[.int .i64 t] w fun e w' => e = .returned (.tuple #[.int .i64 (t / 86400), .int .i64 (t % 86400)]) ∧ w = w' := by
  by_cases hn : 0 ≤ t
  · have g := Int.emod_nonneg t (b := 86400) (by omega)
    go_enter Try.func78, Try.ntmps78
    go_wp2
    go_ret2
    exact ⟨rfl, rfl⟩
  · obtain ⟨e1, e2, b1, b2, b3, b4⟩ := tday (t := t) (by omega) h1
    by_cases hz : t.tmod 86400 < 0
    · obtain ⟨e, f⟩ := e1 hz
      have E := Lib.hid e; have F := Lib.hid f; clear e f e1 e2
      go_enter Try.func78, Try.ntmps78
      go_wp2
      go_ret2
      exact ⟨ret_two E.out F.out, rfl⟩
    · obtain ⟨e, f⟩ := e2 hz
      have E := Lib.hid e; have F := Lib.hid f; clear e f e1 e2
      go_enter Try.func78, Try.ntmps78
      go_wp2
      go_ret2
      exact ⟨ret_two E.out F.out, rfl⟩
end Go.Proofs.Ytbinhnlajflndaa.St
