/- The walks of the document's own answers on moments that only compute: vokref1's May, Day, Make, Add; and of voklaw2's law StampMakes. -/
import Derived.Test.YtbnncdfkmlfjhaaDoorStFirst
namespace Go.Proofs.YtbnncdfkmlfjhaaDoor.St
open Go.RowKit Cv
set_option linter.unusedVariables false

theorem rmay_yes (t : Int) (w : World) (h : may t = true) :
    Calls Tryd.prog 21 #[.int .i64 t] w fun e w' => e = .returned (.bool true) ∧ w = w' := by
  obtain ⟨h1, h2⟩ := of_decide_eq_true h; clear h
  have h3 : t < 253402300800 := by omega
  go_enter Tryd.func21, Tryd.ntmps21
  go_wp2
  go_ret
  exact ⟨rfl, rfl⟩
theorem rmay_no (t : Int) (w : World) (h : may t = false) :
    Calls Tryd.prog 21 #[.int .i64 t] w fun e w' => e = .returned (.bool false) ∧ w = w' := by
  have g := of_decide_eq_false h; clear h
  by_cases h1 : t < -62135596800
  · clear g
    go_enter Tryd.func21, Tryd.ntmps21
    go_wp2
    go_ret
    exact ⟨rfl, rfl⟩
  · have h2 : 253402300799 < t := by omega
    clear g
    go_enter Tryd.func21, Tryd.ntmps21
    go_wp2
    go_ret
    exact ⟨ret_bool (decide_eq_false (by omega)), rfl⟩
theorem rmay_any (t : Int) (w : World) :
    Calls Tryd.prog 21 #[.int .i64 t] w fun e w' => e = .returned (.bool (may t)) ∧ w = w' := by
  cases h : may t
  · exact rmay_no t w h
  · exact rmay_yes t w h
theorem rdown_day (t : Int) (w : World) (h1 : -9223372036854775808 ≤ t) (h2 : t ≤ 9223372036854775807) :
    Calls Tryd.prog 33 #[.int .i64 t, .int .i64 86400] w fun e w' => e = .returned (.int .i64 (t / 86400)) ∧ w = w' := by
  by_cases hn : 0 ≤ t
  · have g := Int.emod_nonneg t (b := 86400) (by omega)
    have g' : ¬ t % 86400 < 0 := by omega
    clear g
    go_enter Tryd.func33, Tryd.ntmps33
    go_wp2
    go_ret
    exact ⟨rfl, rfl⟩
  · obtain ⟨e1, e2, b1, b2, b3, b4⟩ := tday (t := t) (by omega) h1
    by_cases hz : t.tmod 86400 < 0
    · obtain ⟨e, f⟩ := e1 hz
      have E := Lib.hid e; clear e f e1 e2
      go_enter Tryd.func33, Tryd.ntmps33
      go_wp2
      go_ret
      exact ⟨ret_int E.out, rfl⟩
    · obtain ⟨e, f⟩ := e2 hz
      have E := Lib.hid e; clear e f e1 e2
      go_enter Tryd.func33, Tryd.ntmps33
      go_wp2
      go_ret
      exact ⟨ret_int E.out, rfl⟩
theorem rday_any (t : Int) (w : World) (h1 : -9223372036854775808 ≤ t) (h2 : t ≤ 9223372036854775807) :
    Calls Tryd.prog 17 #[.int .i64 t] w fun e w' => e = .returned (.tuple #[.int .i64 (t / 86400), .int .i64 (t % 86400)]) ∧ w = w' := by
  by_cases hn : 0 ≤ t
  · have g := Int.emod_nonneg t (b := 86400) (by omega)
    have g' : ¬ t % 86400 < 0 := by omega
    clear g
    go_enter Tryd.func17, Tryd.ntmps17
    go_wp2_with (go_at_call 33; refine (rdown_day _ _ h1 h2).mono ?_; rintro e w' ⟨rfl, rfl⟩)
    go_ret2
    exact ⟨rfl, rfl⟩
  · obtain ⟨e1, e2, b1, b2, b3, b4⟩ := tday (t := t) (by omega) h1
    by_cases hz : t.tmod 86400 < 0
    · obtain ⟨e, f⟩ := e1 hz
      have F := Lib.hid f; clear e f e1 e2
      go_enter Tryd.func17, Tryd.ntmps17
      go_wp2_with (go_at_call 33; refine (rdown_day _ _ h1 h2).mono ?_; rintro e w' ⟨rfl, rfl⟩)
      go_ret2
      exact ⟨ret_two rfl F.out, rfl⟩
    · obtain ⟨e, f⟩ := e2 hz
      have F := Lib.hid f; clear e f e1 e2
      go_enter Tryd.func17, Tryd.ntmps17
      go_wp2_with (go_at_call 33; refine (rdown_day _ _ h1 h2).mono ?_; rintro e w' ⟨rfl, rfl⟩)
      go_ret2
      exact ⟨ret_two rfl F.out, rfl⟩
set_option maxHeartbeats 800000 in
theorem rmake_is (y mo d h mi s a b : Int) (w : World) (hr : makeR y mo d h mi s = (a, b)) :
    Calls Tryd.prog 15 #[.int .i64 y, .int .i64 mo, .int .i64 d, .int .i64 h, .int .i64 mi, .int .i64 s] w fun e w' => e = .returned (.tuple #[.int .i64 a, .int .i64 b]) ∧ w = w' := by
  unfold makeR at hr
  cases hv : valid y mo d
  · rw [if_neg (by simp [hv])] at hr
    injection hr with h1 h2; subst h1 h2
    have V := Lib.hid hv; clear hv
    go_enter Tryd.func15, Tryd.ntmps15
    go_wp2_with (go_at_call 32; refine (rdays_no _ _ _ _ V.out).mono ?_; rintro e w' ⟨rfl, rfl⟩)
    go_ret2
    exact ⟨rfl, rfl⟩
  · cases ht : time h mi s
    · rw [if_neg (by simp [ht])] at hr
      injection hr with h1 h2; subst h1 h2
      have V := Lib.hid hv; clear hv
      rcases time_no ht with h1 | ⟨h1, h2⟩ | ⟨h1, h2, h3 | ⟨h3, h4⟩ | ⟨h3, h4, h5 | ⟨h5, h6⟩⟩⟩
      all_goals
        clear ht
        go_enter Tryd.func15, Tryd.ntmps15
        go_wp2_with (go_at_call 32; refine (rdays_yes _ _ _ _ V.out).mono ?_; rintro e w' ⟨rfl, rfl⟩)
        go_ret2
        exact ⟨rfl, rfl⟩
    · rw [if_pos ⟨hv, ht⟩] at hr
      injection hr with e1 e2; subst e1 e2
      obtain ⟨h1, h2, h3, h4, h5, h6⟩ := of_decide_eq_true ht; clear ht
      obtain ⟨b1, b2⟩ := num_bd hv
      have V := Lib.hid hv; clear hv
      go_enter Tryd.func15, Tryd.ntmps15
      go_wp2_with (go_at_call 32; refine (rdays_yes _ _ _ _ V.out).mono ?_; rintro e w' ⟨rfl, rfl⟩)
      go_ret2
      exact ⟨rfl, rfl⟩
def addR (t n : Int) : Int × Int := if may t = true ∧ may (t + n) = true then (t + n, 0) else (0, 1)
theorem add_is (t n a b : Int) (w : World) (hr : addR t n = (a, b)) :
    Calls Tryd.prog 18 #[.int .i64 t, .int .i64 n] w fun e w' => e = .returned (.tuple #[.int .i64 a, .int .i64 b]) ∧ w = w' := by
  unfold addR at hr
  cases hv : may t
  · rw [if_neg (by simp [hv])] at hr
    injection hr with h1 h2; subst h1 h2
    exact add_may t n w hv
  · cases ht : may (t + n)
    · rw [if_neg (by simp [ht])] at hr
      injection hr with h1 h2; subst h1 h2
      exact add_no t n w hv ht
    · rw [if_pos ⟨hv, ht⟩] at hr
      injection hr with h1 h2; subst h1 h2
      exact add_yes t n w hv ht
set_option maxHeartbeats 800000 in
theorem radd_is (t n a b : Int) (w : World) (hr : addR t n = (a, b)) :
    Calls Tryd.prog 19 #[.int .i64 t, .int .i64 n] w fun e w' => e = .returned (.tuple #[.int .i64 a, .int .i64 b]) ∧ w = w' := by
  unfold addR at hr
  cases hv : may t
  · rw [if_neg (by simp [hv])] at hr
    injection hr with h1 h2; subst h1 h2
    have M := Lib.hid hv; clear hv
    go_enter Tryd.func19, Tryd.ntmps19
    go_wp2_with (go_at_call 21; refine (rmay_no _ _ M.out).mono ?_; rintro e w' ⟨rfl, rfl⟩)
    go_ret2
    exact ⟨rfl, rfl⟩
  · obtain ⟨x1, x2⟩ := of_decide_eq_true hv
    have M := Lib.hid hv
    cases ht : may (t + n)
    · rw [if_neg (by simp [ht])] at hr
      injection hr with h1 h2; subst h1 h2
      have N := Lib.hid ht; clear hv
      by_cases l1 : n < -506804601600
      · clear ht
        go_enter Tryd.func19, Tryd.ntmps19
        go_wp2_with (go_at_call 21; refine (rmay_yes _ _ M.out).mono ?_; rintro e w' ⟨rfl, rfl⟩)
        go_ret2
        exact ⟨rfl, rfl⟩
      by_cases l2 : 506804601600 < n
      · clear ht
        go_enter Tryd.func19, Tryd.ntmps19
        go_wp2_with (go_at_call 21; refine (rmay_yes _ _ M.out).mono ?_; rintro e w' ⟨rfl, rfl⟩)
        go_ret2
        exact ⟨rfl, rfl⟩
      clear ht
      go_enter Tryd.func19, Tryd.ntmps19
      go_wp2_with fail
      refine (rmay_yes _ _ M.out).mono ?_
      rintro e w' ⟨rfl, rfl⟩
      go_wp2_with fail
      refine (rmay_no _ _ N.out).mono ?_
      rintro e w' ⟨rfl, rfl⟩
      go_wp2
      go_ret2
      exact ⟨rfl, rfl⟩
    · rw [if_pos ⟨hv, ht⟩] at hr
      injection hr with h1 h2; subst h1 h2
      obtain ⟨x3, x4⟩ := of_decide_eq_true ht
      have l1 : ¬ n < -506804601600 := by omega
      have l2 : ¬ 506804601600 < n := by omega
      have N := Lib.hid ht; clear hv ht
      go_enter Tryd.func19, Tryd.ntmps19
      go_wp2_with fail
      refine (rmay_yes _ _ M.out).mono ?_
      rintro e w' ⟨rfl, rfl⟩
      go_wp2_with fail
      refine (rmay_yes _ _ N.out).mono ?_
      rintro e w' ⟨rfl, rfl⟩
      go_wp2
      go_ret2
      exact ⟨rfl, rfl⟩
set_option maxHeartbeats 1000000 in
theorem stampMakes_walk (y mo d h mi s t n : Int) (y1 : -9223372036854775808 ≤ y) (y2 : y ≤ 9223372036854775807) (mo1 : -9223372036854775808 ≤ mo) (mo2 : mo ≤ 9223372036854775807) (d1 : -9223372036854775808 ≤ d) (d2 : d ≤ 9223372036854775807) (h1 : -9223372036854775808 ≤ h) (h2 : h ≤ 9223372036854775807) (mi1 : -9223372036854775808 ≤ mi) (mi2 : mi ≤ 9223372036854775807) (s1 : -9223372036854775808 ≤ s) (s2 : s ≤ 9223372036854775807) (t1 : -9223372036854775808 ≤ t) (t2 : t ≤ 9223372036854775807) (n1 : -9223372036854775808 ≤ n) (n2 : n ≤ 9223372036854775807) (W : World) (ha : At W W) :
    Calls Tryd.prog 3 #[.int .i64 y, .int .i64 mo, .int .i64 d, .int .i64 h, .int .i64 mi, .int .i64 s, .int .i64 t, .int .i64 n] W fun e w' => e = .returned (.bool true) ∧ At W w' := by
  obtain ⟨p, q, hp⟩ : ∃ p q, makeR y mo d h mi s = (p, q) := ⟨_, _, rfl⟩
  obtain ⟨u, v, hu⟩ : ∃ u v, addR t n = (u, v) := ⟨_, _, rfl⟩
  have P := Lib.hid hp; have U := Lib.hid hu; clear hp hu
  go_enter Tryd.func3, Tryd.ntmps3
  go_wp2_with fail
  refine (first_any W _ ha).mono ?_
  rintro e w1 ⟨rfl, at1⟩
  go_wp2_with fail
  refine (make_any _ _ _ _ _ _ _ _ _ P.out).mono ?_
  rintro e w' ⟨rfl, rfl⟩
  go_wp2_with fail
  refine (rmake_is _ _ _ _ _ _ _ _ _ P.out).mono ?_
  rintro e w' ⟨rfl, rfl⟩
  go_wp2_with fail
  refine (day_any _ _ t1 t2).mono ?_
  rintro e w' ⟨rfl, rfl⟩
  go_wp2_with fail
  refine (rday_any _ _ t1 t2).mono ?_
  rintro e w' ⟨rfl, rfl⟩
  go_wp2_with fail
  refine (add_is _ _ _ _ _ U.out).mono ?_
  rintro e w' ⟨rfl, rfl⟩
  go_wp2_with fail
  refine (radd_is _ _ _ _ _ U.out).mono ?_
  rintro e w' ⟨rfl, rfl⟩
  go_wp2_with fail
  refine (first_any W _ at1).mono ?_
  rintro e w2 ⟨rfl, at2⟩
  clear at1
  go_wp2_with fail
  refine (may_any _ _).mono ?_
  rintro e w' ⟨rfl, rfl⟩
  go_wp2_with fail
  refine (rmay_any _ _).mono ?_
  rintro e w' ⟨rfl, rfl⟩
  go_wp2
  go_ret
  exact ⟨rfl, at2⟩
end Go.Proofs.YtbnncdfkmlfjhaaDoor.St
