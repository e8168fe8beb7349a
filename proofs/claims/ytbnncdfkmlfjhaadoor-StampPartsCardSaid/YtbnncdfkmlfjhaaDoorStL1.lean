/- The walks of voklaw2's laws StampFields, StampParts, StampSums, StampRises, StampCuts, StampBack. -/
import Derived.Test.YtbnncdfkmlfjhaaDoorStFirst
import Derived.Test.YtbnncdfkmlfjhaaDoorStMath2
namespace Go.Proofs.YtbnncdfkmlfjhaaDoor.St
open Go.RowKit Cv

theorem mk_day {y mo d h mi s : Int} (ht : time h mi s = true) : mk y mo d h mi s / 86400 = num y mo d ∧ mk y mo d h mi s % 86400 = 3600 * h + 60 * mi + s := by
  obtain ⟨h1, h2, h3, h4, h5, h6⟩ := of_decide_eq_true ht
  unfold mk; omega
set_option maxHeartbeats 1000000 in
theorem stampFields_walk (y mo d h mi s : Int) (_ : -9223372036854775808 ≤ y) (_ : y ≤ 9223372036854775807) (_ : -9223372036854775808 ≤ mo) (_ : mo ≤ 9223372036854775807) (_ : -9223372036854775808 ≤ d) (_ : d ≤ 9223372036854775807) (_ : -9223372036854775808 ≤ h) (_ : h ≤ 9223372036854775807) (_ : -9223372036854775808 ≤ mi) (_ : mi ≤ 9223372036854775807) (_ : -9223372036854775808 ≤ s) (_ : s ≤ 9223372036854775807) (W : World) (ha : At W W) :
    Calls Tryd.prog 10 #[.int .i64 y, .int .i64 mo, .int .i64 d, .int .i64 h, .int .i64 mi, .int .i64 s] W fun e w' => e = .returned (.bool true) ∧ At W w' := by
  cases hv : valid y mo d
  · have V := Lib.hid hv; clear hv
    go_enter Tryd.func10, Tryd.ntmps10
    go_wp2_with fail
    refine (first_any W _ ha).mono ?_
    rintro e w1 ⟨rfl, a1⟩
    go_wp2_with fail
    refine (make_date _ _ _ _ _ _ _ V.out).mono ?_
    rintro e w' ⟨rfl, rfl⟩
    go_wp2_with fail
    refine (days_no _ _ _ _ V.out).mono ?_
    rintro e w' ⟨rfl, rfl⟩
    go_wp2_with fail
    refine (first_any W _ a1).mono ?_
    rintro e w2 ⟨rfl, a2⟩
    go_wp2
    go_ret
    exact ⟨rfl, a2⟩
  · cases ht : time h mi s
    · have V := Lib.hid hv; have T := Lib.hid ht
      rcases time_no ht with h1 | ⟨h1, h2⟩ | ⟨h1, h2, h3 | ⟨h3, h4⟩ | ⟨h3, h4, h5 | ⟨h5, h6⟩⟩⟩
      all_goals
        try have z : decide (s ≤ 59) = false := decide_eq_false (by omega)
        clear hv ht
        go_enter Tryd.func10, Tryd.ntmps10
        go_wp2_with fail
        refine (first_any W _ ha).mono ?_
        rintro e w1 ⟨rfl, a1⟩
        go_wp2_with fail
        refine (make_time _ _ _ _ _ _ _ V.out T.out).mono ?_
        rintro e w' ⟨rfl, rfl⟩
        go_wp2_with fail
        refine (days_yes _ _ _ _ V.out).mono ?_
        rintro e w' ⟨rfl, rfl⟩
        go_wp2_with fail
        refine (first_any W _ a1).mono ?_
        rintro e w2 ⟨rfl, a2⟩
        go_wp2
        go_ret
        exact ⟨rfl, a2⟩
    · obtain ⟨h1, h2, h3, h4, h5, h6⟩ := of_decide_eq_true ht
      obtain ⟨e1, e2⟩ := mk_day (y := y) (mo := mo) (d := d) ht
      have M := mk_may hv ht
      obtain ⟨m1, m2⟩ := of_decide_eq_true M
      have b1 : ((mk y mo d h mi s / 86400 : Int) == num y mo d) = true := by rw [beq_iff_eq]; exact e1
      have b2 : ((mk y mo d h mi s % 86400 : Int) == 3600 * h + 60 * mi + s) = true := by rw [beq_iff_eq]; exact e2
      have V := Lib.hid hv; have T := Lib.hid ht; have M' := Lib.hid M
      clear hv ht M e1 e2
      go_enter Tryd.func10, Tryd.ntmps10
      go_wp2_with fail
      refine (first_any W _ ha).mono ?_
      rintro e w1 ⟨rfl, a1⟩
      go_wp2_with fail
      refine (make_yes _ _ _ _ _ _ _ V.out T.out).mono ?_
      rintro e w' ⟨rfl, rfl⟩
      go_wp2_with fail
      refine (days_yes _ _ _ _ V.out).mono ?_
      rintro e w' ⟨rfl, rfl⟩
      go_wp2_with fail
      refine (day_any _ _ (by omega) (by omega)).mono ?_
      rintro e w' ⟨rfl, rfl⟩
      go_wp2_with fail
      refine (first_any W _ a1).mono ?_
      rintro e w2 ⟨rfl, a2⟩
      go_wp2_with fail
      refine (may_yes _ _ M'.out).mono ?_
      rintro e w' ⟨rfl, rfl⟩
      go_wp2
      go_ret
      exact ⟨rfl, a2⟩
set_option maxHeartbeats 400000 in
theorem stampParts_walk (t : Int) (t1 : -9223372036854775808 ≤ t) (t2 : t ≤ 9223372036854775807) (W : World) (ha : At W W) :
    Calls Tryd.prog 8 #[.int .i64 t] W fun e w' => e = .returned (.bool true) ∧ At W w' := by
  have s1 : 0 ≤ t % 86400 := by omega
  have s2 : t % 86400 ≤ 86399 := by omega
  have e1 : ((t / 86400 * 86400 + t % 86400 : Int) != t) = false := by rw [bne_eq_false_iff_eq]; omega
  cases hm : may t
  · have M := Lib.hid hm; clear hm
    by_cases ht : -1125899906842624 < t ∧ t < 1125899906842624
    · obtain ⟨q1, q2⟩ := ht
      go_enter Tryd.func8, Tryd.ntmps8
      go_wp2_with fail
      refine (first_any W _ ha).mono ?_
      rintro e w1 ⟨rfl, a1⟩
      go_wp2_with fail
      refine (day_any _ _ (by omega) (by omega)).mono ?_
      rintro e w' ⟨rfl, rfl⟩
      go_wp2_with fail
      refine (add_may _ _ _ M.out).mono ?_
      rintro e w' ⟨rfl, rfl⟩
      go_wp2_with fail
      refine (may_no _ _ M.out).mono ?_
      rintro e w' ⟨rfl, rfl⟩
      go_wp2_with fail
      refine (first_any W _ a1).mono ?_
      rintro e w2 ⟨rfl, a2⟩
      go_wp2
      go_ret
      exact ⟨rfl, a2⟩
    · by_cases q1 : -1125899906842624 < t
      · have q2 : 1125899906842624 ≤ t := by omega
        clear ht
        go_enter Tryd.func8, Tryd.ntmps8
        go_wp2_with fail
        refine (first_any W _ ha).mono ?_
        rintro e w1 ⟨rfl, a1⟩
        go_wp2_with fail
        refine (day_any _ _ (by omega) (by omega)).mono ?_
        rintro e w' ⟨rfl, rfl⟩
        go_wp2_with fail
        refine (add_may _ _ _ M.out).mono ?_
        rintro e w' ⟨rfl, rfl⟩
        go_wp2_with fail
        refine (may_no _ _ M.out).mono ?_
        rintro e w' ⟨rfl, rfl⟩
        go_wp2_with fail
        refine (first_any W _ a1).mono ?_
        rintro e w2 ⟨rfl, a2⟩
        go_wp2
        go_ret
        exact ⟨rfl, a2⟩
      · clear ht
        go_enter Tryd.func8, Tryd.ntmps8
        go_wp2_with fail
        refine (first_any W _ ha).mono ?_
        rintro e w1 ⟨rfl, a1⟩
        go_wp2_with fail
        refine (day_any _ _ (by omega) (by omega)).mono ?_
        rintro e w' ⟨rfl, rfl⟩
        go_wp2_with fail
        refine (add_may _ _ _ M.out).mono ?_
        rintro e w' ⟨rfl, rfl⟩
        go_wp2_with fail
        refine (may_no _ _ M.out).mono ?_
        rintro e w' ⟨rfl, rfl⟩
        go_wp2_with fail
        refine (first_any W _ a1).mono ?_
        rintro e w2 ⟨rfl, a2⟩
        go_wp2
        go_ret
        exact ⟨rfl, a2⟩
  · obtain ⟨q1, q2⟩ := of_decide_eq_true hm
    have M := Lib.hid hm
    cases hs : may (t + 1)
    · have S := Lib.hid hs; clear hm hs
      go_enter Tryd.func8, Tryd.ntmps8
      go_wp2_with fail
      refine (first_any W _ ha).mono ?_
      rintro e w1 ⟨rfl, a1⟩
      go_wp2_with fail
      refine (day_any _ _ (by omega) (by omega)).mono ?_
      rintro e w' ⟨rfl, rfl⟩
      go_wp2_with fail
      refine (add_no _ _ _ M.out S.out).mono ?_
      rintro e w' ⟨rfl, rfl⟩
      go_wp2_with fail
      refine (may_yes _ _ M.out).mono ?_
      rintro e w' ⟨rfl, rfl⟩
      go_wp2_with fail
      refine (first_any W _ a1).mono ?_
      rintro e w2 ⟨rfl, a2⟩
      go_wp2_with fail
      refine (may_no _ _ S.out).mono ?_
      rintro e w' ⟨rfl, rfl⟩
      go_wp2
      go_ret
      exact ⟨rfl, a2⟩
    · have S := Lib.hid hs; clear hm hs
      go_enter Tryd.func8, Tryd.ntmps8
      go_wp2_with fail
      refine (first_any W _ ha).mono ?_
      rintro e w1 ⟨rfl, a1⟩
      go_wp2_with fail
      refine (day_any _ _ (by omega) (by omega)).mono ?_
      rintro e w' ⟨rfl, rfl⟩
      go_wp2_with fail
      refine (add_yes _ _ _ M.out S.out).mono ?_
      rintro e w' ⟨rfl, rfl⟩
      go_wp2_with fail
      refine (may_yes _ _ M.out).mono ?_
      rintro e w' ⟨rfl, rfl⟩
      go_wp2_with fail
      refine (first_any W _ a1).mono ?_
      rintro e w2 ⟨rfl, a2⟩
      go_wp2
      go_ret
      exact ⟨rfl, a2⟩
end Go.Proofs.YtbnncdfkmlfjhaaDoor.St
