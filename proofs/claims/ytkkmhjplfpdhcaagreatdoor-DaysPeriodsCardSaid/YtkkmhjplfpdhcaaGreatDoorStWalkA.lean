/- The walks of package stamp's functions that write: two, part, Text, DurText; and of those that only compute: Make, Day, May, Add. -/
import Derived.Test.YtkkmhjplfpdhcaaGreatDoorStMem
import Derived.Outline
namespace Go.Proofs.YtkkmhjplfpdhcaaGreatDoor.St
open Go.RowKit Cv

theorem may_yes (t : Int) (w : World) (h : may t = true) :
    Calls Tryz.prog 25 #[.int .i64 t] w fun e w' => e = .returned (.bool true) ∧ w = w' := by
  obtain ⟨h1, h2⟩ := of_decide_eq_true h; clear h
  go_enter Tryz.func25, Tryz.ntmps25
  go_wp2
  go_ret
  exact ⟨rfl, rfl⟩
theorem may_no (t : Int) (w : World) (h : may t = false) :
    Calls Tryz.prog 25 #[.int .i64 t] w fun e w' => e = .returned (.bool false) ∧ w = w' := by
  have g := of_decide_eq_false h; clear h
  by_cases h1 : t < -62135596800
  · clear g
    go_enter Tryz.func25, Tryz.ntmps25
    go_wp2
    go_ret
    exact ⟨rfl, rfl⟩
  · have h2 : 253402300799 < t := by omega
    clear g
    go_enter Tryz.func25, Tryz.ntmps25
    go_wp2
    go_ret
    exact ⟨ret_bool (decide_eq_false (by omega)), rfl⟩
theorem may_any (t : Int) (w : World) :
    Calls Tryz.prog 25 #[.int .i64 t] w fun e w' => e = .returned (.bool (may t)) ∧ w = w' := by
  cases h : may t
  · exact may_no t w h
  · exact may_yes t w h
theorem time_no {h mi s : Int} (g : time h mi s = false) : h < 0 ∨ 0 ≤ h ∧ 23 < h ∨ 0 ≤ h ∧ h ≤ 23 ∧ (mi < 0 ∨ 0 ≤ mi ∧ 59 < mi ∨ 0 ≤ mi ∧ mi ≤ 59 ∧ (s < 0 ∨ 0 ≤ s ∧ 59 < s)) := by
  have := of_decide_eq_false g; omega
theorem make_date (y mo d h mi s : Int) (w : World) (hv : valid y mo d = false) :
    Calls Tryz.prog 40 #[.int .i64 y, .int .i64 mo, .int .i64 d, .int .i64 h, .int .i64 mi, .int .i64 s] w fun e w' => e = .returned (.tuple #[.int .i64 0, .int .i64 1]) ∧ w = w' := by
  have V := Lib.hid hv; clear hv
  go_enter Tryz.func40, Tryz.ntmps40
  go_wp2_with (go_at_call 39; refine (days_no _ _ _ _ V.out).mono ?_; rintro e w' ⟨rfl, rfl⟩)
  go_ret2
  exact ⟨rfl, rfl⟩
theorem make_time (y mo d h mi s : Int) (w : World) (hv : valid y mo d = true) (ht : time h mi s = false) :
    Calls Tryz.prog 40 #[.int .i64 y, .int .i64 mo, .int .i64 d, .int .i64 h, .int .i64 mi, .int .i64 s] w fun e w' => e = .returned (.tuple #[.int .i64 0, .int .i64 1]) ∧ w = w' := by
  have V := Lib.hid hv; clear hv
  rcases time_no ht with h1 | ⟨h1, h2⟩ | ⟨h1, h2, h3 | ⟨h3, h4⟩ | ⟨h3, h4, h5 | ⟨h5, h6⟩⟩⟩
  all_goals
    clear ht
    go_enter Tryz.func40, Tryz.ntmps40
    go_wp2_with (go_at_call 39; refine (days_yes _ _ _ _ V.out).mono ?_; rintro e w' ⟨rfl, rfl⟩)
    go_ret2
    exact ⟨rfl, rfl⟩
theorem make_yes (y mo d h mi s : Int) (w : World) (hv : valid y mo d = true) (ht : time h mi s = true) :
    Calls Tryz.prog 40 #[.int .i64 y, .int .i64 mo, .int .i64 d, .int .i64 h, .int .i64 mi, .int .i64 s] w fun e w' => e = .returned (.tuple #[.int .i64 (mk y mo d h mi s), .int .i64 0]) ∧ w = w' := by
  obtain ⟨h1, h2, h3, h4, h5, h6⟩ := of_decide_eq_true ht; clear ht
  obtain ⟨b1, b2⟩ := num_bd hv
  have V := Lib.hid hv; clear hv
  go_enter Tryz.func40, Tryz.ntmps40
  go_wp2_with (go_at_call 39; refine (days_yes _ _ _ _ V.out).mono ?_; rintro e w' ⟨rfl, rfl⟩)
  go_ret2
  exact ⟨rfl, rfl⟩
theorem make_any (y mo d h mi s a b : Int) (w : World) (hr : makeR y mo d h mi s = (a, b)) :
    Calls Tryz.prog 40 #[.int .i64 y, .int .i64 mo, .int .i64 d, .int .i64 h, .int .i64 mi, .int .i64 s] w fun e w' => e = .returned (.tuple #[.int .i64 a, .int .i64 b]) ∧ w = w' := by
  unfold makeR at hr
  cases hv : valid y mo d
  · rw [if_neg (by simp [hv])] at hr
    injection hr with h1 h2; subst h1 h2
    exact make_date y mo d h mi s w hv
  · cases ht : time h mi s
    · rw [if_neg (by simp [ht])] at hr
      injection hr with h1 h2; subst h1 h2
      exact make_time y mo d h mi s w hv ht
    · rw [if_pos ⟨hv, ht⟩] at hr
      injection hr with h1 h2; subst h1 h2
      exact make_yes y mo d h mi s w hv ht
theorem day_any (t : Int) (w : World) (h1 : -9223372036854775808 ≤ t) (h2 : t ≤ 9223372036854775807) :
    Calls Tryz.prog 18 #[.int .i64 t] w fun e w' => e = .returned (.tuple #[.int .i64 (t / 86400), .int .i64 (t % 86400)]) ∧ w = w' := by
  by_cases hn : 0 ≤ t
  · have g := Int.emod_nonneg t (b := 86400) (by omega)
    go_enter Tryz.func18, Tryz.ntmps18
    go_wp2
    go_ret2
    exact ⟨rfl, rfl⟩
  · obtain ⟨e1, e2, b1, b2, b3, b4⟩ := tday (t := t) (by omega) h1
    by_cases hz : t.tmod 86400 < 0
    · obtain ⟨e, f⟩ := e1 hz
      have E := Lib.hid e; have F := Lib.hid f; clear e f e1 e2
      go_enter Tryz.func18, Tryz.ntmps18
      go_wp2
      go_ret2
      exact ⟨ret_two E.out F.out, rfl⟩
    · obtain ⟨e, f⟩ := e2 hz
      have E := Lib.hid e; have F := Lib.hid f; clear e f e1 e2
      go_enter Tryz.func18, Tryz.ntmps18
      go_wp2
      go_ret2
      exact ⟨ret_two E.out F.out, rfl⟩
set_option maxHeartbeats 400000 in
theorem two_any (W w : World) (v : Value) (l : List UInt8) (n : Int) (h0 : 0 ≤ n) (h1 : n ≤ 99) (h : At W w) (ho : Own W w v l) (hl : l.length ≤ 1000) :
    Calls Tryz.prog 111 #[v, .int .i64 n] w (Wrote W (l ++ d2 n)) := by
  go_enter Tryz.func111, Tryz.ntmps111
  go_wp2_with (at_builtin; refine append_bytes rfl _ _ rfl _ _ rfl ho h _ _ _ _ rfl [u8 (48 + n / 10), u8 (48 + n % 10)] ?c1 rfl ?c2 ?_)
  case c1 =>
    have e1 := u8_nat (48 + n / 10) (by omega) (by omega)
    have e2 := u8_nat (48 + n % 10) (by omega) (by omega)
    simp [Lib.byteCells, e1, e2]
  case c2 => omega
  intro v' w' hown' hat'
  go_wp2
  go_ret
  exact ⟨v', rfl, hown', hat'⟩
set_option maxHeartbeats 400000 in
theorem text_yes (W w : World) (t : Int) (h1 : -62135596800 ≤ t) (h2 : t ≤ 253402300799) (h : At W w) :
    Calls Tryz.prog 69 #[.int .i64 t] w fun e w' => e = .returned (.tuple #[.string ⟨(text t).toArray⟩, .int .i64 0]) ∧ At W w' := by
  have hm : may t = true := decide_eq_true ⟨h1, h2⟩
  have M := Lib.hid hm; clear hm
  obtain ⟨q1, q2⟩ := may_day h1 h2
  obtain ⟨i0, hi, hz0, hz1, hz2⟩ := info_parts info_u8
  obtain ⟨w1, hmk0, hown, hg⟩ := run_make_own (P := Tryz.prog) w W.heap.size 99 5 i0 (.int .u8 0) 1 Tryz.underlying99 hi hz0 hz1 .i64 .i64 15 (by rw [hz2]; decide) (by unfold maxLen; omega) h.size
  have ho1 : Own W w1 (.slice (some ⟨w.heap.size, 0, none⟩) 0 15) [] := hown
  have ha1 : At W w1 := h.on ((Below.refl _ _).grown hg h.size fun _ hk => by cases hk)
  have hmk : (Instr.makeSlice 99 (.int .i64 0) (.int .i64 15)).run Tryz.prog w = .ok (.slice (some ⟨w.heap.size, 0, none⟩) 0 15) w1 := hmk0
  clear hi hz0 hz1 hz2 hown hg hmk0
  obtain ⟨y1, y2⟩ := yr_day (t / 86400) q1 q2
  obtain ⟨V, _⟩ := back q1 q2
  obtain ⟨_, _, m1, m2, g1, g2⟩ := valid_parts V
  have g3 := (len_bd (yr (t / 86400)) (mon (t / 86400))).2
  clear V
  have s1 : 0 ≤ t % 86400 := by omega
  have s2 : t % 86400 ≤ 86399 := by omega
  go_enter Tryz.func69, Tryz.ntmps69
  go_wp2_with (first
    | (go_at_call 25; refine (may_yes _ _ M.out).mono ?_; rintro e w' ⟨rfl, rfl⟩)
    | (go_at_call 18; refine (day_any _ _ (by omega) (by omega)).mono ?_; rintro e w' ⟨rfl, rfl⟩)
    | (go_at_call 22; refine (date_yes _ _ q1 q2).mono ?_; rintro e w' ⟨rfl, rfl⟩))
  refine (two_any W _ _ _ _ (by omega) (by omega) ha1 ho1 (by simp)).mono ?_
  rintro e w2 ⟨v2, rfl, ho2, ha2⟩
  clear ho1 ha1
  go_wp2_with fail
  refine (two_any W _ _ _ _ (by omega) (by omega) ha2 ho2 (by simp [d2])).mono ?_
  rintro e w3 ⟨v3, rfl, ho3, ha3⟩
  clear ho2 ha2
  go_wp2_with fail
  refine (two_any W _ _ _ _ (by omega) (by omega) ha3 ho3 (by simp [d2])).mono ?_
  rintro e w4 ⟨v4, rfl, ho4, ha4⟩
  clear ho3 ha3
  go_wp2_with fail
  refine (two_any W _ _ _ _ (by omega) (by omega) ha4 ho4 (by simp [d2])).mono ?_
  rintro e w5 ⟨v5, rfl, ho5, ha5⟩
  clear ho4 ha4
  go_wp2_with (at_builtin; refine append_bytes rfl _ _ rfl _ _ rfl ho5 ha5 _ _ _ _ rfl [84] ?c1 rfl ?c2 ?_)
  case c1 => rfl
  case c2 => simp
  intro v6 w6 ho6 ha6
  clear ho5 ha5
  go_wp2_with fail
  refine (two_any W _ _ _ _ (by omega) (by omega) ha6 ho6 (by simp)).mono ?_
  rintro e w7 ⟨v7, rfl, ho7, ha7⟩
  clear ho6 ha6
  go_wp2_with fail
  refine (two_any W _ _ _ _ (by omega) (by omega) ha7 ho7 (by simp)).mono ?_
  rintro e w8 ⟨v8, rfl, ho8, ha8⟩
  clear ho7 ha7
  go_wp2_with fail
  refine (two_any W _ _ _ _ (by omega) (by omega) ha8 ho8 (by simp)).mono ?_
  rintro e w9 ⟨v9, rfl, ho9, ha9⟩
  clear ho8 ha8
  have ho : Own W w9 v9 (text t) := by simpa [text] using ho9
  obtain ⟨g, cap, rfl⟩ := ho.slice (by decide : 0 < 15)
  clear ho9
  have hcv := bytes_back ho
  go_wp2
  go_ret2
  exact ⟨rfl, ha9⟩
theorem text_is (W w : World) (t : Int) (s : ByteArray) (h1 : -62135596800 ≤ t) (h2 : t ≤ 253402300799) (h : At W w) (hs : ⟨(text t).toArray⟩ = s) :
    Calls Tryz.prog 69 #[.int .i64 t] w fun e w' => e = .returned (.tuple #[.string s, .int .i64 0]) ∧ At W w' := by
  subst hs; exact text_yes W w t h1 h2 h
theorem text_no (t : Int) (w : World) (h : may t = false) :
    Calls Tryz.prog 69 #[.int .i64 t] w fun e w' => e = .returned (.tuple #[.string ⟨#[]⟩, .int .i64 1]) ∧ w = w' := by
  have M := Lib.hid h; clear h
  go_enter Tryz.func69, Tryz.ntmps69
  go_wp2_with (go_at_call 25; refine (may_no _ _ M.out).mono ?_; rintro e w' ⟨rfl, rfl⟩)
  go_ret2
  exact ⟨rfl, rfl⟩
end Go.Proofs.YtkkmhjplfpdhcaaGreatDoor.St
