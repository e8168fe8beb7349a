/- The walks of voklaw2's laws StampSums, StampBack. -/
import Derived.Test.YtbnncdfkmlfjhaaDoorStFirst
import Derived.Test.YtbnncdfkmlfjhaaDoorStMath2
namespace Go.Proofs.YtbnncdfkmlfjhaaDoor.St
open Go.RowKit Cv
set_option linter.unusedVariables false

def addR (t n : Int) : Int × Int := if may t = true ∧ may (t + n) = true then (t + n, 0) else (0, 1)
theorem add_is (t n a b : Int) (w : World) (hr : addR t n = (a, b)) :
    Calls Tryd.prog 18 #[.int .i64 t, .int .i64 n] w fun e w' => e = .returned (.tuple #[.int .i64 a, .int .i64 b]) ∧ w = w' := by
  unfold addR at hr
  cases hv : may t
  · rw [if_neg (by simp [hv])] at hr
    injection hr with h1 h2; subst h1 h2
    exact add_may t n w hv
  · cases ht : may (t + n)
    · rw [if_neg (by simp [ht])] at hr
      injection hr with h1 h2; subst h1 h2
      exact add_no t n w hv ht
    · rw [if_pos ⟨hv, ht⟩] at hr
      injection hr with h1 h2; subst h1 h2
      exact add_yes t n w hv ht
theorem addR_no {t n : Int} (h : ¬ (may t = true ∧ may (t + n) = true)) : addR t n = (0, 1) := by unfold addR; rw [if_neg h]
theorem addR_yes {t n : Int} (h : may t = true) (g : may (t + n) = true) : addR t n = (t + n, 0) := by unfold addR; rw [if_pos ⟨h, g⟩]
set_option maxHeartbeats 800000 in
theorem stampSums_walk (t a b : Int) (t1 : -9223372036854775808 ≤ t) (t2 : t ≤ 9223372036854775807) (a1 : -9223372036854775808 ≤ a) (a2 : a ≤ 9223372036854775807) (b1 : -9223372036854775808 ≤ b) (b2 : b ≤ 9223372036854775807) (W : World) (ha : At W W) :
    Calls Tryd.prog 9 #[.int .i64 t, .int .i64 a, .int .i64 b] W fun e w' => e = .returned (.bool true) ∧ At W w' := by
  by_cases h : may t = true ∧ may (t + a) = true
  case neg =>
    have R := Lib.hid (addR_no h)
    obtain ⟨p, q, hq⟩ : ∃ p q, addR 0 b = (p, q) := ⟨_, _, rfl⟩
    have Q := Lib.hid hq; clear hq h
    go_enter Tryd.func9, Tryd.ntmps9
    go_wp2_with fail
    refine (first_any W _ ha).mono ?_
    rintro e w1 ⟨rfl, at1⟩
    go_wp2_with fail
    refine (add_is _ _ _ _ _ R.out).mono ?_
    rintro e w' ⟨rfl, rfl⟩
    go_wp2_with fail
    refine (add_is _ _ _ _ _ Q.out).mono ?_
    rintro e w' ⟨rfl, rfl⟩
    go_wp2_with fail
    refine (first_any W _ at1).mono ?_
    rintro e w2 ⟨rfl, at2⟩
    clear at1
    go_wp2
    go_ret
    exact ⟨rfl, at2⟩
  obtain ⟨m1, m2⟩ := h
  have R := Lib.hid (addR_yes m1 m2)
  by_cases h : may (t + a + b) = true
  case neg =>
    have Q := Lib.hid (addR_no (t := t + a) (n := b) (fun x => h x.2)); clear h m1 m2
    go_enter Tryd.func9, Tryd.ntmps9
    go_wp2_with fail
    refine (first_any W _ ha).mono ?_
    rintro e w1 ⟨rfl, at1⟩
    go_wp2_with fail
    refine (add_is _ _ _ _ _ R.out).mono ?_
    rintro e w' ⟨rfl, rfl⟩
    go_wp2_with fail
    refine (add_is _ _ _ _ _ Q.out).mono ?_
    rintro e w' ⟨rfl, rfl⟩
    go_wp2_with fail
    refine (first_any W _ at1).mono ?_
    rintro e w2 ⟨rfl, at2⟩
    clear at1
    go_wp2
    go_ret
    exact ⟨rfl, at2⟩
  have Q := Lib.hid (addR_yes m2 h)
  obtain ⟨x1, x2⟩ := of_decide_eq_true m1
  obtain ⟨x3, x4⟩ := of_decide_eq_true m2
  obtain ⟨x5, x6⟩ := of_decide_eq_true h
  have hz : t + (a + b) = t + a + b := by omega
  have hy : t + a + b + -b = t + a := by omega
  have Z := Lib.hid (show addR t (a + b) = (t + a + b, 0) by rw [addR_yes m1 (by rw [hz]; exact h), hz])
  have Y := Lib.hid (show addR (t + a + b) (-b) = (t + a, 0) by rw [addR_yes h (by rw [hy]; exact m2), hy])
  clear h m1 m2 hz hy
  go_enter Tryd.func9, Tryd.ntmps9
  go_wp2_with fail
  refine (first_any W _ ha).mono ?_
  rintro e w1 ⟨rfl, at1⟩
  go_wp2_with fail
  refine (add_is _ _ _ _ _ R.out).mono ?_
  rintro e w' ⟨rfl, rfl⟩
  go_wp2_with fail
  refine (add_is _ _ _ _ _ Q.out).mono ?_
  rintro e w' ⟨rfl, rfl⟩
  go_wp2_with fail
  refine (add_is _ _ _ _ _ Z.out).mono ?_
  rintro e w' ⟨rfl, rfl⟩
  go_wp2_with fail
  refine (add_is _ _ _ _ _ Y.out).mono ?_
  rintro e w' ⟨rfl, rfl⟩
  go_wp2_with fail
  refine (first_any W _ at1).mono ?_
  rintro e w2 ⟨rfl, at2⟩
  clear at1
  go_wp2
  go_ret
  exact ⟨rfl, at2⟩
set_option maxHeartbeats 4000000 in
theorem stampBack_00 (t n : Int) (s d : ByteArray) (hs : s.size ≤ maxLen) (hd : d.size ≤ maxLen) (s1 : s.size ≤ 2000) (d1 : d.size ≤ 2000) (W : World) (ha : At W W) (hm : may t = false) (hn : ¬ (1 ≤ n ∧ n ≤ 2147483648)) :
    Calls Tryd.prog 6 #[.int .i64 t, .int .i64 n, .string s, .string d] W fun e w' => e = .returned (.bool true) ∧ At W w' := by
  have Nn := Lib.hid hn; clear hn
  have M := Lib.hid hm; clear hm
  obtain ⟨c, g, hc⟩ : ∃ c g, parse s.data.toList = (c, g) := ⟨_, _, rfl⟩
  obtain ⟨k, i, hk⟩ : ∃ k i, durParse d.data.toList = (k, i) := ⟨_, _, rfl⟩
  have C := Lib.hid hc; have K := Lib.hid hk
  by_cases hg : g = 0
  · subst hg
    obtain ⟨z1, z2⟩ := text_parse hc
    obtain ⟨z3, z4⟩ := of_decide_eq_true z1
    have T := Lib.hid (show (⟨(text c).toArray⟩ : ByteArray) = s by rw [z2])
    clear hc z1 z2
    by_cases hi : i = 0
    · subst hi
      obtain ⟨z5, z6, z7⟩ := durText_durParse hk
      have D := Lib.hid (show (⟨(durText k).toArray⟩ : ByteArray) = d by rw [z7])
      clear hk z7
      go_enter Tryd.func6, Tryd.ntmps6
      go_wp2_with fail
      refine (first_any W _ ha).mono ?_
      rintro e w1 ⟨rfl, at1⟩
      go_wp2_with fail
      refine (text_no _ _ M.out).mono ?_
      rintro e w' ⟨rfl, rfl⟩
      go_wp2_with fail
      refine (may_no _ _ M.out).mono ?_
      rintro e w' ⟨rfl, rfl⟩
      go_wp2_with fail
      refine (durText_no _ _ Nn.out).mono ?_
      rintro e w' ⟨rfl, rfl⟩
      go_wp2_with fail
      refine (parse_is s W _ hs at1 _ _ C.out).mono ?_
      rintro e w2 ⟨rfl, at2⟩
      clear at1
      go_wp2_with fail
      refine (text_is W _ _ _ z3 z4 at2 T.out).mono ?_
      rintro e w3 ⟨rfl, at3⟩
      clear at2
      go_wp2_with fail
      refine (durParse_is d W _ hd at3 _ _ K.out).mono ?_
      rintro e w4 ⟨rfl, at4⟩
      clear at3
      go_wp2_with fail
      refine (durText_is W _ _ _ z5 z6 at4 D.out).mono ?_
      rintro e w5 ⟨rfl, at5⟩
      clear at4
      go_wp2_with fail
      refine (first_any W _ at5).mono ?_
      rintro e w6 ⟨rfl, at6⟩
      clear at5
      go_wp2
      go_ret
      exact ⟨rfl, at6⟩
    · have ib : ((i : Int) != 0) = true := by rw [bne_iff_ne]; exact hi
      clear hk hi
      go_enter Tryd.func6, Tryd.ntmps6
      go_wp2_with fail
      refine (first_any W _ ha).mono ?_
      rintro e w1 ⟨rfl, at1⟩
      go_wp2_with fail
      refine (text_no _ _ M.out).mono ?_
      rintro e w' ⟨rfl, rfl⟩
      go_wp2_with fail
      refine (may_no _ _ M.out).mono ?_
      rintro e w' ⟨rfl, rfl⟩
      go_wp2_with fail
      refine (durText_no _ _ Nn.out).mono ?_
      rintro e w' ⟨rfl, rfl⟩
      go_wp2_with fail
      refine (parse_is s W _ hs at1 _ _ C.out).mono ?_
      rintro e w2 ⟨rfl, at2⟩
      clear at1
      go_wp2_with fail
      refine (text_is W _ _ _ z3 z4 at2 T.out).mono ?_
      rintro e w3 ⟨rfl, at3⟩
      clear at2
      go_wp2_with fail
      refine (durParse_is d W _ hd at3 _ _ K.out).mono ?_
      rintro e w4 ⟨rfl, at4⟩
      clear at3
      go_wp2_with fail
      refine (first_any W _ at4).mono ?_
      rintro e w5 ⟨rfl, at5⟩
      clear at4
      go_wp2
      go_ret
      exact ⟨rfl, at5⟩
  · have gb : ((g : Int) == 0) = false := by rw [beq_eq_false_iff_ne]; exact hg
    clear hc hg
    by_cases hi : i = 0
    · subst hi
      obtain ⟨z5, z6, z7⟩ := durText_durParse hk
      have D := Lib.hid (show (⟨(durText k).toArray⟩ : ByteArray) = d by rw [z7])
      clear hk z7
      go_enter Tryd.func6, Tryd.ntmps6
      go_wp2_with fail
      refine (first_any W _ ha).mono ?_
      rintro e w1 ⟨rfl, at1⟩
      go_wp2_with fail
      refine (text_no _ _ M.out).mono ?_
      rintro e w' ⟨rfl, rfl⟩
      go_wp2_with fail
      refine (may_no _ _ M.out).mono ?_
      rintro e w' ⟨rfl, rfl⟩
      go_wp2_with fail
      refine (durText_no _ _ Nn.out).mono ?_
      rintro e w' ⟨rfl, rfl⟩
      go_wp2_with fail
      refine (parse_is s W _ hs at1 _ _ C.out).mono ?_
      rintro e w2 ⟨rfl, at2⟩
      clear at1
      go_wp2_with fail
      refine (durParse_is d W _ hd at2 _ _ K.out).mono ?_
      rintro e w3 ⟨rfl, at3⟩
      clear at2
      go_wp2_with fail
      refine (durText_is W _ _ _ z5 z6 at3 D.out).mono ?_
      rintro e w4 ⟨rfl, at4⟩
      clear at3
      go_wp2_with fail
      refine (first_any W _ at4).mono ?_
      rintro e w5 ⟨rfl, at5⟩
      clear at4
      go_wp2
      go_ret
      exact ⟨rfl, at5⟩
    · have ib : ((i : Int) != 0) = true := by rw [bne_iff_ne]; exact hi
      clear hk hi
      go_enter Tryd.func6, Tryd.ntmps6
      go_wp2_with fail
      refine (first_any W _ ha).mono ?_
      rintro e w1 ⟨rfl, at1⟩
      go_wp2_with fail
      refine (text_no _ _ M.out).mono ?_
      rintro e w' ⟨rfl, rfl⟩
      go_wp2_with fail
      refine (may_no _ _ M.out).mono ?_
      rintro e w' ⟨rfl, rfl⟩
      go_wp2_with fail
      refine (durText_no _ _ Nn.out).mono ?_
      rintro e w' ⟨rfl, rfl⟩
      go_wp2_with fail
      refine (parse_is s W _ hs at1 _ _ C.out).mono ?_
      rintro e w2 ⟨rfl, at2⟩
      clear at1
      go_wp2_with fail
      refine (durParse_is d W _ hd at2 _ _ K.out).mono ?_
      rintro e w3 ⟨rfl, at3⟩
      clear at2
      go_wp2_with fail
      refine (first_any W _ at3).mono ?_
      rintro e w4 ⟨rfl, at4⟩
      clear at3
      go_wp2
      go_ret
      exact ⟨rfl, at4⟩
set_option maxHeartbeats 4000000 in
theorem stampBack_01 (t n : Int) (s d : ByteArray) (hs : s.size ≤ maxLen) (hd : d.size ≤ maxLen) (s1 : s.size ≤ 2000) (d1 : d.size ≤ 2000) (W : World) (ha : At W W) (hm : may t = false) (hn : 1 ≤ n ∧ n ≤ 2147483648) :
    Calls Tryd.prog 6 #[.int .i64 t, .int .i64 n, .string s, .string d] W fun e w' => e = .returned (.bool true) ∧ At W w' := by
  obtain ⟨y1, y2⟩ := hn
  obtain ⟨v, hv⟩ : ∃ v : ByteArray, (⟨(durText n).toArray⟩ : ByteArray) = v := ⟨_, rfl⟩
  have V := Lib.hid hv
  have vl : v.size ≤ maxLen := by
    subst hv
    have := durText_len y1 y2
    show (durText n).toArray.size ≤ _
    rw [List.size_toArray]; unfold maxLen; omega
  have VP := Lib.hid (show durParse v.data.toList = (n, 0) by rw [← hv]; exact durParse_durText y1 y2)
  clear hv
  have M := Lib.hid hm; clear hm
  obtain ⟨c, g, hc⟩ : ∃ c g, parse s.data.toList = (c, g) := ⟨_, _, rfl⟩
  obtain ⟨k, i, hk⟩ : ∃ k i, durParse d.data.toList = (k, i) := ⟨_, _, rfl⟩
  have C := Lib.hid hc; have K := Lib.hid hk
  by_cases hg : g = 0
  · subst hg
    obtain ⟨z1, z2⟩ := text_parse hc
    obtain ⟨z3, z4⟩ := of_decide_eq_true z1
    have T := Lib.hid (show (⟨(text c).toArray⟩ : ByteArray) = s by rw [z2])
    clear hc z1 z2
    by_cases hi : i = 0
    · subst hi
      obtain ⟨z5, z6, z7⟩ := durText_durParse hk
      have D := Lib.hid (show (⟨(durText k).toArray⟩ : ByteArray) = d by rw [z7])
      clear hk z7
      go_enter Tryd.func6, Tryd.ntmps6
      go_wp2_with fail
      refine (first_any W _ ha).mono ?_
      rintro e w1 ⟨rfl, at1⟩
      go_wp2_with fail
      refine (text_no _ _ M.out).mono ?_
      rintro e w' ⟨rfl, rfl⟩
      go_wp2_with fail
      refine (may_no _ _ M.out).mono ?_
      rintro e w' ⟨rfl, rfl⟩
      go_wp2_with fail
      refine (durText_is W _ _ _ y1 y2 at1 V.out).mono ?_
      rintro e w2 ⟨rfl, at2⟩
      clear at1
      go_wp2_with fail
      refine (durParse_is v W _ vl at2 _ _ VP.out).mono ?_
      rintro e w3 ⟨rfl, at3⟩
      clear at2
      go_wp2_with fail
      refine (parse_is s W _ hs at3 _ _ C.out).mono ?_
      rintro e w4 ⟨rfl, at4⟩
      clear at3
      go_wp2_with fail
      refine (text_is W _ _ _ z3 z4 at4 T.out).mono ?_
      rintro e w5 ⟨rfl, at5⟩
      clear at4
      go_wp2_with fail
      refine (durParse_is d W _ hd at5 _ _ K.out).mono ?_
      rintro e w6 ⟨rfl, at6⟩
      clear at5
      go_wp2_with fail
      refine (durText_is W _ _ _ z5 z6 at6 D.out).mono ?_
      rintro e w7 ⟨rfl, at7⟩
      clear at6
      go_wp2_with fail
      refine (first_any W _ at7).mono ?_
      rintro e w8 ⟨rfl, at8⟩
      clear at7
      go_wp2
      go_ret
      exact ⟨rfl, at8⟩
    · have ib : ((i : Int) != 0) = true := by rw [bne_iff_ne]; exact hi
      clear hk hi
      go_enter Tryd.func6, Tryd.ntmps6
      go_wp2_with fail
      refine (first_any W _ ha).mono ?_
      rintro e w1 ⟨rfl, at1⟩
      go_wp2_with fail
      refine (text_no _ _ M.out).mono ?_
      rintro e w' ⟨rfl, rfl⟩
      go_wp2_with fail
      refine (may_no _ _ M.out).mono ?_
      rintro e w' ⟨rfl, rfl⟩
      go_wp2_with fail
      refine (durText_is W _ _ _ y1 y2 at1 V.out).mono ?_
      rintro e w2 ⟨rfl, at2⟩
      clear at1
      go_wp2_with fail
      refine (durParse_is v W _ vl at2 _ _ VP.out).mono ?_
      rintro e w3 ⟨rfl, at3⟩
      clear at2
      go_wp2_with fail
      refine (parse_is s W _ hs at3 _ _ C.out).mono ?_
      rintro e w4 ⟨rfl, at4⟩
      clear at3
      go_wp2_with fail
      refine (text_is W _ _ _ z3 z4 at4 T.out).mono ?_
      rintro e w5 ⟨rfl, at5⟩
      clear at4
      go_wp2_with fail
      refine (durParse_is d W _ hd at5 _ _ K.out).mono ?_
      rintro e w6 ⟨rfl, at6⟩
      clear at5
      go_wp2_with fail
      refine (first_any W _ at6).mono ?_
      rintro e w7 ⟨rfl, at7⟩
      clear at6
      go_wp2
      go_ret
      exact ⟨rfl, at7⟩
  · have gb : ((g : Int) == 0) = false := by rw [beq_eq_false_iff_ne]; exact hg
    clear hc hg
    by_cases hi : i = 0
    · subst hi
      obtain ⟨z5, z6, z7⟩ := durText_durParse hk
      have D := Lib.hid (show (⟨(durText k).toArray⟩ : ByteArray) = d by rw [z7])
      clear hk z7
      go_enter Tryd.func6, Tryd.ntmps6
      go_wp2_with fail
      refine (first_any W _ ha).mono ?_
      rintro e w1 ⟨rfl, at1⟩
      go_wp2_with fail
      refine (text_no _ _ M.out).mono ?_
      rintro e w' ⟨rfl, rfl⟩
      go_wp2_with fail
      refine (may_no _ _ M.out).mono ?_
      rintro e w' ⟨rfl, rfl⟩
      go_wp2_with fail
      refine (durText_is W _ _ _ y1 y2 at1 V.out).mono ?_
      rintro e w2 ⟨rfl, at2⟩
      clear at1
      go_wp2_with fail
      refine (durParse_is v W _ vl at2 _ _ VP.out).mono ?_
      rintro e w3 ⟨rfl, at3⟩
      clear at2
      go_wp2_with fail
      refine (parse_is s W _ hs at3 _ _ C.out).mono ?_
      rintro e w4 ⟨rfl, at4⟩
      clear at3
      go_wp2_with fail
      refine (durParse_is d W _ hd at4 _ _ K.out).mono ?_
      rintro e w5 ⟨rfl, at5⟩
      clear at4
      go_wp2_with fail
      refine (durText_is W _ _ _ z5 z6 at5 D.out).mono ?_
      rintro e w6 ⟨rfl, at6⟩
      clear at5
      go_wp2_with fail
      refine (first_any W _ at6).mono ?_
      rintro e w7 ⟨rfl, at7⟩
      clear at6
      go_wp2
      go_ret
      exact ⟨rfl, at7⟩
    · have ib : ((i : Int) != 0) = true := by rw [bne_iff_ne]; exact hi
      clear hk hi
      go_enter Tryd.func6, Tryd.ntmps6
      go_wp2_with fail
      refine (first_any W _ ha).mono ?_
      rintro e w1 ⟨rfl, at1⟩
      go_wp2_with fail
      refine (text_no _ _ M.out).mono ?_
      rintro e w' ⟨rfl, rfl⟩
      go_wp2_with fail
      refine (may_no _ _ M.out).mono ?_
      rintro e w' ⟨rfl, rfl⟩
      go_wp2_with fail
      refine (durText_is W _ _ _ y1 y2 at1 V.out).mono ?_
      rintro e w2 ⟨rfl, at2⟩
      clear at1
      go_wp2_with fail
      refine (durParse_is v W _ vl at2 _ _ VP.out).mono ?_
      rintro e w3 ⟨rfl, at3⟩
      clear at2
      go_wp2_with fail
      refine (parse_is s W _ hs at3 _ _ C.out).mono ?_
      rintro e w4 ⟨rfl, at4⟩
      clear at3
      go_wp2_with fail
      refine (durParse_is d W _ hd at4 _ _ K.out).mono ?_
      rintro e w5 ⟨rfl, at5⟩
      clear at4
      go_wp2_with fail
      refine (first_any W _ at5).mono ?_
      rintro e w6 ⟨rfl, at6⟩
      clear at5
      go_wp2
      go_ret
      exact ⟨rfl, at6⟩
set_option maxHeartbeats 4000000 in
theorem stampBack_10 (t n : Int) (s d : ByteArray) (hs : s.size ≤ maxLen) (hd : d.size ≤ maxLen) (s1 : s.size ≤ 2000) (d1 : d.size ≤ 2000) (W : World) (ha : At W W) (hm : may t = true) (hn : ¬ (1 ≤ n ∧ n ≤ 2147483648)) :
    Calls Tryd.prog 6 #[.int .i64 t, .int .i64 n, .string s, .string d] W fun e w' => e = .returned (.bool true) ∧ At W w' := by
  obtain ⟨x1, x2⟩ := of_decide_eq_true hm
  obtain ⟨u, hu⟩ : ∃ u : ByteArray, (⟨(text t).toArray⟩ : ByteArray) = u := ⟨_, rfl⟩
  have U := Lib.hid hu
  have us : u.size ≤ 15 := by subst hu; exact (by decide : 15 ≤ 15)
  have us2 : 15 ≤ u.size := by subst hu; exact (by decide : 15 ≤ 15)
  have uz : ((u.size : Int) != 15) = false := by rw [bne_eq_false_iff_eq]; omega
  have ul : u.size ≤ maxLen := by unfold maxLen; omega
  have UP := Lib.hid (show parse u.data.toList = (t, 0) by rw [← hu]; exact parse_text hm)
  clear hu
  have Nn := Lib.hid hn; clear hn
  have M := Lib.hid hm; clear hm
  obtain ⟨c, g, hc⟩ : ∃ c g, parse s.data.toList = (c, g) := ⟨_, _, rfl⟩
  obtain ⟨k, i, hk⟩ : ∃ k i, durParse d.data.toList = (k, i) := ⟨_, _, rfl⟩
  have C := Lib.hid hc; have K := Lib.hid hk
  by_cases hg : g = 0
  · subst hg
    obtain ⟨z1, z2⟩ := text_parse hc
    obtain ⟨z3, z4⟩ := of_decide_eq_true z1
    have T := Lib.hid (show (⟨(text c).toArray⟩ : ByteArray) = s by rw [z2])
    clear hc z1 z2
    by_cases hi : i = 0
    · subst hi
      obtain ⟨z5, z6, z7⟩ := durText_durParse hk
      have D := Lib.hid (show (⟨(durText k).toArray⟩ : ByteArray) = d by rw [z7])
      clear hk z7
      go_enter Tryd.func6, Tryd.ntmps6
      go_wp2_with fail
      refine (first_any W _ ha).mono ?_
      rintro e w1 ⟨rfl, at1⟩
      go_wp2_with fail
      refine (text_is W _ _ _ x1 x2 at1 U.out).mono ?_
      rintro e w2 ⟨rfl, at2⟩
      clear at1
      go_wp2_with fail
      refine (may_yes _ _ M.out).mono ?_
      rintro e w' ⟨rfl, rfl⟩
      go_wp2_with fail
      refine (parse_is u W _ ul at2 _ _ UP.out).mono ?_
      rintro e w3 ⟨rfl, at3⟩
      clear at2
      go_wp2_with fail
      refine (durText_no _ _ Nn.out).mono ?_
      rintro e w' ⟨rfl, rfl⟩
      go_wp2_with fail
      refine (parse_is s W _ hs at3 _ _ C.out).mono ?_
      rintro e w4 ⟨rfl, at4⟩
      clear at3
      go_wp2_with fail
      refine (text_is W _ _ _ z3 z4 at4 T.out).mono ?_
      rintro e w5 ⟨rfl, at5⟩
      clear at4
      go_wp2_with fail
      refine (durParse_is d W _ hd at5 _ _ K.out).mono ?_
      rintro e w6 ⟨rfl, at6⟩
      clear at5
      go_wp2_with fail
      refine (durText_is W _ _ _ z5 z6 at6 D.out).mono ?_
      rintro e w7 ⟨rfl, at7⟩
      clear at6
      go_wp2_with fail
      refine (first_any W _ at7).mono ?_
      rintro e w8 ⟨rfl, at8⟩
      clear at7
      go_wp2
      go_ret
      exact ⟨rfl, at8⟩
    · have ib : ((i : Int) != 0) = true := by rw [bne_iff_ne]; exact hi
      clear hk hi
      go_enter Tryd.func6, Tryd.ntmps6
      go_wp2_with fail
      refine (first_any W _ ha).mono ?_
      rintro e w1 ⟨rfl, at1⟩
      go_wp2_with fail
      refine (text_is W _ _ _ x1 x2 at1 U.out).mono ?_
      rintro e w2 ⟨rfl, at2⟩
      clear at1
      go_wp2_with fail
      refine (may_yes _ _ M.out).mono ?_
      rintro e w' ⟨rfl, rfl⟩
      go_wp2_with fail
      refine (parse_is u W _ ul at2 _ _ UP.out).mono ?_
      rintro e w3 ⟨rfl, at3⟩
      clear at2
      go_wp2_with fail
      refine (durText_no _ _ Nn.out).mono ?_
      rintro e w' ⟨rfl, rfl⟩
      go_wp2_with fail
      refine (parse_is s W _ hs at3 _ _ C.out).mono ?_
      rintro e w4 ⟨rfl, at4⟩
      clear at3
      go_wp2_with fail
      refine (text_is W _ _ _ z3 z4 at4 T.out).mono ?_
      rintro e w5 ⟨rfl, at5⟩
      clear at4
      go_wp2_with fail
      refine (durParse_is d W _ hd at5 _ _ K.out).mono ?_
      rintro e w6 ⟨rfl, at6⟩
      clear at5
      go_wp2_with fail
      refine (first_any W _ at6).mono ?_
      rintro e w7 ⟨rfl, at7⟩
      clear at6
      go_wp2
      go_ret
      exact ⟨rfl, at7⟩
  · have gb : ((g : Int) == 0) = false := by rw [beq_eq_false_iff_ne]; exact hg
    clear hc hg
    by_cases hi : i = 0
    · subst hi
      obtain ⟨z5, z6, z7⟩ := durText_durParse hk
      have D := Lib.hid (show (⟨(durText k).toArray⟩ : ByteArray) = d by rw [z7])
      clear hk z7
      go_enter Tryd.func6, Tryd.ntmps6
      go_wp2_with fail
      refine (first_any W _ ha).mono ?_
      rintro e w1 ⟨rfl, at1⟩
      go_wp2_with fail
      refine (text_is W _ _ _ x1 x2 at1 U.out).mono ?_
      rintro e w2 ⟨rfl, at2⟩
      clear at1
      go_wp2_with fail
      refine (may_yes _ _ M.out).mono ?_
      rintro e w' ⟨rfl, rfl⟩
      go_wp2_with fail
      refine (parse_is u W _ ul at2 _ _ UP.out).mono ?_
      rintro e w3 ⟨rfl, at3⟩
      clear at2
      go_wp2_with fail
      refine (durText_no _ _ Nn.out).mono ?_
      rintro e w' ⟨rfl, rfl⟩
      go_wp2_with fail
      refine (parse_is s W _ hs at3 _ _ C.out).mono ?_
      rintro e w4 ⟨rfl, at4⟩
      clear at3
      go_wp2_with fail
      refine (durParse_is d W _ hd at4 _ _ K.out).mono ?_
      rintro e w5 ⟨rfl, at5⟩
      clear at4
      go_wp2_with fail
      refine (durText_is W _ _ _ z5 z6 at5 D.out).mono ?_
      rintro e w6 ⟨rfl, at6⟩
      clear at5
      go_wp2_with fail
      refine (first_any W _ at6).mono ?_
      rintro e w7 ⟨rfl, at7⟩
      clear at6
      go_wp2
      go_ret
      exact ⟨rfl, at7⟩
    · have ib : ((i : Int) != 0) = true := by rw [bne_iff_ne]; exact hi
      clear hk hi
      go_enter Tryd.func6, Tryd.ntmps6
      go_wp2_with fail
      refine (first_any W _ ha).mono ?_
      rintro e w1 ⟨rfl, at1⟩
      go_wp2_with fail
      refine (text_is W _ _ _ x1 x2 at1 U.out).mono ?_
      rintro e w2 ⟨rfl, at2⟩
      clear at1
      go_wp2_with fail
      refine (may_yes _ _ M.out).mono ?_
      rintro e w' ⟨rfl, rfl⟩
      go_wp2_with fail
      refine (parse_is u W _ ul at2 _ _ UP.out).mono ?_
      rintro e w3 ⟨rfl, at3⟩
      clear at2
      go_wp2_with fail
      refine (durText_no _ _ Nn.out).mono ?_
      rintro e w' ⟨rfl, rfl⟩
      go_wp2_with fail
      refine (parse_is s W _ hs at3 _ _ C.out).mono ?_
      rintro e w4 ⟨rfl, at4⟩
      clear at3
      go_wp2_with fail
      refine (durParse_is d W _ hd at4 _ _ K.out).mono ?_
      rintro e w5 ⟨rfl, at5⟩
      clear at4
      go_wp2_with fail
      refine (first_any W _ at5).mono ?_
      rintro e w6 ⟨rfl, at6⟩
      clear at5
      go_wp2
      go_ret
      exact ⟨rfl, at6⟩
set_option maxHeartbeats 4000000 in
theorem stampBack_11 (t n : Int) (s d : ByteArray) (hs : s.size ≤ maxLen) (hd : d.size ≤ maxLen) (s1 : s.size ≤ 2000) (d1 : d.size ≤ 2000) (W : World) (ha : At W W) (hm : may t = true) (hn : 1 ≤ n ∧ n ≤ 2147483648) :
    Calls Tryd.prog 6 #[.int .i64 t, .int .i64 n, .string s, .string d] W fun e w' => e = .returned (.bool true) ∧ At W w' := by
  obtain ⟨x1, x2⟩ := of_decide_eq_true hm
  obtain ⟨u, hu⟩ : ∃ u : ByteArray, (⟨(text t).toArray⟩ : ByteArray) = u := ⟨_, rfl⟩
  have U := Lib.hid hu
  have us : u.size ≤ 15 := by subst hu; exact (by decide : 15 ≤ 15)
  have us2 : 15 ≤ u.size := by subst hu; exact (by decide : 15 ≤ 15)
  have uz : ((u.size : Int) != 15) = false := by rw [bne_eq_false_iff_eq]; omega
  have ul : u.size ≤ maxLen := by unfold maxLen; omega
  have UP := Lib.hid (show parse u.data.toList = (t, 0) by rw [← hu]; exact parse_text hm)
  clear hu
  obtain ⟨y1, y2⟩ := hn
  obtain ⟨v, hv⟩ : ∃ v : ByteArray, (⟨(durText n).toArray⟩ : ByteArray) = v := ⟨_, rfl⟩
  have V := Lib.hid hv
  have vl : v.size ≤ maxLen := by
    subst hv
    have := durText_len y1 y2
    show (durText n).toArray.size ≤ _
    rw [List.size_toArray]; unfold maxLen; omega
  have VP := Lib.hid (show durParse v.data.toList = (n, 0) by rw [← hv]; exact durParse_durText y1 y2)
  clear hv
  have M := Lib.hid hm; clear hm
  obtain ⟨c, g, hc⟩ : ∃ c g, parse s.data.toList = (c, g) := ⟨_, _, rfl⟩
  obtain ⟨k, i, hk⟩ : ∃ k i, durParse d.data.toList = (k, i) := ⟨_, _, rfl⟩
  have C := Lib.hid hc; have K := Lib.hid hk
  by_cases hg : g = 0
  · subst hg
    obtain ⟨z1, z2⟩ := text_parse hc
    obtain ⟨z3, z4⟩ := of_decide_eq_true z1
    have T := Lib.hid (show (⟨(text c).toArray⟩ : ByteArray) = s by rw [z2])
    clear hc z1 z2
    by_cases hi : i = 0
    · subst hi
      obtain ⟨z5, z6, z7⟩ := durText_durParse hk
      have D := Lib.hid (show (⟨(durText k).toArray⟩ : ByteArray) = d by rw [z7])
      clear hk z7
      go_enter Tryd.func6, Tryd.ntmps6
      go_wp2_with fail
      refine (first_any W _ ha).mono ?_
      rintro e w1 ⟨rfl, at1⟩
      go_wp2_with fail
      refine (text_is W _ _ _ x1 x2 at1 U.out).mono ?_
      rintro e w2 ⟨rfl, at2⟩
      clear at1
      go_wp2_with fail
      refine (may_yes _ _ M.out).mono ?_
      rintro e w' ⟨rfl, rfl⟩
      go_wp2_with fail
      refine (parse_is u W _ ul at2 _ _ UP.out).mono ?_
      rintro e w3 ⟨rfl, at3⟩
      clear at2
      go_wp2_with fail
      refine (durText_is W _ _ _ y1 y2 at3 V.out).mono ?_
      rintro e w4 ⟨rfl, at4⟩
      clear at3
      go_wp2_with fail
      refine (durParse_is v W _ vl at4 _ _ VP.out).mono ?_
      rintro e w5 ⟨rfl, at5⟩
      clear at4
      go_wp2_with fail
      refine (parse_is s W _ hs at5 _ _ C.out).mono ?_
      rintro e w6 ⟨rfl, at6⟩
      clear at5
      go_wp2_with fail
      refine (text_is W _ _ _ z3 z4 at6 T.out).mono ?_
      rintro e w7 ⟨rfl, at7⟩
      clear at6
      go_wp2_with fail
      refine (durParse_is d W _ hd at7 _ _ K.out).mono ?_
      rintro e w8 ⟨rfl, at8⟩
      clear at7
      go_wp2_with fail
      refine (durText_is W _ _ _ z5 z6 at8 D.out).mono ?_
      rintro e w9 ⟨rfl, at9⟩
      clear at8
      go_wp2_with fail
      refine (first_any W _ at9).mono ?_
      rintro e w10 ⟨rfl, at10⟩
      clear at9
      go_wp2
      go_ret
      exact ⟨rfl, at10⟩
    · have ib : ((i : Int) != 0) = true := by rw [bne_iff_ne]; exact hi
      clear hk hi
      go_enter Tryd.func6, Tryd.ntmps6
      go_wp2_with fail
      refine (first_any W _ ha).mono ?_
      rintro e w1 ⟨rfl, at1⟩
      go_wp2_with fail
      refine (text_is W _ _ _ x1 x2 at1 U.out).mono ?_
      rintro e w2 ⟨rfl, at2⟩
      clear at1
      go_wp2_with fail
      refine (may_yes _ _ M.out).mono ?_
      rintro e w' ⟨rfl, rfl⟩
      go_wp2_with fail
      refine (parse_is u W _ ul at2 _ _ UP.out).mono ?_
      rintro e w3 ⟨rfl, at3⟩
      clear at2
      go_wp2_with fail
      refine (durText_is W _ _ _ y1 y2 at3 V.out).mono ?_
      rintro e w4 ⟨rfl, at4⟩
      clear at3
      go_wp2_with fail
      refine (durParse_is v W _ vl at4 _ _ VP.out).mono ?_
      rintro e w5 ⟨rfl, at5⟩
      clear at4
      go_wp2_with fail
      refine (parse_is s W _ hs at5 _ _ C.out).mono ?_
      rintro e w6 ⟨rfl, at6⟩
      clear at5
      go_wp2_with fail
      refine (text_is W _ _ _ z3 z4 at6 T.out).mono ?_
      rintro e w7 ⟨rfl, at7⟩
      clear at6
      go_wp2_with fail
      refine (durParse_is d W _ hd at7 _ _ K.out).mono ?_
      rintro e w8 ⟨rfl, at8⟩
      clear at7
      go_wp2_with fail
      refine (first_any W _ at8).mono ?_
      rintro e w9 ⟨rfl, at9⟩
      clear at8
      go_wp2
      go_ret
      exact ⟨rfl, at9⟩
  · have gb : ((g : Int) == 0) = false := by rw [beq_eq_false_iff_ne]; exact hg
    clear hc hg
    by_cases hi : i = 0
    · subst hi
      obtain ⟨z5, z6, z7⟩ := durText_durParse hk
      have D := Lib.hid (show (⟨(durText k).toArray⟩ : ByteArray) = d by rw [z7])
      clear hk z7
      go_enter Tryd.func6, Tryd.ntmps6
      go_wp2_with fail
      refine (first_any W _ ha).mono ?_
      rintro e w1 ⟨rfl, at1⟩
      go_wp2_with fail
      refine (text_is W _ _ _ x1 x2 at1 U.out).mono ?_
      rintro e w2 ⟨rfl, at2⟩
      clear at1
      go_wp2_with fail
      refine (may_yes _ _ M.out).mono ?_
      rintro e w' ⟨rfl, rfl⟩
      go_wp2_with fail
      refine (parse_is u W _ ul at2 _ _ UP.out).mono ?_
      rintro e w3 ⟨rfl, at3⟩
      clear at2
      go_wp2_with fail
      refine (durText_is W _ _ _ y1 y2 at3 V.out).mono ?_
      rintro e w4 ⟨rfl, at4⟩
      clear at3
      go_wp2_with fail
      refine (durParse_is v W _ vl at4 _ _ VP.out).mono ?_
      rintro e w5 ⟨rfl, at5⟩
      clear at4
      go_wp2_with fail
      refine (parse_is s W _ hs at5 _ _ C.out).mono ?_
      rintro e w6 ⟨rfl, at6⟩
      clear at5
      go_wp2_with fail
      refine (durParse_is d W _ hd at6 _ _ K.out).mono ?_
      rintro e w7 ⟨rfl, at7⟩
      clear at6
      go_wp2_with fail
      refine (durText_is W _ _ _ z5 z6 at7 D.out).mono ?_
      rintro e w8 ⟨rfl, at8⟩
      clear at7
      go_wp2_with fail
      refine (first_any W _ at8).mono ?_
      rintro e w9 ⟨rfl, at9⟩
      clear at8
      go_wp2
      go_ret
      exact ⟨rfl, at9⟩
    · have ib : ((i : Int) != 0) = true := by rw [bne_iff_ne]; exact hi
      clear hk hi
      go_enter Tryd.func6, Tryd.ntmps6
      go_wp2_with fail
      refine (first_any W _ ha).mono ?_
      rintro e w1 ⟨rfl, at1⟩
      go_wp2_with fail
      refine (text_is W _ _ _ x1 x2 at1 U.out).mono ?_
      rintro e w2 ⟨rfl, at2⟩
      clear at1
      go_wp2_with fail
      refine (may_yes _ _ M.out).mono ?_
      rintro e w' ⟨rfl, rfl⟩
      go_wp2_with fail
      refine (parse_is u W _ ul at2 _ _ UP.out).mono ?_
      rintro e w3 ⟨rfl, at3⟩
      clear at2
      go_wp2_with fail
      refine (durText_is W _ _ _ y1 y2 at3 V.out).mono ?_
      rintro e w4 ⟨rfl, at4⟩
      clear at3
      go_wp2_with fail
      refine (durParse_is v W _ vl at4 _ _ VP.out).mono ?_
      rintro e w5 ⟨rfl, at5⟩
      clear at4
      go_wp2_with fail
      refine (parse_is s W _ hs at5 _ _ C.out).mono ?_
      rintro e w6 ⟨rfl, at6⟩
      clear at5
      go_wp2_with fail
      refine (durParse_is d W _ hd at6 _ _ K.out).mono ?_
      rintro e w7 ⟨rfl, at7⟩
      clear at6
      go_wp2_with fail
      refine (first_any W _ at7).mono ?_
      rintro e w8 ⟨rfl, at8⟩
      clear at7
      go_wp2
      go_ret
      exact ⟨rfl, at8⟩
theorem stampBack_walk (t n : Int) (s d : ByteArray) (_ : -9223372036854775808 ≤ t) (_ : t ≤ 9223372036854775807) (_ : -9223372036854775808 ≤ n) (_ : n ≤ 9223372036854775807) (hs : s.size ≤ maxLen) (hd : d.size ≤ maxLen) (W : World) (ha : At W W) :
    Calls Tryd.prog 6 #[.int .i64 t, .int .i64 n, .string s, .string d] W fun e w' => e = .returned (.bool true) ∧ At W w' := by
  by_cases h1 : 2000 < s.size
  · unfold maxLen at hs hd
    go_enter Tryd.func6, Tryd.ntmps6
    go_wp2_with fail
    refine (first_any W _ ha).mono ?_
    rintro e w1 ⟨rfl, at1⟩
    go_wp2_with fail
    refine (first_any W _ at1).mono ?_
    rintro e w2 ⟨rfl, at2⟩
    clear at1
    go_wp2
    go_ret
    exact ⟨rfl, at2⟩
  by_cases h2 : 2000 < d.size
  · have h3 : s.size ≤ 2000 := by omega
    clear h1
    unfold maxLen at hs hd
    go_enter Tryd.func6, Tryd.ntmps6
    go_wp2_with fail
    refine (first_any W _ ha).mono ?_
    rintro e w1 ⟨rfl, at1⟩
    go_wp2_with fail
    refine (first_any W _ at1).mono ?_
    rintro e w2 ⟨rfl, at2⟩
    clear at1
    go_wp2
    go_ret
    exact ⟨rfl, at2⟩
  cases hm : may t <;> by_cases hn : 1 ≤ n ∧ n ≤ 2147483648
  · exact stampBack_01 t n s d hs hd (by omega) (by omega) W ha hm hn
  · exact stampBack_00 t n s d hs hd (by omega) (by omega) W ha hm hn
  · exact stampBack_11 t n s d hs hd (by omega) (by omega) W ha hm hn
  · exact stampBack_10 t n s d hs hd (by omega) (by omega) W ha hm hn
end Go.Proofs.YtbnncdfkmlfjhaaDoor.St
