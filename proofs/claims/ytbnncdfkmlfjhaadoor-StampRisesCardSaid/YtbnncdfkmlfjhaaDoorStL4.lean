/- The walk of voklaw2's law StampRises. -/
import Derived.Test.YtbnncdfkmlfjhaaDoorStFirst
import Derived.Test.YtbnncdfkmlfjhaaDoorStMath3
import Derived.WalkLawsBesides
namespace Go.Proofs.YtbnncdfkmlfjhaaDoor.St
open Go.RowKit Cv
set_option linter.unusedVariables false

set_option maxHeartbeats 1000000 in
theorem stampRises_walk (a b : Int) (_ : -9223372036854775808 ≤ a) (_ : a ≤ 9223372036854775807) (_ : -9223372036854775808 ≤ b) (_ : b ≤ 9223372036854775807) (W : World) (ha : At W W) :
    Calls Tryd.prog 7 #[.int .i64 a, .int .i64 b] W fun e w' => e = .returned (.bool true) ∧ At W w' := by
  cases hm : may a <;> cases hn : may b
  · have M := Lib.hid hm; have N := Lib.hid hn; clear hm hn
    go_enter Tryd.func7, Tryd.ntmps7
    go_wp2_with fail
    refine (first_any W _ ha).mono ?_
    rintro e w1 ⟨rfl, at1⟩
    go_wp2_with fail
    refine (text_no _ _ M.out).mono ?_
    rintro e w' ⟨rfl, rfl⟩
    go_wp2_with fail
    refine (text_no _ _ N.out).mono ?_
    rintro e w' ⟨rfl, rfl⟩
    go_wp2_with fail
    refine (first_any W _ at1).mono ?_
    rintro e w2 ⟨rfl, at2⟩
    clear at1
    go_wp2
    go_ret
    exact ⟨rfl, at2⟩
  · have M := Lib.hid hm
    obtain ⟨y1, y2⟩ := of_decide_eq_true hn
    clear hm hn
    go_enter Tryd.func7, Tryd.ntmps7
    go_wp2_with fail
    refine (first_any W _ ha).mono ?_
    rintro e w1 ⟨rfl, at1⟩
    go_wp2_with fail
    refine (text_no _ _ M.out).mono ?_
    rintro e w' ⟨rfl, rfl⟩
    go_wp2_with fail
    refine (text_is W _ _ _ y1 y2 at1 rfl).mono ?_
    rintro e w2 ⟨rfl, at2⟩
    clear at1
    go_wp2_with fail
    refine (first_any W _ at2).mono ?_
    rintro e w3 ⟨rfl, at3⟩
    clear at2
    go_wp2
    go_ret
    exact ⟨rfl, at3⟩
  · have N := Lib.hid hn
    obtain ⟨x1, x2⟩ := of_decide_eq_true hm
    clear hm hn
    go_enter Tryd.func7, Tryd.ntmps7
    go_wp2_with fail
    refine (first_any W _ ha).mono ?_
    rintro e w1 ⟨rfl, at1⟩
    go_wp2_with fail
    refine (text_is W _ _ _ x1 x2 at1 rfl).mono ?_
    rintro e w2 ⟨rfl, at2⟩
    clear at1
    go_wp2_with fail
    refine (text_no _ _ N.out).mono ?_
    rintro e w' ⟨rfl, rfl⟩
    go_wp2_with fail
    refine (first_any W _ at2).mono ?_
    rintro e w3 ⟨rfl, at3⟩
    clear at2
    go_wp2
    go_ret
    exact ⟨rfl, at3⟩
  · obtain ⟨x1, x2⟩ := of_decide_eq_true hm
    obtain ⟨y1, y2⟩ := of_decide_eq_true hn
    obtain ⟨o1, o2⟩ := text_order hm hn
    obtain ⟨u, hu⟩ : ∃ u : ByteArray, (⟨(text a).toArray⟩ : ByteArray) = u := ⟨_, rfl⟩
    obtain ⟨v, hv⟩ : ∃ v : ByteArray, (⟨(text b).toArray⟩ : ByteArray) = v := ⟨_, rfl⟩
    have U := Lib.hid hu; have V := Lib.hid hv
    have o3 : Op.bytesLess u.toList v.toList = decide (a < b) := by rw [ByteArray.toList_eq, ByteArray.toList_eq, ← hu, ← hv]; exact o1
    have o4 : (u.toList == v.toList) = decide (a = b) := by rw [ByteArray.toList_eq, ByteArray.toList_eq, ← hu, ← hv]; exact o2
    clear hu hv hm hn o1 o2
    by_cases q : a = b
    · have o5 : ((a : Int) == b) = true := by rw [beq_iff_eq]; exact q
      have o6 : (u.toList == v.toList) = true := by rw [o4]; exact decide_eq_true q
      have o7 : Op.bytesLess u.toList v.toList = false := by rw [o3]; exact decide_eq_false (by omega)
      have o8 : decide (a < b) = false := decide_eq_false (by omega)
      clear o3 o4 q
      go_enter Tryd.func7, Tryd.ntmps7
      go_wp2_with fail
      refine (first_any W _ ha).mono ?_
      rintro e w1 ⟨rfl, at1⟩
      go_wp2_with fail
      refine (text_is W _ _ _ x1 x2 at1 U.out).mono ?_
      rintro e w2 ⟨rfl, at2⟩
      clear at1
      go_wp2_with fail
      refine (text_is W _ _ _ y1 y2 at2 V.out).mono ?_
      rintro e w3 ⟨rfl, at3⟩
      clear at2
      go_wp2_with fail
      refine (first_any W _ at3).mono ?_
      rintro e w4 ⟨rfl, at4⟩
      clear at3
      go_wp2
      go_ret
      exact ⟨rfl, at4⟩
    · have o5 : ((a : Int) == b) = false := by rw [beq_eq_false_iff_ne]; exact q
      have o6 : (u.toList == v.toList) = false := by rw [o4]; exact decide_eq_false q
      clear o4
      by_cases r : a < b
      · have o7 : Op.bytesLess u.toList v.toList = true := by rw [o3]; exact decide_eq_true r
        have o8 : decide (a < b) = true := decide_eq_true r
        clear o3 q
        go_enter Tryd.func7, Tryd.ntmps7
        go_wp2_with fail
        refine (first_any W _ ha).mono ?_
        rintro e w1 ⟨rfl, at1⟩
        go_wp2_with fail
        refine (text_is W _ _ _ x1 x2 at1 U.out).mono ?_
        rintro e w2 ⟨rfl, at2⟩
        clear at1
        go_wp2_with fail
        refine (text_is W _ _ _ y1 y2 at2 V.out).mono ?_
        rintro e w3 ⟨rfl, at3⟩
        clear at2
        go_wp2_with fail
        refine (first_any W _ at3).mono ?_
        rintro e w4 ⟨rfl, at4⟩
        clear at3
        go_wp2
        go_ret
        exact ⟨rfl, at4⟩
      · have o7 : Op.bytesLess u.toList v.toList = false := by rw [o3]; exact decide_eq_false r
        have o8 : decide (a < b) = false := decide_eq_false r
        clear o3 q
        go_enter Tryd.func7, Tryd.ntmps7
        go_wp2_with fail
        refine (first_any W _ ha).mono ?_
        rintro e w1 ⟨rfl, at1⟩
        go_wp2_with fail
        refine (text_is W _ _ _ x1 x2 at1 U.out).mono ?_
        rintro e w2 ⟨rfl, at2⟩
        clear at1
        go_wp2_with fail
        refine (text_is W _ _ _ y1 y2 at2 V.out).mono ?_
        rintro e w3 ⟨rfl, at3⟩
        clear at2
        go_wp2_with fail
        refine (first_any W _ at3).mono ?_
        rintro e w4 ⟨rfl, at4⟩
        clear at3
        go_wp2
        go_ret
        exact ⟨rfl, at4⟩
end Go.Proofs.YtbnncdfkmlfjhaaDoor.St
