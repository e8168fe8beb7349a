/- The walk of voklaw2's law StampCuts. -/
import Derived.Test.YtbnncdfkmlfjhaaDoorStFirst
import Derived.Test.YtbnncdfkmlfjhaaDoorStMath2
import Derived.Deep.RegionWith
import Derived.IntWalk
import Derived.Lib.SmallJoins
namespace Go.Proofs.YtbnncdfkmlfjhaaDoor.St
open Go.RowKit Cv
set_option linter.unusedVariables false

set_option maxHeartbeats 1000000 in
theorem stampCuts_in (t c : Int) (k : Nat) (u : ByteArray) (hk : k ≤ 14) (x1 : -62135596800 ≤ t) (x2 : t ≤ 253402300799) (c1 : 0 ≤ c) (c2 : c ≤ 255) (c3 : ¬ (48 ≤ c ∧ c ≤ 57)) (c4 : ¬ c = 84) (hu : (⟨(text t).toArray⟩ : ByteArray) = u)
    (us : u.size ≤ 15) (us2 : 15 ≤ u.size) (p1 : parse (u.extract 0 k).data.toList = (0, 2)) (p2 : parse (u ++ (⟨#[u8 c]⟩ : ByteArray)).data.toList = (0, 4))
    (p3 : parse (u.extract 0 k ++ (⟨#[u8 c]⟩ : ByteArray) ++ u.extract (k + 1) u.size).data.toList = (0, 4)) (W : World) (ha : At W W) :
    Calls Tryd.prog 11 #[.int .i64 t, .int .i64 k, .int .u8 c] W fun e w' => e = .returned (.bool true) ∧ At W w' := by
  have U := Lib.hid hu; have P1 := Lib.hid p1; have P2 := Lib.hid p2; have P3 := Lib.hid p3
  have cv := one_back c c1 c2
  have cvd := one_back_drew c c1 c2
  have c5 : c < 48 ∨ 57 < c := by omega
  have i1 : (k : Int) ≤ (u.size : Int) := by omega
  have i2 : (k : Int) + 1 ≤ (u.size : Int) := by omega
  have i3 : (k : Int) ≤ 14 := by omega
  have s1 : (u.extract 0 k).size ≤ maxLen := by rw [ByteArray.size_extract]; unfold maxLen; omega
  have s2 : (u ++ (⟨#[u8 c]⟩ : ByteArray)).size ≤ maxLen := by rw [ByteArray.size_append]; show u.size + 1 ≤ _; unfold maxLen; omega
  have s3 : (u.extract 0 k ++ (⟨#[u8 c]⟩ : ByteArray) ++ u.extract (k + 1) u.size).size ≤ maxLen := by
    rw [ByteArray.size_append, ByteArray.size_append, ByteArray.size_extract, ByteArray.size_extract]; show _ + 1 + _ ≤ _; unfold maxLen; omega
  have c7 : ((c : Int) == 84) = false := by rw [beq_eq_false_iff_ne]; exact c4
  clear hu p1 p2 p3 c3 c4
  rcases c5 with c6 | c6
  · go_enter Tryd.func11, Tryd.ntmps11
    go_wp2_with fail
    refine (first_any W _ ha).mono ?_
    rintro e w1 ⟨rfl, at1⟩
    go_wp2_with fail
    refine (text_is W _ _ _ x1 x2 at1 U.out).mono ?_
    rintro e w2 ⟨rfl, at2⟩
    clear at1
    go_wp2_with fail
    refine (parse_is _ W _ s1 at2 _ _ P1.out).mono ?_
    rintro e w3 ⟨rfl, at3⟩
    clear at2
    go_wp2_with fail
    refine (parse_is _ W _ s2 (at3.alloc _) _ _ P2.out).mono ?_
    rintro e w4 ⟨rfl, at4⟩
    clear at3
    go_wp2_with fail
    have j1 : IntKind.i64.wrap ((k : Int) + 1) = (k : Int) + 1 := IntWalk.i64_in _ ⟨by omega, by omega⟩
    have j2 : 0 ≤ (k : Int) + 1 := by omega
    have j3 : ((k : Int) + 1).toNat = k + 1 := by omega
    go_region_with (go_at_call 24; refine (parse_is _ W _ s3 (at4.alloc _).drew _ _ P3.out).mono ?_; rintro e w5 ⟨rfl, at5⟩; clear at4)
    clear j1 j2 j3
    go_wp2_with fail
    refine (first_any W _ at5).mono ?_
    rintro e w6 ⟨rfl, at6⟩
    go_wp2
    go_ret
    exact ⟨rfl, at6⟩
  · go_enter Tryd.func11, Tryd.ntmps11
    go_wp2_with fail
    refine (first_any W _ ha).mono ?_
    rintro e w1 ⟨rfl, at1⟩
    go_wp2_with fail
    refine (text_is W _ _ _ x1 x2 at1 U.out).mono ?_
    rintro e w2 ⟨rfl, at2⟩
    clear at1
    go_wp2_with fail
    refine (parse_is _ W _ s1 at2 _ _ P1.out).mono ?_
    rintro e w3 ⟨rfl, at3⟩
    clear at2
    go_wp2_with fail
    refine (parse_is _ W _ s2 (at3.alloc _) _ _ P2.out).mono ?_
    rintro e w4 ⟨rfl, at4⟩
    clear at3
    go_wp2_with fail
    have j1 : IntKind.i64.wrap ((k : Int) + 1) = (k : Int) + 1 := IntWalk.i64_in _ ⟨by omega, by omega⟩
    have j2 : 0 ≤ (k : Int) + 1 := by omega
    have j3 : ((k : Int) + 1).toNat = k + 1 := by omega
    go_region_with (go_at_call 24; refine (parse_is _ W _ s3 (at4.alloc _).drew _ _ P3.out).mono ?_; rintro e w5 ⟨rfl, at5⟩; clear at4)
    clear j1 j2 j3
    go_wp2_with fail
    refine (first_any W _ at5).mono ?_
    rintro e w6 ⟨rfl, at6⟩
    go_wp2
    go_ret
    exact ⟨rfl, at6⟩
theorem stampCuts_walk (t cut c : Int) (_ : -9223372036854775808 ≤ t) (_ : t ≤ 9223372036854775807) (_ : -9223372036854775808 ≤ cut) (_ : cut ≤ 9223372036854775807) (c1 : 0 ≤ c) (c2 : c ≤ 255) (W : World) (ha : At W W) :
    Calls Tryd.prog 11 #[.int .i64 t, .int .i64 cut, .int .u8 c] W fun e w' => e = .returned (.bool true) ∧ At W w' := by
  cases hm : may t
  · have M := Lib.hid hm; clear hm
    go_enter Tryd.func11, Tryd.ntmps11
    go_wp2_with fail
    refine (first_any W _ ha).mono ?_
    rintro e w1 ⟨rfl, at1⟩
    go_wp2_with fail
    refine (text_no _ _ M.out).mono ?_
    rintro e w' ⟨rfl, rfl⟩
    go_wp2_with fail
    refine (first_any W _ at1).mono ?_
    rintro e w2 ⟨rfl, at2⟩
    clear at1
    go_wp2
    go_ret
    exact ⟨rfl, at2⟩
  obtain ⟨x1, x2⟩ := of_decide_eq_true hm
  obtain ⟨u, hu⟩ : ∃ u : ByteArray, (⟨(text t).toArray⟩ : ByteArray) = u := ⟨_, rfl⟩
  have U := Lib.hid hu
  by_cases h1 : cut < 0
  · clear hu hm
    go_enter Tryd.func11, Tryd.ntmps11
    go_wp2_with fail
    refine (first_any W _ ha).mono ?_
    rintro e w1 ⟨rfl, at1⟩
    go_wp2_with fail
    refine (text_is W _ _ _ x1 x2 at1 U.out).mono ?_
    rintro e w2 ⟨rfl, at2⟩
    clear at1
    go_wp2_with fail
    refine (first_any W _ at2).mono ?_
    rintro e w3 ⟨rfl, at3⟩
    clear at2
    go_wp2
    go_ret
    exact ⟨rfl, at3⟩
  by_cases h2 : 14 < cut
  · clear hu hm
    go_enter Tryd.func11, Tryd.ntmps11
    go_wp2_with fail
    refine (first_any W _ ha).mono ?_
    rintro e w1 ⟨rfl, at1⟩
    go_wp2_with fail
    refine (text_is W _ _ _ x1 x2 at1 U.out).mono ?_
    rintro e w2 ⟨rfl, at2⟩
    clear at1
    go_wp2_with fail
    refine (first_any W _ at2).mono ?_
    rintro e w3 ⟨rfl, at3⟩
    clear at2
    go_wp2
    go_ret
    exact ⟨rfl, at3⟩
  obtain ⟨k, rfl⟩ := Int.eq_ofNat_of_zero_le (show 0 ≤ cut by omega)
  have i3 : (k : Int) ≤ 14 := by omega
  by_cases h3 : 48 ≤ c ∧ c ≤ 57
  · obtain ⟨h4, h5⟩ := h3
    clear hu hm
    go_enter Tryd.func11, Tryd.ntmps11
    go_wp2_with fail
    refine (first_any W _ ha).mono ?_
    rintro e w1 ⟨rfl, at1⟩
    go_wp2_with fail
    refine (text_is W _ _ _ x1 x2 at1 U.out).mono ?_
    rintro e w2 ⟨rfl, at2⟩
    clear at1
    go_wp2_with fail
    refine (first_any W _ at2).mono ?_
    rintro e w3 ⟨rfl, at3⟩
    clear at2
    go_wp2
    go_ret
    exact ⟨rfl, at3⟩
  by_cases h4 : c = 84
  · subst h4
    clear hu hm
    go_enter Tryd.func11, Tryd.ntmps11
    go_wp2_with fail
    refine (first_any W _ ha).mono ?_
    rintro e w1 ⟨rfl, at1⟩
    go_wp2_with fail
    refine (text_is W _ _ _ x1 x2 at1 U.out).mono ?_
    rintro e w2 ⟨rfl, at2⟩
    clear at1
    go_wp2_with fail
    refine (first_any W _ at2).mono ?_
    rintro e w3 ⟨rfl, at3⟩
    clear at2
    go_wp2
    go_ret
    exact ⟨rfl, at3⟩
  have ul : u.data.toList = text t := by rw [← hu]
  have e := u8_nat c c1 c2
  have ic : isd (u8 c) = false := decide_eq_false (by rw [e]; exact h3)
  have it : (u8 c).toNat ≠ 84 := by intro x; apply h4; rw [← e, x]; rfl
  have us : u.size = 15 := by rw [← hu]; rfl
  refine stampCuts_in t c k u (by omega) x1 x2 c1 c2 h3 h4 hu (by omega) (by omega) ?_ ?_ ?_ W ha
  · refine parse_1 ?_
    rw [ext_list, ul]; simp; omega
  · refine parse_2 ?_
    rw [Go.Joins.data_append, ul]; simp; show 15 < 15 + 1; decide
  · rw [Go.Joins.data_append, Go.Joins.data_append, ext_list, ext_list, ul, us, List.drop_zero, List.take_of_length_le (i := 15 - (k + 1)) (by rw [List.length_drop]; show 15 - _ ≤ _; omega)]
    exact parse_cut rfl ic it (by omega)
end Go.Proofs.YtbnncdfkmlfjhaaDoor.St
