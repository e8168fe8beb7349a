/- The walks of the document's own answer on durations as texts: vokref1's DurText. -/
import Derived.Test.YtbnncdfkmlfjhaaDoorStRef1
import Derived.Test.YtbnncdfkmlfjhaaDoorStMath2
import Derived.Test.YtbnncdfkmlfjhaaDoorStDec
import Derived.Test.YtbnncdfkmlfjhaaDoorStL6
import Derived.Lib.SmallJoins
namespace Go.Proofs.YtbnncdfkmlfjhaaDoor.St
open Go.RowKit Cv
set_option linter.unusedVariables false

theorem rdurText_no (n : Int) (w : World) (h : ¬ (1 ≤ n ∧ n ≤ 2147483648)) :
    Calls Tryd.prog 27 #[.int .i64 n] w fun e w' => e = .returned (.tuple #[.string ⟨#[]⟩, .int .i64 1]) ∧ w = w' := by
  by_cases h1 : n < 1
  · clear h
    go_enter Tryd.func27, Tryd.ntmps27
    go_wp2
    go_ret2
    exact ⟨rfl, rfl⟩
  · have h2 : 2147483648 < n := by omega
    clear h
    go_enter Tryd.func27, Tryd.ntmps27
    go_wp2
    go_ret2
    exact ⟨rfl, rfl⟩
set_option maxHeartbeats 1000000 in
theorem rdurText_week (n : Int) (W w : World) (x : ByteArray) (h1 : 1 ≤ n) (h2 : n ≤ 2147483648) (hx : ⟨(durText n).toArray⟩ = x) (h : At W w) (h3 : n % 604800 = 0) :
    Calls Tryd.prog 27 #[.int .i64 n] w fun e w' => e = .returned (.tuple #[.string x, .int .i64 0]) ∧ At W w' := by
  have hb : ((n % 604800 : Int) == 0) = true := by rw [beq_iff_eq]; exact h3
  have l1 := itoa_len (n / 604800) (by omega) (by omega)
  have E := Lib.hid (show (⟨#[80]⟩ : ByteArray) ++ ⟨(Lib.itoa (n / 604800)).toArray⟩ ++ ⟨#[87]⟩ = x by
    rw [← hx]; refine bytes_ext ?_
    simp only [Go.Joins.data_append]
    show [80] ++ Lib.itoa (n / 604800) ++ [87] = durText n
    unfold durText; rw [if_pos h3, part_1 (by omega)]; rfl)
  clear h3 hx
  go_enter Tryd.func27, Tryd.ntmps27
  go_wp2_with fail
  refine (dec_any _ W _ (by omega) (by omega) _ rfl h).mono ?_
  rintro e wd1 ⟨rfl, at1⟩
  go_wp2
  go_ret2
  exact ⟨by rw [E.out]; rfl, at1⟩
set_option maxHeartbeats 1000000 in
theorem rdurText_day (n : Int) (W w : World) (x : ByteArray) (h1 : 1 ≤ n) (h2 : n ≤ 2147483648) (hx : ⟨(durText n).toArray⟩ = x) (h : At W w) (h3 : ¬ n % 604800 = 0) (h4 : n % 86400 = 0) :
    Calls Tryd.prog 27 #[.int .i64 n] w fun e w' => e = .returned (.tuple #[.string x, .int .i64 0]) ∧ At W w' := by
  have hb : ((n % 604800 : Int) == 0) = false := by rw [beq_eq_false_iff_ne]; exact h3
  have hb2 : ((n % 86400 : Int) == 0) = true := by rw [beq_iff_eq]; exact h4
  have l1 := itoa_len (n / 86400) (by omega) (by omega)
  have g1 : 86400 ≤ n := by omega
  have E := Lib.hid (show (⟨#[80]⟩ : ByteArray) ++ (⟨(Lib.itoa (n / 86400)).toArray⟩ ++ ⟨#[68]⟩) = x by
    rw [← hx]; refine bytes_ext ?_
    simp only [Go.Joins.data_append]
    show [80] ++ (Lib.itoa (n / 86400) ++ [68]) = durText n
    unfold durText; rw [if_neg h3, if_pos h4, part_1 (by omega)]; rfl)
  clear h3 h4 hx
  go_enter Tryd.func27, Tryd.ntmps27
  go_wp2_with fail
  refine (dec_any _ W _ (by omega) (by omega) _ rfl h).mono ?_
  rintro e wd1 ⟨rfl, at1⟩
  go_wp2
  go_ret2
  exact ⟨by rw [E.out]; rfl, at1⟩
set_option maxHeartbeats 1000000 in
theorem rdurText_0001 (n : Int) (W w : World) (x : ByteArray) (h1 : 1 ≤ n) (h2 : n ≤ 2147483648) (hx : ⟨(durText n).toArray⟩ = x) (h : At W w) (h3 : ¬ n % 604800 = 0) (h4 : ¬ n % 86400 = 0) (t0 : n < 86400) (t1 : n % 86400 < 3600) (t2 : n % 86400 / 60 % 60 ≤ 0) (t3 : 0 < n % 60) :
    Calls Tryd.prog 27 #[.int .i64 n] w fun e w' => e = .returned (.tuple #[.string x, .int .i64 0]) ∧ At W w' := by
  have hb : ((n % 604800 : Int) == 0) = false := by rw [beq_eq_false_iff_ne]; exact h3
  have hb2 : ((n % 86400 : Int) == 0) = false := by rw [beq_eq_false_iff_ne]; exact h4
  have l3 := itoa_len (n % 60) (by omega) (by omega)
  have E := Lib.hid (show (⟨#[80]⟩ : ByteArray) ++ ⟨#[84]⟩ ++ (⟨(Lib.itoa (n % 60)).toArray⟩ ++ ⟨#[83]⟩) = x by
    rw [← hx]; refine bytes_ext ?_
    simp only [Go.Joins.data_append]
    show [80] ++ [84] ++ (Lib.itoa (n % 60) ++ [83]) = durText n
    unfold durText; rw [if_neg h3, if_neg h4, show n % 3600 / 60 = n % 86400 / 60 % 60 by omega, part_0 (n := n / 86400) (by omega) (by omega), part_0 (n := n % 86400 / 3600) (by omega) (by omega), part_0 (n := n % 86400 / 60 % 60) (by omega) (by omega), part_1 (n := n % 60) (by omega)]
    simp [u8])
  clear h3 h4 hx
  go_enter Tryd.func27, Tryd.ntmps27
  go_wp2_with fail
  refine (dec_any _ W _ (by omega) (by omega) _ rfl h).mono ?_
  rintro e wd1 ⟨rfl, at1⟩
  go_wp2
  go_ret2
  exact ⟨by rw [E.out]; rfl, at1⟩
set_option maxHeartbeats 1000000 in
theorem rdurText_0010 (n : Int) (W w : World) (x : ByteArray) (h1 : 1 ≤ n) (h2 : n ≤ 2147483648) (hx : ⟨(durText n).toArray⟩ = x) (h : At W w) (h3 : ¬ n % 604800 = 0) (h4 : ¬ n % 86400 = 0) (t0 : n < 86400) (t1 : n % 86400 < 3600) (t2 : 0 < n % 86400 / 60 % 60) (t3 : n % 60 ≤ 0) :
    Calls Tryd.prog 27 #[.int .i64 n] w fun e w' => e = .returned (.tuple #[.string x, .int .i64 0]) ∧ At W w' := by
  have hb : ((n % 604800 : Int) == 0) = false := by rw [beq_eq_false_iff_ne]; exact h3
  have hb2 : ((n % 86400 : Int) == 0) = false := by rw [beq_eq_false_iff_ne]; exact h4
  have l2 := itoa_len (n % 86400 / 60 % 60) (by omega) (by omega)
  have E := Lib.hid (show (⟨#[80]⟩ : ByteArray) ++ ⟨#[84]⟩ ++ (⟨(Lib.itoa (n % 86400 / 60 % 60)).toArray⟩ ++ ⟨#[77]⟩) = x by
    rw [← hx]; refine bytes_ext ?_
    simp only [Go.Joins.data_append]
    show [80] ++ [84] ++ (Lib.itoa (n % 86400 / 60 % 60) ++ [77]) = durText n
    unfold durText; rw [if_neg h3, if_neg h4, show n % 3600 / 60 = n % 86400 / 60 % 60 by omega, part_0 (n := n / 86400) (by omega) (by omega), part_0 (n := n % 86400 / 3600) (by omega) (by omega), part_1 (n := n % 86400 / 60 % 60) (by omega), part_0 (n := n % 60) (by omega) (by omega)]
    simp [u8])
  clear h3 h4 hx
  go_enter Tryd.func27, Tryd.ntmps27
  go_wp2_with fail
  refine (dec_any _ W _ (by omega) (by omega) _ rfl h).mono ?_
  rintro e wd1 ⟨rfl, at1⟩
  go_wp2
  go_ret2
  exact ⟨by rw [E.out]; rfl, at1⟩
set_option maxHeartbeats 1000000 in
theorem rdurText_0011 (n : Int) (W w : World) (x : ByteArray) (h1 : 1 ≤ n) (h2 : n ≤ 2147483648) (hx : ⟨(durText n).toArray⟩ = x) (h : At W w) (h3 : ¬ n % 604800 = 0) (h4 : ¬ n % 86400 = 0) (t0 : n < 86400) (t1 : n % 86400 < 3600) (t2 : 0 < n % 86400 / 60 % 60) (t3 : 0 < n % 60) :
    Calls Tryd.prog 27 #[.int .i64 n] w fun e w' => e = .returned (.tuple #[.string x, .int .i64 0]) ∧ At W w' := by
  have hb : ((n % 604800 : Int) == 0) = false := by rw [beq_eq_false_iff_ne]; exact h3
  have hb2 : ((n % 86400 : Int) == 0) = false := by rw [beq_eq_false_iff_ne]; exact h4
  have l2 := itoa_len (n % 86400 / 60 % 60) (by omega) (by omega)
  have l3 := itoa_len (n % 60) (by omega) (by omega)
  have E := Lib.hid (show (⟨#[80]⟩ : ByteArray) ++ ⟨#[84]⟩ ++ (⟨(Lib.itoa (n % 86400 / 60 % 60)).toArray⟩ ++ ⟨#[77]⟩) ++ (⟨(Lib.itoa (n % 60)).toArray⟩ ++ ⟨#[83]⟩) = x by
    rw [← hx]; refine bytes_ext ?_
    simp only [Go.Joins.data_append]
    show [80] ++ [84] ++ (Lib.itoa (n % 86400 / 60 % 60) ++ [77]) ++ (Lib.itoa (n % 60) ++ [83]) = durText n
    unfold durText; rw [if_neg h3, if_neg h4, show n % 3600 / 60 = n % 86400 / 60 % 60 by omega, part_0 (n := n / 86400) (by omega) (by omega), part_0 (n := n % 86400 / 3600) (by omega) (by omega), part_1 (n := n % 86400 / 60 % 60) (by omega), part_1 (n := n % 60) (by omega)]
    simp [u8])
  clear h3 h4 hx
  go_enter Tryd.func27, Tryd.ntmps27
  go_wp2_with fail
  refine (dec_any _ W _ (by omega) (by omega) _ rfl h).mono ?_
  rintro e wd1 ⟨rfl, at1⟩
  go_wp2_with fail
  refine (dec_any _ W _ (by omega) (by omega) _ rfl at1).mono ?_
  rintro e wd2 ⟨rfl, at2⟩
  clear at1
  go_wp2
  go_ret2
  exact ⟨by rw [E.out]; rfl, at2⟩
set_option maxHeartbeats 1000000 in
theorem rdurText_0100 (n : Int) (W w : World) (x : ByteArray) (h1 : 1 ≤ n) (h2 : n ≤ 2147483648) (hx : ⟨(durText n).toArray⟩ = x) (h : At W w) (h3 : ¬ n % 604800 = 0) (h4 : ¬ n % 86400 = 0) (t0 : n < 86400) (t1 : 3600 ≤ n % 86400) (t2 : n % 86400 / 60 % 60 ≤ 0) (t3 : n % 60 ≤ 0) :
    Calls Tryd.prog 27 #[.int .i64 n] w fun e w' => e = .returned (.tuple #[.string x, .int .i64 0]) ∧ At W w' := by
  have hb : ((n % 604800 : Int) == 0) = false := by rw [beq_eq_false_iff_ne]; exact h3
  have hb2 : ((n % 86400 : Int) == 0) = false := by rw [beq_eq_false_iff_ne]; exact h4
  have l1 := itoa_len (n % 86400 / 3600) (by omega) (by omega)
  have E := Lib.hid (show (⟨#[80]⟩ : ByteArray) ++ ⟨#[84]⟩ ++ (⟨(Lib.itoa (n % 86400 / 3600)).toArray⟩ ++ ⟨#[72]⟩) = x by
    rw [← hx]; refine bytes_ext ?_
    simp only [Go.Joins.data_append]
    show [80] ++ [84] ++ (Lib.itoa (n % 86400 / 3600) ++ [72]) = durText n
    unfold durText; rw [if_neg h3, if_neg h4, show n % 3600 / 60 = n % 86400 / 60 % 60 by omega, part_0 (n := n / 86400) (by omega) (by omega), part_1 (n := n % 86400 / 3600) (by omega), part_0 (n := n % 86400 / 60 % 60) (by omega) (by omega), part_0 (n := n % 60) (by omega) (by omega)]
    simp [u8])
  clear h3 h4 hx
  go_enter Tryd.func27, Tryd.ntmps27
  go_wp2_with fail
  refine (dec_any _ W _ (by omega) (by omega) _ rfl h).mono ?_
  rintro e wd1 ⟨rfl, at1⟩
  go_wp2
  go_ret2
  exact ⟨by rw [E.out]; rfl, at1⟩
set_option maxHeartbeats 1000000 in
theorem rdurText_0101 (n : Int) (W w : World) (x : ByteArray) (h1 : 1 ≤ n) (h2 : n ≤ 2147483648) (hx : ⟨(durText n).toArray⟩ = x) (h : At W w) (h3 : ¬ n % 604800 = 0) (h4 : ¬ n % 86400 = 0) (t0 : n < 86400) (t1 : 3600 ≤ n % 86400) (t2 : n % 86400 / 60 % 60 ≤ 0) (t3 : 0 < n % 60) :
    Calls Tryd.prog 27 #[.int .i64 n] w fun e w' => e = .returned (.tuple #[.string x, .int .i64 0]) ∧ At W w' := by
  have hb : ((n % 604800 : Int) == 0) = false := by rw [beq_eq_false_iff_ne]; exact h3
  have hb2 : ((n % 86400 : Int) == 0) = false := by rw [beq_eq_false_iff_ne]; exact h4
  have l1 := itoa_len (n % 86400 / 3600) (by omega) (by omega)
  have l3 := itoa_len (n % 60) (by omega) (by omega)
  have E := Lib.hid (show (⟨#[80]⟩ : ByteArray) ++ ⟨#[84]⟩ ++ (⟨(Lib.itoa (n % 86400 / 3600)).toArray⟩ ++ ⟨#[72]⟩) ++ (⟨(Lib.itoa (n % 60)).toArray⟩ ++ ⟨#[83]⟩) = x by
    rw [← hx]; refine bytes_ext ?_
    simp only [Go.Joins.data_append]
    show [80] ++ [84] ++ (Lib.itoa (n % 86400 / 3600) ++ [72]) ++ (Lib.itoa (n % 60) ++ [83]) = durText n
    unfold durText; rw [if_neg h3, if_neg h4, show n % 3600 / 60 = n % 86400 / 60 % 60 by omega, part_0 (n := n / 86400) (by omega) (by omega), part_1 (n := n % 86400 / 3600) (by omega), part_0 (n := n % 86400 / 60 % 60) (by omega) (by omega), part_1 (n := n % 60) (by omega)]
    simp [u8])
  clear h3 h4 hx
  go_enter Tryd.func27, Tryd.ntmps27
  go_wp2_with fail
  refine (dec_any _ W _ (by omega) (by omega) _ rfl h).mono ?_
  rintro e wd1 ⟨rfl, at1⟩
  go_wp2_with fail
  refine (dec_any _ W _ (by omega) (by omega) _ rfl at1).mono ?_
  rintro e wd2 ⟨rfl, at2⟩
  clear at1
  go_wp2
  go_ret2
  exact ⟨by rw [E.out]; rfl, at2⟩
set_option maxHeartbeats 1000000 in
theorem rdurText_0110 (n : Int) (W w : World) (x : ByteArray) (h1 : 1 ≤ n) (h2 : n ≤ 2147483648) (hx : ⟨(durText n).toArray⟩ = x) (h : At W w) (h3 : ¬ n % 604800 = 0) (h4 : ¬ n % 86400 = 0) (t0 : n < 86400) (t1 : 3600 ≤ n % 86400) (t2 : 0 < n % 86400 / 60 % 60) (t3 : n % 60 ≤ 0) :
    Calls Tryd.prog 27 #[.int .i64 n] w fun e w' => e = .returned (.tuple #[.string x, .int .i64 0]) ∧ At W w' := by
  have hb : ((n % 604800 : Int) == 0) = false := by rw [beq_eq_false_iff_ne]; exact h3
  have hb2 : ((n % 86400 : Int) == 0) = false := by rw [beq_eq_false_iff_ne]; exact h4
  have l1 := itoa_len (n % 86400 / 3600) (by omega) (by omega)
  have l2 := itoa_len (n % 86400 / 60 % 60) (by omega) (by omega)
  have E := Lib.hid (show (⟨#[80]⟩ : ByteArray) ++ ⟨#[84]⟩ ++ (⟨(Lib.itoa (n % 86400 / 3600)).toArray⟩ ++ ⟨#[72]⟩) ++ (⟨(Lib.itoa (n % 86400 / 60 % 60)).toArray⟩ ++ ⟨#[77]⟩) = x by
    rw [← hx]; refine bytes_ext ?_
    simp only [Go.Joins.data_append]
    show [80] ++ [84] ++ (Lib.itoa (n % 86400 / 3600) ++ [72]) ++ (Lib.itoa (n % 86400 / 60 % 60) ++ [77]) = durText n
    unfold durText; rw [if_neg h3, if_neg h4, show n % 3600 / 60 = n % 86400 / 60 % 60 by omega, part_0 (n := n / 86400) (by omega) (by omega), part_1 (n := n % 86400 / 3600) (by omega), part_1 (n := n % 86400 / 60 % 60) (by omega), part_0 (n := n % 60) (by omega) (by omega)]
    simp [u8])
  clear h3 h4 hx
  go_enter Tryd.func27, Tryd.ntmps27
  go_wp2_with fail
  refine (dec_any _ W _ (by omega) (by omega) _ rfl h).mono ?_
  rintro e wd1 ⟨rfl, at1⟩
  go_wp2_with fail
  refine (dec_any _ W _ (by omega) (by omega) _ rfl at1).mono ?_
  rintro e wd2 ⟨rfl, at2⟩
  clear at1
  go_wp2
  go_ret2
  exact ⟨by rw [E.out]; rfl, at2⟩
set_option maxHeartbeats 1000000 in
theorem rdurText_0111 (n : Int) (W w : World) (x : ByteArray) (h1 : 1 ≤ n) (h2 : n ≤ 2147483648) (hx : ⟨(durText n).toArray⟩ = x) (h : At W w) (h3 : ¬ n % 604800 = 0) (h4 : ¬ n % 86400 = 0) (t0 : n < 86400) (t1 : 3600 ≤ n % 86400) (t2 : 0 < n % 86400 / 60 % 60) (t3 : 0 < n % 60) :
    Calls Tryd.prog 27 #[.int .i64 n] w fun e w' => e = .returned (.tuple #[.string x, .int .i64 0]) ∧ At W w' := by
  have hb : ((n % 604800 : Int) == 0) = false := by rw [beq_eq_false_iff_ne]; exact h3
  have hb2 : ((n % 86400 : Int) == 0) = false := by rw [beq_eq_false_iff_ne]; exact h4
  have l1 := itoa_len (n % 86400 / 3600) (by omega) (by omega)
  have l2 := itoa_len (n % 86400 / 60 % 60) (by omega) (by omega)
  have l3 := itoa_len (n % 60) (by omega) (by omega)
  have E := Lib.hid (show (⟨#[80]⟩ : ByteArray) ++ ⟨#[84]⟩ ++ (⟨(Lib.itoa (n % 86400 / 3600)).toArray⟩ ++ ⟨#[72]⟩) ++ (⟨(Lib.itoa (n % 86400 / 60 % 60)).toArray⟩ ++ ⟨#[77]⟩) ++ (⟨(Lib.itoa (n % 60)).toArray⟩ ++ ⟨#[83]⟩) = x by
    rw [← hx]; refine bytes_ext ?_
    simp only [Go.Joins.data_append]
    show [80] ++ [84] ++ (Lib.itoa (n % 86400 / 3600) ++ [72]) ++ (Lib.itoa (n % 86400 / 60 % 60) ++ [77]) ++ (Lib.itoa (n % 60) ++ [83]) = durText n
    unfold durText; rw [if_neg h3, if_neg h4, show n % 3600 / 60 = n % 86400 / 60 % 60 by omega, part_0 (n := n / 86400) (by omega) (by omega), part_1 (n := n % 86400 / 3600) (by omega), part_1 (n := n % 86400 / 60 % 60) (by omega), part_1 (n := n % 60) (by omega)]
    simp [u8])
  clear h3 h4 hx
  go_enter Tryd.func27, Tryd.ntmps27
  go_wp2_with fail
  refine (dec_any _ W _ (by omega) (by omega) _ rfl h).mono ?_
  rintro e wd1 ⟨rfl, at1⟩
  go_wp2_with fail
  refine (dec_any _ W _ (by omega) (by omega) _ rfl at1).mono ?_
  rintro e wd2 ⟨rfl, at2⟩
  clear at1
  go_wp2_with fail
  refine (dec_any _ W _ (by omega) (by omega) _ rfl at2).mono ?_
  rintro e wd3 ⟨rfl, at3⟩
  clear at2
  go_wp2
  go_ret2
  exact ⟨by rw [E.out]; rfl, at3⟩
set_option maxHeartbeats 1000000 in
theorem rdurText_1001 (n : Int) (W w : World) (x : ByteArray) (h1 : 1 ≤ n) (h2 : n ≤ 2147483648) (hx : ⟨(durText n).toArray⟩ = x) (h : At W w) (h3 : ¬ n % 604800 = 0) (h4 : ¬ n % 86400 = 0) (t0 : 86400 ≤ n) (t1 : n % 86400 < 3600) (t2 : n % 86400 / 60 % 60 ≤ 0) (t3 : 0 < n % 60) :
    Calls Tryd.prog 27 #[.int .i64 n] w fun e w' => e = .returned (.tuple #[.string x, .int .i64 0]) ∧ At W w' := by
  have hb : ((n % 604800 : Int) == 0) = false := by rw [beq_eq_false_iff_ne]; exact h3
  have hb2 : ((n % 86400 : Int) == 0) = false := by rw [beq_eq_false_iff_ne]; exact h4
  have l0 := itoa_len (n / 86400) (by omega) (by omega)
  have l3 := itoa_len (n % 60) (by omega) (by omega)
  have E := Lib.hid (show (⟨#[80]⟩ : ByteArray) ++ (⟨(Lib.itoa (n / 86400)).toArray⟩ ++ ⟨#[68]⟩) ++ ⟨#[84]⟩ ++ (⟨(Lib.itoa (n % 60)).toArray⟩ ++ ⟨#[83]⟩) = x by
    rw [← hx]; refine bytes_ext ?_
    simp only [Go.Joins.data_append]
    show [80] ++ (Lib.itoa (n / 86400) ++ [68]) ++ [84] ++ (Lib.itoa (n % 60) ++ [83]) = durText n
    unfold durText; rw [if_neg h3, if_neg h4, show n % 3600 / 60 = n % 86400 / 60 % 60 by omega, part_1 (n := n / 86400) (by omega), part_0 (n := n % 86400 / 3600) (by omega) (by omega), part_0 (n := n % 86400 / 60 % 60) (by omega) (by omega), part_1 (n := n % 60) (by omega)]
    simp [u8])
  clear h3 h4 hx
  go_enter Tryd.func27, Tryd.ntmps27
  go_wp2_with fail
  refine (dec_any _ W _ (by omega) (by omega) _ rfl h).mono ?_
  rintro e wd1 ⟨rfl, at1⟩
  go_wp2_with fail
  refine (dec_any _ W _ (by omega) (by omega) _ rfl at1).mono ?_
  rintro e wd2 ⟨rfl, at2⟩
  clear at1
  go_wp2
  go_ret2
  exact ⟨by rw [E.out]; rfl, at2⟩
set_option maxHeartbeats 1000000 in
theorem rdurText_1010 (n : Int) (W w : World) (x : ByteArray) (h1 : 1 ≤ n) (h2 : n ≤ 2147483648) (hx : ⟨(durText n).toArray⟩ = x) (h : At W w) (h3 : ¬ n % 604800 = 0) (h4 : ¬ n % 86400 = 0) (t0 : 86400 ≤ n) (t1 : n % 86400 < 3600) (t2 : 0 < n % 86400 / 60 % 60) (t3 : n % 60 ≤ 0) :
    Calls Tryd.prog 27 #[.int .i64 n] w fun e w' => e = .returned (.tuple #[.string x, .int .i64 0]) ∧ At W w' := by
  have hb : ((n % 604800 : Int) == 0) = false := by rw [beq_eq_false_iff_ne]; exact h3
  have hb2 : ((n % 86400 : Int) == 0) = false := by rw [beq_eq_false_iff_ne]; exact h4
  have l0 := itoa_len (n / 86400) (by omega) (by omega)
  have l2 := itoa_len (n % 86400 / 60 % 60) (by omega) (by omega)
  have E := Lib.hid (show (⟨#[80]⟩ : ByteArray) ++ (⟨(Lib.itoa (n / 86400)).toArray⟩ ++ ⟨#[68]⟩) ++ ⟨#[84]⟩ ++ (⟨(Lib.itoa (n % 86400 / 60 % 60)).toArray⟩ ++ ⟨#[77]⟩) = x by
    rw [← hx]; refine bytes_ext ?_
    simp only [Go.Joins.data_append]
    show [80] ++ (Lib.itoa (n / 86400) ++ [68]) ++ [84] ++ (Lib.itoa (n % 86400 / 60 % 60) ++ [77]) = durText n
    unfold durText; rw [if_neg h3, if_neg h4, show n % 3600 / 60 = n % 86400 / 60 % 60 by omega, part_1 (n := n / 86400) (by omega), part_0 (n := n % 86400 / 3600) (by omega) (by omega), part_1 (n := n % 86400 / 60 % 60) (by omega), part_0 (n := n % 60) (by omega) (by omega)]
    simp [u8])
  clear h3 h4 hx
  go_enter Tryd.func27, Tryd.ntmps27
  go_wp2_with fail
  refine (dec_any _ W _ (by omega) (by omega) _ rfl h).mono ?_
  rintro e wd1 ⟨rfl, at1⟩
  go_wp2_with fail
  refine (dec_any _ W _ (by omega) (by omega) _ rfl at1).mono ?_
  rintro e wd2 ⟨rfl, at2⟩
  clear at1
  go_wp2
  go_ret2
  exact ⟨by rw [E.out]; rfl, at2⟩
set_option maxHeartbeats 1000000 in
theorem rdurText_1011 (n : Int) (W w : World) (x : ByteArray) (h1 : 1 ≤ n) (h2 : n ≤ 2147483648) (hx : ⟨(durText n).toArray⟩ = x) (h : At W w) (h3 : ¬ n % 604800 = 0) (h4 : ¬ n % 86400 = 0) (t0 : 86400 ≤ n) (t1 : n % 86400 < 3600) (t2 : 0 < n % 86400 / 60 % 60) (t3 : 0 < n % 60) :
    Calls Tryd.prog 27 #[.int .i64 n] w fun e w' => e = .returned (.tuple #[.string x, .int .i64 0]) ∧ At W w' := by
  have hb : ((n % 604800 : Int) == 0) = false := by rw [beq_eq_false_iff_ne]; exact h3
  have hb2 : ((n % 86400 : Int) == 0) = false := by rw [beq_eq_false_iff_ne]; exact h4
  have l0 := itoa_len (n / 86400) (by omega) (by omega)
  have l2 := itoa_len (n % 86400 / 60 % 60) (by omega) (by omega)
  have l3 := itoa_len (n % 60) (by omega) (by omega)
  have E := Lib.hid (show (⟨#[80]⟩ : ByteArray) ++ (⟨(Lib.itoa (n / 86400)).toArray⟩ ++ ⟨#[68]⟩) ++ ⟨#[84]⟩ ++ (⟨(Lib.itoa (n % 86400 / 60 % 60)).toArray⟩ ++ ⟨#[77]⟩) ++ (⟨(Lib.itoa (n % 60)).toArray⟩ ++ ⟨#[83]⟩) = x by
    rw [← hx]; refine bytes_ext ?_
    simp only [Go.Joins.data_append]
    show [80] ++ (Lib.itoa (n / 86400) ++ [68]) ++ [84] ++ (Lib.itoa (n % 86400 / 60 % 60) ++ [77]) ++ (Lib.itoa (n % 60) ++ [83]) = durText n
    unfold durText; rw [if_neg h3, if_neg h4, show n % 3600 / 60 = n % 86400 / 60 % 60 by omega, part_1 (n := n / 86400) (by omega), part_0 (n := n % 86400 / 3600) (by omega) (by omega), part_1 (n := n % 86400 / 60 % 60) (by omega), part_1 (n := n % 60) (by omega)]
    simp [u8])
  clear h3 h4 hx
  go_enter Tryd.func27, Tryd.ntmps27
  go_wp2_with fail
  refine (dec_any _ W _ (by omega) (by omega) _ rfl h).mono ?_
  rintro e wd1 ⟨rfl, at1⟩
  go_wp2_with fail
  refine (dec_any _ W _ (by omega) (by omega) _ rfl at1).mono ?_
  rintro e wd2 ⟨rfl, at2⟩
  clear at1
  go_wp2_with fail
  refine (dec_any _ W _ (by omega) (by omega) _ rfl at2).mono ?_
  rintro e wd3 ⟨rfl, at3⟩
  clear at2
  go_wp2
  go_ret2
  exact ⟨by rw [E.out]; rfl, at3⟩
set_option maxHeartbeats 1000000 in
theorem rdurText_1100 (n : Int) (W w : World) (x : ByteArray) (h1 : 1 ≤ n) (h2 : n ≤ 2147483648) (hx : ⟨(durText n).toArray⟩ = x) (h : At W w) (h3 : ¬ n % 604800 = 0) (h4 : ¬ n % 86400 = 0) (t0 : 86400 ≤ n) (t1 : 3600 ≤ n % 86400) (t2 : n % 86400 / 60 % 60 ≤ 0) (t3 : n % 60 ≤ 0) :
    Calls Tryd.prog 27 #[.int .i64 n] w fun e w' => e = .returned (.tuple #[.string x, .int .i64 0]) ∧ At W w' := by
  have hb : ((n % 604800 : Int) == 0) = false := by rw [beq_eq_false_iff_ne]; exact h3
  have hb2 : ((n % 86400 : Int) == 0) = false := by rw [beq_eq_false_iff_ne]; exact h4
  have l0 := itoa_len (n / 86400) (by omega) (by omega)
  have l1 := itoa_len (n % 86400 / 3600) (by omega) (by omega)
  have E := Lib.hid (show (⟨#[80]⟩ : ByteArray) ++ (⟨(Lib.itoa (n / 86400)).toArray⟩ ++ ⟨#[68]⟩) ++ ⟨#[84]⟩ ++ (⟨(Lib.itoa (n % 86400 / 3600)).toArray⟩ ++ ⟨#[72]⟩) = x by
    rw [← hx]; refine bytes_ext ?_
    simp only [Go.Joins.data_append]
    show [80] ++ (Lib.itoa (n / 86400) ++ [68]) ++ [84] ++ (Lib.itoa (n % 86400 / 3600) ++ [72]) = durText n
    unfold durText; rw [if_neg h3, if_neg h4, show n % 3600 / 60 = n % 86400 / 60 % 60 by omega, part_1 (n := n / 86400) (by omega), part_1 (n := n % 86400 / 3600) (by omega), part_0 (n := n % 86400 / 60 % 60) (by omega) (by omega), part_0 (n := n % 60) (by omega) (by omega)]
    simp [u8])
  clear h3 h4 hx
  go_enter Tryd.func27, Tryd.ntmps27
  go_wp2_with fail
  refine (dec_any _ W _ (by omega) (by omega) _ rfl h).mono ?_
  rintro e wd1 ⟨rfl, at1⟩
  go_wp2_with fail
  refine (dec_any _ W _ (by omega) (by omega) _ rfl at1).mono ?_
  rintro e wd2 ⟨rfl, at2⟩
  clear at1
  go_wp2
  go_ret2
  exact ⟨by rw [E.out]; rfl, at2⟩
set_option maxHeartbeats 1000000 in
theorem rdurText_1101 (n : Int) (W w : World) (x : ByteArray) (h1 : 1 ≤ n) (h2 : n ≤ 2147483648) (hx : ⟨(durText n).toArray⟩ = x) (h : At W w) (h3 : ¬ n % 604800 = 0) (h4 : ¬ n % 86400 = 0) (t0 : 86400 ≤ n) (t1 : 3600 ≤ n % 86400) (t2 : n % 86400 / 60 % 60 ≤ 0) (t3 : 0 < n % 60) :
    Calls Tryd.prog 27 #[.int .i64 n] w fun e w' => e = .returned (.tuple #[.string x, .int .i64 0]) ∧ At W w' := by
  have hb : ((n % 604800 : Int) == 0) = false := by rw [beq_eq_false_iff_ne]; exact h3
  have hb2 : ((n % 86400 : Int) == 0) = false := by rw [beq_eq_false_iff_ne]; exact h4
  have l0 := itoa_len (n / 86400) (by omega) (by omega)
  have l1 := itoa_len (n % 86400 / 3600) (by omega) (by omega)
  have l3 := itoa_len (n % 60) (by omega) (by omega)
  have E := Lib.hid (show (⟨#[80]⟩ : ByteArray) ++ (⟨(Lib.itoa (n / 86400)).toArray⟩ ++ ⟨#[68]⟩) ++ ⟨#[84]⟩ ++ (⟨(Lib.itoa (n % 86400 / 3600)).toArray⟩ ++ ⟨#[72]⟩) ++ (⟨(Lib.itoa (n % 60)).toArray⟩ ++ ⟨#[83]⟩) = x by
    rw [← hx]; refine bytes_ext ?_
    simp only [Go.Joins.data_append]
    show [80] ++ (Lib.itoa (n / 86400) ++ [68]) ++ [84] ++ (Lib.itoa (n % 86400 / 3600) ++ [72]) ++ (Lib.itoa (n % 60) ++ [83]) = durText n
    unfold durText; rw [if_neg h3, if_neg h4, show n % 3600 / 60 = n % 86400 / 60 % 60 by omega, part_1 (n := n / 86400) (by omega), part_1 (n := n % 86400 / 3600) (by omega), part_0 (n := n % 86400 / 60 % 60) (by omega) (by omega), part_1 (n := n % 60) (by omega)]
    simp [u8])
  clear h3 h4 hx
  go_enter Tryd.func27, Tryd.ntmps27
  go_wp2_with fail
  refine (dec_any _ W _ (by omega) (by omega) _ rfl h).mono ?_
  rintro e wd1 ⟨rfl, at1⟩
  go_wp2_with fail
  refine (dec_any _ W _ (by omega) (by omega) _ rfl at1).mono ?_
  rintro e wd2 ⟨rfl, at2⟩
  clear at1
  go_wp2_with fail
  refine (dec_any _ W _ (by omega) (by omega) _ rfl at2).mono ?_
  rintro e wd3 ⟨rfl, at3⟩
  clear at2
  go_wp2
  go_ret2
  exact ⟨by rw [E.out]; rfl, at3⟩
set_option maxHeartbeats 1000000 in
theorem rdurText_1110 (n : Int) (W w : World) (x : ByteArray) (h1 : 1 ≤ n) (h2 : n ≤ 2147483648) (hx : ⟨(durText n).toArray⟩ = x) (h : At W w) (h3 : ¬ n % 604800 = 0) (h4 : ¬ n % 86400 = 0) (t0 : 86400 ≤ n) (t1 : 3600 ≤ n % 86400) (t2 : 0 < n % 86400 / 60 % 60) (t3 : n % 60 ≤ 0) :
    Calls Tryd.prog 27 #[.int .i64 n] w fun e w' => e = .returned (.tuple #[.string x, .int .i64 0]) ∧ At W w' := by
  have hb : ((n % 604800 : Int) == 0) = false := by rw [beq_eq_false_iff_ne]; exact h3
  have hb2 : ((n % 86400 : Int) == 0) = false := by rw [beq_eq_false_iff_ne]; exact h4
  have l0 := itoa_len (n / 86400) (by omega) (by omega)
  have l1 := itoa_len (n % 86400 / 3600) (by omega) (by omega)
  have l2 := itoa_len (n % 86400 / 60 % 60) (by omega) (by omega)
  have E := Lib.hid (show (⟨#[80]⟩ : ByteArray) ++ (⟨(Lib.itoa (n / 86400)).toArray⟩ ++ ⟨#[68]⟩) ++ ⟨#[84]⟩ ++ (⟨(Lib.itoa (n % 86400 / 3600)).toArray⟩ ++ ⟨#[72]⟩) ++ (⟨(Lib.itoa (n % 86400 / 60 % 60)).toArray⟩ ++ ⟨#[77]⟩) = x by
    rw [← hx]; refine bytes_ext ?_
    simp only [Go.Joins.data_append]
    show [80] ++ (Lib.itoa (n / 86400) ++ [68]) ++ [84] ++ (Lib.itoa (n % 86400 / 3600) ++ [72]) ++ (Lib.itoa (n % 86400 / 60 % 60) ++ [77]) = durText n
    unfold durText; rw [if_neg h3, if_neg h4, show n % 3600 / 60 = n % 86400 / 60 % 60 by omega, part_1 (n := n / 86400) (by omega), part_1 (n := n % 86400 / 3600) (by omega), part_1 (n := n % 86400 / 60 % 60) (by omega), part_0 (n := n % 60) (by omega) (by omega)]
    simp [u8])
  clear h3 h4 hx
  go_enter Tryd.func27, Tryd.ntmps27
  go_wp2_with fail
  refine (dec_any _ W _ (by omega) (by omega) _ rfl h).mono ?_
  rintro e wd1 ⟨rfl, at1⟩
  go_wp2_with fail
  refine (dec_any _ W _ (by omega) (by omega) _ rfl at1).mono ?_
  rintro e wd2 ⟨rfl, at2⟩
  clear at1
  go_wp2_with fail
  refine (dec_any _ W _ (by omega) (by omega) _ rfl at2).mono ?_
  rintro e wd3 ⟨rfl, at3⟩
  clear at2
  go_wp2
  go_ret2
  exact ⟨by rw [E.out]; rfl, at3⟩
set_option maxHeartbeats 1000000 in
theorem rdurText_1111 (n : Int) (W w : World) (x : ByteArray) (h1 : 1 ≤ n) (h2 : n ≤ 2147483648) (hx : ⟨(durText n).toArray⟩ = x) (h : At W w) (h3 : ¬ n % 604800 = 0) (h4 : ¬ n % 86400 = 0) (t0 : 86400 ≤ n) (t1 : 3600 ≤ n % 86400) (t2 : 0 < n % 86400 / 60 % 60) (t3 : 0 < n % 60) :
    Calls Tryd.prog 27 #[.int .i64 n] w fun e w' => e = .returned (.tuple #[.string x, .int .i64 0]) ∧ At W w' := by
  have hb : ((n % 604800 : Int) == 0) = false := by rw [beq_eq_false_iff_ne]; exact h3
  have hb2 : ((n % 86400 : Int) == 0) = false := by rw [beq_eq_false_iff_ne]; exact h4
  have l0 := itoa_len (n / 86400) (by omega) (by omega)
  have l1 := itoa_len (n % 86400 / 3600) (by omega) (by omega)
  have l2 := itoa_len (n % 86400 / 60 % 60) (by omega) (by omega)
  have l3 := itoa_len (n % 60) (by omega) (by omega)
  have E := Lib.hid (show (⟨#[80]⟩ : ByteArray) ++ (⟨(Lib.itoa (n / 86400)).toArray⟩ ++ ⟨#[68]⟩) ++ ⟨#[84]⟩ ++ (⟨(Lib.itoa (n % 86400 / 3600)).toArray⟩ ++ ⟨#[72]⟩) ++ (⟨(Lib.itoa (n % 86400 / 60 % 60)).toArray⟩ ++ ⟨#[77]⟩) ++ (⟨(Lib.itoa (n % 60)).toArray⟩ ++ ⟨#[83]⟩) = x by
    rw [← hx]; refine bytes_ext ?_
    simp only [Go.Joins.data_append]
    show [80] ++ (Lib.itoa (n / 86400) ++ [68]) ++ [84] ++ (Lib.itoa (n % 86400 / 3600) ++ [72]) ++ (Lib.itoa (n % 86400 / 60 % 60) ++ [77]) ++ (Lib.itoa (n % 60) ++ [83]) = durText n
    unfold durText; rw [if_neg h3, if_neg h4, show n % 3600 / 60 = n % 86400 / 60 % 60 by omega, part_1 (n := n / 86400) (by omega), part_1 (n := n % 86400 / 3600) (by omega), part_1 (n := n % 86400 / 60 % 60) (by omega), part_1 (n := n % 60) (by omega)]
    simp [u8])
  clear h3 h4 hx
  go_enter Tryd.func27, Tryd.ntmps27
  go_wp2_with fail
  refine (dec_any _ W _ (by omega) (by omega) _ rfl h).mono ?_
  rintro e wd1 ⟨rfl, at1⟩
  go_wp2_with fail
  refine (dec_any _ W _ (by omega) (by omega) _ rfl at1).mono ?_
  rintro e wd2 ⟨rfl, at2⟩
  clear at1
  go_wp2_with fail
  refine (dec_any _ W _ (by omega) (by omega) _ rfl at2).mono ?_
  rintro e wd3 ⟨rfl, at3⟩
  clear at2
  go_wp2_with fail
  refine (dec_any _ W _ (by omega) (by omega) _ rfl at3).mono ?_
  rintro e wd4 ⟨rfl, at4⟩
  clear at3
  go_wp2
  go_ret2
  exact ⟨by rw [E.out]; rfl, at4⟩
theorem rdurText_yes (n : Int) (W w : World) (x : ByteArray) (h1 : 1 ≤ n) (h2 : n ≤ 2147483648) (hx : ⟨(durText n).toArray⟩ = x) (h : At W w) :
    Calls Tryd.prog 27 #[.int .i64 n] w fun e w' => e = .returned (.tuple #[.string x, .int .i64 0]) ∧ At W w' := by
  by_cases h3 : n % 604800 = 0
  · exact rdurText_week n W w x h1 h2 hx h h3
  by_cases h4 : n % 86400 = 0
  · exact rdurText_day n W w x h1 h2 hx h h3 h4
  by_cases t0 : 86400 ≤ n <;> by_cases t1 : 3600 ≤ n % 86400 <;> by_cases t2 : 0 < n % 86400 / 60 % 60 <;> by_cases t3 : 0 < n % 60
  · exact rdurText_1111 n W w x h1 h2 hx h h3 h4 (by omega) (by omega) (by omega) (by omega)
  · exact rdurText_1110 n W w x h1 h2 hx h h3 h4 (by omega) (by omega) (by omega) (by omega)
  · exact rdurText_1101 n W w x h1 h2 hx h h3 h4 (by omega) (by omega) (by omega) (by omega)
  · exact rdurText_1100 n W w x h1 h2 hx h h3 h4 (by omega) (by omega) (by omega) (by omega)
  · exact rdurText_1011 n W w x h1 h2 hx h h3 h4 (by omega) (by omega) (by omega) (by omega)
  · exact rdurText_1010 n W w x h1 h2 hx h h3 h4 (by omega) (by omega) (by omega) (by omega)
  · exact rdurText_1001 n W w x h1 h2 hx h h3 h4 (by omega) (by omega) (by omega) (by omega)
  · omega
  · exact rdurText_0111 n W w x h1 h2 hx h h3 h4 (by omega) (by omega) (by omega) (by omega)
  · exact rdurText_0110 n W w x h1 h2 hx h h3 h4 (by omega) (by omega) (by omega) (by omega)
  · exact rdurText_0101 n W w x h1 h2 hx h h3 h4 (by omega) (by omega) (by omega) (by omega)
  · exact rdurText_0100 n W w x h1 h2 hx h h3 h4 (by omega) (by omega) (by omega) (by omega)
  · exact rdurText_0011 n W w x h1 h2 hx h h3 h4 (by omega) (by omega) (by omega) (by omega)
  · exact rdurText_0010 n W w x h1 h2 hx h h3 h4 (by omega) (by omega) (by omega) (by omega)
  · exact rdurText_0001 n W w x h1 h2 hx h h3 h4 (by omega) (by omega) (by omega) (by omega)
  · omega
end Go.Proofs.YtbnncdfkmlfjhaaDoor.St
