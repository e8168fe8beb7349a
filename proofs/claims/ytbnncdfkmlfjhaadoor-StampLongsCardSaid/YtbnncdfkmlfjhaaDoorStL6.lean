/- The walk of voklaw2's law StampLongs. -/
import Derived.Test.YtbnncdfkmlfjhaaDoorStFirst
import Derived.Test.YtbnncdfkmlfjhaaDoorStMath2
import Derived.Test.YtbnncdfkmlfjhaaDoorStDec
import Derived.Lib.SmallJoins
namespace Go.Proofs.YtbnncdfkmlfjhaaDoor.St
open Go.RowKit Cv
set_option linter.unusedVariables false

theorem itoa_len (n : Int) (h0 : 0 ≤ n) (h1 : n ≤ 1000000) : (Lib.itoa n).length ≤ 21 := Lib.itoa_length_le n (by omega) (by omega)
theorem part_0 {n u : Int} (h : 0 ≤ n) (g : n ≤ 0) : part n u = [] := by unfold part; rw [if_pos (by omega)]
theorem part_1 {n u : Int} (h : 0 < n) : part n u = Lib.itoa n ++ [u8 u] := by unfold part; rw [if_neg (by omega)]
theorem long_list {d h m s : Int} (d1 : 0 ≤ d) (h1 : 0 ≤ h) (h2 : h ≤ 23) (m1 : 0 ≤ m) (m2 : m ≤ 59) (s1 : 0 ≤ s) (s2 : s ≤ 59) (d2 : d ≤ 6) (hn : 0 < d + h + m + s) :
    durText (d * 86400 + h * 3600 + m * 60 + s) = 80 :: (part d 68 ++ if h + m + s ≤ 0 then [] else 84 :: (part h 72 ++ part m 77 ++ part s 83)) := by
  unfold durText
  rw [if_neg (by omega)]
  by_cases g : (d * 86400 + h * 3600 + m * 60 + s) % 86400 = 0
  · rw [if_pos g, if_pos (by omega), List.append_nil, show (d * 86400 + h * 3600 + m * 60 + s) / 86400 = d by omega]
  · have z : ¬ h + m + s ≤ 0 := by
      intro z
      have a1 : h = 0 := by omega
      have a2 : m = 0 := by omega
      have a3 : s = 0 := by omega
      omega
    rw [if_neg g, if_neg z, show (d * 86400 + h * 3600 + m * 60 + s) / 86400 = d by omega, show (d * 86400 + h * 3600 + m * 60 + s) % 86400 / 3600 = h by omega,
      show (d * 86400 + h * 3600 + m * 60 + s) % 3600 / 60 = m by omega, show (d * 86400 + h * 3600 + m * 60 + s) % 60 = s by omega]
theorem long_w {w : Int} (h1 : 1 ≤ w) (h2 : w ≤ 100) : durParse ((⟨#[80]⟩ : ByteArray) ++ ⟨(Lib.itoa w).toArray⟩ ++ ⟨#[87]⟩).data.toList = (w * 604800, 0) := by
  have e : ((⟨#[80]⟩ : ByteArray) ++ ⟨(Lib.itoa w).toArray⟩ ++ ⟨#[87]⟩).data.toList = durText (w * 604800) := by
    unfold durText
    rw [if_pos (by omega), show w * 604800 / 604800 = w by omega, part_1 (by omega), Go.Joins.data_append, Go.Joins.data_append]
    rfl
  rw [e]; exact durParse_durText (by omega) (by omega)
theorem str_small {s : ByteArray} {l : List UInt8} (h : s.data.toList = l) (g : l.length ≤ 1000) : s.size ≤ maxLen := by
  have : s.size = s.data.toList.length := by simp
  unfold maxLen; rw [this, h]; omega
theorem long_w_size {w : Int} (h1 : 1 ≤ w) (h2 : w ≤ 100) : ((⟨#[80]⟩ : ByteArray) ++ ⟨(Lib.itoa w).toArray⟩ ++ ⟨#[87]⟩).size ≤ maxLen := by
  have := itoa_len w (by omega) (by omega)
  refine str_small (l := [80] ++ Lib.itoa w ++ [87]) (by rw [Go.Joins.data_append, Go.Joins.data_append]) ?_
  simp; omega
theorem durParse_of (W w : World) {s : ByteArray} {n : Int} (hs : s.data.toList = durText n) (hl : (durText n).length ≤ 100) (h : At W w) (h1 : 1 ≤ n) (h2 : n ≤ 2147483648) :
    Calls Tryd.prog 28 #[.string s] w fun e w' => e = .returned (.tuple #[.int .i64 n, .int .i64 0]) ∧ At W w' :=
  durParse_is s W w (str_small hs (by omega)) h n 0 (by rw [hs]; exact durParse_durText h1 h2)
set_option maxHeartbeats 1000000 in
theorem long_0000 (w d h m s : Int) (w1 : 1 ≤ w) (w2 : w ≤ 100) (d1 : 0 ≤ d) (d2 : d ≤ 6) (h1 : 0 ≤ h) (h2 : h ≤ 23) (m1 : 0 ≤ m) (m2 : m ≤ 59) (s1 : 0 ≤ s) (s2 : s ≤ 59) (d3 : d ≤ 0) (h3 : h ≤ 0) (m3 : m ≤ 0) (s3 : s ≤ 0) (W : World) (ha : At W W) :
    Calls Tryd.prog 12 #[.int .i64 w, .int .i64 d, .int .i64 h, .int .i64 m, .int .i64 s] W fun e w' => e = .returned (.bool true) ∧ At W w' := by
  have l_w := itoa_len w (by omega) (by omega)
  have l_d := itoa_len d (by omega) (by omega)
  have l_h := itoa_len h (by omega) (by omega)
  have l_m := itoa_len m (by omega) (by omega)
  have l_s := itoa_len s (by omega) (by omega)
  have b1 : ((d * 86400 + h * 3600 + m * 60 + s : Int) == 0) = true := by rw [beq_iff_eq]; omega
  go_enter Tryd.func12, Tryd.ntmps12
  go_wp2_with fail
  refine (first_any W _ ha).mono ?_
  rintro e wd1 ⟨rfl, at1⟩
  go_wp2_with fail
  refine (dec_any _ W _ (by omega) (by omega) _ rfl at1).mono ?_
  rintro e wd2 ⟨rfl, at2⟩
  clear at1
  go_wp2_with fail
  refine (durParse_is _ W _ (long_w_size w1 w2) at2 (w * 604800) 0 (long_w w1 w2)).mono ?_
  rintro e wd3 ⟨rfl, at3⟩
  clear at2
  go_wp2_with fail
  refine (first_any W _ at3).mono ?_
  rintro e wd4 ⟨rfl, at4⟩
  clear at3
  go_wp2
  go_ret
  exact ⟨rfl, at4⟩
set_option maxHeartbeats 1000000 in
theorem long_0001 (w d h m s : Int) (w1 : 1 ≤ w) (w2 : w ≤ 100) (d1 : 0 ≤ d) (d2 : d ≤ 6) (h1 : 0 ≤ h) (h2 : h ≤ 23) (m1 : 0 ≤ m) (m2 : m ≤ 59) (s1 : 0 ≤ s) (s2 : s ≤ 59) (d3 : d ≤ 0) (h3 : h ≤ 0) (m3 : m ≤ 0) (s3 : 0 < s) (W : World) (ha : At W W) :
    Calls Tryd.prog 12 #[.int .i64 w, .int .i64 d, .int .i64 h, .int .i64 m, .int .i64 s] W fun e w' => e = .returned (.bool true) ∧ At W w' := by
  have l_w := itoa_len w (by omega) (by omega)
  have l_d := itoa_len d (by omega) (by omega)
  have l_h := itoa_len h (by omega) (by omega)
  have l_m := itoa_len m (by omega) (by omega)
  have l_s := itoa_len s (by omega) (by omega)
  have b1 : ((d * 86400 + h * 3600 + m * 60 + s : Int) == 0) = false := by rw [beq_eq_false_iff_ne]; omega
  have b2 : 0 < h + m + s := by omega
  have L := Lib.hid (long_list d1 h1 h2 m1 m2 s1 s2 d2 (by omega))
  go_enter Tryd.func12, Tryd.ntmps12
  go_wp2_with fail
  refine (first_any W _ ha).mono ?_
  rintro e wd1 ⟨rfl, at1⟩
  go_wp2_with fail
  refine (dec_any _ W _ (by omega) (by omega) _ rfl at1).mono ?_
  rintro e wd2 ⟨rfl, at2⟩
  clear at1
  go_wp2_with fail
  refine (durParse_is _ W _ (long_w_size w1 w2) at2 (w * 604800) 0 (long_w w1 w2)).mono ?_
  rintro e wd3 ⟨rfl, at3⟩
  clear at2
  go_wp2_with fail
  refine (dec_any _ W _ (by omega) (by omega) _ rfl at3).mono ?_
  rintro e wd4 ⟨rfl, at4⟩
  clear at3
  go_wp2_with fail
  refine (durParse_of W _ (n := d * 86400 + h * 3600 + m * 60 + s) ?eq (durText_len (by omega) (by omega)) at4 (by omega) (by omega)).mono ?_
  case eq =>
    rw [L.out, if_neg (by omega)]
    rw [part_0 d1 d3, part_0 h1 h3, part_0 m1 m3, part_1 s3]
    simp only [Go.Joins.data_append]
    simp [u8]
  rintro e wd5 ⟨rfl, at5⟩
  clear at4
  go_wp2_with fail
  refine (first_any W _ at5).mono ?_
  rintro e wd6 ⟨rfl, at6⟩
  clear at5
  go_wp2
  go_ret
  exact ⟨rfl, at6⟩
set_option maxHeartbeats 1000000 in
theorem long_0010 (w d h m s : Int) (w1 : 1 ≤ w) (w2 : w ≤ 100) (d1 : 0 ≤ d) (d2 : d ≤ 6) (h1 : 0 ≤ h) (h2 : h ≤ 23) (m1 : 0 ≤ m) (m2 : m ≤ 59) (s1 : 0 ≤ s) (s2 : s ≤ 59) (d3 : d ≤ 0) (h3 : h ≤ 0) (m3 : 0 < m) (s3 : s ≤ 0) (W : World) (ha : At W W) :
    Calls Tryd.prog 12 #[.int .i64 w, .int .i64 d, .int .i64 h, .int .i64 m, .int .i64 s] W fun e w' => e = .returned (.bool true) ∧ At W w' := by
  have l_w := itoa_len w (by omega) (by omega)
  have l_d := itoa_len d (by omega) (by omega)
  have l_h := itoa_len h (by omega) (by omega)
  have l_m := itoa_len m (by omega) (by omega)
  have l_s := itoa_len s (by omega) (by omega)
  have b1 : ((d * 86400 + h * 3600 + m * 60 + s : Int) == 0) = false := by rw [beq_eq_false_iff_ne]; omega
  have b2 : 0 < h + m + s := by omega
  have L := Lib.hid (long_list d1 h1 h2 m1 m2 s1 s2 d2 (by omega))
  go_enter Tryd.func12, Tryd.ntmps12
  go_wp2_with fail
  refine (first_any W _ ha).mono ?_
  rintro e wd1 ⟨rfl, at1⟩
  go_wp2_with fail
  refine (dec_any _ W _ (by omega) (by omega) _ rfl at1).mono ?_
  rintro e wd2 ⟨rfl, at2⟩
  clear at1
  go_wp2_with fail
  refine (durParse_is _ W _ (long_w_size w1 w2) at2 (w * 604800) 0 (long_w w1 w2)).mono ?_
  rintro e wd3 ⟨rfl, at3⟩
  clear at2
  go_wp2_with fail
  refine (dec_any _ W _ (by omega) (by omega) _ rfl at3).mono ?_
  rintro e wd4 ⟨rfl, at4⟩
  clear at3
  go_wp2_with fail
  refine (durParse_of W _ (n := d * 86400 + h * 3600 + m * 60 + s) ?eq (durText_len (by omega) (by omega)) at4 (by omega) (by omega)).mono ?_
  case eq =>
    rw [L.out, if_neg (by omega)]
    rw [part_0 d1 d3, part_0 h1 h3, part_1 m3, part_0 s1 s3]
    simp only [Go.Joins.data_append]
    simp [u8]
  rintro e wd5 ⟨rfl, at5⟩
  clear at4
  go_wp2_with fail
  refine (first_any W _ at5).mono ?_
  rintro e wd6 ⟨rfl, at6⟩
  clear at5
  go_wp2
  go_ret
  exact ⟨rfl, at6⟩
set_option maxHeartbeats 1000000 in
theorem long_0011 (w d h m s : Int) (w1 : 1 ≤ w) (w2 : w ≤ 100) (d1 : 0 ≤ d) (d2 : d ≤ 6) (h1 : 0 ≤ h) (h2 : h ≤ 23) (m1 : 0 ≤ m) (m2 : m ≤ 59) (s1 : 0 ≤ s) (s2 : s ≤ 59) (d3 : d ≤ 0) (h3 : h ≤ 0) (m3 : 0 < m) (s3 : 0 < s) (W : World) (ha : At W W) :
    Calls Tryd.prog 12 #[.int .i64 w, .int .i64 d, .int .i64 h, .int .i64 m, .int .i64 s] W fun e w' => e = .returned (.bool true) ∧ At W w' := by
  have l_w := itoa_len w (by omega) (by omega)
  have l_d := itoa_len d (by omega) (by omega)
  have l_h := itoa_len h (by omega) (by omega)
  have l_m := itoa_len m (by omega) (by omega)
  have l_s := itoa_len s (by omega) (by omega)
  have b1 : ((d * 86400 + h * 3600 + m * 60 + s : Int) == 0) = false := by rw [beq_eq_false_iff_ne]; omega
  have b2 : 0 < h + m + s := by omega
  have L := Lib.hid (long_list d1 h1 h2 m1 m2 s1 s2 d2 (by omega))
  go_enter Tryd.func12, Tryd.ntmps12
  go_wp2_with fail
  refine (first_any W _ ha).mono ?_
  rintro e wd1 ⟨rfl, at1⟩
  go_wp2_with fail
  refine (dec_any _ W _ (by omega) (by omega) _ rfl at1).mono ?_
  rintro e wd2 ⟨rfl, at2⟩
  clear at1
  go_wp2_with fail
  refine (durParse_is _ W _ (long_w_size w1 w2) at2 (w * 604800) 0 (long_w w1 w2)).mono ?_
  rintro e wd3 ⟨rfl, at3⟩
  clear at2
  go_wp2_with fail
  refine (dec_any _ W _ (by omega) (by omega) _ rfl at3).mono ?_
  rintro e wd4 ⟨rfl, at4⟩
  clear at3
  go_wp2_with fail
  refine (dec_any _ W _ (by omega) (by omega) _ rfl at4).mono ?_
  rintro e wd5 ⟨rfl, at5⟩
  clear at4
  go_wp2_with fail
  refine (durParse_of W _ (n := d * 86400 + h * 3600 + m * 60 + s) ?eq (durText_len (by omega) (by omega)) at5 (by omega) (by omega)).mono ?_
  case eq =>
    rw [L.out, if_neg (by omega)]
    rw [part_0 d1 d3, part_0 h1 h3, part_1 m3, part_1 s3]
    simp only [Go.Joins.data_append]
    simp [u8]
  rintro e wd6 ⟨rfl, at6⟩
  clear at5
  go_wp2_with fail
  refine (first_any W _ at6).mono ?_
  rintro e wd7 ⟨rfl, at7⟩
  clear at6
  go_wp2
  go_ret
  exact ⟨rfl, at7⟩
set_option maxHeartbeats 1000000 in
theorem long_0100 (w d h m s : Int) (w1 : 1 ≤ w) (w2 : w ≤ 100) (d1 : 0 ≤ d) (d2 : d ≤ 6) (h1 : 0 ≤ h) (h2 : h ≤ 23) (m1 : 0 ≤ m) (m2 : m ≤ 59) (s1 : 0 ≤ s) (s2 : s ≤ 59) (d3 : d ≤ 0) (h3 : 0 < h) (m3 : m ≤ 0) (s3 : s ≤ 0) (W : World) (ha : At W W) :
    Calls Tryd.prog 12 #[.int .i64 w, .int .i64 d, .int .i64 h, .int .i64 m, .int .i64 s] W fun e w' => e = .returned (.bool true) ∧ At W w' := by
  have l_w := itoa_len w (by omega) (by omega)
  have l_d := itoa_len d (by omega) (by omega)
  have l_h := itoa_len h (by omega) (by omega)
  have l_m := itoa_len m (by omega) (by omega)
  have l_s := itoa_len s (by omega) (by omega)
  have b1 : ((d * 86400 + h * 3600 + m * 60 + s : Int) == 0) = false := by rw [beq_eq_false_iff_ne]; omega
  have b2 : 0 < h + m + s := by omega
  have L := Lib.hid (long_list d1 h1 h2 m1 m2 s1 s2 d2 (by omega))
  go_enter Tryd.func12, Tryd.ntmps12
  go_wp2_with fail
  refine (first_any W _ ha).mono ?_
  rintro e wd1 ⟨rfl, at1⟩
  go_wp2_with fail
  refine (dec_any _ W _ (by omega) (by omega) _ rfl at1).mono ?_
  rintro e wd2 ⟨rfl, at2⟩
  clear at1
  go_wp2_with fail
  refine (durParse_is _ W _ (long_w_size w1 w2) at2 (w * 604800) 0 (long_w w1 w2)).mono ?_
  rintro e wd3 ⟨rfl, at3⟩
  clear at2
  go_wp2_with fail
  refine (dec_any _ W _ (by omega) (by omega) _ rfl at3).mono ?_
  rintro e wd4 ⟨rfl, at4⟩
  clear at3
  go_wp2_with fail
  refine (durParse_of W _ (n := d * 86400 + h * 3600 + m * 60 + s) ?eq (durText_len (by omega) (by omega)) at4 (by omega) (by omega)).mono ?_
  case eq =>
    rw [L.out, if_neg (by omega)]
    rw [part_0 d1 d3, part_1 h3, part_0 m1 m3, part_0 s1 s3]
    simp only [Go.Joins.data_append]
    simp [u8]
  rintro e wd5 ⟨rfl, at5⟩
  clear at4
  go_wp2_with fail
  refine (first_any W _ at5).mono ?_
  rintro e wd6 ⟨rfl, at6⟩
  clear at5
  go_wp2
  go_ret
  exact ⟨rfl, at6⟩
set_option maxHeartbeats 1000000 in
theorem long_0101 (w d h m s : Int) (w1 : 1 ≤ w) (w2 : w ≤ 100) (d1 : 0 ≤ d) (d2 : d ≤ 6) (h1 : 0 ≤ h) (h2 : h ≤ 23) (m1 : 0 ≤ m) (m2 : m ≤ 59) (s1 : 0 ≤ s) (s2 : s ≤ 59) (d3 : d ≤ 0) (h3 : 0 < h) (m3 : m ≤ 0) (s3 : 0 < s) (W : World) (ha : At W W) :
    Calls Tryd.prog 12 #[.int .i64 w, .int .i64 d, .int .i64 h, .int .i64 m, .int .i64 s] W fun e w' => e = .returned (.bool true) ∧ At W w' := by
  have l_w := itoa_len w (by omega) (by omega)
  have l_d := itoa_len d (by omega) (by omega)
  have l_h := itoa_len h (by omega) (by omega)
  have l_m := itoa_len m (by omega) (by omega)
  have l_s := itoa_len s (by omega) (by omega)
  have b1 : ((d * 86400 + h * 3600 + m * 60 + s : Int) == 0) = false := by rw [beq_eq_false_iff_ne]; omega
  have b2 : 0 < h + m + s := by omega
  have L := Lib.hid (long_list d1 h1 h2 m1 m2 s1 s2 d2 (by omega))
  go_enter Tryd.func12, Tryd.ntmps12
  go_wp2_with fail
  refine (first_any W _ ha).mono ?_
  rintro e wd1 ⟨rfl, at1⟩
  go_wp2_with fail
  refine (dec_any _ W _ (by omega) (by omega) _ rfl at1).mono ?_
  rintro e wd2 ⟨rfl, at2⟩
  clear at1
  go_wp2_with fail
  refine (durParse_is _ W _ (long_w_size w1 w2) at2 (w * 604800) 0 (long_w w1 w2)).mono ?_
  rintro e wd3 ⟨rfl, at3⟩
  clear at2
  go_wp2_with fail
  refine (dec_any _ W _ (by omega) (by omega) _ rfl at3).mono ?_
  rintro e wd4 ⟨rfl, at4⟩
  clear at3
  go_wp2_with fail
  refine (dec_any _ W _ (by omega) (by omega) _ rfl at4).mono ?_
  rintro e wd5 ⟨rfl, at5⟩
  clear at4
  go_wp2_with fail
  refine (durParse_of W _ (n := d * 86400 + h * 3600 + m * 60 + s) ?eq (durText_len (by omega) (by omega)) at5 (by omega) (by omega)).mono ?_
  case eq =>
    rw [L.out, if_neg (by omega)]
    rw [part_0 d1 d3, part_1 h3, part_0 m1 m3, part_1 s3]
    simp only [Go.Joins.data_append]
    simp [u8]
  rintro e wd6 ⟨rfl, at6⟩
  clear at5
  go_wp2_with fail
  refine (first_any W _ at6).mono ?_
  rintro e wd7 ⟨rfl, at7⟩
  clear at6
  go_wp2
  go_ret
  exact ⟨rfl, at7⟩
set_option maxHeartbeats 1000000 in
theorem long_0110 (w d h m s : Int) (w1 : 1 ≤ w) (w2 : w ≤ 100) (d1 : 0 ≤ d) (d2 : d ≤ 6) (h1 : 0 ≤ h) (h2 : h ≤ 23) (m1 : 0 ≤ m) (m2 : m ≤ 59) (s1 : 0 ≤ s) (s2 : s ≤ 59) (d3 : d ≤ 0) (h3 : 0 < h) (m3 : 0 < m) (s3 : s ≤ 0) (W : World) (ha : At W W) :
    Calls Tryd.prog 12 #[.int .i64 w, .int .i64 d, .int .i64 h, .int .i64 m, .int .i64 s] W fun e w' => e = .returned (.bool true) ∧ At W w' := by
  have l_w := itoa_len w (by omega) (by omega)
  have l_d := itoa_len d (by omega) (by omega)
  have l_h := itoa_len h (by omega) (by omega)
  have l_m := itoa_len m (by omega) (by omega)
  have l_s := itoa_len s (by omega) (by omega)
  have b1 : ((d * 86400 + h * 3600 + m * 60 + s : Int) == 0) = false := by rw [beq_eq_false_iff_ne]; omega
  have b2 : 0 < h + m + s := by omega
  have L := Lib.hid (long_list d1 h1 h2 m1 m2 s1 s2 d2 (by omega))
  go_enter Tryd.func12, Tryd.ntmps12
  go_wp2_with fail
  refine (first_any W _ ha).mono ?_
  rintro e wd1 ⟨rfl, at1⟩
  go_wp2_with fail
  refine (dec_any _ W _ (by omega) (by omega) _ rfl at1).mono ?_
  rintro e wd2 ⟨rfl, at2⟩
  clear at1
  go_wp2_with fail
  refine (durParse_is _ W _ (long_w_size w1 w2) at2 (w * 604800) 0 (long_w w1 w2)).mono ?_
  rintro e wd3 ⟨rfl, at3⟩
  clear at2
  go_wp2_with fail
  refine (dec_any _ W _ (by omega) (by omega) _ rfl at3).mono ?_
  rintro e wd4 ⟨rfl, at4⟩
  clear at3
  go_wp2_with fail
  refine (dec_any _ W _ (by omega) (by omega) _ rfl at4).mono ?_
  rintro e wd5 ⟨rfl, at5⟩
  clear at4
  go_wp2_with fail
  refine (durParse_of W _ (n := d * 86400 + h * 3600 + m * 60 + s) ?eq (durText_len (by omega) (by omega)) at5 (by omega) (by omega)).mono ?_
  case eq =>
    rw [L.out, if_neg (by omega)]
    rw [part_0 d1 d3, part_1 h3, part_1 m3, part_0 s1 s3]
    simp only [Go.Joins.data_append]
    simp [u8]
  rintro e wd6 ⟨rfl, at6⟩
  clear at5
  go_wp2_with fail
  refine (first_any W _ at6).mono ?_
  rintro e wd7 ⟨rfl, at7⟩
  clear at6
  go_wp2
  go_ret
  exact ⟨rfl, at7⟩
set_option maxHeartbeats 1000000 in
theorem long_0111 (w d h m s : Int) (w1 : 1 ≤ w) (w2 : w ≤ 100) (d1 : 0 ≤ d) (d2 : d ≤ 6) (h1 : 0 ≤ h) (h2 : h ≤ 23) (m1 : 0 ≤ m) (m2 : m ≤ 59) (s1 : 0 ≤ s) (s2 : s ≤ 59) (d3 : d ≤ 0) (h3 : 0 < h) (m3 : 0 < m) (s3 : 0 < s) (W : World) (ha : At W W) :
    Calls Tryd.prog 12 #[.int .i64 w, .int .i64 d, .int .i64 h, .int .i64 m, .int .i64 s] W fun e w' => e = .returned (.bool true) ∧ At W w' := by
  have l_w := itoa_len w (by omega) (by omega)
  have l_d := itoa_len d (by omega) (by omega)
  have l_h := itoa_len h (by omega) (by omega)
  have l_m := itoa_len m (by omega) (by omega)
  have l_s := itoa_len s (by omega) (by omega)
  have b1 : ((d * 86400 + h * 3600 + m * 60 + s : Int) == 0) = false := by rw [beq_eq_false_iff_ne]; omega
  have b2 : 0 < h + m + s := by omega
  have L := Lib.hid (long_list d1 h1 h2 m1 m2 s1 s2 d2 (by omega))
  go_enter Tryd.func12, Tryd.ntmps12
  go_wp2_with fail
  refine (first_any W _ ha).mono ?_
  rintro e wd1 ⟨rfl, at1⟩
  go_wp2_with fail
  refine (dec_any _ W _ (by omega) (by omega) _ rfl at1).mono ?_
  rintro e wd2 ⟨rfl, at2⟩
  clear at1
  go_wp2_with fail
  refine (durParse_is _ W _ (long_w_size w1 w2) at2 (w * 604800) 0 (long_w w1 w2)).mono ?_
  rintro e wd3 ⟨rfl, at3⟩
  clear at2
  go_wp2_with fail
  refine (dec_any _ W _ (by omega) (by omega) _ rfl at3).mono ?_
  rintro e wd4 ⟨rfl, at4⟩
  clear at3
  go_wp2_with fail
  refine (dec_any _ W _ (by omega) (by omega) _ rfl at4).mono ?_
  rintro e wd5 ⟨rfl, at5⟩
  clear at4
  go_wp2_with fail
  refine (dec_any _ W _ (by omega) (by omega) _ rfl at5).mono ?_
  rintro e wd6 ⟨rfl, at6⟩
  clear at5
  go_wp2_with fail
  refine (durParse_of W _ (n := d * 86400 + h * 3600 + m * 60 + s) ?eq (durText_len (by omega) (by omega)) at6 (by omega) (by omega)).mono ?_
  case eq =>
    rw [L.out, if_neg (by omega)]
    rw [part_0 d1 d3, part_1 h3, part_1 m3, part_1 s3]
    simp only [Go.Joins.data_append]
    simp [u8]
  rintro e wd7 ⟨rfl, at7⟩
  clear at6
  go_wp2_with fail
  refine (first_any W _ at7).mono ?_
  rintro e wd8 ⟨rfl, at8⟩
  clear at7
  go_wp2
  go_ret
  exact ⟨rfl, at8⟩
set_option maxHeartbeats 1000000 in
theorem long_1000 (w d h m s : Int) (w1 : 1 ≤ w) (w2 : w ≤ 100) (d1 : 0 ≤ d) (d2 : d ≤ 6) (h1 : 0 ≤ h) (h2 : h ≤ 23) (m1 : 0 ≤ m) (m2 : m ≤ 59) (s1 : 0 ≤ s) (s2 : s ≤ 59) (d3 : 0 < d) (h3 : h ≤ 0) (m3 : m ≤ 0) (s3 : s ≤ 0) (W : World) (ha : At W W) :
    Calls Tryd.prog 12 #[.int .i64 w, .int .i64 d, .int .i64 h, .int .i64 m, .int .i64 s] W fun e w' => e = .returned (.bool true) ∧ At W w' := by
  have l_w := itoa_len w (by omega) (by omega)
  have l_d := itoa_len d (by omega) (by omega)
  have l_h := itoa_len h (by omega) (by omega)
  have l_m := itoa_len m (by omega) (by omega)
  have l_s := itoa_len s (by omega) (by omega)
  have b1 : ((d * 86400 + h * 3600 + m * 60 + s : Int) == 0) = false := by rw [beq_eq_false_iff_ne]; omega
  have b2 : h + m + s ≤ 0 := by omega
  have L := Lib.hid (long_list d1 h1 h2 m1 m2 s1 s2 d2 (by omega))
  go_enter Tryd.func12, Tryd.ntmps12
  go_wp2_with fail
  refine (first_any W _ ha).mono ?_
  rintro e wd1 ⟨rfl, at1⟩
  go_wp2_with fail
  refine (dec_any _ W _ (by omega) (by omega) _ rfl at1).mono ?_
  rintro e wd2 ⟨rfl, at2⟩
  clear at1
  go_wp2_with fail
  refine (durParse_is _ W _ (long_w_size w1 w2) at2 (w * 604800) 0 (long_w w1 w2)).mono ?_
  rintro e wd3 ⟨rfl, at3⟩
  clear at2
  go_wp2_with fail
  refine (dec_any _ W _ (by omega) (by omega) _ rfl at3).mono ?_
  rintro e wd4 ⟨rfl, at4⟩
  clear at3
  go_wp2_with fail
  refine (durParse_of W _ (n := d * 86400 + h * 3600 + m * 60 + s) ?eq (durText_len (by omega) (by omega)) at4 (by omega) (by omega)).mono ?_
  case eq =>
    rw [L.out, if_pos (by omega)]
    rw [part_1 d3]
    simp only [Go.Joins.data_append]
    simp [u8]
  rintro e wd5 ⟨rfl, at5⟩
  clear at4
  go_wp2_with fail
  refine (first_any W _ at5).mono ?_
  rintro e wd6 ⟨rfl, at6⟩
  clear at5
  go_wp2
  go_ret
  exact ⟨rfl, at6⟩
set_option maxHeartbeats 1000000 in
theorem long_1001 (w d h m s : Int) (w1 : 1 ≤ w) (w2 : w ≤ 100) (d1 : 0 ≤ d) (d2 : d ≤ 6) (h1 : 0 ≤ h) (h2 : h ≤ 23) (m1 : 0 ≤ m) (m2 : m ≤ 59) (s1 : 0 ≤ s) (s2 : s ≤ 59) (d3 : 0 < d) (h3 : h ≤ 0) (m3 : m ≤ 0) (s3 : 0 < s) (W : World) (ha : At W W) :
    Calls Tryd.prog 12 #[.int .i64 w, .int .i64 d, .int .i64 h, .int .i64 m, .int .i64 s] W fun e w' => e = .returned (.bool true) ∧ At W w' := by
  have l_w := itoa_len w (by omega) (by omega)
  have l_d := itoa_len d (by omega) (by omega)
  have l_h := itoa_len h (by omega) (by omega)
  have l_m := itoa_len m (by omega) (by omega)
  have l_s := itoa_len s (by omega) (by omega)
  have b1 : ((d * 86400 + h * 3600 + m * 60 + s : Int) == 0) = false := by rw [beq_eq_false_iff_ne]; omega
  have b2 : 0 < h + m + s := by omega
  have L := Lib.hid (long_list d1 h1 h2 m1 m2 s1 s2 d2 (by omega))
  go_enter Tryd.func12, Tryd.ntmps12
  go_wp2_with fail
  refine (first_any W _ ha).mono ?_
  rintro e wd1 ⟨rfl, at1⟩
  go_wp2_with fail
  refine (dec_any _ W _ (by omega) (by omega) _ rfl at1).mono ?_
  rintro e wd2 ⟨rfl, at2⟩
  clear at1
  go_wp2_with fail
  refine (durParse_is _ W _ (long_w_size w1 w2) at2 (w * 604800) 0 (long_w w1 w2)).mono ?_
  rintro e wd3 ⟨rfl, at3⟩
  clear at2
  go_wp2_with fail
  refine (dec_any _ W _ (by omega) (by omega) _ rfl at3).mono ?_
  rintro e wd4 ⟨rfl, at4⟩
  clear at3
  go_wp2_with fail
  refine (dec_any _ W _ (by omega) (by omega) _ rfl at4).mono ?_
  rintro e wd5 ⟨rfl, at5⟩
  clear at4
  go_wp2_with fail
  refine (durParse_of W _ (n := d * 86400 + h * 3600 + m * 60 + s) ?eq (durText_len (by omega) (by omega)) at5 (by omega) (by omega)).mono ?_
  case eq =>
    rw [L.out, if_neg (by omega)]
    rw [part_1 d3, part_0 h1 h3, part_0 m1 m3, part_1 s3]
    simp only [Go.Joins.data_append]
    simp [u8]
  rintro e wd6 ⟨rfl, at6⟩
  clear at5
  go_wp2_with fail
  refine (first_any W _ at6).mono ?_
  rintro e wd7 ⟨rfl, at7⟩
  clear at6
  go_wp2
  go_ret
  exact ⟨rfl, at7⟩
set_option maxHeartbeats 1000000 in
theorem long_1010 (w d h m s : Int) (w1 : 1 ≤ w) (w2 : w ≤ 100) (d1 : 0 ≤ d) (d2 : d ≤ 6) (h1 : 0 ≤ h) (h2 : h ≤ 23) (m1 : 0 ≤ m) (m2 : m ≤ 59) (s1 : 0 ≤ s) (s2 : s ≤ 59) (d3 : 0 < d) (h3 : h ≤ 0) (m3 : 0 < m) (s3 : s ≤ 0) (W : World) (ha : At W W) :
    Calls Tryd.prog 12 #[.int .i64 w, .int .i64 d, .int .i64 h, .int .i64 m, .int .i64 s] W fun e w' => e = .returned (.bool true) ∧ At W w' := by
  have l_w := itoa_len w (by omega) (by omega)
  have l_d := itoa_len d (by omega) (by omega)
  have l_h := itoa_len h (by omega) (by omega)
  have l_m := itoa_len m (by omega) (by omega)
  have l_s := itoa_len s (by omega) (by omega)
  have b1 : ((d * 86400 + h * 3600 + m * 60 + s : Int) == 0) = false := by rw [beq_eq_false_iff_ne]; omega
  have b2 : 0 < h + m + s := by omega
  have L := Lib.hid (long_list d1 h1 h2 m1 m2 s1 s2 d2 (by omega))
  go_enter Tryd.func12, Tryd.ntmps12
  go_wp2_with fail
  refine (first_any W _ ha).mono ?_
  rintro e wd1 ⟨rfl, at1⟩
  go_wp2_with fail
  refine (dec_any _ W _ (by omega) (by omega) _ rfl at1).mono ?_
  rintro e wd2 ⟨rfl, at2⟩
  clear at1
  go_wp2_with fail
  refine (durParse_is _ W _ (long_w_size w1 w2) at2 (w * 604800) 0 (long_w w1 w2)).mono ?_
  rintro e wd3 ⟨rfl, at3⟩
  clear at2
  go_wp2_with fail
  refine (dec_any _ W _ (by omega) (by omega) _ rfl at3).mono ?_
  rintro e wd4 ⟨rfl, at4⟩
  clear at3
  go_wp2_with fail
  refine (dec_any _ W _ (by omega) (by omega) _ rfl at4).mono ?_
  rintro e wd5 ⟨rfl, at5⟩
  clear at4
  go_wp2_with fail
  refine (durParse_of W _ (n := d * 86400 + h * 3600 + m * 60 + s) ?eq (durText_len (by omega) (by omega)) at5 (by omega) (by omega)).mono ?_
  case eq =>
    rw [L.out, if_neg (by omega)]
    rw [part_1 d3, part_0 h1 h3, part_1 m3, part_0 s1 s3]
    simp only [Go.Joins.data_append]
    simp [u8]
  rintro e wd6 ⟨rfl, at6⟩
  clear at5
  go_wp2_with fail
  refine (first_any W _ at6).mono ?_
  rintro e wd7 ⟨rfl, at7⟩
  clear at6
  go_wp2
  go_ret
  exact ⟨rfl, at7⟩
set_option maxHeartbeats 1000000 in
theorem long_1011 (w d h m s : Int) (w1 : 1 ≤ w) (w2 : w ≤ 100) (d1 : 0 ≤ d) (d2 : d ≤ 6) (h1 : 0 ≤ h) (h2 : h ≤ 23) (m1 : 0 ≤ m) (m2 : m ≤ 59) (s1 : 0 ≤ s) (s2 : s ≤ 59) (d3 : 0 < d) (h3 : h ≤ 0) (m3 : 0 < m) (s3 : 0 < s) (W : World) (ha : At W W) :
    Calls Tryd.prog 12 #[.int .i64 w, .int .i64 d, .int .i64 h, .int .i64 m, .int .i64 s] W fun e w' => e = .returned (.bool true) ∧ At W w' := by
  have l_w := itoa_len w (by omega) (by omega)
  have l_d := itoa_len d (by omega) (by omega)
  have l_h := itoa_len h (by omega) (by omega)
  have l_m := itoa_len m (by omega) (by omega)
  have l_s := itoa_len s (by omega) (by omega)
  have b1 : ((d * 86400 + h * 3600 + m * 60 + s : Int) == 0) = false := by rw [beq_eq_false_iff_ne]; omega
  have b2 : 0 < h + m + s := by omega
  have L := Lib.hid (long_list d1 h1 h2 m1 m2 s1 s2 d2 (by omega))
  go_enter Tryd.func12, Tryd.ntmps12
  go_wp2_with fail
  refine (first_any W _ ha).mono ?_
  rintro e wd1 ⟨rfl, at1⟩
  go_wp2_with fail
  refine (dec_any _ W _ (by omega) (by omega) _ rfl at1).mono ?_
  rintro e wd2 ⟨rfl, at2⟩
  clear at1
  go_wp2_with fail
  refine (durParse_is _ W _ (long_w_size w1 w2) at2 (w * 604800) 0 (long_w w1 w2)).mono ?_
  rintro e wd3 ⟨rfl, at3⟩
  clear at2
  go_wp2_with fail
  refine (dec_any _ W _ (by omega) (by omega) _ rfl at3).mono ?_
  rintro e wd4 ⟨rfl, at4⟩
  clear at3
  go_wp2_with fail
  refine (dec_any _ W _ (by omega) (by omega) _ rfl at4).mono ?_
  rintro e wd5 ⟨rfl, at5⟩
  clear at4
  go_wp2_with fail
  refine (dec_any _ W _ (by omega) (by omega) _ rfl at5).mono ?_
  rintro e wd6 ⟨rfl, at6⟩
  clear at5
  go_wp2_with fail
  refine (durParse_of W _ (n := d * 86400 + h * 3600 + m * 60 + s) ?eq (durText_len (by omega) (by omega)) at6 (by omega) (by omega)).mono ?_
  case eq =>
    rw [L.out, if_neg (by omega)]
    rw [part_1 d3, part_0 h1 h3, part_1 m3, part_1 s3]
    simp only [Go.Joins.data_append]
    simp [u8]
  rintro e wd7 ⟨rfl, at7⟩
  clear at6
  go_wp2_with fail
  refine (first_any W _ at7).mono ?_
  rintro e wd8 ⟨rfl, at8⟩
  clear at7
  go_wp2
  go_ret
  exact ⟨rfl, at8⟩
set_option maxHeartbeats 1000000 in
theorem long_1100 (w d h m s : Int) (w1 : 1 ≤ w) (w2 : w ≤ 100) (d1 : 0 ≤ d) (d2 : d ≤ 6) (h1 : 0 ≤ h) (h2 : h ≤ 23) (m1 : 0 ≤ m) (m2 : m ≤ 59) (s1 : 0 ≤ s) (s2 : s ≤ 59) (d3 : 0 < d) (h3 : 0 < h) (m3 : m ≤ 0) (s3 : s ≤ 0) (W : World) (ha : At W W) :
    Calls Tryd.prog 12 #[.int .i64 w, .int .i64 d, .int .i64 h, .int .i64 m, .int .i64 s] W fun e w' => e = .returned (.bool true) ∧ At W w' := by
  have l_w := itoa_len w (by omega) (by omega)
  have l_d := itoa_len d (by omega) (by omega)
  have l_h := itoa_len h (by omega) (by omega)
  have l_m := itoa_len m (by omega) (by omega)
  have l_s := itoa_len s (by omega) (by omega)
  have b1 : ((d * 86400 + h * 3600 + m * 60 + s : Int) == 0) = false := by rw [beq_eq_false_iff_ne]; omega
  have b2 : 0 < h + m + s := by omega
  have L := Lib.hid (long_list d1 h1 h2 m1 m2 s1 s2 d2 (by omega))
  go_enter Tryd.func12, Tryd.ntmps12
  go_wp2_with fail
  refine (first_any W _ ha).mono ?_
  rintro e wd1 ⟨rfl, at1⟩
  go_wp2_with fail
  refine (dec_any _ W _ (by omega) (by omega) _ rfl at1).mono ?_
  rintro e wd2 ⟨rfl, at2⟩
  clear at1
  go_wp2_with fail
  refine (durParse_is _ W _ (long_w_size w1 w2) at2 (w * 604800) 0 (long_w w1 w2)).mono ?_
  rintro e wd3 ⟨rfl, at3⟩
  clear at2
  go_wp2_with fail
  refine (dec_any _ W _ (by omega) (by omega) _ rfl at3).mono ?_
  rintro e wd4 ⟨rfl, at4⟩
  clear at3
  go_wp2_with fail
  refine (dec_any _ W _ (by omega) (by omega) _ rfl at4).mono ?_
  rintro e wd5 ⟨rfl, at5⟩
  clear at4
  go_wp2_with fail
  refine (durParse_of W _ (n := d * 86400 + h * 3600 + m * 60 + s) ?eq (durText_len (by omega) (by omega)) at5 (by omega) (by omega)).mono ?_
  case eq =>
    rw [L.out, if_neg (by omega)]
    rw [part_1 d3, part_1 h3, part_0 m1 m3, part_0 s1 s3]
    simp only [Go.Joins.data_append]
    simp [u8]
  rintro e wd6 ⟨rfl, at6⟩
  clear at5
  go_wp2_with fail
  refine (first_any W _ at6).mono ?_
  rintro e wd7 ⟨rfl, at7⟩
  clear at6
  go_wp2
  go_ret
  exact ⟨rfl, at7⟩
set_option maxHeartbeats 1000000 in
theorem long_1101 (w d h m s : Int) (w1 : 1 ≤ w) (w2 : w ≤ 100) (d1 : 0 ≤ d) (d2 : d ≤ 6) (h1 : 0 ≤ h) (h2 : h ≤ 23) (m1 : 0 ≤ m) (m2 : m ≤ 59) (s1 : 0 ≤ s) (s2 : s ≤ 59) (d3 : 0 < d) (h3 : 0 < h) (m3 : m ≤ 0) (s3 : 0 < s) (W : World) (ha : At W W) :
    Calls Tryd.prog 12 #[.int .i64 w, .int .i64 d, .int .i64 h, .int .i64 m, .int .i64 s] W fun e w' => e = .returned (.bool true) ∧ At W w' := by
  have l_w := itoa_len w (by omega) (by omega)
  have l_d := itoa_len d (by omega) (by omega)
  have l_h := itoa_len h (by omega) (by omega)
  have l_m := itoa_len m (by omega) (by omega)
  have l_s := itoa_len s (by omega) (by omega)
  have b1 : ((d * 86400 + h * 3600 + m * 60 + s : Int) == 0) = false := by rw [beq_eq_false_iff_ne]; omega
  have b2 : 0 < h + m + s := by omega
  have L := Lib.hid (long_list d1 h1 h2 m1 m2 s1 s2 d2 (by omega))
  go_enter Tryd.func12, Tryd.ntmps12
  go_wp2_with fail
  refine (first_any W _ ha).mono ?_
  rintro e wd1 ⟨rfl, at1⟩
  go_wp2_with fail
  refine (dec_any _ W _ (by omega) (by omega) _ rfl at1).mono ?_
  rintro e wd2 ⟨rfl, at2⟩
  clear at1
  go_wp2_with fail
  refine (durParse_is _ W _ (long_w_size w1 w2) at2 (w * 604800) 0 (long_w w1 w2)).mono ?_
  rintro e wd3 ⟨rfl, at3⟩
  clear at2
  go_wp2_with fail
  refine (dec_any _ W _ (by omega) (by omega) _ rfl at3).mono ?_
  rintro e wd4 ⟨rfl, at4⟩
  clear at3
  go_wp2_with fail
  refine (dec_any _ W _ (by omega) (by omega) _ rfl at4).mono ?_
  rintro e wd5 ⟨rfl, at5⟩
  clear at4
  go_wp2_with fail
  refine (dec_any _ W _ (by omega) (by omega) _ rfl at5).mono ?_
  rintro e wd6 ⟨rfl, at6⟩
  clear at5
  go_wp2_with fail
  refine (durParse_of W _ (n := d * 86400 + h * 3600 + m * 60 + s) ?eq (durText_len (by omega) (by omega)) at6 (by omega) (by omega)).mono ?_
  case eq =>
    rw [L.out, if_neg (by omega)]
    rw [part_1 d3, part_1 h3, part_0 m1 m3, part_1 s3]
    simp only [Go.Joins.data_append]
    simp [u8]
  rintro e wd7 ⟨rfl, at7⟩
  clear at6
  go_wp2_with fail
  refine (first_any W _ at7).mono ?_
  rintro e wd8 ⟨rfl, at8⟩
  clear at7
  go_wp2
  go_ret
  exact ⟨rfl, at8⟩
set_option maxHeartbeats 1000000 in
theorem long_1110 (w d h m s : Int) (w1 : 1 ≤ w) (w2 : w ≤ 100) (d1 : 0 ≤ d) (d2 : d ≤ 6) (h1 : 0 ≤ h) (h2 : h ≤ 23) (m1 : 0 ≤ m) (m2 : m ≤ 59) (s1 : 0 ≤ s) (s2 : s ≤ 59) (d3 : 0 < d) (h3 : 0 < h) (m3 : 0 < m) (s3 : s ≤ 0) (W : World) (ha : At W W) :
    Calls Tryd.prog 12 #[.int .i64 w, .int .i64 d, .int .i64 h, .int .i64 m, .int .i64 s] W fun e w' => e = .returned (.bool true) ∧ At W w' := by
  have l_w := itoa_len w (by omega) (by omega)
  have l_d := itoa_len d (by omega) (by omega)
  have l_h := itoa_len h (by omega) (by omega)
  have l_m := itoa_len m (by omega) (by omega)
  have l_s := itoa_len s (by omega) (by omega)
  have b1 : ((d * 86400 + h * 3600 + m * 60 + s : Int) == 0) = false := by rw [beq_eq_false_iff_ne]; omega
  have b2 : 0 < h + m + s := by omega
  have L := Lib.hid (long_list d1 h1 h2 m1 m2 s1 s2 d2 (by omega))
  go_enter Tryd.func12, Tryd.ntmps12
  go_wp2_with fail
  refine (first_any W _ ha).mono ?_
  rintro e wd1 ⟨rfl, at1⟩
  go_wp2_with fail
  refine (dec_any _ W _ (by omega) (by omega) _ rfl at1).mono ?_
  rintro e wd2 ⟨rfl, at2⟩
  clear at1
  go_wp2_with fail
  refine (durParse_is _ W _ (long_w_size w1 w2) at2 (w * 604800) 0 (long_w w1 w2)).mono ?_
  rintro e wd3 ⟨rfl, at3⟩
  clear at2
  go_wp2_with fail
  refine (dec_any _ W _ (by omega) (by omega) _ rfl at3).mono ?_
  rintro e wd4 ⟨rfl, at4⟩
  clear at3
  go_wp2_with fail
  refine (dec_any _ W _ (by omega) (by omega) _ rfl at4).mono ?_
  rintro e wd5 ⟨rfl, at5⟩
  clear at4
  go_wp2_with fail
  refine (dec_any _ W _ (by omega) (by omega) _ rfl at5).mono ?_
  rintro e wd6 ⟨rfl, at6⟩
  clear at5
  go_wp2_with fail
  refine (durParse_of W _ (n := d * 86400 + h * 3600 + m * 60 + s) ?eq (durText_len (by omega) (by omega)) at6 (by omega) (by omega)).mono ?_
  case eq =>
    rw [L.out, if_neg (by omega)]
    rw [part_1 d3, part_1 h3, part_1 m3, part_0 s1 s3]
    simp only [Go.Joins.data_append]
    simp [u8]
  rintro e wd7 ⟨rfl, at7⟩
  clear at6
  go_wp2_with fail
  refine (first_any W _ at7).mono ?_
  rintro e wd8 ⟨rfl, at8⟩
  clear at7
  go_wp2
  go_ret
  exact ⟨rfl, at8⟩
set_option maxHeartbeats 1000000 in
theorem long_1111 (w d h m s : Int) (w1 : 1 ≤ w) (w2 : w ≤ 100) (d1 : 0 ≤ d) (d2 : d ≤ 6) (h1 : 0 ≤ h) (h2 : h ≤ 23) (m1 : 0 ≤ m) (m2 : m ≤ 59) (s1 : 0 ≤ s) (s2 : s ≤ 59) (d3 : 0 < d) (h3 : 0 < h) (m3 : 0 < m) (s3 : 0 < s) (W : World) (ha : At W W) :
    Calls Tryd.prog 12 #[.int .i64 w, .int .i64 d, .int .i64 h, .int .i64 m, .int .i64 s] W fun e w' => e = .returned (.bool true) ∧ At W w' := by
  have l_w := itoa_len w (by omega) (by omega)
  have l_d := itoa_len d (by omega) (by omega)
  have l_h := itoa_len h (by omega) (by omega)
  have l_m := itoa_len m (by omega) (by omega)
  have l_s := itoa_len s (by omega) (by omega)
  have b1 : ((d * 86400 + h * 3600 + m * 60 + s : Int) == 0) = false := by rw [beq_eq_false_iff_ne]; omega
  have b2 : 0 < h + m + s := by omega
  have L := Lib.hid (long_list d1 h1 h2 m1 m2 s1 s2 d2 (by omega))
  go_enter Tryd.func12, Tryd.ntmps12
  go_wp2_with fail
  refine (first_any W _ ha).mono ?_
  rintro e wd1 ⟨rfl, at1⟩
  go_wp2_with fail
  refine (dec_any _ W _ (by omega) (by omega) _ rfl at1).mono ?_
  rintro e wd2 ⟨rfl, at2⟩
  clear at1
  go_wp2_with fail
  refine (durParse_is _ W _ (long_w_size w1 w2) at2 (w * 604800) 0 (long_w w1 w2)).mono ?_
  rintro e wd3 ⟨rfl, at3⟩
  clear at2
  go_wp2_with fail
  refine (dec_any _ W _ (by omega) (by omega) _ rfl at3).mono ?_
  rintro e wd4 ⟨rfl, at4⟩
  clear at3
  go_wp2_with fail
  refine (dec_any _ W _ (by omega) (by omega) _ rfl at4).mono ?_
  rintro e wd5 ⟨rfl, at5⟩
  clear at4
  go_wp2_with fail
  refine (dec_any _ W _ (by omega) (by omega) _ rfl at5).mono ?_
  rintro e wd6 ⟨rfl, at6⟩
  clear at5
  go_wp2_with fail
  refine (dec_any _ W _ (by omega) (by omega) _ rfl at6).mono ?_
  rintro e wd7 ⟨rfl, at7⟩
  clear at6
  go_wp2_with fail
  refine (durParse_of W _ (n := d * 86400 + h * 3600 + m * 60 + s) ?eq (durText_len (by omega) (by omega)) at7 (by omega) (by omega)).mono ?_
  case eq =>
    rw [L.out, if_neg (by omega)]
    rw [part_1 d3, part_1 h3, part_1 m3, part_1 s3]
    simp only [Go.Joins.data_append]
    simp [u8]
  rintro e wd8 ⟨rfl, at8⟩
  clear at7
  go_wp2_with fail
  refine (first_any W _ at8).mono ?_
  rintro e wd9 ⟨rfl, at9⟩
  clear at8
  go_wp2
  go_ret
  exact ⟨rfl, at9⟩
set_option maxHeartbeats 1000000 in
theorem stampLongs_walk (w d h m s : Int) (w1 : -9223372036854775808 ≤ w) (w2 : w ≤ 9223372036854775807) (d1 : -9223372036854775808 ≤ d) (d2 : d ≤ 9223372036854775807) (h1 : -9223372036854775808 ≤ h) (h2 : h ≤ 9223372036854775807) (m1 : -9223372036854775808 ≤ m) (m2 : m ≤ 9223372036854775807) (s1 : -9223372036854775808 ≤ s) (s2 : s ≤ 9223372036854775807) (W : World) (ha : At W W) :
    Calls Tryd.prog 12 #[.int .i64 w, .int .i64 d, .int .i64 h, .int .i64 m, .int .i64 s] W fun e w' => e = .returned (.bool true) ∧ At W w' := by
  by_cases w3 : w < 1
  · clear w1 w2
    go_enter Tryd.func12, Tryd.ntmps12
    go_wp2_with fail
    refine (first_any W _ ha).mono ?_
    rintro e wd1 ⟨rfl, at1⟩
    go_wp2_with fail
    refine (first_any W _ at1).mono ?_
    rintro e wd2 ⟨rfl, at2⟩
    clear at1
    go_wp2
    go_ret
    exact ⟨rfl, at2⟩
  by_cases w4 : 100 < w
  · clear w1 w2
    go_enter Tryd.func12, Tryd.ntmps12
    go_wp2_with fail
    refine (first_any W _ ha).mono ?_
    rintro e wd1 ⟨rfl, at1⟩
    go_wp2_with fail
    refine (first_any W _ at1).mono ?_
    rintro e wd2 ⟨rfl, at2⟩
    clear at1
    go_wp2
    go_ret
    exact ⟨rfl, at2⟩
  by_cases d3 : d < 0
  · clear d1 d2
    go_enter Tryd.func12, Tryd.ntmps12
    go_wp2_with fail
    refine (first_any W _ ha).mono ?_
    rintro e wd1 ⟨rfl, at1⟩
    go_wp2_with fail
    refine (first_any W _ at1).mono ?_
    rintro e wd2 ⟨rfl, at2⟩
    clear at1
    go_wp2
    go_ret
    exact ⟨rfl, at2⟩
  by_cases d4 : 6 < d
  · clear d1 d2
    go_enter Tryd.func12, Tryd.ntmps12
    go_wp2_with fail
    refine (first_any W _ ha).mono ?_
    rintro e wd1 ⟨rfl, at1⟩
    go_wp2_with fail
    refine (first_any W _ at1).mono ?_
    rintro e wd2 ⟨rfl, at2⟩
    clear at1
    go_wp2
    go_ret
    exact ⟨rfl, at2⟩
  by_cases h3 : h < 0
  · clear h1 h2
    go_enter Tryd.func12, Tryd.ntmps12
    go_wp2_with fail
    refine (first_any W _ ha).mono ?_
    rintro e wd1 ⟨rfl, at1⟩
    go_wp2_with fail
    refine (first_any W _ at1).mono ?_
    rintro e wd2 ⟨rfl, at2⟩
    clear at1
    go_wp2
    go_ret
    exact ⟨rfl, at2⟩
  by_cases h4 : 23 < h
  · clear h1 h2
    go_enter Tryd.func12, Tryd.ntmps12
    go_wp2_with fail
    refine (first_any W _ ha).mono ?_
    rintro e wd1 ⟨rfl, at1⟩
    go_wp2_with fail
    refine (first_any W _ at1).mono ?_
    rintro e wd2 ⟨rfl, at2⟩
    clear at1
    go_wp2
    go_ret
    exact ⟨rfl, at2⟩
  by_cases m3 : m < 0
  · clear m1 m2
    go_enter Tryd.func12, Tryd.ntmps12
    go_wp2_with fail
    refine (first_any W _ ha).mono ?_
    rintro e wd1 ⟨rfl, at1⟩
    go_wp2_with fail
    refine (first_any W _ at1).mono ?_
    rintro e wd2 ⟨rfl, at2⟩
    clear at1
    go_wp2
    go_ret
    exact ⟨rfl, at2⟩
  by_cases m4 : 59 < m
  · clear m1 m2
    go_enter Tryd.func12, Tryd.ntmps12
    go_wp2_with fail
    refine (first_any W _ ha).mono ?_
    rintro e wd1 ⟨rfl, at1⟩
    go_wp2_with fail
    refine (first_any W _ at1).mono ?_
    rintro e wd2 ⟨rfl, at2⟩
    clear at1
    go_wp2
    go_ret
    exact ⟨rfl, at2⟩
  by_cases s3 : s < 0
  · clear s1 s2
    go_enter Tryd.func12, Tryd.ntmps12
    go_wp2_with fail
    refine (first_any W _ ha).mono ?_
    rintro e wd1 ⟨rfl, at1⟩
    go_wp2_with fail
    refine (first_any W _ at1).mono ?_
    rintro e wd2 ⟨rfl, at2⟩
    clear at1
    go_wp2
    go_ret
    exact ⟨rfl, at2⟩
  by_cases s4 : 59 < s
  · clear s1 s2
    go_enter Tryd.func12, Tryd.ntmps12
    go_wp2_with fail
    refine (first_any W _ ha).mono ?_
    rintro e wd1 ⟨rfl, at1⟩
    go_wp2_with fail
    refine (first_any W _ at1).mono ?_
    rintro e wd2 ⟨rfl, at2⟩
    clear at1
    go_wp2
    go_ret
    exact ⟨rfl, at2⟩
  by_cases e1 : 0 < d <;> by_cases e2 : 0 < h <;> by_cases e3 : 0 < m <;> by_cases e4 : 0 < s
  · exact long_1111 w d h m s (by omega) (by omega) (by omega) (by omega) (by omega) (by omega) (by omega) (by omega) (by omega) (by omega) (by omega) (by omega) (by omega) (by omega) W ha
  · exact long_1110 w d h m s (by omega) (by omega) (by omega) (by omega) (by omega) (by omega) (by omega) (by omega) (by omega) (by omega) (by omega) (by omega) (by omega) (by omega) W ha
  · exact long_1101 w d h m s (by omega) (by omega) (by omega) (by omega) (by omega) (by omega) (by omega) (by omega) (by omega) (by omega) (by omega) (by omega) (by omega) (by omega) W ha
  · exact long_1100 w d h m s (by omega) (by omega) (by omega) (by omega) (by omega) (by omega) (by omega) (by omega) (by omega) (by omega) (by omega) (by omega) (by omega) (by omega) W ha
  · exact long_1011 w d h m s (by omega) (by omega) (by omega) (by omega) (by omega) (by omega) (by omega) (by omega) (by omega) (by omega) (by omega) (by omega) (by omega) (by omega) W ha
  · exact long_1010 w d h m s (by omega) (by omega) (by omega) (by omega) (by omega) (by omega) (by omega) (by omega) (by omega) (by omega) (by omega) (by omega) (by omega) (by omega) W ha
  · exact long_1001 w d h m s (by omega) (by omega) (by omega) (by omega) (by omega) (by omega) (by omega) (by omega) (by omega) (by omega) (by omega) (by omega) (by omega) (by omega) W ha
  · exact long_1000 w d h m s (by omega) (by omega) (by omega) (by omega) (by omega) (by omega) (by omega) (by omega) (by omega) (by omega) (by omega) (by omega) (by omega) (by omega) W ha
  · exact long_0111 w d h m s (by omega) (by omega) (by omega) (by omega) (by omega) (by omega) (by omega) (by omega) (by omega) (by omega) (by omega) (by omega) (by omega) (by omega) W ha
  · exact long_0110 w d h m s (by omega) (by omega) (by omega) (by omega) (by omega) (by omega) (by omega) (by omega) (by omega) (by omega) (by omega) (by omega) (by omega) (by omega) W ha
  · exact long_0101 w d h m s (by omega) (by omega) (by omega) (by omega) (by omega) (by omega) (by omega) (by omega) (by omega) (by omega) (by omega) (by omega) (by omega) (by omega) W ha
  · exact long_0100 w d h m s (by omega) (by omega) (by omega) (by omega) (by omega) (by omega) (by omega) (by omega) (by omega) (by omega) (by omega) (by omega) (by omega) (by omega) W ha
  · exact long_0011 w d h m s (by omega) (by omega) (by omega) (by omega) (by omega) (by omega) (by omega) (by omega) (by omega) (by omega) (by omega) (by omega) (by omega) (by omega) W ha
  · exact long_0010 w d h m s (by omega) (by omega) (by omega) (by omega) (by omega) (by omega) (by omega) (by omega) (by omega) (by omega) (by omega) (by omega) (by omega) (by omega) W ha
  · exact long_0001 w d h m s (by omega) (by omega) (by omega) (by omega) (by omega) (by omega) (by omega) (by omega) (by omega) (by omega) (by omega) (by omega) (by omega) (by omega) W ha
  · exact long_0000 w d h m s (by omega) (by omega) (by omega) (by omega) (by omega) (by omega) (by omega) (by omega) (by omega) (by omega) (by omega) (by omega) (by omega) (by omega) W ha
end Go.Proofs.YtbnncdfkmlfjhaaDoor.St
