/- Package stamp in plain words: what a date and a time come to, a moment's day and second, texts of moments and durations. -/
import Derived.Test.YtkkmhjplfpdhcaaGreatDoorCvMath2
import Derived.Lib.ItoaNum
namespace Go.Proofs.YtkkmhjplfpdhcaaGreatDoor.St
open Cv

def u8 (n : Int) : UInt8 := UInt8.ofNat n.toNat
theorem u8_nat (n : Int) (h0 : 0 ≤ n) (h1 : n ≤ 255) : ((u8 n).toNat : Int) = n := by
  unfold u8; rw [UInt8.toNat_ofNat']; omega
theorem u8_inj {a b : Int} (h0 : 0 ≤ a) (h1 : a ≤ 255) (g0 : 0 ≤ b) (g1 : b ≤ 255) (h : u8 a = u8 b) : a = b := by
  have e1 := u8_nat a h0 h1; have e2 := u8_nat b g0 g1; rw [h] at e1; omega
/-- May: a moment of the years 1 to 9999. -/
def may (t : Int) : Bool := decide (-62135596800 ≤ t ∧ t ≤ 253402300799)
/-- A time of the day. -/
def time (h mi s : Int) : Bool := decide (0 ≤ h ∧ h ≤ 23 ∧ 0 ≤ mi ∧ mi ≤ 59 ∧ 0 ≤ s ∧ s ≤ 59)
def mk (y mo d h mi s : Int) : Int := num y mo d * 86400 + h * 3600 + mi * 60 + s
def d2 (n : Int) : List UInt8 := [u8 (48 + n / 10), u8 (48 + n % 10)]
@[simp] theorem d2_length (n : Int) : (d2 n).length = 2 := rfl
def text (t : Int) : List UInt8 :=
  d2 (yr (t / 86400) / 100) ++ d2 (yr (t / 86400) % 100) ++ d2 (mon (t / 86400)) ++ d2 (dom (t / 86400)) ++ [84] ++
    d2 (t % 86400 / 3600) ++ d2 (t % 3600 / 60) ++ d2 (t % 60)
/-- A part of a duration: none if it is 0. -/
def part (n u : Int) : List UInt8 := if n = 0 then [] else Lib.itoa n ++ [u8 u]
def durText (n : Int) : List UInt8 :=
  if n % 604800 = 0 then 80 :: part (n / 604800) 87
  else if n % 86400 = 0 then 80 :: part (n / 86400) 68
  else 80 :: (part (n / 86400) 68 ++ 84 :: (part (n % 86400 / 3600) 72 ++ part (n % 3600 / 60) 77 ++ part (n % 60) 83))
theorem may_day {t : Int} (h1 : -62135596800 ≤ t) (h2 : t ≤ 253402300799) : -719162 ≤ t / 86400 ∧ t / 86400 ≤ 2932896 := by omega
theorem tday {t : Int} (h : t < 0) (h' : -9223372036854775808 ≤ t) : (t.tmod 86400 < 0 → t.tdiv 86400 - 1 = t / 86400 ∧ t.tmod 86400 + 86400 = t % 86400) ∧ (¬ t.tmod 86400 < 0 → t.tdiv 86400 = t / 86400 ∧ t.tmod 86400 = t % 86400) ∧
    -86400 < t.tmod 86400 ∧ t.tmod 86400 ≤ 0 ∧ -200000000000000 ≤ t.tdiv 86400 ∧ t.tdiv 86400 ≤ 0 := by
  have e := Int.tmod_eq_emod_of_nonneg (a := -t) (b := 86400) (by omega)
  rw [Int.neg_tmod] at e
  have f := Int.tdiv_eq_ediv_of_nonneg (a := -t) (b := 86400) (by omega)
  rw [Int.neg_tdiv] at f
  omega
def isd (c : UInt8) : Bool := decide (48 ≤ (c.toNat : Int) ∧ (c.toNat : Int) ≤ 57)
def digs (l : List UInt8) : Bool := l.all isd
def nmb (l : List UInt8) : Int := l.foldl (fun n c => n * 10 + ((c.toNat : Int) - 48)) 0
/-- A unit's seconds. -/
def sec (c : Int) : Int := if c = 87 then 604800 else if c = 68 then 86400 else if c = 72 then 3600 else if c = 77 then 60 else if c = 83 then 1 else 0
/-- The sum of a text's parts, given what was added up ahead and the number that is being read. -/
def sumL : List UInt8 → Int → Int → Int
  | [], a, _ => a
  | c :: r, a, n =>
    if isd c = true then (if 2147483648 < n * 10 + ((c.toNat : Int) - 48) then 0 else sumL r a (n * 10 + ((c.toNat : Int) - 48)))
    else if 2147483648 < a + n * sec c.toNat then 0 else sumL r (a + n * sec c.toNat) 0
theorem take_snoc (s : ByteArray) (k : Nat) (h : k < s.size) : s.data.toList.take (k + 1) = s.data.toList.take k ++ [s[k]] := by
  rw [List.take_succ_eq_append_getElem (by simpa using h)]; rfl
theorem drop_cons (s : ByteArray) (k : Nat) (h : k < s.size) : s.data.toList.drop k = s[k] :: s.data.toList.drop (k + 1) := by
  rw [List.drop_eq_getElem_cons (by simpa using h)]; rfl
theorem digs_snoc {l : List UInt8} {c : UInt8} (h : digs l = true) (hc : isd c = true) : digs (l ++ [c]) = true := by
  unfold digs at *; rw [List.all_append, h]; simp [hc]
theorem digs_bad {l : List UInt8} {k : Nat} (hk : k < l.length) (hc : isd l[k] = false) : digs l = false := by
  unfold digs; rw [List.all_eq_false]; exact ⟨l[k], List.getElem_mem hk, by simp [hc]⟩
theorem digs_at {l : List UInt8} (h : digs l = true) {k : Nat} (hk : k < l.length) : isd l[k] = true := by
  unfold digs at h; rw [List.all_eq_true] at h; exact h _ (List.getElem_mem hk)
theorem nmb_snoc (l : List UInt8) (c : UInt8) : nmb (l ++ [c]) = nmb l * 10 + ((c.toNat : Int) - 48) := by unfold nmb; rw [List.foldl_append]; rfl
theorem fold_bd : ∀ (l : List UInt8) (a : Int), 0 ≤ a → digs l = true → 0 ≤ l.foldl (fun n c => n * 10 + ((c.toNat : Int) - 48)) a ∧ l.foldl (fun n c => n * 10 + ((c.toNat : Int) - 48)) a < (a + 1) * ((10 ^ l.length : Nat) : Int)
  | [], a, h0, _ => by simp; omega
  | c :: r, a, h0, h => by
    have h1 : isd c = true ∧ digs r = true := by unfold digs at *; rw [List.all_cons] at h; simpa using h
    obtain ⟨c1, c2⟩ := of_decide_eq_true h1.1
    obtain ⟨x, y⟩ := fold_bd r (a * 10 + ((c.toNat : Int) - 48)) (by omega) h1.2
    rw [List.foldl_cons, List.length_cons, Nat.pow_succ]
    refine ⟨x, Int.lt_of_lt_of_le y ?_⟩
    have z := Int.mul_le_mul_of_nonneg_right (show a * 10 + ((c.toNat : Int) - 48) + 1 ≤ (a + 1) * 10 by omega) (Int.natCast_nonneg (10 ^ r.length))
    rw [Int.mul_assoc] at z
    simpa [Int.mul_comm, Int.mul_assoc, Int.mul_left_comm] using z
theorem nmb_bd (l : List UInt8) (h : digs l = true) : 0 ≤ nmb l ∧ nmb l < ((10 ^ l.length : Nat) : Int) := by
  have := fold_bd l 0 (by decide) h
  simpa [nmb] using this
theorem digs_take {l : List UInt8} (h : digs l = true) (k : Nat) : digs (l.take k) = true := by
  unfold digs at *; rw [List.all_eq_true] at *; exact fun x hx => h x (List.mem_of_mem_take hx)
theorem nmb_le (l : List UInt8) (n : Nat) (hl : l.length ≤ n) (h : digs l = true) : 0 ≤ nmb l ∧ nmb l < ((10 ^ n : Nat) : Int) := by
  obtain ⟨a, b⟩ := nmb_bd l h
  have e : 10 ^ l.length ≤ 10 ^ n := Nat.pow_le_pow_right (by decide) hl
  omega
theorem nmb_small (s : ByteArray) (k : Nat) (hlt : k < s.size) (hk : s.size ≤ 15) (h : digs s.data.toList = true) : 0 ≤ nmb (s.data.toList.take k) ∧ nmb (s.data.toList.take k) ≤ 1000000000000000 := by
  obtain ⟨a, b⟩ := nmb_le (s.data.toList.take k) 15 (by have := List.length_take_le k s.data.toList; omega) (digs_take h k)
  have e2 : ((10 ^ 15 : Nat) : Int) = 1000000000000000 := by decide
  omega
/-- What Make answers: the moment, the error's number. -/
def makeR (y mo d h mi s : Int) : Int × Int := if valid y mo d = true ∧ time h mi s = true then (mk y mo d h mi s, 0) else (0, 1)
theorem ext_list (s : ByteArray) (a b : Nat) : (s.extract a b).data.toList = (s.data.toList.drop a).take (b - a) := by simp
theorem digs_ext {s : ByteArray} {i j a b : Nat} (h : digs (s.extract i j).data.toList = true) (ha : i ≤ a) (hb : b ≤ j) : digs (s.extract a b).data.toList = true := by
  rw [ext_list] at *
  unfold digs at *
  rw [List.all_eq_true] at *
  intro x hx
  refine h x ?_
  rw [List.mem_take_iff_getElem] at *
  obtain ⟨k, hk, rfl⟩ := hx
  simp at hk
  refine ⟨k + (a - i), by simp; omega, ?_⟩
  simp [List.getElem_drop]
  congr 1; omega
/-- Six numbers of a text of 15 bytes, as Make takes them. -/
def fields (l : List UInt8) : Int × Int :=
  makeR (nmb (l.take 4)) (nmb ((l.drop 4).take 2)) (nmb ((l.drop 6).take 2)) (nmb ((l.drop 9).take 2)) (nmb ((l.drop 11).take 2)) (nmb (l.drop 13))
/-- What Parse answers: the moment, the error's number. -/
def parse (l : List UInt8) : Int × Int :=
  if l.length < 15 then (0, 2) else if 15 < l.length ∨ (l.getD 8 0).toNat ≠ 84 ∨ digs (l.take 8) = false ∨ digs (l.drop 9) = false then (0, 4) else fields l
theorem parse_1 {l : List UInt8} (h : l.length < 15) : parse l = (0, 2) := by unfold parse; rw [if_pos h]
theorem parse_2 {l : List UInt8} (h : 15 < l.length) : parse l = (0, 4) := by unfold parse; rw [if_neg (by omega), if_pos (.inl h)]
theorem parse_3 {l : List UInt8} (h : l.length = 15) (g : (l.getD 8 0).toNat ≠ 84) : parse l = (0, 4) := by unfold parse; rw [if_neg (by omega), if_pos (.inr (.inl g))]
theorem parse_4 {l : List UInt8} (h : l.length = 15) (g : digs (l.take 8) = false) : parse l = (0, 4) := by unfold parse; rw [if_neg (by omega), if_pos (.inr (.inr (.inl g)))]
theorem parse_5 {l : List UInt8} (h : l.length = 15) (g : digs (l.drop 9) = false) : parse l = (0, 4) := by unfold parse; rw [if_neg (by omega), if_pos (.inr (.inr (.inr g)))]
theorem parse_6 {l : List UInt8} (h : l.length = 15) (g : (l.getD 8 0).toNat = 84) (d : digs (l.take 8) = true) (e : digs (l.drop 9) = true) : parse l = fields l := by
  unfold parse; rw [if_neg (by omega), if_neg]
  rintro (h1 | h1 | h1 | h1)
  · omega
  · exact h1 g
  · rw [d] at h1; cases h1
  · rw [e] at h1; cases h1
theorem sec_no {c : Int} (h : ¬ (c = 87 ∨ c = 68 ∨ c = 72 ∨ c = 77 ∨ c = 83)) : sec c = 0 := by
  unfold sec
  rw [if_neg (by omega), if_neg (by omega), if_neg (by omega), if_neg (by omega), if_neg (by omega)]
theorem sec_bd (c : Int) : 0 ≤ sec c ∧ sec c ≤ 604800 := by
  unfold sec
  split <;> (try split) <;> (try split) <;> (try split) <;> (try split) <;> omega
theorem mul_bd {y z : Int} (h1 : 0 ≤ y) (h2 : y ≤ 2147483648) (h3 : 0 ≤ z) (h4 : z ≤ 604800) : 0 ≤ y * z ∧ y * z ≤ 1298798110310400 := by
  refine ⟨Int.mul_nonneg h1 h3, ?_⟩
  have a := Int.mul_le_mul h2 h4 h3 (by decide)
  omega
def Rest (s : ByteArray) (k : Nat) (a n : Int) : Prop := sumL (s.data.toList.drop k) a n = sumL s.data.toList 0 0
theorem rest_1 {s : ByteArray} {k : Nat} {x y : Int} (hlt : k < s.size) (hc : isd s[k] = false) (hx : ¬ 2147483648 < x + y * sec s[k].toNat) (hr : Rest s k x y) : Rest s (k + 1) (x + y * sec s[k].toNat) 0 := by
  unfold Rest at *; rw [drop_cons s k hlt, sumL, if_neg (by simp [hc]), if_neg hx] at hr; exact hr
theorem rest_2 {s : ByteArray} {k : Nat} {x y : Int} (hlt : k < s.size) (hc : isd s[k] = false) (hx : 2147483648 < x + y * sec s[k].toNat) (hr : Rest s k x y) : 0 = sumL s.data.toList 0 0 := by
  unfold Rest at *; rw [drop_cons s k hlt, sumL, if_neg (by simp [hc]), if_pos hx] at hr; exact hr
theorem rest_3 {s : ByteArray} {k : Nat} {x y : Int} (hlt : k < s.size) (hc : isd s[k] = true) (hx : ¬ 2147483648 < y * 10 + ((s[k].toNat : Int) - 48)) (hr : Rest s k x y) : Rest s (k + 1) x (y * 10 + ((s[k].toNat : Int) - 48)) := by
  unfold Rest at *; rw [drop_cons s k hlt, sumL, if_pos hc, if_neg hx] at hr; exact hr
theorem rest_4 {s : ByteArray} {k : Nat} {x y : Int} (hlt : k < s.size) (hc : isd s[k] = true) (hx : 2147483648 < y * 10 + ((s[k].toNat : Int) - 48)) (hr : Rest s k x y) : 0 = sumL s.data.toList 0 0 := by
  unfold Rest at *; rw [drop_cons s k hlt, sumL, if_pos hc, if_pos hx] at hr; exact hr
theorem rest_end {s : ByteArray} {k : Nat} {x y : Int} (hk : s.size ≤ k) (hr : Rest s k x y) : x = sumL s.data.toList 0 0 := by
  unfold Rest at hr; rw [List.drop_of_length_le (by simpa using hk), sumL] at hr; exact hr
/-- What DurParse answers: the duration, the error's number. -/
def durParse (l : List UInt8) : Int × Int :=
  if l = [] then (0, 2) else if 1 ≤ sumL l 0 0 ∧ sumL l 0 0 ≤ 2147483648 ∧ durText (sumL l 0 0) = l then (sumL l 0 0, 0) else (0, 4)
theorem durParse_1 {l : List UInt8} (h : l = []) : durParse l = (0, 2) := by unfold durParse; rw [if_pos h]
theorem durParse_2 {l : List UInt8} (h : ¬ l = []) (g : ¬ (1 ≤ sumL l 0 0 ∧ sumL l 0 0 ≤ 2147483648)) : durParse l = (0, 4) := by
  unfold durParse; rw [if_neg h, if_neg (fun e => g ⟨e.1, e.2.1⟩)]
theorem durParse_3 {l : List UInt8} (h : ¬ l = []) (g : 1 ≤ sumL l 0 0 ∧ sumL l 0 0 ≤ 2147483648) (e : durText (sumL l 0 0) = l) : durParse l = (sumL l 0 0, 0) := by
  unfold durParse; rw [if_neg h, if_pos ⟨g.1, g.2, e⟩]
theorem durParse_4 {l : List UInt8} (h : ¬ l = []) (_ : 1 ≤ sumL l 0 0 ∧ sumL l 0 0 ≤ 2147483648) (e : ¬ durText (sumL l 0 0) = l) : durParse l = (0, 4) := by
  unfold durParse; rw [if_neg h, if_neg (fun x => e x.2.2)]
end Go.Proofs.YtkkmhjplfpdhcaaGreatDoor.St
