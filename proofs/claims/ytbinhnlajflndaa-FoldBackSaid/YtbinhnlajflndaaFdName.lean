/- The walk of package fold's Name. -/
import Derived.Test.YtbinhnlajflndaaFdFault
set_option linter.unusedVariables false
namespace Go.Proofs.Ytbinhnlajflndaa.Fd
open Go.RowKit Cv St

def bef1 (c : UInt8) (l : List UInt8) : List UInt8 := l.takeWhile (· != c)
def aft1 (c : UInt8) (l : List UInt8) : List UInt8 := (l.dropWhile (· != c)).drop 1
theorem index_of (c : UInt8) (l : List UInt8) : (Lib.indexByte l c = -1 ∧ bef1 c l = l ∧ aft1 c l = [] ∧ c ∉ l) ∨ (∃ j : Nat, j < l.length ∧ Lib.indexByte l c = j ∧ bef1 c l = l.take j ∧ aft1 c l = l.drop (j + 1) ∧ c ∈ l) := by
  induction l with
  | nil => exact .inl ⟨rfl, rfl, rfl, by simp⟩
  | cons x r ih =>
    by_cases hc : x = c
    · subst hc
      exact .inr ⟨0, by simp, by simp [Lib.indexByte], by simp [bef1], by simp [aft1], by simp⟩
    · have hc2 : (x == c) = false := by simpa using hc
      have hp : bef1 c (x :: r) = x :: bef1 c r := by unfold bef1; rw [List.takeWhile_cons]; simp [hc]
      have hr : aft1 c (x :: r) = aft1 c r := by unfold aft1; rw [List.dropWhile_cons]; simp [hc]
      rcases ih with ⟨h1, h2, h3, h4⟩ | ⟨j, hj, h1, h2, h3, h4⟩
      · refine .inl ⟨?_, by rw [hp, h2], by rw [hr, h3], ?_⟩
        · rw [Lib.indexByte, hc2, h1]; rfl
        · simp only [List.mem_cons, not_or]; exact ⟨fun e => hc e.symm, h4⟩
      · refine .inr ⟨j + 1, by simpa using hj, ?_, by rw [hp, h2]; rfl, by rw [hr, h3]; rfl, List.mem_cons_of_mem _ h4⟩
        rw [Lib.indexByte, hc2, h1]
        have : ((j : Int) == -1) = false := by rw [beq_eq_false_iff_ne]; omega
        rw [this]; simp
theorem bef1_len (c : UInt8) (l : List UInt8) : (bef1 c l).length ≤ l.length := by
  rcases index_of c l with ⟨-, h, -⟩ | ⟨j, _, -, h, -⟩
  · rw [h]; omega
  · rw [h, List.length_take]; omega
theorem aft1_len (c : UInt8) (l : List UInt8) : (aft1 c l).length ≤ l.length := by
  rcases index_of c l with ⟨-, -, h, -⟩ | ⟨j, _, -, -, h, -⟩
  · rw [h]; simp
  · rw [h, List.length_drop]; omega
theorem ext_str (s : ByteArray) (a b : Nat) : s.extract a b = str ((s.data.toList.drop a).take (b - a)) := by
  rw [← ext_list, str_list]
set_option maxRecDepth 100000 in
set_option maxHeartbeats 1000000 in
theorem cutS_any (s : ByteArray) (c : UInt8) (p q : List UInt8) (x : Bool) (w : World) (hs : s.size ≤ maxLen) (hp : bef1 c s.data.toList = p) (hq : aft1 c s.data.toList = q) (hx : decide (c ∈ s.data.toList) = x) :
    Calls Try.prog 74 #[.string s, .string ⟨#[c]⟩] w fun e w' => e = .returned (.tuple #[.string (str p), .string (str q), .bool x]) ∧ Below w.heap.size w w' := by
  unfold maxLen at hs
  have hl : s.data.toList.length = s.size := by simp
  have hi := Try.stringslite_Index_one s c
  rcases index_of c s.data.toList with ⟨i1, i2, i3, i4⟩ | ⟨j, hj, i1, i2, i3, i4⟩
  · have E1 := Lib.hid (show str p = s from by rw [← hp, i2, str_list])
    have E2 := Lib.hid (show str q = ⟨#[]⟩ from by rw [← hq, i3]; rfl)
    have E3 := Lib.hid (show x = false from by rw [← hx]; simp [i4])
    have HI := Lib.hid (fun w => by have := hi w; rw [i1] at this; exact this)
    rw [E1.out, E2.out, E3.out]
    clear hp hq hx i1 i2 i3 i4 hi hl E1 E2 E3
    go_enter Try.func74, Try.ntmps74
    go_wp2_with fail
    refine (HI.out _).mono ?_
    rintro e _ ⟨rfl, rfl⟩
    go_wp2
    go_ret3
    exact ⟨rfl, Below.refl _ _⟩
  · have E1 := Lib.hid (show str p = s.extract 0 j from by rw [← hp, i2, ext_str]; simp)
    have E2 := Lib.hid (show str q = s.extract (j + 1) s.size from by rw [← hq, i3, ext_str, List.take_of_length_le (by rw [List.length_drop]; omega)])
    have E3 := Lib.hid (show x = true from by rw [← hx]; simp [i4])
    have HI := Lib.hid (fun w => by have := hi w; rw [i1] at this; exact this)
    have hj2 : j < s.size := by omega
    rw [E1.out, E2.out, E3.out]
    have w1 : IntKind.i64.wrap ((j : Int) + 1) = (j : Int) + 1 := IntWalk.i64_in _ (by omega)
    have w2 : ((j : Int) + 1).toNat = j + 1 := by omega
    have w3 : (0 : Int) ≤ (j : Int) + 1 := by omega
    have w4 : (j : Int) + 1 ≤ (s.size : Int) := by omega
    clear hp hq hx i1 i2 i3 i4 hi hl E1 E2 E3 hj
    go_enter Try.func74, Try.ntmps74
    go_wp2_with fail
    refine (HI.out _).mono ?_
    rintro e _ ⟨rfl, rfl⟩
    go_wp2
    go_big_quiet (fail)
    go_wp2
    go_ret3
    exact ⟨rfl, Below.drewN' _ _ _⟩
theorem cut2_any (s : ByteArray) (c : UInt8) (p q : List UInt8) (x : Bool) (w : World) (hs : s.size ≤ maxLen) (hp : bef1 c s.data.toList = p) (hq : aft1 c s.data.toList = q) (hx : decide (c ∈ s.data.toList) = x) :
    Calls Try.prog 56 #[.string s, .string ⟨#[c]⟩] w fun e w' => e = .returned (.tuple #[.string (str p), .string (str q), .bool x]) ∧ Below w.heap.size w w' := by
  have H := Lib.hid (cutS_any s c p q x w hs hp hq hx)
  clear hp hq hx
  go_enter Try.func56, Try.ntmps56
  go_wp2_with fail
  refine H.out.mono ?_
  rintro e w1 ⟨rfl, hb⟩
  go_wp2
  go_ret3
  exact ⟨rfl, hb⟩
theorem clone_any (s : ByteArray) (w : World) (hs : s.size ≤ 1000000) : Calls Try.prog 57 #[.string s] w fun e w' => e = .returned (.string s) ∧ Below w.heap.size w w' := by
  have H := Lib.hid (Try.stringslite_Clone s w (by omega))
  go_enter Try.func57, Try.ntmps57
  go_wp2_with fail
  refine H.out.mono ?_
  rintro e w1 ⟨rfl, hb⟩
  go_wp2
  go_ret
  exact ⟨rfl, hb⟩
/-- what Name answers -/
def nmN (l : List UInt8) : List UInt8 := if (58 : UInt8) ∈ l then bef1 59 (bef1 58 l) else []
def nmP (l : List UInt8) : List UInt8 := if (58 : UInt8) ∈ l then aft1 59 (bef1 58 l) else []
def nmV (l : List UInt8) : List UInt8 := if (58 : UInt8) ∈ l then aft1 58 l else []
def nmB (l : List UInt8) : Bool := decide ((58 : UInt8) ∈ l)
set_option maxRecDepth 100000 in
set_option maxHeartbeats 1000000 in
theorem name_is (s : ByteArray) (a p v : List UInt8) (x : Bool) (w : World) (hs : s.size ≤ 1000000) (ha : nmN s.data.toList = a) (hp : nmP s.data.toList = p) (hv : nmV s.data.toList = v) (hx : nmB s.data.toList = x) :
    Calls Try.prog 34 #[.string s] w fun e w' => e = .returned (.tuple #[.string (str a), .string (str p), .string (str v), .bool x]) ∧ Below w.heap.size w w' := by
  have hl : s.data.toList.length = s.size := by simp
  by_cases hm : (58 : UInt8) ∈ s.data.toList
  · have hx' : true = x := by rw [← hx]; exact (decide_eq_true hm).symm
    subst hx'
    obtain ⟨h, hh⟩ : ∃ h, bef1 58 s.data.toList = h := ⟨_, rfl⟩
    have la : a = bef1 59 h := by rw [← ha, ← hh]; unfold nmN; rw [if_pos hm]
    have lp : p = aft1 59 h := by rw [← hp, ← hh]; unfold nmP; rw [if_pos hm]
    have lv : v = aft1 58 s.data.toList := by rw [← hv]; unfold nmV; rw [if_pos hm]
    have b1 := bef1_len 58 s.data.toList
    have b2 := bef1_len 59 h
    have b3 := aft1_len 59 h
    have b4 := aft1_len 58 s.data.toList
    have sh : (str h).size ≤ maxLen := by rw [str_size, ← hh]; unfold maxLen; omega
    have s63 : s.size ≤ maxLen := by unfold maxLen; omega
    have sa : (str a).size ≤ 1000000 := by rw [str_size, la]; rw [hh] at b1; omega
    have sp : (str p).size ≤ 1000000 := by rw [str_size, lp]; rw [hh] at b1; omega
    have sv : (str v).size ≤ 1000000 := by rw [str_size, lv]; omega
    have H1 := Lib.hid (fun w => cut2_any s 58 h v true w s63 hh lv.symm (decide_eq_true hm))
    obtain ⟨y, hy⟩ : ∃ y, decide ((59 : UInt8) ∈ (str h).data.toList) = y := ⟨_, rfl⟩
    have H2 := Lib.hid (fun w => cut2_any (str h) 59 a p y w sh (by rw [list_str]; exact la.symm) (by rw [list_str]; exact lp.symm) hy)
    clear hm ha hp hv hx la lp lv b1 b2 b3 b4 hl hh hy
    go_enter Try.func34, Try.ntmps34
    go_wp2_with fail
    refine (H1.out _).mono ?_
    rintro e w1 ⟨rfl, h1⟩
    go_wp2_with fail
    refine (H2.out _).mono ?_
    rintro e w2 ⟨rfl, h2⟩
    go_wp2_with fail
    refine (clone_any _ _ sa).mono ?_
    rintro e w3 ⟨rfl, h3⟩
    go_wp2_with fail
    refine (clone_any _ _ sp).mono ?_
    rintro e w4 ⟨rfl, h4⟩
    go_wp2_with fail
    refine (clone_any _ _ sv).mono ?_
    rintro e w5 ⟨rfl, h5⟩
    go_wp2
    refine bodyPost_ret (results_tmp4 rfl _ _ _) rfl ?_
    have k2 := h1.trans (h2.mono h1.size)
    have k3 := k2.trans (h3.mono k2.size)
    have k4 := k3.trans (h4.mono k3.size)
    exact ⟨rfl, k4.trans (h5.mono k4.size)⟩
  · have hx' : false = x := by rw [← hx]; exact (decide_eq_false hm).symm
    subst hx'
    have la : a = [] := by rw [← ha]; unfold nmN; rw [if_neg hm]
    have lp : p = [] := by rw [← hp]; unfold nmP; rw [if_neg hm]
    have lv : v = [] := by rw [← hv]; unfold nmV; rw [if_neg hm]
    subst la; subst lp; subst lv
    have H1 := Lib.hid (fun w => cut2_any s 58 _ _ false w (by unfold maxLen; omega) rfl rfl (decide_eq_false hm))
    clear hm ha hp hv hx hl
    generalize bef1 58 s.data.toList = h at *
    generalize aft1 58 s.data.toList = h2 at *
    go_enter Try.func34, Try.ntmps34
    go_wp2_with fail
    refine (H1.out _).mono ?_
    rintro e w1 ⟨rfl, h1⟩
    go_wp2
    refine bodyPost_ret (results_tmp4 rfl _ _ _) rfl ?_
    exact ⟨rfl, h1⟩
end Go.Proofs.Ytbinhnlajflndaa.Fd
