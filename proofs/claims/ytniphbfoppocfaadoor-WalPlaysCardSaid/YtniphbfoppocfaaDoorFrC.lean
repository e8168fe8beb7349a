/- The walks of the document's own bytes: CopyBytes, Bytes, Sum bit by bit, Be, Num. -/
import Derived.Test.YtniphbfoppocfaaDoorFrB
set_option linter.unusedVariables false
namespace Go.Proofs.YtniphbfoppocfaaDoor.Fr
open Go.RowKit

set_option maxRecDepth 100000 in
theorem copy_is (w : World) (A : Option Addr) (n c : Nat) (l : List UInt8) (h : BsAt w A n l) (hA : A = none → c = 0) (hn : n ≤ 1000000) :
    Calls Tryd.prog 35 #[.slice A n c] w fun e w' => ∃ v, e = .returned v ∧ OwnB w.heap.size w' v l ∧ Below w.heap.size w w' := by
  have o0 := lit_own (B := w.heap.size) w [] #[] (Nat.le_refl _) rfl (by decide)
  have b0 := below_alloc w (.cells #[] 5)
  have HO := Lib.hid o0
  have H := Lib.hid (h.below b0)
  have BB := Lib.hid b0
  have HA := Lib.hid hA
  clear o0 b0 h hA
  go_enter Tryd.func35, Tryd.ntmps35
  go_wp2_with (at_builtin; refine append_bs rfl _ _ rfl _ [] rfl HO.out (by simp) _ _ _ _ rfl H.out HA.out (by simpa using hn) ?_)
  intro v1 w1 o1 b1
  go_wp2
  go_ret
  exact ⟨v1, rfl, by simpa using o1, BB.out.trans (grown_below HO.out b1 (by simp))⟩
theorem str_ne {a b : List UInt8} (h : ¬ a = b) : ((str a).toList == (str b).toList) = false := by
  rw [ByteArray.toList_eq, ByteArray.toList_eq, beq_eq_false_iff_ne]
  intro e
  exact h (by simpa [str] using e)
set_option maxRecDepth 100000 in
theorem bytes_is (w : World) (A B : Option Addr) (n c m d : Nat) (l k : List UInt8) (hl : BsAt w A n l) (hk : BsAt w B m k) :
    Calls Tryd.prog 30 #[.slice A n c, .slice B m d] w fun e w' => e = .returned (.bool (decide (l = k))) ∧ w' = w := by
  have e1 := hl.text c
  have e2 := hk.text d
  by_cases h : l = k
  · subst h
    generalize str l = s at e1 e2
    clear hl hk
    have G := Lib.hid (ret_bool (show true = decide (l = l) from (decide_eq_true rfl).symm))
    go_enter Tryd.func30, Tryd.ntmps30
    go_wp2
    go_ret
    exact ⟨by first | exact G.out | simp, rfl⟩
  · have e0 := str_ne h
    generalize str l = s at e0 e1
    generalize str k = t at e0 e2
    have G := Lib.hid (ret_bool (show false = decide (l = k) from (decide_eq_false h).symm))
    clear hl hk h
    go_enter Tryd.func30, Tryd.ntmps30
    go_wp2
    go_ret
    exact ⟨by first | exact G.out | simp, rfl⟩
def stepN : Nat → Nat → Nat
  | 0, s => s
  | k + 1, s => step (stepN k s)
theorem stepN_lt : ∀ k {s}, s < 4294967296 → stepN k s < 4294967296
  | 0, _, h => h
  | k + 1, _, h => step_lt (stepN_lt k h)
theorem stepN_8 (s c : Nat) : stepN 8 (s ^^^ c) = byteD s c := by rw [byteD_step]; rfl
theorem and1 (a : Nat) (ha : a < 4294967296) : bits .and .u32 (a : Int) 1 = ((a % 2 : Nat) : Int) := by
  have := u32_and_nat a 1 ha (by decide)
  rw [show (1 : Nat) = 2 ^ 1 - 1 from rfl, Nat.and_two_pow_sub_one_eq_mod] at this
  exact this
theorem xorP (a : Nat) (ha : a < 4294967296) : bits .xor .u32 ((a : Int) / 2) 3988292384 = (((a / 2) ^^^ pol : Nat) : Int) := u32_xor_nat (a / 2) pol (by omega) (by decide)
set_option maxRecDepth 100000 in
set_option maxHeartbeats 2000000 in
theorem rsum_is (w : World) (A : Option Addr) (n c : Nat) (l : List UInt8) (h : BsAt w A n l) (hn : n ≤ 9223372036854775807) :
    Calls Tryd.prog 51 #[.slice A n c] w fun e w' => e = .returned (.int .u32 (sumL l : Nat)) ∧ w' = w := by
  obtain ⟨en, hc⟩ := h
  have EN := Lib.hid en
  have HC := Lib.hid hc
  clear hc
  go_enter Tryd.func51, Tryd.ntmps51
  go_wp2
  go_loop [3, 4, 5] (fun x i k => ∃ t : Nat, t ≤ n ∧ i = .int .i64 t ∧ x = .int .u32 (divL ones (l.take t) : Nat)) (fun _ i _ => n - (intOf i).toNat)
  case atStart => exact ⟨0, Nat.zero_le _, rfl, rfl⟩
  case round =>
    obtain ⟨t, ht, rfl, rfl⟩ := hrel
    by_cases hlt : t < n
    · obtain ⟨b, off, rfl, hb, hcc⟩ := HC.out (by omega)
      have c0 := hcc t hlt
      clear hcc
      have hd := divL_lt (l.take t) (s := ones) (by decide)
      have hnx := divL_next ones l t (by omega)
      have h256 := bv_256 l t
      generalize divL ones (l.take t) = d at *
      generalize bv l t = x at *
      have e1 := xor32 d x hd (by omega)
      have hy := xor_lt32 hd (show x < 4294967296 by omega)
      rw [← stepN_8 d x] at hnx
      generalize hyd : d ^^^ x = y at *
      have X := Lib.hid hnx
      clear hnx hyd
      go_wp2
      go_loop [3, 5] (fun z k => ∃ q : Nat, q ≤ 8 ∧ k = .int .i64 q ∧ z = .int .u32 (stepN q y : Nat)) (fun _ k => 8 - (intOf k).toNat)
      case atStart => exact ⟨0, Nat.zero_le _, rfl, rfl⟩
      case round =>
        obtain ⟨q, hq, rfl, rfl⟩ := hrel
        have hz := stepN_lt q hy
        have hs : stepN (q + 1) y = step (stepN q y) := rfl
        by_cases hq8 : q < 8
        · generalize stepN q y = z at *
          have e2 := and1 z hz
          have e3 := xorP z hz
          rcases Nat.mod_two_eq_zero_or_one z with hm | hm
          · have K := Lib.hid (show z / 2 = stepN (q + 1) y by rw [hs]; unfold step; rw [if_neg (by omega)])
            rw [hm] at e2
            clear hs
            go_wp2
            go_round
            case rel => exact ⟨q + 1, by omega, by go_num, by rw [← K.out]; simp⟩
            case measure => simp [intOf]; omega
          · have K := Lib.hid (show z / 2 ^^^ pol = stepN (q + 1) y by rw [hs]; unfold step; rw [if_pos hm])
            rw [hm] at e2
            clear hs
            go_wp2
            go_round
            case rel => exact ⟨q + 1, by omega, by go_num, by rw [← K.out]⟩
            case measure => simp [intOf]; omega
        · obtain rfl : q = 8 := by omega
          rw [← X.out]
          go_wp2
          go_round
          case rel => exact ⟨t + 1, by omega, by go_num, rfl⟩
          case measure => simp [intOf]; omega
    · obtain rfl : t = n := by omega
      have e1 := not32 (divL ones l) (divL_lt l (by decide))
      go_wp2
      go_ret
      exact ⟨ret_int (by first | exact e1 | (rw [List.take_of_length_le (by omega)]; exact e1)), rfl⟩
end Go.Proofs.YtniphbfoppocfaaDoor.Fr
