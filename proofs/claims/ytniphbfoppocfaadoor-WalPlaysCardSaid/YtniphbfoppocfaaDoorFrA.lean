/- The walks of package frame's sums and of the document's. -/
import Derived.Test.YtniphbfoppocfaaDoorFrMem
set_option linter.unusedVariables false
namespace Go.Proofs.YtniphbfoppocfaaDoor.Fr
open Go.RowKit

theorem gRests : Tryd.prog.globalNamed "convoker/frame.rests" = some 0 := by kernel_rfl
/-- the table of rests stands -/
structure Tab (w : World) : Prop where
  low : 0 < w.heap.size
  cell : ∀ k, k < 16 → w.cell? ⟨0, k, none⟩ = some (.int .u32 (tabT.getD k 0 : Nat))
theorem Tab.on {W w : World} (h : Tab W) (hb : Below W.heap.size W w) : Tab w :=
  ⟨Nat.lt_of_lt_of_le h.low hb.size, fun k hk => (hb.cell (p := ⟨0, k, none⟩) h.low).trans (h.cell k hk)⟩
theorem xor32 (a b : Nat) (ha : a < 4294967296) (hb : b < 4294967296) : bits .xor .u32 (a : Int) (b : Int) = ((a ^^^ b : Nat) : Int) := u32_xor_nat a b ha hb
theorem xor16 (a b : Nat) (ha : a < 4294967296) (hb : b < 4294967296) : bits .xor .u32 ((a : Int) / 16) (b : Int) = (((a / 16) ^^^ b : Nat) : Int) := u32_xor_nat (a / 16) b (by omega) hb
theorem and15 (a : Nat) (ha : a < 4294967296) : bits .and .u32 (a : Int) 15 = ((a % 16 : Nat) : Int) := by
  have := u32_and_nat a 15 ha (by decide)
  rw [show (15 : Nat) = 2 ^ 4 - 1 from rfl, Nat.and_two_pow_sub_one_eq_mod] at this
  exact this
theorem not32 (a : Nat) (ha : a < 4294967296) : bits .xor .u32 4294967295 (a : Int) = ((a ^^^ ones : Nat) : Int) := by
  rw [show (4294967295 : Int) = ((ones : Nat) : Int) from rfl, u32_xor_nat ones a (by decide) ha, Nat.xor_comm]
theorem take_snoc (l : List UInt8) (t : Nat) (h : t < l.length) : l.take (t + 1) = l.take t ++ [l[t]] := by
  rw [List.take_add_one, List.getElem?_eq_getElem h]; rfl
theorem divL_next (s : Nat) (l : List UInt8) (t : Nat) (h : t < l.length) : divL s (l.take (t + 1)) = byteD (divL s (l.take t)) (bv l t) := by
  rw [take_snoc l t h, divL_snoc, bv_lt h]
set_option maxRecDepth 100000 in
set_option maxHeartbeats 2000000 in
theorem divide_is (w : World) (s : Nat) (A : Option Addr) (n c : Nat) (l : List UInt8) (T : Tab w) (hs : s < 4294967296) (h : BsAt w A n l) (hn : n ≤ 9223372036854775807) :
    Calls Tryd.prog 52 #[.int .u32 (s : Nat), .slice A n c] w fun e w' => e = .returned (.int .u32 (divL s l : Nat)) ∧ w' = w := by
  obtain ⟨en, hc⟩ := h
  have EN := Lib.hid en
  have TB := Lib.hid T
  have HC := Lib.hid hc
  clear hc T
  go_enter Tryd.func52, Tryd.ntmps52
  go_wp2
  go_loop [0, 9] (fun x i => ∃ t : Nat, t ≤ n ∧ i = .int .i64 t ∧ x = .int .u32 (divL s (l.take t) : Nat)) (fun _ i => n - (intOf i).toNat)
  case atStart => exact ⟨0, Nat.zero_le _, rfl, rfl⟩
  case round =>
    obtain ⟨t, ht, rfl, rfl⟩ := hrel
    by_cases hlt : t < n
    · obtain ⟨b, off, rfl, hb, hcc⟩ := HC.out (by omega)
      have c0 := hcc t hlt
      clear hcc
      have hd := divL_lt (l.take t) hs
      have hnx := divL_next s l t (by omega)
      have h256 := bv_256 l t
      generalize divL s (l.take t) = d at *
      generalize bv l t = x at *
      have X := Lib.hid hnx
      clear hnx
      have e1 := xor32 d x hd (by omega)
      have hy := xor_lt32 hd (show x < 4294967296 by omega)
      generalize hyd : d ^^^ x = y at *
      have e2 := and15 y hy
      have c1 := TB.out.cell (y % 16) (Nat.mod_lt _ (by decide))
      have ht1 := tabT_lt (y % 16)
      generalize hv : tabT.getD (y % 16) 0 = v at *
      have e3 := xor16 y v hy ht1
      have hz := xor_lt32 (show y / 16 < 4294967296 by omega) ht1
      have hzd : (y / 16) ^^^ v = nib y := by unfold nib; rw [hv]
      generalize hzz : (y / 16) ^^^ v = z at *
      have e4 := and15 z hz
      have c2 := TB.out.cell (z % 16) (Nat.mod_lt _ (by decide))
      have ht2 := tabT_lt (z % 16)
      generalize hv2 : tabT.getD (z % 16) 0 = v2 at *
      have e5 := xor16 z v2 hz ht2
      have K := Lib.hid (show (z / 16) ^^^ v2 = byteD d x by unfold byteD; rw [hyd, ← hzd]; unfold nib; rw [hv2])
      clear hzd hzz hyd hv hv2
      go_wp2
      go_round
      case rel => exact ⟨t + 1, by omega, by go_num, by rw [X.out, K.out]⟩
      case measure => simp [intOf]; omega
    · obtain rfl : t = n := by omega
      go_wp2
      go_ret
      exact ⟨ret_int (by first | rfl | rw [List.take_of_length_le (by omega)]), rfl⟩
set_option maxRecDepth 100000 in
theorem sum2_is (w : World) (A A' : Option Addr) (n c n' c' : Nat) (l l' : List UInt8) (T : Tab w) (h : BsAt w A n l) (hn : n ≤ 9223372036854775807) (h' : BsAt w A' n' l') (hn' : n' ≤ 9223372036854775807) :
    Calls Tryd.prog 47 #[.slice A n c, .slice A' n' c'] w fun e w' => e = .returned (.int .u32 (sumL (l ++ l') : Nat)) ∧ w' = w := by
  have H := Lib.hid h
  have H' := Lib.hid h'
  have TB := Lib.hid T
  have hd := divL_lt l (s := ones) (by decide)
  have e1 := not32 (divL (divL ones l) l') (divL_lt l' hd)
  rw [← divL_app] at e1
  have K := divL_app ones l l'
  clear h T h'
  go_enter Tryd.func47, Tryd.ntmps47
  go_wp2_with fail
  refine (divide_is w ones A n c l TB.out (by decide) H.out hn).mono ?_
  rintro e w' ⟨rfl, rfl⟩
  go_wp2_with fail
  refine (divide_is w' (divL ones l) A' n' c' l' TB.out hd H'.out hn').mono ?_
  rintro e w1 ⟨rfl, rfl⟩
  rw [← K]
  go_wp2
  go_ret
  exact ⟨ret_int (by rw [K] at e1; unfold sumL; rw [K]; exact e1), rfl⟩
theorem numL_snoc (l : List UInt8) (c : UInt8) : numL (l ++ [c]) = numL l * 256 + c.toNat := by unfold numL; rw [List.foldl_append]; rfl
theorem numL_next (l : List UInt8) (t : Nat) (h : t < l.length) : numL (l.take (t + 1)) = numL (l.take t) * 256 + bv l t := by
  rw [take_snoc l t h, numL_snoc, bv_lt h]
theorem numL_pow (l : List UInt8) : ∀ t, t ≤ l.length → numL (l.take t) < 256 ^ t
  | 0, _ => by rw [List.take_zero]; decide
  | t + 1, h => by
    have ih := numL_pow l t (by omega)
    rw [numL_next l t (by omega), Nat.pow_succ]
    have := bv_256 l t
    omega
theorem or8 (a b : Nat) (ha : a < 16777216) (hb : b < 256) : bits .or .u32 ((a : Int) * 256) (b : Int) = ((a * 256 + b : Nat) : Int) := by
  have := u32_or_nat (a * 256) b (by omega) (by omega)
  rw [show a * 256 ||| b = a * 256 + b by rw [show a * 256 = 2 ^ 8 * a by omega, ← Nat.two_pow_add_eq_or_of_lt (i := 8) hb]] at this
  simpa using this
set_option maxRecDepth 100000 in
set_option maxHeartbeats 2000000 in
theorem number_is (w : World) (A : Option Addr) (n c : Nat) (l : List UInt8) (h : BsAt w A n l) (hn : n ≤ 4) :
    Calls Tryd.prog 53 #[.slice A n c] w fun e w' => e = .returned (.int .u32 (numL l : Nat)) ∧ w' = w := by
  obtain ⟨en, hc⟩ := h
  have EN := Lib.hid en
  have HC := Lib.hid hc
  clear hc
  go_enter Tryd.func53, Tryd.ntmps53
  go_wp2
  go_loop [3, 8] (fun x i => ∃ t : Nat, t ≤ n ∧ i = .int .i64 t ∧ x = .int .u32 (numL (l.take t) : Nat)) (fun _ i => n - (intOf i).toNat)
  case atStart => exact ⟨0, Nat.zero_le _, rfl, rfl⟩
  case round =>
    obtain ⟨t, ht, rfl, rfl⟩ := hrel
    by_cases hlt : t < n
    · obtain ⟨b, off, rfl, hb, hcc⟩ := HC.out (by omega)
      have c0 := hcc t hlt
      clear hcc
      have hnx := numL_next l t (by omega)
      have hd : numL (l.take t) < 16777216 := Nat.lt_of_lt_of_le (numL_pow l t (by omega)) (Nat.le_trans (Nat.pow_le_pow_right (by decide) (show t ≤ 3 by omega)) (by decide))
      have h256 := bv_256 l t
      generalize numL (l.take t) = d at *
      generalize bv l t = x at *
      have X := Lib.hid hnx
      clear hnx
      have e1 := or8 d x hd h256
      go_wp2
      go_round
      case rel => exact ⟨t + 1, by omega, by go_num, by rw [X.out]; simp⟩
      case measure => simp [intOf]; omega
    · obtain rfl : t = n := by omega
      go_wp2
      go_ret
      exact ⟨ret_int (by first | rfl | rw [List.take_of_length_le (by omega)]), rfl⟩
end Go.Proofs.YtniphbfoppocfaaDoor.Fr
