/- The walks of the document's own bytes: Be, Num; Put, the program's and the document's. -/
import Derived.Test.YtniphbfoppocfaaDoorFrC
set_option linter.unusedVariables false
namespace Go.Proofs.YtniphbfoppocfaaDoor.Fr
open Go.RowKit

/-- the first k of n bytes of a number, the greatest first -/
def beN (n v k : Nat) : List UInt8 := (List.range k).map fun j => UInt8.ofNat (v / 256 ^ (n - 1 - j))
theorem beN_len (n v k : Nat) : (beN n v k).length = k := by unfold beN; simp
theorem beN_next (n v k : Nat) : beN n v (k + 1) = beN n v k ++ [UInt8.ofNat (v / 256 ^ (n - 1 - k))] := by unfold beN; rw [List.range_succ, List.map_append]; rfl
theorem beN_2 (v : Nat) : beN 2 v 2 = be2 v := by simp [beN, be2, List.range_succ]
theorem beN_4 (v : Nat) : beN 4 v 4 = be4 v := by simp [beN, be4, List.range_succ]
theorem u8_cell (v : Nat) : Lib.byteCells [UInt8.ofNat v] = [.int .u8 ((v : Int) % 256)] := by
  simp [Lib.byteCells]
set_option maxRecDepth 100000 in
set_option maxHeartbeats 2000000 in
theorem be_is (w : World) (n v : Nat) (hn : n ≤ 4) (hv : v ≤ 9223372036854775807) :
    Calls Tryd.prog 50 #[.int .i64 n, .int .i64 v] w fun e w' => ∃ u, e = .returned u ∧ OwnB w.heap.size w' u (beN n v n) ∧ Below w.heap.size w w' := by
  go_enter Tryd.func50, Tryd.ntmps50
  go_wp2
  go_loopw [5, 6] (fun o i wr => ∃ k : Nat, k ≤ n ∧ i = .int .i64 ((n : Int) - 1 - k) ∧ OwnB w.heap.size wr o (beN n v k) ∧ Below w.heap.size w wr) (fun _ i _ => (intOf i + 1).toNat)
  case atStart => exact ⟨0, Nat.zero_le _, by go_num, OwnB.nil _ _, Below.refl _ _⟩
  case round =>
    rename_i wr
    obtain ⟨k, hk, rfl, ho, hb⟩ := hrel
    by_cases hlt : k < n
    · have hnx := beN_next n v k
      have hl := beN_len n v k
      obtain ⟨j, hj⟩ : ∃ j : Nat, n - 1 - k = j := ⟨_, rfl⟩
      rw [hj] at hnx
      have ej : (n : Int) - 1 - k = j := by omega
      rw [ej]
      have hj4 : j ≤ 3 := by omega
      generalize beN n v k = o at *
      have HO := Lib.hid ho
      have HB := Lib.hid hb
      clear ho hb hj
      have hcs : (#[Value.int .u8 ((v : Int) / 2 ^ (8 * j) % 256)]).toList = Lib.byteCells [UInt8.ofNat (v / 256 ^ j)] := by
        rw [u8_cell, show (256 : Nat) ^ j = 2 ^ (8 * j) by rw [show (256 : Nat) = 2 ^ 8 from rfl, ← Nat.pow_mul]]
        simp
      go_wp2_with (at_builtin; refine append_few rfl _ _ rfl _ _ rfl HO.out HB.out.size _ _ 1 1 rfl _ hcs rfl (by omega) ?_)
      intro v1 w1 o1 g1
      have b1 : Below w.heap.size w w1 := (HB.out.alloc HB.out.size _).trans (grown_below (HO.out.on (below_alloc wr _)) g1 (by have := HB.out.size; simp; omega))
      rw [← hnx] at o1
      go_wp2
      go_roundw
      case rel => exact ⟨k + 1, by omega, by go_num, o1, b1⟩
      case measure => simp [intOf] <;> omega
    · obtain rfl : k = n := by omega
      go_wp2
      go_ret
      exact ⟨_, rfl, ho, hb⟩
/-- .. of a number by a name -/
theorem numN_snoc (l : List UInt8) (t : Nat) (h : t < l.length) : numL (l.take (t + 1)) = 256 * numL (l.take t) + bv l t := by rw [numL_next l t h]; omega
set_option maxRecDepth 100000 in
set_option maxHeartbeats 2000000 in
theorem rnum_is (w : World) (A : Option Addr) (n c : Nat) (l : List UInt8) (h : BsAt w A n l) (hn : n ≤ 4) :
    Calls Tryd.prog 54 #[.slice A n c] w fun e w' => e = .returned (.int .i64 (numL l : Nat)) ∧ w' = w := by
  obtain ⟨en, hc⟩ := h
  have EN := Lib.hid en
  have HC := Lib.hid hc
  clear hc
  go_enter Tryd.func54, Tryd.ntmps54
  go_wp2
  go_loop [3, 4] (fun x i => ∃ t : Nat, t ≤ n ∧ i = .int .i64 t ∧ x = .int .i64 (numL (l.take t) : Nat)) (fun _ i => n - (intOf i).toNat)
  case atStart => exact ⟨0, Nat.zero_le _, rfl, rfl⟩
  case round =>
    obtain ⟨t, ht, rfl, rfl⟩ := hrel
    by_cases hlt : t < n
    · obtain ⟨b, off, rfl, hb, hcc⟩ := HC.out (by omega)
      have c0 := hcc t hlt
      clear hcc
      have hnx := numN_snoc l t (by omega)
      have hd : numL (l.take t) < 16777216 := Nat.lt_of_lt_of_le (numL_pow l t (by omega)) (Nat.le_trans (Nat.pow_le_pow_right (by decide) (show t ≤ 3 by omega)) (by decide))
      have h256 := bv_256 l t
      generalize numL (l.take t) = d at *
      generalize bv l t = x at *
      have X := Lib.hid hnx
      clear hnx
      go_wp2
      go_round
      case rel => exact ⟨t + 1, by omega, by go_num, by rw [X.out]; simp⟩
      case measure => simp [intOf]; omega
    · obtain rfl : t = n := by omega
      go_wp2
      go_ret
      exact ⟨ret_int (by first | rfl | rw [List.take_of_length_le (by omega)]), rfl⟩
/-- what Put answers -/
def putE (p : List UInt8) : Nat := if p.length ≤ 8192 then 0 else 3
def putV (p : List UInt8) : List UInt8 := if p.length ≤ 8192 then frameL p else []
def PutR (w : World) (p : List UInt8) (e : Ending) (w' : World) : Prop :=
  ∃ v, e = .returned (.tuple #[v, .int .i64 (putE p : Nat)]) ∧ OwnB w.heap.size w' v (putV p) ∧ Below w.heap.size w w'
theorem put_err {w : World} {p : List UInt8} (h : ¬ p.length ≤ 8192) : PutR w p (.returned (.tuple #[.slice none 0 0, .int .i64 3])) w :=
  ⟨.slice none 0 0, by unfold putE; rw [if_neg h]; rfl, by unfold putV; rw [if_neg h]; exact OwnB.nil _ _, Below.refl _ _⟩
theorem put_fine {w w' : World} {p : List UInt8} {v : Value} (h : p.length ≤ 8192) (ho : OwnB w.heap.size w' v (frameL p)) (hb : Below w.heap.size w w') : PutR w p (.returned (.tuple #[v, .int .i64 0])) w' :=
  ⟨v, by unfold putE; rw [if_pos h]; rfl, by unfold putV; rw [if_pos h]; exact ho, hb⟩
theorem cells2 (n : Nat) (h : n ≤ 8192) : (#[Value.int .u8 ((n : Int) / 256), .int .u8 ((n : Int) % 256)]).toList = Lib.byteCells (be2 n) := by
  simp [Lib.byteCells, be2]
  omega
theorem cells4 (n : Nat) : (#[Value.int .u8 ((n : Int) / 16777216 % 256), .int .u8 ((n : Int) / 65536 % 256), .int .u8 ((n : Int) / 256 % 256), .int .u8 ((n : Int) % 256)]).toList = Lib.byteCells (be4 n) := by simp [Lib.byteCells, be4]
theorem cells4' (n : Nat) (h : n < 4294967296) : (#[Value.int .u8 ((n : Int) / 16777216), .int .u8 ((n : Int) / 65536 % 256), .int .u8 ((n : Int) / 256 % 256), .int .u8 ((n : Int) % 256)]).toList = Lib.byteCells (be4 n) := by
  simp [Lib.byteCells, be4]
  omega
set_option maxRecDepth 100000 in
set_option maxHeartbeats 4000000 in
theorem put_is (w : World) (A : Option Addr) (n c : Nat) (p : List UInt8) (T : Tab w) (h : BsAt w A n p) (hA : A = none → c = 0) (hn : n ≤ 1000000) :
    Calls Tryd.prog 33 #[.slice A n c] w (PutR w p) := by
  obtain rfl : n = p.length := h.1
  have H := Lib.hid h
  have TB := Lib.hid T
  have HA := Lib.hid hA
  clear h T hA
  by_cases h8 : p.length ≤ 8192
  · obtain ⟨i0, hi, hz0, hz1, hz2⟩ := info_parts info_u8
    have q0 : ¬ (8192 : Int) < p.length := by omega
    have P8 := Lib.hid h8
    obtain ⟨n, en⟩ : ∃ n, p.length = n := ⟨_, rfl⟩
    have EN := Lib.hid en
    rw [en] at q0 h8 hn ⊢
    rw [en] at H
    clear en
    go_enter Tryd.func33, Tryd.ntmps33
    go_wp2_with (at_make; refine wpList_make_own _ rfl _ _ 22 rfl w.heap.size 5 i0 (.int .u8 0) 1 Tryd.underlying22 hi hz0 hz1 .i64 .i64 _ (6 + n) rfl rfl (by simp) (by rw [hz2]; omega) (by unfold maxLen; omega) (Nat.le_refl _) ?_)
    intro w1 o1 g1
    have b1 : Below w.heap.size w w1 := (Below.refl _ _).grown g1 (Nat.le_refl _) (fun k hk => by cases hk)
    have O1 := Lib.hid (show OwnB w.heap.size w1 _ [] from o1)
    have B1 := Lib.hid b1
    clear o1 g1 b1
    go_wp2_with (at_builtin; refine append_few rfl _ _ rfl _ _ rfl O1.out B1.out.size _ _ 2 2 rfl (be2 n) (cells2 n h8) rfl (by simp) ?_)
    intro v2 w2 o2 g2
    have b2 : Below w.heap.size w w2 := (B1.out.alloc B1.out.size _).trans (grown_below (O1.out.on (below_alloc w1 _)) g2 (by have := B1.out.size; simp; omega))
    obtain ⟨A2, c2, rfl, a2, k2, z2⟩ := o2.at_
    have O2 := Lib.hid o2
    have B2 := Lib.hid b2
    have C2 := sum2_is w2 A2 A (be2 n).length c2 n c (be2 n) p (TB.out.on b2) a2 (by show 2 ≤ _; decide) (H.out.below b2) (by omega)
    have hs := sumL_lt (be2 n ++ p)
    obtain ⟨s, S1⟩ : ∃ s, sumL (be2 n ++ p) = s := ⟨_, rfl⟩
    rw [S1] at C2 hs
    clear o2 g2 b2 a2
    go_wp2_with fail
    refine C2.mono ?_
    rintro e w' ⟨rfl, rfl⟩
    clear C2
    go_wp2_with (at_builtin; refine append_few rfl _ _ rfl _ _ rfl O2.out B2.out.size _ _ 4 4 rfl (be4 s) (by first | exact cells4 _ | exact cells4' _ hs) rfl (by simp [be2]) ?_)
    intro v3 w3 o3 g3
    have b3 : Below w.heap.size w w3 := (B2.out.alloc B2.out.size _).trans (grown_below (O2.out.on (below_alloc w' _)) g3 (by have := B2.out.size; simp; omega))
    have O3 := Lib.hid o3
    have B3 := Lib.hid b3
    have H3 := Lib.hid (H.out.below b3)
    clear o3 g3 b3
    go_wp2_with (at_builtin; refine append_bs rfl _ _ rfl _ _ rfl O3.out B3.out.size _ _ _ _ rfl H3.out HA.out (by simp [be2, be4]; omega) ?_)
    intro v4 w4 o4 g4
    have b4 : Below w.heap.size w w4 := B3.out.trans (grown_below O3.out g4 B3.out.size)
    have e4 : [] ++ be2 n ++ be4 s ++ p = frameL p := by unfold frameL; rw [EN.out, S1, List.nil_append, List.append_assoc]
    have o5 : OwnB w.heap.size w4 v4 (frameL p) := by rw [← e4]; exact o4
    have G := Lib.hid (put_fine P8.out o5 b4)
    clear o4 g4 b4 e4 o5
    go_wp2
    exact bodyPost_ret (v := .tuple #[v4, .int .i64 0]) (by simp [results, Tryd.results33, go_sem]) rfl G.out
  · have q0 : (8192 : Int) < p.length := by omega
    have G := Lib.hid (put_err (w := w) (p := p) (by omega))
    go_enter Tryd.func33, Tryd.ntmps33
    go_wp2
    exact bodyPost_ret (v := .tuple #[.slice none 0 0, .int .i64 3]) (by simp [results, Tryd.results33, go_sem]) rfl G.out
end Go.Proofs.YtniphbfoppocfaaDoor.Fr
