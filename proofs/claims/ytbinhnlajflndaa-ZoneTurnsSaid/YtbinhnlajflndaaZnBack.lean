/- slices.Backward at shifts and at yearly shifts: what it hands back goes through the slice from its end, whatever the loop's body does that keeps what lay below n₀. -/
import Derived.Test.YtbinhnlajflndaaZnMay
import Derived.RangeFuncNested
import Derived.RangeFuncBound
import Derived.RangeFuncCalls
import Derived.RangeFuncLeaves
import Derived.Shelf.Abstract
import Derived.Shelf.RegionOpen
import Derived.OwnWalkIn
import Derived.TacticsInMore
import Derived.LoopNIn
import Derived.LoopIn
set_option linter.unusedVariables false
namespace Go.Proofs.Ytbinhnlajflndaa.Zn
open Go.RowKit Go.Shelf Cv St
attribute [local go_sem] Oper.semAt_some

/-- what has come when k rounds are over -/
def upto {α : Type} (f : Nat → α) (k : Nat) : List α := (List.range k).map f
theorem upto_succ {α : Type} (f : Nat → α) (k : Nat) : upto f (k + 1) = upto f k ++ [f k] := by simp [upto, List.range_succ]
/-- yearly shifts that may be -/
abbrev Yok := { r : Yr // yrB r = true }
def yok (l : List Yok) (i : Nat) : Yok := l[i]?.getD ⟨⟨1, 1, 0, 0, 0⟩, by decide⟩
theorem yok_lift {ys : List Yr} (h : ∀ r ∈ ys, yrB r = true) : ∃ xs : List Yok, ys = xs.map (·.1) := ⟨ys.attachWith _ h, by simp⟩
theorem yok_at {xs : List Yok} {j : Nat} (h : j < xs.length) : yat (xs.map (·.1)) j = (yok xs j).1 := by
  unfold yat yok; simp [h]
theorem upto_length {α : Type} (f : Nat → α) (k : Nat) : (upto f k).length = k := by simp [upto]
/-- the element that round j is handed -/
def shAt (xs : List Sh) (n j : Nat) : Nat × Sh := (n - 1 - j, at_ xs (n - 1 - j))
set_option maxRecDepth 100000 in
set_option maxHeartbeats 2000000 in
theorem shBack1_in (F : Fence) (n : Nat) (h7 : F.fn 82) (hro : F.round = none) (hn : 1 ≤ n) (l Bs n₀ b off len cap : Nat) (xs : List Sh) (hreach : len ≤ 9223372036854775807) (hb : b < n₀) (J Jx : List (Nat × Sh) → World → Prop)
    (hY : ∀ pre x W, J pre W → pre.length < len → YieldAt F (n - 1) Try.prog l #[.int .i64 (x.1 : Int), shV x.2] W fun e W' =>
      (e = .returned (.bool true) ∧ J (pre ++ [x]) W' ∧ Below n₀ W W') ∨ (e = .returned (.bool false) ∧ Jx (pre ++ [x]) W'))
    (W : World) (hBs : ∀ w', Below n₀ W w' → w'.cell? ⟨Bs, 0, none⟩ = some (.slice (some ⟨b, off, none⟩) len cap)) (hc : ∀ j, j < len → W.cell? ⟨b, off + j * 2, none⟩ = some (.int .i64 (at_ xs j).t) ∧ W.cell? ⟨b, off + j * 2 + 1, none⟩ = some (.int .i64 (at_ xs j).o)) (h0 : J [] W) :
    CallsIn F n Try.prog 82 #[.func (.yield l) #[] #[], .pointer (some ⟨Bs, 0, none⟩)] W fun e W' => (∃ v, e = .returned v) ∧
      ((∃ ys, ys = upto (shAt xs len) len ∧ J ys W') ∨ (∃ pre, (∃ k, k ≤ len ∧ pre = upto (shAt xs len) k) ∧ Jx pre W')) := by
  refine callsIn_of_wp Try.func82 rfl h7 ?_ hro
  simp only [Try.ntmps82, List.size_toArray, List.length_cons, List.length_nil, Nat.reduceAdd, Nat.reduceSub, Array.replicate_succ, Array.replicate_zero, List.push_toArray, List.append_toArray, List.nil_append, List.cons_append]
  have hB0 := hBs W (Below.refl _ _)
  gi_wp2
  gi_loopw [3] (fun i wr => ∃ m : Nat, m ≤ len ∧ i = .int .i64 ((m : Int) - 1) ∧ J (upto (shAt xs len) (len - m)) wr ∧ Below n₀ W wr)
    (fun i _ => (intOf i + 1).toNat)
  case atStart => exact ⟨len, Nat.le_refl _, rfl, by rw [Nat.sub_self]; exact h0, Below.refl _ _⟩
  case round =>
    obtain ⟨m, hm, hi, hJs, hnx⟩ := hrel
    have hB1 := hBs wr hnx
    cases m with
    | zero =>
      rw [show (((0 : Nat) : Int) - 1) = -1 from rfl] at hi
      subst hi
      rw [Nat.sub_zero] at hJs
      gi_wp2
      go_end0
      exact ⟨⟨_, rfl⟩, .inl ⟨_, rfl, hJs⟩⟩
    | succ j =>
      rw [show (((j + 1 : Nat) : Int) - 1) = (j : Int) from by omega] at hi
      subst hi
      obtain ⟨e0, e1⟩ := hc j (by omega)
      replace e0 := (hnx.cell (p := ⟨b, _, none⟩) hb).trans e0
      replace e1 := (hnx.cell (p := ⟨b, _, none⟩) hb).trans e1
      have ej : len - 1 - (len - (j + 1)) = j := by omega
      obtain ⟨fn, tmps, assign, body, hy, hR⟩ := hY _ (shAt xs len (len - (j + 1))) wr hJs (by rw [upto_length]; omega)
      rw [← upto_succ, show len - (j + 1) + 1 = len - j from by omega] at hR
      unfold shAt at hy
      rw [ej] at hy
      clear ej
      dsimp only at hy
      gi_wp2
      refine hR.mono ?_
      rintro e W3 (⟨rfl, hJ3, hk3⟩ | ⟨rfl, hJx3⟩)
      · gi_wp2
        go_roundw
        case rel => exact ⟨j, by omega, rfl, hJ3, hnx.trans hk3⟩
        case measure => simp [intOf]
      · gi_wp2
        refine bodyPost_ret (results_none rfl _ _ _) rfl ?_
        exact ⟨⟨_, rfl⟩, .inr ⟨_, ⟨len - j, by omega, rfl⟩, hJx3⟩⟩
set_option maxRecDepth 100000 in
set_option maxHeartbeats 1000000 in
theorem shBack1_nil_in (F : Fence) (n : Nat) (h7 : F.fn 82) (hro : F.round = none) (l Bs : Nat) (A : Option Addr) (cap : Nat) (J : List (Nat × Sh) → World → Prop) (W : World) (hBs : W.cell? ⟨Bs, 0, none⟩ = some (.slice A 0 cap)) (h0 : J [] W) :
    CallsIn F n Try.prog 82 #[.func (.yield l) #[] #[], .pointer (some ⟨Bs, 0, none⟩)] W fun e W' => (∃ v, e = .returned v) ∧ J [] W' := by
  refine callsIn_of_wp Try.func82 rfl h7 ?_ hro
  simp only [Try.ntmps82, List.size_toArray, List.length_cons, List.length_nil, Nat.reduceAdd, Nat.reduceSub, Array.replicate_succ, Array.replicate_zero, List.push_toArray, List.append_toArray, List.nil_append, List.cons_append]
  gi_wp2
  gi_loopw [3] (fun i wr => i = .int .i64 (-1) ∧ J [] wr) (fun _ _ => 0)
  case atStart => exact ⟨rfl, h0⟩
  case round =>
    obtain ⟨rfl, hJs⟩ := hrel
    gi_wp2
    go_end0
    exact ⟨⟨_, rfl⟩, hJs⟩
set_option maxHeartbeats 1000000 in
theorem shBack_in (F : Fence) (n : Nat) (h5 : F.fn 64) (hro : F.round = none) (a : Option Addr) (len cap : Nat) (w : World) :
    CallsIn F n Try.prog 64 #[.slice a len cap] w fun e w' => e = .returned (.func (.func 82) #[] #[.pointer (some ⟨w.heap.size, 0, none⟩)]) ∧ w' = w.alloc (.cells #[.slice a len cap] 22) := by
  refine callsIn_of_wp Try.func64 rfl h5 ?_ hro
  simp only [Try.ntmps64, List.size_toArray, List.length_cons, List.length_nil, Nat.reduceAdd, Nat.reduceSub, Array.replicate_succ, Array.replicate_zero, List.push_toArray, List.append_toArray, List.nil_append, List.cons_append]
  gi_wp2
  go_ret
  exact ⟨rfl, rfl⟩
/-- all of xs, from its end; or the first k of them so -/
theorem shBack_stops (F : Fence) (n : Nat) (h7 : F.fn 82) (hro : F.round = none) (hn : 1 ≤ n) (Bs : Nat) (W0 : World) (A : Option Addr) (len cap : Nat) (xs : List Sh) (hreach : len ≤ 9223372036854775807) (w : World) (hBs : Bs < w.heap.size) (hk : Below W0.heap.size W0 w)
    (hc : w.cell? ⟨Bs, 0, none⟩ = some (.slice A len cap)) (hI : ShAt W0 A len xs) :
    SeqStopsK F n Try.prog 82 #[.pointer (some ⟨Bs, 0, none⟩)] (fun x : Nat × Sh => #[Value.int .i64 (x.1 : Int), shV x.2]) (Below w.heap.size) (fun ys => ys = upto (shAt xs len) len)
      (fun pre => ∃ k, k ≤ len ∧ pre = upto (shAt xs len) k) len w := fun l J Jx W hW _ _ hY h0 => by
  have hc' : ∀ w', Below w.heap.size W w' → w'.cell? ⟨Bs, 0, none⟩ = some (.slice A len cap) := fun w' h => (h.cell (p := ⟨Bs, 0, none⟩) hBs).trans ((hW.cell (p := ⟨Bs, 0, none⟩) hBs).trans hc)
  obtain ⟨el, hcs⟩ := hI
  rcases Nat.eq_zero_or_pos len with rfl | hpos
  · exact (shBack1_nil_in F n h7 hro l Bs A cap J W (hc' W (Below.refl _ _)) h0).mono fun e W' ⟨he, hj⟩ => ⟨he, .inl ⟨_, rfl, hj⟩⟩
  · obtain ⟨b, off, rfl, hb, hcc⟩ := hcs hpos
    have hall : ∀ j, j < len → W.cell? ⟨b, off + j * 2, none⟩ = some (.int .i64 (at_ xs j).t) ∧ W.cell? ⟨b, off + j * 2 + 1, none⟩ = some (.int .i64 (at_ xs j).o) := fun j hj => by
      obtain ⟨e0, e1⟩ := hcc j hj
      exact ⟨(hW.cell (p := ⟨b, _, none⟩) (Nat.lt_of_lt_of_le hb hk.size)).trans ((hk.cell (p := ⟨b, _, none⟩) hb).trans e0), (hW.cell (p := ⟨b, _, none⟩) (Nat.lt_of_lt_of_le hb hk.size)).trans ((hk.cell (p := ⟨b, _, none⟩) hb).trans e1)⟩
    exact shBack1_in F n h7 hro hn l Bs w.heap.size b off len cap xs hreach (Nat.lt_of_lt_of_le hb hk.size) J Jx hY W hc' hall h0
/-- the element that round j is handed -/
def yrAt (xs : List Yok) (n j : Nat) : Nat × Yok := (n - 1 - j, yok xs (n - 1 - j))
set_option maxRecDepth 100000 in
set_option maxHeartbeats 2000000 in
theorem yrBack1_in (F : Fence) (n : Nat) (h7 : F.fn 80) (hro : F.round = none) (hn : 1 ≤ n) (l Bs n₀ b off len cap : Nat) (xs : List Yok) (hreach : len ≤ 9223372036854775807) (hb : b < n₀) (J Jx : List (Nat × Yok) → World → Prop)
    (hY : ∀ pre x W, J pre W → pre.length < len → YieldAt F (n - 1) Try.prog l #[.int .i64 (x.1 : Int), yrV x.2.1] W fun e W' =>
      (e = .returned (.bool true) ∧ J (pre ++ [x]) W' ∧ Below n₀ W W') ∨ (e = .returned (.bool false) ∧ Jx (pre ++ [x]) W'))
    (W : World) (hBs : ∀ w', Below n₀ W w' → w'.cell? ⟨Bs, 0, none⟩ = some (.slice (some ⟨b, off, none⟩) len cap)) (hc : ∀ j, j < len → W.cell? ⟨b, off + j * 5, none⟩ = some (.int .i64 (yok xs j).1.m) ∧ W.cell? ⟨b, off + j * 5 + 1, none⟩ = some (.int .i64 (yok xs j).1.k) ∧ W.cell? ⟨b, off + j * 5 + 2, none⟩ = some (.int .i64 (yok xs j).1.d) ∧ W.cell? ⟨b, off + j * 5 + 3, none⟩ = some (.int .i64 (yok xs j).1.s) ∧ W.cell? ⟨b, off + j * 5 + 4, none⟩ = some (.int .i64 (yok xs j).1.o)) (h0 : J [] W) :
    CallsIn F n Try.prog 80 #[.func (.yield l) #[] #[], .pointer (some ⟨Bs, 0, none⟩)] W fun e W' => (∃ v, e = .returned v) ∧
      ((∃ ys, ys = upto (yrAt xs len) len ∧ J ys W') ∨ (∃ pre, (∃ k, k ≤ len ∧ pre = upto (yrAt xs len) k) ∧ Jx pre W')) := by
  refine callsIn_of_wp Try.func80 rfl h7 ?_ hro
  simp only [Try.ntmps80, List.size_toArray, List.length_cons, List.length_nil, Nat.reduceAdd, Nat.reduceSub, Array.replicate_succ, Array.replicate_zero, List.push_toArray, List.append_toArray, List.nil_append, List.cons_append]
  have hB0 := hBs W (Below.refl _ _)
  gi_wp2
  gi_loopw [3] (fun i wr => ∃ m : Nat, m ≤ len ∧ i = .int .i64 ((m : Int) - 1) ∧ J (upto (yrAt xs len) (len - m)) wr ∧ Below n₀ W wr)
    (fun i _ => (intOf i + 1).toNat)
  case atStart => exact ⟨len, Nat.le_refl _, rfl, by rw [Nat.sub_self]; exact h0, Below.refl _ _⟩
  case round =>
    obtain ⟨m, hm, hi, hJs, hnx⟩ := hrel
    have hB1 := hBs wr hnx
    cases m with
    | zero =>
      rw [show (((0 : Nat) : Int) - 1) = -1 from rfl] at hi
      subst hi
      rw [Nat.sub_zero] at hJs
      gi_wp2
      go_end0
      exact ⟨⟨_, rfl⟩, .inl ⟨_, rfl, hJs⟩⟩
    | succ j =>
      rw [show (((j + 1 : Nat) : Int) - 1) = (j : Int) from by omega] at hi
      subst hi
      obtain ⟨e0, e1, e2, e3, e4⟩ := hc j (by omega)
      replace e0 := (hnx.cell (p := ⟨b, _, none⟩) hb).trans e0
      replace e1 := (hnx.cell (p := ⟨b, _, none⟩) hb).trans e1
      replace e2 := (hnx.cell (p := ⟨b, _, none⟩) hb).trans e2
      replace e3 := (hnx.cell (p := ⟨b, _, none⟩) hb).trans e3
      replace e4 := (hnx.cell (p := ⟨b, _, none⟩) hb).trans e4
      have ej : len - 1 - (len - (j + 1)) = j := by omega
      obtain ⟨fn, tmps, assign, body, hy, hR⟩ := hY _ (yrAt xs len (len - (j + 1))) wr hJs (by rw [upto_length]; omega)
      rw [← upto_succ, show len - (j + 1) + 1 = len - j from by omega] at hR
      unfold yrAt at hy
      rw [ej] at hy
      clear ej
      dsimp only at hy
      gi_wp2
      refine hR.mono ?_
      rintro e W3 (⟨rfl, hJ3, hk3⟩ | ⟨rfl, hJx3⟩)
      · gi_wp2
        go_roundw
        case rel => exact ⟨j, by omega, rfl, hJ3, hnx.trans hk3⟩
        case measure => simp [intOf]
      · gi_wp2
        refine bodyPost_ret (results_none rfl _ _ _) rfl ?_
        exact ⟨⟨_, rfl⟩, .inr ⟨_, ⟨len - j, by omega, rfl⟩, hJx3⟩⟩
set_option maxRecDepth 100000 in
set_option maxHeartbeats 1000000 in
theorem yrBack1_nil_in (F : Fence) (n : Nat) (h7 : F.fn 80) (hro : F.round = none) (l Bs : Nat) (A : Option Addr) (cap : Nat) (J : List (Nat × Yok) → World → Prop) (W : World) (hBs : W.cell? ⟨Bs, 0, none⟩ = some (.slice A 0 cap)) (h0 : J [] W) :
    CallsIn F n Try.prog 80 #[.func (.yield l) #[] #[], .pointer (some ⟨Bs, 0, none⟩)] W fun e W' => (∃ v, e = .returned v) ∧ J [] W' := by
  refine callsIn_of_wp Try.func80 rfl h7 ?_ hro
  simp only [Try.ntmps80, List.size_toArray, List.length_cons, List.length_nil, Nat.reduceAdd, Nat.reduceSub, Array.replicate_succ, Array.replicate_zero, List.push_toArray, List.append_toArray, List.nil_append, List.cons_append]
  gi_wp2
  gi_loopw [3] (fun i wr => i = .int .i64 (-1) ∧ J [] wr) (fun _ _ => 0)
  case atStart => exact ⟨rfl, h0⟩
  case round =>
    obtain ⟨rfl, hJs⟩ := hrel
    gi_wp2
    go_end0
    exact ⟨⟨_, rfl⟩, hJs⟩
set_option maxHeartbeats 1000000 in
theorem yrBack_in (F : Fence) (n : Nat) (h5 : F.fn 62) (hro : F.round = none) (a : Option Addr) (len cap : Nat) (w : World) :
    CallsIn F n Try.prog 62 #[.slice a len cap] w fun e w' => e = .returned (.func (.func 80) #[] #[.pointer (some ⟨w.heap.size, 0, none⟩)]) ∧ w' = w.alloc (.cells #[.slice a len cap] 23) := by
  refine callsIn_of_wp Try.func62 rfl h5 ?_ hro
  simp only [Try.ntmps62, List.size_toArray, List.length_cons, List.length_nil, Nat.reduceAdd, Nat.reduceSub, Array.replicate_succ, Array.replicate_zero, List.push_toArray, List.append_toArray, List.nil_append, List.cons_append]
  gi_wp2
  go_ret
  exact ⟨rfl, rfl⟩
/-- all of xs, from its end; or the first k of them so -/
theorem yrBack_stops (F : Fence) (n : Nat) (h7 : F.fn 80) (hro : F.round = none) (hn : 1 ≤ n) (Bs : Nat) (W0 : World) (A : Option Addr) (len cap : Nat) (xs : List Yok) (hreach : len ≤ 9223372036854775807) (w : World) (hBs : Bs < w.heap.size) (hk : Below W0.heap.size W0 w)
    (hc : w.cell? ⟨Bs, 0, none⟩ = some (.slice A len cap)) (hI : YrAt W0 A len (xs.map (·.1))) :
    SeqStopsK F n Try.prog 80 #[.pointer (some ⟨Bs, 0, none⟩)] (fun x : Nat × Yok => #[Value.int .i64 (x.1 : Int), yrV x.2.1]) (Below w.heap.size) (fun ys => ys = upto (yrAt xs len) len)
      (fun pre => ∃ k, k ≤ len ∧ pre = upto (yrAt xs len) k) len w := fun l J Jx W hW _ _ hY h0 => by
  have hc' : ∀ w', Below w.heap.size W w' → w'.cell? ⟨Bs, 0, none⟩ = some (.slice A len cap) := fun w' h => (h.cell (p := ⟨Bs, 0, none⟩) hBs).trans ((hW.cell (p := ⟨Bs, 0, none⟩) hBs).trans hc)
  obtain ⟨el, hcs⟩ := hI
  rcases Nat.eq_zero_or_pos len with rfl | hpos
  · exact (yrBack1_nil_in F n h7 hro l Bs A cap J W (hc' W (Below.refl _ _)) h0).mono fun e W' ⟨he, hj⟩ => ⟨he, .inl ⟨_, rfl, hj⟩⟩
  · obtain ⟨b, off, rfl, hb, hcc⟩ := hcs hpos
    have hall : ∀ j, j < len → W.cell? ⟨b, off + j * 5, none⟩ = some (.int .i64 (yok xs j).1.m) ∧ W.cell? ⟨b, off + j * 5 + 1, none⟩ = some (.int .i64 (yok xs j).1.k) ∧ W.cell? ⟨b, off + j * 5 + 2, none⟩ = some (.int .i64 (yok xs j).1.d) ∧ W.cell? ⟨b, off + j * 5 + 3, none⟩ = some (.int .i64 (yok xs j).1.s) ∧ W.cell? ⟨b, off + j * 5 + 4, none⟩ = some (.int .i64 (yok xs j).1.o) := fun j hj => by
      obtain ⟨e0, e1, e2, e3, e4⟩ := hcc j hj
      have ex := yok_at (xs := xs) (j := j) (by have := el; simp at this; omega)
      rw [ex] at e0 e1 e2 e3 e4
      exact ⟨(hW.cell (p := ⟨b, _, none⟩) (Nat.lt_of_lt_of_le hb hk.size)).trans ((hk.cell (p := ⟨b, _, none⟩) hb).trans e0), (hW.cell (p := ⟨b, _, none⟩) (Nat.lt_of_lt_of_le hb hk.size)).trans ((hk.cell (p := ⟨b, _, none⟩) hb).trans e1), (hW.cell (p := ⟨b, _, none⟩) (Nat.lt_of_lt_of_le hb hk.size)).trans ((hk.cell (p := ⟨b, _, none⟩) hb).trans e2), (hW.cell (p := ⟨b, _, none⟩) (Nat.lt_of_lt_of_le hb hk.size)).trans ((hk.cell (p := ⟨b, _, none⟩) hb).trans e3), (hW.cell (p := ⟨b, _, none⟩) (Nat.lt_of_lt_of_le hb hk.size)).trans ((hk.cell (p := ⟨b, _, none⟩) hb).trans e4)⟩
    exact yrBack1_in F n h7 hro hn l Bs w.heap.size b off len cap xs hreach (Nat.lt_of_lt_of_le hb hk.size) J Jx hY W hc' hall h0
end Go.Proofs.Ytbinhnlajflndaa.Zn
