/- slices.Backward at spans: what it hands back goes through the slice from its end, whatever the loop's body does that keeps the slice's block and the iterator's box. -/
import Derived.Test.YtjodhfehfpmfaaaIvMem
import Derived.Test.YtjodhfehfpmfaaaIvRange
import Derived.RangeFuncNested
import Derived.RangeFuncBound
import Derived.RangeFuncCalls
import Derived.RangeFuncLeaves
import Derived.Shelf.Abstract
import Derived.Shelf.RegionOpen
import Derived.OwnWalkIn
import Derived.TacticsInMore
import Derived.LoopNIn
import Derived.LoopIn
set_option linter.unusedVariables false
namespace Go.Proofs.Ytjodhfehfpmfaaa.Iv
open Go.RowKit Go.Shelf
attribute [local go_sem] Oper.semAt_some

/-- what has come when k rounds are over -/
def upto {α : Type} (f : Nat → α) (k : Nat) : List α := (List.range k).map f
theorem upto_succ {α : Type} (f : Nat → α) (k : Nat) : upto f (k + 1) = upto f k ++ [f k] := by simp [upto, List.range_succ]
theorem upto_length {α : Type} (f : Nat → α) (k : Nat) : (upto f k).length = k := by simp [upto]
def spV (x : Int × Int) : Value := .agg #[.int .i64 x.1, .int .i64 x.2]
/-- the element that round j is handed -/
def spIx (xs : List (Int × Int)) (n j : Nat) : Nat × (Int × Int) := (n - 1 - j, gt xs (n - 1 - j))
/-- the blocks that the iterator reads -/
def BackC (b Bs : Nat) (k : Nat) : Prop := k = b ∨ k = Bs
structure BackIn (b Bs off len cap : Nat) (xs : List (Int × Int)) (W : World) : Prop where
  box : W.cell? ⟨Bs, 0, none⟩ = some (.slice (some ⟨b, off, none⟩) len cap)
  row : ∀ j, j < len → W.cell? ⟨b, off + j * 2, none⟩ = some (.int .i64 (gt xs j).1) ∧ W.cell? ⟨b, off + j * 2 + 1, none⟩ = some (.int .i64 (gt xs j).2)
  l1 : b < W.heap.size
  l2 : Bs < W.heap.size
theorem BackIn.keeps {b Bs off len cap : Nat} {xs : List (Int × Int)} {W W' : World} (h : BackIn b Bs off len cap xs W) (hk : Keeps (BackC b Bs) W W') : BackIn b Bs off len cap xs W' :=
  ⟨hk.cell (.inr rfl) h.box, fun j hj => ⟨hk.cell (.inl rfl) (h.row j hj).1, hk.cell (.inl rfl) (h.row j hj).2⟩, Nat.lt_of_lt_of_le h.l1 hk.size, Nat.lt_of_lt_of_le h.l2 hk.size⟩
set_option maxRecDepth 100000 in
set_option maxHeartbeats 2000000 in
/-- all of xs, from its end -/
theorem spBack_seq (F : Fence) (n : Nat) (h7 : F.fn 114) (hro : F.round = none) (hn : 1 ≤ n) (Bs b off len cap : Nat) (xs : List (Int × Int)) (hreach : len ≤ 9223372036854775807) :
    SeqX F n Try.prog 114 #[.pointer (some ⟨Bs, 0, none⟩)] (fun x : Nat × (Int × Int) => #[Value.int .i64 (x.1 : Int), spV x.2]) (BackC b Bs) (BackIn b Bs off len cap xs) (upto (spIx xs len) len) := fun l J Jx W hin fJ fJx hY h0 => by
  show CallsIn F n Try.prog 114 #[.func (.yield l) #[] #[], .pointer (some ⟨Bs, 0, none⟩)] W _
  refine callsIn_of_wp Try.func114 rfl h7 ?_ hro
  simp only [Try.ntmps114, List.size_toArray, List.length_cons, List.length_nil, Nat.reduceAdd, Nat.reduceSub, Array.replicate_succ, Array.replicate_zero, List.push_toArray, List.append_toArray, List.nil_append, List.cons_append]
  have hB0 := hin.box
  have HIN := Lib.hid hin
  clear hin
  gi_wp2
  gi_loopw [3] (fun i wr => ∃ m : Nat, m ≤ len ∧ i = .int .i64 ((m : Int) - 1) ∧ J noneX (upto (spIx xs len) (len - m)) wr ∧ Hid (BackIn b Bs off len cap xs wr))
    (fun i _ => (intOf i + 1).toNat)
  case atStart => exact ⟨len, Nat.le_refl _, rfl, by rw [Nat.sub_self]; exact h0, HIN⟩
  case round =>
    obtain ⟨m, hm, hi, hJs, hnx⟩ := hrel
    have hB1 := hnx.out.box
    cases m with
    | zero =>
      rw [show (((0 : Nat) : Int) - 1) = -1 from rfl] at hi
      subst hi
      rw [Nat.sub_zero] at hJs
      gi_wp2
      go_end0
      exact ⟨⟨_, rfl⟩, .inl hJs⟩
    | succ j =>
      rw [show (((j + 1 : Nat) : Int) - 1) = (j : Int) from by omega] at hi
      subst hi
      obtain ⟨e0, e1⟩ := hnx.out.row j (by omega)
      have ej : len - 1 - (len - (j + 1)) = j := by omega
      have pf : upto (spIx xs len) (len - (j + 1)) ++ [spIx xs len (len - (j + 1))] <+: upto (spIx xs len) len := by
        rw [← upto_succ]
        obtain ⟨d, hd⟩ : ∃ d, len = len - (j + 1) + 1 + d := ⟨j, by omega⟩
        generalize len - (j + 1) + 1 = a at hd
        rw [show upto (spIx xs len) len = upto (spIx xs len) (a + d) from by rw [← hd]]
        unfold upto
        rw [List.range_add, List.map_append]
        exact List.prefix_append _ _
      obtain ⟨fn, tmps, assign, body, hy, hR⟩ := hY noneX _ (spIx xs len (len - (j + 1))) wr hJs (fun k h => h.elim) (fun k h => h.elim) pf
      rw [← upto_succ, show len - (j + 1) + 1 = len - j from by omega] at hR
      unfold spIx at hy
      rw [ej] at hy
      clear ej pf
      dsimp only at hy
      unfold spV at hy
      gi_wp2
      refine hR.mono ?_
      rintro e W3 (⟨rfl, hJ3, hk3⟩ | ⟨rfl, hJx3, -⟩)
      · have hn3 := Lib.hid (hnx.out.keeps (hk3.mono fun k h => .inr h))
        gi_wp2
        go_roundw
        case rel => exact ⟨j, by omega, rfl, hJ3, hn3⟩
        case measure => simp [intOf]
      · gi_wp2
        refine bodyPost_ret (results_none rfl _ _ _) rfl ?_
        refine ⟨⟨_, rfl⟩, .inr ⟨_, ?_, hJx3⟩⟩
        obtain ⟨d, hd⟩ : ∃ d, len = len - j + d := ⟨j, by omega⟩
        generalize len - j = a at hd
        rw [show upto (spIx xs len) len = upto (spIx xs len) (a + d) from by rw [← hd]]
        unfold upto
        rw [List.range_add, List.map_append]
        exact List.prefix_append _ _
set_option maxHeartbeats 1000000 in
theorem spBack_in (F : Fence) (n : Nat) (h5 : F.fn 91) (hro : F.round = none) (a : Option Addr) (len cap : Nat) (w : World) :
    CallsIn F n Try.prog 91 #[.slice a len cap] w fun e w' => e = .returned (.func (.func 114) #[] #[.pointer (some ⟨w.heap.size, 0, none⟩)]) ∧ w' = w.alloc (.cells #[.slice a len cap] 22) := by
  refine callsIn_of_wp Try.func91 rfl h5 ?_ hro
  simp only [Try.ntmps91, List.size_toArray, List.length_cons, List.length_nil, Nat.reduceAdd, Nat.reduceSub, Array.replicate_succ, Array.replicate_zero, List.push_toArray, List.append_toArray, List.nil_append, List.cons_append]
  gi_wp2
  go_ret
  exact ⟨rfl, rfl⟩
end Go.Proofs.Ytjodhfehfpmfaaa.Iv
