/- What the walks of voklaw4's laws share: appends of slices that are read, []byte(s), Split by names. -/
import Derived.Test.YtbinhnlajflndaaFdFirst
import Derived.Lib.ConvBytes
import Derived.OwnWalk
import Derived.Laws.AppendOwnNone
set_option linter.unusedVariables false
namespace Go.Proofs.Ytbinhnlajflndaa.Fd
open Go.RowKit Cv St

set_option maxRecDepth 100000 in
/-- append of a slice of bytes that is read to an own one -/
theorem append_bs {ops : Array Oper} {rest : List Oper} {o : Oper} {a : Act} {Q : Exit → Act → World → Prop} {W w : World} (hgd : o.guard = none) (s x : Operand)
    (ho : o.op = .call { callee := .builtin .append, args := #[s, x], argTypes := #[38, 38] })
    (v : Value) (l : List UInt8) (hs : a.eval s = v) (hown : Own W w v l) (hat : Below W.heap.size W w) (A : Option Addr) (m c : Nat) (k : List UInt8) (hx : a.eval x = .slice A m c) (hk : BsAt w A m k) (hc : A = none → c = 0) (hl : l.length + m ≤ 1000000)
    (h : ∀ v' w', Own W w' v' (l ++ k) → Below W.heap.size W w' → wpList Try.prog ops Q rest (a.put o.dst v') w') : wpList Try.prog ops Q (o :: rest) a w := by
  obtain ⟨i0, hi, hz0, hz1, hz2⟩ := info_parts info_u8
  obtain ⟨ek, hc2⟩ := hk
  have h1 : ∀ u ∈ Lib.byteCells k, Value.oneCell' u = true := by
    intro u hu
    unfold Lib.byteCells at hu
    obtain ⟨b, _, rfl⟩ := List.mem_map.1 hu
    rfl
  have fin : ∀ v' w', w'.ownsRow W.heap.size 5 1 v' (l.length + m) (Lib.byteCells l ++ Lib.byteCells k) → w.grownBy w' v.ownBlock → (v' = .slice none 0 0 ↔ v = .slice none 0 0 ∧ m = 0) → wpList Try.prog ops Q rest (a.put o.dst v') w' := by
    intro v' w' hown' hg _
    refine h v' w' ?_ (hat.trans ((Below.refl _ _).grown hg hat.size fun _ hk => hown.lt hk))
    unfold Own
    rw [List.length_append, byteCells_append, ← ek]
    exact hown'
  cases A with
  | none =>
    obtain rfl := hc rfl
    have hm : m = 0 := by
      by_cases h0 : 0 < m
      · obtain ⟨b, off, e, _⟩ := hc2 h0; cases e
      · omega
    subst hm
    have e : k = [] := List.length_eq_zero_iff.1 ek.symm
    subst e
    exact wpList_append_own_none hgd s x 38 ho W.heap.size 5 i0 1 Try.underlying38 hi v l.length (Lib.byteCells l) hs hown hx (h v w (by rw [List.append_nil]; exact hown) hat)
  | some ad =>
    refine wpList_append_own _ hgd s x 38 ho W.heap.size 5 i0 (.int .u8 0) 1 1 Try.underlying38 hi hz0 hz1 hz2 rfl (by decide) v l.length (Lib.byteCells l) hs hown
      ad m c (Lib.byteCells k) hx (by simp [Lib.byteCells, ek]) ?_ h1 (by unfold maxLen; omega) (by omega) hat.size fin
    intro j u hj
    have hjk : j < k.length := by
      rcases Nat.lt_or_ge j k.length with g | g
      · exact g
      · rw [List.getElem?_eq_none (by simpa [Lib.byteCells] using g)] at hj; cases hj
    obtain ⟨b, off, e, hlt, hcc⟩ := hc2 (by omega)
    injection e with e
    subst e
    rw [Go.WideShapes.add_plain, hcc j (by omega), bat_lt hjk]
    rw [← hj]
    simp [Lib.byteCells, hjk]
/-- a slice of bytes that the call has just laid -/
theorem lit_own (W w : World) (l : List UInt8) (cs : Array Value) (hat : Below W.heap.size W w) (h : cs.toList = Lib.byteCells l) (hl : l.length ≤ 1000000) : Own W (w.alloc (.cells cs 5)) (.slice (some ⟨w.heap.size, 0, none⟩) l.length l.length) l := by
  have hs : cs.size = l.length := by rw [← Array.length_toList, h]; simp [Lib.byteCells]
  have := World.ownsRow_lit (base := W.heap.size) (e := 5) (size := 1) w cs l.length hat.size (by unfold maxLen; omega) (by rw [hs]; simp)
  rw [h] at this
  exact this
theorem copy_any (w : World) (A : Option Addr) (n c : Nat) (l : List UInt8) (h : BsAt w A n l) (hc : A = none → c = 0) (hn : n ≤ 1000000) :
    Calls Try.prog 35 #[.slice A n c] w fun e w' => ∃ v, e = .returned v ∧ Own w w' v l ∧ Below w.heap.size w w' := by
  have o0 := lit_own w w [] #[] (Below.refl _ _) rfl (by decide)
  have b0 := (Below.refl w.heap.size w).alloc (Nat.le_refl _) (.cells #[] 5)
  have h0 := h.below b0
  have H := Lib.hid h0; have HC := Lib.hid hc; have HO := Lib.hid o0; have HB := Lib.hid b0
  clear h hc o0 b0 h0
  go_enter Try.func35, Try.ntmps35
  go_wp2_with (at_builtin; refine append_bs rfl _ _ rfl _ [] rfl HO.out HB.out _ _ _ _ rfl H.out HC.out (by simpa using hn) ?_)
  intro v1 w1 o1 b1
  go_wp2
  go_ret
  exact ⟨v1, rfl, by simpa using o1, b1⟩
/-- []byte(s) -/
theorem bytes_of (w : World) (s : ByteArray) : (convert 9 38 (.string s)).run Try.prog w = .ok (.slice (some ⟨w.heap.size, 0, none⟩) s.size (grownCap w s.size 0 5)) (Lib.bytesWorld w 5 s) :=
  Lib.run_convert_string_bytes w 9 38 5 s Try.underlying9 Try.underlying38 Try.underlying5
theorem bytes_below (w : World) (s : ByteArray) : Below w.heap.size w (Lib.bytesWorld w 5 s) := by
  refine ⟨?_, ?_, ?_, by rw [Lib.bytesWorld_size]; omega, fun k hk => Lib.bytesWorld_at_old w 5 s k hk⟩
  all_goals simp [Lib.bytesWorld, World.freeze, World.alloc, World.drew, -World.alloc_eq, -World.drew_eq]
theorem bytes_at (w : World) (s : ByteArray) : BsAt (Lib.bytesWorld w 5 s) (some ⟨w.heap.size, 0, none⟩) s.size s.data.toList :=
  ⟨by simp, fun h0 => ⟨w.heap.size, 0, rfl, by rw [Lib.bytesWorld_size]; omega, fun j hj => by rw [Nat.zero_add]; exact Lib.bytesWorld_cell w 5 s j hj⟩⟩
theorem bytes_cap (w : World) (s : ByteArray) : s.size ≤ grownCap w s.size 0 5 := grownCap_ge w s.size 0 _
/-- Split by names, the number of lines too -/
theorem split_k (w : World) (A : Option Addr) (n c : Nat) (l : List UInt8) (L : List ByteArray) (k : Nat) (N E : Int) (h : BsAt w A n l) (hnc : n ≤ c) (hn : n ≤ 9223372036854775807) (hL : (splitL l).map str = L) (hk : L.length = k) (hN : splitN l = N) (hE : splitE l = E) :
    Calls Try.prog 32 #[.slice A n c] w fun e w' => ∃ B d, e = .returned (.tuple #[.slice B k d, .int .i64 N, .int .i64 E]) ∧ SsAt w' B k L ∧ Below w.heap.size w w' := by
  subst hL; subst hk
  refine (split_is w A n c l _ N E h hnc hn rfl hN hE).mono ?_
  rintro e w' ⟨B, d, rfl, hs, hb⟩
  exact ⟨B, d, rfl, hs, hb⟩
end Go.Proofs.Ytbinhnlajflndaa.Fd
