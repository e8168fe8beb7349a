/- What package fold's walks share: slices of bytes and of strings that are read, slices of strings of the call's own, appends. -/
import Derived.Test.YtbinhnlajflndaaStMem
import Derived.Test.YtbinhnlajflndaaFdMath
import Derived.LoopTactic
import Derived.Deep.QuietTactic
import Derived.BigQuiet
import Derived.Lib.AppendStr
import Derived.Laws.OwnMore
import Derived.Shelf.Bytes.SlSmallAll
set_option linter.unusedVariables false
namespace Go.Proofs.Ytbinhnlajflndaa.Fd
open Go.RowKit Cv St

theorem no_bool {p : Prop} [Decidable p] (h : ¬ p) : false = decide p := (decide_eq_false h).symm
theorem yes_bool {p : Prop} [Decidable p] (h : p) : true = decide p := (decide_eq_true h).symm
theorem two_bool {a b : Bool} (h : a = true ↔ b = true) : a = b := Bool.eq_iff_iff.2 h
/-- the string of these bytes -/
def str (z : List UInt8) : ByteArray := ⟨z.toArray⟩
theorem str_list (s : ByteArray) : str s.data.toList = s := by cases s; simp [str]
theorem list_str (z : List UInt8) : (str z).data.toList = z := by simp [str]
theorem str_size (z : List UInt8) : (str z).size = z.length := by simp [str, ByteArray.size]
theorem str_inj {a b : List UInt8} (h : str a = str b) : a = b := by rw [← list_str a, h, list_str]
theorem str_app (a b : List UInt8) : str a ++ str b = str (a ++ b) := by
  have h : (str a ++ str b).data.toList = a ++ b := by simp [str]
  rw [← str_list (str a ++ str b), h]
theorem size_list (s : ByteArray) : s.data.toList.length = s.size := by simp
theorem str_ne {s t : ByteArray} (h : s ≠ t) : (s.toList == t.toList) = false := by
  rw [ByteArray.toList_eq, ByteArray.toList_eq, beq_eq_false_iff_ne]
  intro e
  exact h (by rw [← str_list s, e, str_list])
def sat (l : List ByteArray) (j : Nat) : ByteArray := l.getD j ⟨#[]⟩
theorem sat_lt {l : List ByteArray} {j : Nat} (h : j < l.length) : sat l j = l[j] := by
  unfold sat; rw [List.getD_eq_getElem?_getD, List.getElem?_eq_getElem h]; rfl
/-- the slice at A of n elements holds the strings l, in W -/
def SsAt (W : World) (A : Option Addr) (n : Nat) (l : List ByteArray) : Prop :=
  n = l.length ∧ (0 < n → ∃ b off, A = some ⟨b, off, none⟩ ∧ b < W.heap.size ∧ ∀ j, j < n → W.cell? ⟨b, off + j, none⟩ = some (.string (sat l j)))
/-- the slice at A of n elements holds the bytes l, in W -/
def BsAt (W : World) (A : Option Addr) (n : Nat) (l : List UInt8) : Prop :=
  n = l.length ∧ (0 < n → ∃ b off, A = some ⟨b, off, none⟩ ∧ b < W.heap.size ∧ ∀ j, j < n → W.cell? ⟨b, off + j, none⟩ = some (.int .u8 (bat l j)))
theorem SsAt.below {W w : World} {A : Option Addr} {n : Nat} {l : List ByteArray} (h : SsAt W A n l) (hb : Below W.heap.size W w) : SsAt w A n l :=
  ⟨h.1, fun h0 => by
    obtain ⟨b, off, e, hlt, hc⟩ := h.2 h0
    exact ⟨b, off, e, Nat.lt_of_lt_of_le hlt hb.size, fun j hj => (hb.cell (p := ⟨b, _, none⟩) hlt).trans (hc j hj)⟩⟩
theorem BsAt.below {W w : World} {A : Option Addr} {n : Nat} {l : List UInt8} (h : BsAt W A n l) (hb : Below W.heap.size W w) : BsAt w A n l :=
  ⟨h.1, fun h0 => by
    obtain ⟨b, off, e, hlt, hc⟩ := h.2 h0
    exact ⟨b, off, e, Nat.lt_of_lt_of_le hlt hb.size, fun j hj => (hb.cell (p := ⟨b, _, none⟩) hlt).trans (hc j hj)⟩⟩
theorem BsAt.nil (W : World) (A : Option Addr) : BsAt W A 0 [] := ⟨rfl, fun h => absurd h (by omega)⟩
theorem SsAt.nil (W : World) (A : Option Addr) : SsAt W A 0 [] := ⟨rfl, fun h => absurd h (by omega)⟩
theorem bat_drop (l : List UInt8) (k j : Nat) : bat (l.drop k) j = bat l (k + j) := by
  unfold bat; rw [List.getD_eq_getElem?_getD, List.getD_eq_getElem?_getD, List.getElem?_drop]
theorem bat_take {l : List UInt8} {k j : Nat} (h : j < k) : bat (l.take k) j = bat l j := by
  unfold bat; rw [List.getD_eq_getElem?_getD, List.getD_eq_getElem?_getD, List.getElem?_take, if_pos h]
theorem BsAt.drop {W : World} {b off : Nat} {n : Nat} {l : List UInt8} (h : BsAt W (some ⟨b, off, none⟩) n l) {k : Nat} (hk : k ≤ n) : BsAt W (some ⟨b, off + k, none⟩) (n - k) (l.drop k) :=
  ⟨by rw [List.length_drop, ← h.1], fun h0 => by
    obtain ⟨b', off', e, hlt, hc⟩ := h.2 (by omega)
    injection e with e; injection e with e1 e2; subst e1; subst e2
    exact ⟨b, off + k, rfl, hlt, fun j hj => by rw [bat_drop, Nat.add_assoc]; exact hc (k + j) (by omega)⟩⟩
theorem BsAt.take {W : World} {A : Option Addr} {n : Nat} {l : List UInt8} (h : BsAt W A n l) {k : Nat} (hk : k ≤ n) : BsAt W A k (l.take k) :=
  ⟨by rw [List.length_take, ← h.1]; omega, fun h0 => by
    obtain ⟨b, off, e, hlt, hc⟩ := h.2 (by omega)
    exact ⟨b, off, e, hlt, fun j hj => by rw [bat_take hj]; exact hc j (by omega)⟩⟩
/-- the shelf's words for the same -/
def xs (l : List UInt8) : List Int := l.map fun c => (c.toNat : Int)
theorem xs_len (l : List UInt8) : (xs l).length = l.length := by simp [xs]
theorem xs_at (l : List UInt8) (i : Nat) : (xs l).getD i 0 = bat l i := by
  unfold xs bat
  rw [List.getD_eq_getElem?_getD, List.getElem?_map, List.getD_eq_getElem?_getD]
  cases l[i]? <;> rfl
theorem xs_bytes (l : List UInt8) : Lib.bytesOf (xs l) = l := by
  unfold Lib.bytesOf xs
  rw [List.map_map]
  conv => rhs; rw [← List.map_id l]
  refine List.map_congr_left fun c _ => ?_
  simp
theorem xs_bd (l : List UInt8) : ∀ x ∈ xs l, 0 ≤ x ∧ x < 256 := fun x hx => by
  obtain ⟨c, _, rfl⟩ := List.mem_map.1 hx
  have := c.toNat_lt; omega
theorem BsAt.shelf {W : World} {A : Option Addr} {n : Nat} {l : List UInt8} (h : BsAt W A n l) : Lib.BytesIn W A n (xs l) := fun h0 => by
  obtain ⟨b, off, e, hlt, hc⟩ := h.2 h0
  exact ⟨b, off, e, fun i hi => by rw [xs_at]; exact hc i hi⟩
/-- string(b) -/
theorem BsAt.text {W : World} {A : Option Addr} {n : Nat} {l : List UInt8} (h : BsAt W A n l) (c : Nat) : (convert 38 9 (.slice A n c)).run Try.prog W = .ok (.string (str l)) W := by
  obtain ⟨e, hc⟩ := h
  by_cases h0 : n = 0
  · subst h0
    obtain rfl : l = [] := List.length_eq_zero_iff.1 e.symm
    exact run_convert_bytes_zero W 38 5 Try.underlying38 Try.underlying5 A c 9 Try.underlying9
  · obtain ⟨b, off, rfl, hlt, hcc⟩ := hc (by omega)
    subst e
    exact run_convert_bytes_back (P := Try.prog) W 38 9 5 ⟨b, off, none⟩ c l Try.underlying38 Try.underlying5 Try.underlying9 (fun j hj => by
      rw [Go.WideShapes.add_plain, hcc j hj, bat_lt hj])
/-- an own slice of bytes, read -/
theorem Own.at_ {W w : World} {v : Value} {l : List UInt8} (h : Own W w v l) : ∃ A c, v = .slice A l.length c ∧ BsAt w A l.length l ∧ l.length ≤ c ∧ (A = none → c = 0) ∧ l.length ≤ maxLen := by
  rcases h.2 with ⟨rfl, h0⟩ | ⟨g, cap, cur, rfl, hb, hg, hnc, hcm, -⟩
  · have e : l = [] := List.length_eq_zero_iff.1 h0
    subst e
    exact ⟨none, 0, rfl, BsAt.nil _ _, Nat.le_refl _, fun _ => rfl, by decide⟩
  · refine ⟨some ⟨g, 0, none⟩, cap, rfl, ⟨rfl, fun h0 => ⟨g, 0, rfl, (World.ownsRow.lt h g rfl).2, fun j hj => ?_⟩⟩, hnc, (fun h => by cases h), by omega⟩
    rw [Nat.zero_add, World.ownsRow.cellAt h j (by omega), bat_lt hj]
    simp [Lib.byteCells, hj]
/-- an own slice of strings -/
def strV (s : ByteArray) : Value := .string s
def OwnT (W w : World) (v : Value) (l : List ByteArray) : Prop := w.ownsRow W.heap.size 9 1 v l.length (l.map strV)
theorem OwnT.nil (W w : World) : OwnT W w (.slice none 0 0) [] := World.ownsRow_nil _ _ _ _
theorem OwnT.at_ {W w : World} {v : Value} {l : List ByteArray} (h : OwnT W w v l) : ∃ A c, v = .slice A l.length c ∧ SsAt w A l.length l := by
  rcases h.2 with ⟨rfl, h0⟩ | ⟨g, cap, cur, rfl, hb, hg, hnc, hcm, -⟩
  · have e : l = [] := List.length_eq_zero_iff.1 h0
    subst e
    exact ⟨none, 0, rfl, SsAt.nil _ _⟩
  · refine ⟨some ⟨g, 0, none⟩, cap, rfl, ⟨rfl, fun h0 => ⟨g, 0, rfl, (World.ownsRow.lt h g rfl).2, fun j hj => ?_⟩⟩⟩
    rw [Nat.zero_add, World.ownsRow.cellAt h j (by omega), sat_lt hj]
    simp [strV, hj]
theorem info_str : (Try.prog.info? 9).map (fun i => (i.zero, i.size, i.bytes)) = some (some (.string ⟨#[]⟩), 1, 16) := by kernel_rfl
/-- append of a string's bytes to an own slice of bytes -/
theorem append_text {ops : Array Oper} {rest : List Oper} {o : Oper} {a : Act} {Q : Exit → Act → World → Prop} {W w : World} (hgd : o.guard = none) (s x : Operand)
    (ho : o.op = .call { callee := .builtin .append, args := #[s, x], argTypes := #[38, 9] })
    (v : Value) (l : List UInt8) (hs : a.eval s = v) (hown : Own W w v l) (hat : Below W.heap.size W w) (t : ByteArray) (l2 : List UInt8) (hx : a.eval x = .string t) (ht : t.data.toList = l2) (hl : l.length + l2.length ≤ 1000000)
    (h : ∀ v' w', Own W w' v' (l ++ l2) → Below W.heap.size W w' → wpList Try.prog ops Q rest (a.put o.dst v') w') : wpList Try.prog ops Q (o :: rest) a w := by
  obtain ⟨i0, hi, hz0, hz1, hz2⟩ := info_parts info_u8
  have e : l2.length = t.size := by rw [← ht]; simp
  refine Lib.wpList_append_own_string _ hgd s x 38 9 ho W.heap.size 5 i0 Try.underlying38 Try.underlying9 hi hz0 hz1 hz2 v l.length (Lib.byteCells l) hs hown t hx (by unfold maxLen; omega) (by omega) hat.size ?_
  intro v' w' hown' hg _
  refine h v' w' ?_ (hat.trans ((Below.refl _ _).grown hg hat.size fun _ hk => hown.lt hk))
  unfold Own
  rw [List.length_append, byteCells_append, e, ← ht]
  exact hown'
/-- append of one string to an own slice of strings -/
theorem append_line {ops : Array Oper} {rest : List Oper} {o : Oper} {a : Act} {Q : Exit → Act → World → Prop} {W w : World} (hgd : o.guard = none) (s x : Operand)
    (ho : o.op = .call { callee := .builtin .append, args := #[s, x], argTypes := #[36, 36] })
    (v : Value) (l : List ByteArray) (hs : a.eval s = v) (hown : OwnT W w v l) (hat : Below W.heap.size W w) (t : ByteArray) (T : TypeId) (c : Nat)
    (hx : a.eval x = .slice (some ⟨w.heap.size, 0, none⟩) 1 c) (hl : l.length ≤ 1000000)
    (h : ∀ v' w', OwnT W w' v' (l ++ [t]) → Below W.heap.size W w' → wpList Try.prog ops Q rest (a.put o.dst v') w') : wpList Try.prog ops Q (o :: rest) a (w.alloc (.cells #[.string t] T)) := by
  obtain ⟨i0, hi, hz0, hz1, hz2⟩ := info_parts info_str
  refine wpList_append_own _ hgd s x 36 ho W.heap.size 9 i0 (.string ⟨#[]⟩) 1 16 Try.underlying36 hi hz0 hz1 hz2 rfl (by decide) v l.length (l.map strV) hs (World.ownsRow.alloc hown _)
    ⟨w.heap.size, 0, none⟩ 1 c [.string t] hx rfl ?_ (by intro u hu; obtain rfl : u = .string t := by simpa using hu
                                                         rfl) (by unfold maxLen; omega) (by omega) (by have := hat.size; simp; omega) ?_
  · intro j u hj
    cases j with
    | zero => obtain rfl : Value.string t = u := by simpa using hj
              show (w.alloc (.cells #[.string t] T)).cell? ⟨w.heap.size, 0, none⟩ = _
              rw [World.cell?_alloc_new]; rfl
    | succ j => simp at hj
  · intro v' w' hown' hg _
    have hat1 : Below W.heap.size W (w.alloc (.cells #[.string t] T)) := hat.trans ((Below.refl _ _).alloc hat.size _)
    refine h v' w' ?_ (hat1.trans ((Below.refl _ _).grown hg (by have := hat.size; simp; omega) fun _ hk => (World.ownsRow.lt hown _ hk).1))
    unfold OwnT
    rw [List.length_append, List.map_append]
    exact hown'
/-- a store into an own slice of strings -/
theorem OwnT.store {W w : World} {g cap : Nat} {l : List ByteArray} (h : OwnT W w (.slice (some ⟨g, 0, none⟩) l.length cap) l) (hat : Below W.heap.size W w) (j : Nat) (t : ByteArray) :
    OwnT W (w.setCell ⟨g, j, none⟩ (.string t)) (.slice (some ⟨g, 0, none⟩) l.length cap) (l.set j t) ∧ Below W.heap.size W (w.setCell ⟨g, j, none⟩ (.string t)) := by
  obtain ⟨h1, h2⟩ := World.ownsRow.stored h j (.string t)
  refine ⟨?_, hat.trans ((Below.refl _ _).grown h2 hat.size fun k hk => ?_)⟩
  · unfold OwnT
    rw [List.length_set, List.map_set]
    exact h1
  · injection hk with hk; subst hk
    exact (World.ownsRow.lt h g rfl).1
end Go.Proofs.Ytbinhnlajflndaa.Fd
