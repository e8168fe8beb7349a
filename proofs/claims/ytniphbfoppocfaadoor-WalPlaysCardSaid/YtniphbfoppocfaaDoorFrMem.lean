/- Memory of package frame's walks: slices of bytes that are read, slices of bytes of the call's own, appends and stores. -/
import Derived.Test.YtniphbfoppocfaaDoorRows
import Derived.Test.YtniphbfoppocfaaDoorFrRec
import Derived.WalkKit
import Derived.OwnWalk
import Derived.WalkSpells
import Derived.LoopTactic
import Derived.Deep.QuietTactic
import Derived.BigQuiet
import Derived.IntWalk
import Derived.Lib.Hide
import Derived.Lib.Slices
import Derived.Lib.UnsafeStr
import Derived.Lib.AppendStr
import Derived.Shelf.Bytes.SlSmallAll
import Derived.Lib.LaidTab
import Derived.Laws.MakeOwn
import Derived.Laws.OwnMore
import Derived.Laws.AppendOwnNone
import Derived.Laws.BitsAllLaws
set_option linter.unusedVariables false
namespace Go.Proofs.YtniphbfoppocfaaDoor.Fr
open Go.RowKit

theorem ret_int {k : IntKind} {a b : Int} (h : a = b) : Ending.returned (.int k a) = .returned (.int k b) := by rw [h]
theorem ret_bool {a b : Bool} (h : a = b) : Ending.returned (.bool a) = .returned (.bool b) := by rw [h]
theorem addr_off (b o j : Nat) : (⟨b, o, none⟩ : Addr).add j = ⟨b, o + j, none⟩ := by unfold Addr.add; split <;> simp_all
theorem below_drewN (B : Nat) (w : World) (n : Nat) : Below B w (w.drewN n) := ⟨rfl, rfl, rfl, Nat.le_refl _, fun _ _ => rfl⟩
theorem below_alloc (w : World) (o : Obj) : Below w.heap.size w (w.alloc o) := (Below.refl _ _).alloc (Nat.le_refl _) o
/-- a byte of a list, as a number -/
def bv (l : List UInt8) (j : Nat) : Nat := (l.getD j 0).toNat
theorem bv_lt {l : List UInt8} {j : Nat} (h : j < l.length) : bv l j = l[j].toNat := by unfold bv; rw [List.getD_eq_getElem?_getD, List.getElem?_eq_getElem h]; rfl
theorem bv_256 (l : List UInt8) (j : Nat) : bv l j < 256 := u8_lt _
theorem bv_drop (l : List UInt8) (k j : Nat) : bv (l.drop k) j = bv l (k + j) := by
  unfold bv; rw [List.getD_eq_getElem?_getD, List.getD_eq_getElem?_getD, List.getElem?_drop]
theorem bv_take {l : List UInt8} {k j : Nat} (h : j < k) : bv (l.take k) j = bv l j := by
  unfold bv; rw [List.getD_eq_getElem?_getD, List.getD_eq_getElem?_getD, List.getElem?_take, if_pos h]
/-- the slice at A of n elements holds the bytes l, in W -/
def BsAt (W : World) (A : Option Addr) (n : Nat) (l : List UInt8) : Prop :=
  n = l.length ∧ (0 < n → ∃ b off, A = some ⟨b, off, none⟩ ∧ b < W.heap.size ∧ ∀ j, j < n → W.cell? ⟨b, off + j, none⟩ = some (.int .u8 (bv l j : Nat)))
theorem BsAt.below {W w : World} {A : Option Addr} {n : Nat} {l : List UInt8} (h : BsAt W A n l) (hb : Below W.heap.size W w) : BsAt w A n l :=
  ⟨h.1, fun h0 => by
    obtain ⟨b, off, e, hlt, hc⟩ := h.2 h0
    exact ⟨b, off, e, Nat.lt_of_lt_of_le hlt hb.size, fun j hj => (hb.cell (p := ⟨b, _, none⟩) hlt).trans (hc j hj)⟩⟩
theorem BsAt.nil (W : World) (A : Option Addr) : BsAt W A 0 [] := ⟨rfl, fun h => absurd h (by omega)⟩
theorem BsAt.drop {W : World} {A : Option Addr} {n : Nat} {l : List UInt8} (h : BsAt W A n l) {k : Nat} (hk : k ≤ n) (hk0 : 0 < n - k → ∀ b off, A = some ⟨b, off, none⟩ → A.map (·.add k) = some ⟨b, off + k, none⟩ := fun _ b off e => by rw [e, Option.map_some, addr_off]) : BsAt W (A.map (·.add k)) (n - k) (l.drop k) :=
  ⟨by rw [List.length_drop, ← h.1], fun h0 => by
    obtain ⟨b, off, e, hlt, hc⟩ := h.2 (by omega)
    exact ⟨b, off + k, hk0 h0 b off e, hlt, fun j hj => by rw [bv_drop, Nat.add_assoc]; exact hc (k + j) (by omega)⟩⟩
theorem BsAt.take {W : World} {A : Option Addr} {n : Nat} {l : List UInt8} (h : BsAt W A n l) {k : Nat} (hk : k ≤ n) : BsAt W A k (l.take k) :=
  ⟨by rw [List.length_take, ← h.1]; omega, fun h0 => by
    obtain ⟨b, off, e, hlt, hc⟩ := h.2 (by omega)
    exact ⟨b, off, e, hlt, fun j hj => by rw [bv_take hj]; exact hc j (by omega)⟩⟩
/-- a part of it, wherever its address comes from -/
theorem BsAt.part {W : World} {b off n m : Nat} {B : Option Addr} {l : List UInt8} (h : BsAt W (some ⟨b, off, none⟩) n l) {k : Nat} (hk : k + m ≤ n) (hB : 0 < m → B = some ⟨b, off + k, none⟩) : BsAt W B m ((l.drop k).take m) :=
  ⟨by rw [List.length_take, List.length_drop, ← h.1]; omega, fun h0 => by
    obtain ⟨b', off', e, hlt, hc⟩ := h.2 (by omega)
    injection e with e; injection e with e1 e2; subst e1; subst e2
    exact ⟨b, off + k, hB h0, hlt, fun j hj => by rw [bv_take hj, bv_drop, Nat.add_assoc]; exact hc (k + j) (by omega)⟩⟩
/-- string(b) -/
def str (z : List UInt8) : ByteArray := ⟨z.toArray⟩
theorem str_inj {a b : List UInt8} (h : str a = str b) : a = b := by
  unfold str at h
  have := congrArg (fun x => x.data.toList) h
  simpa using this
theorem str_size (z : List UInt8) : (str z).size = z.length := by simp [str, ByteArray.size]
theorem BsAt.text {W : World} {A : Option Addr} {n : Nat} {l : List UInt8} (h : BsAt W A n l) (c : Nat) : (convert 22 9 (.slice A n c)).run Tryd.prog W = .ok (.string (str l)) W := by
  obtain ⟨e, hc⟩ := h
  by_cases h0 : n = 0
  · subst h0
    obtain rfl : l = [] := List.length_eq_zero_iff.1 e.symm
    exact run_convert_bytes_zero W 22 5 Tryd.underlying22 Tryd.underlying5 A c 9 Tryd.underlying9
  · obtain ⟨b, off, rfl, hlt, hcc⟩ := hc (by omega)
    subst e
    exact run_convert_bytes_back (P := Tryd.prog) W 22 9 5 ⟨b, off, none⟩ c l Tryd.underlying22 Tryd.underlying5 Tryd.underlying9 (fun j hj => by
      rw [addr_off, hcc j hj, bv_lt hj])
/-- v is a slice of the call's own that holds the bytes l -/
def OwnB (B : Nat) (w : World) (v : Value) (l : List UInt8) : Prop := w.ownsRow B 5 1 v l.length (Lib.byteCells l)
theorem OwnB.nil (B : Nat) (w : World) : OwnB B w (.slice none 0 0) [] := World.ownsRow_nil _ _ _ _
theorem row_on {B : Nat} {w w' : World} {e : TypeId} {size : Nat} {v : Value} {n : Nat} {xs : List Value} (h : w.ownsRow B e size v n xs) (hb : Below w.heap.size w w') : w'.ownsRow B e size v n xs :=
  World.ownsRow.kept (row := none) h ⟨hb.1, hb.2, hb.3, hb.4, fun k hk _ => hb.5 k hk⟩ (by cases v.ownBlock <;> simp)
theorem row_low {B C : Nat} {w : World} {e : TypeId} {size : Nat} {v : Value} {n : Nat} {xs : List Value} (h : w.ownsRow B e size v n xs) (hb : C ≤ B) : w.ownsRow C e size v n xs := by
  refine ⟨h.1, ?_⟩
  rcases h.2 with q | ⟨g, cap, cur, hv, hB, rest⟩
  · exact .inl q
  · exact .inr ⟨g, cap, cur, hv, Nat.le_trans hb hB, rest⟩
theorem OwnB.on {B : Nat} {w w' : World} {v : Value} {l : List UInt8} (h : OwnB B w v l) (hb : Below w.heap.size w w') : OwnB B w' v l := row_on h hb
theorem byteCells_append (a b : List UInt8) : Lib.byteCells (a ++ b) = Lib.byteCells a ++ Lib.byteCells b := by simp [Lib.byteCells]
theorem byteCells_len (a : List UInt8) : (Lib.byteCells a).length = a.length := by simp [Lib.byteCells]
theorem byteCells_at (a : List UInt8) (j : Nat) (h : j < a.length) : (Lib.byteCells a)[j]? = some (.int .u8 (bv a j : Nat)) := by
  rw [bv_lt h]; simp [Lib.byteCells, h]
theorem byteCells_one (l : List UInt8) : ∀ u ∈ Lib.byteCells l, Value.oneCell' u = true := by
  intro u hu
  unfold Lib.byteCells at hu
  obtain ⟨b, _, rfl⟩ := List.mem_map.1 hu
  rfl
theorem OwnB.form {B : Nat} {w : World} {v : Value} {l : List UInt8} (h : OwnB B w v l) : (v = .slice none 0 0 ∧ l = []) ∨ ∃ g c, v = .slice (some ⟨g, 0, none⟩) l.length c ∧ BsAt w (some ⟨g, 0, none⟩) l.length l ∧ B ≤ g ∧ g < w.heap.size ∧ l.length ≤ c := by
  have hb := fun g => World.ownsRow.lt h g
  have cc := fun g (e : v.ownBlock = some g) => World.ownsRow.cells h (g := g) e
  rcases h.2 with ⟨rfl, e⟩ | ⟨g, cap, cur, rfl, hB, hg, hn, hm, hs, ht⟩
  · exact .inl ⟨rfl, List.eq_nil_of_length_eq_zero e⟩
  · refine .inr ⟨g, cap, rfl, ⟨rfl, fun h0 => ⟨g, 0, rfl, (hb g rfl).2, fun j hj => ?_⟩⟩, (hb g rfl).1, (hb g rfl).2, hn⟩
    have := cc g rfl _ _ (byteCells_at l j hj)
    rwa [addr_off] at this
theorem OwnB.at_ {B : Nat} {w : World} {v : Value} {l : List UInt8} (h : OwnB B w v l) : ∃ A c, v = .slice A l.length c ∧ BsAt w A l.length l ∧ l.length ≤ c ∧ (A = none → c = 0) := by
  rcases h.form with ⟨rfl, rfl⟩ | ⟨g, c, rfl, s, -, -, r⟩
  · exact ⟨none, 0, rfl, BsAt.nil _ _, Nat.le_refl _, fun _ => rfl⟩
  · exact ⟨_, _, rfl, s, r, fun h => by cases h⟩
theorem info_u8 : (Tryd.prog.info? 5).map (fun i => (i.zero, i.size, i.bytes)) = some (some (.int .u8 0), 1, 1) := by kernel_rfl
/-- append of a slice of bytes that is read to an own one -/
theorem append_bs {ops : Array Oper} {rest : List Oper} {o : Oper} {a : Act} {Q : Exit → Act → World → Prop} {B : Nat} {w : World} (hgd : o.guard = none) (s x : Operand)
    (ho : o.op = .call { callee := .builtin .append, args := #[s, x], argTypes := #[22, 22] })
    (v : Value) (l : List UInt8) (hs : a.eval s = v) (hown : OwnB B w v l) (hB : B ≤ w.heap.size) (A : Option Addr) (m c : Nat) (k : List UInt8) (hx : a.eval x = .slice A m c) (hk : BsAt w A m k) (hc : A = none → c = 0) (hl : l.length + m ≤ 1000000)
    (h : ∀ v' w', OwnB B w' v' (l ++ k) → w.grownBy w' v.ownBlock → wpList Tryd.prog ops Q rest (a.put o.dst v') w') : wpList Tryd.prog ops Q (o :: rest) a w := by
  obtain ⟨i0, hi, hz0, hz1, hz2⟩ := info_parts info_u8
  obtain ⟨ek, hc2⟩ := hk
  have fin : ∀ v' w', w'.ownsRow B 5 1 v' (l.length + m) (Lib.byteCells l ++ Lib.byteCells k) → w.grownBy w' v.ownBlock → (v' = .slice none 0 0 ↔ v = .slice none 0 0 ∧ m = 0) → wpList Tryd.prog ops Q rest (a.put o.dst v') w' := by
    intro v' w' hown' hg _
    refine h v' w' ?_ hg
    unfold OwnB
    rw [List.length_append, byteCells_append, ← ek]
    exact hown'
  cases A with
  | none =>
    obtain rfl := hc rfl
    have hm : m = 0 := by
      by_cases h0 : 0 < m
      · obtain ⟨b, off, e, _⟩ := hc2 h0; cases e
      · omega
    subst hm
    have e : k = [] := List.length_eq_zero_iff.1 ek.symm
    subst e
    exact wpList_append_own_none hgd s x 22 ho B 5 i0 1 Tryd.underlying22 hi v l.length (Lib.byteCells l) hs hown hx (h v w (by rw [List.append_nil]; exact hown) ⟨rfl, rfl, rfl, Nat.le_refl _, fun _ _ _ => rfl⟩)
  | some ad =>
    refine wpList_append_own _ hgd s x 22 ho B 5 i0 (.int .u8 0) 1 1 Tryd.underlying22 hi hz0 hz1 hz2 rfl (by decide) v l.length (Lib.byteCells l) hs hown
      ad m c (Lib.byteCells k) hx (by simp [Lib.byteCells, ek]) ?_ (byteCells_one k) (by unfold maxLen; omega) (by omega) hB fin
    intro j u hj
    have hjk : j < k.length := by
      rcases Nat.lt_or_ge j k.length with g | g
      · exact g
      · rw [List.getElem?_eq_none (by simpa [Lib.byteCells] using g)] at hj; cases hj
    obtain ⟨b, off, e, hlt, hcc⟩ := hc2 (by omega)
    injection e with e
    subst e
    rw [addr_off, hcc j (by omega), ← byteCells_at k j hjk, hj]
/-- append of a few bytes that the text writes out -/
theorem append_few {ops : Array Oper} {rest : List Oper} {o : Oper} {a : Act} {Q : Exit → Act → World → Prop} {B : Nat} {w : World} (hgd : o.guard = none) (s x : Operand)
    (ho : o.op = .call { callee := .builtin .append, args := #[s, x], argTypes := #[22, 22] })
    (v : Value) (l : List UInt8) (hs : a.eval s = v) (hown : OwnB B w v l) (hB : B ≤ w.heap.size) (cs : Array Value) (T : TypeId) (m c : Nat)
    (hx : a.eval x = .slice (some ⟨w.heap.size, 0, none⟩) m c) (ns : List UInt8) (hcs : cs.toList = Lib.byteCells ns) (hm : ns.length = m) (hl : l.length + m ≤ 1000000)
    (h : ∀ v' w', OwnB B w' v' (l ++ ns) → (w.alloc (.cells cs T)).grownBy w' v.ownBlock → wpList Tryd.prog ops Q rest (a.put o.dst v') w') : wpList Tryd.prog ops Q (o :: rest) a (w.alloc (.cells cs T)) := by
  refine append_bs hgd s x ho v l hs (hown.on (below_alloc w _)) (by simp; omega) (some ⟨w.heap.size, 0, none⟩) m c ns hx ⟨hm.symm, fun h0 => ⟨w.heap.size, 0, rfl, by simp, fun j hj => ?_⟩⟩ (fun q => by cases q) hl h
  rw [World.cell?_alloc_new, Nat.zero_add, ← byteCells_at ns j (by omega), ← hcs]
  simp
/-- what grew was of the call's own -/
theorem grown_below {B : Nat} {w w' : World} {e : TypeId} {size : Nat} {v : Value} {n : Nat} {xs : List Value} (h : w.ownsRow B e size v n xs) (hg : w.grownBy w' v.ownBlock) (hB : B ≤ w.heap.size) : Below B w w' :=
  (Below.refl _ _).grown hg hB fun k hk => (World.ownsRow.lt h k hk).1
/-- a slice of bytes that the call has just laid -/
theorem lit_own {B : Nat} (w : World) (l : List UInt8) (cs : Array Value) (hB : B ≤ w.heap.size) (h : cs.toList = Lib.byteCells l) (hl : l.length ≤ 1000000) : OwnB B (w.alloc (.cells cs 5)) (.slice (some ⟨w.heap.size, 0, none⟩) l.length l.length) l := by
  have hs : cs.size = l.length := by rw [← Array.length_toList, h]; simp [Lib.byteCells]
  have := World.ownsRow_lit (base := B) (e := 5) (size := 1) w cs l.length hB (by unfold maxLen; omega) (by rw [hs]; simp)
  rw [h] at this
  exact this
/-- a byte of an own slice is written -/
theorem OwnB.store {B : Nat} {w : World} {g cap : Nat} {l : List UInt8} (h : OwnB B w (.slice (some ⟨g, 0, none⟩) l.length cap) l) (j : Nat) (x : UInt8) (n : Int) (hn : n = (x.toNat : Nat)) :
    OwnB B (w.setCell ⟨g, j, none⟩ (.int .u8 n)) (.slice (some ⟨g, 0, none⟩) l.length cap) (l.set j x) ∧ w.grownBy (w.setCell ⟨g, j, none⟩ (.int .u8 n)) (some g) := by
  obtain ⟨h1, h2⟩ := World.ownsRow.stored h j (.int .u8 n)
  refine ⟨?_, h2⟩
  unfold OwnB
  rw [List.length_set]
  have e : Lib.byteCells (l.set j x) = (Lib.byteCells l).set j (.int .u8 n) := by subst hn; unfold Lib.byteCells; rw [List.map_set]
  rw [e]
  exact h1
/-- a list of bytes, where it lies -/
structure SlB where
  A : Option Addr
  k : Nat
  c : Nat
  l : List UInt8
instance : Inhabited SlB := ⟨⟨none, 0, 0, []⟩⟩
def SlB.val (s : SlB) : Value := .slice s.A s.k s.c
def gt {α : Type} [Inhabited α] (l : List α) (j : Nat) : α := l[j]?.getD default
theorem gt_lt {α : Type} [Inhabited α] {l : List α} {j : Nat} (h : j < l.length) : gt l j = l[j] := by unfold gt; rw [List.getElem?_eq_getElem h]; rfl
theorem gt_mem {α : Type} [Inhabited α] {l : List α} {j : Nat} (h : j < l.length) : gt l j ∈ l := by rw [gt_lt h]; exact List.getElem_mem h
/-- a slice of slices of bytes that is read -/
def LsAt (W : World) (A : Option Addr) (n : Nat) (S : List SlB) : Prop :=
  n = S.length ∧ (0 < n → ∃ b off, A = some ⟨b, off, none⟩ ∧ b < W.heap.size ∧ ∀ j, j < n → W.cell? ⟨b, off + j, none⟩ = some (gt S j).val ∧ BsAt W (gt S j).A (gt S j).k (gt S j).l ∧ (gt S j).k ≤ (gt S j).c ∧ ((gt S j).A = none → (gt S j).c = 0))
theorem LsAt.below {W w : World} {A : Option Addr} {n : Nat} {S : List SlB} (h : LsAt W A n S) (hb : Below W.heap.size W w) : LsAt w A n S := by
  refine ⟨h.1, fun h0 => ?_⟩
  obtain ⟨b, off, e, hlt, hc⟩ := h.2 h0
  refine ⟨b, off, e, Nat.lt_of_lt_of_le hlt hb.size, fun j hj => ?_⟩
  obtain ⟨c0, s, k⟩ := hc j hj
  exact ⟨(hb.cell (p := ⟨b, _, none⟩) hlt).trans c0, s.below hb, k⟩
theorem LsAt.nil (W : World) (A : Option Addr) : LsAt W A 0 [] := ⟨rfl, fun h => absurd h (by omega)⟩
/-- the bytes of each -/
def bytesS (S : List SlB) : List (List UInt8) := S.map (·.l)
/-- v is a slice of the call's own of slices of the call's own, each in a block for itself -/
structure OwnL (B : Nat) (w : World) (v : Value) (S : List SlB) : Prop where
  row : w.ownsRow B 22 1 v S.length (S.map SlB.val)
  each : ∀ j, j < S.length → OwnB B w (gt S j).val (gt S j).l
  ne : ∀ i j, i < S.length → j < S.length → i ≠ j → (gt S i).val.ownBlock = none ∨ (gt S i).val.ownBlock ≠ (gt S j).val.ownBlock
theorem info_bs : (Tryd.prog.info? 22).map (fun i => (i.zero, i.size, i.bytes)) = some (some (.slice none 0 0), 1, 24) := by kernel_rfl
end Go.Proofs.YtniphbfoppocfaaDoor.Fr
