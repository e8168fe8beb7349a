/- What package stamp's walks share: below the world that a law began in nothing turns, and the table of powers reads as it was laid; a slice of bytes of the call's own holds a list of bytes. -/
import Derived.Test.YtkkmhjplfpdhcaaGreatDoorRows
import Derived.Test.YtkkmhjplfpdhcaaGreatDoorStMath
import Derived.Test.YtkkmhjplfpdhcaaGreatDoorCvWalkB
import Derived.Test.YtkkmhjplfpdhcaaGreatDoorCvWalkR
import Derived.WalkKit
import Derived.OwnWalk
import Derived.WalkSpells
import Derived.BigCall
import Derived.Lib.Hide
import Derived.Lib.Slices
import Derived.Lib.ItoaLen
import Derived.Lib.UnsafeStr
import Derived.Laws.IdiomStrings
import Derived.Laws.MakeOwn
namespace Go.Proofs.YtkkmhjplfpdhcaaGreatDoor.St
open Go.RowKit

def Tab (_ : World) : Prop := True
/-- Of what W held nothing has turned; the table stands. -/
structure At (W w : World) : Prop where
  below : Below W.heap.size W w
  tab : Tab W
theorem At.refl {W : World} (h : Tab W) : At W W := ⟨Below.refl _ _, h⟩
theorem At.on {W w w' : World} (h : At W w) (hb : Below W.heap.size w w') : At W w' := ⟨h.below.trans hb, h.tab⟩
theorem At.size {W w : World} (h : At W w) : W.heap.size ≤ w.heap.size := h.below.size
theorem Below.drewN' (B : Nat) (w : World) (n : Nat) : Below B w (w.drewN n) := ⟨rfl, rfl, rfl, Nat.le_refl _, fun _ _ => rfl⟩
theorem At.drewN {W w : World} (h : At W w) (n : Nat) : At W (w.drewN n) := h.on (Below.drewN' _ _ _)
/-- v is a slice of the call's own that holds the bytes l. -/
def Own (W w : World) (v : Value) (l : List UInt8) : Prop := w.ownsRow W.heap.size 5 1 v l.length (Lib.byteCells l)
/-- What a function leaves that writes on behind a slice of the call's own. -/
def Wrote (W : World) (l : List UInt8) (e : Ending) (w' : World) : Prop := ∃ v, e = .returned v ∧ Own W w' v l ∧ At W w'
theorem info_u8 : (Tryz.prog.info? 5).map (fun i => (i.zero, i.size, i.bytes)) = some (some (.int .u8 0), 1, 1) := by kernel_rfl
theorem Own.lt {W w : World} {v : Value} {l : List UInt8} (h : Own W w v l) {k : Nat} (hk : v.ownBlock = some k) : W.heap.size ≤ k := (World.ownsRow.lt h k hk).1
theorem Own.grown {W w w1 : World} {v : Value} {l : List UInt8} (h : Own W w v l) (ha : At W w) (hg : w.grownBy w1 v.ownBlock) : At W w1 :=
  ha.on ((Below.refl _ _).grown hg ha.size fun _ hk => h.lt hk)
theorem Own.nil (W w : World) : Own W w (.slice none 0 0) [] := World.ownsRow_nil _ _ _ _
theorem byteCells_append (a b : List UInt8) : Lib.byteCells (a ++ b) = Lib.byteCells a ++ Lib.byteCells b := by simp [Lib.byteCells]
/-- append of a few bytes that the text writes out. -/
theorem append_bytes {ops : Array Oper} {rest : List Oper} {o : Oper} {a : Act} {Q : Exit → Act → World → Prop} {W w : World} (hgd : o.guard = none) (s x : Operand)
    (ho : o.op = .call { callee := .builtin .append, args := #[s, x], argTypes := #[99, 99] })
    (v : Value) (l : List UInt8) (hs : a.eval s = v) (hown : Own W w v l) (hat : At W w) (cs : Array Value) (T : TypeId) (m c : Nat)
    (hx : a.eval x = .slice (some ⟨w.heap.size, 0, none⟩) m c) (ns : List UInt8) (hcs : cs.toList = Lib.byteCells ns) (hm : ns.length = m) (hl : l.length + m ≤ 1000000)
    (h : ∀ v' w', Own W w' v' (l ++ ns) → At W w' → wpList Tryz.prog ops Q rest (a.put o.dst v') w') : wpList Tryz.prog ops Q (o :: rest) a (w.alloc (.cells cs T)) := by
  obtain ⟨i0, hi, hz0, hz1, hz2⟩ := info_parts info_u8
  have h1 : ∀ u ∈ Lib.byteCells ns, Value.oneCell' u = true := by
    intro u hu
    unfold Lib.byteCells at hu
    obtain ⟨b, _, rfl⟩ := List.mem_map.1 hu
    rfl
  refine wpList_append_own _ hgd s x 99 ho W.heap.size 5 i0 (.int .u8 0) 1 1 Tryz.underlying99 hi hz0 hz1 hz2 rfl (by decide) v l.length (Lib.byteCells l) hs (World.ownsRow.alloc hown _)
    ⟨w.heap.size, 0, none⟩ m c (Lib.byteCells ns) hx (by simp [Lib.byteCells, hm]) ?_ h1 (by unfold maxLen; omega) (by omega) (by have := hat.size; simp; omega) ?_
  · intro j u hj
    rw [← hcs] at hj
    have e : (⟨w.heap.size, 0, none⟩ : Addr).add j = ⟨w.heap.size, j, none⟩ := by cases j <;> simp [Addr.add]
    rw [e, World.cell?_alloc_new, ← hj]; simp
  · intro v' w' hown' hg _
    have hat1 : At W (w.alloc (.cells cs T)) := hat.on ((Below.refl _ _).alloc hat.size _)
    refine h v' w' ?_ (hat1.on ((Below.refl _ _).grown hg (by have := hat.size; simp; omega) fun _ hk => hown.lt hk))
    unfold Own
    rw [List.length_append, byteCells_append, hm]
    exact hown'
/-- string(out) of a slice of the call's own. -/
theorem bytes_back {W w : World} {g cap : Nat} {l : List UInt8} (h : Own W w (.slice (some ⟨g, 0, none⟩) l.length cap) l) :
    (convert 99 9 (.slice (some ⟨g, 0, none⟩) l.length cap)).run Tryz.prog w = .ok (.string ⟨l.toArray⟩) w :=
  run_convert_bytes_back (P := Tryz.prog) w 99 9 5 ⟨g, 0, none⟩ cap l Tryz.underlying99 Tryz.underlying5 Tryz.underlying9 (fun j hj => World.ownsRow.cells h (g := g) rfl j _ (by simp [Lib.byteCells, hj]))
theorem Own.slice {W w : World} {v : Value} {l : List UInt8} (h : Own W w v l) (hl : 0 < l.length) : ∃ g cap, v = .slice (some ⟨g, 0, none⟩) l.length cap := by
  rcases h.2 with ⟨-, h0⟩ | ⟨g, cap, cur, rfl, -⟩
  · omega
  · exact ⟨g, cap, rfl⟩
theorem part_len (n u : Int) (h0 : 0 ≤ n) (h1 : n ≤ 1000000) : (part n u).length ≤ 22 := by
  have := Lib.itoa_length_le n (by omega) (by omega)
  unfold part; split <;> simp; omega
theorem durText_len {n : Int} (h1 : 1 ≤ n) (h2 : n ≤ 2147483648) : (durText n).length ≤ 100 := by
  have k0 := part_len (n / 604800) 87 (by omega) (by omega)
  have k1 := part_len (n / 86400) 68 (by omega) (by omega)
  have k2 := part_len (n % 86400 / 3600) 72 (by omega) (by omega)
  have k3 := part_len (n % 3600 / 60) 77 (by omega) (by omega)
  have k4 := part_len (n % 60) 83 (by omega) (by omega)
  unfold durText
  split <;> (try split) <;> simp <;> omega
theorem At.alloc {W w : World} (h : At W w) (o : Obj) : At W (w.alloc o) := h.on ((Below.refl _ _).alloc h.size _)
theorem At.drew {W w : World} (h : At W w) : At W w.drew := h.on ((Below.refl _ _).drew)
theorem own_lit (W w : World) (l : List UInt8) (h : At W w) (hl : l.length ≤ 1000) : Own W (w.alloc (.cells (Lib.byteCells l).toArray 5)) (.slice (some ⟨w.heap.size, 0, none⟩) l.length l.length) l := by
  have := World.ownsRow_lit (base := W.heap.size) (e := 5) (size := 1) w (Lib.byteCells l).toArray l.length h.size (by unfold maxLen; omega) (by simp [Lib.byteCells])
  simpa [Own] using this
/-- string([]byte{c}). -/
theorem one_back (c : Int) (h0 : 0 ≤ c) (h1 : c ≤ 255) (w : World) :
    (convert 99 9 (.slice (some ⟨w.heap.size, 0, none⟩) 1 1)).run Tryz.prog (w.alloc (.cells #[.int .u8 c] 5)) = .ok (.string ⟨#[u8 c]⟩) (w.alloc (.cells #[.int .u8 c] 5)) := by
  have e := u8_nat c h0 h1
  have := run_convert_bytes_back (P := Tryz.prog) (w.alloc (.cells #[.int .u8 c] 5)) 99 9 5 ⟨w.heap.size, 0, none⟩ 1 [u8 c] Tryz.underlying99 Tryz.underlying5 Tryz.underlying9
    (fun j hj => by obtain rfl : j = 0 := by simpa using hj
                    show (w.alloc (.cells #[.int .u8 c] 5)).cell? ⟨w.heap.size, 0, none⟩ = _
                    rw [World.cell?_alloc_new]; simp [e])
  exact this
theorem one_back_drew (c : Int) (h0 : 0 ≤ c) (h1 : c ≤ 255) (w : World) :
    (convert 99 9 (.slice (some ⟨w.heap.size, 0, none⟩) 1 1)).run Tryz.prog (w.alloc (.cells #[.int .u8 c] 5)).drew = .ok (.string ⟨#[u8 c]⟩) (w.alloc (.cells #[.int .u8 c] 5)).drew := by
  have e := u8_nat c h0 h1
  have := run_convert_bytes_back (P := Tryz.prog) (w.alloc (.cells #[.int .u8 c] 5)).drew 99 9 5 ⟨w.heap.size, 0, none⟩ 1 [u8 c] Tryz.underlying99 Tryz.underlying5 Tryz.underlying9
    (fun j hj => by obtain rfl : j = 0 := by simpa using hj
                    show (w.alloc (.cells #[.int .u8 c] 5)).cell? ⟨w.heap.size, 0, none⟩ = _
                    rw [World.cell?_alloc_new]; simp [e])
  exact this
end Go.Proofs.YtkkmhjplfpdhcaaGreatDoor.St
