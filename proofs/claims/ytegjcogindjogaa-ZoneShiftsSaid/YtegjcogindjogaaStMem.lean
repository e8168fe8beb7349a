/- What package stamp's walks share: below the world that a law began in nothing turns, and the table of powers reads as it was laid; a slice of bytes of the call's own holds a list of bytes. -/
import Derived.Test.YtegjcogindjogaaRows
import Derived.Test.YtegjcogindjogaaStMath
import Derived.Test.YtegjcogindjogaaCvWalkB
import Derived.Test.YtegjcogindjogaaCvWalkR
import Derived.WalkKit
import Derived.OwnWalk
import Derived.WalkSpells
import Derived.BigCall
import Derived.Lib.Hide
import Derived.Lib.Slices
import Derived.Lib.ItoaLen
import Derived.Lib.UnsafeStr
import Derived.Laws.IdiomStrings
import Derived.Laws.MakeOwn
namespace Go.Proofs.Ytegjcogindjogaa.St
open Go.RowKit

def Tab (_ : World) : Prop := True
/-- Of what W held nothing has turned; the table stands. -/
structure At (W w : World) : Prop where
  below : Below W.heap.size W w
  tab : Tab W
theorem At.refl {W : World} (h : Tab W) : At W W := ⟨Below.refl _ _, h⟩
theorem At.on {W w w' : World} (h : At W w) (hb : Below W.heap.size w w') : At W w' := ⟨h.below.trans hb, h.tab⟩
theorem At.size {W w : World} (h : At W w) : W.heap.size ≤ w.heap.size := h.below.size
theorem Below.drewN' (B : Nat) (w : World) (n : Nat) : Below B w (w.drewN n) := ⟨rfl, rfl, rfl, Nat.le_refl _, fun _ _ => rfl⟩
theorem At.drewN {W w : World} (h : At W w) (n : Nat) : At W (w.drewN n) := h.on (Below.drewN' _ _ _)
/-- v is a slice of the call's own that holds the bytes l. -/
def Own (W w : World) (v : Value) (l : List UInt8) : Prop := w.ownsRow W.heap.size 5 1 v l.length (Lib.byteCells l)
/-- What a function leaves that writes on behind a slice of the call's own. -/
def Wrote (W : World) (l : List UInt8) (e : Ending) (w' : World) : Prop := ∃ v, e = .returned v ∧ Own W w' v l ∧ At W w'
theorem info_u8 : (Try.prog.info? 5).map (fun i => (i.zero, i.size, i.bytes)) = some (some (.int .u8 0), 1, 1) := by kernel_rfl
theorem Own.lt {W w : World} {v : Value} {l : List UInt8} (h : Own W w v l) {k : Nat} (hk : v.ownBlock = some k) : W.heap.size ≤ k := (World.ownsRow.lt h k hk).1
theorem Own.grown {W w w1 : World} {v : Value} {l : List UInt8} (h : Own W w v l) (ha : At W w) (hg : w.grownBy w1 v.ownBlock) : At W w1 :=
  ha.on ((Below.refl _ _).grown hg ha.size fun _ hk => h.lt hk)
theorem Own.nil (W w : World) : Own W w (.slice none 0 0) [] := World.ownsRow_nil _ _ _ _
theorem byteCells_append (a b : List UInt8) : Lib.byteCells (a ++ b) = Lib.byteCells a ++ Lib.byteCells b := by simp [Lib.byteCells]
theorem Own.slice {W w : World} {v : Value} {l : List UInt8} (h : Own W w v l) (hl : 0 < l.length) : ∃ g cap, v = .slice (some ⟨g, 0, none⟩) l.length cap := by
  rcases h.2 with ⟨-, h0⟩ | ⟨g, cap, cur, rfl, -⟩
  · omega
  · exact ⟨g, cap, rfl⟩
theorem part_len (n u : Int) (h0 : 0 ≤ n) (h1 : n ≤ 1000000) : (part n u).length ≤ 22 := by
  have := Lib.itoa_length_le n (by omega) (by omega)
  unfold part; split <;> simp; omega
theorem durText_len {n : Int} (h1 : 1 ≤ n) (h2 : n ≤ 2147483648) : (durText n).length ≤ 100 := by
  have k0 := part_len (n / 604800) 87 (by omega) (by omega)
  have k1 := part_len (n / 86400) 68 (by omega) (by omega)
  have k2 := part_len (n % 86400 / 3600) 72 (by omega) (by omega)
  have k3 := part_len (n % 3600 / 60) 77 (by omega) (by omega)
  have k4 := part_len (n % 60) 83 (by omega) (by omega)
  unfold durText
  split <;> (try split) <;> simp <;> omega
theorem At.alloc {W w : World} (h : At W w) (o : Obj) : At W (w.alloc o) := h.on ((Below.refl _ _).alloc h.size _)
theorem At.drew {W w : World} (h : At W w) : At W w.drew := h.on ((Below.refl _ _).drew)
theorem own_lit (W w : World) (l : List UInt8) (h : At W w) (hl : l.length ≤ 1000) : Own W (w.alloc (.cells (Lib.byteCells l).toArray 5)) (.slice (some ⟨w.heap.size, 0, none⟩) l.length l.length) l := by
  have := World.ownsRow_lit (base := W.heap.size) (e := 5) (size := 1) w (Lib.byteCells l).toArray l.length h.size (by unfold maxLen; omega) (by simp [Lib.byteCells])
  simpa [Own] using this
end Go.Proofs.Ytegjcogindjogaa.St
