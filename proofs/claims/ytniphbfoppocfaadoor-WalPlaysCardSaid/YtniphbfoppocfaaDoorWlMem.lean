/- Memory of package wal's walks: a log as a block of two cells, a disk, and a slice of slices of bytes of its own, each apart from the disk. -/
import Derived.Test.YtniphbfoppocfaaDoorFrG
import Derived.Test.YtniphbfoppocfaaDoorDkPb
import Derived.Test.YtniphbfoppocfaaDoorWlMath
set_option linter.unusedVariables false
namespace Go.Proofs.YtniphbfoppocfaaDoor.Wl
open Go.RowKit Fr Dk

theorem row_kp {F : Nat → Prop} {B : Nat} {w w' : World} {e : TypeId} {size : Nat} {v : Value} {n : Nat} {xs : List Value} (h : w.ownsRow B e size v n xs) (k : Kp F w w') (ho : ∀ g, v.ownBlock = some g → ¬ F g) : w'.ownsRow B e size v n xs := by
  refine ⟨h.1, ?_⟩
  rcases h.2 with q | ⟨g, cap, cur, rfl, hb, hg, rest⟩
  · exact .inl q
  · exact .inr ⟨g, cap, cur, rfl, hb, (k.block g (World.ownsRow.lt h g rfl).2 (ho g rfl)).trans hg, rest⟩
/-- the blocks of a list of records -/
def Rs (v : Value) (S : List SlB) (k : Nat) : Prop := v.ownBlock = some k ∨ ∃ j, j < S.length ∧ (gt S j).val.ownBlock = some k
section
variable {B : Nat} {w w' : World} {v : Value} {S : List SlB}
theorem ownl_kp {F : Nat → Prop} (h : OwnL B w v S) (k : Kp F w w') (ho : ∀ g, Rs v S g → ¬ F g) : OwnL B w' v S :=
  ⟨row_kp h.row k fun g e => ho g (.inl e), fun j hj => own_kp (h.each j hj) k fun g e => ho g (.inr ⟨j, hj, e⟩), h.ne⟩
theorem ownl_lt (h : OwnL B w v S) : ∀ g, Rs v S g → B ≤ g ∧ g < w.heap.size := fun g hg => by
  rcases hg with hg | ⟨j, hj, hg⟩
  · exact World.ownsRow.lt h.row g hg
  · exact World.ownsRow.lt (h.each j hj) g hg
/-- they lie in no block of another kind -/
theorem free_l {T : TypeId} {p : Nat} {c : Array Value} (h : w.heap[p]? = some (.cells c T)) (h1 : T ≠ 5) (h2 : T ≠ 22) (o : OwnL B w v S) : ∀ g, Rs v S g → ¬ p = g := fun g hg => by
  rcases hg with hg | ⟨j, hj, hg⟩
  · rcases o.row.2 with ⟨rfl, -⟩ | ⟨g', cap, cur, rfl, -, hg', -⟩
    · simp [Value.ownBlock] at hg
    · injection hg with hg
      subst hg
      rintro rfl
      rw [h] at hg'
      injection hg' with q
      injection q with q1 q2 q3
      exact h2 q2
  · exact free_u h h1 (o.each j hj) g hg
end
/-- the log at p over the disk at q, with its records in v -/
structure LgV (T D : TypeId) (w : World) (p q : Nat) (R Y : Int) (l : List UInt8) (dv v : Value) (S : List SlB) : Prop where
  blk : w.heap[p]? = some (.cells #[.pointer (some ⟨q, 0, none⟩), v] T)
  d : DkV D w q R Y l dv
  own : OwnL 0 w v S
  ap : ∀ k, Ft q dv k → ¬ k = p ∧ ¬ Rs v S k
/-- all its blocks -/
def Al (p q : Nat) (dv v : Value) (S : List SlB) (k : Nat) : Prop := k = p ∨ Rs v S k ∨ Ft q dv k
section
variable {T D : TypeId} {w w' : World} {p q : Nat} {R Y : Int} {l : List UInt8} {dv v : Value} {S : List SlB}
theorem LgV.lt (h : LgV T D w p q R Y l dv v S) : p < w.heap.size := (Array.getElem?_eq_some_iff.1 h.blk).1
theorem LgV.c0 (h : LgV T D w p q R Y l dv v S) : w.cell? ⟨p, 0, none⟩ = some (.pointer (some ⟨q, 0, none⟩)) := by rw [cell_of_row w p 0 _ _ _ h.blk]; rfl
theorem LgV.c1 (h : LgV T D w p q R Y l dv v S) : w.cell? ⟨p, 1, none⟩ = some v := by rw [cell_of_row w p 1 _ _ _ h.blk]; rfl
theorem LgV.fz (h : LgV T D w p q R Y l dv v S) (i : Nat) : w.frozen? ⟨p, i, none⟩ = false := by simp [World.frozen?, h.blk]
theorem LgV.all (h : LgV T D w p q R Y l dv v S) : ∀ k, Al p q dv v S k → k < w.heap.size := fun k hk => by
  rcases hk with rfl | hk | hk
  · exact h.lt
  · exact (ownl_lt h.own k hk).2
  · rcases hk with rfl | hk
    · exact h.d.lt
    · exact (World.ownsRow.lt h.d.own k hk).2
theorem LgV.kp {F : Nat → Prop} (h : LgV T D w p q R Y l dv v S) (k : Kp F w w') (ho : ∀ g, Al p q dv v S g → ¬ F g) : LgV T D w' p q R Y l dv v S :=
  ⟨(k.block p h.lt (ho p (.inl rfl))).trans h.blk, h.d.kp k fun g hg => ho g (.inr (.inr hg)), ownl_kp h.own k fun g hg => ho g (.inr (.inl hg)), h.ap⟩
theorem LgV.below (h : LgV T D w p q R Y l dv v S) (b : Below w.heap.size w w') : LgV T D w' p q R Y l dv v S :=
  ⟨(b.block p h.lt).trans h.blk, h.d.below b, h.own.on b, h.ap⟩
/-- the disk is worked on -/
theorem LgV.disk {R' Y' : Int} {l' : List UInt8} {dv' : Value} (h : LgV T D w p q R Y l dv v S) (d : DkV D w' q R' Y' l' dv') (k : Kp (Ft q dv) w w') (n : New w dv dv') : LgV T D w' p q R' Y' l' dv' v S := by
  refine ⟨(k.block p h.lt fun z => (h.ap p z).1 rfl).trans h.blk, d, ownl_kp h.own k fun g hg z => (h.ap g z).2 hg, fun g hg => ?_⟩
  rcases hg with hg | hg
  · exact h.ap g (.inl hg)
  · rcases n with n | n
    · exact h.ap g (.inr (n ▸ hg))
    · have := n g hg
      exact ⟨by have := h.lt; omega, fun z => by have := (ownl_lt h.own g z).2; omega⟩
end
/-- what an operation leaves: the log, with these records; of other memory nothing has turned, and its blocks are old ones of its own or new -/
def LgT (T D : TypeId) (w : World) (p q : Nat) (dv v : Value) (S : List SlB) (R Y : Int) (l : List UInt8) (r : List (List UInt8)) (ans : Value) (e : Ending) (w' : World) : Prop :=
  e = .returned ans ∧ ∃ dv' v' S', LgV T D w' p q R Y l dv' v' S' ∧ bytesS S' = r ∧ Kp (Al p q dv v S) w w' ∧ ∀ k, Al p q dv' v' S' k → Al p q dv v S k ∨ w.heap.size ≤ k
theorem LgT.next {T D : TypeId} {w w1 w2 : World} {p q : Nat} {dv v dv1 v1 : Value} {S S1 : List SlB} {R Y : Int} {l : List UInt8} {r : List (List UInt8)} {ans : Value} {e : Ending} (k : Kp (Al p q dv v S) w w1) (n : ∀ k, Al p q dv1 v1 S1 k → Al p q dv v S k ∨ w.heap.size ≤ k)
    (t : LgT T D w1 p q dv1 v1 S1 R Y l r ans e w2) : LgT T D w p q dv v S R Y l r ans e w2 := by
  obtain ⟨he, dv2, v2, S2, g, hr, k2, n2⟩ := t
  refine ⟨he, dv2, v2, S2, g, hr, ⟨k2.os.trans k.os, k2.tape.trans k.tape, k2.output.trans k.output, Nat.le_trans k.size k2.size, fun i hi hf => (k2.block i (Nat.lt_of_lt_of_le hi k.size) fun z => ?_).trans (k.block i hi hf)⟩, fun i hi => ?_⟩
  · rcases n i z with z | z
    · exact hf z
    · omega
  · rcases n2 i hi with z | z
    · exact n i z
    · exact .inr (Nat.le_trans k.size z)
/-- the disk's operation, as the log's -/
theorem LgT.disk {T D : TypeId} {w w' : World} {p q : Nat} {dv v : Value} {S : List SlB} {R Y R' Y' : Int} {l l' : List UInt8} {ans a : Value} {e : Ending} (h : LgV T D w p q R Y l dv v S) (t : DkT D w q dv R' Y' l' a e w') : e = .returned a ∧ LgT T D w p q dv v S R' Y' l' (bytesS S) ans (.returned ans) w' := by
  obtain ⟨he, dv', d, k, n⟩ := t
  refine ⟨he, rfl, dv', v, S, h.disk d k n, rfl, k.mono fun g _ hg => .inr (.inr hg), fun g hg => ?_⟩
  rcases hg with hg | hg | hg
  · exact .inl (.inl hg)
  · exact .inl (.inr (.inl hg))
  · rcases hg with hg | hg
    · exact .inl (.inr (.inr (.inl hg)))
    · rcases n with n | n
      · exact .inl (.inr (.inr (.inr (n ▸ hg))))
      · exact .inr (n g hg)
end Go.Proofs.YtniphbfoppocfaaDoor.Wl
