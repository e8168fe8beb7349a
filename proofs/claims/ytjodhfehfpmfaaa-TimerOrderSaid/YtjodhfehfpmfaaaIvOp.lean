/- Operations that came in, opened. -/
import Derived.Test.YtjodhfehfpmfaaaIvOpen
set_option linter.unusedVariables false
namespace Go.Proofs.Ytjodhfehfpmfaaa.Iv
open Go.ChangeShapes Go.WideShapes Go.RowKit Go.Deep

/-- an operation: kind, numbers, and where its spans lie -/
structure OpR where
  kind : Int
  n : Int
  m : Int
  A : Option Addr
  k : Nat
  c : Nat
  l : List (Int × Int)
instance : Inhabited OpR := ⟨⟨0, 0, 0, none, 0, 0, []⟩⟩
def OpAt (W : World) (A : Option Addr) (n : Nat) (ops : List OpR) : Prop :=
  n = ops.length ∧ (0 < n → ∃ b off, A = some ⟨b, off, none⟩ ∧ b < W.heap.size ∧ ∀ j, j < n → W.cell? ⟨b, off + j * 4, none⟩ = some (.int .i64 (gt ops j).kind) ∧ W.cell? ⟨b, off + j * 4 + 1, none⟩ = some (.int .i64 (gt ops j).n) ∧ W.cell? ⟨b, off + j * 4 + 2, none⟩ = some (.int .i64 (gt ops j).m) ∧
    W.cell? ⟨b, off + j * 4 + 3, none⟩ = some (.slice (gt ops j).A (gt ops j).k (gt ops j).c) ∧ SpAt W (gt ops j).A (gt ops j).k (gt ops j).l ∧ (gt ops j).k ≤ 9223372036854775807)
theorem OpAt.below {W w : World} {A : Option Addr} {n : Nat} {l : List OpR} (h : OpAt W A n l) (hb : Below W.heap.size W w) : OpAt w A n l := by
  refine ⟨h.1, fun h0 => ?_⟩
  obtain ⟨b, off, e, hlt, hc⟩ := h.2 h0
  refine ⟨b, off, e, Nat.lt_of_lt_of_le hlt hb.size, fun j hj => ?_⟩
  obtain ⟨c0, c1, c2, c3, s, k⟩ := hc j hj
  exact ⟨(hb.cell (p := ⟨b, _, none⟩) hlt).trans c0, (hb.cell (p := ⟨b, _, none⟩) hlt).trans c1, (hb.cell (p := ⟨b, _, none⟩) hlt).trans c2, (hb.cell (p := ⟨b, _, none⟩) hlt).trans c3, s.below hb, k⟩
theorem op_zero {W : World} {A : Option Addr} {n : Nat} {l : List OpR} (h : OpAt W A n l) : A = none → n = 0 := fun e => by
  rcases Nat.eq_zero_or_pos n with q | q
  · exact q
  · obtain ⟨b, o, z, -⟩ := h.2 q
    rw [e] at z; cases z
section
variable {H : Type} {enc : TypeId × Value → H} {W : World} {base : Nat} {spare : Nat → Bool} {held : Bool}
/-- the fields of a struct, each of one cell -/
theorem field_of {P : Program} {e : TypeId} {fs : Array Field} {n : Nat} {cs : List Value} {x : DataW H × List MemPlace} (he : P.underlying e = some (.struct fs)) (hone : oneCellFields P fs = true) (hC : P.cellsOf e = fs.size)
    (h : DataW.trod enc P W base spare held n e cs = some x) : ∀ j (hj : j < fs.size), ∃ m v y, cs[j]? = some v ∧ DataW.trod enc P W base spare held m fs[j].type [v] = some y := by
  obtain ⟨xs, m, rfl, _, hlen, hxs, hf⟩ := DataW.trod_struct he h
  intro j hj
  have hfj : fs[j]? = some fs[j] := Array.getElem?_eq_getElem hj
  obtain ⟨ho, hk⟩ := hone_of hone j _ hfj
  have hjc : j < cs.length := by rw [hlen, hC]; exact hj
  have ht := hf j _ hfj
  rw [ho, hk, List.drop_eq_getElem_cons hjc, List.take_succ_cons, List.take_zero, List.getElem?_eq_getElem (by omega)] at ht
  exact ⟨_, _, _, List.getElem?_eq_getElem hjc, ht⟩
theorem op_open {n : Nat} {v : Value} {y : DataW H × List MemPlace} (h : DataW.trod enc Try.prog W base spare held n 27 [v] = some y) :
    ∃ A k c l, v = .slice A k c ∧ OpAt W A k l ∧ (A = none → c = 0) ∧ k ≤ 9223372036854775807 := by
  rcases open_slice Try.underlying27 h with ⟨hc, _⟩ | ⟨a, len, cap, m, n', D, Pl, hc, _, hl, hm, hmm, _, hi⟩
  · injection hc with hc
    exact ⟨none, 0, 0, [], hc, ⟨rfl, fun h => absurd h (by omega)⟩, fun _ => rfl, by omega⟩
  · injection hc with hc
    have hlm : len ≤ m := by rw [hmm]; split <;> omega
    have each : ∀ i, i < len → ∃ s : OpR, W.cell? (a.add (i * 4)) = some (.int .i64 s.kind) ∧ W.cell? ((a.add (i * 4)).add 1) = some (.int .i64 s.n) ∧ W.cell? ((a.add (i * 4)).add 2) = some (.int .i64 s.m) ∧ W.cell? ((a.add (i * 4)).add 3) = some (.slice s.A s.k s.c) ∧ SpAt W s.A s.k s.l ∧ s.k ≤ 9223372036854775807 := fun i hi' => by
      obtain ⟨cs, hcs, ht⟩ := hi i (by omega)
      have e4 : Try.prog.cellsOf 36 = 4 := by kernel_rfl
      rw [e4] at hcs
      obtain ⟨_, hlen, hcell⟩ := World.cells?_some hcs
      have hz := field_of Try.underlying36 (by kernel_rfl) (by kernel_rfl) ht
      obtain ⟨m0, v0, y0, g0, t0⟩ := hz 0 (by decide)
      obtain ⟨m1, v1, y1, g1, t1⟩ := hz 1 (by decide)
      obtain ⟨m2, v2, y2, g2, t2⟩ := hz 2 (by decide)
      obtain ⟨m3, v3, y3, g3, t3⟩ := hz 3 (by decide)
      obtain ⟨z0, e0, _⟩ := DataW.trod_int Try.underlying3 t0
      obtain ⟨z1, e1, _⟩ := DataW.trod_int Try.underlying3 t1
      obtain ⟨z2, e2, _⟩ := DataW.trod_int Try.underlying3 t2
      injection e0 with e0
      injection e1 with e1
      injection e2 with e2
      subst e0 e1 e2
      obtain ⟨A, q, c, l, rfl, hs, -, hk⟩ := sp_open t3
      refine ⟨⟨z0, z1, z2, A, q, c, l⟩, ?_, (hcell 1 (by omega)).trans g1, (hcell 2 (by omega)).trans g2, (hcell 3 (by omega)).trans g3, hs, hk⟩
      have := (hcell 0 (by omega)).trans g0
      rwa [show (a.add (i * 4)).add 0 = a.add (i * 4) from rfl] at this
    obtain ⟨l, hll, hall⟩ := list_of (default : OpR) each
    refine ⟨some a, len, cap, l, hc, ⟨hll.symm, fun h0 => ?_⟩, (fun h => by cases h), (by unfold maxLen at hm; omega)⟩
    obtain ⟨b, off, spot⟩ := a
    have hs : spot = none := by have := World.cell?_spot (hall 0 h0).1; simpa [Addr.add] using this
    subst hs
    have hb : b < W.heap.size := by
      have := (hall 0 h0).1
      simp only [Nat.zero_mul, Addr.add, if_true] at this
      exact World.block_lt_of_cell? _ _ this
    refine ⟨b, off, rfl, hb, fun j hj => ?_⟩
    obtain ⟨c0, c1, c2, c3, s, k⟩ := hall j hj
    rw [addr_add'] at c0 c1 c2 c3
    rw [addr_add'] at c1 c2 c3
    exact ⟨c0, c1, c2, c3, s, k⟩
end
end Go.Proofs.Ytjodhfehfpmfaaa.Iv
