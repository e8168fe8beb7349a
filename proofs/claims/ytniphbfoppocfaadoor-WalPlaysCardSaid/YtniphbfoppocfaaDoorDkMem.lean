/- Memory of package disk's walks: a disk as a block of three cells and a slice of bytes of its own; what is kept where its blocks alone are written. -/
import Derived.Test.YtniphbfoppocfaaDoorFrMem
import Derived.Maps.AppendAt
set_option linter.unusedVariables false
namespace Go.Proofs.YtniphbfoppocfaaDoor.Dk
open Go.RowKit Fr

/-- outside the blocks F nothing has turned -/
structure Kp (F : Nat → Prop) (w w' : World) : Prop where
  os : w'.os = w.os
  tape : w'.tape = w.tape
  output : w'.output = w.output
  size : w.heap.size ≤ w'.heap.size
  block : ∀ k, k < w.heap.size → ¬ F k → w'.heap[k]? = w.heap[k]?
theorem Kp.refl (F : Nat → Prop) (w : World) : Kp F w w := ⟨rfl, rfl, rfl, Nat.le_refl _, fun _ _ _ => rfl⟩
theorem Kp.trans {F : Nat → Prop} {a b c : World} (h : Kp F a b) (k : Kp F b c) : Kp F a c :=
  ⟨k.os.trans h.os, k.tape.trans h.tape, k.output.trans h.output, Nat.le_trans h.size k.size, fun i hi hf => (k.block i (Nat.lt_of_lt_of_le hi h.size) hf).trans (h.block i hi hf)⟩
theorem Kp.mono {F G : Nat → Prop} {w w' : World} (h : Kp F w w') (hg : ∀ k, k < w.heap.size → F k → G k) : Kp G w w' := ⟨h.os, h.tape, h.output, h.size, fun k hk hf => h.block k hk fun q => hf (hg k hk q)⟩
theorem Kp.of {F : Nat → Prop} {w w' : World} (h : Below w.heap.size w w') : Kp F w w' := ⟨h.os, h.tape, h.output, h.size, fun k hk _ => h.block k hk⟩
theorem Kp.below {F : Nat → Prop} {B : Nat} {w w' : World} (h : Kp F w w') (hB : B ≤ w.heap.size) (hF : ∀ k, F k → B ≤ k) : Below B w w' :=
  ⟨h.os, h.tape, h.output, h.size, fun k hk => h.block k (by omega) fun q => by have := hF k q; omega⟩
theorem Kp.grown {F : Nat → Prop} {w w' : World} {row : Option Nat} (hg : w.grownBy w' row) (hr : ∀ k, row = some k → F k) : Kp F w w' :=
  ⟨hg.os, hg.tape, hg.output, hg.size, fun k hk hf => hg.block k hk fun e => hf (hr k e.symm)⟩
theorem Kp.setCell {F : Nat → Prop} (w : World) (p : Addr) (hp : F p.block) (u : Value) : Kp F w (w.setCell p u) :=
  ⟨rfl, rfl, rfl, by simp [World.setCell], fun k hk hf => Below.heap_setCell _ _ _ _ (fun e => hf (e ▸ hp))⟩
/-- bytes that are read lie apart from F -/
theorem bs_kp {F : Nat → Prop} {W w : World} {A : Option Addr} {n : Nat} {l : List UInt8} (h : BsAt W A n l) (k : Kp F W w) (ho : 0 < n → ∀ a, A = some a → ¬ F a.block) : BsAt w A n l :=
  ⟨h.1, fun h0 => by
    obtain ⟨b, off, e, hlt, hc⟩ := h.2 h0
    have hf := ho h0 _ e
    exact ⟨b, off, e, Nat.lt_of_lt_of_le hlt k.size, fun j hj => (World.cell?_of_block (w := W) (k.block b hlt hf)).trans (hc j hj)⟩⟩
theorem own_kp {F : Nat → Prop} {B : Nat} {w w' : World} {v : Value} {l : List UInt8} (h : OwnB B w v l) (k : Kp F w w') (ho : ∀ g, v.ownBlock = some g → ¬ F g) : OwnB B w' v l := by
  refine ⟨h.1, ?_⟩
  rcases h.2 with q | ⟨g, cap, cur, rfl, hb, hg, rest⟩
  · exact .inl q
  · exact .inr ⟨g, cap, cur, rfl, hb, (k.block g (World.ownsRow.lt h g rfl).2 (ho g rfl)).trans hg, rest⟩
/-- the cells of a disk: the program's and the document's have them in another order -/
def cl (T : TypeId) (R Y : Int) (v : Value) : Array Value := if T = 62 then #[v, .int .i64 Y, .int .i64 R] else #[.int .i64 R, .int .i64 Y, v]
theorem cl_p (R Y : Int) (v : Value) : cl 62 R Y v = #[v, .int .i64 Y, .int .i64 R] := rfl
theorem cl_r (R Y : Int) (v : Value) : cl 32 R Y v = #[.int .i64 R, .int .i64 Y, v] := rfl
/-- the disk at p: its room, how much is synced, its bytes in the slice v -/
structure DkV (T : TypeId) (w : World) (p : Nat) (R Y : Int) (l : List UInt8) (v : Value) : Prop where
  blk : w.heap[p]? = some (.cells (cl T R Y v) T)
  own : OwnB 0 w v l
/-- its blocks -/
def Ft (p : Nat) (v : Value) (k : Nat) : Prop := k = p ∨ v.ownBlock = some k
section
variable {T : TypeId} {w w' : World} {p : Nat} {R Y : Int} {l : List UInt8} {v : Value}
theorem DkV.lt (h : DkV T w p R Y l v) : p < w.heap.size := (Array.getElem?_eq_some_iff.1 h.blk).1
theorem DkV.fz (h : DkV T w p R Y l v) (i : Nat) : w.frozen? ⟨p, i, none⟩ = false := by simp [World.frozen?, h.blk]
theorem DkV.kp {F : Nat → Prop} (h : DkV T w p R Y l v) (k : Kp F w w') (ho : ∀ g, Ft p v g → ¬ F g) : DkV T w' p R Y l v :=
  ⟨(k.block p h.lt (ho p (.inl rfl))).trans h.blk, own_kp h.own k fun g e => ho g (.inr e)⟩
theorem DkV.below (h : DkV T w p R Y l v) (b : Below w.heap.size w w') : DkV T w' p R Y l v := ⟨(b.block p h.lt).trans h.blk, h.own.on b⟩
/-- a slice of bytes of the call's own lies in no disk's block -/
theorem DkV.free (h : DkV T w p R Y l v) (hT : T ≠ 5) {B : Nat} {u : Value} {m : List UInt8} (o : OwnB B w u m) : ∀ g, u.ownBlock = some g → ¬ p = g := by
  rcases o.2 with ⟨rfl, -⟩ | ⟨g, cap, cur, rfl, -, hg, -⟩
  · intro g hg; simp [Value.ownBlock] at hg
  · intro g' e' q
    injection e' with e'
    subst e' q
    rw [h.blk] at hg
    injection hg with hg
    injection hg with h1 h2 h3
    exact hT h2
/-- a slice of bytes lies in no block of another kind -/
theorem free_u {T : TypeId} {w : World} {p : Nat} {c : Array Value} (h : w.heap[p]? = some (.cells c T)) (hT : T ≠ 5) {B : Nat} {u : Value} {m : List UInt8} (o : OwnB B w u m) : ∀ g, u.ownBlock = some g → ¬ p = g := by
  rcases o.2 with ⟨rfl, -⟩ | ⟨g, cap, cur, rfl, -, hg, -⟩
  · intro g hg; simp [Value.ownBlock] at hg
  · intro g' e' q
    injection e' with e'
    subst e' q
    rw [h] at hg
    injection hg with hg
    injection hg with h1 h2 h3
    exact hT h2
/-- a cell of the disk's block is read, is written: the document's -/
theorem DkV.c0 (h : DkV 32 w p R Y l v) : w.cell? ⟨p, 0, none⟩ = some (.int .i64 R) := by rw [cell_of_row w p 0 _ _ _ h.blk]; rfl
theorem DkV.c1 (h : DkV 32 w p R Y l v) : w.cell? ⟨p, 1, none⟩ = some (.int .i64 Y) := by rw [cell_of_row w p 1 _ _ _ h.blk]; rfl
theorem DkV.c2 (h : DkV 32 w p R Y l v) : w.cell? ⟨p, 2, none⟩ = some v := by rw [cell_of_row w p 2 _ _ _ h.blk]; rfl
theorem DkV.set0 (h : DkV 32 w p R Y l v) (x : Int) : DkV 32 (w.setCell ⟨p, 0, none⟩ (.int .i64 x)) p x Y l v := by
  refine ⟨?_, own_kp h.own (Kp.setCell (F := (· = p)) w ⟨p, 0, none⟩ rfl _) fun g e q => h.free (by decide) h.own g e q.symm⟩
  have := heap_setCell_same w p 0 _ _ (.int .i64 x) h.blk
  simpa [cl_p, cl_r] using this
theorem DkV.set1 (h : DkV 32 w p R Y l v) (x : Int) : DkV 32 (w.setCell ⟨p, 1, none⟩ (.int .i64 x)) p R x l v := by
  refine ⟨?_, own_kp h.own (Kp.setCell (F := (· = p)) w ⟨p, 1, none⟩ rfl _) fun g e q => h.free (by decide) h.own g e q.symm⟩
  have := heap_setCell_same w p 1 _ _ (.int .i64 x) h.blk
  simpa [cl_p, cl_r] using this
theorem DkV.set2 (h : w.heap[p]? = some (.cells (cl 32 R Y v) 32)) {u : Value} {m : List UInt8} (o : OwnB 0 w u m) : DkV 32 (w.setCell ⟨p, 2, none⟩ u) p R Y m u := by
  refine ⟨?_, own_kp o (Kp.setCell (F := (· = p)) w ⟨p, 2, none⟩ rfl _) fun g e q => free_u h (by decide) o g e q.symm⟩
  have := heap_setCell_same w p 2 _ _ u h
  simpa [cl_p, cl_r] using this
/-- .. the program's -/
theorem DkV.c0D (h : DkV 62 w p R Y l v) : w.cell? ⟨p, 2, none⟩ = some (.int .i64 R) := by rw [cell_of_row w p 2 _ _ _ h.blk]; rfl
theorem DkV.c1D (h : DkV 62 w p R Y l v) : w.cell? ⟨p, 1, none⟩ = some (.int .i64 Y) := by rw [cell_of_row w p 1 _ _ _ h.blk]; rfl
theorem DkV.c2D (h : DkV 62 w p R Y l v) : w.cell? ⟨p, 0, none⟩ = some v := by rw [cell_of_row w p 0 _ _ _ h.blk]; rfl
theorem DkV.set0D (h : DkV 62 w p R Y l v) (x : Int) : DkV 62 (w.setCell ⟨p, 2, none⟩ (.int .i64 x)) p x Y l v := by
  refine ⟨?_, own_kp h.own (Kp.setCell (F := (· = p)) w ⟨p, 2, none⟩ rfl _) fun g e q => h.free (by decide) h.own g e q.symm⟩
  have := heap_setCell_same w p 2 _ _ (.int .i64 x) h.blk
  simpa [cl_p, cl_r] using this
theorem DkV.set1D (h : DkV 62 w p R Y l v) (x : Int) : DkV 62 (w.setCell ⟨p, 1, none⟩ (.int .i64 x)) p R x l v := by
  refine ⟨?_, own_kp h.own (Kp.setCell (F := (· = p)) w ⟨p, 1, none⟩ rfl _) fun g e q => h.free (by decide) h.own g e q.symm⟩
  have := heap_setCell_same w p 1 _ _ (.int .i64 x) h.blk
  simpa [cl_p, cl_r] using this
theorem DkV.set2D (h : w.heap[p]? = some (.cells (cl 62 R Y v) 62)) {u : Value} {m : List UInt8} (o : OwnB 0 w u m) : DkV 62 (w.setCell ⟨p, 0, none⟩ u) p R Y m u := by
  refine ⟨?_, own_kp o (Kp.setCell (F := (· = p)) w ⟨p, 0, none⟩ rfl _) fun g e q => free_u h (by decide) o g e q.symm⟩
  have := heap_setCell_same w p 0 _ _ u h
  simpa [cl_p, cl_r] using this
end
/-- a slice of the call's own, cut off -/
theorem own_cut {B : Nat} {w : World} {g n c : Nat} {l : List UInt8} (h : OwnB B w (.slice (some ⟨g, 0, none⟩) n c) l) {k : Nat} (hk : k ≤ l.length) : OwnB B w (.slice (some ⟨g, 0, none⟩) k c) (l.take k) := by
  have hl : (l.take k).length = k := by rw [List.length_take]; omega
  unfold OwnB at *
  rw [hl]
  refine ⟨by rw [byteCells_len, hl]; omega, ?_⟩
  rcases h.2 with ⟨q, -⟩ | ⟨g', cap, cur, e, hb, hg, hn, hm, hs, ht⟩
  · cases q
  · injection e with e1 e2 e3
    injection e1 with e1
    injection e1 with e1
    subst e1; subst e3
    refine .inr ⟨g, c, cur, rfl, hb, hg, by omega, hm, hs, ?_⟩
    have : Lib.byteCells (l.take k) = (Lib.byteCells l).take k := by unfold Lib.byteCells; rw [List.map_take]
    rw [this, ← ht, List.take_take]
    congr 1; omega
/-- append to a slice of the call's own, and where the new one lies -/
theorem append_at {ops : Array Oper} {rest : List Oper} {o : Oper} {a : Act} {Q : Exit → Act → World → Prop} {B : Nat} {w : World} (hgd : o.guard = none) (s x : Operand)
    (ho : o.op = .call { callee := .builtin .append, args := #[s, x], argTypes := #[22, 22] })
    (v : Value) (l : List UInt8) (hs : a.eval s = v) (hown : OwnB B w v l) (hB : B ≤ w.heap.size) (A : Option Addr) (m c : Nat) (k : List UInt8) (hx : a.eval x = .slice A m c) (hk : BsAt w A m k) (hc : A = none → c = 0) (hl : l.length + m ≤ 1000000)
    (h : ∀ v' w', OwnB B w' v' (l ++ k) → w.grownBy w' v.ownBlock → (v'.ownBlock = v.ownBlock ∨ v'.ownBlock = some w.heap.size) → wpList Tryd.prog ops Q rest (a.put o.dst v') w') : wpList Tryd.prog ops Q (o :: rest) a w := by
  obtain ⟨i0, hi, hz0, hz1, hz2⟩ := info_parts info_u8
  obtain ⟨ek, hc2⟩ := hk
  cases A with
  | none =>
    obtain rfl := hc rfl
    have hm : m = 0 := by
      by_cases h0 : 0 < m
      · obtain ⟨b, off, e, _⟩ := hc2 h0; cases e
      · omega
    subst hm
    have e : k = [] := List.length_eq_zero_iff.1 ek.symm
    subst e
    exact wpList_append_own_none hgd s x 22 ho B 5 i0 1 Tryd.underlying22 hi v l.length (Lib.byteCells l) hs hown hx (h v w (by rw [List.append_nil]; exact hown) ⟨rfl, rfl, rfl, Nat.le_refl _, fun _ _ _ => rfl⟩ (.inl rfl))
  | some ad =>
    refine wpList_plain hgd fun K hK => ?_
    obtain ⟨v', w', hr, h2, h3, h4, h5⟩ := run_append_own_at (P := Tryd.prog) w B 22 o.type 5 i0 (.int .u8 0) 1 1 Tryd.underlying22 hi hz0 hz1 hz2 rfl (by decide) v l.length (Lib.byteCells l) hown
      ad m c (Lib.byteCells k) (by simp [Lib.byteCells, ek]) (fun j u hj => by
        have hjk : j < k.length := by
          rcases Nat.lt_or_ge j k.length with g | g
          · exact g
          · rw [List.getElem?_eq_none (by simpa [Lib.byteCells] using g)] at hj; cases hj
        obtain ⟨b, off, e, hlt, hcc⟩ := hc2 (by omega)
        injection e with e
        subst e
        rw [addr_off, hcc j (by omega), ← byteCells_at k j hjk, hj]) (byteCells_one k) (by unfold maxLen; omega) (by omega) hB
    unfold Oper.wp execOp
    simp only [ho, resolve, invoke, builtin, Sem.run_bind, Sem.run_pure, Result.andThen_ok, List.map_toArray, List.map_cons, List.map_nil, hs, hx, hr]
    refine hK _ _ (h v' w' ?_ h3 h5)
    unfold OwnB
    rw [List.length_append, byteCells_append, ← ek]
    exact h2
end Go.Proofs.YtniphbfoppocfaaDoor.Dk
