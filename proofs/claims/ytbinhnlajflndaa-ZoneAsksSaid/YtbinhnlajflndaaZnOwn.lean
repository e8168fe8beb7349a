/- Slices of shifts that a call makes: append behind them of a slice of shifts, nil, empty or not. -/
import Derived.Test.YtbinhnlajflndaaZnLaw0
import Derived.Laws.AppendOwnNone
import Derived.OwnWalk
set_option linter.unusedVariables false
namespace Go.Proofs.Ytbinhnlajflndaa.Zn
open Go.RowKit Cv St

theorem addr_add (b off n : Nat) : (⟨b, off, none⟩ : Addr).add n = ⟨b, off + n, none⟩ := by
  unfold Addr.add; split
  · rename_i h; rw [h]; rfl
  · rfl
def shCells : List Sh → List Value
  | [] => []
  | s :: l => .int .i64 s.t :: .int .i64 s.o :: shCells l
theorem shCells_len : ∀ l : List Sh, (shCells l).length = l.length * 2
  | [] => rfl
  | s :: l => by simp only [shCells, List.length_cons, shCells_len l]; omega
theorem shCells_app : ∀ l k : List Sh, shCells (l ++ k) = shCells l ++ shCells k
  | [], _ => rfl
  | s :: l, k => by simp only [List.cons_append, shCells, shCells_app l k]
theorem shCells_get : ∀ (l : List Sh) (j : Nat), j < l.length → (shCells l)[j * 2]? = some (.int .i64 (at_ l j).t) ∧ (shCells l)[j * 2 + 1]? = some (.int .i64 (at_ l j).o)
  | [], j, h => by simp at h
  | s :: l, 0, _ => ⟨rfl, rfl⟩
  | s :: l, j + 1, h => by
    have := shCells_get l j (by simpa using h)
    have e : at_ (s :: l) (j + 1) = at_ l j := by simp [at_]
    rw [e, show (j + 1) * 2 = j * 2 + 2 from by omega]
    exact this
theorem shCells_one (l : List Sh) : ∀ u ∈ shCells l, u.oneCell' = true := by
  induction l with
  | nil => intro u h; cases h
  | cons s l ih =>
    intro u h
    simp only [shCells, List.mem_cons] at h
    rcases h with rfl | rfl | h
    · rfl
    · rfl
    · exact ih u h
theorem shCells_at {l : List Sh} {j : Nat} {u : Value} (h : (shCells l)[j]? = some u) : ∃ i, i < l.length ∧ ((j = i * 2 ∧ u = .int .i64 (at_ l i).t) ∨ (j = i * 2 + 1 ∧ u = .int .i64 (at_ l i).o)) := by
  have hj : j < l.length * 2 := by rw [← shCells_len]; exact (List.getElem?_eq_some_iff.1 h).1
  have hi : j / 2 < l.length := by omega
  obtain ⟨a, b⟩ := shCells_get l (j / 2) hi
  refine ⟨j / 2, hi, ?_⟩
  by_cases e : j = j / 2 * 2
  · left; rw [e] at h; rw [← e] at h; refine ⟨e, ?_⟩; rw [← e] at a; rw [h] at a; exact Option.some.inj a
  · right
    have e' : j = j / 2 * 2 + 1 := by omega
    refine ⟨e', ?_⟩; rw [← e'] at b; rw [h] at b; exact Option.some.inj b
/-- v is a slice of the call's own that holds the shifts l -/
def OwnS (B : Nat) (w : World) (v : Value) (l : List Sh) : Prop := w.ownsRow B 29 2 v l.length (shCells l)
theorem OwnS.form {B : Nat} {w : World} {v : Value} {l : List Sh} (h : OwnS B w v l) : ∃ A c, v = .slice A l.length c ∧ ShAt w A l.length l ∧ (A = none → c = 0) := by
  rcases h.2 with ⟨rfl, e⟩ | ⟨g, cap, cur, rfl, hB, hg, hn, hm, hs, ht⟩
  · exact ⟨none, 0, by rw [e], ⟨rfl, fun h0 => by omega⟩, fun _ => rfl⟩
  · refine ⟨_, cap, rfl, ⟨rfl, fun h0 => ⟨g, 0, rfl, (Array.getElem?_eq_some_iff.1 hg).1, fun j hj => ?_⟩⟩, fun h => by cases h⟩
    obtain ⟨a, b⟩ := shCells_get l j hj
    have hc := World.ownsRow.cells h (g := g) rfl
    exact ⟨by have := hc _ _ a; rwa [addr_add] at this, by have := hc _ _ b; rwa [addr_add] at this⟩
theorem OwnS.shAt {B : Nat} {w : World} {A : Option Addr} {n c : Nat} {l : List Sh} (h : OwnS B w (.slice A n c) l) : ShAt w A n l ∧ n = l.length ∧ (A = none → c = 0) := by
  obtain ⟨A', c', e, h1, h2⟩ := h.form
  injection e with e1 e2 e3
  subst e1; subst e2; subst e3
  exact ⟨h1, rfl, h2⟩
theorem OwnS.far {B : Nat} {w : World} {v : Value} {l : List Sh} (h : OwnS B w v l) {g : Nat} {t : TypeId} {cs : Array Value} (hg : Blk w g t cs) (ht : t ≠ 29) : some g ≠ v.ownBlock := by
  rcases h.2 with ⟨rfl, _⟩ | ⟨g', cap, cur, rfl, _, hh, _⟩
  · simp [Value.ownBlock]
  · intro e
    have e' : g = g' := by simpa [Value.ownBlock] using e
    subst e'
    rw [show w.heap[g]? = _ from hg] at hh
    simp at hh
    exact ht hh.2
theorem OwnS.set_ {B : Nat} {w : World} {v : Value} {l : List Sh} (h : OwnS B w v l) {g : Nat} {t : TypeId} {cs : Array Value} (hg : Blk w g t cs) (ht : t ≠ 29) (i : Nat) (u : Value) : OwnS B (w.setCell ⟨g, i, none⟩ u) v l := by
  have hf := h.far hg ht
  refine ⟨h.1, ?_⟩
  rcases h.2 with h0 | ⟨g', cap, cur, rfl, hB, hh, hr⟩
  · exact .inl h0
  · refine .inr ⟨g', cap, cur, rfl, hB, (Below.heap_setCell w ⟨g, i, none⟩ u g' (fun e => hf ?_)).trans hh, hr⟩
    simp [Value.ownBlock, e]
theorem OwnS.nilLit {B : Nat} (w : World) (hB : B ≤ w.heap.size) : OwnS B (w.alloc (.cells #[] 29)) (.slice (some ⟨w.heap.size, 0, none⟩) 0 0) [] :=
  World.ownsRow_lit (base := B) (e := 29) (size := 2) w #[] 0 hB (by unfold maxLen; omega) rfl
theorem one_at (w : World) (s : Sh) : ShAt (w.alloc (.cells #[.int .i64 s.t, .int .i64 s.o] 29)) (some ⟨w.heap.size, 0, none⟩) 1 [s] := by
  have b := Blk.new w 29 #[.int .i64 s.t, .int .i64 s.o]
  refine ⟨rfl, fun _ => ⟨_, 0, rfl, by simp, fun j hj => ?_⟩⟩
  obtain rfl : j = 0 := by omega
  exact ⟨b.cell 0, b.cell 1⟩
theorem info_sh : (Try.prog.info? 29).map (fun i => (i.zero, i.size, i.bytes)) = some (some (.agg #[.int .i64 0, .int .i64 0]), 2, 16) := by kernel_rfl
/-- append of a slice of shifts, one that is nil too -/
theorem append_sh {ops : Array Oper} {rest : List Oper} {o : Oper} {a : Act} {Q : Exit → Act → World → Prop} {B : Nat} {w : World} (hgd : o.guard = none) (s x : Operand)
    (ho : o.op = .call { callee := .builtin .append, args := #[s, x], argTypes := #[22, 22] })
    (v : Value) (l : List Sh) (hs : a.eval s = v) (hown : OwnS B w v l) (hB : B ≤ w.heap.size) (A : Option Addr) (m c : Nat) (k : List Sh) (hx : a.eval x = .slice A m c) (hk : ShAt w A m k) (hcn : A = none → c = 0) (hl : l.length + m ≤ 1000000)
    (h : ∀ v' w', OwnS B w' v' (l ++ k) → Below B w w' → (∀ g t cs, Blk w g t cs → t ≠ 29 → Blk w' g t cs) → wpList Try.prog ops Q rest (a.put o.dst v') w') : wpList Try.prog ops Q (o :: rest) a w := by
  obtain ⟨i0, hi, hz0, hz1, hz2⟩ := info_parts info_sh
  obtain ⟨ek, hc⟩ := hk
  have fin : ∀ v' w', w'.ownsRow B 29 2 v' (l.length + m) (shCells l ++ shCells k) → w.grownBy w' v.ownBlock → wpList Try.prog ops Q rest (a.put o.dst v') w' := fun v' w' h1 hg => by
    refine h v' w' ?_ ((Below.refl B w).grown hg hB fun g hk => (World.ownsRow.lt hown g hk).1) fun g t cs hb ht => (hg.block g hb.lt (hown.far hb ht)).trans hb
    unfold OwnS
    rw [List.length_append, ← ek, shCells_app]; exact h1
  cases A with
  | none =>
    have hm : m = 0 := by
      by_cases h0 : 0 < m
      · obtain ⟨b, off, e, _⟩ := hc h0; cases e
      · omega
    have hc0 := hcn rfl
    subst hm; subst hc0
    have hk0 : k = [] := List.eq_nil_of_length_eq_zero ek.symm
    subst hk0
    refine wpList_append_own_none hgd s x 22 ho B 29 i0 2 Try.underlying22 hi v l.length (shCells l) hs hown hx ?_
    exact fin v w (by simpa [shCells, OwnS] using hown) (World.grownBy.refl _ _)
  | some ad =>
    refine wpList_append_own w hgd s x 22 ho B 29 i0 _ 2 16 Try.underlying22 hi hz0 hz1 hz2 rfl (by decide) v l.length (shCells l) hs hown ad m c (shCells k) hx (by rw [shCells_len, ek]) ?_ (shCells_one k) (by unfold maxLen; omega) (by omega) hB
      fun v' w' h1 hg _ => fin v' w' h1 hg
    intro j u hj
    obtain ⟨i, hi', hh⟩ := shCells_at hj
    obtain ⟨b, off, e, _, hcc⟩ := hc (by omega)
    cases e
    obtain ⟨c0, c1⟩ := hcc i (by omega)
    rcases hh with ⟨rfl, rfl⟩ | ⟨rfl, rfl⟩
    · rw [addr_add]; exact c0
    · rw [addr_add]; exact c1
end Go.Proofs.Ytbinhnlajflndaa.Zn
