/- The walk of voklaw13.FrameBack. -/
import Derived.Test.YtdaabjoiokgjlaaDoorFrLt
set_option linter.unusedVariables false
namespace Go.Proofs.YtdaabjoiokgjlaaDoor.Fr
open Go.RowKit

/-- those of the first t that are short enough -/
def keepS (S : List SlB) (t : Nat) : List SlB := (S.take t).filter fun s => decide (s.l.length ≤ 8192)
theorem keepS_yes {S : List SlB} {t : Nat} (h : t < S.length) (q : (gt S t).l.length ≤ 8192) : keepS S (t + 1) = keepS S t ++ [gt S t] := by
  unfold keepS
  rw [List.take_add_one, List.getElem?_eq_getElem h, Option.toList_some, List.filter_append, gt_lt h]
  rw [gt_lt h] at q
  simp [q]
theorem keepS_no {S : List SlB} {t : Nat} (h : t < S.length) (q : ¬ (gt S t).l.length ≤ 8192) : keepS S (t + 1) = keepS S t := by
  unfold keepS
  rw [List.take_add_one, List.getElem?_eq_getElem h, Option.toList_some, List.filter_append]
  rw [gt_lt h] at q
  simp [q]
theorem keepS_mem {S : List SlB} {t : Nat} {s : SlB} (h : s ∈ keepS S t) : s ∈ S ∧ s.l.length ≤ 8192 := by
  unfold keepS at h
  obtain ⟨h1, h2⟩ := List.mem_filter.1 h
  exact ⟨List.mem_of_mem_take h1, of_decide_eq_true h2⟩
theorem keepS_len (S : List SlB) (t : Nat) : (keepS S t).length ≤ t := by
  unfold keepS
  refine Nat.le_trans (List.length_filter_le _ _) ?_
  rw [List.length_take]; omega
theorem bytesS_app (A B : List SlB) : bytesS (A ++ B) = bytesS A ++ bytesS B := by unfold bytesS; rw [List.map_append]
theorem framesL_snoc (ps : List (List UInt8)) (p : List UInt8) : framesL (ps ++ [p]) = framesL ps ++ frameL p := by rw [framesL_app, framesL_one]
/-- no more than what was counted -/
theorem frames_len {S : List SlB} {n : Nat} (hn : n ≤ S.length) (hk : ∀ j, j < n → (gt S j).k = (gt S j).l.length) (hs : sumK S n ≤ 20000) : ∀ t, t ≤ n → (framesL (bytesS (keepS S t))).length ≤ 6 * t + sumK S t
  | 0, _ => by simp [keepS, bytesS, framesL]
  | t + 1, h => by
    have ih := frames_len hn hk hs t (by omega)
    have g := sumK_has S (j := t) (by omega : t < n) hs
    by_cases q : (gt S t).l.length ≤ 8192
    · rw [keepS_yes (by omega) q, bytesS_app, show bytesS [gt S t] = [(gt S t).l] from rfl, framesL_snoc, List.length_append, frameL_len, g.2]
      have := hk t (by omega)
      omega
    · rw [keepS_no (by omega) q, g.2]; omega
/-- where each record ends -/
def endsL (ps : List (List UInt8)) : List Int := (List.range ps.length).map fun j => ((framesL (ps.take (j + 1))).length : Int)
theorem endsL_len (ps : List (List UInt8)) : (endsL ps).length = ps.length := by unfold endsL; simp
theorem endsL_at {ps : List (List UInt8)} {j : Nat} (h : j < ps.length) : (endsL ps)[j]? = some ((framesL (ps.take (j + 1))).length : Int) := by
  unfold endsL; rw [List.getElem?_map, List.getElem?_range h]; rfl
theorem endsL_snoc (ps : List (List UInt8)) (p : List UInt8) : endsL (ps ++ [p]) = endsL ps ++ [((framesL (ps ++ [p])).length : Int)] := by
  refine List.ext_getElem? fun j => ?_
  by_cases h : j < ps.length
  · rw [endsL_at (by simp; omega), List.getElem?_append_left (by rw [endsL_len]; exact h), endsL_at h, List.take_append_of_le_length (by omega)]
  · by_cases h2 : j = ps.length
    · subst h2
      rw [endsL_at (by simp), List.getElem?_append_right (by rw [endsL_len]; exact Nat.le_refl _), endsL_len, Nat.sub_self, List.take_of_length_le (by simp)]
      rfl
    · rw [List.getElem?_eq_none (by rw [endsL_len]; simp; omega), List.getElem?_eq_none (by rw [List.length_append, endsL_len]; simp; omega)]
/-- an own slice of numbers -/
def RowI (B : Nat) (w : World) (v : Value) (l : List Int) : Prop := w.ownsRow B 3 1 v l.length (l.map (Value.int .i64))
theorem info_int : (Tryd.prog.info? 3).map (fun i => (i.zero, i.size, i.bytes)) = some (some (.int .i64 0), 1, 8) := by kernel_rfl
theorem append_int {ops : Array Oper} {rest : List Oper} {o : Oper} {a : Act} {Q : Exit → Act → World → Prop} {B : Nat} {w : World} (hgd : o.guard = none) (s x : Operand)
    (ho : o.op = .call { callee := .builtin .append, args := #[s, x], argTypes := #[40, 40] })
    (v : Value) (l : List Int) (hs : a.eval s = v) (hown : RowI B w v l) (hB : B ≤ w.heap.size) (n : Int) (T : TypeId) (c : Nat)
    (hx : a.eval x = .slice (some ⟨w.heap.size, 0, none⟩) 1 c) (hl : l.length ≤ 1000000)
    (h : ∀ v' w', RowI B w' v' (l ++ [n]) → (w.alloc (.cells #[.int .i64 n] T)).grownBy w' v.ownBlock → wpList Tryd.prog ops Q rest (a.put o.dst v') w') : wpList Tryd.prog ops Q (o :: rest) a (w.alloc (.cells #[.int .i64 n] T)) := by
  obtain ⟨i0, hi, hz0, hz1, hz2⟩ := info_parts info_int
  refine wpList_append_own _ hgd s x 40 ho B 3 i0 (.int .i64 0) 1 8 Tryd.underlying40 hi hz0 hz1 hz2 rfl (by decide) v l.length (l.map (Value.int .i64)) hs (World.ownsRow.alloc hown _)
    ⟨w.heap.size, 0, none⟩ 1 c [.int .i64 n] hx rfl ?_ (by intro u hu; obtain rfl : u = .int .i64 n := by simpa using hu
                                                           rfl) (by unfold maxLen; omega) (by omega) (by simp; omega) ?_
  · intro j u hj
    cases j with
    | zero => obtain rfl : Value.int .i64 n = u := by simpa using hj
              show (w.alloc (.cells #[.int .i64 n] T)).cell? ⟨w.heap.size, 0, none⟩ = _
              rw [World.cell?_alloc_new]; rfl
    | succ j => simp at hj
  · intro v' w' hown' hg _
    refine h v' w' ?_ hg
    unfold RowI
    rw [List.length_append, List.map_append]
    exact hown'
theorem RowV.at_ {B : Nat} {w : World} {v : Value} {R : List SlB} (h : RowV B w v R) (each : ∀ s ∈ R, BsAt w s.A s.k s.l ∧ s.k ≤ s.c ∧ (s.A = none → s.c = 0)) : ∃ A c, v = .slice A R.length c ∧ LsAt w A R.length R ∧ R.length ≤ c ∧ c ≤ 9223372036854775807 := by
  have hb := fun g => World.ownsRow.lt h g
  have cc := fun g (e : v.ownBlock = some g) => World.ownsRow.cells h (g := g) e
  rcases h.2 with ⟨rfl, e⟩ | ⟨g, cap, cur, rfl, hB, hg, hn, hm, hs, ht⟩
  · obtain rfl : R = [] := List.eq_nil_of_length_eq_zero e
    exact ⟨none, 0, rfl, LsAt.nil _ _, Nat.le_refl _, by omega⟩
  · refine ⟨some ⟨g, 0, none⟩, cap, rfl, ⟨rfl, fun h0 => ⟨g, 0, rfl, (hb g rfl).2, fun j hj => ?_⟩⟩, hn, by unfold maxLen at hm; omega⟩
    have c0 := cc g rfl j (gt R j).val (by rw [List.getElem?_map, List.getElem?_eq_getElem hj, gt_lt hj]; rfl)
    rw [addr_off] at c0
    exact ⟨c0, each _ (gt_mem hj)⟩
theorem RowI.at_ {B : Nat} {w : World} {v : Value} {l : List Int} (h : RowI B w v l) : ∃ A c, v = .slice A l.length c ∧ ∀ j n, l[j]? = some n → ∃ g, A = some ⟨g, 0, none⟩ ∧ g < w.heap.size ∧ w.cell? ⟨g, j, none⟩ = some (.int .i64 n) := by
  have hb := fun g => World.ownsRow.lt h g
  have cc := fun g (e : v.ownBlock = some g) => World.ownsRow.cells h (g := g) e
  rcases h.2 with ⟨rfl, e⟩ | ⟨g, cap, cur, rfl, hB, hg, hn, hm, hs, ht⟩
  · obtain rfl : l = [] := List.eq_nil_of_length_eq_zero e
    exact ⟨none, 0, rfl, fun j n q => by simp at q⟩
  · refine ⟨some ⟨g, 0, none⟩, cap, rfl, fun j n q => ⟨g, rfl, (hb g rfl).2, ?_⟩⟩
    have c0 := cc g rfl j (.int .i64 n) (by rw [List.getElem?_map, q]; rfl)
    rwa [addr_off, Nat.zero_add] at c0
theorem LsAt.take {W : World} {A : Option Addr} {n : Nat} {S : List SlB} (h : LsAt W A n S) {k : Nat} (hk : k ≤ n) : LsAt W A k (S.take k) := by
  refine ⟨by rw [List.length_take, ← h.1]; omega, fun h0 => ?_⟩
  obtain ⟨b, off, e, hlt, hc⟩ := h.2 (by omega)
  refine ⟨b, off, e, hlt, fun j hj => ?_⟩
  have : gt (S.take k) j = gt S j := by unfold gt; rw [List.getElem?_take, if_pos hj]
  rw [this]
  exact hc j (by omega)
theorem bytesS_take (S : List SlB) (k : Nat) : bytesS (S.take k) = (bytesS S).take k := by unfold bytesS; rw [List.map_take]
/-- behind t of the lists -/
structure BackI (W : World) (S : List SlB) (t : Nat) (wr : World) (vb vi ve : Value) : Prop where
  b : OwnB W.heap.size wr vb (framesL (bytesS (keepS S t)))
  i : RowV W.heap.size wr vi (keepS S t)
  e : RowI W.heap.size wr ve (endsL (bytesS (keepS S t)))
  o : Own W wr
theorem BackI.start {W w : World} (S : List SlB) (h : Own W w) : BackI W S 0 w (.slice none 0 0) (.slice none 0 0) (.slice none 0 0) :=
  ⟨OwnB.nil _ _, World.ownsRow_nil _ _ _ _, World.ownsRow_nil _ _ _ _, h⟩
theorem BackI.on {W w w' : World} {S : List SlB} {t : Nat} {vb vi ve : Value} (h : BackI W S t w vb vi ve) (b : Below w.heap.size w w') : BackI W S t w' vb vi ve :=
  ⟨h.b.on b, row_on h.i b, row_on h.e b, h.o.on b⟩
end Go.Proofs.YtdaabjoiokgjlaaDoor.Fr
