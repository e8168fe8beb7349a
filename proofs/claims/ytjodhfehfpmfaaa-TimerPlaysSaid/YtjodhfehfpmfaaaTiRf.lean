/- The reference's queue (vokref10.Queue): Next, Push, Pop, Drop. -/
import Derived.Test.YtjodhfehfpmfaaaTiPu
import Derived.BigQuiet
set_option linter.unusedVariables false
namespace Go.Proofs.Ytjodhfehfpmfaaa.Ti
open Go.RowKit Iv

/-- the reference's queue at block r: its items as they lie; its blocks are of G -/
structure RQF (G : Nat → Prop) (w : World) (r : Nat) (L : List It) (A : Option Addr) (c : Nat) : Prop where
  box : RowIs w r 65 1 1 [.slice A L.length c]
  foot : G r
  rows : RowF G w 73 2 A L.length c (cellsL Iv.encS L)
def RQ (G : Nat → Prop) (w : World) (r : Nat) (L : List It) : Prop := ∃ A c, RQF G w r L A c
section
variable {F G : Nat → Prop} {w w' : World} {r : Nat} {L : List It} {A : Option Addr} {c : Nat}
theorem RQF.c0 (H : RQF G w r L A c) : w.cell? ⟨r, 0, none⟩ = some (.slice A L.length c) := H.box.cell rfl
theorem RQF.on (H : RQF G w r L A c) (hk : Kp F w w') (hg : ∀ k, G k → k < w.heap.size → ¬ F k) : RQF G w' r L A c := ⟨H.box.kp hk (hg r H.foot H.box.lt), H.foot, H.rows.on hk hg⟩
theorem RQ.on (H : RQ G w r L) (hk : Kp F w w') (hg : ∀ k, G k → k < w.heap.size → ¬ F k) : RQ G w' r L := by
  obtain ⟨A, c, H⟩ := H
  exact ⟨A, c, H.on hk hg⟩
theorem RQ.below (H : RQ G w r L) (hb : Below w.heap.size w w') : RQ G w' r L := H.on (Kp.of' hb) fun _ _ _ p => p
theorem RQ.mono (H : RQ G w r L) (hg : ∀ k, G k → k < w.heap.size → F k) : RQ F w r L := by
  obtain ⟨A, c, H⟩ := H
  exact ⟨A, c, H.box, hg r H.foot H.box.lt, H.rows.mono hg⟩
theorem RQF.has (H : RQF G w r L A c) (h0 : 0 < L.length) : ∃ g, A = some ⟨g, 0, none⟩ ∧ G g ∧ RowIs w g 73 2 c (cellsL Iv.encS L) ∧ r ≠ g := by
  rcases H.rows.2.2 with ⟨-, e⟩ | ⟨g, e, f, q⟩
  · have := H.rows.2.1; omega
  · exact ⟨g, e, f, q, H.box.ne q (by decide)⟩
end
theorem itr_cell {w : World} {g cap : Nat} {e : TypeId} {h : List It} (r : RowIs w g e 2 cap (cellsL Iv.encS h)) {j : Nat} (hj : j < h.length) : w.cell? ⟨g, j * 2, none⟩ = some (.int .i64 (gt h j).1) ∧ w.cell? ⟨g, j * 2 + 1, none⟩ = some (.int .i64 (gt h j).2) :=
  ⟨r.cell (cells_get (enc := Iv.encS) (k := 2) (fun _ => rfl) h j 0 hj (by omega)), r.cell (cells_get (enc := Iv.encS) (k := 2) (fun _ => rfl) h j 1 hj (by omega))⟩
set_option maxRecDepth 100000 in
set_option maxHeartbeats 4000000 in
theorem rnext_is {G : Nat → Prop} (w : World) (r : Nat) (L : List It) (H : RQ G w r L) : Calls Try.prog 77 #[.pointer (some ⟨r, 0, none⟩)] w fun e w' => e = .returned (headV L) ∧ Below w.heap.size w w' := by
  obtain ⟨A, c, H⟩ := H
  have c0 := H.c0
  have ql := H.box.lt
  have ne : ¬ w.heap.size = r := by omega
  cases L with
  | nil =>
    simp only [List.length_nil] at c0
    clear H
    go_enter Try.func77, Try.ntmps77
    go_wp2
    refine bodyPost_ret (v := headV []) (by simp [results, Try.results77, go_sem, headV]) rfl ⟨rfl, ?_⟩
    first | exact below_alloc w _ | exact ((below_alloc w _).setCell (Nat.le_refl _) _).setCell (Nat.le_refl _) _
  | cons a L =>
    obtain ⟨g, rfl, fg, q, qg⟩ := H.has (by simp)
    obtain ⟨d0, d1⟩ := itr_cell q (j := 0) (by simp)
    rw [show gt (a :: L) 0 = a from rfl] at d0 d1
    have gl := q.lt
    have ng : ¬ w.heap.size = g := by omega
    simp only [List.length_cons] at c0
    have z1 : ((((L.length + 1 : Nat) : Int)) == 0) = false := beq_eq_false_iff_ne.2 (by omega)
    have z2 : 0 < L.length + 1 := by omega
    clear H q
    simp only [Nat.zero_mul, Nat.zero_add] at d0 d1
    generalize L.length + 1 = n at *
    have z3 : (0 : Int) < (n : Int) := by omega
    go_enter Try.func77, Try.ntmps77
    go_wp2
    refine bodyPost_ret (v := headV (a :: L)) (by simp [results, Try.results77, go_sem, headV]) rfl ⟨rfl, ?_⟩
    first | exact below_alloc w _ | exact ((below_alloc w _).setCell (Nat.le_refl _) _).setCell (Nat.le_refl _) _
theorem info_ri : (Try.prog.info? 73).map (fun i => (i.zero, i.size, i.bytes)) = some (some (.agg #[.int .i64 0, .int .i64 0]), 2, 16) := by kernel_rfl
/-- an own slice of the reference's items -/
def OwnI2 (B : Nat) (w : World) (v : Value) (l : List It) : Prop := w.ownsRow B 73 2 v l.length (cellsL Iv.encS l)
theorem OwnI2.form {B : Nat} {w : World} {v : Value} {l : List It} (h : OwnI2 B w v l) : ∃ A c, v = .slice A l.length c ∧ l.length ≤ c ∧ ((A = none ∧ c = 0) ∨ ∃ g, A = some ⟨g, 0, none⟩ ∧ B ≤ g ∧ RowIs w g 73 2 c (cellsL Iv.encS l)) := by
  rcases h.2 with ⟨rfl, h0⟩ | ⟨g, cap, cur, rfl, hb, hg, hnc, hcm, -⟩
  · have e : l = [] := List.length_eq_zero_iff.1 h0
    subst e
    exact ⟨none, 0, rfl, Nat.le_refl _, .inl ⟨rfl, rfl⟩⟩
  · obtain ⟨r, -, -, -⟩ := row_of h
    exact ⟨some ⟨g, 0, none⟩, cap, rfl, hnc, .inr ⟨g, rfl, hb, r⟩⟩
/-- the store of an own slice into the queue's box -/
theorem rq_store {G : Nat → Prop} {w w3 : World} {r : Nat} {L L' : List It} {A : Option Addr} {c : Nat} (H : RQF G w r L A c) (hG : ∀ k, w.heap.size ≤ k → G k) (hb : Below w.heap.size w w3) {A' : Option Addr} {c' : Nat} (ho : OwnI2 w.heap.size w3 (.slice A' L'.length c') L') :
    (w3.cell? ⟨r, 0, none⟩ = some (.slice A L.length c) ∧ w3.frozen? ⟨r, 0, none⟩ = false) ∧ Hid (RQ G (w3.setCell ⟨r, 0, none⟩ (.slice A' L'.length c')) r L' ∧ Kp (· = r) w (w3.setCell ⟨r, 0, none⟩ (.slice A' L'.length c'))) := by
  have bx := H.box.below hb
  obtain ⟨box3, k3⟩ := bx.setCell 0 (by simp) (.slice A' L'.length c')
  obtain ⟨A2, c2, e, hl, hf⟩ := ho.form
  injection e with e1 e2 e3
  subst e1 e3
  have rl := H.box.lt
  refine ⟨⟨bx.cell rfl, bx.frozen 0⟩, Lib.hid ⟨⟨A', c', box3, H.foot, by rw [cells_len (k := 2) (fun _ => rfl)], hl, ?_⟩, (Kp.of hb).trans k3⟩⟩
  rcases hf with q | ⟨g, e, hg, q⟩
  · exact .inl q
  · exact .inr ⟨g, e, hG g hg, q.kp k3 (fun h => by omega)⟩
/-- append to it of what lies somewhere: at an operation -/
theorem wp_app {o : Oper} {a : Act} {K : Act → World → Prop} {Q : Exit → Act → World → Prop} {B : Nat} {w : World} (s x : Operand)
    (ho : o.op = .call { callee := .builtin .append, args := #[s, x], argTypes := #[63, 63] })
    (v : Value) (l : List It) (hs : a.eval s = v) (hown : OwnI2 B w v l) (hB : B ≤ w.heap.size) (ad : Addr) (m c : Nat) (l2 : List It) (hx : a.eval x = .slice (some ad) m c) (hm : m = l2.length) (hc : ∀ j u, (cellsL Iv.encS l2)[j]? = some u → w.cell? (ad.add j) = some u) (hl : l.length + m ≤ 1000000)
    (h : ∀ v' w', OwnI2 B w' v' (l ++ l2) → Kp (fun k => v.ownBlock = some k) w w' → K (a.put o.dst v') w') : Oper.wp Try.prog o a w K Q := by
  obtain ⟨i0, hi, hz0, hz1, hz2⟩ := info_parts info_ri
  subst hm
  refine wp_append_own _ s x 63 ho B 73 i0 _ 2 16 Try.underlying63 hi hz0 hz1 hz2 rfl (by decide) v l.length (cellsL Iv.encS l) hs hown ad l2.length c (cellsL Iv.encS l2) hx (by rw [cells_len (k := 2) (fun _ => rfl)]) hc (cells_one encS_one l2) (by unfold maxLen; omega) (by omega) hB ?_
  intro v' w' ho' hg _
  refine h v' w' ?_ (Kp.grown hg fun k hk => hk)
  unfold OwnI2
  rw [List.length_append, cells_app]
  exact ho'
theorem OwnI2.kp {F : Nat → Prop} {B : Nat} {w w' : World} {v : Value} {l : List It} (h : OwnI2 B w v l) (k : Kp F w w') (hf : ∀ g, v.ownBlock = some g → ¬ F g) : OwnI2 B w' v l := by
  refine ⟨h.1, ?_⟩
  rcases h.2 with q | ⟨g, cap, cur, rfl, hb, hg, rest⟩
  · exact .inl q
  · have lt : g < w.heap.size := (World.ownsRow.lt h g rfl).2
    exact .inr ⟨g, cap, cur, rfl, hb, (k.block g lt (hf g rfl)).trans hg, rest⟩
theorem OwnI2.below {B : Nat} {w w' : World} {v : Value} {l : List It} (h : OwnI2 B w v l) (k : Below w.heap.size w w') : OwnI2 B w' v l := h.kp (Kp.of' k) fun _ _ => id
theorem own_emptyR (w : World) (B : Nat) (hB : B ≤ w.heap.size) : OwnI2 B (w.alloc (.cells #[] 73)) (.slice (some ⟨w.heap.size, 0, none⟩) 0 0) [] :=
  own_of (n := 0) (new_row w 73 2 0 0 #[] #[] rfl (by unfold maxLen; decide)) rfl (Nat.le_refl _) hB
theorem cells_at {w : World} {g cap : Nat} {e : TypeId} {L : List It} (r : RowIs w g e 2 cap (cellsL Iv.encS L)) (k : Nat) (hk : k ≤ L.length) (m : Nat) : ∀ j u, (cellsL Iv.encS ((L.drop k).take m))[j]? = some u → w.cell? ((⟨g, k * 2, none⟩ : Addr).add j) = some u := by
  intro j u hj
  rw [addr_off]
  refine r.cell ?_
  have e1 : cellsL Iv.encS L = cellsL Iv.encS (L.take k) ++ (cellsL Iv.encS ((L.drop k).take m) ++ cellsL Iv.encS ((L.drop k).drop m)) := by
    rw [← cells_app, ← cells_app, List.take_append_drop, List.take_append_drop]
  have jl := (List.getElem?_eq_some_iff.1 hj).1
  have tl : (cellsL Iv.encS (L.take k)).length = k * 2 := by rw [cells_len (k := 2) (fun _ => rfl), List.length_take, Nat.min_eq_left hk]
  rw [e1, List.getElem?_append_right (by omega), tl, show k * 2 + j - k * 2 = j by omega, List.getElem?_append_left jl, hj]
end Go.Proofs.Ytjodhfehfpmfaaa.Ti
