/- The reference's box (vokref10.Box): Put, Take. -/
import Derived.Test.YthonmfoajjhkdaaBxCo
import Derived.BigQuiet
set_option linter.unusedVariables false
namespace Go.Proofs.Ythonmfoajjhkdaa.Bx
open Go.RowKit Iv

/-- the reference's box at r, of size n, holds L in a slice made since W -/
structure RefV (W w : World) (r n : Nat) (L : List Int) (v : Value) : Prop where
  blk : w.heap[r]? = some (.cells #[.int .i64 n, v] 31)
  own : OwnN W.heap.size w v L
  rs : W.heap.size ≤ r
def Ref (W w : World) (r n : Nat) (L : List Int) : Prop := ∃ v, RefV W w r n L v
section
variable {W w w' : World} {r n : Nat} {L : List Int} {v : Value}
theorem RefV.lt (h : RefV W w r n L v) : r < w.heap.size := (Array.getElem?_eq_some_iff.1 h.blk).1
theorem RefV.c0 (h : RefV W w r n L v) : w.cell? ⟨r, 0, none⟩ = some (.int .i64 n) := by rw [cell_of_row w r 0 _ _ _ h.blk]; rfl
theorem RefV.c1 (h : RefV W w r n L v) : w.cell? ⟨r, 1, none⟩ = some v := by rw [cell_of_row w r 1 _ _ _ h.blk]; rfl
theorem RefV.free (h : RefV W w r n L v) {B : Nat} {e : TypeId} {size m : Nat} {u : Value} {xs : List Value} (o : w.ownsRow B e size u m xs) (he : e ≠ 31) : ∀ g, u.ownBlock = some g → ¬ r = g := by
  rcases o.2 with ⟨rfl, -⟩ | ⟨g, cap, cur, rfl, -, hg, -⟩
  · intro g hg; simp [Value.ownBlock] at hg
  · intro g' e' q
    injection e' with e'
    subst e' q
    rw [h.blk] at hg
    injection hg with hg
    injection hg with h1 h2 h3
    exact he h2.symm
theorem RefV.below (h : RefV W w r n L v) (b : Below w.heap.size w w') : RefV W w' r n L v := ⟨(b.block r h.lt).trans h.blk, row_on h.own b, h.rs⟩
theorem Ref.below (h : Ref W w r n L) (b : Below w.heap.size w w') : Ref W w' r n L := by
  obtain ⟨v, h⟩ := h
  exact ⟨v, h.below b⟩
theorem Ref.turn {p c m : Nat} {k : List Int} (h : Ref W w r n L) (q : BoxIn w p c m k) (t : Kp (· = c) w w') : Ref W w' r n L := by
  obtain ⟨v, h⟩ := h
  refine ⟨v, (t.block r h.lt (q.off h.blk)).trans h.blk, h.own.kp t fun g e => ?_, h.rs⟩
  rcases h.own.2 with ⟨rfl, -⟩ | ⟨g', cap, cur, rfl, -, hg, -⟩
  · simp [Value.ownBlock] at e
  · injection e with e
    subst e
    exact q.off hg
end
/-- a new own slice is stored into it -/
theorem ref_store {W w : World} {r n : Nat} {v u : Value} {L' : List Int} (hb : w.heap[r]? = some (.cells #[.int .i64 n, v] 31)) (rs : W.heap.size ≤ r) (o : OwnN W.heap.size w u L') (at_ : Below W.heap.size W w) :
    (w.cell? ⟨r, 1, none⟩ = some v ∧ w.frozen? ⟨r, 1, none⟩ = false) ∧ Hid (Ref W (w.setCell ⟨r, 1, none⟩ u) r n L' ∧ Below W.heap.size W (w.setCell ⟨r, 1, none⟩ u) ∧ ∀ p c m k, BoxIn w p c m k → BoxIn (w.setCell ⟨r, 1, none⟩ u) p c m k) := by
  have kk := Kp.setCell (F := (· = r)) w ⟨r, 1, none⟩ rfl u
  have hf : ∀ g, u.ownBlock = some g → ¬ r = g := by
    rcases o.2 with ⟨rfl, -⟩ | ⟨g, cap, cur, rfl, -, hg, -⟩
    · intro g hg; simp [Value.ownBlock] at hg
    · intro g' e' q
      injection e' with e'
      subst e' q
      rw [hb] at hg
      injection hg with hg
      injection hg with h1 h2 h3
      exact absurd h2 (by decide)
  refine ⟨⟨by rw [cell_of_row w r 1 _ _ _ hb]; rfl, by simp [World.frozen?, hb]⟩, Lib.hid ⟨⟨u, ?_, o.kp kk fun g e q => hf g e q.symm, rs⟩, at_.trans (kk.below at_.size fun k e => by omega), fun p c m k q => q.on kk (fun e => q.off hb e.symm) fun e => ?_⟩⟩
  · have := heap_setCell_same w r 1 _ _ u hb
    simpa using this
  · have e1 := q.blk
    rw [e, hb] at e1
    injection e1 with e1
    injection e1 with h1 h2 h3
    exact absurd h2 (by decide)
/-- an own slice grows: the box stays -/
theorem RefV.grow {W w w' : World} {r n : Nat} {L L' : List Int} {v u : Value} (h : RefV W w r n L v) (o : OwnN W.heap.size w u L') (k : Kp (fun g => u.ownBlock = some g) w w') : w'.heap[r]? = some (.cells #[.int .i64 n, v] 31) :=
  (k.block r h.lt fun e => h.free o (by decide) r e rfl).trans h.blk
def RefR (W w : World) (r n : Nat) (L L' : List Int) (ans : Value) (e : Ending) (w' : World) : Prop := e = .returned ans ∧ Ref W w' r n L' ∧ Below W.heap.size W w' ∧ ∀ p c m k, BoxIn w p c m k → BoxIn w' p c m k
set_option maxRecDepth 100000 in
set_option maxHeartbeats 4000000 in
theorem rput_is {W : World} (w : World) (r n : Nat) (L : List Int) (x : Int) (h : Ref W w r n L) (hn : n ≤ 1000) (hl : L.length ≤ n) (hW : Below W.heap.size W w) :
    Calls Try.prog 12 #[.pointer (some ⟨r, 0, none⟩), .int .i64 x] w (RefR W w r n L (putL n L x) (.int .i64 (putE n L))) := by
  obtain ⟨v, h⟩ := h
  have o := h.own
  obtain ⟨A, k, rfl, hk, -, -, -⟩ := o.form
  have c0 := h.c0
  have c1 := h.c1
  have HH := Lib.hid h
  have OO := Lib.hid o
  have WW := Lib.hid hW
  clear h o
  by_cases hr : L.length < n
  · have s1 : decide ((n : Int) ≤ L.length) = false := decide_eq_false (by omega)
    have s11 : decide (n ≤ L.length) = false := decide_eq_false (by omega)
    have i1 : ¬ (n : Int) ≤ L.length := by omega
    have pe := putE_room hr
    have pl := putL_room hr x
    obtain ⟨y, hy⟩ : ∃ y, y = L ++ [x] := ⟨_, rfl⟩
    rw [pe, pl, ← hy]
    have HY := Lib.hid hy
    clear hy pe pl
    go_enter Try.func12, Try.ntmps12
    go_wp2_with fail
    go_big_quiet (fail)
    have B1 := below_drewN w.heap.size w nq
    have H1 := Lib.hid (HH.out.below B1)
    have O1 := Lib.hid (show OwnN W.heap.size (w.drewN nq) (.slice A L.length k) L from row_on OO.out B1)
    have W1 := Lib.hid (WW.out.trans (B1.mono WW.out.size))
    have Q1 := Lib.hid (show ∀ p c m k, BoxIn w p c m k → BoxIn (w.drewN nq) p c m k from fun p c m k q => q.below B1)
    clear c0 c1 HH OO WW B1
    generalize w.drewN nq = wd at *
    have c1 := H1.out.c1
    have sz := W1.out.size
    have NL := Lib.hid (show L.length ≤ 1000000 by omega)
    have SZ := Lib.hid sz
    go_wp2_with (at_builtin; refine append_numB rfl _ _ rfl (.slice A L.length k) L rfl O1.out SZ.out x _ 1 rfl NL.out ?_)
    intro v2 w2 o2 k2
    have at2 := W1.out.trans (k2.below (B := W.heap.size) sz fun g e => (World.ownsRow.lt O1.out g e).1)
    rw [← HY.out] at o2
    obtain ⟨A2, c2, rfl, -, -, -, -⟩ := o2.form
    obtain ⟨⟨sc, sf⟩, FN⟩ := ref_store (H1.out.grow O1.out k2) H1.out.rs o2 at2
    have Q2 := Lib.hid (show ∀ p c m k, BoxIn w p c m k → BoxIn w2 p c m k from fun p c m k q => (Q1.out p c m k q).own O1.out k2)
    clear o2 k2 at2 H1 O1 W1 Q1 c1 sz SZ NL
    go_wp2
    go_ret
    exact ⟨rfl, FN.out.1, FN.out.2.1, fun p c m k q => FN.out.2.2 p c m k (Q2.out p c m k q)⟩
  · have s1 : decide ((n : Int) ≤ L.length) = true := decide_eq_true (by omega)
    have s11 : decide (n ≤ L.length) = true := decide_eq_true (by omega)
    have i1 : (n : Int) ≤ L.length := by omega
    have pe := putE_full hr
    have pl := putL_full hr x
    rw [pe, pl]
    go_enter Try.func12, Try.ntmps12
    go_wp2_with fail
    go_big_quiet (fail)
    go_wp2
    go_ret
    have bd := fun q => below_drewN w.heap.size w q
    exact ⟨rfl, ⟨_, HH.out.below (bd _)⟩, WW.out.trans ((bd _).mono WW.out.size), fun p c m k q => q.below (bd _)⟩
theorem OwnN.base {B B' : Nat} {w : World} {v : Value} {l : List Int} (h : OwnN B w v l) (hb : B' ≤ B) : OwnN B' w v l := by
  refine ⟨h.1, ?_⟩
  rcases h.2 with q | ⟨g, cap, cur, rfl, hB, rest⟩
  · exact .inl q
  · exact .inr ⟨g, cap, cur, rfl, Nat.le_trans hb hB, rest⟩
theorem is_cells {w : World} {ad : Addr} {m : Nat} {l : List Int} (h : IsAt w (some ad) m l) : ∀ j u, (l.map (Value.int .i64))[j]? = some u → w.cell? (ad.add j) = some u := by
  intro j u hj
  have hl : j < l.length := by have := (List.getElem?_eq_some_iff.1 hj).1; simpa using this
  obtain ⟨b, off, e, -, hc⟩ := h.2 (by rw [h.1]; omega)
  injection e with e
  subst e
  rw [addr_off]
  rw [hc j (by rw [h.1]; exact hl), ← hj, List.getElem?_map, List.getElem?_eq_getElem hl, gt_lt hl]
  rfl
/-- append of numbers that are read to an own slice of numbers -/
theorem append_isB {ops : Array Oper} {rest : List Oper} {o : Oper} {a : Act} {Q : Exit → Act → World → Prop} {B : Nat} {w : World} (hgd : o.guard = none) (s x : Operand)
    (ho : o.op = .call { callee := .builtin .append, args := #[s, x], argTypes := #[29, 29] })
    (v : Value) (l : List Int) (hs : a.eval s = v) (hown : OwnN B w v l) (hB : B ≤ w.heap.size) (ad : Addr) (m c : Nat) (l2 : List Int) (h2 : IsAt w (some ad) m l2)
    (hx : a.eval x = .slice (some ad) m c) (hl : l.length + m ≤ 1000000)
    (h : ∀ v' w', OwnN B w' v' (l ++ l2) → Kp (fun k => v.ownBlock = some k) w w' → wpList Try.prog ops Q rest (a.put o.dst v') w') : wpList Try.prog ops Q (o :: rest) a w := by
  obtain ⟨i0, hi, hz0, hz1, hz2⟩ := info_parts info_int
  have e2 := h2.1
  refine wpList_append_own _ hgd s x 29 ho B 3 i0 (.int .i64 0) 1 8 Try.underlying29 hi hz0 hz1 hz2 rfl (by decide) v l.length (l.map (Value.int .i64)) hs hown
    ad m c (l2.map (Value.int .i64)) hx (by rw [List.length_map, e2]; omega) (is_cells h2) (by intro u hu; obtain ⟨y, -, rfl⟩ := List.mem_map.1 hu; rfl) (by unfold maxLen; omega) (by omega) hB ?_
  intro v' w' hown' hg _
  refine h v' w' ?_ (Kp.grown hg fun k hk => hk)
  unfold OwnN
  rw [List.length_append, List.map_append, ← e2]
  exact hown'
theorem is_tail {w : World} {g k : Nat} {x : Int} {m : List Int} (h : IsAt w (some ⟨g, 0, none⟩) (m.length + 1) (x :: m)) : w.cell? ⟨g, 0, none⟩ = some (.int .i64 x) ∧ IsAt w (some (if k = 1 then ⟨g, 0, none⟩ else ⟨g, 1, none⟩)) m.length m ∨ k = 1 ∧ 0 < m.length := by
  obtain ⟨b, off, e, hl, hc⟩ := h.2 (by omega)
  cases e
  by_cases hk : k = 1 ∧ 0 < m.length
  · exact .inr hk
  · refine .inl ⟨hc 0 (by omega), rfl, fun h0 => ⟨g, 1, ?_, hl, fun j hj => ?_⟩⟩
    · rw [if_neg (by omega)]
    · have := hc (j + 1) (by omega)
      rw [gt_cons] at this
      rw [show 1 + j = 0 + (j + 1) by omega]
      exact this
set_option maxRecDepth 100000 in
set_option maxHeartbeats 4000000 in
theorem rtake_is {W : World} (w : World) (r n : Nat) (L : List Int) (h : Ref W w r n L) (hn : n ≤ 1000) (hl : L.length ≤ n) (hW : Below W.heap.size W w) :
    Calls Try.prog 14 #[.pointer (some ⟨r, 0, none⟩)] w (RefR W w r n L L.tail (.tuple #[.int .i64 (headL L), .bool (someB L)])) := by
  obtain ⟨v, h⟩ := h
  have o := h.own
  obtain ⟨A, k, rfl, hk, hI, -, -⟩ := o.form
  have c1 := h.c1
  have HH := Lib.hid h
  have WW := Lib.hid hW
  clear o
  cases L with
  | nil =>
    simp only [List.length_nil] at c1
    rw [show headL [] = 0 from rfl, show someB [] = false from rfl]
    have FN := Lib.hid (show Ref W w r n [].tail ∧ Below W.heap.size W w ∧ ∀ p c m k, BoxIn w p c m k → BoxIn w p c m k from ⟨⟨_, h⟩, hW, fun _ _ _ _ q => q⟩)
    clear h hW hI
    go_enter Try.func14, Try.ntmps14
    go_wp2
    exact bodyPost_ret (v := .tuple #[.int .i64 0, .bool false]) (by simp [results, Try.f14, go_sem]) rfl ⟨rfl, FN.out.1, FN.out.2.1, FN.out.2.2⟩
  | cons x m =>
    rw [show headL (x :: m) = x from rfl, show someB (x :: m) = true from rfl, List.tail_cons]
    obtain ⟨g, o0, rfl, gl, gc⟩ := hI.2 (by simp)
    obtain rfl : o0 = 0 := by
      rcases h.own.2 with ⟨e, -⟩ | ⟨g', cap, cur, e, -⟩
      · cases e
      · injection e with e1 e2 e3; injection e1 with e1; injection e1
    simp only [List.length_cons] at c1 hk hI hl
    have x0 := gc 0 (by simp)
    rw [show gt (x :: m) 0 = x from rfl, Nat.zero_add] at x0
    have z1 : (((m.length + 1 : Nat) : Int) == 0) = false := beq_eq_false_iff_ne.2 (by omega)
    have z2 : 0 < m.length + 1 := by omega
    have z3 : ¬ ((m.length : Int) + 1 = 0) := by omega
    have z4 : (1 : Int) ≤ (m.length : Int) + 1 := by omega
    have z5 : 1 ≤ m.length + 1 := by omega
    have z6 : 1 ≤ k := by omega
    have rl := h.lt
    have ne : ¬ w.heap.size = r := by omega
    have ng : ¬ w.heap.size = g := by omega
    have LM := Lib.hid (show ([] : List Int).length + m.length ≤ 1000000 by simp; omega)
    have LIT := Lib.hid (show OwnN w.heap.size (w.alloc (.cells #[] 3)) (.slice (some ⟨w.heap.size, 0, none⟩) 0 0) [] from lit_none w 3 1)
    have ba := below_alloc w (.cells #[] 3)
    have SZ := Lib.hid (show w.heap.size ≤ (w.alloc (.cells #[] 3)).heap.size from ba.size)
    by_cases k1 : k = 1
    · subst k1
      obtain rfl : m = [] := List.eq_nil_of_length_eq_zero (by omega)
      have IT := Lib.hid (IsAt.nil (w.alloc (.cells #[] 3)) (some ⟨g, 0, none⟩))
      simp only [List.length_nil, Nat.zero_add] at c1 z1 z2 z3 z4 z5
      have x1 := (ba.cell (p := ⟨g, 0, none⟩) gl).trans x0
      have c2 := (ba.cell (p := ⟨r, 1, none⟩) rl).trans c1
      clear h hW gc hI hl ba
      go_enter Try.func14, Try.ntmps14
      (go_wp2_with (at_builtin; refine append_isB rfl _ _ rfl (.slice (some ⟨w.heap.size, 0, none⟩) 0 0) [] rfl LIT.out SZ.out (⟨g, 0, none⟩ : Addr) ([]).length _ ([]) IT.out rfl LM.out ?_)
       intro v2 w2 o2 k2
       have o3 : OwnN w.heap.size w2 v2 ([]) := o2
       have b2 : Below w.heap.size w w2 := (below_alloc w (.cells #[] 3)).trans (k2.below (B := w.heap.size) SZ.out fun g e => (World.ownsRow.lt LIT.out g e).1)
       have at2 := WW.out.trans (b2.mono WW.out.size)
       have Q2 := Lib.hid (show ∀ p c m k, BoxIn w p c m k → BoxIn w2 p c m k from fun p c m k q => q.below b2)
       have o4 := o3.base WW.out.size
       obtain ⟨A2, c2, rfl, -, -, -, -⟩ := o4.form
       obtain ⟨⟨sc, sf⟩, FN⟩ := ref_store ((b2.block r rl).trans HH.out.blk) HH.out.rs o4 at2
       clear o2 o3 o4 k2 b2 at2 HH WW LIT IT SZ LM
       go_wp2
       exact bodyPost_ret (v := .tuple #[.int .i64 x, .bool true]) (by simp [results, Try.f14, go_sem]) rfl ⟨rfl, FN.out.1, FN.out.2.1, fun p c m k q => FN.out.2.2 p c m k (Q2.out p c m k q)⟩)
    · have IT := Lib.hid ((show IsAt w (some ⟨g, 1, none⟩) m.length m from by have := ((is_tail (k := k) hI).resolve_right (by omega)).2; rwa [if_neg k1] at this).below ba)
      have k2 : 1 < k := by omega
      have k3 : ¬ k = 1 := k1
      have x1 := (ba.cell (p := ⟨g, 0, none⟩) gl).trans x0
      have c2 := (ba.cell (p := ⟨r, 1, none⟩) rl).trans c1
      clear h hW gc hI hl ba
      go_enter Try.func14, Try.ntmps14
      (go_wp2_with (at_builtin; refine append_isB rfl _ _ rfl (.slice (some ⟨w.heap.size, 0, none⟩) 0 0) [] rfl LIT.out SZ.out (⟨g, 1, none⟩ : Addr) (m).length _ m IT.out rfl LM.out ?_)
       intro v2 w2 o2 k2
       have o3 : OwnN w.heap.size w2 v2 m := o2
       have b2 : Below w.heap.size w w2 := (below_alloc w (.cells #[] 3)).trans (k2.below (B := w.heap.size) SZ.out fun g e => (World.ownsRow.lt LIT.out g e).1)
       have at2 := WW.out.trans (b2.mono WW.out.size)
       have Q2 := Lib.hid (show ∀ p c m k, BoxIn w p c m k → BoxIn w2 p c m k from fun p c m k q => q.below b2)
       have o4 := o3.base WW.out.size
       obtain ⟨A2, c2, rfl, -, -, -, -⟩ := o4.form
       obtain ⟨⟨sc, sf⟩, FN⟩ := ref_store ((b2.block r rl).trans HH.out.blk) HH.out.rs o4 at2
       clear o2 o3 o4 k2 b2 at2 HH WW LIT IT SZ LM
       go_wp2
       exact bodyPost_ret (v := .tuple #[.int .i64 x, .bool true]) (by simp [results, Try.f14, go_sem]) rfl ⟨rfl, FN.out.1, FN.out.2.1, fun p c m k q => FN.out.2.2 p c m k (Q2.out p c m k q)⟩)
end Go.Proofs.Ythonmfoajjhkdaa.Bx
