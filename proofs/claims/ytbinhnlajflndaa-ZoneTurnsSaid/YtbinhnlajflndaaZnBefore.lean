/- The walk of package zone's before: of the years' shifts, then of the zone's own, from the end, the first one that is not later. -/
import Derived.Test.YtbinhnlajflndaaZnMath4
set_option linter.unusedVariables false
namespace Go.Proofs.Ytbinhnlajflndaa.Zn
open Go.RowKit Go.Shelf Cv St
attribute [local go_sem] Oper.semAt_some

theorem wide_call {n : Nat} {f : FuncId} {args : Array Value} {w : World} {R : Ending → World → Prop} (h : Calls Try.prog f args w R) : CallsIn Fence.wide n Try.prog f args w R := callsIn_wide.2 h
theorem Blk.cell0 {w : World} {g : Nat} {t : TypeId} {v : Value} (h : Blk w g t #[v]) : w.cell? ⟨g, 0, none⟩ = some v := h.cell 0
theorem OwnFrom.more {β : Type} {B B' : Nat} {I : β → World → Prop} (h : OwnFrom B I) (hB : B ≤ B') : OwnFrom B' I := fun s X Y row hs hg hr => h s X Y row hs hg fun r e => ⟨Nat.le_trans hB (hr r e).1, (hr r e).2⟩
theorem Dfs.more {n0 top top' : Nat} {ds : List Nat} {w : World} (h : Dfs n0 top ds w) (ht : top ≤ top') : Dfs n0 top' ds w := ⟨h.1, fun D hD => ⟨(h.2 D hD).1, Nat.lt_of_lt_of_le (h.2 D hD).2.1 ht, (h.2 D hD).2.2⟩⟩
theorem size_own {β : Type} {B : Nat} (m : Nat) : OwnFrom B (fun (_ : β) W => m ≤ W.heap.size) := fun _ _ _ _ hs hg _ => Nat.le_trans hs hg.size
/-- what the function's own blocks hold -/
def Ctx (w : World) (zc : Array Value) (u : Int) (rc : Array Value) (ok : Value) (W : World) : Prop :=
  (((Blk W w.heap.size 25 zc ∧ Blk W (w.heap.size + 1) 3 #[.int .i64 u]) ∧ Blk W (w.heap.size + 1 + 1) 29 rc) ∧ Blk W (w.heap.size + 1 + 1 + 1) 4 #[ok]) ∧ Below w.heap.size w W
theorem Ctx.on {w : World} {zc : Array Value} {u : Int} {rc : Array Value} {ok : Value} {W W' : World} (h : Ctx w zc u rc ok W) (hb : Below W.heap.size W W') : Ctx w zc u rc ok W' :=
  ⟨⟨⟨⟨h.1.1.1.1.below hb h.1.1.1.1.lt, h.1.1.1.2.below hb h.1.1.1.2.lt⟩, h.1.1.2.below hb h.1.1.2.lt⟩, h.1.2.below hb h.1.2.lt⟩, h.2.trans (hb.mono h.2.size)⟩
theorem ctx_own {β : Type} {w : World} {zc : Array Value} {u : Int} {rc : Array Value} {ok : Value} {B' : Nat} (hB : w.heap.size ≤ B') : OwnFrom B' (fun (_ : β) W => Ctx w zc u rc ok W) :=
  OwnFrom.and (OwnFrom.and (OwnFrom.and (OwnFrom.and ((blk_own _ _ (fun (_ : β) => zc)).from _) ((blk_own _ _ (fun (_ : β) => #[.int .i64 u])).from _)) ((blk_own _ _ (fun (_ : β) => rc)).from _)) ((blk_own _ _ (fun (_ : β) => #[ok])).from _)) (ownFrom_below (Nat.le_refl _) hB)
/-- the function's blocks, just laid -/
theorem ctx_new (w : World) (zc : Array Value) (u : Int) (rc : Array Value) (ok : Value) (yv : Value) :
    Ctx w zc u rc ok (((((w.alloc (.cells zc 25)).alloc (.cells #[.int .i64 u] 3)).alloc (.cells rc 29)).alloc (.cells #[ok] 4)).alloc (.cells #[yv] 3)) ∧
      Blk (((((w.alloc (.cells zc 25)).alloc (.cells #[.int .i64 u] 3)).alloc (.cells rc 29)).alloc (.cells #[ok] 4)).alloc (.cells #[yv] 3)) (w.heap.size + 1 + 1 + 1 + 1) 3 #[yv] := by
  obtain ⟨w1, e1⟩ : ∃ w1, w.alloc (.cells zc 25) = w1 := ⟨_, rfl⟩
  have b1 := Blk.new w 25 zc
  have s1 : w1.heap.size = w.heap.size + 1 := by rw [← e1]; simp
  have l1 : Below w.heap.size w w1 := by rw [← e1]; exact (Below.refl _ _).alloc (Nat.le_refl _) _
  rw [e1] at b1 ⊢
  obtain ⟨w2, e2⟩ : ∃ w2, w1.alloc (.cells #[.int .i64 u] 3) = w2 := ⟨_, rfl⟩
  have b2 := Blk.new w1 3 #[.int .i64 u]
  have s2 : w2.heap.size = w.heap.size + 1 + 1 := by rw [← e2]; simp [s1]
  have l2 : Below w1.heap.size w1 w2 := by rw [← e2]; exact (Below.refl _ _).alloc (Nat.le_refl _) _
  rw [e2] at b2 ⊢
  obtain ⟨w3, e3⟩ : ∃ w3, w2.alloc (.cells rc 29) = w3 := ⟨_, rfl⟩
  have b3 := Blk.new w2 29 rc
  have s3 : w3.heap.size = w.heap.size + 1 + 1 + 1 := by rw [← e3]; simp [s2]
  have l3 : Below w2.heap.size w2 w3 := by rw [← e3]; exact (Below.refl _ _).alloc (Nat.le_refl _) _
  rw [e3] at b3 ⊢
  obtain ⟨w4, e4⟩ : ∃ w4, w3.alloc (.cells #[ok] 4) = w4 := ⟨_, rfl⟩
  have b4 := Blk.new w3 4 #[ok]
  have s4 : w4.heap.size = w.heap.size + 1 + 1 + 1 + 1 := by rw [← e4]; simp [s3]
  have l4 : Below w3.heap.size w3 w4 := by rw [← e4]; exact (Below.refl _ _).alloc (Nat.le_refl _) _
  rw [e4] at b4 ⊢
  have b5 := Blk.new w4 3 #[yv]
  have l5 : Below w4.heap.size w4 (w4.alloc (.cells #[yv] 3)) := (Below.refl _ _).alloc (Nat.le_refl _) _
  rw [s1] at b2; rw [s2] at b3; rw [s3] at b4; rw [s4] at b5
  rw [s1] at l2; rw [s2] at l3; rw [s3] at l4; rw [s4] at l5
  refine ⟨⟨⟨⟨⟨?_, ?_⟩, ?_⟩, ?_⟩, ?_⟩, b5⟩
  · exact (((b1.below l2 (by omega)).below l3 (by omega)).below l4 (by omega)).below l5 (by omega)
  · exact ((b2.below l3 (by omega)).below l4 (by omega)).below l5 (by omega)
  · exact (b3.below l4 (by omega)).below l5 (by omega)
  · exact b4.below l5 (by omega)
  · exact (((l1.trans (l2.mono (by omega))).trans (l3.mono (by omega))).trans (l4.mono (by omega))).trans (l5.mono (by omega))
/-- it is found: the result's cells are written -/
theorem ctx_found {w : World} {zc : Array Value} {u : Int} {W : World} {t o : Value} {a0 a1 : Value} {top : Nat} {ds : List Nat} (h : Ctx w zc u #[a0, a1] (.bool false) W) (hd : Dfs w.heap.size top ds W) :
    Ctx w zc u #[t, o] (.bool true) (((W.setCell ⟨w.heap.size + 1 + 1, 0, none⟩ t).setCell ⟨w.heap.size + 1 + 1, 1, none⟩ o).setCell ⟨w.heap.size + 1 + 1 + 1, 0, none⟩ (.bool true)) ∧
    Dfs w.heap.size top ds (((W.setCell ⟨w.heap.size + 1 + 1, 0, none⟩ t).setCell ⟨w.heap.size + 1 + 1, 1, none⟩ o).setCell ⟨w.heap.size + 1 + 1 + 1, 0, none⟩ (.bool true)) ∧
    KeepsOthers W (((W.setCell ⟨w.heap.size + 1 + 1, 0, none⟩ t).setCell ⟨w.heap.size + 1 + 1, 1, none⟩ o).setCell ⟨w.heap.size + 1 + 1 + 1, 0, none⟩ (.bool true)) := by
  obtain ⟨⟨⟨⟨bz, bu⟩, br⟩, bo⟩, hB⟩ := h
  have r1 : Blk (W.setCell ⟨w.heap.size + 1 + 1, 0, none⟩ t) (w.heap.size + 1 + 1) 29 #[t, a1] := by have := br.set_ 0 t; simpa using this
  have r2 : Blk ((W.setCell ⟨w.heap.size + 1 + 1, 0, none⟩ t).setCell ⟨w.heap.size + 1 + 1, 1, none⟩ o) (w.heap.size + 1 + 1) 29 #[t, o] := by have := r1.set_ 1 o; simpa using this
  have o1 : Blk (W.setCell ⟨w.heap.size + 1 + 1, 0, none⟩ t) (w.heap.size + 1 + 1 + 1) 4 #[.bool false] := bo.far (by simp) _
  have o2 : Blk ((W.setCell ⟨w.heap.size + 1 + 1, 0, none⟩ t).setCell ⟨w.heap.size + 1 + 1, 1, none⟩ o) (w.heap.size + 1 + 1 + 1) 4 #[.bool false] := o1.far (by simp) _
  refine ⟨⟨⟨⟨⟨?_, ?_⟩, ?_⟩, ?_⟩, ?_⟩, ?_, ?_⟩
  · exact ((bz.far (by simp <;> omega) _).far (by simp <;> omega) _).far (by simp <;> omega) _
  · exact ((bu.far (by simp <;> omega) _).far (by simp <;> omega) _).far (by simp <;> omega) _
  · exact r2.far (by simp) _
  · have := o2.set_ 0 (.bool true); simpa using this
  · exact ((hB.setCell (p := ⟨_, _, none⟩) (by simp <;> omega) _).setCell (p := ⟨_, _, none⟩) (by simp <;> omega) _).setCell (p := ⟨_, _, none⟩) (by simp <;> omega) _
  · exact ((hd.far br 0 t).far r1 1 o).far o2 0 (.bool true)
  · exact ((KeepsOthers.setCell _ _ _).trans (KeepsOthers.setCell _ _ _)).trans (KeepsOthers.setCell _ _ _)
theorem ctx_lost {w : World} {zc : Array Value} {u : Int} {W : World} {a0 a1 x : Value} {top : Nat} {ds : List Nat} (h : Ctx w zc u #[a0, a1] x W) (hd : Dfs w.heap.size top ds W) :
    Ctx w zc u #[.int .i64 0, .int .i64 0] (.bool false) (((W.setCell ⟨w.heap.size + 1 + 1, 0, none⟩ (.int .i64 0)).setCell ⟨w.heap.size + 1 + 1, 1, none⟩ (.int .i64 0)).setCell ⟨w.heap.size + 1 + 1 + 1, 0, none⟩ (.bool false)) ∧
    Dfs w.heap.size top ds (((W.setCell ⟨w.heap.size + 1 + 1, 0, none⟩ (.int .i64 0)).setCell ⟨w.heap.size + 1 + 1, 1, none⟩ (.int .i64 0)).setCell ⟨w.heap.size + 1 + 1 + 1, 0, none⟩ (.bool false)) := by
  obtain ⟨⟨⟨⟨bz, bu⟩, br⟩, bo⟩, hB⟩ := h
  have r1 : Blk (W.setCell ⟨w.heap.size + 1 + 1, 0, none⟩ (.int .i64 0)) (w.heap.size + 1 + 1) 29 #[.int .i64 0, a1] := by have := br.set_ 0 (.int .i64 0); simpa using this
  have r2 : Blk ((W.setCell ⟨w.heap.size + 1 + 1, 0, none⟩ (.int .i64 0)).setCell ⟨w.heap.size + 1 + 1, 1, none⟩ (.int .i64 0)) (w.heap.size + 1 + 1) 29 #[.int .i64 0, .int .i64 0] := by have := r1.set_ 1 (.int .i64 0); simpa using this
  have o1 : Blk (W.setCell ⟨w.heap.size + 1 + 1, 0, none⟩ (.int .i64 0)) (w.heap.size + 1 + 1 + 1) 4 #[x] := bo.far (by simp) _
  have o2 : Blk ((W.setCell ⟨w.heap.size + 1 + 1, 0, none⟩ (.int .i64 0)).setCell ⟨w.heap.size + 1 + 1, 1, none⟩ (.int .i64 0)) (w.heap.size + 1 + 1 + 1) 4 #[x] := o1.far (by simp) _
  refine ⟨⟨⟨⟨⟨?_, ?_⟩, ?_⟩, ?_⟩, ?_⟩, ?_⟩
  · exact ((bz.far (by simp <;> omega) _).far (by simp <;> omega) _).far (by simp <;> omega) _
  · exact ((bu.far (by simp <;> omega) _).far (by simp <;> omega) _).far (by simp <;> omega) _
  · exact r2.far (by simp) _
  · have := o2.set_ 0 (.bool false); simpa using this
  · exact ((hB.setCell (p := ⟨_, _, none⟩) (by simp <;> omega) _).setCell (p := ⟨_, _, none⟩) (by simp <;> omega) _).setCell (p := ⟨_, _, none⟩) (by simp <;> omega) _
  · exact ((hd.far br 0 _).far r1 1 _).far o2 0 _
def BefPost (w : World) (x : Option Sh) (e : Ending) (w' : World) : Prop := e = .returned (.tuple #[shV (x.getD ⟨0, 0⟩), .bool x.isSome]) ∧ Below w.heap.size w w'
set_option maxRecDepth 100000 in
set_option maxHeartbeats 8000000 in
theorem before_in (W w : World) (b f u : Int) (A A' : Option Addr) (n c n' c' : Nat) (l : List Sh) (ys : List Yr) (h : mayB b l ys f = true) (hu : mayT u = true) (hz : ZnAt W A n A' n' l ys) (ha : At W w) :
    CallsIn Fence.wide 40 Try.prog 39 #[.agg #[.int .i64 b, .slice A n c, .slice A' n' c', .int .i64 f], .int .i64 u] w (BefPost w (bef l ys f u)) := by
  obtain ⟨y1, y2, _, _⟩ := year_may hu
  obtain ⟨f1, f2⟩ := frm_bd h
  have hWs := ha.size
  have hf1 : 0 < n' → 1 ≤ f := fun h0 => by
    obtain ⟨_, _, _, h4⟩ := may_of h
    rcases h4 with ⟨e, _⟩ | ⟨_, _, _, _, _, _, _, h5, _⟩
    · have := hz.yr.1; rw [e] at this; simp at this; omega
    · exact h5
  have hWW := ha.below
  obtain ⟨xs, rfl⟩ := yok_lift (fun r hr => yrs_ok h hr)
  refine callsIn_of_wp_marks Try.func39 rfl trivial ?_ rfl
  simp only [Try.ntmps39, List.size_toArray, List.length_cons, List.length_nil, Nat.reduceAdd, Nat.reduceSub, Array.replicate_succ, Array.replicate_zero, List.push_toArray, List.append_toArray, List.nil_append, List.cons_append]
  gi_wp2_with fail
  refine ⟨trivial, ?_⟩
  refine (wide_call (yearOf_any' u _ hu)).mono ?_
  rintro e w' ⟨rfl, rfl⟩
  gi_wp2
  have H := Lib.hid h
  have HU := Lib.hid hu
  clear h hu
  refine wpIn_loop_ghost_k (fun k a W' => ∃ (ds : List Nat) (By : Nat) (y : Int) (u16 u17 u18 u19 u20 u21 u22 u23 u24 u25 u26 u27 u38 : Value), a = { tmps := #[.agg #[.int .i64 b, .slice A n c, .slice A' n' c', .int .i64 f], .int .i64 u, .pointer (some ⟨w.heap.size, 0, none⟩), .pointer (some ⟨w.heap.size + 1, 0, none⟩), .pointer (some ⟨w.heap.size + 1 + 1, 0, none⟩), .pointer (some ⟨w.heap.size + 1 + 1 + 1, 0, none⟩), .int .i64 (year u), .pointer (some ⟨By, 0, none⟩), undef, undef, undef, undef, undef, .int .i64 u, .int .i64 (year u), .int .i64 (year u), u16, u17, u18, u19, u20, u21, u22, u23, u24, u25, u26, u27, undef, undef, undef, undef, undef, undef, undef, undef, undef, undef, u38, undef, undef, undef, undef, undef, undef, undef, undef, undef, undef, undef], defers := dsl ds } ∧ Ctx w #[.int .i64 b, .slice A n c, .slice A' n' c', .int .i64 f] u #[.int .i64 0, .int .i64 0] (.bool false) W' ∧
      Blk W' By 3 #[.int .i64 y] ∧ w.heap.size + 1 + 1 + 1 < By ∧ Dfs w.heap.size W'.heap.size ds W' ∧ y = year u - 2 + k ∧ k ≤ 2 ∧ Miss (xs.map (·.1)) u y) 2 ?start ?round
  case start =>
    exact ⟨[], _, year u, undef, undef, undef, undef, undef, undef, undef, undef, undef, undef, undef, undef, undef, rfl, (ctx_new w _ u _ _ _).1, (ctx_new w _ u _ _ _).2, by omega, ⟨List.nodup_nil, fun _ h => by simp at h⟩, by omega, by omega, miss_top _ _⟩
  case round =>
    rintro k a W1 ⟨ds, By, y, u16, u17, u18, u19, u20, u21, u22, u23, u24, u25, u26, u27, u38, rfl, ctx, by1, by2, dfs, ey, k2, miss⟩ J K hJ hK
    have EY := Lib.hid ey
    have M := Lib.hid miss
    have yl : year u - 2 ≤ y := by omega
    have yh : y ≤ year u := by omega
    clear ey miss
    obtain ⟨⟨⟨⟨bz, bu⟩, br⟩, bo⟩, hB⟩ := ctx
    have hs := hB.size
    have hBW : Below W.heap.size w W1 := hB.mono hWs
    have cz0 := bz.cell 1
    have cz1 := bz.cell 2
    have cz2 := bz.cell 3
    have cy := by1.cell 0
    simp at cz0 cz1 cz2 cy
    by_cases hm : f < year u - 1
    · by_cases hc : year u - 1 ≤ y
      · gi_wp2_with (refine ⟨trivial, ?_⟩; gi_at_call 62; refine (yrBack_in _ _ trivial rfl _ _ _ _).mono ?_; rintro e w' ⟨rfl, rfl⟩)
        refine wpIn_rangeFunc_ownH rfl (by omega) (gf := 80) (lb := #[.pointer (some ⟨W1.heap.size, 0, none⟩)]) rfl trivial (enters_of Try.func80 (by kernel_rfl) rfl)
          (yrBack_stops Fence.wide _ trivial rfl (by omega) W1.heap.size W A' n' c' xs hz.yn _ (by simp) ((hWW.trans hBW).alloc (Nat.le_trans hWs hB.size) _) (Blk.new W1 _ _).cell0 hz.yr) belowK_t (belowK_b (Nat.le_refl _)) (Below.refl _ _) (fun _ => rfl)
          (fun pre W' => ((∀ x ∈ pre, decide ((inY x.2.1 y).t ≤ u) = false) ∧ Ctx w #[.int .i64 b, .slice A n c, .slice A' n' c', .int .i64 f] u #[.int .i64 0, .int .i64 0] (.bool false) W') ∧ Blk W' By 3 #[.int .i64 y] ∧ Dfs w.heap.size (W1.heap.size + 1) ds W' ∧ W1.heap.size + 1 ≤ W'.heap.size)
          (fun cc pre W' => (∃ ini x, (cc = .ret ∧ pre = ini ++ [x] ∧ (∀ x ∈ ini, decide ((inY x.2.1 y).t ≤ u) = false) ∧ (inY x.2.1 y).t ≤ u) ∧ Ctx w #[.int .i64 b, .slice A n c, .slice A' n' c', .int .i64 f] u #[.int .i64 (inY x.2.1 y).t, .int .i64 (inY x.2.1 y).o] (.bool true) W') ∧ Dfs w.heap.size (W1.heap.size + 1) ds W')
          (OwnFrom.and (OwnFrom.and (ownFrom_pure _ _) (ctx_own (by simp; omega))) (OwnFrom.and ((blk_own _ _ (fun _ => #[.int .i64 y])).from _) (OwnFrom.and (OwnFrom.more (dfs_own _ _ _) (by simp)) (size_own _))))
          (fun cc => OwnFrom.and (fun s A B row hs hg hr => by obtain ⟨ini, x, h1, h2⟩ := hs; exact ⟨ini, x, h1, ctx_own (B' := (W1.alloc (.cells #[.slice A' n' c'] 23)).heap.size) (by simp; omega) () A B row h2 hg hr⟩) (OwnFrom.more (dfs_own _ _ _) (by simp)))
          ⟨⟨by simp, Ctx.on ⟨⟨⟨⟨bz, bu⟩, br⟩, bo⟩, hB⟩ ((Below.refl _ _).alloc (Nat.le_refl _) _)⟩, by1.alloc _, (dfs.below ((Below.refl _ _).alloc (Nat.le_refl _) _) (Nat.le_refl _)).more (by omega), by simp⟩
          (fun x a' W' => ∃ Bx, w.heap.size + 1 + 1 + 1 < Bx ∧ Blk W' Bx 60 #[.int .i64 x.2.1.m, .int .i64 x.2.1.k, .int .i64 x.2.1.d, .int .i64 x.2.1.s, .int .i64 x.2.1.o] ∧ a' = { tmps := #[.agg #[.int .i64 b, .slice A n c, .slice A' n' c', .int .i64 f], .int .i64 u, .pointer (some ⟨w.heap.size, 0, none⟩), .pointer (some ⟨w.heap.size + 1, 0, none⟩), .pointer (some ⟨w.heap.size + 1 + 1, 0, none⟩), .pointer (some ⟨w.heap.size + 1 + 1 + 1, 0, none⟩), .int .i64 (year u), .pointer (some ⟨By, 0, none⟩), undef, .pointer (some ⟨Bx, 0, none⟩), undef, undef, undef, .int .i64 u, .int .i64 (year u), .int .i64 (year u), .int .i64 y, .pointer (some ⟨w.heap.size, 3, none⟩), .int .i64 f, .int .i64 (year u), .int .i64 (year u - 1), .int .i64 (year u - 1), .bool true, u23, u24, .pointer (some ⟨w.heap.size, 2, none⟩), .slice A' n' c', .func (.func 80) #[] #[.pointer (some ⟨W1.heap.size, 0, none⟩)], .int .i64 (x.1 : Int), yrV x.2.1, undef, undef, undef, undef, undef, undef, undef, undef, u38, undef, undef, undef, undef, undef, undef, undef, undef, undef, undef, undef], defers := [] })
          (fun x a' _ X Y row hs hg hr => by obtain ⟨Bx, e1, e2, e3⟩ := hs; exact ⟨Bx, e1, blk_own Bx _ (fun (_ : Unit) => _) () X Y row e2 hg (fun r e => (hr r e).2), e3⟩)
          ?assign ?body ?done ?stop
        case assign =>
          rintro l0 pre x W' K ⟨⟨hp, ctx'⟩, by', dfs', sz'⟩ hK
          gi_wp2
          exact hK _ _ ((KeepsOthers.alloc _ _).from _) ((Below.refl _ W').alloc (by simp; omega) _) ⟨⟨hp, ctx'.on ((Below.refl _ _).alloc (Nat.le_refl _) _)⟩, by'.alloc _, dfs'.below ((Below.refl _ _).alloc (Nat.le_refl _) _) sz', by simp; omega⟩ ⟨W'.heap.size, ctx'.1.2.lt, Blk.new W' _ _, rfl⟩
        case body =>
          rintro l0 pre x a' W2 hl ⟨r, hr⟩ ⟨⟨hp, ctx2⟩, yb, dfs2, sz2⟩ ⟨Bx, hBx, bx, rfl⟩ hlen
          have fy : 1 ≤ f := hf1 (by omega)
          have ctx3 := ctx2
          obtain ⟨⟨⟨⟨_, bu2⟩, br2⟩, bo2⟩, hB2⟩ := ctx3
          have x0 := bx.cell 0; have x1 := bx.cell 1; have x2 := bx.cell 2; have x3 := bx.cell 3; have x4 := bx.cell 4
          have v0 := yb.cell 0; have v1 := bu2.cell 0
          have g0 := br2.frozen 0; have g1 := br2.frozen 1; have g2 := bo2.frozen 0
          have i0 := br2.cell 0; have i1 := br2.cell 1; have i2 := bo2.cell 0
          simp at x0 x1 x2 x3 x4 v0 v1 i0 i1 i2
          have l1 := bx.lt; have l2 := yb.lt; have l3 := bu2.lt; have l4 := br2.lt; have l5 := bo2.lt
          clear hr
          by_cases ht : (inY x.2.1 y).t ≤ u
          · gi_wp2_with (refine ⟨trivial, ?_⟩; gi_at_call 63; refine (CallsIn.inRound l0 (wide_call (inYear_any x.2.1 y _ x.2.2 (by omega) (by omega)))).mono ?_; rintro e w3 ⟨rfl, hb3⟩; obtain ⟨⟨⟨⟨_, bu3⟩, br3⟩, bo3⟩, _⟩ := ctx2.on hb3; have m1 := bu3.lt; have m2 := br3.lt; have m3 := bo3.lt; have e0 := bu3.cell 0; have e1 := br3.frozen 0; have e2 := br3.frozen 1; have e3 := bo3.frozen 0; have e4 := br3.cell 0; have e5 := br3.cell 1; have e6 := bo3.cell 0; simp at e0 e4 e5 e6)
            obtain ⟨c5, d5, k5⟩ := ctx_found (t := .int .i64 (inY x.2.1 y).t) (o := .int .i64 (inY x.2.1 y).o) (ctx2.on hb3) (dfs2.below hb3 sz2)
            have ba := (Below.refl _ _).alloc (Nat.le_refl _) (.cells #[.int .i64 (inY x.2.1 y).t, .int .i64 (inY x.2.1 y).o] 29) (w := ((w3.setCell ⟨w.heap.size + 1 + 1, 0, none⟩ (.int .i64 (inY x.2.1 y).t)).setCell ⟨w.heap.size + 1 + 1, 1, none⟩ (.int .i64 (inY x.2.1 y).o)).setCell ⟨w.heap.size + 1 + 1 + 1, 0, none⟩ (.bool true))
            exact ⟨((keeps_below _ hb3).trans (k5.from _)).trans (keeps_below _ ba), ⟨pre, x, ⟨rfl, rfl, hp, ht⟩, c5.on ba⟩, d5.below ba (Nat.le_trans (Nat.le_trans sz2 hb3.size) k5.size)⟩
          · have ht' : u < (inY x.2.1 y).t := by omega
            have tb : decide ((inY x.2.1 y).t ≤ u) = false := decide_eq_false ht
            have TB := Lib.hid tb
            clear tb ht
            gi_wp2_with (refine ⟨trivial, ?_⟩; gi_at_call 63; refine (CallsIn.inRound l0 (wide_call (inYear_any x.2.1 y _ x.2.2 (by omega) (by omega)))).mono ?_; rintro e w3 ⟨rfl, hb3⟩; obtain ⟨⟨⟨⟨_, bu3⟩, br3⟩, bo3⟩, _⟩ := ctx2.on hb3; have m1 := bu3.lt; have m2 := br3.lt; have m3 := bo3.lt; have e0 := bu3.cell 0; have e1 := br3.frozen 0; have e2 := br3.frozen 1; have e3 := bo3.frozen 0; have e4 := br3.cell 0; have e5 := br3.cell 1; have e6 := bo3.cell 0; simp at e0 e4 e5 e6)
            have ba := (Below.refl _ _).alloc (Nat.le_refl _) (.cells #[.int .i64 (inY x.2.1 y).t, .int .i64 (inY x.2.1 y).o] 29) (w := w3)
            have bb := hb3.trans (ba.mono hb3.size)
            exact ⟨keeps_below _ bb, bb.mono (by simp; omega), ⟨fun z hz => (List.mem_append.1 hz).elim (hp z) (fun e => by simp at e; subst e; exact TB.out), ctx2.on bb⟩, yb.below bb yb.lt, dfs2.below bb sz2, Nat.le_trans sz2 bb.size⟩
        case done =>
          rintro D zs W4 hD rfl ⟨⟨hp, ctx4⟩, yb, dfs4, sz4⟩ hK'
          simp only [World.size_alloc] at hD
          have hD' := (Array.getElem?_eq_some_iff.1 hK').1
          have s4 := ctx4.2.size
          have v0 := yb.cell 0
          simp at v0
          have l2 := yb.lt
          have ba := (Below.refl _ _).alloc (Nat.le_refl _) (.cells #[.int .i64 (y - 1)] 3) (w := W4)
          have nn := hz.yr.1
          rw [List.length_map] at nn
          have N := Lib.hid nn
          clear nn
          gi_wp2
          refine ⟨k - 1, by have := EY.out; omega, hJ _ _ _ ⟨D :: ds, W4.heap.size, y - 1, _, _, _, _, _, _, _, _, _, _, _, _, _, rfl, ctx4.on ba, Blk.new _ _ _, ctx4.1.2.lt, ((dfs4.cons hD hD' (by omega) hK').below ba (Nat.le_refl _)).more ba.size, by have := EY.out; omega, by omega, fun z z1 z2 s hs => ?_⟩⟩
          by_cases e : z = y
          · subst e
            rw [rows_upto, ← N.out] at hs
            obtain ⟨x, hx, rfl⟩ := List.mem_map.1 hs
            exact hp x hx
          · exact M.out z (by omega) z2 s hs
        case stop =>
          rintro D cc pre W4 hD ⟨kk, hkk, rfl⟩ ⟨⟨ini, x, ⟨rfl, e1, e2, e3⟩, ctx4⟩, dfs4⟩ hK'
          simp only [World.size_alloc] at hD
          have hD' := (Array.getElem?_eq_some_iff.1 hK').1
          have s4 := ctx4.2.size
          have nn := hz.yr.1
          rw [List.length_map] at nn
          have N := Lib.hid nn
          have E1 := Lib.hid e1
          clear nn e1
          gi_wp2
          have hbef : bef l (xs.map (·.1)) f u = some (inY x.2.1 y) := by
            refine bef_hit (y := y) (by omega) (by omega) yh M.out ?_
            rw [rows_upto, ← N.out]
            exact hit_find (g := fun x : Nat × Yok => inY x.2.1 y) hkk E1.out e2 (decide_eq_true e3)
          refine leaves_of (n0 := w.heap.size) (top := W4.heap.size) (D :: ds) W4 (dfs4.cons hD hD' (by omega) hK') s4 ?_
          intro w' hb hk
          have q0 := (hk _ _ _ ctx4.1.1.2).cell 0
          have q1 := (hk _ _ _ ctx4.1.1.2).cell 1
          have q2 := (hk _ _ _ ctx4.1.2).cell 0
          simp at q0 q1 q2
          refine ⟨.tuple #[shV (inY x.2.1 y), .bool true], by simp [results, Try.f39, go_sem, q0, q1, q2], ?_⟩
          rw [hbef]
          exact ⟨rfl, ctx4.2.trans hb⟩
      · have hc' : y < year u - 1 := by omega
        have hd : decide (year u - 1 ≤ y) = false := decide_eq_false hc
        clear hc
        gi_wp2_with (refine ⟨trivial, ?_⟩; gi_at_call 64; refine (shBack_in _ _ trivial rfl _ _ _ _).mono ?_; rintro e w' ⟨rfl, rfl⟩)
        refine wpIn_rangeFunc_ownH rfl (by omega) (gf := 82) (lb := #[.pointer (some ⟨W1.heap.size, 0, none⟩)]) rfl trivial (enters_of Try.func82 (by kernel_rfl) rfl)
          (shBack_stops Fence.wide _ trivial rfl (by omega) W1.heap.size W A n c l hz.sn _ (by simp) ((hWW.trans hBW).alloc (Nat.le_trans hWs hB.size) _) (Blk.new W1 _ _).cell0 hz.sh) belowK_t (belowK_b (Nat.le_refl _)) (Below.refl _ _) (fun _ => rfl)
          (fun pre W' => ((∀ x ∈ pre, decide (x.2.t ≤ u) = false) ∧ Ctx w #[.int .i64 b, .slice A n c, .slice A' n' c', .int .i64 f] u #[.int .i64 0, .int .i64 0] (.bool false) W') ∧ Dfs w.heap.size (W1.heap.size + 1) ds W' ∧ W1.heap.size + 1 ≤ W'.heap.size)
          (fun cc pre W' => (∃ ini x, (cc = .ret ∧ pre = ini ++ [x] ∧ (∀ x ∈ ini, decide (x.2.t ≤ u) = false) ∧ x.2.t ≤ u) ∧ Ctx w #[.int .i64 b, .slice A n c, .slice A' n' c', .int .i64 f] u #[.int .i64 x.2.t, .int .i64 x.2.o] (.bool true) W') ∧ Dfs w.heap.size (W1.heap.size + 1) ds W')
          (OwnFrom.and (OwnFrom.and (ownFrom_pure _ _) (ctx_own (by simp; omega))) (OwnFrom.and (OwnFrom.more (dfs_own _ _ _) (by simp)) (size_own _)))
          (fun cc => OwnFrom.and (fun s X Y row hs hg hr => by obtain ⟨ini, x, h1, h2⟩ := hs; exact ⟨ini, x, h1, ctx_own (B' := (W1.alloc (.cells #[.slice A n c] 22)).heap.size) (by simp; omega) () X Y row h2 hg hr⟩) (OwnFrom.more (dfs_own _ _ _) (by simp)))
          ⟨⟨by simp, Ctx.on ⟨⟨⟨⟨bz, bu⟩, br⟩, bo⟩, hB⟩ ((Below.refl _ _).alloc (Nat.le_refl _) _)⟩, (dfs.below ((Below.refl _ _).alloc (Nat.le_refl _) _) (Nat.le_refl _)).more (by omega), by simp⟩
          (fun x a' W' => ∃ Bx, w.heap.size + 1 + 1 + 1 < Bx ∧ Blk W' Bx 29 #[.int .i64 x.2.t, .int .i64 x.2.o] ∧ a' = { tmps := #[.agg #[.int .i64 b, .slice A n c, .slice A' n' c', .int .i64 f], .int .i64 u, .pointer (some ⟨w.heap.size, 0, none⟩), .pointer (some ⟨w.heap.size + 1, 0, none⟩), .pointer (some ⟨w.heap.size + 1 + 1, 0, none⟩), .pointer (some ⟨w.heap.size + 1 + 1 + 1, 0, none⟩), .int .i64 (year u), .pointer (some ⟨By, 0, none⟩), undef, undef, undef, undef, .pointer (some ⟨Bx, 0, none⟩), .int .i64 u, .int .i64 (year u), .int .i64 (year u), .int .i64 y, .pointer (some ⟨w.heap.size, 3, none⟩), .int .i64 f, .int .i64 (year u), .int .i64 (year u - 1), .int .i64 (year u - 1), .bool false, u23, u24, u25, u26, u27, undef, undef, undef, undef, undef, undef, undef, undef, undef, undef, u38, .pointer (some ⟨w.heap.size, 1, none⟩), .slice A n c, .func (.func 82) #[] #[.pointer (some ⟨W1.heap.size, 0, none⟩)], .int .i64 (x.1 : Int), shV x.2, undef, undef, undef, undef, undef, undef], defers := [] })
          (fun x a' _ X Y row hs hg hr => by obtain ⟨Bx, e1, e2, e3⟩ := hs; exact ⟨Bx, e1, blk_own Bx _ (fun (_ : Unit) => _) () X Y row e2 hg (fun r e => (hr r e).2), e3⟩)
          ?assign ?body ?done ?stop
        case assign =>
          rintro l0 pre x W' K ⟨⟨hp, ctx'⟩, dfs', sz'⟩ hK
          gi_wp2
          exact hK _ _ ((KeepsOthers.alloc _ _).from _) ((Below.refl _ W').alloc (by simp; omega) _) ⟨⟨hp, ctx'.on ((Below.refl _ _).alloc (Nat.le_refl _) _)⟩, dfs'.below ((Below.refl _ _).alloc (Nat.le_refl _) _) sz', by simp; omega⟩ ⟨W'.heap.size, ctx'.1.2.lt, Blk.new W' _ _, rfl⟩
        case body =>
          rintro l0 pre x a' W2 hl ⟨r, hr⟩ ⟨⟨hp, ctx2⟩, dfs2, sz2⟩ ⟨Bx, hBx, bx, rfl⟩ hlen
          have ctx3 := ctx2
          obtain ⟨⟨⟨⟨_, bu2⟩, br2⟩, bo2⟩, hB2⟩ := ctx3
          have x0 := bx.cell 0; have x1 := bx.cell 1
          have v1 := bu2.cell 0
          have g0 := br2.frozen 0; have g1 := br2.frozen 1; have g2 := bo2.frozen 0
          have i0 := br2.cell 0; have i1 := br2.cell 1; have i2 := bo2.cell 0
          simp at x0 x1 v1 i0 i1 i2
          have l1 := bx.lt; have l3 := bu2.lt; have l4 := br2.lt; have l5 := bo2.lt
          clear hr
          by_cases ht : x.2.t ≤ u
          · gi_wp2
            obtain ⟨c5, d5, k5⟩ := ctx_found (t := .int .i64 x.2.t) (o := .int .i64 x.2.o) ctx2 dfs2
            exact ⟨k5.from _, ⟨pre, x, ⟨rfl, rfl, hp, ht⟩, c5⟩, d5⟩
          · have ht' : u < x.2.t := by omega
            have tb : decide (x.2.t ≤ u) = false := decide_eq_false ht
            have TB := Lib.hid tb
            clear tb ht
            gi_wp2
            exact ⟨KeepsFrom.refl _ _, Below.refl _ _, ⟨fun z hz => (List.mem_append.1 hz).elim (hp z) (fun e => by simp at e; subst e; exact TB.out), ctx2⟩, dfs2, sz2⟩
        case done =>
          rintro D zs W4 hD rfl ⟨⟨hp, ctx4⟩, dfs4, sz4⟩ hK'
          simp only [World.size_alloc] at hD
          have hD' := (Array.getElem?_eq_some_iff.1 hK').1
          have s4 := ctx4.2.size
          have ctx3 := ctx4
          obtain ⟨⟨⟨⟨_, bu2⟩, br2⟩, bo2⟩, hB2⟩ := ctx3
          have g0 := br2.frozen 0; have g1 := br2.frozen 1; have g2 := bo2.frozen 0
          have i0 := br2.cell 0; have i1 := br2.cell 1; have i2 := bo2.cell 0
          simp at i0 i1 i2
          have l4 := br2.lt; have l5 := bo2.lt
          have N := Lib.hid hz.sh.1
          gi_wp2
          obtain ⟨c5, d5⟩ := ctx_lost ctx4 (dfs4.cons hD hD' (by omega) hK')
          have hbef : bef l (xs.map (·.1)) f u = none := by
            rw [bef_rest (y := y) (by omega) M.out, back_upto, ← N.out]
            exact miss_find (g := fun x : Nat × Sh => x.2) hp
          refine leaves_of (n0 := w.heap.size) (top := W4.heap.size) (D :: ds) _ d5 c5.2.size ?_
          intro w' hb hk
          have q0 := (hk _ _ _ c5.1.1.2).cell 0
          have q1 := (hk _ _ _ c5.1.1.2).cell 1
          have q2 := (hk _ _ _ c5.1.2).cell 0
          simp at q0 q1 q2
          refine ⟨.tuple #[shV ⟨0, 0⟩, .bool false], by simp [results, Try.f39, go_sem, q0, q1, q2], ?_⟩
          rw [hbef]
          exact ⟨rfl, c5.2.trans hb⟩
        case stop =>
          rintro D cc pre W4 hD ⟨kk, hkk, rfl⟩ ⟨⟨ini, x, ⟨rfl, e1, e2, e3⟩, ctx4⟩, dfs4⟩ hK'
          simp only [World.size_alloc] at hD
          have hD' := (Array.getElem?_eq_some_iff.1 hK').1
          have s4 := ctx4.2.size
          have N := Lib.hid hz.sh.1
          have E1 := Lib.hid e1
          clear e1
          gi_wp2
          have hbef : bef l (xs.map (·.1)) f u = some x.2 := by
            rw [bef_rest (y := y) (by omega) M.out, back_upto, ← N.out]
            exact hit_find (g := fun x : Nat × Sh => x.2) hkk E1.out e2 (decide_eq_true e3)
          refine leaves_of (n0 := w.heap.size) (top := W4.heap.size) (D :: ds) W4 (dfs4.cons hD hD' (by omega) hK') s4 ?_
          intro w' hb hk
          have q0 := (hk _ _ _ ctx4.1.1.2).cell 0
          have q1 := (hk _ _ _ ctx4.1.1.2).cell 1
          have q2 := (hk _ _ _ ctx4.1.2).cell 0
          simp at q0 q1 q2
          refine ⟨.tuple #[shV x.2, .bool true], by simp [results, Try.f39, go_sem, q0, q1, q2], ?_⟩
          rw [hbef]
          exact ⟨rfl, ctx4.2.trans hb⟩
    · have hm' : year u - 1 ≤ f := by omega
      clear hm
      by_cases hc : f ≤ y
      · gi_wp2_with (refine ⟨trivial, ?_⟩; gi_at_call 62; refine (yrBack_in _ _ trivial rfl _ _ _ _).mono ?_; rintro e w' ⟨rfl, rfl⟩)
        refine wpIn_rangeFunc_ownH rfl (by omega) (gf := 80) (lb := #[.pointer (some ⟨W1.heap.size, 0, none⟩)]) rfl trivial (enters_of Try.func80 (by kernel_rfl) rfl)
          (yrBack_stops Fence.wide _ trivial rfl (by omega) W1.heap.size W A' n' c' xs hz.yn _ (by simp) ((hWW.trans hBW).alloc (Nat.le_trans hWs hB.size) _) (Blk.new W1 _ _).cell0 hz.yr) belowK_t (belowK_b (Nat.le_refl _)) (Below.refl _ _) (fun _ => rfl)
          (fun pre W' => ((∀ x ∈ pre, decide ((inY x.2.1 y).t ≤ u) = false) ∧ Ctx w #[.int .i64 b, .slice A n c, .slice A' n' c', .int .i64 f] u #[.int .i64 0, .int .i64 0] (.bool false) W') ∧ Blk W' By 3 #[.int .i64 y] ∧ Dfs w.heap.size (W1.heap.size + 1) ds W' ∧ W1.heap.size + 1 ≤ W'.heap.size)
          (fun cc pre W' => (∃ ini x, (cc = .ret ∧ pre = ini ++ [x] ∧ (∀ x ∈ ini, decide ((inY x.2.1 y).t ≤ u) = false) ∧ (inY x.2.1 y).t ≤ u) ∧ Ctx w #[.int .i64 b, .slice A n c, .slice A' n' c', .int .i64 f] u #[.int .i64 (inY x.2.1 y).t, .int .i64 (inY x.2.1 y).o] (.bool true) W') ∧ Dfs w.heap.size (W1.heap.size + 1) ds W')
          (OwnFrom.and (OwnFrom.and (ownFrom_pure _ _) (ctx_own (by simp; omega))) (OwnFrom.and ((blk_own _ _ (fun _ => #[.int .i64 y])).from _) (OwnFrom.and (OwnFrom.more (dfs_own _ _ _) (by simp)) (size_own _))))
          (fun cc => OwnFrom.and (fun s A B row hs hg hr => by obtain ⟨ini, x, h1, h2⟩ := hs; exact ⟨ini, x, h1, ctx_own (B' := (W1.alloc (.cells #[.slice A' n' c'] 23)).heap.size) (by simp; omega) () A B row h2 hg hr⟩) (OwnFrom.more (dfs_own _ _ _) (by simp)))
          ⟨⟨by simp, Ctx.on ⟨⟨⟨⟨bz, bu⟩, br⟩, bo⟩, hB⟩ ((Below.refl _ _).alloc (Nat.le_refl _) _)⟩, by1.alloc _, (dfs.below ((Below.refl _ _).alloc (Nat.le_refl _) _) (Nat.le_refl _)).more (by omega), by simp⟩
          (fun x a' W' => ∃ Bx, w.heap.size + 1 + 1 + 1 < Bx ∧ Blk W' Bx 60 #[.int .i64 x.2.1.m, .int .i64 x.2.1.k, .int .i64 x.2.1.d, .int .i64 x.2.1.s, .int .i64 x.2.1.o] ∧ a' = { tmps := #[.agg #[.int .i64 b, .slice A n c, .slice A' n' c', .int .i64 f], .int .i64 u, .pointer (some ⟨w.heap.size, 0, none⟩), .pointer (some ⟨w.heap.size + 1, 0, none⟩), .pointer (some ⟨w.heap.size + 1 + 1, 0, none⟩), .pointer (some ⟨w.heap.size + 1 + 1 + 1, 0, none⟩), .int .i64 (year u), .pointer (some ⟨By, 0, none⟩), undef, .pointer (some ⟨Bx, 0, none⟩), undef, undef, undef, .int .i64 u, .int .i64 (year u), .int .i64 (year u), .int .i64 y, .pointer (some ⟨w.heap.size, 3, none⟩), .int .i64 f, .int .i64 (year u), .int .i64 (year u - 1), .int .i64 f, .bool true, u23, u24, .pointer (some ⟨w.heap.size, 2, none⟩), .slice A' n' c', .func (.func 80) #[] #[.pointer (some ⟨W1.heap.size, 0, none⟩)], .int .i64 (x.1 : Int), yrV x.2.1, undef, undef, undef, undef, undef, undef, undef, undef, u38, undef, undef, undef, undef, undef, undef, undef, undef, undef, undef, undef], defers := [] })
          (fun x a' _ X Y row hs hg hr => by obtain ⟨Bx, e1, e2, e3⟩ := hs; exact ⟨Bx, e1, blk_own Bx _ (fun (_ : Unit) => _) () X Y row e2 hg (fun r e => (hr r e).2), e3⟩)
          ?assign ?body ?done ?stop
        case assign =>
          rintro l0 pre x W' K ⟨⟨hp, ctx'⟩, by', dfs', sz'⟩ hK
          gi_wp2
          exact hK _ _ ((KeepsOthers.alloc _ _).from _) ((Below.refl _ W').alloc (by simp; omega) _) ⟨⟨hp, ctx'.on ((Below.refl _ _).alloc (Nat.le_refl _) _)⟩, by'.alloc _, dfs'.below ((Below.refl _ _).alloc (Nat.le_refl _) _) sz', by simp; omega⟩ ⟨W'.heap.size, ctx'.1.2.lt, Blk.new W' _ _, rfl⟩
        case body =>
          rintro l0 pre x a' W2 hl ⟨r, hr⟩ ⟨⟨hp, ctx2⟩, yb, dfs2, sz2⟩ ⟨Bx, hBx, bx, rfl⟩ hlen
          have fy : 1 ≤ f := hf1 (by omega)
          have ctx3 := ctx2
          obtain ⟨⟨⟨⟨_, bu2⟩, br2⟩, bo2⟩, hB2⟩ := ctx3
          have x0 := bx.cell 0; have x1 := bx.cell 1; have x2 := bx.cell 2; have x3 := bx.cell 3; have x4 := bx.cell 4
          have v0 := yb.cell 0; have v1 := bu2.cell 0
          have g0 := br2.frozen 0; have g1 := br2.frozen 1; have g2 := bo2.frozen 0
          have i0 := br2.cell 0; have i1 := br2.cell 1; have i2 := bo2.cell 0
          simp at x0 x1 x2 x3 x4 v0 v1 i0 i1 i2
          have l1 := bx.lt; have l2 := yb.lt; have l3 := bu2.lt; have l4 := br2.lt; have l5 := bo2.lt
          clear hr
          by_cases ht : (inY x.2.1 y).t ≤ u
          · gi_wp2_with (refine ⟨trivial, ?_⟩; gi_at_call 63; refine (CallsIn.inRound l0 (wide_call (inYear_any x.2.1 y _ x.2.2 (by omega) (by omega)))).mono ?_; rintro e w3 ⟨rfl, hb3⟩; obtain ⟨⟨⟨⟨_, bu3⟩, br3⟩, bo3⟩, _⟩ := ctx2.on hb3; have m1 := bu3.lt; have m2 := br3.lt; have m3 := bo3.lt; have e0 := bu3.cell 0; have e1 := br3.frozen 0; have e2 := br3.frozen 1; have e3 := bo3.frozen 0; have e4 := br3.cell 0; have e5 := br3.cell 1; have e6 := bo3.cell 0; simp at e0 e4 e5 e6)
            obtain ⟨c5, d5, k5⟩ := ctx_found (t := .int .i64 (inY x.2.1 y).t) (o := .int .i64 (inY x.2.1 y).o) (ctx2.on hb3) (dfs2.below hb3 sz2)
            have ba := (Below.refl _ _).alloc (Nat.le_refl _) (.cells #[.int .i64 (inY x.2.1 y).t, .int .i64 (inY x.2.1 y).o] 29) (w := ((w3.setCell ⟨w.heap.size + 1 + 1, 0, none⟩ (.int .i64 (inY x.2.1 y).t)).setCell ⟨w.heap.size + 1 + 1, 1, none⟩ (.int .i64 (inY x.2.1 y).o)).setCell ⟨w.heap.size + 1 + 1 + 1, 0, none⟩ (.bool true))
            exact ⟨((keeps_below _ hb3).trans (k5.from _)).trans (keeps_below _ ba), ⟨pre, x, ⟨rfl, rfl, hp, ht⟩, c5.on ba⟩, d5.below ba (Nat.le_trans (Nat.le_trans sz2 hb3.size) k5.size)⟩
          · have ht' : u < (inY x.2.1 y).t := by omega
            have tb : decide ((inY x.2.1 y).t ≤ u) = false := decide_eq_false ht
            have TB := Lib.hid tb
            clear tb ht
            gi_wp2_with (refine ⟨trivial, ?_⟩; gi_at_call 63; refine (CallsIn.inRound l0 (wide_call (inYear_any x.2.1 y _ x.2.2 (by omega) (by omega)))).mono ?_; rintro e w3 ⟨rfl, hb3⟩; obtain ⟨⟨⟨⟨_, bu3⟩, br3⟩, bo3⟩, _⟩ := ctx2.on hb3; have m1 := bu3.lt; have m2 := br3.lt; have m3 := bo3.lt; have e0 := bu3.cell 0; have e1 := br3.frozen 0; have e2 := br3.frozen 1; have e3 := bo3.frozen 0; have e4 := br3.cell 0; have e5 := br3.cell 1; have e6 := bo3.cell 0; simp at e0 e4 e5 e6)
            have ba := (Below.refl _ _).alloc (Nat.le_refl _) (.cells #[.int .i64 (inY x.2.1 y).t, .int .i64 (inY x.2.1 y).o] 29) (w := w3)
            have bb := hb3.trans (ba.mono hb3.size)
            exact ⟨keeps_below _ bb, bb.mono (by simp; omega), ⟨fun z hz => (List.mem_append.1 hz).elim (hp z) (fun e => by simp at e; subst e; exact TB.out), ctx2.on bb⟩, yb.below bb yb.lt, dfs2.below bb sz2, Nat.le_trans sz2 bb.size⟩
        case done =>
          rintro D zs W4 hD rfl ⟨⟨hp, ctx4⟩, yb, dfs4, sz4⟩ hK'
          simp only [World.size_alloc] at hD
          have hD' := (Array.getElem?_eq_some_iff.1 hK').1
          have s4 := ctx4.2.size
          have v0 := yb.cell 0
          simp at v0
          have l2 := yb.lt
          have ba := (Below.refl _ _).alloc (Nat.le_refl _) (.cells #[.int .i64 (y - 1)] 3) (w := W4)
          have nn := hz.yr.1
          rw [List.length_map] at nn
          have N := Lib.hid nn
          clear nn
          gi_wp2
          refine ⟨k - 1, by have := EY.out; omega, hJ _ _ _ ⟨D :: ds, W4.heap.size, y - 1, _, _, _, _, _, _, _, _, _, _, _, _, _, rfl, ctx4.on ba, Blk.new _ _ _, ctx4.1.2.lt, ((dfs4.cons hD hD' (by omega) hK').below ba (Nat.le_refl _)).more ba.size, by have := EY.out; omega, by omega, fun z z1 z2 s hs => ?_⟩⟩
          by_cases e : z = y
          · subst e
            rw [rows_upto, ← N.out] at hs
            obtain ⟨x, hx, rfl⟩ := List.mem_map.1 hs
            exact hp x hx
          · exact M.out z (by omega) z2 s hs
        case stop =>
          rintro D cc pre W4 hD ⟨kk, hkk, rfl⟩ ⟨⟨ini, x, ⟨rfl, e1, e2, e3⟩, ctx4⟩, dfs4⟩ hK'
          simp only [World.size_alloc] at hD
          have hD' := (Array.getElem?_eq_some_iff.1 hK').1
          have s4 := ctx4.2.size
          have nn := hz.yr.1
          rw [List.length_map] at nn
          have N := Lib.hid nn
          have E1 := Lib.hid e1
          clear nn e1
          gi_wp2
          have hbef : bef l (xs.map (·.1)) f u = some (inY x.2.1 y) := by
            refine bef_hit (y := y) (by omega) (by omega) yh M.out ?_
            rw [rows_upto, ← N.out]
            exact hit_find (g := fun x : Nat × Yok => inY x.2.1 y) hkk E1.out e2 (decide_eq_true e3)
          refine leaves_of (n0 := w.heap.size) (top := W4.heap.size) (D :: ds) W4 (dfs4.cons hD hD' (by omega) hK') s4 ?_
          intro w' hb hk
          have q0 := (hk _ _ _ ctx4.1.1.2).cell 0
          have q1 := (hk _ _ _ ctx4.1.1.2).cell 1
          have q2 := (hk _ _ _ ctx4.1.2).cell 0
          simp at q0 q1 q2
          refine ⟨.tuple #[shV (inY x.2.1 y), .bool true], by simp [results, Try.f39, go_sem, q0, q1, q2], ?_⟩
          rw [hbef]
          exact ⟨rfl, ctx4.2.trans hb⟩
      · have hc' : y < f := by omega
        have hd : decide (f ≤ y) = false := decide_eq_false hc
        clear hc
        gi_wp2_with (refine ⟨trivial, ?_⟩; gi_at_call 64; refine (shBack_in _ _ trivial rfl _ _ _ _).mono ?_; rintro e w' ⟨rfl, rfl⟩)
        refine wpIn_rangeFunc_ownH rfl (by omega) (gf := 82) (lb := #[.pointer (some ⟨W1.heap.size, 0, none⟩)]) rfl trivial (enters_of Try.func82 (by kernel_rfl) rfl)
          (shBack_stops Fence.wide _ trivial rfl (by omega) W1.heap.size W A n c l hz.sn _ (by simp) ((hWW.trans hBW).alloc (Nat.le_trans hWs hB.size) _) (Blk.new W1 _ _).cell0 hz.sh) belowK_t (belowK_b (Nat.le_refl _)) (Below.refl _ _) (fun _ => rfl)
          (fun pre W' => ((∀ x ∈ pre, decide (x.2.t ≤ u) = false) ∧ Ctx w #[.int .i64 b, .slice A n c, .slice A' n' c', .int .i64 f] u #[.int .i64 0, .int .i64 0] (.bool false) W') ∧ Dfs w.heap.size (W1.heap.size + 1) ds W' ∧ W1.heap.size + 1 ≤ W'.heap.size)
          (fun cc pre W' => (∃ ini x, (cc = .ret ∧ pre = ini ++ [x] ∧ (∀ x ∈ ini, decide (x.2.t ≤ u) = false) ∧ x.2.t ≤ u) ∧ Ctx w #[.int .i64 b, .slice A n c, .slice A' n' c', .int .i64 f] u #[.int .i64 x.2.t, .int .i64 x.2.o] (.bool true) W') ∧ Dfs w.heap.size (W1.heap.size + 1) ds W')
          (OwnFrom.and (OwnFrom.and (ownFrom_pure _ _) (ctx_own (by simp; omega))) (OwnFrom.and (OwnFrom.more (dfs_own _ _ _) (by simp)) (size_own _)))
          (fun cc => OwnFrom.and (fun s X Y row hs hg hr => by obtain ⟨ini, x, h1, h2⟩ := hs; exact ⟨ini, x, h1, ctx_own (B' := (W1.alloc (.cells #[.slice A n c] 22)).heap.size) (by simp; omega) () X Y row h2 hg hr⟩) (OwnFrom.more (dfs_own _ _ _) (by simp)))
          ⟨⟨by simp, Ctx.on ⟨⟨⟨⟨bz, bu⟩, br⟩, bo⟩, hB⟩ ((Below.refl _ _).alloc (Nat.le_refl _) _)⟩, (dfs.below ((Below.refl _ _).alloc (Nat.le_refl _) _) (Nat.le_refl _)).more (by omega), by simp⟩
          (fun x a' W' => ∃ Bx, w.heap.size + 1 + 1 + 1 < Bx ∧ Blk W' Bx 29 #[.int .i64 x.2.t, .int .i64 x.2.o] ∧ a' = { tmps := #[.agg #[.int .i64 b, .slice A n c, .slice A' n' c', .int .i64 f], .int .i64 u, .pointer (some ⟨w.heap.size, 0, none⟩), .pointer (some ⟨w.heap.size + 1, 0, none⟩), .pointer (some ⟨w.heap.size + 1 + 1, 0, none⟩), .pointer (some ⟨w.heap.size + 1 + 1 + 1, 0, none⟩), .int .i64 (year u), .pointer (some ⟨By, 0, none⟩), undef, undef, undef, undef, .pointer (some ⟨Bx, 0, none⟩), .int .i64 u, .int .i64 (year u), .int .i64 (year u), .int .i64 y, .pointer (some ⟨w.heap.size, 3, none⟩), .int .i64 f, .int .i64 (year u), .int .i64 (year u - 1), .int .i64 f, .bool false, u23, u24, u25, u26, u27, undef, undef, undef, undef, undef, undef, undef, undef, undef, undef, u38, .pointer (some ⟨w.heap.size, 1, none⟩), .slice A n c, .func (.func 82) #[] #[.pointer (some ⟨W1.heap.size, 0, none⟩)], .int .i64 (x.1 : Int), shV x.2, undef, undef, undef, undef, undef, undef], defers := [] })
          (fun x a' _ X Y row hs hg hr => by obtain ⟨Bx, e1, e2, e3⟩ := hs; exact ⟨Bx, e1, blk_own Bx _ (fun (_ : Unit) => _) () X Y row e2 hg (fun r e => (hr r e).2), e3⟩)
          ?assign ?body ?done ?stop
        case assign =>
          rintro l0 pre x W' K ⟨⟨hp, ctx'⟩, dfs', sz'⟩ hK
          gi_wp2
          exact hK _ _ ((KeepsOthers.alloc _ _).from _) ((Below.refl _ W').alloc (by simp; omega) _) ⟨⟨hp, ctx'.on ((Below.refl _ _).alloc (Nat.le_refl _) _)⟩, dfs'.below ((Below.refl _ _).alloc (Nat.le_refl _) _) sz', by simp; omega⟩ ⟨W'.heap.size, ctx'.1.2.lt, Blk.new W' _ _, rfl⟩
        case body =>
          rintro l0 pre x a' W2 hl ⟨r, hr⟩ ⟨⟨hp, ctx2⟩, dfs2, sz2⟩ ⟨Bx, hBx, bx, rfl⟩ hlen
          have ctx3 := ctx2
          obtain ⟨⟨⟨⟨_, bu2⟩, br2⟩, bo2⟩, hB2⟩ := ctx3
          have x0 := bx.cell 0; have x1 := bx.cell 1
          have v1 := bu2.cell 0
          have g0 := br2.frozen 0; have g1 := br2.frozen 1; have g2 := bo2.frozen 0
          have i0 := br2.cell 0; have i1 := br2.cell 1; have i2 := bo2.cell 0
          simp at x0 x1 v1 i0 i1 i2
          have l1 := bx.lt; have l3 := bu2.lt; have l4 := br2.lt; have l5 := bo2.lt
          clear hr
          by_cases ht : x.2.t ≤ u
          · gi_wp2
            obtain ⟨c5, d5, k5⟩ := ctx_found (t := .int .i64 x.2.t) (o := .int .i64 x.2.o) ctx2 dfs2
            exact ⟨k5.from _, ⟨pre, x, ⟨rfl, rfl, hp, ht⟩, c5⟩, d5⟩
          · have ht' : u < x.2.t := by omega
            have tb : decide (x.2.t ≤ u) = false := decide_eq_false ht
            have TB := Lib.hid tb
            clear tb ht
            gi_wp2
            exact ⟨KeepsFrom.refl _ _, Below.refl _ _, ⟨fun z hz => (List.mem_append.1 hz).elim (hp z) (fun e => by simp at e; subst e; exact TB.out), ctx2⟩, dfs2, sz2⟩
        case done =>
          rintro D zs W4 hD rfl ⟨⟨hp, ctx4⟩, dfs4, sz4⟩ hK'
          simp only [World.size_alloc] at hD
          have hD' := (Array.getElem?_eq_some_iff.1 hK').1
          have s4 := ctx4.2.size
          have ctx3 := ctx4
          obtain ⟨⟨⟨⟨_, bu2⟩, br2⟩, bo2⟩, hB2⟩ := ctx3
          have g0 := br2.frozen 0; have g1 := br2.frozen 1; have g2 := bo2.frozen 0
          have i0 := br2.cell 0; have i1 := br2.cell 1; have i2 := bo2.cell 0
          simp at i0 i1 i2
          have l4 := br2.lt; have l5 := bo2.lt
          have N := Lib.hid hz.sh.1
          gi_wp2
          obtain ⟨c5, d5⟩ := ctx_lost ctx4 (dfs4.cons hD hD' (by omega) hK')
          have hbef : bef l (xs.map (·.1)) f u = none := by
            rw [bef_rest (y := y) (by omega) M.out, back_upto, ← N.out]
            exact miss_find (g := fun x : Nat × Sh => x.2) hp
          refine leaves_of (n0 := w.heap.size) (top := W4.heap.size) (D :: ds) _ d5 c5.2.size ?_
          intro w' hb hk
          have q0 := (hk _ _ _ c5.1.1.2).cell 0
          have q1 := (hk _ _ _ c5.1.1.2).cell 1
          have q2 := (hk _ _ _ c5.1.2).cell 0
          simp at q0 q1 q2
          refine ⟨.tuple #[shV ⟨0, 0⟩, .bool false], by simp [results, Try.f39, go_sem, q0, q1, q2], ?_⟩
          rw [hbef]
          exact ⟨rfl, c5.2.trans hb⟩
        case stop =>
          rintro D cc pre W4 hD ⟨kk, hkk, rfl⟩ ⟨⟨ini, x, ⟨rfl, e1, e2, e3⟩, ctx4⟩, dfs4⟩ hK'
          simp only [World.size_alloc] at hD
          have hD' := (Array.getElem?_eq_some_iff.1 hK').1
          have s4 := ctx4.2.size
          have N := Lib.hid hz.sh.1
          have E1 := Lib.hid e1
          clear e1
          gi_wp2
          have hbef : bef l (xs.map (·.1)) f u = some x.2 := by
            rw [bef_rest (y := y) (by omega) M.out, back_upto, ← N.out]
            exact hit_find (g := fun x : Nat × Sh => x.2) hkk E1.out e2 (decide_eq_true e3)
          refine leaves_of (n0 := w.heap.size) (top := W4.heap.size) (D :: ds) W4 (dfs4.cons hD hD' (by omega) hK') s4 ?_
          intro w' hb hk
          have q0 := (hk _ _ _ ctx4.1.1.2).cell 0
          have q1 := (hk _ _ _ ctx4.1.1.2).cell 1
          have q2 := (hk _ _ _ ctx4.1.2).cell 0
          simp at q0 q1 q2
          refine ⟨.tuple #[shV x.2, .bool true], by simp [results, Try.f39, go_sem, q0, q1, q2], ?_⟩
          rw [hbef]
          exact ⟨rfl, ctx4.2.trans hb⟩
end Go.Proofs.Ytbinhnlajflndaa.Zn
