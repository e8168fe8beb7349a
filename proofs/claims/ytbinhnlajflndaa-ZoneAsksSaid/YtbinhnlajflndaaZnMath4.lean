/- More plain words for package zone: a search from the end, round by round; and blocks that a loop over an iterator leaves alone. -/
import Derived.Test.YtbinhnlajflndaaZnBack
import Derived.Sort.LoopGhostIn
import Derived.Laws.Rows
set_option linter.unusedVariables false
namespace Go.Proofs.Ytbinhnlajflndaa.Zn
open Go.RowKit Go.Shelf Cv St

theorem upto_split {α : Type} (F : Nat → α) {k : Nat} : ∀ {n : Nat}, k ≤ n → ∃ r, upto F n = upto F k ++ r
  | 0, h => ⟨[], by obtain rfl : k = 0 := by omega
                    simp⟩
  | n + 1, h => by
    by_cases e : k = n + 1
    · subst e; exact ⟨[], by simp⟩
    · obtain ⟨r, hr⟩ := upto_split F (k := k) (n := n) (by omega)
      exact ⟨r ++ [F n], by rw [upto_succ, hr, List.append_assoc]⟩
theorem hit_find {α : Type} {F : Nat → α} {n k : Nat} {g : α → Sh} {p : Sh → Bool} {ini : List α} {x : α} (hk : k ≤ n) (e : upto F k = ini ++ [x]) (hm : ∀ y ∈ ini, p (g y) = false) (hx : p (g x) = true) : ((upto F n).map g).find? p = some (g x) := by
  obtain ⟨r, hr⟩ := upto_split F hk
  have h0 : (ini.map g).find? p = none := by
    rw [List.find?_eq_none]; intro y hy
    obtain ⟨z, hz, rfl⟩ := List.mem_map.1 hy
    rw [hm z hz]; decide
  rw [hr, e, List.map_append, List.map_append, List.find?_append, List.find?_append, h0]
  simp [hx]
theorem miss_find {α : Type} {F : Nat → α} {n : Nat} {g : α → Sh} {p : Sh → Bool} (hm : ∀ y ∈ upto F n, p (g y) = false) : ((upto F n).map g).find? p = none := by
  rw [List.find?_eq_none]; intro y hy
  obtain ⟨z, hz, rfl⟩ := List.mem_map.1 hy
  rw [hm z hz]; decide
theorem rows_upto (xs : List Yok) (y : Int) : rows (xs.map (·.1)) y = (upto (yrAt xs xs.length) xs.length).map (fun x => inY x.2.1 y) := by
  unfold rows
  apply List.ext_getElem
  · simp [upto]
  · intro i h1 h2
    have hi : i < xs.length := by simpa using h1
    have hj : xs.length - 1 - i < xs.length := by omega
    simp [upto, yrAt, yok, List.getElem_reverse, hj]
theorem back_upto (l : List Sh) : l.reverse = (upto (shAt l l.length) l.length).map (·.2) := by
  apply List.ext_getElem
  · simp [upto]
  · intro i h1 h2
    have hi : i < l.length := by simpa using h1
    have hj : l.length - 1 - i < l.length := by omega
    simp [upto, shAt, at_, List.getElem_reverse, hj]
/-- of the years above y none has a shift that is not later -/
def Miss (ys : List Yr) (u y : Int) : Prop := ∀ z, y < z → z ≤ year u → ∀ s ∈ rows ys z, decide (s.t ≤ u) = false
theorem miss_top (ys : List Yr) (u : Int) : Miss ys u (year u) := fun z h1 h2 => by omega
theorem find_none_of {L : List Sh} {p : Sh → Bool} (h : ∀ s ∈ L, p s = false) : L.find? p = none := by
  rw [List.find?_eq_none]; intro s hs; rw [h s hs]; decide
theorem bef_hit {l : List Sh} {ys : List Yr} {f u y : Int} {s : Sh} (h1 : f ≤ y) (h2 : year u - 1 ≤ y) (h3 : y ≤ year u) (hm : Miss ys u y) (hs : (rows ys y).find? (fun s => decide (s.t ≤ u)) = some s) : bef l ys f u = some s := by
  unfold bef befL
  by_cases e : y = year u
  · subst e
    rw [if_pos h1, List.append_assoc, List.find?_append, hs]; rfl
  · obtain rfl : y = year u - 1 := by omega
    have := find_none_of (hm (year u) (by omega) (Int.le_refl _))
    rw [if_pos (by omega), if_pos h1, List.append_assoc, List.find?_append, this, List.find?_append, hs]; rfl
theorem bef_rest {l : List Sh} {ys : List Yr} {f u y : Int} (h1 : y < max f (year u - 1)) (hm : Miss ys u y) : bef l ys f u = l.reverse.find? (fun s => decide (s.t ≤ u)) := by
  unfold bef befL
  by_cases c : f ≤ year u - 1
  · have a := find_none_of (hm (year u) (by omega) (Int.le_refl _))
    have b := find_none_of (hm (year u - 1) (by omega) (by omega))
    rw [if_pos (by omega), if_pos c, List.append_assoc, List.find?_append, a, List.find?_append, b]; rfl
  · by_cases d : f ≤ year u
    · have a := find_none_of (hm (year u) (by omega) (Int.le_refl _))
      rw [if_pos d, if_neg c, List.append_nil, List.find?_append, a]; rfl
    · rw [if_neg d, if_neg c]; rfl
/-- block g is just these cells -/
def Blk (w : World) (g : Nat) (t : TypeId) (cs : Array Value) : Prop := w.heap[g]? = some (.cells cs t (0, 0))
section
variable {w w' : World} {g : Nat} {t : TypeId} {cs : Array Value}
theorem Blk.lt (h : Blk w g t cs) : g < w.heap.size := (Array.getElem?_eq_some_iff.1 h).1
theorem Blk.cell (h : Blk w g t cs) (i : Nat) : w.cell? ⟨g, i, none⟩ = cs[i]? := cell_of_row w g i cs t (0, 0) h
theorem Blk.frozen (h : Blk w g t cs) (i : Nat) : w.frozen? ⟨g, i, none⟩ = false := by unfold Blk at h; simp [World.frozen?, h]
theorem Blk.new (w : World) (t : TypeId) (cs : Array Value) : Blk (w.alloc (.cells cs t)) w.heap.size t cs := World.alloc_heap_new w _
theorem Blk.below {B : Nat} (h : Blk w g t cs) (hb : Below B w w') (hg : g < B) : Blk w' g t cs := (hb.block g hg).trans h
theorem Blk.alloc (h : Blk w g t cs) (o : Obj) : Blk (w.alloc o) g t cs := (Below.heap_alloc w o g h.lt).trans h
theorem Blk.set_ (h : Blk w g t cs) (i : Nat) (u : Value) : Blk (w.setCell ⟨g, i, none⟩ u) g t (cs.setIfInBounds i u) := by
  unfold Blk at h ⊢
  simp [World.setCell, Array.getElem?_modify, h]
theorem Blk.far (h : Blk w g t cs) {p : Addr} (hp : g ≠ p.block) (u : Value) : Blk (w.setCell p u) g t cs := (Below.heap_setCell w p u g hp).trans h
theorem Blk.drew (h : Blk w g t cs) : Blk w.drew g t cs := h
end
theorem blk_own {β : Type} (g : Nat) (t : TypeId) (f : β → Array Value) : Own (fun s W => Blk W g t (f s)) := fun s X Y row hs hg hrow =>
  (hg.block g (Blk.lt hs) (fun e' => by obtain ⟨o, ho, hc⟩ := hrow g e'.symm; rw [show X.heap[g]? = _ from hs] at ho; cases ho; cases hc)).trans hs
/-- blocks for a loop's deferred calls, none of which came -/
def Dfs (n0 top : Nat) (ds : List Nat) (w : World) : Prop := ds.Nodup ∧ ∀ D ∈ ds, n0 ≤ D ∧ D < top ∧ w.heap[D]? = some (.deferred (some []))
def dsl (ds : List Nat) : List Deferred := ds.map fun D => { target := .collected D, args := #[] }
theorem Dfs.below {n0 top B : Nat} {ds : List Nat} {w w' : World} (h : Dfs n0 top ds w) (hb : Below B w w') (ht : top ≤ B) : Dfs n0 top ds w' :=
  ⟨h.1, fun D hD => ⟨(h.2 D hD).1, (h.2 D hD).2.1, (hb.block D (by have := (h.2 D hD).2.1; omega)).trans (h.2 D hD).2.2⟩⟩
theorem Dfs.far {n0 top : Nat} {ds : List Nat} {w : World} {g : Nat} {t : TypeId} {cs : Array Value} (h : Dfs n0 top ds w) (hg : Blk w g t cs) (i : Nat) (v : Value) : Dfs n0 top ds (w.setCell ⟨g, i, none⟩ v) :=
  ⟨h.1, fun D hD => ⟨(h.2 D hD).1, (h.2 D hD).2.1, (Below.heap_setCell w ⟨g, i, none⟩ v D (fun e => by
    have h1 := (h.2 D hD).2.2
    simp only at e
    subst e
    rw [show w.heap[D]? = _ from hg] at h1; cases h1)).trans (h.2 D hD).2.2⟩⟩
theorem Dfs.cons {n0 top top' D : Nat} {ds : List Nat} {w : World} (h : Dfs n0 top ds w) (h1 : top ≤ D) (h2 : D < top') (h3 : n0 ≤ D) (hD : w.heap[D]? = some (.deferred (some []))) : Dfs n0 top' (D :: ds) w := by
  refine ⟨List.nodup_cons.2 ⟨fun hm => by have := (h.2 D hm).2.1; omega, h.1⟩, fun E hE => ?_⟩
  rcases List.mem_cons.1 hE with rfl | hE
  · exact ⟨h3, h2, hD⟩
  · have := h.2 E hE; exact ⟨this.1, by omega, this.2.2⟩
theorem dfs_own {β : Type} (n0 top : Nat) (ds : List Nat) : OwnFrom top (fun (_ : β) W => Dfs n0 top ds W) := fun s X Y row hs hg hr =>
  ⟨hs.1, fun D hD => ⟨(hs.2 D hD).1, (hs.2 D hD).2.1, (hg.block D (Array.getElem?_eq_some_iff.1 (hs.2 D hD).2.2).1 (fun e => by have := (hr D e.symm).1; have := (hs.2 D hD).2.1; omega)).trans (hs.2 D hD).2.2⟩⟩
theorem keeps_below {W W' : World} (B : Nat) (h : Below W.heap.size W W') : KeepsFrom B W W' :=
  ⟨h.size, fun k o _ hk _ => (h.block k (Array.getElem?_eq_some_iff.1 hk).1).trans hk⟩
/-- a function that held loops over iterators leaves -/
theorem leaves_of {F : Fence} {n : Nat} {P : Program} {fn : Func} {tmps : Array Value} {R : Ending → World → Prop} {n0 top : Nat} : ∀ (ds : List Nat) (w : World), Dfs n0 top ds w → n0 ≤ w.heap.size →
    (∀ w', Below n0 w w' → (∀ g t cs, Blk w g t cs → Blk w' g t cs) → ∃ v, (results fn tmps).run P w' = .ok v w' ∧ R (.returned v) w') → LeavesInM F n P fn tmps R (dsl ds) .returning w
  | [], w, _, _, h => show ∃ v, (results fn tmps).run P w = .ok v w ∧ R (.returned v) w from h w (Below.refl _ _) fun _ _ _ h => h
  | D :: ds, w, hd, hn, h => by
    have hD := hd.2 D (List.mem_cons_self ..)
    have hlt := (Array.getElem?_eq_some_iff.1 hD.2.2).1
    have hg := grownBy_putObj' w D (.deferred none)
    have hb : Below n0 w (w.putObj D (.deferred none)) := (Below.refl n0 w).grown hg hn (fun k e => by cases e; exact hD.1)
    refine ⟨by simp, .inl ⟨_, _, rfl, run_takeDeferred hD.2.2, ?_⟩⟩
    refine leaves_of (n0 := n0) (top := top) ds _ ⟨(List.nodup_cons.1 hd.1).2, fun E hE => ?_⟩ (Nat.le_trans hn hb.size) fun w' h1 h2 => h w' (hb.trans h1) fun g t cs hk => h2 g t cs ?_
    · have hE' := hd.2 E (List.mem_cons_of_mem _ hE)
      exact ⟨hE'.1, hE'.2.1, (hg.block E (Array.getElem?_eq_some_iff.1 hE'.2.2).1 (fun e => (List.nodup_cons.1 hd.1).1 (by cases e; exact hE))).trans hE'.2.2⟩
    · exact (hg.block g hk.lt (fun e => by
        have e' : g = D := Option.some.inj e
        have h3 := hD.2.2
        rw [← e', show w.heap[g]? = _ from hk] at h3; cases h3)).trans hk
end Go.Proofs.Ytbinhnlajflndaa.Zn
