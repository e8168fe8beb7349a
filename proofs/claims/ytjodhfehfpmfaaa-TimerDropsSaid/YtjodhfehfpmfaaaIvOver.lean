/- The walks of iv.below and (*Set).over: sort.Search by its contract. -/
import Derived.Test.YtjodhfehfpmfaaaIvA
import Derived.Test.YtjodhfehfpmfaaaIvSet2
import Derived.Test.YtjodhfehfpmfaaaShelf
set_option linter.unusedVariables false
namespace Go.Proofs.Ytjodhfehfpmfaaa.Iv
open Go.RowKit Go.Sort

theorem below_grow (w : World) (q : Nat) (os : Array Obj) : Below w.heap.size w (grow (w.drewN q) os) := by
  refine ⟨rfl, rfl, rfl, ?_, fun k hk => ?_⟩
  · unfold grow; simp
  · unfold grow
    show ((w.drewN q).heap ++ os)[k]? = _
    exact Array.getElem?_append_left hk
theorem count_is {l : List Tg} {n : Nat} (hn : n = l.length) (p : Tg → Bool) : (List.range n).countP (fun i => !p (gt l i)) = l.countP fun t => !p t :=
  range_count l (fun t => !p t) n hn
set_option maxRecDepth 100000 in
/-- iv.below -/
theorem below_is (w : World) (A : Option Addr) (n c : Nat) (l : List Tg) (hi : Int) (hA : TgAt w A n l) (hr : l.Pairwise fun a b => a.1.1 < b.1.1) (hn : n ≤ 1000000) :
    Calls Try.prog 92 #[.slice A n c, .int .i64 hi] w fun e w' => e = .returned (.int .i64 (toB hi l : Nat)) ∧ Below w.heap.size w w' := by
  have LN := Lib.hid hA.1
  have eg : ∀ args w, (callFunc 115 args).run Try.prog w = .ok (.enter 115 args) w := enters_of Try.func115 (by kernel_rfl) rfl
  have BB := Lib.hid (show Below w.heap.size w ((w.alloc (.cells #[.slice A n c] 50)).alloc (.cells #[.int .i64 hi] 3)) from (below_alloc _ _).trans ((below_alloc _ _).mono (by simp)))
  have HA := Lib.hid (hA.below BB.out)
  have hs := Try.sort_Search 115 #[.pointer (some ⟨w.heap.size, 0, none⟩), .pointer (some ⟨w.heap.size + 1, 0, none⟩)] n (fun i => decide (hi ≤ (gt l i).1.1)) ((w.alloc (.cells #[.slice A n c] 50)).alloc (.cells #[.int .i64 hi] 3)) eg (by omega)
    (fun m os i h => by
      have bg := below_grow ((w.alloc (.cells #[.slice A n c] 50)).alloc (.cells #[.int .i64 hi] 3)) m os
      refine (below1_is n c A w.heap.size (w.heap.size + 1) l hi i _ ?_ ?_ (HA.out.below bg) h hn).mono ?_
      · exact (bg.cell (p := ⟨w.heap.size, 0, none⟩) (by simp; omega)).trans (by simp)
      · exact (bg.cell (p := ⟨w.heap.size + 1, 0, none⟩) (by simp)).trans (by rw [show w.heap.size + 1 = (w.alloc (.cells #[.slice A n c] 50)).heap.size by simp, World.cell?_alloc_new]; rfl)
      · rintro e w' ⟨he, q, hq⟩
        exact ⟨he, q, #[], by rw [hq, grow_empty]⟩)
    (fun a b hab hb h => by
      have h := of_decide_eq_true h
      refine decide_eq_true ?_
      rcases Nat.lt_or_ge a b with q | q
      · have := List.pairwise_iff_getElem.1 hr a b (by rw [← LN.out]; omega) (by rw [← LN.out]; omega) q
        rw [gt_lt (by rw [← LN.out]; omega)] at h ⊢
        omega
      · obtain rfl : a = b := by omega
        exact h)
  have CN := Lib.hid (count_is LN.out fun t => decide (hi ≤ t.1.1))
  have HS := Lib.hid hs
  clear hs hr hA eg
  go_enter Try.func92, Try.ntmps92
  go_wp2_with (go_at_call 94; refine HS.out.mono ?_; rintro e w' ⟨rfl, q, os, rfl⟩)
  go_ret
  exact ⟨ret_int (by rw [CN.out]; rfl), BB.out.trans ((below_grow _ _ _).mono BB.out.size)⟩
/-- what over answers: a piece of the set's own memory -/
def Piece (w : World) (l : List Tg) (e : Ending) (w' : World) : Prop := ∃ A' c', e = .returned (.slice A' l.length c') ∧ TgAt w' A' l.length l ∧ Below w.heap.size w w'
theorem tg_piece {w : World} {A : Option Addr} {n from_ k : Nat} {l m : List Tg} (h : TgAt w A n l) (hm : m = (l.take k).drop from_) (hk : k ≤ n) (A' : Option Addr) (hA : ∀ b off, A = some ⟨b, off, none⟩ → 0 < m.length → A' = some ⟨b, off + from_ * 3, none⟩) : TgAt w A' m.length m := by
  refine ⟨rfl, fun h0 => ?_⟩
  have hl : m.length = k - from_ := by rw [hm, List.length_drop, List.length_take, ← h.1]; omega
  obtain ⟨b, off, e, hb, hc⟩ := h.2 (by omega)
  refine ⟨b, off + from_ * 3, hA b off e h0, hb, fun j hj => ?_⟩
  have g : gt m j = gt l (from_ + j) := by
    unfold gt
    rw [hm, List.getElem?_drop, List.getElem?_take, if_pos (by omega)]
  obtain ⟨c0, c1, c2⟩ := hc (from_ + j) (by omega)
  rw [g, show off + from_ * 3 + j * 3 = off + (from_ + j) * 3 by omega]
  exact ⟨c0, c1, c2⟩
set_option maxRecDepth 100000 in
set_option maxHeartbeats 2000000 in
/-- (*Set).over -/
theorem over_is {F : Nat → Prop} (w : World) (p : Nat) (all : List Tg) (ow : List Int) (lo hi : Int) (S : SetIn F w p all ow) (hn : all.length ≤ 1000000) :
    Calls Try.prog 67 #[.pointer (some ⟨p, 0, none⟩), .int .i64 lo, .int .i64 hi] w (Piece w (overL lo hi all)) := by
  obtain ⟨A, c, O, d, S⟩ := S
  have KO := Lib.hid S.ok
  have ht := S.tg
  have c0 := S.c0
  have pl := S.box.lt
  have hcap := S.tags.2.1
  have hz := Lib.hid (fun e : A = none => show all.length = 0 ∧ c = 0 by
    rcases S.tags.2.2 with ⟨_, q⟩ | ⟨g, q, -⟩
    · omega
    · rw [e] at q; cases q)
  have hsm := Lib.hid (show A = none ∨ ∃ g, A = some ⟨g, 0, none⟩ by
    rcases S.tags.2.2 with ⟨q, _⟩ | ⟨g, q, -⟩
    · exact .inl q
    · exact .inr ⟨g, q⟩)
  clear S
  have HT := Lib.hid ht
  have eg : ∀ args w, (callFunc 95 args).run Try.prog w = .ok (.enter 95 args) w := enters_of Try.func95 (by kernel_rfl) rfl
  generalize hN : all.length = n at *
  have LN := Lib.hid hN
  clear hN
  have BB := Lib.hid (show Below w.heap.size w ((w.alloc (.cells #[.pointer (some ⟨p, 0, none⟩)] 28)).alloc (.cells #[.int .i64 lo] 3)) from (below_alloc _ _).trans ((below_alloc _ _).mono (by simp)))
  have HS := Lib.hid (Try.sort_Search 95 #[.pointer (some ⟨w.heap.size, 0, none⟩), .pointer (some ⟨w.heap.size + 1, 0, none⟩)] n (fun i => decide (lo < (gt all i).1.2)) ((w.alloc (.cells #[.pointer (some ⟨p, 0, none⟩)] 28)).alloc (.cells #[.int .i64 lo] 3)) eg (by omega)
    (fun m os i h => by
      have bg := below_grow ((w.alloc (.cells #[.pointer (some ⟨p, 0, none⟩)] 28)).alloc (.cells #[.int .i64 lo] 3)) m os
      refine (over1_is p 0 n c A w.heap.size (w.heap.size + 1) all lo i _ ?_ ?_ ?_ ((HT.out.below BB.out).below bg) h hn).mono ?_
      · exact (bg.cell (p := ⟨w.heap.size, 0, none⟩) (by simp; omega)).trans (by simp)
      · exact (bg.cell (p := ⟨w.heap.size + 1, 0, none⟩) (by simp)).trans (by rw [show w.heap.size + 1 = (w.alloc (.cells #[.pointer (some ⟨p, 0, none⟩)] 28)).heap.size by simp, World.cell?_alloc_new]; rfl)
      · exact (bg.cell (p := ⟨p, 0, none⟩) (Nat.lt_of_lt_of_le pl BB.out.size)).trans ((BB.out.cell (p := ⟨p, 0, none⟩) pl).trans c0)
      · rintro e w' ⟨he, q, hq⟩
        exact ⟨he, q, #[], by rw [hq, grow_empty]⟩)
    (fun a b hab hb h => by
      have h := of_decide_eq_true h
      refine decide_eq_true ?_
      rcases Nat.lt_or_ge a b with q | q
      · have := List.pairwise_iff_getElem.1 KO.out.his a b (by rw [LN.out]; omega) (by rw [LN.out]; omega) q
        rw [gt_lt (by rw [LN.out]; omega)] at h ⊢
        omega
      · obtain rfl : a = b := by omega
        exact h))
  have CN := Lib.hid (show (List.range n).countP (fun i => !decide (lo < (gt all i).1.2)) = fromB lo all from count_is LN.out.symm fun t => decide (lo < t.1.2))
  have OC := Lib.hid (over_cut (lo := lo) (hi := hi) KO.out)
  have f1 := from_le lo all
  have t1 := to_le hi all
  rw [LN.out] at f1 t1
  clear eg ht
  go_enter Try.func67, Try.ntmps67
  go_wp2_with fail
  refine HS.out.mono ?_
  rintro e w1 ⟨rfl, q, os, hw⟩
  have B1 := Lib.hid (show Below w.heap.size w w1 from hw ▸ (BB.out.trans ((below_grow _ _ _).mono BB.out.size)))
  have d0 : w1.cell? ⟨w.heap.size, 0, none⟩ = some (.pointer (some ⟨p, 0, none⟩)) := by rw [hw]; exact ((below_grow _ _ _).cell (p := ⟨w.heap.size, 0, none⟩) (by simp; omega)).trans (by simp)
  have s1 : w.heap.size < w1.heap.size := by
    rw [hw]
    have := (below_grow ((w.alloc (.cells #[.pointer (some ⟨p, 0, none⟩)] 28)).alloc (.cells #[.int .i64 lo] 3)) q os).size
    have e : ((w.alloc (.cells #[.pointer (some ⟨p, 0, none⟩)] 28)).alloc (.cells #[.int .i64 lo] 3)).heap.size = w.heap.size + 1 + 1 := by simp
    omega
  have p0 := (B1.out.cell (p := ⟨p, 0, none⟩) pl).trans c0
  rw [CN.out]
  clear hw HS BB c0
  have HT1 := Lib.hid (HT.out.below B1.out)
  go_wp2_with fail
  refine (below_is _ A n c all hi HT1.out KO.out.rises hn).mono ?_
  rintro e w2 ⟨rfl, b2⟩
  have B2 := Lib.hid (B1.out.trans (b2.mono B1.out.size))
  have d1 := (b2.cell (p := ⟨w.heap.size, 0, none⟩) s1).trans d0
  have p1 := (b2.cell (p := ⟨p, 0, none⟩) (Nat.lt_of_lt_of_le pl B1.out.size)).trans p0
  have HT2 := Lib.hid (HT1.out.below b2)
  clear d0 p0 b2 HT HT1
  have hm : max (fromB lo all) (toB hi all) ≤ n := by omega
  have MX := Lib.hid hm
  have LL := Lib.hid (show (overL lo hi all).length = max (fromB lo all) (toB hi all) - fromB lo all by rw [OC.out, List.length_drop, List.length_take, LN.out]; omega)
  generalize fromB lo all = f at *
  generalize toB hi all = t at *
  have j6 : f ≤ c := by omega
  have j7 : (f : Int) ≤ c := by omega
  have j8 : (0 : Int) ≤ f := by omega
  have fin : ∀ (A' : Option Addr) (k' c' : Nat) (w' : World), k' = max f t - f → (∀ b off, A = some ⟨b, off, none⟩ → 0 < (overL lo hi all).length → A' = some ⟨b, off + f * 3, none⟩) → w' = w2 → Piece w (overL lo hi all) (.returned (.slice A' k' c')) w' := by
    rintro A' k' c' w' hk hA rfl
    exact ⟨A', c', by rw [LL.out, hk], tg_piece HT2.out OC.out MX.out A' hA, B2.out⟩
  have FIN := Lib.hid fin
  clear fin
  by_cases ft : f ≤ t
  · have m1 : max (f : Int) (t : Int) = (t : Int) := by omega
    have m2 : max (t : Int) (f : Int) = (t : Int) := by omega
    have m3 : max f t = t := by omega
    have n1 : t ≤ c := by omega
    have n2 : (t : Int) ≤ c := by omega
    have n3 : (f : Int) ≤ t := by omega
    by_cases fc : f = c
    · subst fc
      have t0 : t = f := by omega
      subst t0
      go_wp2
      go_ret
      exact FIN.out _ _ _ _ (by omega) (fun b off e h => absurd h (by rw [LL.out]; omega)) rfl
    · have f1' : ¬ c - f = 0 := by omega
      go_wp2
      go_ret
      exact FIN.out _ _ _ _ (by omega) (fun b off e _ => by rw [e]; exact congrArg some (addr_off _ _ _)) rfl
  · have m1 : max (f : Int) (t : Int) = (f : Int) := by omega
    have m2 : max (t : Int) (f : Int) = (f : Int) := by omega
    have m3 : max f t = f := by omega
    by_cases fc : f = c
    · subst fc
      go_wp2
      go_ret
      exact FIN.out _ _ _ _ (by omega) (fun b off e h => absurd h (by rw [LL.out]; omega)) rfl
    · have f1' : ¬ c - f = 0 := by omega
      go_wp2
      go_ret
      exact FIN.out _ _ _ _ (by omega) (fun b off e h => absurd h (by rw [LL.out]; omega)) rfl
end Go.Proofs.Ytjodhfehfpmfaaa.Iv
