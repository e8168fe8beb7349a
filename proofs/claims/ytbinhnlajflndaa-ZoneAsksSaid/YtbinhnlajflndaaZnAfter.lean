/- The walk of package zone's after: of the zone's own shifts, then of the years', the first one that is later. -/
import Derived.Test.YtbinhnlajflndaaZnBefore
set_option linter.unusedVariables false
namespace Go.Proofs.Ytbinhnlajflndaa.Zn
open Go.RowKit Cv St

theorem find_at {α : Type} {L : List α} {p : α → Bool} {k : Nat} (hk : k < L.length) (hm : ∀ j (h : j < k), p (L[j]'(by omega)) = false) (hx : p L[k] = true) : L.find? p = some L[k] :=
  List.find?_eq_some_iff_getElem.2 ⟨hx, k, hk, rfl, fun j hj => by simp [hm j hj]⟩
theorem yat_get {l : List Yr} {i : Nat} (h : i < l.length) : yat l i = l[i] := by unfold yat; rw [List.getElem?_eq_getElem h]; rfl
/-- none of the first k of l is later -/
def None1 (l : List Sh) (u : Int) (k : Nat) : Prop := ∀ j, j < k → (at_ l j).t ≤ u
/-- of the year's first k none is later -/
def None2 (ys : List Yr) (u y : Int) (k : Nat) : Prop := ∀ j, j < k → (inY (yat ys j) y).t ≤ u
/-- of the years from a on, ahead of y, none is later -/
def None3 (ys : List Yr) (u a y : Int) : Prop := ∀ z, a ≤ z → z < y → None2 ys u z ys.length
theorem None1.succ {l : List Sh} {u : Int} {k : Nat} (h : None1 l u k) (hk : (at_ l k).t ≤ u) : None1 l u (k + 1) := fun j hj => by
  by_cases e : j = k
  · subst e; exact hk
  · exact h j (by omega)
theorem None2.succ {ys : List Yr} {u y : Int} {k : Nat} (h : None2 ys u y k) (hk : (inY (yat ys k) y).t ≤ u) : None2 ys u y (k + 1) := fun j hj => by
  by_cases e : j = k
  · subst e; exact hk
  · exact h j (by omega)
theorem None3.succ {ys : List Yr} {u a y : Int} (h : None3 ys u a y) (hy : None2 ys u y ys.length) : None3 ys u a (y + 1) := fun z h1 h2 => by
  by_cases e : z = y
  · subst e; exact hy
  · exact h z h1 (by omega)
theorem none_l {l : List Sh} {u : Int} (h : None1 l u l.length) : l.find? (fun s => decide (u < s.t)) = none := by
  rw [List.find?_eq_none]; intro s hs
  obtain ⟨i, hi, rfl⟩ := mem_at hs
  have := h i hi
  simp; omega
theorem none_c {ys : List Yr} {u y : Int} (h : None2 ys u y ys.length) : (cols ys y).find? (fun s => decide (u < s.t)) = none := by
  rw [List.find?_eq_none]; intro s hs
  obtain ⟨r, hr, rfl⟩ := List.mem_map.1 hs
  obtain ⟨i, hi, rfl⟩ := List.getElem_of_mem hr
  have := h i hi
  rw [yat_get hi] at this
  simp; omega
theorem aft_hit1 {l : List Sh} {ys : List Yr} {f u : Int} {k : Nat} (hk : k < l.length) (hm : None1 l u k) (hx : u < (at_ l k).t) : aft l ys f u = some (at_ l k) := by
  unfold aft aftL
  have : l.find? (fun s => decide (u < s.t)) = some l[k] := find_at hk (fun j hj => by
    have := hm j hj
    rw [at_get (by omega)] at this
    simp; omega) (by rw [at_get hk] at hx; simpa using hx)
  rw [List.find?_append, this, at_get hk]; rfl
theorem col_hit {ys : List Yr} {u y : Int} {k : Nat} (hk : k < ys.length) (hm : None2 ys u y k) (hx : u < (inY (yat ys k) y).t) : (cols ys y).find? (fun s => decide (u < s.t)) = some (inY (yat ys k) y) := by
  have hl : k < (cols ys y).length := by simpa [cols] using hk
  have e : (cols ys y)[k] = inY (yat ys k) y := by rw [yat_get hk]; simp [cols]
  rw [← e]
  refine find_at hl (fun j hj => ?_) (by rw [e]; simpa using hx)
  have := hm j hj
  rw [yat_get (by omega)] at this
  simp [cols]; omega
theorem aft_hit2 {l : List Sh} {ys : List Yr} {f u y : Int} {k : Nat} (h1 : None1 l u l.length) (h3 : None3 ys u (max f (year u)) y) (hy : max f (year u) ≤ y) (hy2 : y ≤ max f (year u) + 1) (hy3 : y ≤ 9999) (hk : k < ys.length) (hm : None2 ys u y k) (hx : u < (inY (yat ys k) y).t) :
    aft l ys f u = some (inY (yat ys k) y) := by
  unfold aft aftL
  rw [List.find?_append, none_l h1, Option.none_or, List.find?_append]
  by_cases e : y = max f (year u)
  · rw [← e, col_hit hk hm hx]; rfl
  · have e' : max f (year u) + 1 = y := by omega
    rw [none_c (h3 _ (Int.le_refl _) (by omega)), Option.none_or, e', if_pos hy3, col_hit hk hm hx]
theorem aft_miss {l : List Sh} {ys : List Yr} {f u y : Int} (h1 : None1 l u l.length) (h3 : None3 ys u (max f (year u)) y) (hy : max f (year u) < y) (hy2 : max f (year u) + 1 < y ∨ 9999 < y) : aft l ys f u = none := by
  unfold aft aftL
  rw [List.find?_append, none_l h1, Option.none_or, List.find?_append, none_c (h3 _ (Int.le_refl _) hy), Option.none_or]
  split
  · exact none_c (h3 _ (by omega) (by omega))
  · rfl
/-- what the function's own blocks hold -/
def CtxA (w : World) (zc rc : Array Value) (W : World) : Prop := (Blk W w.heap.size 25 zc ∧ Blk W (w.heap.size + 1) 29 rc) ∧ Below w.heap.size w W
theorem CtxA.on {w : World} {zc rc : Array Value} {W W' : World} (h : CtxA w zc rc W) (hb : Below W.heap.size W W') : CtxA w zc rc W' :=
  ⟨⟨h.1.1.below hb h.1.1.lt, h.1.2.below hb h.1.2.lt⟩, h.2.trans (hb.mono h.2.size)⟩
theorem ctxA_new (w : World) (zc rc : Array Value) : CtxA w zc rc ((w.alloc (.cells zc 25)).alloc (.cells rc 29)) := by
  have b1 := (Blk.new w 25 zc).alloc (.cells rc 29)
  have b2 := Blk.new (w.alloc (.cells zc 25)) 29 rc
  rw [World.size_alloc] at b2
  exact ⟨⟨b1, b2⟩, ((Below.refl _ _).alloc (Nat.le_refl _) _).alloc (by simp) _⟩
def AftPost (W : World) (x : Option Sh) (e : Ending) (w' : World) : Prop := e = .returned (.tuple #[shV (x.getD ⟨0, 0⟩), .bool x.isSome]) ∧ Below W.heap.size W w'
set_option maxRecDepth 100000 in
set_option maxHeartbeats 4000000 in
theorem after_any (W w : World) (b f u : Int) (A A' : Option Addr) (n c n' c' : Nat) (l : List Sh) (ys : List Yr) (h : mayB b l ys f = true) (hu : mayT u = true) (hz : ZnAt W A n A' n' l ys) (ha : At W w) :
    Calls Try.prog 42 #[.agg #[.int .i64 b, .slice A n c, .slice A' n' c', .int .i64 f], .int .i64 u] w (AftPost w (aft l ys f u)) := by
  obtain ⟨y1, y2, _, _⟩ := year_may hu
  obtain ⟨f1, f2⟩ := frm_bd h
  have hWs := ha.size
  have hWW := ha.below
  have hf1 : 0 < n' → 1 ≤ f := fun h0 => by
    obtain ⟨_, _, _, h4⟩ := may_of h
    rcases h4 with ⟨e, _⟩ | ⟨_, _, _, _, _, _, _, h5, _⟩
    · have := hz.yr.1; rw [e] at this; simp at this; omega
    · exact h5
  have hr : ∀ j, j < n' → yrB (yat ys j) = true := fun j hj => by
    have hj' : j < ys.length := by rw [← hz.yr.1]; exact hj
    rw [yat_get hj']; exact yrs_ok h (List.getElem_mem hj')
  obtain ⟨⟨en, hc⟩, ⟨en', hc'⟩, sn, yn⟩ := hz
  have EN := Lib.hid en
  have EN' := Lib.hid en'
  have HU := Lib.hid hu
  have HR := Lib.hid hr
  clear h hu en en' hr
  have hA := ctxA_new w #[.int .i64 b, .slice A n c, .slice A' n' c', .int .i64 f] #[.int .i64 0, .int .i64 0]
  go_enter Try.func42, Try.ntmps42
  go_wp2
  go_loopw [16] (fun i wr => ∃ k : Nat, k ≤ n ∧ i = .int .i64 k ∧ Hid (None1 l u k) ∧ CtxA w #[.int .i64 b, .slice A n c, .slice A' n' c', .int .i64 f] #[.int .i64 0, .int .i64 0] wr) (fun i _ => n - (intOf i).toNat)
  case atStart => exact ⟨0, Nat.zero_le _, rfl, Lib.hid (fun j hj => absurd hj (by omega)), hA⟩
  case round =>
    obtain ⟨k, hk, rfl, D, hctx⟩ := hrel
    obtain ⟨⟨bz, br⟩, hB⟩ := hctx
    have lz := bz.lt
    have lr := br.lt
    by_cases hlt : k < n
    · obtain ⟨b1, off, rfl, hb, hcc⟩ := hc (by omega)
      have hbw := Nat.lt_of_lt_of_le hb (Nat.le_trans hWs hB.size)
      have hBW := hWW.trans (hB.mono hWs)
      have c0 := (hBW.cell (p := ⟨b1, off + k * 2, none⟩) hb).trans (hcc k hlt).1
      have c1 := (hBW.cell (p := ⟨b1, off + k * 2 + 1, none⟩) hb).trans (hcc k hlt).2
      have g0 := br.frozen 0
      have g1 := br.frozen 1
      have i0 := br.cell 0
      have i1 := br.cell 1
      simp at i0 i1
      by_cases ht : u < (at_ l k).t
      · have F := Lib.hid (aft_hit1 (ys := ys) (f := f) (EN.out ▸ hlt) D.out ht)
        clear hcc hc
        go_wp2
        exact bodyPost_ret (v := .tuple #[shV (at_ l k), .bool true]) (by simp [results, Try.f42, go_sem, i0, i1, lr]) rfl ⟨by rw [F.out]; rfl, ((hB.setCell (p := ⟨_, _, none⟩) (by simp) _).setCell (p := ⟨_, _, none⟩) (by simp) _).alloc (by have := hB.size; simpa [World.setCell] using this) _⟩
      · have ht' : (at_ l k).t ≤ u := by omega
        have D' := Lib.hid (D.out.succ ht')
        have hctx := CtxA.on (w := w) ⟨⟨bz, br⟩, hB⟩ ((Below.refl _ _).alloc (Nat.le_refl _) (.cells #[.int .i64 (at_ l k).t, .int .i64 (at_ l k).o] 29))
        clear ht hcc hc
        go_wp2
        go_roundw
        case rel => exact ⟨k + 1, by omega, by go_num, D', hctx⟩
        case measure => simp [intOf]; omega
    · obtain rfl : n = k := by omega
      have cz0 := bz.cell 2
      have cz1 := bz.cell 3
      simp at cz0 cz1
      have D1 := Lib.hid (show None1 l u l.length from EN.out ▸ D.out)
      go_wp2
      by_cases hm : f < year u
      · have hMx : max f (year u) = year u := by omega
        have HM := Lib.hid hMx
        clear hMx
        go_quiet ((go_at_call 61; exact Calls.quiet_of_same ((yearOf_any' u _ HU.out).mono fun _ _ h => ⟨h.1, h.2.symm⟩)))
        go_wp2
        go_loopw [9] (fun v wr => ∃ y : Int, v = .int .i64 y ∧ year u ≤ y ∧ y ≤ year u + 2 ∧ y ≤ 10000 ∧ Hid (None3 ys u (max f (year u)) y) ∧ CtxA w #[.int .i64 b, .slice A n c, .slice A' n' c', .int .i64 f] #[.int .i64 0, .int .i64 0] wr) (fun v _ => (10001 - intOf v).toNat)
        case atStart => exact ⟨_, rfl, Int.le_refl _, by omega, by omega, Lib.hid (fun z h1 h2 => by have := HM.out; omega), CtxA.on ⟨⟨bz, br⟩, hB⟩ (Below.drewN' _ _ _)⟩
        case round =>
          obtain ⟨y, rfl, m1, m2, m3, D3, hctx2⟩ := hrel
          obtain ⟨wm, rfl⟩ : ∃ wm : World, wm = wr := ⟨_, rfl⟩
          obtain ⟨⟨bz2, br2⟩, hB2⟩ := hctx2
          have lz2 := bz2.lt
          have lr2 := br2.lt
          have cz2 := bz2.cell 2
          have g0 := br2.frozen 0
          have g1 := br2.frozen 1
          have i0 := br2.cell 0
          have i1 := br2.cell 1
          simp at i0 i1 cz2
          by_cases hy : y ≤ year u + 1 ∧ y ≤ 9999
          · obtain ⟨hy1, hy2⟩ := hy
            go_wp2
            all_goals
              go_loopw [42] (fun i wr => ∃ k : Nat, k ≤ n' ∧ i = .int .i64 k ∧ Hid (None2 ys u y k) ∧ CtxA w #[.int .i64 b, .slice A n c, .slice A' n' c', .int .i64 f] #[.int .i64 0, .int .i64 0] wr) (fun i _ => n' - (intOf i).toNat)
              case atStart => exact ⟨0, Nat.zero_le _, rfl, Lib.hid (fun j hj => absurd hj (by omega)), ⟨⟨bz2, br2⟩, hB2⟩⟩
              case round =>
                obtain ⟨k, hk, rfl, D2, hctx3⟩ := hrel
                clear cz2 g0 g1 i0 i1
                have hctx4 := hctx3
                obtain ⟨⟨bz3, br3⟩, hB3⟩ := hctx4
                have lz3 := bz3.lt
                have lr3 := br3.lt
                by_cases hlt : k < n'
                · obtain ⟨b1, off, rfl, hb, hcc⟩ := hc' (by omega)
                  have hbw := Nat.lt_of_lt_of_le hb (Nat.le_trans hWs hB3.size)
                  have hBW := hWW.trans (hB3.mono hWs)
                  obtain ⟨e0, e1, e2, e3, e4⟩ := hcc k hlt
                  replace e0 := (hBW.cell (p := ⟨b1, _, none⟩) hb).trans e0
                  replace e1 := (hBW.cell (p := ⟨b1, _, none⟩) hb).trans e1
                  replace e2 := (hBW.cell (p := ⟨b1, _, none⟩) hb).trans e2
                  replace e3 := (hBW.cell (p := ⟨b1, _, none⟩) hb).trans e3
                  replace e4 := (hBW.cell (p := ⟨b1, _, none⟩) hb).trans e4
                  have hY := Lib.hid (HR.out k hlt)
                  have hy0 : 1 ≤ y := by have := hf1 (by omega); omega
                  have ba := (Below.refl _ _).alloc (Nat.le_refl _) (.cells #[.int .i64 (yat ys k).m, .int .i64 (yat ys k).k, .int .i64 (yat ys k).d, .int .i64 (yat ys k).s, .int .i64 (yat ys k).o] 60) (w := wr)
                  by_cases ht : u < (inY (yat ys k) y).t
                  · have F := Lib.hid (aft_hit2 (f := f) D1.out D3.out (by have := HM.out; omega) (by have := HM.out; omega) hy2 (EN'.out ▸ hlt) D2.out ht)
                    clear hcc hc hc'
                    go_wp2_with fail
                    refine (inYear_any (yat ys k) y _ hY.out hy0 hy2).mono ?_
                    rintro e w3 ⟨rfl, hb3⟩
                    have hc5 := hctx3.on (ba.trans (hb3.mono (by simp)))
                    obtain ⟨⟨bz5, br5⟩, hB5⟩ := hc5
                    have g0 := br5.frozen 0
                    have g1 := br5.frozen 1
                    have i0 := br5.cell 0
                    have i1 := br5.cell 1
                    simp at i0 i1
                    have lr5 := br5.lt
                    go_wp2
                    exact bodyPost_ret (v := .tuple #[shV (inY (yat ys k) y), .bool true]) (by simp [results, Try.f42, go_sem, i0, i1, lr5]) rfl ⟨by rw [F.out]; rfl, ((hB5.setCell (p := ⟨_, _, none⟩) (by simp) _).setCell (p := ⟨_, _, none⟩) (by simp) _).alloc (by have := hB5.size; simpa [World.setCell] using this) _⟩
                  · have ht' : (inY (yat ys k) y).t ≤ u := by omega
                    have D4 := Lib.hid (D2.out.succ ht')
                    clear hcc hc hc' ht
                    go_wp2_with fail
                    refine (inYear_any (yat ys k) y _ hY.out hy0 hy2).mono ?_
                    rintro e w3 ⟨rfl, hb3⟩
                    have hc5 := hctx3.on (ba.trans (hb3.mono (by simp)))
                    have bd := (Below.refl _ _).alloc (Nat.le_refl _) (.cells #[.int .i64 (inY (yat ys k) y).t, .int .i64 (inY (yat ys k) y).o] 29) (w := w3)
                    go_wp2
                    go_roundw
                    case rel => exact ⟨k + 1, by omega, by go_num, D4, hc5.on bd⟩
                    case measure => simp [intOf]; omega
                · obtain rfl : n' = k := by omega
                  have D5 := Lib.hid (D3.out.succ (EN'.out ▸ D2.out))
                  go_wp2
                  go_roundw
                  case rel => exact ⟨y + 1, rfl, by omega, by omega, by omega, D5, ⟨⟨bz3, br3⟩, hB3⟩⟩
                  case measure => simp [intOf]; omega
          · have F := Lib.hid (aft_miss (f := f) D1.out D3.out (by have := HM.out; omega) (by have := HM.out; omega))
            go_wp2
            all_goals
              first
                | (exfalso; omega)
                | exact bodyPost_ret (v := .tuple #[shV ⟨0, 0⟩, .bool false]) (by simp [results, Try.f42, go_sem, i0, i1]) rfl ⟨by rw [F.out]; rfl, (hB2.setCell (p := ⟨_, _, none⟩) (by simp) _).setCell (p := ⟨_, _, none⟩) (by simp) _⟩
      · have hm' : year u ≤ f := by omega
        clear hm
        have hMx : max f (year u) = f := by omega
        have HM := Lib.hid hMx
        clear hMx
        go_quiet ((go_at_call 61; exact Calls.quiet_of_same ((yearOf_any' u _ HU.out).mono fun _ _ h => ⟨h.1, h.2.symm⟩)))
        go_wp2
        go_loopw [9] (fun v wr => ∃ y : Int, v = .int .i64 y ∧ f ≤ y ∧ y ≤ f + 2 ∧ y ≤ 10000 ∧ Hid (None3 ys u (max f (year u)) y) ∧ CtxA w #[.int .i64 b, .slice A n c, .slice A' n' c', .int .i64 f] #[.int .i64 0, .int .i64 0] wr) (fun v _ => (10001 - intOf v).toNat)
        case atStart => exact ⟨_, rfl, Int.le_refl _, by omega, by omega, Lib.hid (fun z h1 h2 => by have := HM.out; omega), CtxA.on ⟨⟨bz, br⟩, hB⟩ (Below.drewN' _ _ _)⟩
        case round =>
          obtain ⟨y, rfl, m1, m2, m3, D3, hctx2⟩ := hrel
          obtain ⟨wm, rfl⟩ : ∃ wm : World, wm = wr := ⟨_, rfl⟩
          obtain ⟨⟨bz2, br2⟩, hB2⟩ := hctx2
          have lz2 := bz2.lt
          have lr2 := br2.lt
          have cz2 := bz2.cell 2
          have g0 := br2.frozen 0
          have g1 := br2.frozen 1
          have i0 := br2.cell 0
          have i1 := br2.cell 1
          simp at i0 i1 cz2
          by_cases hy : y ≤ f + 1 ∧ y ≤ 9999
          · obtain ⟨hy1, hy2⟩ := hy
            go_wp2
            all_goals
              go_loopw [42] (fun i wr => ∃ k : Nat, k ≤ n' ∧ i = .int .i64 k ∧ Hid (None2 ys u y k) ∧ CtxA w #[.int .i64 b, .slice A n c, .slice A' n' c', .int .i64 f] #[.int .i64 0, .int .i64 0] wr) (fun i _ => n' - (intOf i).toNat)
              case atStart => exact ⟨0, Nat.zero_le _, rfl, Lib.hid (fun j hj => absurd hj (by omega)), ⟨⟨bz2, br2⟩, hB2⟩⟩
              case round =>
                obtain ⟨k, hk, rfl, D2, hctx3⟩ := hrel
                clear cz2 g0 g1 i0 i1
                have hctx4 := hctx3
                obtain ⟨⟨bz3, br3⟩, hB3⟩ := hctx4
                have lz3 := bz3.lt
                have lr3 := br3.lt
                by_cases hlt : k < n'
                · obtain ⟨b1, off, rfl, hb, hcc⟩ := hc' (by omega)
                  have hbw := Nat.lt_of_lt_of_le hb (Nat.le_trans hWs hB3.size)
                  have hBW := hWW.trans (hB3.mono hWs)
                  obtain ⟨e0, e1, e2, e3, e4⟩ := hcc k hlt
                  replace e0 := (hBW.cell (p := ⟨b1, _, none⟩) hb).trans e0
                  replace e1 := (hBW.cell (p := ⟨b1, _, none⟩) hb).trans e1
                  replace e2 := (hBW.cell (p := ⟨b1, _, none⟩) hb).trans e2
                  replace e3 := (hBW.cell (p := ⟨b1, _, none⟩) hb).trans e3
                  replace e4 := (hBW.cell (p := ⟨b1, _, none⟩) hb).trans e4
                  have hY := Lib.hid (HR.out k hlt)
                  have hy0 : 1 ≤ y := by have := hf1 (by omega); omega
                  have ba := (Below.refl _ _).alloc (Nat.le_refl _) (.cells #[.int .i64 (yat ys k).m, .int .i64 (yat ys k).k, .int .i64 (yat ys k).d, .int .i64 (yat ys k).s, .int .i64 (yat ys k).o] 60) (w := wr)
                  by_cases ht : u < (inY (yat ys k) y).t
                  · have F := Lib.hid (aft_hit2 (f := f) D1.out D3.out (by have := HM.out; omega) (by have := HM.out; omega) hy2 (EN'.out ▸ hlt) D2.out ht)
                    clear hcc hc hc'
                    go_wp2_with fail
                    refine (inYear_any (yat ys k) y _ hY.out hy0 hy2).mono ?_
                    rintro e w3 ⟨rfl, hb3⟩
                    have hc5 := hctx3.on (ba.trans (hb3.mono (by simp)))
                    obtain ⟨⟨bz5, br5⟩, hB5⟩ := hc5
                    have g0 := br5.frozen 0
                    have g1 := br5.frozen 1
                    have i0 := br5.cell 0
                    have i1 := br5.cell 1
                    simp at i0 i1
                    have lr5 := br5.lt
                    go_wp2
                    exact bodyPost_ret (v := .tuple #[shV (inY (yat ys k) y), .bool true]) (by simp [results, Try.f42, go_sem, i0, i1, lr5]) rfl ⟨by rw [F.out]; rfl, ((hB5.setCell (p := ⟨_, _, none⟩) (by simp) _).setCell (p := ⟨_, _, none⟩) (by simp) _).alloc (by have := hB5.size; simpa [World.setCell] using this) _⟩
                  · have ht' : (inY (yat ys k) y).t ≤ u := by omega
                    have D4 := Lib.hid (D2.out.succ ht')
                    clear hcc hc hc' ht
                    go_wp2_with fail
                    refine (inYear_any (yat ys k) y _ hY.out hy0 hy2).mono ?_
                    rintro e w3 ⟨rfl, hb3⟩
                    have hc5 := hctx3.on (ba.trans (hb3.mono (by simp)))
                    have bd := (Below.refl _ _).alloc (Nat.le_refl _) (.cells #[.int .i64 (inY (yat ys k) y).t, .int .i64 (inY (yat ys k) y).o] 29) (w := w3)
                    go_wp2
                    go_roundw
                    case rel => exact ⟨k + 1, by omega, by go_num, D4, hc5.on bd⟩
                    case measure => simp [intOf]; omega
                · obtain rfl : n' = k := by omega
                  have D5 := Lib.hid (D3.out.succ (EN'.out ▸ D2.out))
                  go_wp2
                  go_roundw
                  case rel => exact ⟨y + 1, rfl, by omega, by omega, by omega, D5, ⟨⟨bz3, br3⟩, hB3⟩⟩
                  case measure => simp [intOf]; omega
          · have F := Lib.hid (aft_miss (f := f) D1.out D3.out (by have := HM.out; omega) (by have := HM.out; omega))
            go_wp2
            all_goals
              first
                | (exfalso; omega)
                | exact bodyPost_ret (v := .tuple #[shV ⟨0, 0⟩, .bool false]) (by simp [results, Try.f42, go_sem, i0, i1]) rfl ⟨by rw [F.out]; rfl, (hB2.setCell (p := ⟨_, _, none⟩) (by simp) _).setCell (p := ⟨_, _, none⟩) (by simp) _⟩
end Go.Proofs.Ytbinhnlajflndaa.Zn
