/- The walks of the document's own answers on zones: vokref1's Before, After, Offset, Local, UTC. -/
import Derived.Test.YtbinhnlajflndaaZnNear
set_option linter.unusedVariables false
namespace Go.Proofs.Ytbinhnlajflndaa.Zn
open Go.RowKit Cv St

theorem near_len {b f u : Int} {l : List Sh} {ys : List Yr} (h : mayB b l ys f = true) : (near l ys f u).length ≤ 100000 := by
  obtain ⟨_, h64, _, h4⟩ := may_of h
  obtain ⟨f1, f2⟩ := frm_bd h
  unfold near
  rw [List.length_append]
  rcases h4 with ⟨rfl, _⟩ | ⟨r, q, rfl, _⟩
  · rw [run_nil]; simp; omega
  · rw [run_len (ys := [r, q]) rfl]; omega
theorem near_is (w : World) (b f u : Int) (A A' : Option Addr) (n c n' c' : Nat) (l : List Sh) (ys : List Yr) (L : List Sh) (hL : near l ys f u = L) (h : mayB b l ys f = true) (hu : mayT u = true) (hz : ZnAt w A n A' n' l ys) (hcn : A = none → c = 0) :
    Calls Try.prog 41 #[.agg #[.int .i64 b, .slice A n c, .slice A' n' c', .int .i64 f], .int .i64 u] w (NearPost w L) := hL ▸ near_own w b f u A A' n c n' c' l ys h hu hz hcn
def NoneAbove (L : List Sh) (u : Int) (m : Nat) : Prop := ∀ j, m ≤ j → j < L.length → u < (at_ L j).t
theorem rev_hit {L : List Sh} {u : Int} {j : Nat} (hj : j < L.length) (hx : (at_ L j).t ≤ u) (hm : NoneAbove L u (j + 1)) : L.reverse.find? (fun s => decide (s.t ≤ u)) = some (at_ L j) := by
  have e : L = L.take j ++ L[j] :: L.drop (j + 1) := by rw [List.getElem_cons_drop, List.take_append_drop]
  have n1 : (L.drop (j + 1)).reverse.find? (fun s => decide (s.t ≤ u)) = none := by
    rw [List.find?_eq_none]; intro s hs
    obtain ⟨i, hi, rfl⟩ := List.getElem_of_mem (List.mem_reverse.1 hs)
    have hi' : j + 1 + i < L.length := by rw [List.length_drop] at hi; omega
    have := hm (j + 1 + i) (by omega) hi'
    rw [at_get hi'] at this
    simp; omega
  rw [at_get hj] at hx ⊢
  rw [show L.reverse = (L.drop (j + 1)).reverse ++ (L[j] :: (L.take j).reverse) from by
    have := congrArg List.reverse e
    rw [this]; simp]
  rw [List.find?_append, n1, Option.none_or, List.find?_cons_of_pos (by simpa using hx)]
theorem rev_none {L : List Sh} {u : Int} (hm : NoneAbove L u 0) : L.reverse.find? (fun s => decide (s.t ≤ u)) = none := by
  rw [List.find?_eq_none]; intro s hs
  obtain ⟨i, hi, rfl⟩ := mem_at (List.mem_reverse.1 hs)
  have := hm i (Nat.zero_le _) hi
  simp; omega
theorem rMay_is (w : World) (b f : Int) (A A' : Option Addr) (n c n' c' : Nat) (l : List Sh) (ys : List Yr) (x : Bool) (hx : mayB b l ys f = x) (hz : ZnAt w A n A' n' l ys) :
    Calls Try.prog 18 #[.agg #[.int .i64 b, .slice A n c, .slice A' n' c', .int .i64 f]] w fun e w' => e = .returned (.bool x) ∧ Below w.heap.size w w' := hx ▸ rMay_own w b f A A' n c n' c' l ys hz
theorem rmayS_yes (t : Int) (w : World) (h : mayT t = true) : Calls Try.prog 40 #[.int .i64 t] w fun e w' => e = .returned (.bool true) ∧ w = w' := rmay_yes t w h
theorem rmayS_no (t : Int) (w : World) (h : mayT t = false) : Calls Try.prog 40 #[.int .i64 t] w fun e w' => e = .returned (.bool false) ∧ w = w' := rmay_no t w h
def OptPost (w : World) (x : Option Sh) (e : Ending) (w' : World) : Prop := e = .returned (.tuple #[shV (x.getD ⟨0, 0⟩), .bool x.isSome]) ∧ Below w.heap.size w w'
set_option maxRecDepth 100000 in
set_option maxHeartbeats 4000000 in
theorem rBefore_own (w : World) (b f : Int) (A A' : Option Addr) (n c n' c' : Nat) (l : List Sh) (ys : List Yr) (u : Int) (hz : ZnAt w A n A' n' l ys) (hcn : A = none → c = 0) :
    Calls Try.prog 14 #[.agg #[.int .i64 b, .slice A n c, .slice A' n' c', .int .i64 f], .int .i64 u] w (OptPost w (befR b l ys f u)) := by
  have ba := (((Below.refl _ _).alloc (Nat.le_refl _) (.cells #[.int .i64 b, .slice A n c, .slice A' n' c', .int .i64 f] 25)).alloc (by simp) (.cells #[.int .i64 0, .int .i64 0] 29) : Below w.heap.size w _)
  have hz1 := hz.below ba
  have hA := ctxA_new w #[.int .i64 b, .slice A n c, .slice A' n' c', .int .i64 f] #[.int .i64 0, .int .i64 0]
  cases h : mayB b l ys f
  · have F := Lib.hid (show befR b l ys f u = none from by unfold befR; simp [h])
    have H := Lib.hid h
    clear h
    go_enter Try.func14, Try.ntmps14
    go_wp2_with fail
    refine (rMay_is _ b f A A' n c n' c' l ys _ H.out hz1).mono ?_
    rintro e w1 ⟨rfl, hb1⟩
    have hA1 := hA.on hb1
    obtain ⟨⟨bz, br⟩, hB⟩ := hA1
    have lz := bz.lt
    have lr := br.lt
    have z0 := bz.cell 0; have z1 := bz.cell 1; have z2 := bz.cell 2; have z3 := bz.cell 3
    have i0 := br.cell 0; have i1 := br.cell 1; have g0 := br.frozen 0; have g1 := br.frozen 1
    simp at z0 z1 z2 z3 i0 i1
    go_wp2
    exact bodyPost_ret (v := .tuple #[.agg #[.int .i64 0, .int .i64 0], .bool false]) (by simp [results, Try.f14, go_sem, i0, i1]) rfl ⟨by rw [F.out]; rfl, (hB.setCell (p := ⟨_, _, none⟩) (by simp) _).setCell (p := ⟨_, _, none⟩) (by simp) _⟩
  · cases hu : mayT u
    · have F := Lib.hid (show befR b l ys f u = none from by unfold befR; simp [hu])
      have H := Lib.hid h; have HU := Lib.hid hu
      clear h hu
      go_enter Try.func14, Try.ntmps14
      go_wp2_with fail
      refine (rMay_is _ b f A A' n c n' c' l ys _ H.out hz1).mono ?_
      rintro e w1 ⟨rfl, hb1⟩
      have hA1 := hA.on hb1
      obtain ⟨⟨bz, br⟩, hB⟩ := hA1
      have lz := bz.lt
      have lr := br.lt
      have z0 := bz.cell 0; have z1 := bz.cell 1; have z2 := bz.cell 2; have z3 := bz.cell 3
      have i0 := br.cell 0; have i1 := br.cell 1; have g0 := br.frozen 0; have g1 := br.frozen 1
      simp at z0 z1 z2 z3 i0 i1
      go_wp2_with fail
      refine (rmayS_no _ _ HU.out).mono ?_
      rintro e w2 ⟨rfl, rfl⟩
      go_wp2
      exact bodyPost_ret (v := .tuple #[.agg #[.int .i64 0, .int .i64 0], .bool false]) (by simp [results, Try.f14, go_sem, i0, i1]) rfl ⟨by rw [F.out]; rfl, (hB.setCell (p := ⟨_, _, none⟩) (by simp) _).setCell (p := ⟨_, _, none⟩) (by simp) _⟩
    · have H := Lib.hid h; have HU := Lib.hid hu
      have nl := near_len (u := u) h
      obtain ⟨L, hL⟩ : ∃ L, near l ys f u = L := ⟨_, rfl⟩
      rw [hL] at nl
      have EL := Lib.hid hL
      clear h hu hL
      go_enter Try.func14, Try.ntmps14
      go_wp2_with fail
      refine (rMay_is _ b f A A' n c n' c' l ys _ H.out hz1).mono ?_
      rintro e w1 ⟨rfl, hb1⟩
      have hA1 := hA.on hb1
      obtain ⟨⟨bz, br⟩, hB⟩ := hA1
      have lz := bz.lt
      have lr := br.lt
      have z0 := bz.cell 0; have z1 := bz.cell 1; have z2 := bz.cell 2; have z3 := bz.cell 3
      have i0 := br.cell 0; have i1 := br.cell 1; have g0 := br.frozen 0; have g1 := br.frozen 1
      simp at z0 z1 z2 z3 i0 i1
      go_wp2_with fail
      refine (rmayS_yes _ _ HU.out).mono ?_
      rintro e w2 ⟨rfl, rfl⟩
      go_wp2_with fail
      refine (near_is _ b f u A A' n c n' c' l ys L EL.out H.out HU.out (hz1.below hb1) hcn).mono ?_
      rintro e w3 ⟨v, rfl, ov, hb3⟩
      have hA3 := (CtxA.on ⟨⟨bz, br⟩, hB⟩ hb3)
      clear z0 z1 z2 z3 i0 i1 g0 g1 lr lz bz br hB
      obtain ⟨⟨bz, br⟩, hB⟩ := hA3
      have lz := bz.lt
      have lr := br.lt
      have z0 := bz.cell 0; have z1 := bz.cell 1; have z2 := bz.cell 2; have z3 := bz.cell 3
      have i0 := br.cell 0; have i1 := br.cell 1; have g0 := br.frozen 0; have g1 := br.frozen 1
      simp at z0 z1 z2 z3 i0 i1
      obtain ⟨A1, c1', rfl, ⟨_, hS⟩, _⟩ := ov.form
      obtain ⟨k, hk⟩ : ∃ k, L.length = k := ⟨_, rfl⟩
      rw [hk] at hS nl ⊢
      have EK := Lib.hid hk.symm
      clear hk ov
      go_wp2
      go_loop [7] (fun i => ∃ m : Nat, m ≤ k ∧ i = .int .i64 ((m : Int) - 1) ∧ Hid (NoneAbove L u m)) (fun i => (intOf i + 1).toNat)
      case atStart => exact ⟨k, Nat.le_refl _, rfl, Lib.hid (fun j h1 h2 => by have := EK.out; omega)⟩
      case round =>
        obtain ⟨m, hm, hi, D⟩ := hrel
        cases m with
        | zero =>
          rw [show (((0 : Nat) : Int) - 1) = -1 from rfl] at hi
          subst hi
          have F := Lib.hid (show befR b l ys f u = none from by rw [befR_eq H.out HU.out, ← bef_rbef H.out HU.out]; unfold rbef; rw [EL.out]; exact rev_none D.out)
          go_wp2
          exact bodyPost_ret (v := .tuple #[.agg #[.int .i64 0, .int .i64 0], .bool false]) (by simp [results, Try.f14, go_sem, i0, i1]) rfl ⟨by rw [F.out]; rfl, (hB.setCell (p := ⟨_, _, none⟩) (by simp) _).setCell (p := ⟨_, _, none⟩) (by simp) _⟩
        | succ j =>
          rw [show (((j + 1 : Nat) : Int) - 1) = (j : Int) from by omega] at hi
          subst hi
          obtain ⟨bl, off, rfl, hbl, hcc⟩ := hS (by omega)
          obtain ⟨c0, c1⟩ := hcc j (by omega)
          by_cases ht : (at_ L j).t ≤ u
          · have F := Lib.hid (show befR b l ys f u = some (at_ L j) from by rw [befR_eq H.out HU.out, ← bef_rbef H.out HU.out]; unfold rbef; rw [EL.out]; exact rev_hit (by have := EK.out; omega) ht D.out)
            clear hcc hS
            go_wp2
            exact bodyPost_ret (v := .tuple #[shV (at_ L j), .bool true]) (by simp [results, Try.f14, go_sem, i0, i1]) rfl ⟨by rw [F.out]; rfl, (hB.setCell (p := ⟨_, _, none⟩) (by simp) _).setCell (p := ⟨_, _, none⟩) (by simp) _⟩
          · have D' := Lib.hid (show NoneAbove L u j from fun i h1 h2 => by
              by_cases e : i = j
              · subst e; omega
              · exact D.out i (by omega) h2)
            have ht' : u < (at_ L j).t := by omega
            clear hcc hS ht
            go_wp2
            go_round
            case rel => exact ⟨j, by omega, rfl, D'⟩
            case measure => simp [intOf]
theorem rBef_some (w : World) (b f : Int) (A A' : Option Addr) (n c n' c' : Nat) (l : List Sh) (ys : List Yr) (u : Int) (s : Sh) (hs : befR b l ys f u = some s) (hz : ZnAt w A n A' n' l ys) (hcn : A = none → c = 0) :
    Calls Try.prog 14 #[.agg #[.int .i64 b, .slice A n c, .slice A' n' c', .int .i64 f], .int .i64 u] w fun e w' => e = .returned (.tuple #[.agg #[.int .i64 s.t, .int .i64 s.o], .bool true]) ∧ Below w.heap.size w w' := by
  have := rBefore_own w b f A A' n c n' c' l ys u hz hcn
  rw [hs] at this
  exact this
theorem rBef_none (w : World) (b f : Int) (A A' : Option Addr) (n c n' c' : Nat) (l : List Sh) (ys : List Yr) (u : Int) (hs : befR b l ys f u = none) (hz : ZnAt w A n A' n' l ys) (hcn : A = none → c = 0) :
    Calls Try.prog 14 #[.agg #[.int .i64 b, .slice A n c, .slice A' n' c', .int .i64 f], .int .i64 u] w fun e w' => e = .returned (.tuple #[.agg #[.int .i64 0, .int .i64 0], .bool false]) ∧ Below w.heap.size w w' := by
  have := rBefore_own w b f A A' n c n' c' l ys u hz hcn
  rw [hs] at this
  exact this
set_option maxRecDepth 100000 in
set_option maxHeartbeats 4000000 in
theorem rAfter_own (w : World) (b f : Int) (A A' : Option Addr) (n c n' c' : Nat) (l : List Sh) (ys : List Yr) (u : Int) (hz : ZnAt w A n A' n' l ys) (hcn : A = none → c = 0) :
    Calls Try.prog 16 #[.agg #[.int .i64 b, .slice A n c, .slice A' n' c', .int .i64 f], .int .i64 u] w (OptPost w (aftR b l ys f u)) := by
  have ba := (((Below.refl _ _).alloc (Nat.le_refl _) (.cells #[.int .i64 b, .slice A n c, .slice A' n' c', .int .i64 f] 25)).alloc (by simp) (.cells #[.int .i64 0, .int .i64 0] 29) : Below w.heap.size w _)
  have hz1 := hz.below ba
  have hA := ctxA_new w #[.int .i64 b, .slice A n c, .slice A' n' c', .int .i64 f] #[.int .i64 0, .int .i64 0]
  cases h : mayB b l ys f
  · have F := Lib.hid (show aftR b l ys f u = none from by unfold aftR; simp [h])
    have H := Lib.hid h
    clear h
    go_enter Try.func16, Try.ntmps16
    go_wp2_with fail
    refine (rMay_is _ b f A A' n c n' c' l ys _ H.out hz1).mono ?_
    rintro e w1 ⟨rfl, hb1⟩
    have hA1 := hA.on hb1
    obtain ⟨⟨bz, br⟩, hB⟩ := hA1
    have lz := bz.lt
    have lr := br.lt
    have z0 := bz.cell 0; have z1 := bz.cell 1; have z2 := bz.cell 2; have z3 := bz.cell 3
    have i0 := br.cell 0; have i1 := br.cell 1; have g0 := br.frozen 0; have g1 := br.frozen 1
    simp at z0 z1 z2 z3 i0 i1
    go_wp2
    exact bodyPost_ret (v := .tuple #[.agg #[.int .i64 0, .int .i64 0], .bool false]) (by simp [results, Try.f16, go_sem, i0, i1]) rfl ⟨by rw [F.out]; rfl, (hB.setCell (p := ⟨_, _, none⟩) (by simp) _).setCell (p := ⟨_, _, none⟩) (by simp) _⟩
  · cases hu : mayT u
    · have F := Lib.hid (show aftR b l ys f u = none from by unfold aftR; simp [hu])
      have H := Lib.hid h; have HU := Lib.hid hu
      clear h hu
      go_enter Try.func16, Try.ntmps16
      go_wp2_with fail
      refine (rMay_is _ b f A A' n c n' c' l ys _ H.out hz1).mono ?_
      rintro e w1 ⟨rfl, hb1⟩
      have hA1 := hA.on hb1
      obtain ⟨⟨bz, br⟩, hB⟩ := hA1
      have lz := bz.lt
      have lr := br.lt
      have z0 := bz.cell 0; have z1 := bz.cell 1; have z2 := bz.cell 2; have z3 := bz.cell 3
      have i0 := br.cell 0; have i1 := br.cell 1; have g0 := br.frozen 0; have g1 := br.frozen 1
      simp at z0 z1 z2 z3 i0 i1
      go_wp2_with fail
      refine (rmayS_no _ _ HU.out).mono ?_
      rintro e w2 ⟨rfl, rfl⟩
      go_wp2
      exact bodyPost_ret (v := .tuple #[.agg #[.int .i64 0, .int .i64 0], .bool false]) (by simp [results, Try.f16, go_sem, i0, i1]) rfl ⟨by rw [F.out]; rfl, (hB.setCell (p := ⟨_, _, none⟩) (by simp) _).setCell (p := ⟨_, _, none⟩) (by simp) _⟩
    · have H := Lib.hid h; have HU := Lib.hid hu
      have nl := near_len (u := u) h
      obtain ⟨L, hL⟩ : ∃ L, near l ys f u = L := ⟨_, rfl⟩
      rw [hL] at nl
      have EL := Lib.hid hL
      clear h hu hL
      go_enter Try.func16, Try.ntmps16
      go_wp2_with fail
      refine (rMay_is _ b f A A' n c n' c' l ys _ H.out hz1).mono ?_
      rintro e w1 ⟨rfl, hb1⟩
      have hA1 := hA.on hb1
      obtain ⟨⟨bz, br⟩, hB⟩ := hA1
      have lz := bz.lt
      have lr := br.lt
      have z0 := bz.cell 0; have z1 := bz.cell 1; have z2 := bz.cell 2; have z3 := bz.cell 3
      have i0 := br.cell 0; have i1 := br.cell 1; have g0 := br.frozen 0; have g1 := br.frozen 1
      simp at z0 z1 z2 z3 i0 i1
      go_wp2_with fail
      refine (rmayS_yes _ _ HU.out).mono ?_
      rintro e w2 ⟨rfl, rfl⟩
      go_wp2_with fail
      refine (near_is _ b f u A A' n c n' c' l ys L EL.out H.out HU.out (hz1.below hb1) hcn).mono ?_
      rintro e w3 ⟨v, rfl, ov, hb3⟩
      have hA3 := (CtxA.on ⟨⟨bz, br⟩, hB⟩ hb3)
      clear z0 z1 z2 z3 i0 i1 g0 g1 lr lz bz br hB
      obtain ⟨⟨bz, br⟩, hB⟩ := hA3
      have lz := bz.lt
      have lr := br.lt
      have z0 := bz.cell 0; have z1 := bz.cell 1; have z2 := bz.cell 2; have z3 := bz.cell 3
      have i0 := br.cell 0; have i1 := br.cell 1; have g0 := br.frozen 0; have g1 := br.frozen 1
      simp at z0 z1 z2 z3 i0 i1
      obtain ⟨A1, c1', rfl, ⟨_, hS⟩, _⟩ := ov.form
      obtain ⟨k, hk⟩ : ∃ k, L.length = k := ⟨_, rfl⟩
      rw [hk] at hS nl ⊢
      have EK := Lib.hid hk.symm
      clear hk ov
      go_wp2
      go_loop [7] (fun i => ∃ m : Nat, m ≤ k ∧ i = .int .i64 m ∧ Hid (None1 L u m)) (fun i => k - (intOf i).toNat)
      case atStart => exact ⟨0, Nat.zero_le _, rfl, Lib.hid (fun j h => by omega)⟩
      case round =>
        obtain ⟨j, hm, rfl, D⟩ := hrel
        by_cases hlt : j < k
        · obtain ⟨bl, off, rfl, hbl, hcc⟩ := hS (by omega)
          obtain ⟨c0, c1⟩ := hcc j (by omega)
          by_cases ht : u < (at_ L j).t
          · have F := Lib.hid (show aftR b l ys f u = some (at_ L j) from by
              rw [aftR_eq H.out HU.out, ← aft_raft H.out HU.out]; unfold raft; rw [EL.out]
              have hj : j < L.length := by have := EK.out; omega
              rw [at_get hj] at ht ⊢
              exact find_at hj (fun i hi => by have := D.out i hi; rw [at_get (by omega)] at this; simp; omega) (by simpa using ht))
            clear hcc hS
            go_wp2
            exact bodyPost_ret (v := .tuple #[shV (at_ L j), .bool true]) (by simp [results, Try.f16, go_sem, i0, i1]) rfl ⟨by rw [F.out]; rfl, (hB.setCell (p := ⟨_, _, none⟩) (by simp) _).setCell (p := ⟨_, _, none⟩) (by simp) _⟩
          · have ht' : (at_ L j).t ≤ u := by omega
            have D' := Lib.hid (D.out.succ ht')
            clear hcc hS ht
            go_wp2
            go_round
            case rel => exact ⟨j + 1, by omega, by go_num, D'⟩
            case measure => simp [intOf]; omega
        · obtain rfl : k = j := by omega
          have F := Lib.hid (show aftR b l ys f u = none from by rw [aftR_eq H.out HU.out, ← aft_raft H.out HU.out]; unfold raft; rw [EL.out]; exact none_l (EK.out ▸ D.out))
          go_wp2
          exact bodyPost_ret (v := .tuple #[.agg #[.int .i64 0, .int .i64 0], .bool false]) (by simp [results, Try.f16, go_sem, i0, i1]) rfl ⟨by rw [F.out]; rfl, (hB.setCell (p := ⟨_, _, none⟩) (by simp) _).setCell (p := ⟨_, _, none⟩) (by simp) _⟩
theorem rAft_some (w : World) (b f : Int) (A A' : Option Addr) (n c n' c' : Nat) (l : List Sh) (ys : List Yr) (u : Int) (s : Sh) (hs : aftR b l ys f u = some s) (hz : ZnAt w A n A' n' l ys) (hcn : A = none → c = 0) :
    Calls Try.prog 16 #[.agg #[.int .i64 b, .slice A n c, .slice A' n' c', .int .i64 f], .int .i64 u] w fun e w' => e = .returned (.tuple #[.agg #[.int .i64 s.t, .int .i64 s.o], .bool true]) ∧ Below w.heap.size w w' := by
  have := rAfter_own w b f A A' n c n' c' l ys u hz hcn
  rw [hs] at this
  exact this
theorem rAft_none (w : World) (b f : Int) (A A' : Option Addr) (n c n' c' : Nat) (l : List Sh) (ys : List Yr) (u : Int) (hs : aftR b l ys f u = none) (hz : ZnAt w A n A' n' l ys) (hcn : A = none → c = 0) :
    Calls Try.prog 16 #[.agg #[.int .i64 b, .slice A n c, .slice A' n' c', .int .i64 f], .int .i64 u] w fun e w' => e = .returned (.tuple #[.agg #[.int .i64 0, .int .i64 0], .bool false]) ∧ Below w.heap.size w w' := by
  have := rAfter_own w b f A A' n c n' c' l ys u hz hcn
  rw [hs] at this
  exact this
end Go.Proofs.Ytbinhnlajflndaa.Zn
