/- package zone's public functions, each a contract at the call's own world: nothing that lay has turned. -/
import Derived.Test.YtbinhnlajflndaaZnAfter
set_option linter.unusedVariables false
namespace Go.Proofs.Ytbinhnlajflndaa.Zn
open Go.RowKit Cv St

def offR (b : Int) (l : List Sh) (ys : List Yr) (f u : Int) : Int := if (mayB b l ys f && mayT u) = true then ofs b l ys f u else 0
def locR (b : Int) (l : List Sh) (ys : List Yr) (f u : Int) : Int := if (mayB b l ys f && mayT u) = true then u + ofs b l ys f u else 0
def utcR (b : Int) (l : List Sh) (ys : List Yr) (f L : Int) : Int := if (mayB b l ys f && mayL L) = true then utc b l ys f L else 0
def befR (b : Int) (l : List Sh) (ys : List Yr) (f u : Int) : Option Sh := if (mayB b l ys f && mayT u) = true then bef l ys f u else none
def aftR (b : Int) (l : List Sh) (ys : List Yr) (f u : Int) : Option Sh := if (mayB b l ys f && mayT u) = true then aft l ys f u else none
theorem mayS_yes (t : Int) (w : World) (h : mayT t = true) : Calls Try.prog 38 #[.int .i64 t] w fun e w' => e = .returned (.bool true) ∧ w = w' := may_yes t w h
theorem mayS_no (t : Int) (w : World) (h : mayT t = false) : Calls Try.prog 38 #[.int .i64 t] w fun e w' => e = .returned (.bool false) ∧ w = w' := may_no t w h
theorem wrapS (a b : Int) : a = b → Value.int .i64 a = .int .i64 b := fun h => by rw [h]
theorem before_some (w : World) (b f : Int) (A A' : Option Addr) (n c n' c' : Nat) (l : List Sh) (ys : List Yr) (u : Int) (s : Sh) (hs : bef l ys f u = some s) (h : mayB b l ys f = true) (hu : mayT u = true) (hz : ZnAt w A n A' n' l ys) :
    Calls Try.prog 39 #[.agg #[.int .i64 b, .slice A n c, .slice A' n' c', .int .i64 f], .int .i64 u] w fun e w' => e = .returned (.tuple #[.agg #[.int .i64 s.t, .int .i64 s.o], .bool true]) ∧ Below w.heap.size w w' := by
  have := callsIn_wide.1 (before_in w w b f u A A' n c n' c' l ys h hu hz .refl)
  rw [hs] at this
  exact this
theorem before_none (w : World) (b f : Int) (A A' : Option Addr) (n c n' c' : Nat) (l : List Sh) (ys : List Yr) (u : Int) (hs : bef l ys f u = none) (h : mayB b l ys f = true) (hu : mayT u = true) (hz : ZnAt w A n A' n' l ys) :
    Calls Try.prog 39 #[.agg #[.int .i64 b, .slice A n c, .slice A' n' c', .int .i64 f], .int .i64 u] w fun e w' => e = .returned (.tuple #[.agg #[.int .i64 0, .int .i64 0], .bool false]) ∧ Below w.heap.size w w' := by
  have := callsIn_wide.1 (before_in w w b f u A A' n c n' c' l ys h hu hz .refl)
  rw [hs] at this
  exact this
theorem after_some (w : World) (b f : Int) (A A' : Option Addr) (n c n' c' : Nat) (l : List Sh) (ys : List Yr) (u : Int) (s : Sh) (hs : aft l ys f u = some s) (h : mayB b l ys f = true) (hu : mayT u = true) (hz : ZnAt w A n A' n' l ys) :
    Calls Try.prog 42 #[.agg #[.int .i64 b, .slice A n c, .slice A' n' c', .int .i64 f], .int .i64 u] w fun e w' => e = .returned (.tuple #[.agg #[.int .i64 s.t, .int .i64 s.o], .bool true]) ∧ Below w.heap.size w w' := by
  have := after_any w w b f u A A' n c n' c' l ys h hu hz .refl
  rw [hs] at this
  exact this
theorem after_none (w : World) (b f : Int) (A A' : Option Addr) (n c n' c' : Nat) (l : List Sh) (ys : List Yr) (u : Int) (hs : aft l ys f u = none) (h : mayB b l ys f = true) (hu : mayT u = true) (hz : ZnAt w A n A' n' l ys) :
    Calls Try.prog 42 #[.agg #[.int .i64 b, .slice A n c, .slice A' n' c', .int .i64 f], .int .i64 u] w fun e w' => e = .returned (.tuple #[.agg #[.int .i64 0, .int .i64 0], .bool false]) ∧ Below w.heap.size w w' := by
  have := after_any w w b f u A A' n c n' c' l ys h hu hz .refl
  rw [hs] at this
  exact this
set_option maxHeartbeats 1000000 in
theorem offset_own (w : World) (b f : Int) (A A' : Option Addr) (n c n' c' : Nat) (l : List Sh) (ys : List Yr) (u : Int) (h : mayB b l ys f = true) (hu : mayT u = true) (hz : ZnAt w A n A' n' l ys) :
    Calls Try.prog 48 #[.agg #[.int .i64 b, .slice A n c, .slice A' n' c', .int .i64 f], .int .i64 u] w fun e w' => e = .returned (.int .i64 (ofs b l ys f u)) ∧ Below w.heap.size w w' := by
  have ba := ((Below.refl _ _).alloc (Nat.le_refl _) (.cells #[.int .i64 b, .slice A n c, .slice A' n' c', .int .i64 f] 25) (w := w))
  have hz1 := hz.below ba
  cases hs : bef l ys f u with
  | none =>
    have S := Lib.hid hs
    have O := Lib.hid (show ofs b l ys f u = b from by unfold ofs; rw [hs])
    have H := Lib.hid h; have HU := Lib.hid hu
    clear hs h hu
    go_enter Try.func48, Try.ntmps48
    go_wp2_with fail
    refine (before_none _ b f A A' n c n' c' l ys u S.out H.out HU.out hz1).mono ?_
    rintro e w1 ⟨rfl, hb1⟩
    obtain ⟨k1, k2⟩ := bcell hb1
    have z1 : w.heap.size < w1.heap.size := by have := hb1.size; simp at this; omega
    go_wp2
    go_ret
    exact ⟨ret_int O.out.symm, (ba.trans (hb1.mono (by simp))).alloc (by omega) _⟩
  | some s =>
    have S := Lib.hid hs
    have O := Lib.hid (show ofs b l ys f u = s.o from by unfold ofs; rw [hs])
    have H := Lib.hid h; have HU := Lib.hid hu
    clear hs h hu
    go_enter Try.func48, Try.ntmps48
    go_wp2_with fail
    refine (before_some _ b f A A' n c n' c' l ys u s S.out H.out HU.out hz1).mono ?_
    rintro e w1 ⟨rfl, hb1⟩
    have z1 : w.heap.size < w1.heap.size := by have := hb1.size; simp at this; omega
    go_wp2
    go_ret
    exact ⟨ret_int O.out.symm, (ba.trans (hb1.mono (by simp))).alloc (by omega) _⟩
set_option maxHeartbeats 2000000 in
theorem Offset_own (w : World) (b f : Int) (A A' : Option Addr) (n c n' c' : Nat) (l : List Sh) (ys : List Yr) (u : Int) (hz : ZnAt w A n A' n' l ys) :
    Calls Try.prog 19 #[.agg #[.int .i64 b, .slice A n c, .slice A' n' c', .int .i64 f], .int .i64 u] w fun e w' => e = .returned (.int .i64 (offR b l ys f u)) ∧ Below w.heap.size w w' := by
  have ba := ((Below.refl _ _).alloc (Nat.le_refl _) (.cells #[.int .i64 b, .slice A n c, .slice A' n' c', .int .i64 f] 25) (w := w))
  have hz1 := hz.below ba
  cases h : mayB b l ys f
  · have R := Lib.hid (show offR b l ys f u = 0 from by unfold offR; simp [h])
    have H := Lib.hid h
    clear h
    go_enter Try.func19, Try.ntmps19
    go_wp2_with fail
    refine (zMay_own _ b f A A' n c n' c' l ys _ H.out hz1).mono ?_
    rintro e w1 ⟨rfl, hb1⟩
    go_wp2
    go_ret
    exact ⟨ret_int R.out.symm, ba.trans (hb1.mono (by simp))⟩
  · cases hu : mayT u
    · have R := Lib.hid (show offR b l ys f u = 0 from by unfold offR; simp [hu])
      have H := Lib.hid h; have HU := Lib.hid hu
      clear h hu
      go_enter Try.func19, Try.ntmps19
      go_wp2_with fail
      refine (zMay_own _ b f A A' n c n' c' l ys _ H.out hz1).mono ?_
      rintro e w1 ⟨rfl, hb1⟩
      go_wp2_with fail
      refine (mayS_no _ _ HU.out).mono ?_
      rintro e w2 ⟨rfl, rfl⟩
      go_wp2
      go_ret
      exact ⟨ret_int R.out.symm, ba.trans (hb1.mono (by simp))⟩
    · have R := Lib.hid (show offR b l ys f u = ofs b l ys f u from by unfold offR; simp [h, hu])
      have H := Lib.hid h; have HU := Lib.hid hu
      have bd := ofs_bd h hu
      obtain ⟨u1, u2⟩ := mayT_of hu
      clear h hu
      go_enter Try.func19, Try.ntmps19
      go_wp2_with fail
      refine (zMay_own _ b f A A' n c n' c' l ys _ H.out hz1).mono ?_
      rintro e w1 ⟨rfl, hb1⟩
      obtain ⟨k1, k2⟩ := bcell hb1
      go_wp2_with fail
      refine (mayS_yes _ _ HU.out).mono ?_
      rintro e w2 ⟨rfl, rfl⟩
      go_wp2_with fail
      refine (offset_own _ b f A A' n c n' c' l ys u H.out HU.out (hz1.below hb1)).mono ?_
      rintro e w3 ⟨rfl, hb3⟩
      obtain ⟨d1, d2⟩ := bd
      go_wp2
      go_ret
      exact ⟨ret_int R.out.symm, (ba.trans (hb1.mono (by simp))).trans (hb3.mono (by have := hb1.size; simp at this; omega))⟩
set_option maxHeartbeats 2000000 in
theorem Local_own (w : World) (b f : Int) (A A' : Option Addr) (n c n' c' : Nat) (l : List Sh) (ys : List Yr) (u : Int) (hz : ZnAt w A n A' n' l ys) :
    Calls Try.prog 21 #[.agg #[.int .i64 b, .slice A n c, .slice A' n' c', .int .i64 f], .int .i64 u] w fun e w' => e = .returned (.int .i64 (locR b l ys f u)) ∧ Below w.heap.size w w' := by
  have ba := ((Below.refl _ _).alloc (Nat.le_refl _) (.cells #[.int .i64 b, .slice A n c, .slice A' n' c', .int .i64 f] 25) (w := w))
  have hz1 := hz.below ba
  cases h : mayB b l ys f
  · have R := Lib.hid (show locR b l ys f u = 0 from by unfold locR; simp [h])
    have H := Lib.hid h
    clear h
    go_enter Try.func21, Try.ntmps21
    go_wp2_with fail
    refine (zMay_own _ b f A A' n c n' c' l ys _ H.out hz1).mono ?_
    rintro e w1 ⟨rfl, hb1⟩
    go_wp2
    go_ret
    exact ⟨ret_int R.out.symm, ba.trans (hb1.mono (by simp))⟩
  · cases hu : mayT u
    · have R := Lib.hid (show locR b l ys f u = 0 from by unfold locR; simp [hu])
      have H := Lib.hid h; have HU := Lib.hid hu
      clear h hu
      go_enter Try.func21, Try.ntmps21
      go_wp2_with fail
      refine (zMay_own _ b f A A' n c n' c' l ys _ H.out hz1).mono ?_
      rintro e w1 ⟨rfl, hb1⟩
      go_wp2_with fail
      refine (mayS_no _ _ HU.out).mono ?_
      rintro e w2 ⟨rfl, rfl⟩
      go_wp2
      go_ret
      exact ⟨ret_int R.out.symm, ba.trans (hb1.mono (by simp))⟩
    · have R := Lib.hid (show locR b l ys f u = u + ofs b l ys f u from by unfold locR; simp [h, hu])
      have H := Lib.hid h; have HU := Lib.hid hu
      have bd := ofs_bd h hu
      obtain ⟨u1, u2⟩ := mayT_of hu
      clear h hu
      go_enter Try.func21, Try.ntmps21
      go_wp2_with fail
      refine (zMay_own _ b f A A' n c n' c' l ys _ H.out hz1).mono ?_
      rintro e w1 ⟨rfl, hb1⟩
      obtain ⟨k1, k2⟩ := bcell hb1
      go_wp2_with fail
      refine (mayS_yes _ _ HU.out).mono ?_
      rintro e w2 ⟨rfl, rfl⟩
      go_wp2_with fail
      refine (offset_own _ b f A A' n c n' c' l ys u H.out HU.out (hz1.below hb1)).mono ?_
      rintro e w3 ⟨rfl, hb3⟩
      obtain ⟨d1, d2⟩ := bd
      go_wp2
      go_ret
      exact ⟨ret_int R.out.symm, (ba.trans (hb1.mono (by simp))).trans (hb3.mono (by have := hb1.size; simp at this; omega))⟩
set_option maxHeartbeats 2000000 in
theorem Before_none (w : World) (b f : Int) (A A' : Option Addr) (n c n' c' : Nat) (l : List Sh) (ys : List Yr) (u : Int) (hx : befR b l ys f u = none) (hz : ZnAt w A n A' n' l ys) :
    Calls Try.prog 13 #[.agg #[.int .i64 b, .slice A n c, .slice A' n' c', .int .i64 f], .int .i64 u] w fun e w' => e = .returned (.tuple #[.agg #[.int .i64 0, .int .i64 0], .bool false]) ∧ Below w.heap.size w w' := by
  have ba := (((Below.refl _ _).alloc (Nat.le_refl _) (.cells #[.int .i64 b, .slice A n c, .slice A' n' c', .int .i64 f] 25)).alloc (by simp) (.cells #[.int .i64 0, .int .i64 0] 29) : Below w.heap.size w _)
  have hz1 := hz.below ba
  have hA := ctxA_new w #[.int .i64 b, .slice A n c, .slice A' n' c', .int .i64 f] #[.int .i64 0, .int .i64 0]
  cases h : mayB b l ys f
  · have H := Lib.hid h
    clear h hx
    go_enter Try.func13, Try.ntmps13
    go_wp2_with fail
    refine (zMay_own _ b f A A' n c n' c' l ys _ H.out hz1).mono ?_
    rintro e w1 ⟨rfl, hb1⟩
    have hA1 := hA.on hb1
    obtain ⟨⟨bz, br⟩, hB⟩ := hA1
    have lz := bz.lt
    have lr := br.lt
    have z0 := bz.cell 0; have z1 := bz.cell 1; have z2 := bz.cell 2; have z3 := bz.cell 3
    have i0 := br.cell 0; have i1 := br.cell 1; have g0 := br.frozen 0; have g1 := br.frozen 1
    simp at z0 z1 z2 z3 i0 i1
    go_wp2
    exact bodyPost_ret (v := .tuple #[.agg #[.int .i64 0, .int .i64 0], .bool false]) (by simp [results, Try.f13, go_sem, i0, i1]) rfl ⟨rfl, (hB.setCell (p := ⟨_, _, none⟩) (by simp) _).setCell (p := ⟨_, _, none⟩) (by simp) _⟩
  · cases hu : mayT u
    · have H := Lib.hid h; have HU := Lib.hid hu
      clear h hu hx
      go_enter Try.func13, Try.ntmps13
      go_wp2_with fail
      refine (zMay_own _ b f A A' n c n' c' l ys _ H.out hz1).mono ?_
      rintro e w1 ⟨rfl, hb1⟩
      have hA1 := hA.on hb1
      obtain ⟨⟨bz, br⟩, hB⟩ := hA1
      have lz := bz.lt
      have lr := br.lt
      have z0 := bz.cell 0; have z1 := bz.cell 1; have z2 := bz.cell 2; have z3 := bz.cell 3
      have i0 := br.cell 0; have i1 := br.cell 1; have g0 := br.frozen 0; have g1 := br.frozen 1
      simp at z0 z1 z2 z3 i0 i1
      go_wp2_with fail
      refine (mayS_no _ _ HU.out).mono ?_
      rintro e w2 ⟨rfl, rfl⟩
      go_wp2
      exact bodyPost_ret (v := .tuple #[.agg #[.int .i64 0, .int .i64 0], .bool false]) (by simp [results, Try.f13, go_sem, i0, i1]) rfl ⟨rfl, (hB.setCell (p := ⟨_, _, none⟩) (by simp) _).setCell (p := ⟨_, _, none⟩) (by simp) _⟩
    · have S := Lib.hid (show bef l ys f u = none from by unfold befR at hx; simpa [h, hu] using hx)
      have H := Lib.hid h; have HU := Lib.hid hu
      clear h hu hx
      go_enter Try.func13, Try.ntmps13
      go_wp2_with fail
      refine (zMay_own _ b f A A' n c n' c' l ys _ H.out hz1).mono ?_
      rintro e w1 ⟨rfl, hb1⟩
      have hA1 := hA.on hb1
      obtain ⟨⟨bz, br⟩, hB⟩ := hA1
      have lz := bz.lt
      have lr := br.lt
      have z0 := bz.cell 0; have z1 := bz.cell 1; have z2 := bz.cell 2; have z3 := bz.cell 3
      have i0 := br.cell 0; have i1 := br.cell 1; have g0 := br.frozen 0; have g1 := br.frozen 1
      simp at z0 z1 z2 z3 i0 i1
      go_wp2_with fail
      refine (mayS_yes _ _ HU.out).mono ?_
      rintro e w2 ⟨rfl, rfl⟩
      go_wp2_with fail
      refine (before_none _ b f A A' n c n' c' l ys u S.out H.out HU.out (hz1.below hb1)).mono ?_
      rintro e w3 ⟨rfl, hb3⟩
      have hA3 := (CtxA.on ⟨⟨bz, br⟩, hB⟩ hb3)
      clear i0 i1 g0 g1 lr
      obtain ⟨⟨bz3, br3⟩, hB3⟩ := hA3
      have lr := br3.lt
      have i0 := br3.cell 0; have i1 := br3.cell 1; have g0 := br3.frozen 0; have g1 := br3.frozen 1
      simp at i0 i1
      go_wp2
      exact bodyPost_ret (v := .tuple #[.agg #[.int .i64 0, .int .i64 0], .bool false]) (by simp [results, Try.f13, go_sem, i0, i1]) rfl ⟨rfl, (hB3.setCell (p := ⟨_, _, none⟩) (by simp) _).setCell (p := ⟨_, _, none⟩) (by simp) _⟩
set_option maxHeartbeats 2000000 in
theorem Before_some (w : World) (b f : Int) (A A' : Option Addr) (n c n' c' : Nat) (l : List Sh) (ys : List Yr) (u : Int) (s : Sh) (hx : befR b l ys f u = some s) (hz : ZnAt w A n A' n' l ys) :
    Calls Try.prog 13 #[.agg #[.int .i64 b, .slice A n c, .slice A' n' c', .int .i64 f], .int .i64 u] w fun e w' => e = .returned (.tuple #[.agg #[.int .i64 s.t, .int .i64 s.o], .bool true]) ∧ Below w.heap.size w w' := by
  have ba := (((Below.refl _ _).alloc (Nat.le_refl _) (.cells #[.int .i64 b, .slice A n c, .slice A' n' c', .int .i64 f] 25)).alloc (by simp) (.cells #[.int .i64 0, .int .i64 0] 29) : Below w.heap.size w _)
  have hz1 := hz.below ba
  have hA := ctxA_new w #[.int .i64 b, .slice A n c, .slice A' n' c', .int .i64 f] #[.int .i64 0, .int .i64 0]
  have hm : (mayB b l ys f && mayT u) = true := by
    cases e : (mayB b l ys f && mayT u)
    · unfold befR at hx; rw [e] at hx; simp at hx
    · rfl
  have S := Lib.hid (show bef l ys f u = some s from by unfold befR at hx; rw [if_pos hm] at hx; exact hx)
  rw [Bool.and_eq_true] at hm
  have H := Lib.hid hm.1; have HU := Lib.hid hm.2
  clear hm hx
  go_enter Try.func13, Try.ntmps13
  go_wp2_with fail
  refine (zMay_own _ b f A A' n c n' c' l ys _ H.out hz1).mono ?_
  rintro e w1 ⟨rfl, hb1⟩
  have hA1 := hA.on hb1
  obtain ⟨⟨bz, br⟩, hB⟩ := hA1
  have lz := bz.lt
  have lr := br.lt
  have z0 := bz.cell 0; have z1 := bz.cell 1; have z2 := bz.cell 2; have z3 := bz.cell 3
  have i0 := br.cell 0; have i1 := br.cell 1; have g0 := br.frozen 0; have g1 := br.frozen 1
  simp at z0 z1 z2 z3 i0 i1
  go_wp2_with fail
  refine (mayS_yes _ _ HU.out).mono ?_
  rintro e w2 ⟨rfl, rfl⟩
  go_wp2_with fail
  refine (before_some _ b f A A' n c n' c' l ys u s S.out H.out HU.out (hz1.below hb1)).mono ?_
  rintro e w3 ⟨rfl, hb3⟩
  have hA3 := (CtxA.on ⟨⟨bz, br⟩, hB⟩ hb3)
  clear i0 i1 g0 g1 lr
  obtain ⟨⟨bz3, br3⟩, hB3⟩ := hA3
  have lr := br3.lt
  have i0 := br3.cell 0; have i1 := br3.cell 1; have g0 := br3.frozen 0; have g1 := br3.frozen 1
  simp at i0 i1
  go_wp2
  exact bodyPost_ret (v := .tuple #[.agg #[.int .i64 s.t, .int .i64 s.o], .bool true]) (by simp [results, Try.f13, go_sem, i0, i1]) rfl ⟨rfl, (hB3.setCell (p := ⟨_, _, none⟩) (by simp) _).setCell (p := ⟨_, _, none⟩) (by simp) _⟩
set_option maxHeartbeats 2000000 in
theorem After_none (w : World) (b f : Int) (A A' : Option Addr) (n c n' c' : Nat) (l : List Sh) (ys : List Yr) (u : Int) (hx : aftR b l ys f u = none) (hz : ZnAt w A n A' n' l ys) :
    Calls Try.prog 15 #[.agg #[.int .i64 b, .slice A n c, .slice A' n' c', .int .i64 f], .int .i64 u] w fun e w' => e = .returned (.tuple #[.agg #[.int .i64 0, .int .i64 0], .bool false]) ∧ Below w.heap.size w w' := by
  have ba := (((Below.refl _ _).alloc (Nat.le_refl _) (.cells #[.int .i64 b, .slice A n c, .slice A' n' c', .int .i64 f] 25)).alloc (by simp) (.cells #[.int .i64 0, .int .i64 0] 29) : Below w.heap.size w _)
  have hz1 := hz.below ba
  have hA := ctxA_new w #[.int .i64 b, .slice A n c, .slice A' n' c', .int .i64 f] #[.int .i64 0, .int .i64 0]
  cases h : mayB b l ys f
  · have H := Lib.hid h
    clear h hx
    go_enter Try.func15, Try.ntmps15
    go_wp2_with fail
    refine (zMay_own _ b f A A' n c n' c' l ys _ H.out hz1).mono ?_
    rintro e w1 ⟨rfl, hb1⟩
    have hA1 := hA.on hb1
    obtain ⟨⟨bz, br⟩, hB⟩ := hA1
    have lz := bz.lt
    have lr := br.lt
    have z0 := bz.cell 0; have z1 := bz.cell 1; have z2 := bz.cell 2; have z3 := bz.cell 3
    have i0 := br.cell 0; have i1 := br.cell 1; have g0 := br.frozen 0; have g1 := br.frozen 1
    simp at z0 z1 z2 z3 i0 i1
    go_wp2
    exact bodyPost_ret (v := .tuple #[.agg #[.int .i64 0, .int .i64 0], .bool false]) (by simp [results, Try.f15, go_sem, i0, i1]) rfl ⟨rfl, (hB.setCell (p := ⟨_, _, none⟩) (by simp) _).setCell (p := ⟨_, _, none⟩) (by simp) _⟩
  · cases hu : mayT u
    · have H := Lib.hid h; have HU := Lib.hid hu
      clear h hu hx
      go_enter Try.func15, Try.ntmps15
      go_wp2_with fail
      refine (zMay_own _ b f A A' n c n' c' l ys _ H.out hz1).mono ?_
      rintro e w1 ⟨rfl, hb1⟩
      have hA1 := hA.on hb1
      obtain ⟨⟨bz, br⟩, hB⟩ := hA1
      have lz := bz.lt
      have lr := br.lt
      have z0 := bz.cell 0; have z1 := bz.cell 1; have z2 := bz.cell 2; have z3 := bz.cell 3
      have i0 := br.cell 0; have i1 := br.cell 1; have g0 := br.frozen 0; have g1 := br.frozen 1
      simp at z0 z1 z2 z3 i0 i1
      go_wp2_with fail
      refine (mayS_no _ _ HU.out).mono ?_
      rintro e w2 ⟨rfl, rfl⟩
      go_wp2
      exact bodyPost_ret (v := .tuple #[.agg #[.int .i64 0, .int .i64 0], .bool false]) (by simp [results, Try.f15, go_sem, i0, i1]) rfl ⟨rfl, (hB.setCell (p := ⟨_, _, none⟩) (by simp) _).setCell (p := ⟨_, _, none⟩) (by simp) _⟩
    · have S := Lib.hid (show aft l ys f u = none from by unfold aftR at hx; simpa [h, hu] using hx)
      have H := Lib.hid h; have HU := Lib.hid hu
      clear h hu hx
      go_enter Try.func15, Try.ntmps15
      go_wp2_with fail
      refine (zMay_own _ b f A A' n c n' c' l ys _ H.out hz1).mono ?_
      rintro e w1 ⟨rfl, hb1⟩
      have hA1 := hA.on hb1
      obtain ⟨⟨bz, br⟩, hB⟩ := hA1
      have lz := bz.lt
      have lr := br.lt
      have z0 := bz.cell 0; have z1 := bz.cell 1; have z2 := bz.cell 2; have z3 := bz.cell 3
      have i0 := br.cell 0; have i1 := br.cell 1; have g0 := br.frozen 0; have g1 := br.frozen 1
      simp at z0 z1 z2 z3 i0 i1
      go_wp2_with fail
      refine (mayS_yes _ _ HU.out).mono ?_
      rintro e w2 ⟨rfl, rfl⟩
      go_wp2_with fail
      refine (after_none _ b f A A' n c n' c' l ys u S.out H.out HU.out (hz1.below hb1)).mono ?_
      rintro e w3 ⟨rfl, hb3⟩
      have hA3 := (CtxA.on ⟨⟨bz, br⟩, hB⟩ hb3)
      clear i0 i1 g0 g1 lr
      obtain ⟨⟨bz3, br3⟩, hB3⟩ := hA3
      have lr := br3.lt
      have i0 := br3.cell 0; have i1 := br3.cell 1; have g0 := br3.frozen 0; have g1 := br3.frozen 1
      simp at i0 i1
      go_wp2
      exact bodyPost_ret (v := .tuple #[.agg #[.int .i64 0, .int .i64 0], .bool false]) (by simp [results, Try.f15, go_sem, i0, i1]) rfl ⟨rfl, (hB3.setCell (p := ⟨_, _, none⟩) (by simp) _).setCell (p := ⟨_, _, none⟩) (by simp) _⟩
set_option maxHeartbeats 2000000 in
theorem After_some (w : World) (b f : Int) (A A' : Option Addr) (n c n' c' : Nat) (l : List Sh) (ys : List Yr) (u : Int) (s : Sh) (hx : aftR b l ys f u = some s) (hz : ZnAt w A n A' n' l ys) :
    Calls Try.prog 15 #[.agg #[.int .i64 b, .slice A n c, .slice A' n' c', .int .i64 f], .int .i64 u] w fun e w' => e = .returned (.tuple #[.agg #[.int .i64 s.t, .int .i64 s.o], .bool true]) ∧ Below w.heap.size w w' := by
  have ba := (((Below.refl _ _).alloc (Nat.le_refl _) (.cells #[.int .i64 b, .slice A n c, .slice A' n' c', .int .i64 f] 25)).alloc (by simp) (.cells #[.int .i64 0, .int .i64 0] 29) : Below w.heap.size w _)
  have hz1 := hz.below ba
  have hA := ctxA_new w #[.int .i64 b, .slice A n c, .slice A' n' c', .int .i64 f] #[.int .i64 0, .int .i64 0]
  have hm : (mayB b l ys f && mayT u) = true := by
    cases e : (mayB b l ys f && mayT u)
    · unfold aftR at hx; rw [e] at hx; simp at hx
    · rfl
  have S := Lib.hid (show aft l ys f u = some s from by unfold aftR at hx; rw [if_pos hm] at hx; exact hx)
  rw [Bool.and_eq_true] at hm
  have H := Lib.hid hm.1; have HU := Lib.hid hm.2
  clear hm hx
  go_enter Try.func15, Try.ntmps15
  go_wp2_with fail
  refine (zMay_own _ b f A A' n c n' c' l ys _ H.out hz1).mono ?_
  rintro e w1 ⟨rfl, hb1⟩
  have hA1 := hA.on hb1
  obtain ⟨⟨bz, br⟩, hB⟩ := hA1
  have lz := bz.lt
  have lr := br.lt
  have z0 := bz.cell 0; have z1 := bz.cell 1; have z2 := bz.cell 2; have z3 := bz.cell 3
  have i0 := br.cell 0; have i1 := br.cell 1; have g0 := br.frozen 0; have g1 := br.frozen 1
  simp at z0 z1 z2 z3 i0 i1
  go_wp2_with fail
  refine (mayS_yes _ _ HU.out).mono ?_
  rintro e w2 ⟨rfl, rfl⟩
  go_wp2_with fail
  refine (after_some _ b f A A' n c n' c' l ys u s S.out H.out HU.out (hz1.below hb1)).mono ?_
  rintro e w3 ⟨rfl, hb3⟩
  have hA3 := (CtxA.on ⟨⟨bz, br⟩, hB⟩ hb3)
  clear i0 i1 g0 g1 lr
  obtain ⟨⟨bz3, br3⟩, hB3⟩ := hA3
  have lr := br3.lt
  have i0 := br3.cell 0; have i1 := br3.cell 1; have g0 := br3.frozen 0; have g1 := br3.frozen 1
  simp at i0 i1
  go_wp2
  exact bodyPost_ret (v := .tuple #[.agg #[.int .i64 s.t, .int .i64 s.o], .bool true]) (by simp [results, Try.f15, go_sem, i0, i1]) rfl ⟨rfl, (hB3.setCell (p := ⟨_, _, none⟩) (by simp) _).setCell (p := ⟨_, _, none⟩) (by simp) _⟩
theorem offset_is (w : World) (b f : Int) (A A' : Option Addr) (n c n' c' : Nat) (l : List Sh) (ys : List Yr) (u x : Int) (hx : ofs b l ys f u = x) (h : mayB b l ys f = true) (hu : mayT u = true) (hz : ZnAt w A n A' n' l ys) :
    Calls Try.prog 48 #[.agg #[.int .i64 b, .slice A n c, .slice A' n' c', .int .i64 f], .int .i64 u] w fun e w' => e = .returned (.int .i64 x) ∧ Below w.heap.size w w' := hx ▸ offset_own w b f A A' n c n' c' l ys u h hu hz
theorem mayL_not {L : Int} (h : mayL L = false) : L < -62104060800 ∨ 253370764799 < L := by
  by_cases c : L < -62104060800
  · exact .inl c
  · right; have := of_decide_eq_false h; omega
set_option maxHeartbeats 4000000 in
theorem UTC_own (w : World) (b f : Int) (A A' : Option Addr) (n c n' c' : Nat) (l : List Sh) (ys : List Yr) (L : Int) (l1 : -9223372036854775808 ≤ L) (l2 : L ≤ 9223372036854775807) (hz : ZnAt w A n A' n' l ys) :
    Calls Try.prog 25 #[.agg #[.int .i64 b, .slice A n c, .slice A' n' c', .int .i64 f], .int .i64 L] w fun e w' => e = .returned (.int .i64 (utcR b l ys f L)) ∧ Below w.heap.size w w' := by
  have ba := ((Below.refl _ _).alloc (Nat.le_refl _) (.cells #[.int .i64 b, .slice A n c, .slice A' n' c', .int .i64 f] 25) (w := w))
  have hz1 := hz.below ba
  have hA := Blk.new w 25 #[.int .i64 b, .slice A n c, .slice A' n' c', .int .i64 f]
  cases h : mayB b l ys f
  · have R := Lib.hid (show utcR b l ys f L = 0 from by unfold utcR; simp [h])
    have H := Lib.hid h
    clear h
    go_enter Try.func25, Try.ntmps25
    go_wp2_with fail
    refine (zMay_own _ b f A A' n c n' c' l ys _ H.out hz1).mono ?_
    rintro e w1 ⟨rfl, hb1⟩
    have hA1 := hA.below hb1 hA.lt
    have lz := hA1.lt
    have z0 := hA1.cell 0; have z1 := hA1.cell 1; have z2 := hA1.cell 2; have z3 := hA1.cell 3
    simp at z0 z1 z2 z3
    go_wp2
    go_ret
    exact ⟨ret_int R.out.symm, ba.trans (hb1.mono (by simp))⟩
  · cases hL : mayL L
    · have R := Lib.hid (show utcR b l ys f L = 0 from by unfold utcR; simp [hL])
      have H := Lib.hid h
      rcases mayL_not hL with k | k
      · clear h hL
        go_enter Try.func25, Try.ntmps25
        go_wp2_with fail
        refine (zMay_own _ b f A A' n c n' c' l ys _ H.out hz1).mono ?_
        rintro e w1 ⟨rfl, hb1⟩
        have hA1 := hA.below hb1 hA.lt
        have lz := hA1.lt
        have z0 := hA1.cell 0; have z1 := hA1.cell 1; have z2 := hA1.cell 2; have z3 := hA1.cell 3
        simp at z0 z1 z2 z3
        go_wp2
        go_ret
        exact ⟨ret_int R.out.symm, ba.trans (hb1.mono (by simp))⟩
      · have k' : -62104060800 ≤ L := by omega
        clear h hL
        go_enter Try.func25, Try.ntmps25
        go_wp2_with fail
        refine (zMay_own _ b f A A' n c n' c' l ys _ H.out hz1).mono ?_
        rintro e w1 ⟨rfl, hb1⟩
        have hA1 := hA.below hb1 hA.lt
        have lz := hA1.lt
        have z0 := hA1.cell 0; have z1 := hA1.cell 1; have z2 := hA1.cell 2; have z3 := hA1.cell 3
        simp at z0 z1 z2 z3
        go_wp2
        go_ret
        exact ⟨ret_int R.out.symm, ba.trans (hb1.mono (by simp))⟩
    · obtain ⟨L1, L2⟩ := of_decide_eq_true hL
      have H := Lib.hid h
      obtain ⟨o1, ho1⟩ : ∃ x, ofs b l ys f (L - 64800) = x := ⟨_, rfl⟩
      obtain ⟨o2, ho2⟩ : ∃ x, ofs b l ys f (L + 64800) = x := ⟨_, rfl⟩
      obtain ⟨q1, hq1⟩ : ∃ x, ofs b l ys f (L - o1) = x := ⟨_, rfl⟩
      obtain ⟨q2, hq2⟩ : ∃ x, ofs b l ys f (L - o2) = x := ⟨_, rfl⟩
      have b1 := ofs_bd h (u := L - 64800) (decide_eq_true ⟨by omega, by omega⟩)
      have b2 := ofs_bd h (u := L + 64800) (decide_eq_true ⟨by omega, by omega⟩)
      rw [ho1] at b1; rw [ho2] at b2
      have b3 := ofs_bd h (u := L - o1) (decide_eq_true ⟨by omega, by omega⟩)
      have b4 := ofs_bd h (u := L - o2) (decide_eq_true ⟨by omega, by omega⟩)
      rw [hq1] at b3; rw [hq2] at b4
      have R0 : utcR b l ys f L = if (L - o1) + q1 ≠ L ∧ (L - o2) + q2 = L then L - o2 else L - o1 := by unfold utcR utc utcF; simp only [h, hL, ho1, ho2, hq1, hq2, Bool.and_self, if_true]
      obtain ⟨b11, b12⟩ := b1; obtain ⟨b21, b22⟩ := b2; obtain ⟨b31, b32⟩ := b3; obtain ⟨b41, b42⟩ := b4
      have O1 := Lib.hid ho1; have O2 := Lib.hid ho2; have Q1 := Lib.hid hq1; have Q2 := Lib.hid hq2
      clear ho1 ho2 hq1 hq2 h hL
      by_cases c1 : L - o1 + q1 = L
      · have R := Lib.hid (show utcR b l ys f L = L - o1 from by rw [R0, if_neg (fun k => k.1 c1)])
        have t1 : ((L - o1 + q1 : Int) != L) = false := by rw [bne_eq_false_iff_eq]; exact c1
        clear R0 c1
        go_enter Try.func25, Try.ntmps25
        go_wp2_with fail
        refine (zMay_own _ b f A A' n c n' c' l ys _ H.out hz1).mono ?_
        rintro e w1 ⟨rfl, hb1⟩
        have hA1 := hA.below hb1 hA.lt
        have lz := hA1.lt
        have z0 := hA1.cell 0; have z1 := hA1.cell 1; have z2 := hA1.cell 2; have z3 := hA1.cell 3
        simp at z0 z1 z2 z3
        go_wp2_with fail
        refine (offset_is _ b f A A' n c n' c' l ys _ _ O1.out H.out (by exact decide_eq_true ⟨by omega, by omega⟩) (hz1.below hb1)).mono ?_
        rintro e w2 ⟨rfl, hc2⟩
        have hb2 := hb1.trans (hc2.mono hb1.size)
        have hA2 := hA.below hb2 hA.lt
        clear lz z0 z1 z2 z3
        have lz := hA2.lt
        have z0 := hA2.cell 0; have z1 := hA2.cell 1; have z2 := hA2.cell 2; have z3 := hA2.cell 3
        simp at z0 z1 z2 z3
        go_wp2_with fail
        refine (offset_is _ b f A A' n c n' c' l ys _ _ O2.out H.out (by exact decide_eq_true ⟨by omega, by omega⟩) (hz1.below hb2)).mono ?_
        rintro e w3 ⟨rfl, hc3⟩
        have hb3 := hb2.trans (hc3.mono hb2.size)
        have hA3 := hA.below hb3 hA.lt
        clear lz z0 z1 z2 z3
        have lz := hA3.lt
        have z0 := hA3.cell 0; have z1 := hA3.cell 1; have z2 := hA3.cell 2; have z3 := hA3.cell 3
        simp at z0 z1 z2 z3
        go_wp2_with fail
        refine (offset_is _ b f A A' n c n' c' l ys _ _ Q1.out H.out (by exact decide_eq_true ⟨by omega, by omega⟩) (hz1.below hb3)).mono ?_
        rintro e w4 ⟨rfl, hc4⟩
        have hb4 := hb3.trans (hc4.mono hb3.size)
        have hA4 := hA.below hb4 hA.lt
        clear lz z0 z1 z2 z3
        have lz := hA4.lt
        have z0 := hA4.cell 0; have z1 := hA4.cell 1; have z2 := hA4.cell 2; have z3 := hA4.cell 3
        simp at z0 z1 z2 z3
        go_wp2
        go_ret
        exact ⟨ret_int R.out.symm, ba.trans (hb4.mono (by simp))⟩
      · have t1 : ((L - o1 + q1 : Int) != L) = true := by rw [bne_iff_ne]; exact c1
        by_cases c2 : L - o2 + q2 = L
        · have R := Lib.hid (show utcR b l ys f L = L - o2 from by rw [R0, if_pos ⟨c1, c2⟩])
          have t2 : ((L - o2 + q2 : Int) == L) = true := by rw [beq_iff_eq]; exact c2
          clear R0 c1 c2
          go_enter Try.func25, Try.ntmps25
          go_wp2_with fail
          refine (zMay_own _ b f A A' n c n' c' l ys _ H.out hz1).mono ?_
          rintro e w1 ⟨rfl, hb1⟩
          have hA1 := hA.below hb1 hA.lt
          have lz := hA1.lt
          have z0 := hA1.cell 0; have z1 := hA1.cell 1; have z2 := hA1.cell 2; have z3 := hA1.cell 3
          simp at z0 z1 z2 z3
          go_wp2_with fail
          refine (offset_is _ b f A A' n c n' c' l ys _ _ O1.out H.out (by exact decide_eq_true ⟨by omega, by omega⟩) (hz1.below hb1)).mono ?_
          rintro e w2 ⟨rfl, hc2⟩
          have hb2 := hb1.trans (hc2.mono hb1.size)
          have hA2 := hA.below hb2 hA.lt
          clear lz z0 z1 z2 z3
          have lz := hA2.lt
          have z0 := hA2.cell 0; have z1 := hA2.cell 1; have z2 := hA2.cell 2; have z3 := hA2.cell 3
          simp at z0 z1 z2 z3
          go_wp2_with fail
          refine (offset_is _ b f A A' n c n' c' l ys _ _ O2.out H.out (by exact decide_eq_true ⟨by omega, by omega⟩) (hz1.below hb2)).mono ?_
          rintro e w3 ⟨rfl, hc3⟩
          have hb3 := hb2.trans (hc3.mono hb2.size)
          have hA3 := hA.below hb3 hA.lt
          clear lz z0 z1 z2 z3
          have lz := hA3.lt
          have z0 := hA3.cell 0; have z1 := hA3.cell 1; have z2 := hA3.cell 2; have z3 := hA3.cell 3
          simp at z0 z1 z2 z3
          go_wp2_with fail
          refine (offset_is _ b f A A' n c n' c' l ys _ _ Q1.out H.out (by exact decide_eq_true ⟨by omega, by omega⟩) (hz1.below hb3)).mono ?_
          rintro e w4 ⟨rfl, hc4⟩
          have hb4 := hb3.trans (hc4.mono hb3.size)
          have hA4 := hA.below hb4 hA.lt
          clear lz z0 z1 z2 z3
          have lz := hA4.lt
          have z0 := hA4.cell 0; have z1 := hA4.cell 1; have z2 := hA4.cell 2; have z3 := hA4.cell 3
          simp at z0 z1 z2 z3
          go_wp2_with fail
          refine (offset_is _ b f A A' n c n' c' l ys _ _ Q2.out H.out (by exact decide_eq_true ⟨by omega, by omega⟩) (hz1.below hb4)).mono ?_
          rintro e w5 ⟨rfl, hc5⟩
          have hb5 := hb4.trans (hc5.mono hb4.size)
          have hA5 := hA.below hb5 hA.lt
          clear lz z0 z1 z2 z3
          have lz := hA5.lt
          have z0 := hA5.cell 0; have z1 := hA5.cell 1; have z2 := hA5.cell 2; have z3 := hA5.cell 3
          simp at z0 z1 z2 z3
          go_wp2
          go_ret
          exact ⟨ret_int R.out.symm, ba.trans (hb5.mono (by simp))⟩
        · have R := Lib.hid (show utcR b l ys f L = L - o1 from by rw [R0, if_neg (fun k => c2 k.2)])
          have t2 : ((L - o2 + q2 : Int) == L) = false := by rw [beq_eq_false_iff_ne]; exact c2
          clear R0 c1 c2
          go_enter Try.func25, Try.ntmps25
          go_wp2_with fail
          refine (zMay_own _ b f A A' n c n' c' l ys _ H.out hz1).mono ?_
          rintro e w1 ⟨rfl, hb1⟩
          have hA1 := hA.below hb1 hA.lt
          have lz := hA1.lt
          have z0 := hA1.cell 0; have z1 := hA1.cell 1; have z2 := hA1.cell 2; have z3 := hA1.cell 3
          simp at z0 z1 z2 z3
          go_wp2_with fail
          refine (offset_is _ b f A A' n c n' c' l ys _ _ O1.out H.out (by exact decide_eq_true ⟨by omega, by omega⟩) (hz1.below hb1)).mono ?_
          rintro e w2 ⟨rfl, hc2⟩
          have hb2 := hb1.trans (hc2.mono hb1.size)
          have hA2 := hA.below hb2 hA.lt
          clear lz z0 z1 z2 z3
          have lz := hA2.lt
          have z0 := hA2.cell 0; have z1 := hA2.cell 1; have z2 := hA2.cell 2; have z3 := hA2.cell 3
          simp at z0 z1 z2 z3
          go_wp2_with fail
          refine (offset_is _ b f A A' n c n' c' l ys _ _ O2.out H.out (by exact decide_eq_true ⟨by omega, by omega⟩) (hz1.below hb2)).mono ?_
          rintro e w3 ⟨rfl, hc3⟩
          have hb3 := hb2.trans (hc3.mono hb2.size)
          have hA3 := hA.below hb3 hA.lt
          clear lz z0 z1 z2 z3
          have lz := hA3.lt
          have z0 := hA3.cell 0; have z1 := hA3.cell 1; have z2 := hA3.cell 2; have z3 := hA3.cell 3
          simp at z0 z1 z2 z3
          go_wp2_with fail
          refine (offset_is _ b f A A' n c n' c' l ys _ _ Q1.out H.out (by exact decide_eq_true ⟨by omega, by omega⟩) (hz1.below hb3)).mono ?_
          rintro e w4 ⟨rfl, hc4⟩
          have hb4 := hb3.trans (hc4.mono hb3.size)
          have hA4 := hA.below hb4 hA.lt
          clear lz z0 z1 z2 z3
          have lz := hA4.lt
          have z0 := hA4.cell 0; have z1 := hA4.cell 1; have z2 := hA4.cell 2; have z3 := hA4.cell 3
          simp at z0 z1 z2 z3
          go_wp2_with fail
          refine (offset_is _ b f A A' n c n' c' l ys _ _ Q2.out H.out (by exact decide_eq_true ⟨by omega, by omega⟩) (hz1.below hb4)).mono ?_
          rintro e w5 ⟨rfl, hc5⟩
          have hb5 := hb4.trans (hc5.mono hb4.size)
          have hA5 := hA.below hb5 hA.lt
          clear lz z0 z1 z2 z3
          have lz := hA5.lt
          have z0 := hA5.cell 0; have z1 := hA5.cell 1; have z2 := hA5.cell 2; have z3 := hA5.cell 3
          simp at z0 z1 z2 z3
          go_wp2
          go_ret
          exact ⟨ret_int R.out.symm, ba.trans (hb5.mono (by simp))⟩
end Go.Proofs.Ytbinhnlajflndaa.Zn
