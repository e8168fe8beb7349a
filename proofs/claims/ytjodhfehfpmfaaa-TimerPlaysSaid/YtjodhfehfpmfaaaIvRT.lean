/- voklaw10.tagged, vokref.Ints at what is the same; Copy. -/
import Derived.Test.YtjodhfehfpmfaaaIvOps
import Derived.Test.YtjodhfehfpmfaaaIvAddM
set_option linter.unusedVariables false
namespace Go.Proofs.Ytjodhfehfpmfaaa.Iv
open Go.RowKit

set_option maxRecDepth 100000 in
set_option maxHeartbeats 4000000 in
theorem ints_same (w : World) (A B : Option Addr) (n c d : Nat) (l : List Int) (hl : IsAt w A n l) (hk : IsAt w B n l) (h1 : n ≤ 9223372036854775807) :
    Calls Try.prog 29 #[.slice A n c, .slice B n d] w fun e w' => e = .returned (.bool true) ∧ Below w.heap.size w w' := by
  have HL := Lib.hid hl
  have HK := Lib.hid hk
  clear hl hk
  go_enter Try.func29, Try.ntmps29
  go_wp2
  go_loopw [5] (fun i wr => ∃ t : Nat, i = .int .i64 t ∧ t ≤ n ∧ Below w.heap.size w wr) (fun i _ => n - (intOf i).toNat)
  case atStart => exact ⟨0, rfl, Nat.zero_le _, Below.refl _ _⟩
  case round =>
    obtain ⟨wo, rfl⟩ : ∃ wo : World, wo = wr := ⟨_, rfl⟩
    obtain ⟨t, rfl, ht, hB⟩ := hrel
    by_cases hlt : t < n
    · obtain ⟨b1, o1, rfl, hl1, hc1⟩ := HL.out.2 (by omega)
      obtain ⟨b2, o2, rfl, hl2, hc2⟩ := HK.out.2 (by omega)
      have c0 := (hB.cell (p := ⟨b1, _, none⟩) hl1).trans (hc1 t hlt)
      have d0 := (hB.cell (p := ⟨b2, _, none⟩) hl2).trans (hc2 t hlt)
      clear hc1 hc2
      generalize gt l t = x at *
      have i5 : (t : Int) < n := by omega
      have s0 : decide ((t : Int) < n) = true := decide_eq_true (by omega)
      have s00 : decide (t < n) = true := decide_eq_true hlt
      have W2 : IntKind.i64.wrap ((t : Int) + 1) = (t : Int) + 1 := IntWalk.i64_in _ (by omega)
      go_wp2
      go_big_quiet (fail)
      go_wp2
      go_roundw
      case rel => exact ⟨t + 1, by go_num, by omega, hB.trans (below_drewN _ _ _)⟩
      case measure => simp [intOf]; omega
    · obtain rfl : n = t := by omega
      have s0 : decide ((n : Int) < n) = false := decide_eq_false (by omega)
      have s00 : decide (n < n) = false := decide_eq_false (by omega)
      go_wp2
      go_ret
      exact ⟨rfl, hB⟩
set_option maxRecDepth 100000 in
set_option maxHeartbeats 4000000 in
theorem tagged_same (w : World) (A B : Option Addr) (n c d : Nat) (l : List Tg) (hl : TgAt w A n l) (hk : TgAt w B n l) (h1 : n ≤ 9223372036854775807) :
    Calls Try.prog 27 #[.slice A n c, .slice B n d] w fun e w' => e = .returned (.bool true) ∧ Below w.heap.size w w' := by
  have HL := Lib.hid hl
  have HK := Lib.hid hk
  clear hl hk
  go_enter Try.func27, Try.ntmps27
  go_wp2
  go_loopw [5] (fun i wr => ∃ t : Nat, i = .int .i64 t ∧ t ≤ n ∧ Below w.heap.size w wr) (fun i _ => n - (intOf i).toNat)
  case atStart => exact ⟨0, rfl, Nat.zero_le _, Below.refl _ _⟩
  case round =>
    obtain ⟨wo, rfl⟩ : ∃ wo : World, wo = wr := ⟨_, rfl⟩
    obtain ⟨t, rfl, ht, hB⟩ := hrel
    by_cases hlt : t < n
    · obtain ⟨b1, o1, rfl, hl1, hc1⟩ := HL.out.2 (by omega)
      obtain ⟨b2, o2, rfl, hl2, hc2⟩ := HK.out.2 (by omega)
      obtain ⟨c0, c1, c2⟩ := hc1 t hlt
      obtain ⟨d0, d1, d2⟩ := hc2 t hlt
      replace c0 := (hB.cell (p := ⟨b1, _, none⟩) hl1).trans c0
      replace c1 := (hB.cell (p := ⟨b1, _, none⟩) hl1).trans c1
      replace c2 := (hB.cell (p := ⟨b1, _, none⟩) hl1).trans c2
      replace d0 := (hB.cell (p := ⟨b2, _, none⟩) hl2).trans d0
      replace d1 := (hB.cell (p := ⟨b2, _, none⟩) hl2).trans d1
      replace d2 := (hB.cell (p := ⟨b2, _, none⟩) hl2).trans d2
      clear hc1 hc2
      generalize gt l t = x at *
      have i5 : (t : Int) < n := by omega
      have s0 : decide ((t : Int) < n) = true := decide_eq_true (by omega)
      have s00 : decide (t < n) = true := decide_eq_true hlt
      have W2 : IntKind.i64.wrap ((t : Int) + 1) = (t : Int) + 1 := IntWalk.i64_in _ (by omega)
      go_wp2
      go_big_quiet (fail)
      go_wp2
      go_roundw
      case rel => exact ⟨t + 1, by go_num, by omega, hB.trans (below_drewN _ _ _)⟩
      case measure => simp [intOf]; omega
    · obtain rfl : n = t := by omega
      have s0 : decide ((n : Int) < n) = false := decide_eq_false (by omega)
      have s00 : decide (n < n) = false := decide_eq_false (by omega)
      go_wp2
      go_ret
      exact ⟨rfl, hB⟩
/-- a list of one's own -/
def OwnR (w : World) (e : TypeId) (size : Nat) (n : Nat) (cells : List Value) (en : Ending) (w' : World) : Prop := ∃ A c, en = .returned (.slice A n c) ∧ RowF (fun k => w.heap.size ≤ k) w' e size A n c cells ∧ Below w.heap.size w w'
theorem cloneT_own {F : Nat → Prop} (w : World) (A : Option Addr) (c : Nat) (l : List Tg) (h : RowF F w 42 3 A l.length c (cellsL encT l)) (hl : l.length ≤ 1000000) :
    Calls Try.prog 68 #[.slice A l.length c] w (OwnR w 42 3 l.length (cellsL encT l)) := by
  obtain ⟨i0, hi, hz0, hz1, hz2⟩ := info_parts info_tg
  rcases h.2.2 with ⟨rfl, q⟩ | ⟨g, rfl, -, r⟩
  · have e0 : l = [] := List.length_eq_zero_iff.1 (by have := h.2.1; omega)
    subst e0 q
    refine (Try.slices_Clone_nil_f68 0 0 w).mono ?_
    rintro e w' ⟨rfl, rfl⟩
    exact ⟨none, 0, rfl, ⟨rfl, Nat.le_refl _, .inl ⟨rfl, rfl⟩⟩, Below.refl _ _⟩
  · refine (Try.slices_Clone_f68 i0 _ 3 24 hi hz0 hz1 hz2 rfl (by decide) Try.sizeOf42 g 0 l.length c (cellsL encT l) w (by rw [cells_len (k := 3) (fun _ => rfl)]) (by unfold maxLen; omega) (by omega) (fun j u hj => by rw [Nat.zero_add]; exact r.cell hj) (cells_one encT_one l)).mono ?_
    rintro e w' ⟨v', rfl, hown, hne, hb⟩
    rcases hown.2 with ⟨h', _⟩ | ⟨g, cap, cur, rfl, hbg, hg, hnc, hcm, hcs, htake⟩
    · exact absurd h' hne
    · obtain ⟨r, ll, q, -⟩ := row_of hown
      exact ⟨_, cap, rfl, ⟨ll, hnc, .inr ⟨g, rfl, hbg, r⟩⟩, hb⟩
theorem cloneI_own {F : Nat → Prop} (w : World) (A : Option Addr) (c : Nat) (l : List Int) (h : RowF F w 3 1 A l.length c (cellsL encI l)) (hl : l.length ≤ 1000000) :
    Calls Try.prog 69 #[.slice A l.length c] w (OwnR w 3 1 l.length (cellsL encI l)) := by
  obtain ⟨i0, hi, hz0, hz1, hz2⟩ := info_parts info_int
  rcases h.2.2 with ⟨rfl, q⟩ | ⟨g, rfl, -, r⟩
  · have e0 : l = [] := List.length_eq_zero_iff.1 (by have := h.2.1; omega)
    subst e0 q
    refine (Try.slices_Clone_nil_f69 0 0 w).mono ?_
    rintro e w' ⟨rfl, rfl⟩
    exact ⟨none, 0, rfl, ⟨rfl, Nat.le_refl _, .inl ⟨rfl, rfl⟩⟩, Below.refl _ _⟩
  · refine (Try.slices_Clone_f69 i0 _ 1 8 hi hz0 hz1 hz2 rfl (by decide) Try.sizeOf3 g 0 l.length c (cellsL encI l) w (by rw [cells_len (k := 1) (fun _ => rfl)]) (by unfold maxLen; omega) (by omega) (fun j u hj => by rw [Nat.zero_add]; exact r.cell hj) (cells_one encI_one l)).mono ?_
    rintro e w' ⟨v', rfl, hown, hne, hb⟩
    rcases hown.2 with ⟨h', _⟩ | ⟨g, cap, cur, rfl, hbg, hg, hnc, hcm, hcs, htake⟩
    · exact absurd h' hne
    · obtain ⟨r, ll, q, -⟩ := row_of hown
      exact ⟨_, cap, rfl, ⟨ll, hnc, .inr ⟨g, rfl, hbg, r⟩⟩, hb⟩
set_option maxRecDepth 100000 in
theorem list_own {F : Nat → Prop} (w : World) (p : Nat) (all : List Tg) (ow : List Int) (S : SetIn F w p all ow) (hl : all.length ≤ 1000000) : Calls Try.prog 28 #[.pointer (some ⟨p, 0, none⟩)] w (OwnR w 42 3 all.length (cellsL encT all)) := by
  obtain ⟨A, c, O, d, H⟩ := S
  have c0 := H.c0
  have T := Lib.hid (cloneT_own w A c all H.tags hl)
  clear H
  go_enter Try.func28, Try.ntmps28
  go_wp2_with fail
  refine T.out.mono ?_
  rintro e w' ⟨A', c', rfl, h1, h2⟩
  have K := Lib.hid (show OwnR w 42 3 all.length (cellsL encT all) (.returned (.slice A' all.length c')) w' from ⟨A', c', rfl, h1, h2⟩)
  clear h1 h2
  go_wp2
  go_ret
  exact K.out
set_option maxRecDepth 100000 in
theorem owners_own {F : Nat → Prop} (w : World) (p : Nat) (all : List Tg) (ow : List Int) (S : SetIn F w p all ow) (hl : ow.length ≤ 1000000) : Calls Try.prog 30 #[.pointer (some ⟨p, 0, none⟩)] w (OwnR w 3 1 ow.length (cellsL encI ow)) := by
  obtain ⟨A, c, O, d, H⟩ := S
  have c0 := H.c1
  have T := Lib.hid (cloneI_own w O d ow H.nums hl)
  clear H
  go_enter Try.func30, Try.ntmps30
  go_wp2_with fail
  refine T.out.mono ?_
  rintro e w' ⟨A', c', rfl, h1, h2⟩
  have K := Lib.hid (show OwnR w 3 1 ow.length (cellsL encI ow) (.returned (.slice A' ow.length c')) w' from ⟨A', c', rfl, h1, h2⟩)
  clear h1 h2
  go_wp2
  go_ret
  exact K.out
set_option maxRecDepth 100000 in
/-- Copy -/
theorem copy_is {F : Nat → Prop} (w : World) (p : Nat) (all : List Tg) (ow : List Int) (S : SetIn F w p all ow) (hl : all.length ≤ 1000000) (ho : ow.length ≤ 1000000) : Calls Try.prog 26 #[.pointer (some ⟨p, 0, none⟩)] w fun e w' => ∃ p', e = .returned (.pointer (some ⟨p', 0, none⟩)) ∧ w.heap.size ≤ p' ∧ SetIn (fun k => w.heap.size ≤ k) w' p' all ow ∧ Below w.heap.size w w' := by
  have SH := Lib.hid S
  clear S
  go_enter Try.func26, Try.ntmps26
  go_wp2_with fail
  refine (list_own w p all ow SH.out hl).mono ?_
  rintro e w1 ⟨A1, c1, rfl, r1, b1⟩
  have R1 := Lib.hid r1
  have B1 := Lib.hid b1
  clear r1 b1
  go_wp2_with fail
  refine (owners_own w1 p all ow (SH.out.below B1.out) ho).mono ?_
  rintro e w2 ⟨A2, c2, rfl, r2, b2⟩
  have sz := B1.out.size
  have B2 := Lib.hid (B1.out.trans (b2.mono sz))
  have R12 := Lib.hid (R1.out.on (Kp.of' b2) fun _ _ _ q => q)
  have R2 := Lib.hid (r2.mono fun k h _ => Nat.le_trans sz h)
  clear r2 b2 R1
  go_wp2_with fail
  go_ret
  have ba := below_alloc w2 (.cells #[.slice A1 all.length c1, .slice A2 ow.length c2] 93)
  exact ⟨_, rfl, B2.out.size, ⟨A1, c1, A2, c2, new_row w2 93 2 1 1 #[.slice A1 all.length c1, .slice A2 ow.length c2] #[] rfl (by unfold maxLen; decide), B2.out.size, R12.out.on (Kp.of' ba) fun _ _ _ q => q, R2.out.on (Kp.of' ba) fun _ _ _ q => q, SH.out.ok⟩, B2.out.trans (ba.mono B2.out.size)⟩
end Go.Proofs.Ytjodhfehfpmfaaa.Iv
