/- The walks of package disk: bytes.Clone; Sync, Append, Swap, Bytes, Synced, Room, Copy. -/
import Derived.Test.YtniphbfoppocfaaDoorDkLt
set_option linter.unusedVariables false
namespace Go.Proofs.YtniphbfoppocfaaDoor.Dk
open Go.RowKit Fr

set_option maxRecDepth 100000 in
set_option maxHeartbeats 4000000 in
theorem clone_is (w : World) (A : Option Addr) (n c : Nat) (l : List UInt8) (h : BsAt w A n l) (hA : A = none → c = 0) (hn : n ≤ 1000000) :
    Calls Tryd.prog 40 #[.slice A n c] w fun e w' => ∃ v, e = .returned v ∧ OwnB w.heap.size w' v l ∧ Below w.heap.size w w' := by
  have EQ := fun w => Lib.run_eql_slice_nil (P := Tryd.prog) w 22 5 A n c 0 0 Tryd.underlying22
  cases A with
  | none =>
    obtain rfl := hA rfl
    obtain ⟨rfl, rfl⟩ : n = 0 ∧ l = [] := by
      obtain ⟨e, q⟩ := h
      by_cases h0 : 0 < n
      · obtain ⟨b, off, e, _⟩ := q h0; cases e
      · exact ⟨by omega, List.length_eq_zero_iff.1 (by omega)⟩
    have G := Lib.hid (OwnB.nil w.heap.size w)
    clear h hA
    go_enter Tryd.func40, Tryd.ntmps40
    go_wp2
    go_ret
    exact ⟨_, rfl, G.out, Below.refl _ _⟩
  | some ad =>
    have o0 := lit_own (B := w.heap.size) w [] #[] (Nat.le_refl _) rfl (by decide)
    have b0 := below_alloc w (.cells #[] 5)
    have HO := Lib.hid o0
    have H := Lib.hid (h.below b0)
    have BB := Lib.hid b0
    have HA := Lib.hid hA
    clear o0 b0 h hA
    go_enter Tryd.func40, Tryd.ntmps40
    go_wp2_with (at_builtin; refine append_bs rfl _ _ rfl _ [] rfl HO.out (by simp) _ _ _ _ rfl H.out HA.out (by simpa using hn) ?_)
    intro v1 w1 o1 b1
    go_wp2
    go_ret
    exact ⟨v1, rfl, by simpa using o1, BB.out.trans (grown_below HO.out b1 (by simp))⟩
/-- the program's disk: its bytes are put anew -/
theorem put_newD {w w1 : World} {p : Nat} {v u : Value} {R Y : Int} {l m : List UInt8} (h : DkV 62 w p R Y l v) (b : Below w.heap.size w w1) (o : OwnB w.heap.size w1 u m) :
    (w1.cell? ⟨p, 0, none⟩ = some v ∧ w1.frozen? ⟨p, 0, none⟩ = false) ∧ Hid (DkV 62 (w1.setCell ⟨p, 0, none⟩ u) p R Y m u ∧ Kp (Ft p v) w (w1.setCell ⟨p, 0, none⟩ u) ∧ New w v u) := by
  have h1 := h.below b
  refine ⟨⟨h1.c2D, h1.fz 0⟩, Lib.hid ⟨DkV.set2D h1.blk (own_low o (Nat.zero_le _)), (Kp.of b).trans (Kp.setCell w1 ⟨p, 0, none⟩ (.inl rfl) u), .inr fun k hk => (World.ownsRow.lt o k hk).1⟩⟩
/-- .. behind an append to them -/
theorem put_at {w w1 : World} {p : Nat} {v u : Value} {R Y : Int} {l m : List UInt8} (h : DkV 62 w p R Y l v) (g : w.grownBy w1 v.ownBlock) (o : OwnB 0 w1 u m) (q : u.ownBlock = v.ownBlock ∨ u.ownBlock = some w.heap.size) :
    (w1.cell? ⟨p, 0, none⟩ = some v ∧ w1.frozen? ⟨p, 0, none⟩ = false) ∧ Hid (DkV 62 (w1.setCell ⟨p, 0, none⟩ u) p R Y m u ∧ Kp (Ft p v) w (w1.setCell ⟨p, 0, none⟩ u) ∧ New w v u) := by
  have hb : w1.heap[p]? = some (.cells (cl 62 R Y v) 62) := (g.block p h.lt fun e => h.free (by decide) h.own p e.symm rfl).trans h.blk
  refine ⟨⟨by rw [cell_of_row w1 p 0 _ _ _ hb]; rfl, by simp [World.frozen?, hb]⟩, Lib.hid ⟨DkV.set2D hb o, (Kp.grown g fun k e => .inr e).trans (Kp.setCell w1 ⟨p, 0, none⟩ (.inl rfl) u), ?_⟩⟩
  rcases q with q | q
  · exact .inl q
  · refine .inr fun k e => ?_
    rw [q] at e
    injection e with e
    omega
set_option maxRecDepth 100000 in
theorem sync_is (w : World) (p : Nat) (R Y : Int) (l : List UInt8) (v : Value) (h : DkV 62 w p R Y l v) (hl : l.length ≤ 100000) : Calls Tryd.prog 42 #[.pointer (some ⟨p, 0, none⟩)] w (DkT 62 w p v R l.length l (.tuple #[])) := by
  obtain ⟨L, hL⟩ : ∃ L, l.length = L := ⟨_, rfl⟩
  rw [hL] at hl ⊢
  have HD := Lib.hid h
  obtain ⟨V, k, rfl, av, kv, zv⟩ := h.own.at_
  rw [hL] at av kv h HD ⊢
  have c1 := h.c1D
  have c2 := h.c2D
  have f1 := h.fz 1
  have G := Lib.hid (show ∃ v', DkV 62 (w.setCell ⟨p, 1, none⟩ (.int .i64 (L : Int))) p R L l v' ∧ Kp (Ft p (.slice V L k)) w (w.setCell ⟨p, 1, none⟩ (.int .i64 (L : Int))) ∧ New w (.slice V L k) v' from ⟨_, h.set1D L, Kp.setCell w ⟨p, 1, none⟩ (.inl rfl) _, .inl rfl⟩)
  clear h av
  go_enter Tryd.func42, Tryd.ntmps42
  go_wp2
  exact bodyPost_ret (v := .tuple #[]) (by simp [results, Tryd.results42, go_sem]) rfl ⟨rfl, G.out⟩
set_option maxRecDepth 100000 in
set_option maxHeartbeats 4000000 in
theorem app_is (w : World) (p : Nat) (R Y : Int) (l : List UInt8) (v : Value) (A : Option Addr) (n c : Nat) (b : List UInt8) (h : DkV 62 w p R Y l v) (hb : BsAt w A n b) (hA : A = none → c = 0) (hl : l.length ≤ 100000) (hn : n ≤ 100000) (hR0 : 0 ≤ R) (hR : R ≤ 2000000000) : Calls Tryd.prog 11 #[.pointer (some ⟨p, 0, none⟩), .slice A n c] w (DkT 62 w p v R Y (appL R l b) (.int .i64 (appE R l b : Nat))) := by
  obtain rfl : n = b.length := hb.1
  obtain ⟨n, hN⟩ : ∃ n, b.length = n := ⟨_, rfl⟩
  rw [hN] at hb hn ⊢
  obtain ⟨L, hL⟩ : ∃ L, l.length = L := ⟨_, rfl⟩
  rw [hL] at hl
  have HD := Lib.hid h
  have HBB := Lib.hid hb
  have HA := Lib.hid hA
  have HLE := Lib.hid hL
  obtain ⟨V, k, rfl, av, kv, zv⟩ := h.own.at_
  rw [hL] at av kv h HD ⊢
  have c0 := h.c0D
  have c2 := h.c2D
  clear h hb hA av
  have W1 : IntKind.i64.wrap ((L : Int) + n) = L + n := IntWalk.i64_in _ (by omega)
  by_cases h1 : (R : Int) < (L : Int) + n
  · have G := Lib.hid (fun b1 => same_T (w' := w.drewN b1) HD.out (below_drewN _ _ _) (.int .i64 9))
    have e1 : appE R l b = 9 := by unfold appE; rw [if_neg (by omega)]
    have e2 : appL R l b = l := by unfold appL; rw [if_neg (by omega)]
    rw [e1, e2]
    clear e1 e2 hL hN
    go_enter Tryd.func11, Tryd.ntmps11
    go_wp2
    go_quiet (fail)
    go_wp2
    go_ret
    exact G.out _
  · have e1 : appE R l b = 0 := by unfold appE; rw [if_pos (by omega)]
    have e2 : appL R l b = l ++ b := by unfold appL; rw [if_pos (by omega)]
    rw [e1, e2]
    clear e1 e2 hL hN
    go_enter Tryd.func11, Tryd.ntmps11
    go_wp2
    go_quiet (fail)
    have D1 := Lib.hid (HD.out.below (below_drewN w.heap.size w nq))
    have HB1 := Lib.hid (HBB.out.below (below_drewN w.heap.size w nq))
    go_wp2_with (at_builtin; refine append_at rfl _ _ rfl _ l rfl D1.out.own (Nat.zero_le _) _ _ _ _ rfl HB1.out HA.out (by have := HLE.out; omega) ?_)
    intro v2 w2 o2 g2 q2
    obtain ⟨m2, hm2⟩ : ∃ m, (l ++ b).length = m := ⟨_, rfl⟩
    obtain ⟨A2, k2, rfl, -, -, -⟩ := own_atN o2 hm2
    obtain ⟨⟨z1, z2⟩, FIN⟩ := put_at D1.out g2 o2 q2
    have FIN2 := Lib.hid (show ∃ v', DkV 62 (w2.setCell ⟨p, 0, none⟩ (.slice A2 m2 k2)) p R Y (l ++ b) v' ∧ Kp (Ft p (.slice V L k)) w (w2.setCell ⟨p, 0, none⟩ (.slice A2 m2 k2)) ∧ New w (.slice V L k) v' from ⟨_, FIN.out.1, (Kp.of (below_drewN w.heap.size w nq)).trans FIN.out.2.1, FIN.out.2.2⟩)
    clear o2 g2 q2 FIN hm2
    go_wp2
    go_ret
    exact ⟨rfl, FIN2.out⟩
set_option maxRecDepth 100000 in
set_option maxHeartbeats 4000000 in
theorem swap_is (w : World) (p : Nat) (R Y : Int) (l : List UInt8) (v : Value) (A : Option Addr) (n c : Nat) (b : List UInt8) (h : DkV 62 w p R Y l v) (hb : BsAt w A n b) (hA : A = none → c = 0) (hn : n ≤ 100000) : Calls Tryd.prog 44 #[.pointer (some ⟨p, 0, none⟩), .slice A n c] w (DkT 62 w p v R (swY R Y b) (swL R l b) (.int .i64 (swE R b : Nat))) := by
  obtain rfl : n = b.length := hb.1
  obtain ⟨n, hN⟩ : ∃ n, b.length = n := ⟨_, rfl⟩
  rw [hN] at hb hn ⊢
  have HD := Lib.hid h
  have HBB := Lib.hid hb
  have HA := Lib.hid hA
  obtain ⟨L, hL⟩ : ∃ L, l.length = L := ⟨_, rfl⟩
  obtain ⟨V, k, rfl, -, -, -⟩ := own_atN h.own hL
  have c0 := h.c0D
  clear h hb hA
  by_cases h1 : (R : Int) < n
  · have G := Lib.hid (same_T HD.out (Below.refl _ _) (.int .i64 9))
    have e1 : swE R b = 9 := by unfold swE; rw [if_neg (by omega)]
    have e2 : swL R l b = l := by unfold swL; rw [if_neg (by omega)]
    have e3 : swY R Y b = Y := by unfold swY; rw [if_neg (by omega)]
    rw [e1, e2, e3]
    clear e1 e2 e3
    go_enter Tryd.func44, Tryd.ntmps44
    go_wp2
    go_ret
    exact G.out
  · have e1 : swE R b = 0 := by unfold swE; rw [if_pos (by omega)]
    have e2 : swL R l b = b := by unfold swL; rw [if_pos (by omega)]
    have e3 : swY R Y b = (b.length : Nat) := by unfold swY; rw [if_pos (by omega)]
    rw [e1, e2, e3]
    clear e1 e2 e3
    have C1 := clone_is w A n c b HBB.out HA.out (by omega)
    go_enter Tryd.func44, Tryd.ntmps44
    go_wp2_with fail
    refine C1.mono ?_
    rintro e w1 ⟨v1, rfl, o1, b1⟩
    clear C1
    obtain ⟨A2, k2, rfl, -, -, -⟩ := own_atN o1 hN
    obtain ⟨⟨z1, z2⟩, FIN⟩ := put_newD HD.out b1 o1
    clear o1 b1
    go_wp2_with fail
    generalize hw2 : w1.setCell ⟨p, 0, none⟩ (.slice A2 n k2) = w2 at FIN ⊢
    obtain ⟨d2, k3, n3⟩ := FIN.out
    have D2 := Lib.hid d2
    have K3 := Lib.hid k3
    have N3 := Lib.hid n3
    have C2 := sync_is w2 p R Y b (.slice A2 n k2) d2 (by omega)
    clear d2 k3 n3 FIN hw2 z1 z2
    refine C2.mono ?_
    intro e w3 t
    have t2 := DkT.next D2.out K3.out N3.out t
    obtain ⟨rfl, F3⟩ := t2
    have F4 := Lib.hid F3
    clear C2 F3 t
    go_wp2
    go_ret
    exact ⟨rfl, F4.out⟩
set_option maxRecDepth 100000 in
theorem bytes_is (w : World) (p : Nat) (R Y : Int) (l : List UInt8) (v : Value) (h : DkV 62 w p R Y l v) (hl : l.length ≤ 100000) : Calls Tryd.prog 31 #[.pointer (some ⟨p, 0, none⟩)] w fun e w' => ∃ u, e = .returned u ∧ OwnB w.heap.size w' u l ∧ Below w.heap.size w w' := by
  obtain ⟨L, hL⟩ : ∃ L, l.length = L := ⟨_, rfl⟩
  rw [hL] at hl
  obtain ⟨V, k, rfl, av, kv, zv⟩ := own_atN h.own hL
  have C1 := clone_is w V L k l av zv (by omega)
  have c2 := h.c2D
  clear h hL av
  go_enter Tryd.func31, Tryd.ntmps31
  go_wp2_with fail
  refine C1.mono ?_
  rintro e w1 ⟨v1, rfl, o1, b1⟩
  have O1 := Lib.hid o1
  have B1 := Lib.hid b1
  clear C1 o1 b1
  go_wp2
  go_ret
  exact ⟨v1, rfl, O1.out, B1.out⟩
set_option maxRecDepth 100000 in
theorem synced_is (w : World) (p : Nat) (R Y : Int) (l : List UInt8) (v : Value) (h : DkV 62 w p R Y l v) : Calls Tryd.prog 32 #[.pointer (some ⟨p, 0, none⟩)] w fun e w' => e = .returned (.int .i64 Y) ∧ Below w.heap.size w w' := by
  have c1 := h.c1D
  clear h
  go_enter Tryd.func32, Tryd.ntmps32
  go_wp2
  go_ret
  exact ⟨rfl, Below.refl _ _⟩
end Go.Proofs.YtniphbfoppocfaaDoor.Dk
