/- container/heap's Push, Pop and Init, at the program's heap. -/
import Derived.Test.YtjodhfehfpmfaaaTiQ
set_option linter.unusedVariables false
namespace Go.Proofs.Ytjodhfehfpmfaaa.Ti
open Go.RowKit Iv

theorem QF.sift {F : Nat → Prop} {w w' : World} {q : Nat} {h h' : List It} {g c : Nat} (H : QF F w q h (some ⟨g, 0, none⟩) c) (r : Its w' g c h') (e : h'.length = h.length) (qg : q ≠ g) (fg : F g) (k : Kp (· = g) w w') : QF F w' q h' (some ⟨g, 0, none⟩) c ∧ Kp F w w' := by
  refine ⟨⟨by rw [e]; exact H.box.kp k qg, H.foot, by rw [cells_len (k := 2) (fun _ => rfl)], by rw [e]; exact H.rows.2.1, .inr ⟨g, rfl, fg, r⟩⟩, k.mono fun j hj => hj ▸ fg⟩
set_option maxRecDepth 100000 in
set_option maxHeartbeats 4000000 in
theorem hpush_is {F : Nat → Prop} (W : World) (q : Nat) (h : List It) (A : Option Addr) (c : Nat) (x : It) (H : QF F W q h A c) (hp : HeapFrom h h.length 0) (hF : ∀ k, W.heap.size ≤ k → F k) (hl : h.length ≤ 800000) :
    Calls Try.prog 71 #[.iface 110 (.pointer (some ⟨q, 0, none⟩)), .iface 70 (.agg #[.int .i64 x.1, .int .i64 x.2])] W fun e w' => e = .returned (.tuple #[]) ∧ (∃ h' A' c', QF F w' q h' A' c' ∧ h'.Perm (h ++ [x]) ∧ HeapFrom h' h'.length 0) ∧ Kp F W w' := by
  have PM := Lib.hid (push_m W q h A c x H hF (by omega))
  have HP := Lib.hid hp
  clear H hp
  have mP := fun W' => m_push W' q (195 + 100)
  simp only [Nat.reduceAdd] at mP
  go_enter Try.func71, Try.ntmps71
  go_wp2_with fail
  refine PM.out.mono ?_
  rintro e w1 ⟨rfl, ⟨g, c1, H1⟩, k1⟩
  have H1H := Lib.hid H1
  have K1 := Lib.hid k1
  have LN := Lib.hid (show (h ++ [x]).length = h.length + 1 by simp)
  obtain ⟨g', eg, fg, r, qg⟩ := H1.has (by simp)
  injection eg with eg
  injection eg with eg
  subst eg
  have b1 := H1.c0
  have ql := H1.box.lt
  have UP := Lib.hid (up_is w1 q g c1 (h ++ [x]) h.length b1 qg ql r (UpInv.start HP.out) (by simp) (by simp; omega))
  have FG := Lib.hid fg
  have QG := Lib.hid qg
  have mN := m_len b1 (195 + 100)
  simp only [Nat.reduceAdd] at mN
  rw [LN.out] at mN
  clear PM H1 k1 r fg qg b1
  generalize h.length = n at *
  have W1 : IntKind.i64.wrap (((n + 1 : Nat) : Int) - 1) = (n : Int) := by rw [IntWalk.i64_in _ (by omega)]; omega
  go_wp2_with fail
  refine (len_m w1 _ _ _).mono ?_
  rintro e w' ⟨rfl, rfl⟩
  go_wp2_with fail
  refine UP.out.mono ?_
  rintro e w2 ⟨rfl, h', r2, e2, ⟨p2, hp2⟩, k2⟩
  obtain ⟨Q2, K2⟩ := H1H.out.sift r2 e2 QG.out FG.out k2
  have FN := Lib.hid (show (∃ h' A' c', QF F w2 q h' A' c' ∧ h'.Perm (h ++ [x]) ∧ HeapFrom h' h'.length 0) ∧ Kp F W w2 from ⟨⟨h', _, _, Q2, p2, hp2⟩, K1.out.trans K2⟩)
  clear r2 p2 hp2 k2 Q2 K2
  go_wp2
  go_end0
  exact ⟨rfl, FN.out⟩
set_option maxRecDepth 100000 in
set_option maxHeartbeats 4000000 in
theorem hpop_is {F : Nat → Prop} (W : World) (q : Nat) (h : List It) (A : Option Addr) (c : Nat) (H : QF F W q h A c) (h0 : 0 < h.length) (hp : HeapFrom h h.length 0) (hl : h.length ≤ 800000) :
    Calls Try.prog 72 #[.iface 110 (.pointer (some ⟨q, 0, none⟩))] W fun e w' => e = .returned (.iface 70 (.agg #[.int .i64 (gt h 0).1, .int .i64 (gt h 0).2])) ∧ (∃ h', QF F w' q h' A c ∧ (h' ++ [gt h 0]).Perm h ∧ HeapFrom h' h'.length 0) ∧ Kp F W w' := by
  obtain ⟨g, rfl, fg, r, qg⟩ := H.has h0
  have c0 := H.c0
  have ql := H.box.lt
  have HH := Lib.hid H
  have SW := Lib.hid (swap_m W g c h 0 (h.length - 1) r h0 (by omega) (by omega))
  have DI := Lib.hid (pop_start hp h0)
  have PS := Lib.hid (swp_perm (l := h) (i := 0) (j := h.length - 1) h0 (by omega))
  have SL := Lib.hid (swp_len h 0 (h.length - 1))
  have SJ := Lib.hid (swp_j (l := h) (i := 0) (j := h.length - 1) h0 (by omega))
  obtain ⟨m, hm⟩ : ∃ m, h.length = m + 1 := ⟨h.length - 1, by omega⟩
  rw [show h.length - 1 = m by omega] at SW DI PS SL SJ
  have LN := Lib.hid hm
  rw [hm] at c0 SW
  have mN := m_len c0 (195 + 100)
  have mS := m_swap c0 (195 + 100)
  have mP := fun W' => m_pop W' q (195 + 100)
  simp only [Nat.reduceAdd] at mN mS mP
  have W1 : IntKind.i64.wrap (((m + 1 : Nat) : Int) - 1) = (m : Int) := by rw [IntWalk.i64_in _ (by omega)]; omega
  have QG := Lib.hid qg
  have FG := Lib.hid fg
  clear H r hp
  obtain ⟨x, hx⟩ : ∃ x, gt h 0 = x := ⟨_, rfl⟩
  rw [hx] at SJ ⊢
  clear hx
  go_enter Try.func72, Try.ntmps72
  go_wp2_with fail
  refine (len_m W _ _ _).mono ?_
  rintro e w' ⟨rfl, rfl⟩
  go_wp2_with fail
  refine SW.out.mono ?_
  rintro e w1 ⟨rfl, r1, k1⟩
  obtain ⟨Q1, K1⟩ := HH.out.sift r1 SL.out QG.out FG.out k1
  have Q1H := Lib.hid Q1
  have K1H := Lib.hid K1
  have b1 := Q1.c0
  have DW := Lib.hid (down_is w1 q g c (swp h 0 m) 0 m b1 qg Q1.box.lt r1 DI.out (by rw [SL.out]; omega) (by omega) (by rw [SL.out]; omega))
  clear SW r1 k1 Q1 K1 mN mS b1
  go_wp2_with fail
  refine DW.out.mono ?_
  rintro e w2 ⟨⟨bq, rfl⟩, k, r2, e2, ⟨p2, hp2, st2⟩, k2⟩
  obtain ⟨Q2, K2⟩ := Q1H.out.sift r2 e2 QG.out FG.out k2
  have ek : k.length = m + 1 := by rw [e2, SL.out, LN.out]
  have PP := Lib.hid (pop_m w2 q k _ c Q2 (by omega) (by omega))
  have GK : gt k m = x := by rw [st2 m (Nat.le_refl _), SJ.out]
  have TL := take_last (l := k) (by omega)
  rw [ek, show m + 1 - 1 = m from rfl, GK] at PP
  rw [ek, show m + 1 - 1 = m from rfl, GK] at TL
  have FN := Lib.hid (show ∀ w3, QF F w3 q (k.take m) (some ⟨g, 0, none⟩) c → Kp F w2 w3 → (∃ h', QF F w3 q h' (some ⟨g, 0, none⟩) c ∧ (h' ++ [x]).Perm h ∧ HeapFrom h' h'.length 0) ∧ Kp F W w3 from fun w3 Q3 K3 =>
    ⟨⟨k.take m, Q3, by rw [← TL]; exact p2.trans PS.out, hp2.cut (by omega)⟩, (K1H.out.trans K2).trans K3⟩)
  clear DW r2 k2 Q2 K2 p2 hp2 st2 TL GK ek e2 c0
  go_wp2_with fail
  refine PP.out.mono ?_
  rintro e w3 ⟨rfl, Q3, K3⟩
  have F3 := Lib.hid (FN.out w3 Q3 K3)
  clear Q3 K3
  go_wp2
  go_ret
  exact ⟨rfl, F3.out⟩
set_option maxRecDepth 100000 in
set_option maxHeartbeats 4000000 in
theorem hinit_is {F : Nat → Prop} (W : World) (q : Nat) (h : List It) (A : Option Addr) (c : Nat) (H : QF F W q h A c) (hl : h.length ≤ 800000) :
    Calls Try.prog 75 #[.iface 110 (.pointer (some ⟨q, 0, none⟩))] W fun e w' => e = .returned (.tuple #[]) ∧ (∃ h', QF F w' q h' A c ∧ h'.Perm h ∧ HeapFrom h' h'.length 0) ∧ Kp F W w' := by
  have c0 := H.c0
  have HH := Lib.hid H
  have mN := m_len c0 (195 + 100)
  simp only [Nat.reduceAdd] at mN
  obtain ⟨n, hn⟩ : ∃ n, h.length = n := ⟨_, rfl⟩
  have LN := Lib.hid hn
  rw [hn] at mN hl
  clear H hn c0
  have Wq : IntKind.i64.wrap ((n : Int).tdiv 2) = ((n / 2 : Nat) : Int) := by rw [Int.tdiv_eq_ediv_of_nonneg (by omega), IntWalk.i64_in _ (by omega)]; omega
  have Wm : IntKind.i64.wrap (((n / 2 : Nat) : Int) - 1) = ((n / 2 : Nat) : Int) - 1 := IntWalk.i64_in _ (by omega)
  go_enter Try.func75, Try.ntmps75
  go_wp2_with fail
  refine (len_m W _ _ _).mono ?_
  rintro e w' ⟨rfl, rfl⟩
  have HB : n / 2 ≤ 1000000 := by omega
  have HBn : n / 2 ≤ n := by omega
  have HF := Lib.hid (heapFrom_half h (n := n) (i := n / 2) (by omega))
  obtain ⟨t0, ht0⟩ : ∃ t0, n / 2 = t0 := ⟨_, rfl⟩
  rw [ht0] at Wq Wm HB HBn HF
  have HT := Lib.hid ht0
  clear ht0
  go_wp2_with fail
  go_loopw [3] (fun iv wr => ∃ (t : Nat) (k : List It), iv = .int .i64 ((t : Int) - 1) ∧ t ≤ t0 ∧ Hid (k.length = n ∧ k.Perm h ∧ HeapFrom k n t ∧ QF F wr q k A c ∧ Kp F W wr)) (fun iv _ => (intOf iv + 1).toNat)
  case atStart => exact ⟨t0, h, by rw [← HT.out]; simp, Nat.le_refl _, Lib.hid ⟨LN.out, List.Perm.refl _, HF.out, HH.out, Kp.refl _ _⟩⟩
  case round =>
    obtain ⟨wo, rfl⟩ : ∃ wo : World, wo = wr := ⟨_, rfl⟩
    obtain ⟨t, k, rfl, ht, KK⟩ := hrel
    rcases Nat.eq_zero_or_pos t with rfl | tp
    · have s0 : decide (((0 : Nat) : Int) - 1 ≥ 0) = false := by decide
      have FN := Lib.hid (show (∃ h', QF F wo q h' A c ∧ h'.Perm h ∧ HeapFrom h' h'.length 0) ∧ Kp F W wo from ⟨⟨k, KK.out.2.2.2.1, KK.out.2.1, by rw [KK.out.1]; exact KK.out.2.2.1⟩, KK.out.2.2.2.2⟩)
      go_wp2_with fail
      go_end0
      exact ⟨rfl, FN.out⟩
    · obtain ⟨i, rfl⟩ : ∃ i, t = i + 1 := ⟨t - 1, by omega⟩
      have ei : ((i + 1 : Nat) : Int) - 1 = (i : Int) := by omega
      obtain ⟨g, rfl, fg, r, qg⟩ := KK.out.2.2.2.1.has (by have := KK.out.1; omega)
      have b0 := KK.out.2.2.2.1.c0
      have FG := Lib.hid fg
      have QG := Lib.hid qg
      have DW := Lib.hid (down_is wo q g c k i n b0 qg KK.out.2.2.2.1.box.lt r (DnInv.start KK.out.2.2.1) (by have := KK.out.1; omega) (by omega) (by have := KK.out.1; omega))
      have s0 : decide ((i : Int) ≥ 0) = true := decide_eq_true (by omega)
      have s1 : (0 : Int) ≤ (i : Int) := by omega
      have WX : IntKind.i64.wrap ((i : Int) - 1) = (i : Int) - 1 := IntWalk.i64_in _ (by omega)
      rw [ei]
      clear r fg qg b0
      go_wp2_with fail
      refine DW.out.mono ?_
      rintro e w2 ⟨⟨bq, rfl⟩, k2, r2, e2, ⟨p2, hp2, -⟩, kp2⟩
      obtain ⟨Q2, K2⟩ := KK.out.2.2.2.1.sift r2 e2 QG.out FG.out kp2
      have K3 := Lib.hid (show k2.length = n ∧ k2.Perm h ∧ HeapFrom k2 n i ∧ QF F w2 q k2 (some ⟨g, 0, none⟩) c ∧ Kp F W w2 from ⟨by rw [e2]; exact KK.out.1, p2.trans KK.out.2.1, hp2, Q2, KK.out.2.2.2.2.trans K2⟩)
      clear r2 e2 p2 hp2 kp2 Q2 K2 DW
      go_wp2_with fail
      go_roundw
      case rel => exact ⟨i, k2, rfl, by omega, K3⟩
      case measure => simp [intOf]
end Go.Proofs.Ytjodhfehfpmfaaa.Ti
