/- The walks of package disk: fits, New, Resize, Cut, Crash. -/
import Derived.Test.YtniphbfoppocfaaDoorDkP
import Derived.StillTailTactics
set_option linter.unusedVariables false
namespace Go.Proofs.YtniphbfoppocfaaDoor.Dk
open Go.RowKit Fr

set_option maxRecDepth 100000 in
theorem fits_is (w : World) (n : Int) : Calls Tryd.prog 34 #[.int .i64 n] w fun e w' => e = .returned (.bool (resB n)) ∧ w' = w := by
  by_cases h0 : 0 ≤ n
  · by_cases h1 : n ≤ 1073741824
    · have G := Lib.hid (ret_bool (show true = resB n from (decide_eq_true ⟨h0, h1⟩).symm))
      go_enter Tryd.func34, Tryd.ntmps34
      go_wp2
      go_ret
      exact ⟨G.out, rfl⟩
    · have G := Lib.hid (ret_bool (show false = resB n from (decide_eq_false (by omega)).symm))
      go_enter Tryd.func34, Tryd.ntmps34
      go_wp2
      go_ret
      exact ⟨G.out, rfl⟩
  · have G := Lib.hid (ret_bool (show false = resB n from (decide_eq_false (by omega)).symm))
    go_enter Tryd.func34, Tryd.ntmps34
    go_wp2
    go_ret
    exact ⟨G.out, rfl⟩
set_option maxRecDepth 100000 in
set_option maxHeartbeats 4000000 in
theorem new_yes (w : World) (n : Int) (h0 : 0 ≤ n) (h1 : n ≤ 1073741824) : Calls Tryd.prog 9 #[.int .i64 n] w fun e w' => ∃ q u, e = .returned (.tuple #[.pointer (some ⟨q, 0, none⟩), .int .i64 0]) ∧ DkV 62 w' q n 0 [] u ∧ Below w.heap.size w w' ∧ ∀ k, Ft q u k → w.heap.size ≤ k := by
  have C1 := fits_is w n
  rw [show resB n = true from decide_eq_true ⟨h0, h1⟩] at C1
  have AL := below_alloc w (.cells #[.slice none 0 0, .int .i64 0, .int .i64 n] 62)
  have F := Lib.hid (show DkV 62 (w.alloc (.cells #[.slice none 0 0, .int .i64 0, .int .i64 n] 62)) w.heap.size n 0 [] (.slice none 0 0) ∧ Below w.heap.size w (w.alloc (.cells #[.slice none 0 0, .int .i64 0, .int .i64 n] 62)) ∧ ∀ k, Ft w.heap.size (.slice none 0 0) k → w.heap.size ≤ k from ⟨⟨by rw [cl_p]; exact Array.getElem?_push_size, OwnB.nil _ _⟩, AL, fun k hk => by
    rcases hk with rfl | hk
    · exact Nat.le_refl _
    · simp [Value.ownBlock] at hk⟩)
  clear AL
  go_enter Tryd.func9, Tryd.ntmps9
  go_wp2_with fail
  refine C1.mono ?_
  rintro e w1 ⟨rfl, rfl⟩
  clear C1
  go_wp2
  exact bodyPost_ret (v := .tuple #[.pointer (some ⟨w1.heap.size, 0, none⟩), .int .i64 0]) (by simp [results, Tryd.results9, go_sem]) rfl ⟨_, _, rfl, F.out⟩
set_option maxRecDepth 100000 in
set_option maxHeartbeats 4000000 in
theorem new_no (w : World) (n : Int) (h : ¬ (0 ≤ n ∧ n ≤ 1073741824)) (l1 : -9223372036854775808 ≤ n) (u1 : n ≤ 9223372036854775807) : Calls Tryd.prog 9 #[.int .i64 n] w fun e w' => e = .returned (.tuple #[.pointer none, .int .i64 1]) ∧ Below w.heap.size w w' := by
  have C1 := fits_is w n
  rw [show resB n = false from decide_eq_false h] at C1
  go_enter Tryd.func9, Tryd.ntmps9
  go_wp2_with fail
  refine C1.mono ?_
  rintro e w1 ⟨rfl, rfl⟩
  clear C1
  go_wp2
  exact bodyPost_ret (v := .tuple #[.pointer none, .int .i64 1]) (by simp [results, Tryd.results9, go_sem]) rfl ⟨rfl, Below.refl _ _⟩
set_option maxRecDepth 100000 in
set_option maxHeartbeats 4000000 in
theorem res_is (w : World) (p : Nat) (R Y : Int) (l : List UInt8) (v : Value) (n : Int) (h : DkV 62 w p R Y l v) (l1 : -9223372036854775808 ≤ n) (u1 : n ≤ 9223372036854775807) : Calls Tryd.prog 25 #[.pointer (some ⟨p, 0, none⟩), .int .i64 n] w (DkT 62 w p v (resR R n) Y l (.bool (resB n))) := by
  have HD := Lib.hid h
  have c0 := h.c0D
  have f0 := h.fz 2
  have C1 := fits_is w n
  clear h
  by_cases hn : 0 ≤ n ∧ n ≤ 1073741824
  · have e1 : resB n = true := by unfold resB; exact decide_eq_true hn
    have e2 : resR R n = n := by unfold resR; rw [if_pos hn]
    rw [e1] at C1
    rw [e1, e2]
    clear e1 e2
    have F2 := Lib.hid (show ∃ v', DkV 62 (w.setCell ⟨p, 2, none⟩ (.int .i64 n)) p n Y l v' ∧ Kp (Ft p v) w (w.setCell ⟨p, 2, none⟩ (.int .i64 n)) ∧ New w v v' from ⟨v, HD.out.set0D n, Kp.setCell w ⟨p, 2, none⟩ (.inl rfl) _, .inl rfl⟩)
    go_enter Tryd.func25, Tryd.ntmps25
    go_wp2_with fail
    refine C1.mono ?_
    rintro e w1 ⟨rfl, rfl⟩
    clear C1
    go_wp2
    go_ret
    exact ⟨rfl, F2.out⟩
  · have e1 : resB n = false := by unfold resB; exact decide_eq_false hn
    have e2 : resR R n = R := by unfold resR; rw [if_neg hn]
    rw [e1] at C1
    rw [e1, e2]
    clear e1 e2
    have G := Lib.hid (same_T HD.out (Below.refl _ _) (.bool false))
    go_enter Tryd.func25, Tryd.ntmps25
    go_wp2_with fail
    refine C1.mono ?_
    rintro e w1 ⟨rfl, rfl⟩
    clear C1
    go_wp2
    go_ret
    exact G.out
theorem own_take {B : Nat} {w : World} {V : Option Addr} {n c t : Nat} {l : List UInt8} (h : OwnB B w (.slice V n c) l) (ht : t ≤ l.length) : OwnB B w (.slice V t c) (l.take t) := by
  have h2 := h.2
  rcases h2 with ⟨q, e⟩ | ⟨g, cap, cur, e, -⟩
  · injection q with q1 q2 q3
    subst q1; subst q2; subst q3
    have hl : l.length = 0 := by simpa using e
    obtain rfl : t = 0 := by omega
    rw [List.take_zero]
    exact OwnB.nil _ _
  · injection e with e1 e2 e3
    subst e1
    exact own_cut h ht
theorem block_take (V : Option Addr) (n m c : Nat) : (Value.slice V n c).ownBlock = (Value.slice V m c).ownBlock := by cases V <;> rfl
/-- the program's disk: its bytes are cut off -/
theorem put_cut {w : World} {p : Nat} {V : Option Addr} {n c t : Nat} {R Y : Int} {l : List UInt8} (h : DkV 62 w p R Y l (.slice V n c)) (ht : t ≤ l.length) :
    Hid (DkV 62 (w.setCell ⟨p, 0, none⟩ (.slice V t c)) p R Y (l.take t) (.slice V t c) ∧ Kp (Ft p (.slice V n c)) w (w.setCell ⟨p, 0, none⟩ (.slice V t c)) ∧ New w (.slice V n c) (.slice V t c)) :=
  Lib.hid ⟨DkV.set2D h.blk (own_take h.own ht), Kp.setCell w ⟨p, 0, none⟩ (.inl rfl) _, .inl (block_take V t n c)⟩
set_option maxRecDepth 100000 in
set_option maxHeartbeats 4000000 in
theorem cut_is (w : World) (p : Nat) (R Y : Int) (l : List UInt8) (v : Value) (n : Int) (h : DkV 62 w p R Y l v) (hl : l.length ≤ 100000) (l1 : -9223372036854775808 ≤ n) (u1 : n ≤ 9223372036854775807) : Calls Tryd.prog 37 #[.pointer (some ⟨p, 0, none⟩), .int .i64 n] w (DkT 62 w p v R (cutY Y l n) (cutL l n) (.bool (cutB l n))) := by
  obtain ⟨L, hL⟩ : ∃ L, l.length = L := ⟨_, rfl⟩
  have HLE := Lib.hid hL
  rw [hL] at hl
  have HD := Lib.hid h
  obtain ⟨V, k, rfl, av, kv, zv⟩ := own_atN h.own hL
  have c2 := h.c2D
  have f2 := h.fz 0
  clear h av
  by_cases hn : 0 ≤ n ∧ n ≤ L
  · have e1 : cutB l n = true := by unfold cutB; rw [hL]; exact decide_eq_true hn
    have e2 : cutL l n = l.take n.toNat := by unfold cutL; rw [hL, if_pos hn]
    have e3 : cutY Y l n = min Y n := by unfold cutY; rw [hL, if_pos hn]
    rw [e1, e2, e3]
    clear e1 e2 e3 hL
    obtain ⟨hn0, hnL⟩ := hn
    obtain ⟨t, rfl⟩ := Int.eq_ofNat_of_zero_le hn0
    rw [Int.toNat_natCast]
    generalize hx : min Y (t : Int) = x
    have q0 : ¬ (t : Int) < 0 := by omega
    have q1 : ¬ (L : Int) < t := by omega
    have q2 : t ≤ k := by omega
    have q3 : (t : Int) ≤ k := by omega
    have FIN := put_cut (t := t) HD.out (by have := HLE.out; omega)
    have y1 := FIN.out.1.c1D
    have y2 := FIN.out.1.fz 1
    have F2 := Lib.hid (show ∃ v', DkV 62 ((w.setCell ⟨p, 0, none⟩ (.slice V t k)).setCell ⟨p, 1, none⟩ (.int .i64 x)) p R x (l.take t) v' ∧ Kp (Ft p (.slice V L k)) w ((w.setCell ⟨p, 0, none⟩ (.slice V t k)).setCell ⟨p, 1, none⟩ (.int .i64 x)) ∧ New w (.slice V L k) v' from ⟨_, FIN.out.1.set1D x, FIN.out.2.1.trans (Kp.setCell _ ⟨p, 1, none⟩ (.inl rfl) _), FIN.out.2.2⟩)
    clear FIN
    go_enter Tryd.func37, Tryd.ntmps37
    go_wp2
    by_cases hY : Y ≤ t
    · obtain rfl : Y = x := by omega
      go_wp2
      go_ret
      exact ⟨rfl, F2.out⟩
    · obtain rfl : x = t := by omega
      go_wp2
      go_ret
      exact ⟨rfl, F2.out⟩
  · have e1 : cutB l n = false := by unfold cutB; rw [hL]; exact decide_eq_false hn
    have e2 : cutL l n = l := by unfold cutL; rw [hL, if_neg hn]
    have e3 : cutY Y l n = Y := by unfold cutY; rw [hL, if_neg hn]
    rw [e1, e2, e3]
    clear e1 e2 e3 hL
    have G := Lib.hid (same_T HD.out (Below.refl _ _) (.bool false))
    by_cases h0 : n < 0
    · have q := h0
      go_enter Tryd.func37, Tryd.ntmps37
      go_wp2
      go_ret
      exact G.out
    · have q1 : (L : Int) < n := by omega
      go_enter Tryd.func37, Tryd.ntmps37
      go_wp2
      go_ret
      exact G.out
set_option maxRecDepth 100000 in
set_option maxHeartbeats 4000000 in
theorem crash_is (w : World) (p : Nat) (R Y : Int) (l : List UInt8) (v : Value) (n : Int) (h : DkV 62 w p R Y l v) (hl : l.length ≤ 100000) (hY0 : 0 ≤ Y) (hY : Y ≤ l.length) (l1 : -9223372036854775808 ≤ n) (u1 : n ≤ 9223372036854775807) : Calls Tryd.prog 23 #[.pointer (some ⟨p, 0, none⟩), .int .i64 n] w (DkT 62 w p v R (crN Y l n) (l.take (crN Y l n).toNat) (.tuple #[])) := by
  obtain ⟨L, hL⟩ : ∃ L, l.length = L := ⟨_, rfl⟩
  obtain ⟨x, hx⟩ : ∃ x, crN Y l n = x := ⟨_, rfl⟩
  have hx0 : 0 ≤ x ∧ x ≤ L := by unfold crN at hx; omega
  have hxx : x = Y + max 0 (min n ((L : Int) - Y)) := by unfold crN at hx; omega
  rw [hx]
  rw [hL] at hl hY
  have DR : Below w.heap.size w w.drew.drew := (Below.refl _ _).drew.drew
  have BD := Lib.hid DR
  have HD := Lib.hid (h.below DR)
  clear DR
  have LL : ∀ t : Nat, t ≤ L → (l.take t).length = t := fun t ht => by rw [List.length_take]; omega
  have HLL := Lib.hid LL
  have HLE := Lib.hid hL
  obtain ⟨V, k, rfl, -, kv, -⟩ := own_atN h.own hL
  have c1 := h.c1D
  have c2 := h.c2D
  have c3 := (h.below (w' := w.drew) (Below.refl _ _).drew).c1D
  have c4 := (h.below (w' := w.drew) (Below.refl _ _).drew).c2D
  have c5 := HD.out.c2D
  have c6 := HD.out.fz 0
  clear h hx LL hL
  obtain ⟨m, hm⟩ : ∃ m, max 0 (min n ((L : Int) - Y)) = m := ⟨_, rfl⟩
  obtain ⟨m1, hm1⟩ : ∃ m1, min n ((L : Int) - Y) = m1 := ⟨_, rfl⟩
  rw [hm] at hxx
  subst hxx
  obtain ⟨t, ht⟩ := Int.eq_ofNat_of_zero_le hx0.1
  have W1 : IntKind.i64.wrap ((L : Int) - Y) = L - Y := IntWalk.i64_in _ (by omega)
  have W2 : IntKind.i64.wrap (Y + m) = t := by rw [← ht]; exact IntWalk.i64_in _ (by omega)
  rw [ht] at hx0 ⊢
  rw [Int.toNat_natCast]
  have q0 : ¬ (t : Int) < 0 := by omega
  have q2 : t ≤ k := by omega
  have q3 : (t : Int) ≤ k := by omega
  have FIN := put_cut (t := t) HD.out (by have := HLE.out; omega)
  have C2 := Lib.hid (sync_is (w.drew.drew.setCell ⟨p, 0, none⟩ (.slice V t k)) p R Y (l.take t) (.slice V t k) FIN.out.1 (by rw [HLL.out t (by omega)]; omega))
  rw [HLL.out t (by omega)] at C2
  have HT := Lib.hid ht
  rw [hm1] at hm
  have HM := Lib.hid hm
  have HM1 := Lib.hid hm1
  clear ht hx0
  go_enter Tryd.func23, Tryd.ntmps23
  go_wp2
  go_still_tail 13, (by kernel_rfl)
  change wpList _ _ _ _ _ w.drew
  go_wp2
  clear c1 c2
  generalize w.drew = w1 at *
  go_still_tail 14, (by kernel_rfl)
  change wpList _ _ _ _ _ w1.drew
  go_wp2_with fail
  refine C2.out.mono ?_
  intro e w2 t2
  have t3 := DkT.next FIN.out.1 ((Kp.of BD.out).trans FIN.out.2.1) (show New w (.slice V L k) (.slice V t k) from .inl (block_take V t L k)) t2
  obtain ⟨rfl, F3⟩ := t3
  have F4 := Lib.hid F3
  clear F3 t2
  go_wp2
  exact bodyPost_ret (v := .tuple #[]) (by simp [results, Tryd.results23, go_sem]) rfl ⟨rfl, F4.out⟩
end Go.Proofs.YtniphbfoppocfaaDoor.Dk
