/- The walks of the document's disk: Cut, Crash, Resize. -/
import Derived.Test.YtniphbfoppocfaaDoorDkA
import Derived.StillTailTactics
set_option linter.unusedVariables false
namespace Go.Proofs.YtniphbfoppocfaaDoor.Dk
open Go.RowKit Fr

def cutB (l : List UInt8) (n : Int) : Bool := decide (0 ≤ n ∧ n ≤ l.length)
def cutL (l : List UInt8) (n : Int) : List UInt8 := if 0 ≤ n ∧ n ≤ l.length then l.take n.toNat else l
def cutY (Y : Int) (l : List UInt8) (n : Int) : Int := if 0 ≤ n ∧ n ≤ l.length then min Y n else Y
set_option maxRecDepth 100000 in
set_option maxHeartbeats 4000000 in
theorem rcut_is (w : World) (p : Nat) (R Y : Int) (l : List UInt8) (v : Value) (n : Int) (h : DkV 32 w p R Y l v) (hl : l.length ≤ 100000) (l1 : -9223372036854775808 ≤ n) (u1 : n ≤ 9223372036854775807) :
    Calls Tryd.prog 39 #[.pointer (some ⟨p, 0, none⟩), .int .i64 n] w (DkT 32 w p v R (cutY Y l n) (cutL l n) (.bool (cutB l n))) := by
  obtain ⟨L, hL⟩ : ∃ L, l.length = L := ⟨_, rfl⟩
  rw [hL] at hl
  have HD := Lib.hid h
  obtain ⟨V, k, rfl, av, kv, zv⟩ := own_atN h.own hL
  have c2 := h.c2
  have AV := Lib.hid av
  clear h av
  by_cases hn : 0 ≤ n ∧ n ≤ L
  · have e1 : cutB l n = true := by unfold cutB; rw [hL]; exact decide_eq_true hn
    have e2 : cutL l n = l.take n.toNat := by unfold cutL; rw [hL, if_pos hn]
    have e3 : cutY Y l n = min Y n := by unfold cutY; rw [hL, if_pos hn]
    rw [e1, e2, e3]
    clear e1 e2 e3
    obtain ⟨hn0, hnL⟩ := hn
    obtain ⟨t, rfl⟩ := Int.eq_ofNat_of_zero_le hn0
    rw [Int.toNat_natCast]
    generalize hx : min Y (t : Int) = x
    have q0 : ¬ (t : Int) < 0 := by omega
    have q1 : ¬ (L : Int) < t := by omega
    have C1 := fun cc (z : V = none → cc = 0) => copy_is w V t cc _ (AV.out.take (k := t) (by omega)) z (by omega)
    go_enter Tryd.func39, Tryd.ntmps39
    go_wp2_with fail
    refine (C1 _ zv).mono ?_
    rintro e w1 ⟨v1, rfl, o1, b1⟩
    clear C1
    have ht : (l.take t).length = t := by rw [List.length_take]; omega
    obtain ⟨A2, k2, rfl, -, -, -⟩ := own_atN o1 ht
    obtain ⟨⟨z1, z2⟩, FIN⟩ := put_new HD.out b1 o1
    have z3 := (HD.out.below b1).c1
    have z4 := (HD.out.below b1).fz 1
    have d1 : DkV 32 (w1.setCell ⟨p, 2, none⟩ (.slice A2 t k2)) p R Y (l.take t) (.slice A2 t k2) := FIN.out.1
    have y1 := d1.c1
    have y2 := d1.fz 1
    have F2 := Lib.hid (show ∃ v', DkV 32 ((w1.setCell ⟨p, 2, none⟩ (.slice A2 t k2)).setCell ⟨p, 1, none⟩ (.int .i64 x)) p R x (l.take t) v' ∧ Kp (Ft p (.slice V L k)) w ((w1.setCell ⟨p, 2, none⟩ (.slice A2 t k2)).setCell ⟨p, 1, none⟩ (.int .i64 x)) ∧ New w (.slice V L k) v' from ⟨_, d1.set1 x, FIN.out.2.1.trans (Kp.setCell _ ⟨p, 1, none⟩ (.inl rfl) _), FIN.out.2.2⟩)
    clear o1 b1 d1 FIN z3 z4
    by_cases hY : Y ≤ t
    · have hxY : Y = x := by omega
      subst hxY
      go_wp2
      go_ret
      exact ⟨rfl, F2.out⟩
    · have hxt : x = t := by omega
      subst hxt
      go_wp2
      go_ret
      exact ⟨rfl, F2.out⟩
  · have e1 : cutB l n = false := by unfold cutB; rw [hL]; exact decide_eq_false hn
    have e2 : cutL l n = l := by unfold cutL; rw [hL, if_neg hn]
    have e3 : cutY Y l n = Y := by unfold cutY; rw [hL, if_neg hn]
    rw [e1, e2, e3]
    clear e1 e2 e3
    have G := Lib.hid (same_T HD.out (Below.refl _ _) (.bool false))
    by_cases h0 : n < 0
    · go_enter Tryd.func39, Tryd.ntmps39
      go_wp2
      go_ret
      exact G.out
    · have q1 : (L : Int) < n := by omega
      go_enter Tryd.func39, Tryd.ntmps39
      go_wp2
      go_ret
      exact G.out
/-- how many bytes a crash keeps -/
def crN (Y : Int) (l : List UInt8) (keep : Int) : Int := Y + min (max keep 0) (l.length - Y)
set_option maxRecDepth 100000 in
set_option maxHeartbeats 4000000 in
theorem rcrash_is (w : World) (p : Nat) (R Y : Int) (l : List UInt8) (v : Value) (n : Int) (h : DkV 32 w p R Y l v) (hl : l.length ≤ 100000) (hY0 : 0 ≤ Y) (hY : Y ≤ l.length) (l1 : -9223372036854775808 ≤ n) (u1 : n ≤ 9223372036854775807) :
    Calls Tryd.prog 24 #[.pointer (some ⟨p, 0, none⟩), .int .i64 n] w (DkT 32 w p v R (crN Y l n) (l.take (crN Y l n).toNat) (.tuple #[])) := by
  obtain ⟨L, hL⟩ : ∃ L, l.length = L := ⟨_, rfl⟩
  obtain ⟨x, hx⟩ : ∃ x, crN Y l n = x := ⟨_, rfl⟩
  have hx0 : 0 ≤ x ∧ x ≤ L := by unfold crN at hx; omega
  have hxx : x = Y + min (max n 0) (L - Y) := by unfold crN at hx; omega
  rw [hx]
  rw [hL] at hl hY
  have DR : Below w.heap.size w w.drew := (Below.refl _ _).drew
  have BD := Lib.hid DR
  have HD := Lib.hid (h.below DR)
  clear DR
  have ex1 : cutL l x = l.take x.toNat := by unfold cutL; rw [hL, if_pos hx0]
  have ex2 : ∃ y, cutY Y l x = y := ⟨_, rfl⟩
  obtain ⟨y, hy⟩ := ex2
  have ex3 : cutB l x = true := by unfold cutB; rw [hL]; exact decide_eq_true hx0
  have C1 := rcut_is w.drew p R Y l v x HD.out (by omega) (by omega) (by omega)
  have C2 := fun w1 v1 (d : DkV 32 w1 p R y (l.take x.toNat) v1) => rsync_is w1 p R y (l.take x.toNat) v1 d (by rw [List.length_take]; omega)
  have lx : ((l.take x.toNat).length : Int) = x := by rw [List.length_take]; omega
  simp only [lx] at C2
  rw [ex1, hy, ex3] at C1
  have HC1 := Lib.hid C1
  have HC2 := Lib.hid C2
  obtain ⟨V, k, rfl, -, -, -⟩ := own_atN h.own hL
  have c1 := h.c1
  have c2 := h.c2
  clear h hx ex1 hy ex3 C1 C2 lx
  go_enter Tryd.func24, Tryd.ntmps24
  go_wp2
  go_still_tail 19, (by kernel_rfl)
  change wpList _ _ _ _ _ w.drew
  by_cases hn : n ≤ 0
  · obtain rfl : x = Y := by omega
    have m0 : max n 0 = 0 := by omega
    have g0 : ¬ 0 < n := by omega
    have m1 : min 0 ((L : Int) - x) = 0 := by omega
    have g1 : (0 : Int) ≤ (L : Int) - x := by omega
    clear hxx hx0
    go_wp2_with fail
    refine HC1.out.mono ?_
    rintro e w1 ⟨rfl, v1, d1, k1, n1⟩
    have D1 := Lib.hid d1
    have K1 := Lib.hid (show Kp (Ft p (.slice V L k)) w w1 from ((Kp.of BD.out).trans k1))
    have N1 := Lib.hid (show New w (.slice V L k) v1 from n1)
    clear d1 k1 n1
    go_wp2_with fail
    refine (HC2.out w1 v1 D1.out).mono ?_
    intro e w2 t
    obtain ⟨rfl, F3⟩ := DkT.next D1.out K1.out N1.out t
    have F4 := Lib.hid F3
    clear F3 t
    go_wp2
    exact bodyPost_ret (v := .tuple #[]) (by simp [results, Tryd.results24, go_sem]) rfl ⟨rfl, F4.out⟩
  · by_cases hk : n ≤ (L : Int) - Y
    · obtain rfl : x = Y + n := by omega
      have m0 : max n 0 = n := by omega
      have m1 : min n ((L : Int) - Y) = n := by omega
      clear hxx hx0
      go_wp2_with fail
      refine HC1.out.mono ?_
      rintro e w1 ⟨rfl, v1, d1, k1, n1⟩
      have D1 := Lib.hid d1
      have K1 := Lib.hid (show Kp (Ft p (.slice V L k)) w w1 from ((Kp.of BD.out).trans k1))
      have N1 := Lib.hid (show New w (.slice V L k) v1 from n1)
      clear d1 k1 n1
      go_wp2_with fail
      refine (HC2.out w1 v1 D1.out).mono ?_
      intro e w2 t
      obtain ⟨rfl, F3⟩ := DkT.next D1.out K1.out N1.out t
      have F4 := Lib.hid F3
      clear F3 t
      go_wp2
      exact bodyPost_ret (v := .tuple #[]) (by simp [results, Tryd.results24, go_sem]) rfl ⟨rfl, F4.out⟩
    · obtain rfl : x = Y + ((L : Int) - Y) := by omega
      have m0 : max n 0 = n := by omega
      have m1 : min n ((L : Int) - Y) = (L : Int) - Y := by omega
      clear hxx hx0
      go_wp2_with fail
      refine HC1.out.mono ?_
      rintro e w1 ⟨rfl, v1, d1, k1, n1⟩
      have D1 := Lib.hid d1
      have K1 := Lib.hid (show Kp (Ft p (.slice V L k)) w w1 from ((Kp.of BD.out).trans k1))
      have N1 := Lib.hid (show New w (.slice V L k) v1 from n1)
      clear d1 k1 n1
      go_wp2_with fail
      refine (HC2.out w1 v1 D1.out).mono ?_
      intro e w2 t
      obtain ⟨rfl, F3⟩ := DkT.next D1.out K1.out N1.out t
      have F4 := Lib.hid F3
      clear F3 t
      go_wp2
      exact bodyPost_ret (v := .tuple #[]) (by simp [results, Tryd.results24, go_sem]) rfl ⟨rfl, F4.out⟩
end Go.Proofs.YtniphbfoppocfaaDoor.Dk
