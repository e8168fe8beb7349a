/- The queue: New, Len, Next, Push, Pop. -/
import Derived.Test.YtjodhfehfpmfaaaTiHp
import Derived.Test.YtjodhfehfpmfaaaIvOps
set_option linter.unusedVariables false
namespace Go.Proofs.Ytjodhfehfpmfaaa.Ti
open Go.RowKit Iv

/-- the first one -/
def headV : List It → Value
  | [] => .tuple #[.agg #[.int .i64 0, .int .i64 0], .bool false]
  | a :: _ => .tuple #[.agg #[.int .i64 a.1, .int .i64 a.2], .bool true]
/-- is the first one due? -/
def due (now : Int) : List It → Bool
  | [] => false
  | a :: _ => decide (a.1 ≤ now)
def popV (now : Int) (L : List It) : Value := if due now L = true then headV L else headV []
def popL (now : Int) (L : List It) : List It := if due now L = true then L.tail else L
theorem qnew_is {F : Nat → Prop} (w : World) (hF : ∀ k, w.heap.size ≤ k → F k) : Calls Try.prog 36 #[] w fun e w' => e = .returned (.pointer (some ⟨w.heap.size, 0, none⟩)) ∧ QIn F w' w.heap.size [] ∧ Below w.heap.size w w' := by
  go_enter Try.func36, Try.ntmps36
  go_wp2
  go_ret
  refine ⟨rfl, ⟨[], none, 0, ⟨?_, hF _ (Nat.le_refl _), ⟨rfl, Nat.le_refl _, .inl ⟨rfl, rfl⟩⟩⟩, QH.nil⟩, below_alloc _ _⟩
  exact new_row w 108 1 1 1 #[.slice none 0 0] #[] rfl (by unfold maxLen; decide)
theorem qlen_is {F : Nat → Prop} (w : World) (q : Nat) (L : List It) (H : QIn F w q L) : Calls Try.prog 49 #[.pointer (some ⟨q, 0, none⟩)] w fun e w' => e = .returned (.int .i64 (L.length : Nat)) ∧ w = w' := by
  obtain ⟨h, A, c, H, Q⟩ := H
  have c0 := H.c0
  rw [Q.len] at c0
  clear H Q
  generalize L.length = n at *
  go_enter Try.func49, Try.ntmps49
  go_wp2
  go_ret
  exact ⟨rfl, rfl⟩
set_option maxRecDepth 100000 in
set_option maxHeartbeats 4000000 in
theorem qnext_is {F : Nat → Prop} (w : World) (q : Nat) (L : List It) (H : QIn F w q L) : Calls Try.prog 50 #[.pointer (some ⟨q, 0, none⟩)] w fun e w' => e = .returned (headV L) ∧ Below w.heap.size w w' := by
  obtain ⟨h, A, c, H, Q⟩ := H
  have c0 := H.c0
  have ql := H.box.lt
  have ne : ¬ w.heap.size = q := by omega
  cases L with
  | nil =>
    have e0 : h.length = 0 := by rw [Q.len]; rfl
    rw [e0] at c0
    clear H Q
    go_enter Try.func50, Try.ntmps50
    go_wp2
    refine bodyPost_ret (v := headV []) (by simp [results, Try.results50, go_sem, headV]) rfl ⟨rfl, ?_⟩
    first | exact below_alloc w _ | exact ((below_alloc w _).setCell (Nat.le_refl _) _).setCell (Nat.le_refl _) _
  | cons a L =>
    have hl : h.length = L.length + 1 := by rw [Q.len]; rfl
    obtain ⟨g, rfl, fg, r, qg⟩ := H.has (by omega)
    obtain ⟨d0, d1⟩ := its_cell r (j := 0) (by omega)
    rw [Q.head] at d0 d1
    have gl := r.lt
    have ng : ¬ w.heap.size = g := by omega
    rw [hl] at c0
    have z1 : ((((L.length + 1 : Nat) : Int)) == 0) = false := beq_eq_false_iff_ne.2 (by omega)
    have z2 : 0 < L.length + 1 := by omega
    clear H Q r hl
    simp only [Nat.zero_mul, Nat.zero_add] at d0 d1
    generalize L.length + 1 = n at *
    have z3 : (0 : Int) < (n : Int) := by omega
    go_enter Try.func50, Try.ntmps50
    go_wp2
    refine bodyPost_ret (v := headV (a :: L)) (by simp [results, Try.results50, go_sem, headV]) rfl ⟨rfl, ?_⟩
    first | exact below_alloc w _ | exact ((below_alloc w _).setCell (Nat.le_refl _) _).setCell (Nat.le_refl _) _
set_option maxRecDepth 100000 in
set_option maxHeartbeats 4000000 in
theorem qpush_is {F : Nat → Prop} (w : World) (q : Nat) (L : List It) (a b : Int) (H : QIn F w q L) (hF : ∀ k, w.heap.size ≤ k → F k) (hl : L.length ≤ 700000) : Calls Try.prog 37 #[.pointer (some ⟨q, 0, none⟩), .int .i64 a, .int .i64 b] w fun e w' => e = .returned (.tuple #[]) ∧ QIn F w' q (insL (a, b) L) ∧ Kp F w w' := by
  obtain ⟨h, A, c, H, Q⟩ := H
  have PU := Lib.hid (hpush_is w q h A c (a, b) H Q.heap hF (by rw [Q.len]; omega))
  have QH := Lib.hid Q
  clear H Q
  go_enter Try.func37, Try.ntmps37
  go_wp2_with fail
  refine PU.out.mono ?_
  rintro e w1 ⟨rfl, ⟨h', A', c', Q1, p1, hp1⟩, k1⟩
  have FN := Lib.hid (show QIn F w1 q (insL (a, b) L) ∧ Kp F w w1 from ⟨⟨h', A', c', Q1, QH.out.push p1 hp1⟩, k1⟩)
  clear Q1 p1 hp1 k1
  go_wp2
  go_end0
  exact ⟨rfl, FN.out⟩
set_option maxRecDepth 100000 in
set_option maxHeartbeats 4000000 in
theorem cells2 {w : World} {b : Nat} {a0 a1 : Value} (x y : Value) (h0 : w.cell? ⟨b, 0, none⟩ = some a0) (h1 : w.cell? ⟨b, 1, none⟩ = some a1) {w' : World} (hb : Below (b + 1) ((w.setCell ⟨b, 0, none⟩ x).setCell ⟨b, 1, none⟩ y) w') :
    w'.cell? ⟨b, 0, none⟩ = some x ∧ w'.cell? ⟨b, 1, none⟩ = some y := by
  have k1 : (w.setCell ⟨b, 0, none⟩ x).cell? ⟨b, 1, none⟩ = some a1 := (World.cell?_setCell_other _ _ _ _ (by simp)).trans h1
  refine ⟨(hb.cell (p := ⟨b, _, none⟩) (Nat.lt_succ_self _)).trans ?_, (hb.cell (p := ⟨b, _, none⟩) (Nat.lt_succ_self _)).trans ?_⟩
  · exact (World.cell?_setCell_other _ _ _ _ (by simp)).trans (World.cell?_setCell_same _ _ _ h0)
  · exact World.cell?_setCell_same _ _ _ k1
set_option maxRecDepth 100000 in
set_option maxHeartbeats 4000000 in
theorem qpop_is {F : Nat → Prop} (w : World) (q : Nat) (L : List It) (now : Int) (H : QIn F w q L) (hl : L.length ≤ 700000) : Calls Try.prog 39 #[.pointer (some ⟨q, 0, none⟩), .int .i64 now] w fun e w' => e = .returned (popV now L) ∧ QIn F w' q (popL now L) ∧ Kp F w w' := by
  have HH := Lib.hid (show QIn (fun k => F k ∧ k < w.heap.size) w q L from H.mono fun k h1 h2 => ⟨h1, h2⟩)
  obtain ⟨w0, hw0⟩ : ∃ w0 : World, w0 = w.alloc (.cells #[.int .i64 0, .int .i64 0] 70) := ⟨_, rfl⟩
  have BW := Lib.hid (show Below w.heap.size w w0 from hw0 ▸ below_alloc _ _)
  have RB := Lib.hid (show RowIs w0 w.heap.size 70 2 1 [.int .i64 0, .int .i64 0] from hw0 ▸ new_row w 70 2 1 1 #[.int .i64 0, .int .i64 0] #[] rfl (by unfold maxLen; decide))
  have H0 := Lib.hid (HH.out.below BW.out)
  have ql := H.lt
  have fin : ∀ W : World, Below w.heap.size w W → QIn F W q L ∧ Kp F w W := fun W b => ⟨H.below b, Kp.of b⟩
  have FN := Lib.hid fin
  clear H fin
  go_enter Try.func39, Try.ntmps39
  go_wp2_with fail
  rw [← hw0]
  clear hw0
  refine (qnext_is w0 q L H0.out).mono ?_
  rintro e w1 ⟨rfl, b1⟩
  have R1 := Lib.hid (RB.out.below b1)
  have x0 : w1.cell? ⟨w.heap.size, 0, none⟩ = some (.int .i64 0) := R1.out.cell rfl
  have x1 : w1.cell? ⟨w.heap.size, 1, none⟩ = some (.int .i64 0) := R1.out.cell rfl
  have f0 := R1.out.frozen 0
  have f1 := R1.out.frozen 1
  have rl := R1.out.lt
  have B1 := Lib.hid (BW.out.trans (b1.mono BW.out.size))
  have H1 := Lib.hid (H0.out.below b1)
  clear b1 BW H0 RB
  cases hd : due now L with
  | false =>
    have E1 := Lib.hid (show popV now L = headV [] by unfold popV; rw [hd]; rfl)
    have E2 := Lib.hid (show popL now L = L by unfold popL; rw [hd]; rfl)
    cases L with
    | nil =>
      unfold headV
      clear hd
      go_wp2_with fail
      obtain ⟨k0, k1⟩ := cells2 (.int .i64 0) (.int .i64 0) x0 x1 ((Below.refl _ _).alloc (by simp; omega) (.cells #[.int .i64 0, .int .i64 0] 70))
      have BF := ((B1.out.setCell (p := ⟨w.heap.size, 0, none⟩) (Nat.le_refl _) (.int .i64 0)).setCell (p := ⟨w.heap.size, 1, none⟩) (Nat.le_refl _) (.int .i64 0)).alloc (by simp; omega) (.cells #[.int .i64 0, .int .i64 0] 70)
      refine bodyPost_ret (v := headV []) (by simp [results, Try.results39, go_sem, headV, k0, k1]) rfl ⟨by rw [E1.out], ?_⟩
      rw [E2.out]
      exact FN.out _ BF
    | cons a L =>
      obtain ⟨xa, xb⟩ := a
      have nd : now < xa := by have := of_decide_eq_false hd; simp only at this; omega
      have s1 : decide (now < xa) = true := decide_eq_true nd
      unfold headV
      clear hd nd
      go_wp2_with fail
      obtain ⟨k0, k1⟩ := cells2 (.int .i64 0) (.int .i64 0) x0 x1 ((Below.refl _ _).alloc (by simp; omega) (.cells #[.int .i64 xa, .int .i64 xb] 70))
      have BF := ((B1.out.setCell (p := ⟨w.heap.size, 0, none⟩) (Nat.le_refl _) (.int .i64 0)).setCell (p := ⟨w.heap.size, 1, none⟩) (Nat.le_refl _) (.int .i64 0)).alloc (by simp; omega) (.cells #[.int .i64 xa, .int .i64 xb] 70)
      refine bodyPost_ret (v := headV []) (by simp [results, Try.results39, go_sem, headV, k0, k1]) rfl ⟨by rw [E1.out], ?_⟩
      rw [E2.out]
      exact FN.out _ BF
  | true =>
    cases L with
    | nil => cases hd
    | cons a L =>
      obtain ⟨xa, xb⟩ := a
      have nd : ¬ now < xa := by have := of_decide_eq_true hd; simp only at this; omega
      have s1 : decide (now < xa) = false := decide_eq_false nd
      have E1 := Lib.hid (show popV now ((xa, xb) :: L) = headV ((xa, xb) :: L) by unfold popV; rw [hd]; rfl)
      have E2 := Lib.hid (show popL now ((xa, xb) :: L) = L by unfold popL; rw [hd]; rfl)
      obtain ⟨w2, hw2⟩ : ∃ w2 : World, w2 = w1.alloc (.cells #[.int .i64 xa, .int .i64 xb] 70) := ⟨_, rfl⟩
      have b2 : Below w1.heap.size w1 w2 := hw2 ▸ below_alloc _ _
      have R2 := Lib.hid (R1.out.below b2)
      have B2 := Lib.hid (B1.out.trans (b2.mono B1.out.size))
      obtain ⟨h, A, c, Q2, q2⟩ := H1.out.below b2
      have PO := Lib.hid (hpop_is w2 q h A c Q2 (by rw [q2.len]; simp) q2.heap (by rw [q2.len]; omega))
      rw [q2.head] at PO
      have QH := Lib.hid q2
      have p0 : w2.cell? ⟨w1.heap.size, 0, none⟩ = some (.int .i64 xa) := by rw [hw2]; simp
      have s2 : w2.heap.size = w1.heap.size + 1 := by rw [hw2]; simp
      have as_it := assert_it (xa, xb)
      unfold headV
      clear hd nd b2 Q2 q2 H1 R1
      go_upto_region 2 with fail
      rw [← hw2]
      clear hw2 x0 x1 f0 f1
      go_wp2_with fail
      refine PO.out.mono ?_
      rintro e w3 ⟨rfl, ⟨h', Q3, p3, hp3⟩, k3⟩
      have R3 := Lib.hid (R2.out.kp k3 (fun e => by have := e.2; omega))
      have x0 : w3.cell? ⟨w.heap.size, 0, none⟩ = some (.int .i64 0) := R3.out.cell rfl
      have x1 : w3.cell? ⟨w.heap.size, 1, none⟩ = some (.int .i64 0) := R3.out.cell rfl
      have f0 := R3.out.frozen 0
      have f1 := R3.out.frozen 1
      have FX := Lib.hid (show ∀ W, Kp (· = w.heap.size) w3 W → QIn F W q L ∧ Kp F w W from fun W kw => by
        have qi : QIn (fun k => F k ∧ k < w.heap.size) w3 q L := ⟨h', A, c, Q3, QH.out.pop p3 hp3⟩
        refine ⟨(qi.on kw fun k h1 _ e => by have := h1.2; omega).mono fun k h1 _ => h1.1, ?_⟩
        have kk : Kp (fun k => F k ∧ k < w.heap.size ∨ k = w.heap.size) w W := (((Kp.of B2.out).trans (k3.mono fun k h => .inl h)).trans (kw.mono fun k h => .inr h))
        exact ⟨kk.os, kk.tape, kk.output, kk.size, fun k hk hf => kk.block k hk fun h => by rcases h with h | h; exact hf h.1; omega⟩)
      clear Q3 p3 hp3 PO
      go_wp2_with fail
      obtain ⟨k0, k1⟩ := cells2 (.int .i64 xa) (.int .i64 xb) x0 x1 (Below.refl _ _)
      refine bodyPost_ret (v := headV ((xa, xb) :: L)) (by simp [results, Try.results39, go_sem, headV, k0, k1]) rfl ⟨by rw [E1.out], ?_⟩
      rw [E2.out]
      exact FX.out _ ((Kp.setCell (F := (· = w.heap.size)) _ ⟨w.heap.size, 0, none⟩ rfl _).trans (Kp.setCell (F := (· = w.heap.size)) _ ⟨w.heap.size, 1, none⟩ rfl _))
end Go.Proofs.Ytjodhfehfpmfaaa.Ti
