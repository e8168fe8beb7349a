/- The reference's queue: Pop; what its slices answer. -/
import Derived.Test.YtjodhfehfpmfaaaTiRd
set_option linter.unusedVariables false
namespace Go.Proofs.Ytjodhfehfpmfaaa.Ti
open Go.RowKit Iv

theorem wp_nilR {w : World} {o : Oper} {a : Act} {K : Act → World → Prop} {Q : Exit → Act → World → Prop} (s x : Operand)
    (ho : o.op = .call { callee := .builtin .append, args := #[s, x], argTypes := #[63, 63] })
    (B : Nat) (v : Value) (l : List It) (hs : a.eval s = v) (hown : OwnI2 B w v l) (hx : a.eval x = .slice none 0 0)
    (h : K (a.put o.dst v) w) : Oper.wp Try.prog o a w K Q := by
  obtain ⟨i0, hi, hz0, hz1, hz2⟩ := info_parts info_ri
  have hrun := run_append_owned_none (P := Try.prog) (w := w) B 63 o.type 73 i0 2 Try.underlying63 hi v l.length (cellsL Iv.encS l) hown
  unfold Oper.wp
  simp [execOp, ho, resolve, invoke, builtin, hs, hx, hrun, Result.andThen]
  exact h
/-- append of what a slice holds, be it nil -/
theorem wp_appG {o : Oper} {a : Act} {K : Act → World → Prop} {Q : Exit → Act → World → Prop} {B : Nat} {w : World} (s x : Operand)
    (ho : o.op = .call { callee := .builtin .append, args := #[s, x], argTypes := #[63, 63] })
    (v : Value) (l : List It) (hs : a.eval s = v) (hown : OwnI2 B w v l) (hB : B ≤ w.heap.size) (A : Option Addr) (m c : Nat) (l2 : List It) (hx : a.eval x = .slice A m c) (hm : m = l2.length) (hA : A = none → m = 0 ∧ c = 0) (hc : ∀ ad, A = some ad → ∀ j u, (cellsL Iv.encS l2)[j]? = some u → w.cell? (ad.add j) = some u) (hl : l.length + m ≤ 1000000)
    (h : ∀ v' w', OwnI2 B w' v' (l ++ l2) → Kp (fun k => v.ownBlock = some k) w w' → K (a.put o.dst v') w') : Oper.wp Try.prog o a w K Q := by
  cases A with
  | none =>
    obtain ⟨m0, c0⟩ := hA rfl
    have e : l2 = [] := List.length_eq_zero_iff.1 (by omega)
    subst e
    refine wp_nilR s x ho B v l hs hown (by rw [hx, m0, c0]) ?_
    exact h v w (by rw [List.append_nil]; exact hown) (Kp.refl _ _)
  | some ad => exact wp_app s x ho v l hs hown hB ad m c l2 hx hm (hc ad rfl) hl h
theorem append_rG {ops : Array Oper} {rest : List Oper} {o : Oper} {a : Act} {Q : Exit → Act → World → Prop} {B : Nat} {w : World} (hgd : o.guard = none) (s x : Operand)
    (ho : o.op = .call { callee := .builtin .append, args := #[s, x], argTypes := #[63, 63] })
    (v : Value) (l : List It) (hs : a.eval s = v) (hown : OwnI2 B w v l) (hB : B ≤ w.heap.size) (A : Option Addr) (m c : Nat) (l2 : List It) (hx : a.eval x = .slice A m c) (hm : m = l2.length) (hA : A = none → m = 0 ∧ c = 0) (hc : ∀ ad, A = some ad → ∀ j u, (cellsL Iv.encS l2)[j]? = some u → w.cell? (ad.add j) = some u) (hl : l.length + m ≤ 1000000)
    (h : ∀ v' w', OwnI2 B w' v' (l ++ l2) → Below B w w' → wpList Try.prog ops Q rest (a.put o.dst v') w') : wpList Try.prog ops Q (o :: rest) a w := by
  refine wpList_plain hgd fun _ hK => wp_appG s x ho v l hs hown hB A m c l2 hx hm hA hc hl fun v' w' ho' k => hK _ _ (h v' w' ho' ?_)
  exact k.below hB fun g e => (World.ownsRow.lt hown g e).1
section
variable {G : Nat → Prop} {w w' : World} {r : Nat} {L : List It} {A : Option Addr} {c : Nat}
theorem RQF.below (H : RQF G w r L A c) (hb : Below w.heap.size w w') : RQF G w' r L A c := H.on (Kp.of' hb) fun _ _ _ p => p
theorem RQF.mono {F : Nat → Prop} (H : RQF G w r L A c) (hg : ∀ k, G k → k < w.heap.size → F k) : RQF F w r L A c := ⟨H.box, hg r H.foot H.box.lt, H.rows.mono hg⟩
theorem rcells {W : World} (H : RQF G w r L A c) (hb : Below w.heap.size w W) (k : Nat) (hk : k ≤ L.length) (m : Nat) (g : Nat) (e : A = some ⟨g, 0, none⟩) : ∀ j u, (cellsL Iv.encS ((L.drop k).take m))[j]? = some u → W.cell? ((⟨g, k * 2, none⟩ : Addr).add j) = some u := by
  intro j u hj
  rcases H.rows.2.2 with ⟨e1, -⟩ | ⟨g', e1, -, q⟩
  · rw [e] at e1; cases e1
  · rw [e] at e1
    cases e1
    exact cells_at (q.below hb) k hk m j u hj
/-- what [k:] answers -/
def TailV (A : Option Addr) (n c k : Nat) (A' : Option Addr) (c' : Nat) : Prop :=
  (A = none ∧ k = 0 ∧ n = 0 ∧ c = 0 ∧ A' = none ∧ c' = 0) ∨ (∃ g, A = some ⟨g, 0, none⟩ ∧ c = k ∧ n = k ∧ A' = some ⟨g, 0, none⟩ ∧ c' = 0) ∨ ∃ g, A = some ⟨g, 0, none⟩ ∧ k < c ∧ A' = some ⟨g, k * 2, none⟩ ∧ c' = c - k
theorem tail_has (H : RQF G w r L A c) (k : Nat) (hk : k ≤ L.length) : ∃ A' c', TailV A L.length c k A' c' ∧ (A' = none → L.length - k = 0 ∧ c' = 0) ∧ ∀ W, Below w.heap.size w W → ∀ ad, A' = some ad → ∀ j u, (cellsL Iv.encS (L.drop k))[j]? = some u → W.cell? (ad.add j) = some u := by
  have hc := H.rows.2.1
  rcases H.rows.2.2 with ⟨e1, e2⟩ | ⟨g, e1, -, q⟩
  · exact ⟨none, 0, .inl ⟨e1, by omega, by omega, e2, rfl, rfl⟩, fun _ => ⟨by omega, rfl⟩, fun W _ ad e => by cases e⟩
  · by_cases h : c = k
    · refine ⟨some ⟨g, 0, none⟩, 0, .inr (.inl ⟨g, e1, h, by omega, rfl, rfl⟩), fun e => (by cases e), fun W _ ad e j u hj => ?_⟩
      rw [List.drop_eq_nil_of_le (by omega)] at hj
      cases hj
    · refine ⟨some ⟨g, k * 2, none⟩, c - k, .inr (.inr ⟨g, e1, by omega, rfl, rfl⟩), fun e => (by cases e), fun W hb ad e j u hj => ?_⟩
      cases e
      refine rcells H hb k hk (L.length - k) g e1 j u ?_
      rw [List.take_of_length_le (by rw [List.length_drop]; omega)]
      exact hj
end
set_option maxRecDepth 100000 in
set_option maxHeartbeats 4000000 in
theorem rpop_is {G : Nat → Prop} (w : World) (r : Nat) (L : List It) (now : Int) (H : RQ G w r L) (hG : ∀ k, w.heap.size ≤ k → G k) (hl : L.length ≤ 700000) : Calls Try.prog 40 #[.pointer (some ⟨r, 0, none⟩), .int .i64 now] w fun e w' => e = .returned (popV now L) ∧ RQ G w' r (popL now L) ∧ Kp (· = r) w w' := by
  obtain ⟨A, c, H⟩ := H
  have c0 := H.c0
  have rl := H.box.lt
  have ne : ¬ w.heap.size = r := by omega
  cases hd : due now L with
  | false =>
    have E1 := Lib.hid (show popV now L = headV [] by unfold popV; rw [hd]; rfl)
    have E2 := Lib.hid (show popL now L = L by unfold popL; rw [hd]; rfl)
    have FN := Lib.hid (fun (W : World) (hb : Below w.heap.size w W) => show RQ G W r L ∧ Kp (· = r) w W from ⟨RQ.below ⟨A, c, H⟩ hb, Kp.of hb⟩)
    cases L with
    | nil =>
      simp only [List.length_nil] at c0
      clear H hd
      go_enter Try.func40, Try.ntmps40
      go_wp2_with fail
      refine bodyPost_ret (v := headV []) (by simp [results, Try.results40, go_sem, headV]) rfl ⟨by rw [E1.out], ?_⟩
      rw [E2.out]
      exact FN.out _ (by first | exact below_alloc w _ | exact ((below_alloc w _).setCell (Nat.le_refl _) _).setCell (Nat.le_refl _) _)
    | cons a L =>
      obtain ⟨xa, xb⟩ := a
      have nd : now < xa := by have := of_decide_eq_false hd; simp only at this; omega
      have s1 : decide (now < xa) = true := decide_eq_true nd
      obtain ⟨g, rfl, fg, q, qg⟩ := H.has (by simp)
      obtain ⟨d0, d1⟩ := itr_cell q (j := 0) (by simp)
      rw [show gt ((xa, xb) :: L) 0 = (xa, xb) from rfl] at d0 d1
      have gl := q.lt
      have ng : ¬ w.heap.size = g := by omega
      simp only [List.length_cons] at c0
      have z1 : ((((L.length + 1 : Nat) : Int)) == 0) = false := beq_eq_false_iff_ne.2 (by omega)
      have z2 : 0 < L.length + 1 := by omega
      clear H q hd nd
      simp only [Nat.zero_mul, Nat.zero_add] at d0 d1
      generalize L.length + 1 = n at *
      have z3 : (0 : Int) < (n : Int) := by omega
      go_enter Try.func40, Try.ntmps40
      go_wp2_with fail
      refine bodyPost_ret (v := headV []) (by simp [results, Try.results40, go_sem, headV]) rfl ⟨by rw [E1.out], ?_⟩
      rw [E2.out]
      exact FN.out _ (by first | exact below_alloc w _ | exact ((below_alloc w _).setCell (Nat.le_refl _) _).setCell (Nat.le_refl _) _)
  | true =>
    cases L with
    | nil => cases hd
    | cons a L =>
      obtain ⟨xa, xb⟩ := a
      have nd : ¬ now < xa := by have := of_decide_eq_true hd; simp only at this; omega
      have s1 : decide (now < xa) = false := decide_eq_false nd
      have E1 := Lib.hid (show popV now ((xa, xb) :: L) = headV ((xa, xb) :: L) by unfold popV; rw [hd]; rfl)
      have E2 := Lib.hid (show popL now ((xa, xb) :: L) = L by unfold popL; rw [hd]; rfl)
      obtain ⟨w2, hw2⟩ : ∃ w2 : World, w2 = (w.alloc (.cells #[.int .i64 0, .int .i64 0] 73)).alloc (.cells #[.int .i64 xa, .int .i64 xb] 73) := ⟨_, rfl⟩
      have bw : Below w.heap.size w w2 := hw2 ▸ (below_alloc _ _).alloc (by simp) _
      have BW := Lib.hid bw
      have s2 : w2.heap.size = w.heap.size + 2 := by rw [hw2]; simp
      have LW := Lib.hid s2
      have RZ := Lib.hid (show RowIs w2 w.heap.size 73 2 1 [.int .i64 0, .int .i64 0] from hw2 ▸ (new_row w 73 2 1 1 #[.int .i64 0, .int .i64 0] #[] rfl (by unfold maxLen; decide)).below (below_alloc _ _))
      have RX := Lib.hid (show RowIs w2 (w.heap.size + 1) 73 2 1 [.int .i64 xa, .int .i64 xb] from by
        have := new_row (w.alloc (.cells #[.int .i64 0, .int .i64 0] 73)) 73 2 1 1 #[.int .i64 xa, .int .i64 xb] #[] rfl (by unfold maxLen; decide)
        rw [hw2]
        simpa using this)
      have H2 := Lib.hid (show RQF (fun k => G k ∧ k ≠ w.heap.size) w2 r ((xa, xb) :: L) A c from (H.mono fun k h1 h2 => ⟨h1, by omega⟩).below bw)
      have GG := Lib.hid hG
      have NE := Lib.hid ne
      have NE1 := Lib.hid (show ¬ w.heap.size + 1 = r by omega)
      obtain ⟨A5, c5, TV, tn, tc⟩ := tail_has H2.out 1 (by simp)
      simp only [List.length_cons, Nat.add_sub_cancel] at TV tn
      have TC := Lib.hid (show ∀ W, Below w2.heap.size w2 W → ∀ ad, A5 = some ad → ∀ j u, (cellsL Iv.encS L)[j]? = some u → W.cell? (ad.add j) = some u from tc)
      have TN := Lib.hid tn
      have TVH := Lib.hid TV
      have hl2 : L.length ≤ 700000 := by simp at hl; omega
      have rl2 : r < w2.heap.size := by omega
      have p0 : w2.cell? ⟨r, 0, none⟩ = some (.slice A (L.length + 1) c) := H2.out.c0
      have hcap := H.rows.2.1
      simp only [List.length_cons] at hcap
      obtain ⟨g, rfl, fg, q, qg⟩ := H.has (by simp)
      obtain ⟨d0, d1⟩ := itr_cell q (j := 0) (by simp)
      rw [show gt ((xa, xb) :: L) 0 = (xa, xb) from rfl] at d0 d1
      have gl := q.lt
      have ng : ¬ w.heap.size = g := by omega
      simp only [List.length_cons] at c0
      have z1 : ((((L.length + 1 : Nat) : Int)) == 0) = false := beq_eq_false_iff_ne.2 (by omega)
      have z2 : 0 < L.length + 1 := by omega
      clear H q hd nd tn tc TV bw hG hl
      simp only [Nat.zero_mul, Nat.zero_add] at d0 d1
      have z3 : (0 : Int) < ((L.length + 1 : Nat) : Int) := by omega
      have z4 : (1 : Int) ≤ ((L.length + 1 : Nat) : Int) := by omega
      have z5 : (1 : Int) ≤ (c : Int) := by omega
      obtain ⟨n, hn⟩ : ∃ n, n = L.length := ⟨_, rfl⟩
      have LN := Lib.hid hn
      rw [← hn] at c0 p0 z1 z2 z3 z4 TVH hl2 hcap
      clear hn TN
      obtain ⟨n1, hn1⟩ : ∃ n1, n1 = n + 1 := ⟨_, rfl⟩
      rw [← hn1] at c0 p0 z1 z2 z3 z4 TVH hcap
      have HN := Lib.hid hn1
      have ne2 : ¬ w2.heap.size = r := by omega
      clear hn1
      go_enter Try.func40, Try.ntmps40
      go_upto_region 4 with fail
      rw [← hw2]
      clear hw2 c0 d0 d1 s2
      rcases TVH.out with ⟨e, -⟩ | ⟨g', e, e1, e2, e3, e4⟩ | ⟨g', e, e1, e3, e4⟩
      · cases e
      · cases e
        cases e3
        rw [e1, e2] at p0
        clear z1 z2 z3 z4 z5 hcap
        replace e2 := Lib.hid e2
        clear e1
        (go_wp2_with (at_builtin; refine append_rs rfl _ _ rfl (.slice (some ⟨w2.heap.size, 0, none⟩) 0 0) [] rfl (own_emptyR w2 w2.heap.size (Nat.le_refl _)) (by simp) ⟨g, 0, none⟩ 0 0 L rfl (by have := LN.out; have := HN.out; first | omega | (have := e2.out; omega)) (TC.out _ (below_alloc _ _) _ rfl) (by have := HN.out; simp only [List.length_nil]; omega) ?_)
         intro v3 w3 ow3 hb3
         have b3 : Below w2.heap.size w2 w3 := (below_alloc _ _).trans hb3
         have ow3' : OwnI2 w2.heap.size w3 v3 L := ow3
         obtain ⟨A', c', rfl, -, -⟩ := ow3'.form
         obtain ⟨⟨sc, sf⟩, FN⟩ := rq_store H2.out (fun k h => ⟨GG.out k (Nat.le_trans BW.out.size h), by have := LW.out; omega⟩) b3 ow3'
         obtain ⟨W, hW⟩ : ∃ W : World, W = w3.setCell ⟨r, 0, none⟩ (.slice A' L.length c') := ⟨_, rfl⟩
         rw [← hW] at FN
         have kW : Kp (· = r) w3 W := hW ▸ Kp.setCell (F := (· = r)) w3 ⟨r, 0, none⟩ rfl _
         have RZ3 := Lib.hid ((RZ.out.below b3).kp kW (fun e => NE.out e))
         have RX3 := Lib.hid ((RX.out.below b3).kp kW (fun e => NE1.out e))
         have z0 : W.cell? ⟨w.heap.size, 0, none⟩ = some (.int .i64 0) := RZ3.out.cell rfl
         have z1 : W.cell? ⟨w.heap.size, 1, none⟩ = some (.int .i64 0) := RZ3.out.cell rfl
         have f0 := RZ3.out.frozen 0
         have f1 := RZ3.out.frozen 1
         have y0 : W.cell? ⟨w.heap.size + 1, 0, none⟩ = some (.int .i64 xa) := RX3.out.cell rfl
         have y1 : W.cell? ⟨w.heap.size + 1, 1, none⟩ = some (.int .i64 xb) := RX3.out.cell rfl
         have FX := Lib.hid (show ∀ W', Kp (· = w.heap.size) W W' → RQ G W' r L ∧ Kp (· = r) w W' from fun W' kw => by
           refine ⟨(FN.out.1.on kw fun k h1 _ e => h1.2 e).mono fun k h1 _ => h1.1, ?_⟩
           have kk : Kp (fun k => k = r ∨ k = w.heap.size) w W' := (((Kp.of BW.out).trans (FN.out.2.mono fun k h => .inl h)).trans (kw.mono fun k h => .inr h))
           exact ⟨kk.os, kk.tape, kk.output, kk.size, fun k hk hf => kk.block k hk fun h => by rcases h with h | h; exact hf h; omega⟩)
         have HW := Lib.hid hW
         clear ow3 ow3' hb3 b3 kW hW FN
         go_upto_region 5 with fail
         rw [← HW.out]
         clear sc sf HW
         go_wp2_with fail
         obtain ⟨k0, k1⟩ := cells2 (.int .i64 xa) (.int .i64 xb) z0 z1 (Below.refl _ _)
         refine bodyPost_ret (v := headV ((xa, xb) :: L)) (by simp [results, Try.results40, go_sem, headV, k0, k1]) rfl ⟨by rw [E1.out], ?_⟩
         rw [E2.out]
         exact FX.out _ ((Kp.setCell (F := (· = w.heap.size)) _ ⟨w.heap.size, 0, none⟩ rfl _).trans (Kp.setCell (F := (· = w.heap.size)) _ ⟨w.heap.size, 1, none⟩ rfl _)))
      · cases e
        cases e3
        have j1 : ¬ c = 1 := by omega
        have j3 : ¬ c - 1 = 0 := by omega
        clear z1 z2 z3
        (go_wp2_with (at_builtin; refine append_rs rfl _ _ rfl (.slice (some ⟨w2.heap.size, 0, none⟩) 0 0) [] rfl (own_emptyR w2 w2.heap.size (Nat.le_refl _)) (by simp) ⟨g, 1 * 2, none⟩ (n1 - 1) (c - 1) L rfl (by have := LN.out; have := HN.out; first | omega | (have := e2.out; omega)) (TC.out _ (below_alloc _ _) _ rfl) (by have := HN.out; simp only [List.length_nil]; omega) ?_)
         intro v3 w3 ow3 hb3
         have b3 : Below w2.heap.size w2 w3 := (below_alloc _ _).trans hb3
         have ow3' : OwnI2 w2.heap.size w3 v3 L := ow3
         obtain ⟨A', c', rfl, -, -⟩ := ow3'.form
         obtain ⟨⟨sc, sf⟩, FN⟩ := rq_store H2.out (fun k h => ⟨GG.out k (Nat.le_trans BW.out.size h), by have := LW.out; omega⟩) b3 ow3'
         obtain ⟨W, hW⟩ : ∃ W : World, W = w3.setCell ⟨r, 0, none⟩ (.slice A' L.length c') := ⟨_, rfl⟩
         rw [← hW] at FN
         have kW : Kp (· = r) w3 W := hW ▸ Kp.setCell (F := (· = r)) w3 ⟨r, 0, none⟩ rfl _
         have RZ3 := Lib.hid ((RZ.out.below b3).kp kW (fun e => NE.out e))
         have RX3 := Lib.hid ((RX.out.below b3).kp kW (fun e => NE1.out e))
         have z0 : W.cell? ⟨w.heap.size, 0, none⟩ = some (.int .i64 0) := RZ3.out.cell rfl
         have z1 : W.cell? ⟨w.heap.size, 1, none⟩ = some (.int .i64 0) := RZ3.out.cell rfl
         have f0 := RZ3.out.frozen 0
         have f1 := RZ3.out.frozen 1
         have y0 : W.cell? ⟨w.heap.size + 1, 0, none⟩ = some (.int .i64 xa) := RX3.out.cell rfl
         have y1 : W.cell? ⟨w.heap.size + 1, 1, none⟩ = some (.int .i64 xb) := RX3.out.cell rfl
         have FX := Lib.hid (show ∀ W', Kp (· = w.heap.size) W W' → RQ G W' r L ∧ Kp (· = r) w W' from fun W' kw => by
           refine ⟨(FN.out.1.on kw fun k h1 _ e => h1.2 e).mono fun k h1 _ => h1.1, ?_⟩
           have kk : Kp (fun k => k = r ∨ k = w.heap.size) w W' := (((Kp.of BW.out).trans (FN.out.2.mono fun k h => .inl h)).trans (kw.mono fun k h => .inr h))
           exact ⟨kk.os, kk.tape, kk.output, kk.size, fun k hk hf => kk.block k hk fun h => by rcases h with h | h; exact hf h; omega⟩)
         have HW := Lib.hid hW
         clear ow3 ow3' hb3 b3 kW hW FN
         go_upto_region 5 with fail
         rw [← HW.out]
         clear sc sf HW
         go_wp2_with fail
         obtain ⟨k0, k1⟩ := cells2 (.int .i64 xa) (.int .i64 xb) z0 z1 (Below.refl _ _)
         refine bodyPost_ret (v := headV ((xa, xb) :: L)) (by simp [results, Try.results40, go_sem, headV, k0, k1]) rfl ⟨by rw [E1.out], ?_⟩
         rw [E2.out]
         exact FX.out _ ((Kp.setCell (F := (· = w.heap.size)) _ ⟨w.heap.size, 0, none⟩ rfl _).trans (Kp.setCell (F := (· = w.heap.size)) _ ⟨w.heap.size, 1, none⟩ rfl _)))
end Go.Proofs.Ytjodhfehfpmfaaa.Ti
