/- The reference's queue: Drop, Pop. -/
import Derived.Test.YtjodhfehfpmfaaaTiRf
set_option linter.unusedVariables false
namespace Go.Proofs.Ytjodhfehfpmfaaa.Ti
open Go.RowKit Iv

theorem append_r1 {ops : Array Oper} {rest : List Oper} {o : Oper} {a : Act} {Q : Exit → Act → World → Prop} {B : Nat} {w : World} (hgd : o.guard = none) (s x : Operand)
    (ho : o.op = .call { callee := .builtin .append, args := #[s, x], argTypes := #[63, 63] })
    (v : Value) (l : List It) (hs : a.eval s = v) (hown : OwnI2 B w v l) (hB : B ≤ w.heap.size) (y : It) (c : Nat) (hx : a.eval x = .slice (some ⟨w.heap.size, 0, none⟩) 1 c) (hl : l.length ≤ 900000)
    (h : ∀ v' w', OwnI2 B w' v' (l ++ [y]) → Below B w w' → wpList Try.prog ops Q rest (a.put o.dst v') w') : wpList Try.prog ops Q (o :: rest) a (w.alloc (.cells #[.int .i64 y.1, .int .i64 y.2] 73)) := by
  have ba := below_alloc w (.cells #[.int .i64 y.1, .int .i64 y.2] 73)
  refine wpList_plain hgd fun _ hK => ?_
  have e : cellsL Iv.encS [y] = Iv.encS y := by simp [cellsL]
  refine wp_app s x ho v l hs (hown.below ba) (Nat.le_trans hB ba.size) ⟨w.heap.size, 0, none⟩ 1 c [y] hx rfl (by rw [e]; exact newcellsQ w #[.int .i64 y.1, .int .i64 y.2] 73) (by omega) ?_
  intro v' w' ho' k
  refine hK _ _ (h v' w' ho' ?_)
  exact (ba.mono hB).trans (k.below (Nat.le_trans hB ba.size) fun g e => (World.ownsRow.lt hown g e).1)
theorem append_rs {ops : Array Oper} {rest : List Oper} {o : Oper} {a : Act} {Q : Exit → Act → World → Prop} {B : Nat} {w : World} (hgd : o.guard = none) (s x : Operand)
    (ho : o.op = .call { callee := .builtin .append, args := #[s, x], argTypes := #[63, 63] })
    (v : Value) (l : List It) (hs : a.eval s = v) (hown : OwnI2 B w v l) (hB : B ≤ w.heap.size) (ad : Addr) (m c : Nat) (l2 : List It) (hx : a.eval x = .slice (some ad) m c) (hm : m = l2.length) (hc : ∀ j u, (cellsL Iv.encS l2)[j]? = some u → w.cell? (ad.add j) = some u) (hl : l.length + m ≤ 1000000)
    (h : ∀ v' w', OwnI2 B w' v' (l ++ l2) → Below B w w' → wpList Try.prog ops Q rest (a.put o.dst v') w') : wpList Try.prog ops Q (o :: rest) a w := by
  refine wpList_plain hgd fun _ hK => wp_app s x ho v l hs hown hB ad m c l2 hx hm hc hl fun v' w' ho' k => hK _ _ (h v' w' ho' ?_)
  exact k.below hB fun g e => (World.ownsRow.lt hown g e).1
theorem dropT_take {id : Int} {L : List It} {i : Nat} (h : i < L.length) : dropL id (L.take (i + 1)) = dropL id (L.take i) ++ (if (gt L i).2 = id then [] else [gt L i]) := by
  unfold dropL
  rw [List.take_succ_eq_append_getElem h, List.filter_append, gt_lt h]
  congr 1
  by_cases e : (L[i]).2 = id <;> simp [e]
set_option maxRecDepth 100000 in
set_option maxHeartbeats 4000000 in
theorem rdrop_is {G : Nat → Prop} (w : World) (r : Nat) (L : List It) (id : Int) (H : RQ G w r L) (hG : ∀ k, w.heap.size ≤ k → G k) (hl : L.length ≤ 700000) : Calls Try.prog 42 #[.pointer (some ⟨r, 0, none⟩), .int .i64 id] w fun e w' => e = .returned (.int .i64 ((L.length - (dropL id L).length : Nat) : Int)) ∧ RQ G w' r (dropL id L) ∧ Kp (· = r) w w' := by
  obtain ⟨A, c, H⟩ := H
  have c0 := H.c0
  have rl := H.box.lt
  have HH := Lib.hid H
  have CE := Lib.hid (show ∀ t, t < L.length → ∃ g, A = some ⟨g, 0, none⟩ ∧ g < w.heap.size ∧ w.cell? ⟨g, t * 2, none⟩ = some (.int .i64 (gt L t).1) ∧ w.cell? ⟨g, t * 2 + 1, none⟩ = some (.int .i64 (gt L t).2) from fun t ht => by
    obtain ⟨g, e, fg, q, qg⟩ := H.has (by omega)
    exact ⟨g, e, q.lt, itr_cell q ht⟩)
  have FL := Lib.hid (show L.take L.length = L from List.take_of_length_le (Nat.le_refl _))
  have ST := Lib.hid (fun t (h : t < L.length) => dropT_take (id := id) h)
  have LE := Lib.hid (show (dropL id L).length ≤ L.length from List.length_filter_le _ _)
  have LT := Lib.hid (show ∀ t, (dropL id (L.take t)).length ≤ L.length from fun t => Nat.le_trans (List.length_filter_le _ _) (by rw [List.length_take]; omega))
  clear H
  generalize hn : L.length = n at *
  have LN := Lib.hid hn
  clear hn
  go_enter Try.func42, Try.ntmps42
  go_wp2_with fail
  go_loopw [5, 6] (fun ov i wr => ∃ (t : Nat) (v : Value), i = .int .i64 t ∧ t ≤ n ∧ v = ov ∧ OwnI2 w.heap.size wr v (dropL id (L.take t)) ∧ Below w.heap.size w wr) (fun _ i _ => n - (intOf i).toNat)
  case atStart => exact ⟨0, _, rfl, Nat.zero_le _, rfl, by rw [List.take_zero]; exact World.ownsRow_nil _ _ _ _, Below.refl _ _⟩
  case round =>
    obtain ⟨wo, rfl⟩ : ∃ wo : World, wo = wr := ⟨_, rfl⟩
    obtain ⟨t, v, rfl, ht, rfl, hO, hB⟩ := hrel
    have OO := Lib.hid hO
    have BO := Lib.hid hB
    have szo := hB.size
    have b0 := (hB.cell (p := ⟨r, 0, none⟩) rl).trans c0
    by_cases hlt : t < n
    · have s0 : decide ((t : Int) < n) = true := decide_eq_true (by omega)
      have s00 : decide (t < n) = true := decide_eq_true hlt
      have i5 : (t : Int) < n := by omega
      have W1 : IntKind.i64.wrap ((t : Int) + 1) = (t : Int) + 1 := IntWalk.i64_in _ (by omega)
      obtain ⟨g, rfl, gl, x0, x1⟩ := CE.out t hlt
      replace x0 := (hB.cell (p := ⟨g, _, none⟩) gl).trans x0
      replace x1 := (hB.cell (p := ⟨g, _, none⟩) gl).trans x1
      have st := ST.out t hlt
      have lt := LT.out t
      clear hO hB
      by_cases hid : (gt L t).2 = id
      · rw [if_pos hid, List.append_nil] at st
        have s1 : ((gt L t).2 != id) = false := by rw [bne_eq_false_iff_eq]; exact hid
        have O2 := Lib.hid (show OwnI2 w.heap.size wo v (dropL id (L.take (t + 1))) by rw [st]; exact OO.out)
        clear hid st lt
        generalize gt L t = x at *
        go_wp2
        go_roundw
        case rel => exact ⟨t + 1, v, by go_num, by omega, rfl, O2.out, BO.out⟩
        case measure => simp [intOf]; omega
      · rw [if_neg hid] at st
        have s1 : ((gt L t).2 != id) = true := by rw [bne_iff_ne]; exact hid
        have SX := Lib.hid st
        have lt2 := Lib.hid lt
        clear hid st lt
        generalize gt L t = x at *
        go_wp2_with (at_builtin; refine append_r1 rfl _ _ rfl v (dropL id (L.take t)) rfl OO.out szo x 1 rfl (by have := lt2.out; omega) ?_)
        intro v4 w4 ow4 hb4
        have O4 := Lib.hid (show OwnI2 w.heap.size w4 v4 (dropL id (L.take (t + 1))) by rw [SX.out]; exact ow4)
        have B4 := Lib.hid (BO.out.trans hb4)
        clear ow4 hb4
        go_wp2
        go_roundw
        case rel => exact ⟨t + 1, v4, by go_num, by omega, rfl, O4.out, B4.out⟩
        case measure => simp [intOf]; omega
    · obtain rfl : n = t := by omega
      have s0 : decide ((n : Int) < n) = false := decide_eq_false (by omega)
      have s00 : decide (n < n) = false := decide_eq_false (by omega)
      have O2 : OwnI2 w.heap.size wo v (dropL id L) := by have := OO.out; rwa [FL.out] at this
      have le := LE.out
      obtain ⟨A2, c2, rfl, hl2, -⟩ := O2.form
      obtain ⟨⟨sc, sf⟩, FN⟩ := rq_store HH.out hG BO.out O2
      rw [LN.out] at sc
      generalize hdn : (dropL id L).length = dn at *
      have W1 : IntKind.i64.wrap ((n : Int) - dn) = ((n - dn : Nat) : Int) := by rw [IntWalk.i64_in _ (by omega)]; omega
      have HD := Lib.hid hdn
      clear hO hB O2 sc hdn
      go_wp2
      go_ret
      exact ⟨by rw [HD.out]; rfl, FN.out⟩
end Go.Proofs.Ytjodhfehfpmfaaa.Ti
