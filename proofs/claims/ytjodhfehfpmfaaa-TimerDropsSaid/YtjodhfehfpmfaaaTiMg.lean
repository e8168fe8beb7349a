/- timer.Merge: slices.Concat, Sort, Compact at numbers. -/
import Derived.Test.YtjodhfehfpmfaaaTiMath
import Derived.Test.YtjodhfehfpmfaaaIvSo
import Derived.Test.YtjodhfehfpmfaaaIvSort
import Derived.Test.YtjodhfehfpmfaaaIvIns
import Derived.Lib.AppendZerosOnto
set_option linter.unusedVariables false
namespace Go.Proofs.Ytjodhfehfpmfaaa.Ti
open Go.RowKit Go.Sort Iv

/-- a list of numbers, where it lies -/
structure SlR where
  A : Option Addr
  k : Nat
  c : Nat
  l : List Int
instance : Inhabited SlR := ⟨⟨none, 0, 0, []⟩⟩
/-- a slice of slices of numbers that is read -/
def LsAt (W : World) (B : Option Addr) (n : Nat) (S : List SlR) : Prop :=
  n = S.length ∧ (0 < n → ∃ b off, B = some ⟨b, off, none⟩ ∧ b < W.heap.size ∧ ∀ j, j < n → W.cell? ⟨b, off + j, none⟩ = some (.slice (gt S j).A (gt S j).k (gt S j).c) ∧ IsAt W (gt S j).A (gt S j).k (gt S j).l ∧ (gt S j).k ≤ (gt S j).c)
def flatS (S : List SlR) : List Int := S.flatMap (·.l)
theorem LsAt.below {W w : World} {B : Option Addr} {n : Nat} {S : List SlR} (h : LsAt W B n S) (hb : Below W.heap.size W w) : LsAt w B n S := by
  refine ⟨h.1, fun h0 => ?_⟩
  obtain ⟨b, off, e, hlt, hc⟩ := h.2 h0
  refine ⟨b, off, e, Nat.lt_of_lt_of_le hlt hb.size, fun j hj => ?_⟩
  obtain ⟨c0, s, k⟩ := hc j hj
  exact ⟨(hb.cell (p := ⟨b, _, none⟩) hlt).trans c0, s.below hb, k⟩
theorem flat_take {S : List SlR} {t : Nat} (h : t < S.length) : flatS (S.take (t + 1)) = flatS (S.take t) ++ (gt S t).l := by
  unfold flatS
  rw [List.take_succ_eq_append_getElem h, List.flatMap_append, gt_lt h]
  simp
theorem flat_le (S : List SlR) (t : Nat) : (flatS (S.take t)).length ≤ (flatS S).length := by
  have : flatS S = flatS (S.take t) ++ flatS (S.drop t) := by
    unfold flatS
    rw [← List.flatMap_append, List.take_append_drop]
  rw [this, List.length_append]
  omega
theorem is_cells {w : World} {ad : Addr} {m : Nat} {l : List Int} (h : IsAt w (some ad) m l) : ∀ j u, (l.map (Value.int .i64))[j]? = some u → w.cell? (ad.add j) = some u := by
  intro j u hj
  have hl : j < l.length := by have := (List.getElem?_eq_some_iff.1 hj).1; simpa using this
  obtain ⟨b, off, e, -, hc⟩ := h.2 (by rw [h.1]; omega)
  injection e with e
  subst e
  rw [addr_off]
  rw [hc j (by rw [h.1]; exact hl), ← hj, List.getElem?_map, List.getElem?_eq_getElem hl, gt_lt hl]
  rfl
/-- append of numbers that are read to an own slice of numbers -/
theorem append_ints {ops : Array Oper} {rest : List Oper} {o : Oper} {a : Act} {Q : Exit → Act → World → Prop} {W w : World} (hgd : o.guard = none) (s x : Operand)
    (ho : o.op = .call { callee := .builtin .append, args := #[s, x], argTypes := #[53, 53] })
    (v : Value) (l : List Int) (hs : a.eval s = v) (hown : OwnI W w v l) (hat : Below W.heap.size W w) (ad : Addr) (m c : Nat) (l2 : List Int) (h2 : IsAt w (some ad) m l2)
    (hx : a.eval x = .slice (some ad) m c) (hl : l.length + m ≤ 1000000)
    (h : ∀ v' w', OwnI W w' v' (l ++ l2) → Below W.heap.size W w' → wpList Try.prog ops Q rest (a.put o.dst v') w') : wpList Try.prog ops Q (o :: rest) a w := by
  obtain ⟨i0, hi, hz0, hz1, hz2⟩ := info_parts info_int
  have e2 := h2.1
  refine wpList_append_own _ hgd s x 53 ho W.heap.size 3 i0 (.int .i64 0) 1 8 Try.underlying53 hi hz0 hz1 hz2 rfl (by decide) v l.length (l.map (Value.int .i64)) hs hown
    ad m c (l2.map (Value.int .i64)) hx (by rw [List.length_map, e2]; omega) (is_cells h2) (by intro u hu; obtain ⟨y, -, rfl⟩ := List.mem_map.1 hu; rfl) (by unfold maxLen; omega) (by omega) hat.size ?_
  intro v' w' hown' hg _
  refine h v' w' ?_ (hat.trans ((Below.refl _ _).grown hg hat.size fun _ hk => (World.ownsRow.lt hown _ hk).1))
  unfold OwnI
  rw [List.length_append, List.map_append, ← e2]
  exact hown'
theorem zeros_i (n : Nat) (cs : Array Value) : (Builtin.zeroCells (Value.cells (.int .i64 0)) n ++ cs).toList.take 0 = ([] : List Value) := by simp
set_option maxRecDepth 100000 in
set_option maxHeartbeats 4000000 in
/-- slices.Grow of none -/
theorem grow_is (w : World) (n : Nat) (hn : n ≤ 1000000) : Calls Try.prog 99 #[.slice none 0 0, .int .i64 n] w fun e w' => ∃ v, e = .returned v ∧ OwnI w w' v [] ∧ Below w.heap.size w w' := by
  obtain ⟨i0, hi, hz0, hz1, hz2⟩ := info_parts info_int
  by_cases h0 : n = 0
  · subst h0
    go_enter Try.func99, Try.ntmps99
    go_wp2
    go_ret
    exact ⟨_, rfl, OwnI.nil _ _, Below.refl _ _⟩
  · have h63 : ¬ (9223372036854775807 < (n : Int)) := by omega
    have h48 : ¬ (281474976710656 < Builtin.nextslicecap n 0 * 8) := by rw [nextslicecap_zero (by omega)]; omega
    have h48i : ¬ (281474976710656 < (n : Int) * 8) := by omega
    have h48n : ¬ (281474976710656 < n * 8) := by omega
    have hge := grownCap_ge w n 0 3
    have hle := grownCap_le_maxLen w n 0 3 (by unfold maxLen; omega)
    have HN := Lib.hid (fun (cap : Nat) (h1 : n ≤ cap) (h2 : cap ≤ maxLen) => new_row w 3 1 0 cap #[] (Builtin.zeroCells #[Value.int .i64 0] n ++ Builtin.zeroCells #[Value.int .i64 0] (cap - n)) (by
      rw [Array.size_append, Array.size_append, size_zeroCells, size_zeroCells]
      show 0 + (n * 1 + (cap - n) * 1) = _
      omega) h2)
    have s1 : decide ((0 : Int) < n) = true := decide_eq_true (by omega)
    have s2 : decide ((n : Int) < 0) = false := decide_eq_false (by omega)
    have W1 : IntKind.i64.wrap ((n : Int)) = n := IntWalk.i64_in _ (by omega)
    simp only [grownCap] at hge hle
    go_enter Try.func99, Try.ntmps99
    go_wp2
    go_ret
    refine ⟨_, rfl, ?_, ((Below.refl w.heap.size w).alloc (Nat.le_refl _) _).drew⟩
    generalize (Question.appendCap n 0 3).cut (w.tape w.drawn (Question.appendCap n 0 3)) = cap at *
    have r := HN.out cap hge hle
    rw [Array.empty_append] at r
    have r2 : RowIs ((w.alloc (.cells (Builtin.zeroCells #[Value.int .i64 0] n ++ Builtin.zeroCells #[Value.int .i64 0] (cap - n)) 3)).drew) w.heap.size 3 1 cap [] := ⟨r.ex, r.room⟩
    exact own_of r2 rfl (Nat.zero_le _) (Nat.le_refl _)
set_option maxRecDepth 100000 in
set_option maxHeartbeats 4000000 in
/-- slices.Concat -/
theorem concat_is (w : World) (B : Option Addr) (n c : Nat) (S : List SlR) (hL : LsAt w B n S) (hn : n ≤ 1000000) (ht : (flatS S).length ≤ 1000000) : Calls Try.prog 78 #[.slice B n c] w fun e w' => ∃ v, e = .returned v ∧ OwnI w w' v (flatS S) ∧ Below w.heap.size w w' := by
  have HL := Lib.hid hL
  have EN := Lib.hid hL.1
  have FL := Lib.hid (flat_le S)
  clear hL
  go_enter Try.func78, Try.ntmps78
  go_wp2_with fail
  go_loopw [3, 11] (fun sv iv wr => ∃ t : Nat, iv = .int .i64 t ∧ t ≤ n ∧ sv = .int .i64 ((flatS (S.take t)).length : Nat) ∧ w = wr) (fun _ iv _ => n - (intOf iv).toNat)
  case atStart => exact ⟨0, rfl, Nat.zero_le _, rfl, rfl⟩
  case round =>
    obtain ⟨t, rfl, ht1, rfl, rfl⟩ := hrel
    by_cases hlt : t < n
    · obtain ⟨b, off, rfl, hb, hc⟩ := HL.out.2 (by omega)
      obtain ⟨c0, s, k⟩ := hc t hlt
      have f1 := FL.out (t + 1)
      have f2 : (flatS (S.take (t + 1))).length = (flatS (S.take t)).length + (gt S t).k := by
        rw [flat_take (by rw [← EN.out]; exact hlt), List.length_append, s.1]
      have F2 := Lib.hid f2
      clear hc s
      generalize (flatS (S.take t)).length = x at *
      generalize (gt S t).k = y at *
      have i5 : (t : Int) < n := by omega
      have s5 : decide ((t : Int) < n) = true := decide_eq_true (by omega)
      have s55 : decide (t < n) = true := decide_eq_true hlt
      have W1 : IntKind.i64.wrap ((t : Int) + 1) = (t : Int) + 1 := IntWalk.i64_in _ (by omega)
      have W2 : IntKind.i64.wrap ((x : Int) + y) = ((x + y : Nat) : Int) := by rw [IntWalk.i64_in _ (by omega)]; omega
      have s6 : decide (((x + y : Nat) : Int) < 0) = false := decide_eq_false (by omega)
      go_wp2
      go_roundw
      case rel => exact ⟨t + 1, by go_num, by omega, by rw [F2.out]; simp, trivial⟩
      case measure => simp [intOf]; omega
    · obtain rfl : n = t := by omega
      have s5 : decide ((n : Int) < n) = false := decide_eq_false (by omega)
      have s55 : decide (n < n) = false := decide_eq_false (by omega)
      have tk : S.take n = S := List.take_of_length_le (by rw [← EN.out]; exact Nat.le_refl _)
      rw [tk]
      have GR := Lib.hid (grow_is w (flatS S).length ht)
      go_wp2_with fail
      refine GR.out.mono ?_
      rintro e w1 ⟨v1, rfl, o1, b1⟩
      have O1 := Lib.hid o1
      have B1 := Lib.hid b1
      clear o1 b1
      go_wp2_with fail
      go_loopw [6, 27] (fun ov iv wr => ∃ (v : Value) (t : Nat) (acc : List Int), t ≤ n ∧ v = ov ∧ iv = .int .i64 t ∧ OwnI w wr v acc ∧ Hid (acc = flatS (S.take t)) ∧ Below w.heap.size w wr) (fun _ iv _ => n - (intOf iv).toNat)
      case atStart => exact ⟨v1, 0, [], Nat.zero_le _, rfl, rfl, O1.out, Lib.hid (by simp [flatS]), B1.out⟩
      case round =>
        obtain ⟨wo, rfl⟩ : ∃ wo : World, wo = wr := ⟨_, rfl⟩
        obtain ⟨v, t, acc, htn, rfl, rfl, hO, hacc, hB⟩ := hrel
        have OO := Lib.hid hO
        have BO := Lib.hid hB
        clear hO
        by_cases hlt : t < n
        · obtain ⟨b, off, rfl, hb, hc⟩ := (HL.out.below hB).2 (by omega)
          obtain ⟨c0, s, k⟩ := hc t hlt
          have f1 := FL.out (t + 1)
          have f2 : flatS (S.take (t + 1)) = flatS (S.take t) ++ (gt S t).l := flat_take (by rw [← EN.out]; exact hlt)
          have f3 : acc.length + (gt S t).k ≤ 1000000 := by rw [hacc.out, s.1]; rw [f2, List.length_append] at f1; omega
          have F2 := Lib.hid (show flatS (S.take (t + 1)) = acc ++ (gt S t).l by rw [f2, hacc.out])
          have SS := Lib.hid s
          clear hc s f1 f2 hB
          generalize (gt S t).k = y at *
          generalize (gt S t).c = yc at *
          generalize (gt S t).l = yl at *
          have i5 : (t : Int) < n := by omega
          have s5 : decide ((t : Int) < n) = true := decide_eq_true (by omega)
          have s55 : decide (t < n) = true := decide_eq_true hlt
          have W1 : IntKind.i64.wrap ((t : Int) + 1) = (t : Int) + 1 := IntWalk.i64_in _ (by omega)
          cases hA : (gt S t).A with
          | none =>
            rw [hA] at c0
            have y0 : y = 0 := by
              rcases Nat.eq_zero_or_pos y with q | q
              · exact q
              · obtain ⟨b', o', e', -⟩ := SS.out.2 q
                rw [hA] at e'; cases e'
            have l0 : yl = [] := List.length_eq_zero_iff.1 (by rw [← SS.out.1]; exact y0)
            subst y0 l0
            obtain ⟨A0, cc0, rfl, -, lc, -⟩ := OO.out.at_
            have O2 := Lib.hid (show OwnI w wo (.slice A0 acc.length cc0) (acc ++ []) by rw [List.append_nil]; exact OO.out)
            have F3 := Lib.hid (show acc ++ [] = flatS (S.take (t + 1)) from F2.out.symm)
            clear SS F2 hA
            rcases A0 with _ | a0
            · go_wp2
              go_roundw
              case rel => exact ⟨_, t + 1, acc ++ [], by omega, rfl, by go_num, O2.out, F3, BO.out⟩
              case measure => simp [intOf]; omega
            · go_wp2
              go_roundw
              case rel => exact ⟨_, t + 1, acc ++ [], by omega, rfl, by go_num, O2.out, F3, BO.out⟩
              case measure => simp [intOf]; omega
          | some ad =>
            rw [hA] at c0 SS
            go_wp2_with (at_builtin; refine append_ints rfl _ _ rfl v acc rfl OO.out BO.out ad y yc yl SS.out rfl f3 ?_)
            intro v4 w4 ow4 hb4
            have OW := Lib.hid ow4
            have B4 := Lib.hid hb4
            have F3 := Lib.hid (show acc ++ yl = flatS (S.take (t + 1)) from F2.out.symm)
            clear ow4 hb4 SS F2 hA
            go_wp2
            go_roundw
            case rel => exact ⟨v4, t + 1, acc ++ yl, by omega, rfl, by go_num, OW.out, F3, B4.out⟩
            case measure => simp [intOf]; omega
        · obtain rfl : n = t := by omega
          have s5 : decide ((n : Int) < n) = false := decide_eq_false (by omega)
          have s55 : decide (n < n) = false := decide_eq_false (by omega)
          rw [tk] at hacc
          go_wp2
          go_ret
          exact ⟨v, rfl, by rw [← hacc.out]; exact OO.out, BO.out⟩
theorem compact_upto {zs : List Int} (h : zs.Pairwise (· ≤ ·)) : ∀ m, m ≤ zs.length → (Lib.compactUpTo zs.toArray m).Pairwise (· < ·) ∧ ∀ y, y ∈ Lib.compactUpTo zs.toArray m ↔ ∃ i, i < m ∧ gt zs i = y
  | 0, _ => ⟨by simp [Lib.compactUpTo], fun y => by simp [Lib.compactUpTo]⟩
  | m + 1, hm => by
    obtain ⟨a, b⟩ := compact_upto h m (by omega)
    have em : (zs.toArray)[m]! = gt zs m := by rw [gt_lt (by omega), getElem!_pos _ _ (by simp; omega)]; simp
    have le : ∀ i j, i ≤ j → j < zs.length → gt zs i ≤ gt zs j := fun i j hij hj => by
      rcases Nat.lt_or_eq_of_le hij with q | q
      · rw [gt_lt (by omega), gt_lt hj]; exact List.pairwise_iff_getElem.1 h i j (by omega) hj q
      · subst q; exact Int.le_refl _
    rw [Lib.compactUpTo_succ]
    by_cases k : m = 0 ∨ (zs.toArray)[m]! ≠ (zs.toArray)[m - 1]!
    · have kk : Lib.keeps zs.toArray m = true := decide_eq_true k
      rw [kk, if_pos rfl, em]
      refine ⟨List.pairwise_append.2 ⟨a, List.pairwise_singleton _ _, fun x hx y hy => ?_⟩, fun y => ?_⟩
      · obtain rfl := List.mem_singleton.1 hy
        obtain ⟨i, hi, rfl⟩ := (b x).1 hx
        rcases k with k | k
        · omega
        · have e1 : (zs.toArray)[m - 1]! = gt zs (m - 1) := by rw [gt_lt (by omega), getElem!_pos _ _ (by simp; omega)]; simp
          rw [em, e1] at k
          have h1 := le i (m - 1) (by omega) (by omega)
          have h2 := le (m - 1) m (by omega) (by omega)
          omega
      · rw [List.mem_append, List.mem_singleton, b]
        constructor
        · rintro (⟨i, hi, e⟩ | e)
          · exact ⟨i, by omega, e⟩
          · exact ⟨m, by omega, e.symm⟩
        · rintro ⟨i, hi, e⟩
          rcases Nat.lt_or_eq_of_le (Nat.lt_succ_iff.1 hi) with q | q
          · exact .inl ⟨i, q, e⟩
          · subst q; exact .inr e.symm
    · have kk : Lib.keeps zs.toArray m = false := decide_eq_false k
      rw [kk, if_neg (by simp), List.append_nil]
      refine ⟨a, fun y => ?_⟩
      rw [b]
      have k1 : ¬ m = 0 := fun e => k (.inl e)
      have k2 : (zs.toArray)[m]! = (zs.toArray)[m - 1]! := Decidable.byContradiction fun e => k (.inr e)
      have e1 : (zs.toArray)[m - 1]! = gt zs (m - 1) := by rw [gt_lt (by omega), getElem!_pos _ _ (by simp; omega)]; simp
      rw [em, e1] at k2
      constructor
      · rintro ⟨i, hi, e⟩
        exact ⟨i, by omega, e⟩
      · rintro ⟨i, hi, e⟩
        rcases Nat.lt_or_eq_of_le (Nat.lt_succ_iff.1 hi) with q | q
        · exact ⟨i, q, e⟩
        · subst q; exact ⟨i - 1, by omega, by rw [← k2]; exact e⟩
theorem compact_sort (l : List Int) : Lib.compact (l.mergeSort fun x y => decide (x ≤ y)) = sortU iltB l := by
  have hp := List.mergeSort_perm l fun x y => decide (x ≤ y)
  have hs : (l.mergeSort fun x y => decide (x ≤ y)).Pairwise (· ≤ ·) := (List.pairwise_mergeSort (le := fun x y => decide ((x : Int) ≤ y)) (fun a b c h1 h2 => by simp only [decide_eq_true_eq] at *; omega) (fun a b => by simp only [Bool.or_eq_true, decide_eq_true_eq]; omega) l).imp fun h => of_decide_eq_true h
  obtain ⟨a, b⟩ := compact_upto hs _ (Nat.le_refl _)
  obtain ⟨c, -, d⟩ := sort_all (l := l)
  refine int_unique a c fun y => ?_
  rw [d]
  constructor
  · intro h
    obtain ⟨i, hi, e⟩ := (b y).1 h
    exact hp.mem_iff.1 (by rw [← e]; exact gt_mem hi)
  · intro h
    refine (b y).2 ?_
    obtain ⟨i, hi, e⟩ := List.mem_iff_getElem.1 (hp.mem_iff.2 h)
    exact ⟨i, hi, by rw [gt_lt hi]; exact e⟩
theorem kp_setCells (g : Nat) : ∀ (vs : List Value) (o : Nat) (w : World), Kp (· = g) w (w.setCells g o vs)
  | [], o, w => Kp.refl _ _
  | v :: vs, o, w => (Kp.setCell (F := (· = g)) w ⟨g, o, none⟩ rfl v).trans (kp_setCells g vs (o + 1) _)
/-- a list of numbers that is told -/
def IntsR (w : World) (r : List Int) (e : Ending) (w' : World) : Prop := ∃ A c, e = .returned (.slice A r.length c) ∧ IsAt w' A r.length r ∧ r.length ≤ c ∧ Below w.heap.size w w'
set_option maxRecDepth 100000 in
set_option maxHeartbeats 4000000 in
theorem merge_is (w : World) (B : Option Addr) (n c : Nat) (S : List SlR) (hL : LsAt w B n S) (hn : n ≤ 1000000) (ht : (flatS S).length ≤ 100000) : Calls Try.prog 46 #[.slice B n c] w (IntsR w (sortU iltB (flatS S))) := by
  have CC := Lib.hid (concat_is w B n c S hL hn (by omega))
  generalize hl : flatS S = l at *
  have HT := Lib.hid ht
  clear hL hl
  go_enter Try.func46, Try.ntmps46
  go_wp2_with fail
  refine CC.out.mono ?_
  rintro e w1 ⟨v1, rfl, o1, b1⟩
  have B1 := Lib.hid b1
  by_cases h0 : l = []
  · subst h0
    obtain ⟨A, cc, rfl, -, -, -⟩ := o1.at_
    have S1 := Lib.hid (Try.slices_Sort_int_none A cc w1)
    have S2 := Lib.hid (Try.slices_Compact_int_empty A cc w1)
    clear o1 b1 CC ht
    simp only [List.length_nil] at *
    go_wp2_with fail
    refine S1.out.mono ?_
    rintro e w2 ⟨rfl, hw⟩
    subst hw
    go_wp2_with fail
    refine S2.out.mono ?_
    rintro e w2 ⟨rfl, hw⟩
    subst hw
    go_wp2
    go_ret
    exact ⟨A, cc, rfl, ⟨rfl, fun h => by simp [sortU] at h⟩, Nat.zero_le _, B1.out⟩
  · have lp : 0 < l.length := by cases l with
      | nil => exact absurd rfl h0
      | cons a l => simp
    rcases o1.2 with ⟨-, q⟩ | ⟨g, cap, cur, rfl, hbg, hg, hnc, hcm, -⟩
    · omega
    have gl := (World.ownsRow.lt o1 g rfl).2
    have hH : Holds (Value.int .i64) w1 g 0 l.toArray := fun j hj => by
      have hj2 : j < l.length := by simpa using hj
      obtain ⟨r, -, -, -⟩ := row_of o1
      refine ⟨?_, by rw [Nat.zero_add]; exact r.frozen j⟩
      rw [Nat.zero_add]
      refine r.cell ?_
      rw [List.getElem?_map, List.getElem?_eq_getElem hj2, getElem!_pos l.toArray j hj]
      simp
    have SO := Try.slices_Sort_int g 0 cap l w1 hH gl (by omega)
    have SR := Lib.hid (compact_sort l)
    have zl : (l.mergeSort fun x y => decide (x ≤ y)).length = l.length := (List.mergeSort_perm l _).length_eq
    generalize l.mergeSort (fun x y => decide (x ≤ y)) = zs at *
    have fin : ∀ (w2 : World) (k : Nat) (os : Array Obj), w2 = grow (putRow (Value.int .i64) (Sort.ahead w1 k) g 0 zs.toArray) os → Calls Try.prog 80 #[.slice (some ⟨g, 0, none⟩) l.length cap] w2 (IntsR w (sortU iltB l)) := by
      intro w2 k os hw
      have h2 : Holds (Value.int .i64) w2 g 0 zs.toArray := hw ▸ holds_grow _ _ os g 0 _ (by unfold putRow mapBlock Sort.ahead; simpa using gl) (holds_putRow _ _ g 0 l.toArray zs.toArray (holds_ahead _ w1 k g 0 _ hH) (by simpa using zl))
      have k2 : Kp (· = g) w1 w2 := by
        rw [hw]
        refine ⟨rfl, rfl, rfl, ?_, fun j hj hf => ?_⟩
        · unfold grow putRow mapBlock Sort.ahead
          simp
        · unfold grow putRow mapBlock Sort.ahead
          simp only
          rw [Array.getElem?_append_left (by simpa using hj), Array.getElem?_modify, if_neg (fun e => hf e.symm)]
      refine (Try.slices_Compact_int_cells g 0 l.length cap zs w2 (by omega) (by omega) hnc (fun j hj => by
        have := (h2 j (by simpa using hj)).1
        rw [this, getElem!_pos zs.toArray j (by simpa using hj), List.getD_eq_getElem?_getD, List.getElem?_eq_getElem hj]; simp) (fun j hj => (h2 j (by simp; omega)).2)).mono ?_
      rintro e w3 ⟨rfl, q, rfl⟩
      rw [show zs.take l.length = zs from List.take_of_length_le (by omega)]
      rw [SR.out]
      have rl : (sortU iltB l).length ≤ l.length := (sort_all (l := l)).2.1
      refine ⟨some ⟨g, 0, none⟩, cap, rfl, ⟨rfl, fun _ => ⟨g, 0, rfl, ?_, fun j hj => ?_⟩⟩, by omega, ?_⟩
      · have := k2.size
        have s3 := (kp_setCells g ((sortU iltB l ++ List.replicate (l.length - (sortU iltB l).length) 0).map (Value.int .i64)) 0 (w2.drewN q)).size
        have : (w2.drewN q).heap.size = w2.heap.size := rfl
        omega
      · have len : ((sortU iltB l ++ List.replicate (l.length - (sortU iltB l).length) 0).map (Value.int .i64)).length = l.length := by simp; omega
        have := World.cell?_setCells_in g ((sortU iltB l ++ List.replicate (l.length - (sortU iltB l).length) 0).map (Value.int .i64)) 0 (w2.drewN q) (fun i hi => by
          rw [len] at hi
          have := (h2 i (by simp; omega)).1
          show ((w2.drewN q).cell? ⟨g, 0 + i, none⟩).isSome = true
          have e : (w2.drewN q).cell? ⟨g, 0 + i, none⟩ = w2.cell? ⟨g, 0 + i, none⟩ := rfl
          rw [e, this]; rfl) j (by rw [len]; omega)
        rw [this, List.getElem_map, List.getElem_append_left hj, gt_lt hj]
      · exact (B1.out.trans (k2.below B1.out.size fun k e => e ▸ hbg)).trans (((below_drewN _ _ q)).trans ((kp_setCells g _ 0 _).below (by have := k2.size; have := B1.out.size; show _ ≤ w2.heap.size; omega) fun k e => e ▸ hbg))
    have FN := Lib.hid fin
    have SH := Lib.hid SO
    clear fin SO hH hg o1 b1 CC SR zl
    go_wp2_with fail
    refine SH.out.mono ?_
    rintro e w2 ⟨rfl, k, os, hw⟩
    have F2 := Lib.hid (FN.out w2 k os hw)
    clear hw FN SH
    go_wp2_with fail
    refine F2.out.mono ?_
    rintro e w3 hR
    obtain ⟨A, c3, rfl, i3, l3, b3⟩ := hR
    have RR := Lib.hid (show IntsR w (sortU iltB l) (.returned (.slice A (sortU iltB l).length c3)) w3 from ⟨A, c3, rfl, i3, l3, b3⟩)
    clear i3 l3 b3
    go_wp2
    go_ret
    exact RR.out
end Go.Proofs.Ytjodhfehfpmfaaa.Ti
