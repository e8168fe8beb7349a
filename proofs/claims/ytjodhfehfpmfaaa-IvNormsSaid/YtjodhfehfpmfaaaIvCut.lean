/- The walk of (*Set).Cut. -/
import Derived.Test.YtjodhfehfpmfaaaIvOps
import Derived.Test.YtjodhfehfpmfaaaIvSet
set_option linter.unusedVariables false
namespace Go.Proofs.Ytjodhfehfpmfaaa.Iv
open Go.RowKit

theorem map_take_succ {m : List Tg} {t : Nat} (h : t < m.length) (f : Tg → Int × Int) : (m.take (t + 1)).map f = (m.take t).map f ++ [f (gt m t)] := by
  rw [List.take_succ_eq_append_getElem h, List.map_append, gt_lt h]; rfl
theorem own_any {B : Nat} {w : World} {v : Value} {l : List (Int × Int)} (h : OwnP B w v l) : ∃ A c, v = .slice A l.length c ∧ SpAt w A l.length l ∧ (A = none → l.length = 0) := by
  rcases h.form with ⟨rfl, rfl⟩ | ⟨g, c, rfl, sp, -, -, -⟩
  · exact ⟨none, 0, rfl, SpAt.nil _ _, fun _ => rfl⟩
  · refine ⟨some ⟨g, 0, none⟩, c, rfl, sp, ?_⟩
    intro h; cases h
theorem append_sp' {ops : Array Oper} {rest : List Oper} {o : Oper} {a : Act} {Q : Exit → Act → World → Prop} {B : Nat} {w : World} (b : Nat) (hb : b = w.heap.size) (hgd : o.guard = none) (s x : Operand)
    (ho : o.op = .call { callee := .builtin .append, args := #[s, x], argTypes := #[22, 22] })
    (v : Value) (l : List (Int × Int)) (hs : a.eval s = v) (hown : OwnP B w v l) (hB : B ≤ w.heap.size) (p : Int × Int) (cs : Array Value) (hcs : cs.toList = encS p) (T : TypeId) (c : Nat)
    (hx : a.eval x = .slice (some ⟨b, 0, none⟩) 1 c) (hl : l.length ≤ 1000000)
    (h : ∀ v' w', OwnP B w' v' (l ++ [p]) → Below B w w' → wpList Try.prog ops Q rest (a.put o.dst v') w') : wpList Try.prog ops Q (o :: rest) a (w.alloc (.cells cs T)) := by
  subst hb
  exact append_sp hgd s x ho v l hs hown hB p cs hcs T c hx hl h
set_option maxRecDepth 100000 in
set_option maxHeartbeats 4000000 in
/-- Cut -/
theorem cut_is {F : Nat → Prop} (w : World) (p : Nat) (all : List Tg) (ow : List Int) (lo hi : Int) (S : SetIn F w p all ow) (ha : all.length ≤ 900000) :
    Calls Try.prog 24 #[.pointer (some ⟨p, 0, none⟩), .int .i64 lo, .int .i64 hi] w (NewS w (cutL lo hi all)) := by
  have SS := Lib.hid S
  have OV := Lib.hid (over_is w p all ow lo hi S (by omega))
  have CO := Lib.hid (cut_over lo hi all)
  have LL : (overL lo hi all).length ≤ 900000 := Nat.le_trans (List.length_filter_le _ _) ha
  generalize overL lo hi all = m at *
  clear S
  go_enter Try.func24, Try.ntmps24
  go_wp2_with fail
  refine OV.out.mono ?_
  rintro e w1 ⟨A1, c1, rfl, hT, hb⟩
  have B1 := Lib.hid hb
  have TT := Lib.hid hT
  generalize hk : m.length = k at *
  have KM := Lib.hid hk
  clear hT hb OV hk
  go_wp2_with fail
  go_loopw [7, 15] (fun v i wr => ∃ t : Nat, i = .int .i64 t ∧ t ≤ k ∧ Hid (OwnP w1.heap.size wr v ((m.take t).map (cutT lo hi))) ∧ Below w1.heap.size w1 wr) (fun v i _ => k - (intOf i).toNat)
  case atStart => exact ⟨0, rfl, Nat.zero_le _, Lib.hid (OwnP.nil _ _), Below.refl _ _⟩
  case round =>
    obtain ⟨wo, rfl⟩ : ∃ wo : World, wo = wr := ⟨_, rfl⟩
    obtain ⟨t, rfl, ht, OV, hB⟩ := hrel
    by_cases hlt : t < k
    · obtain ⟨b1, o1, rfl, hl1, hc1⟩ := TT.out.2 (by omega)
      obtain ⟨c0, c1', c2⟩ := hc1 t hlt
      replace c0 := (hB.cell (p := ⟨b1, _, none⟩) hl1).trans c0
      replace c1' := (hB.cell (p := ⟨b1, _, none⟩) hl1).trans c1'
      replace c2 := (hB.cell (p := ⟨b1, _, none⟩) hl1).trans c2
      have ST := Lib.hid (map_take_succ (m := m) (t := t) (by rw [KM.out]; exact hlt) (cutT lo hi))
      have LA := Lib.hid (show ((m.take t).map (cutT lo hi)).length = t by rw [List.length_map, List.length_take, KM.out]; omega)
      clear hc1
      generalize gt m t = x at *
      generalize (m.take t).map (cutT lo hi) = acc at *
      have s0 : decide ((t : Int) < k) = true := decide_eq_true (by omega)
      have s00 : decide (t < k) = true := decide_eq_true hlt
      have i5 : (t : Int) < k := by omega
      have W2 : IntKind.i64.wrap ((t : Int) + 1) = (t : Int) + 1 := IntWalk.i64_in _ (by omega)
      have SZ := hB.size
      have OVH := Lib.hid OV.out
      rcases OV.out.form with ⟨rfl, -⟩ | ⟨g3, cap3, rfl, -⟩
      all_goals
        clear OV
        have OV2 := Lib.hid (OVH.out.on (below_alloc wo (.cells #[.int .i64 x.1.1, .int .i64 x.1.2, .int .i64 x.2] 42)))
        have B2 := Lib.hid (hB.alloc hB.size (.cells #[.int .i64 x.1.1, .int .i64 x.1.2, .int .i64 x.2] 42))
        go_wp2_with (at_builtin; refine append_sp' _ (by simp) rfl _ _ rfl _ acc rfl OV2.out B2.out.size (cutT lo hi x) _ rfl _ _ rfl (by have := LA.out; omega) ?_)
        intro v4 w4 ow4 hb4
        rw [← ST.out] at ow4
        have OW := Lib.hid ow4
        have B4 := Lib.hid (B2.out.trans hb4)
        clear ow4 hb4
        go_wp2
        go_roundw
        case rel => exact ⟨t + 1, by go_num, by omega, OW, B4.out⟩
        case measure => simp [intOf]; omega
    · obtain rfl : k = t := by omega
      have s0 : decide ((k : Int) < k) = false := decide_eq_false (by omega)
      have s00 : decide (k < k) = false := decide_eq_false (by omega)
      have e0 : m.take k = m := List.take_of_length_le (by rw [KM.out]; exact Nat.le_refl _)
      rw [e0] at OV
      have CL := Lib.hid (show (m.map (cutT lo hi)).length = k by rw [List.length_map, KM.out])
      have COH := Lib.hid CO.out
      generalize m.map (cutT lo hi) = acc at *
      obtain ⟨A5, c5, rfl, i5, n5⟩ := own_any OV.out
      have HN := Lib.hid (norm_any wo A5 acc.length c5 acc i5 n5 (by have := CL.out; omega))
      have BB := Lib.hid (B1.out.trans (hB.mono B1.out.size))
      clear OV i5 n5 hB B1 CO
      go_wp2_with fail
      refine HN.out.mono ?_
      rintro e w2 ⟨A6, c6, rfl, i6, f6, l6, b6⟩
      have sz := BB.out.size
      have RES := Lib.hid (show NewS w (cutL lo hi all) (.returned (.slice A6 (cutL lo hi all).length c6)) w2 from by
        rw [COH.out] at i6 f6 l6
        exact ⟨A6, c6, rfl, i6, fun h => by obtain ⟨g, e, q⟩ := f6 h; exact ⟨g, e, by omega⟩, l6, BB.out.trans (b6.mono sz)⟩)
      rw [COH.out]
      clear i6 f6 l6 b6
      go_wp2
      go_ret
      exact RES.out
end Go.Proofs.Ytjodhfehfpmfaaa.Iv
