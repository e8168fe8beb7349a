/- vokref10.Set: Remove, Cut, Owners. -/
import Derived.Test.YtjodhfehfpmfaaaIvRef
import Derived.Test.YtjodhfehfpmfaaaIvCut
import Derived.Test.YtjodhfehfpmfaaaIvRem
import Derived.Test.YtjodhfehfpmfaaaIvSo
set_option linter.unusedVariables false
namespace Go.Proofs.Ytjodhfehfpmfaaa.Iv
open Go.RowKit

theorem info_rt : (Try.prog.info? 45).map (fun i => (i.zero, i.size, i.bytes)) = some (some (.agg #[.int .i64 0, .int .i64 0, .int .i64 0]), 3, 24) := by kernel_rfl
def OwnT (B : Nat) (w : World) (v : Value) (l : List Tg) : Prop := w.ownsRow B 45 3 v l.length (cellsL encT l)
theorem OwnT.nil (B : Nat) (w : World) : OwnT B w (.slice none 0 0) [] := World.ownsRow_nil _ _ _ _
theorem OwnT.on {B : Nat} {w w' : World} {v : Value} {l : List Tg} (h : OwnT B w v l) (hb : Below w.heap.size w w') : OwnT B w' v l := row_on h hb
theorem OwnT.form {B : Nat} {w : World} {v : Value} {l : List Tg} (h : OwnT B w v l) : (v = .slice none 0 0 ∧ l = []) ∨ ∃ g c, v = .slice (some ⟨g, 0, none⟩) l.length c ∧ RowIs w g 45 3 c (cellsL encT l) ∧ B ≤ g ∧ l.length ≤ c := by
  rcases h.2 with ⟨rfl, h0⟩ | ⟨g, cap, cur, rfl, hb, hg, hnc, hcm, hcs, htake⟩
  · exact .inl ⟨rfl, List.length_eq_zero_iff.1 h0⟩
  · obtain ⟨r, -, q, hB⟩ := row_of h
    exact .inr ⟨g, cap, rfl, r, hB, q⟩
theorem append_tg {ops : Array Oper} {rest : List Oper} {o : Oper} {a : Act} {Q : Exit → Act → World → Prop} {B : Nat} {w : World} (hgd : o.guard = none) (s x : Operand)
    (ho : o.op = .call { callee := .builtin .append, args := #[s, x], argTypes := #[32, 32] })
    (v : Value) (l : List Tg) (hs : a.eval s = v) (hown : OwnT B w v l) (hB : B ≤ w.heap.size) (p : Tg) (cs : Array Value) (hcs : cs.toList = encT p) (T : TypeId) (c : Nat)
    (hx : a.eval x = .slice (some ⟨w.heap.size, 0, none⟩) 1 c) (hl : l.length ≤ 1000000)
    (h : ∀ v' w', OwnT B w' v' (l ++ [p]) → Below B w w' → wpList Try.prog ops Q rest (a.put o.dst v') w') : wpList Try.prog ops Q (o :: rest) a (w.alloc (.cells cs T)) := by
  obtain ⟨i0, hi, hz0, hz1, hz2⟩ := info_parts info_rt
  refine wpList_append_own _ hgd s x 32 ho B 45 i0 _ 3 24 Try.underlying32 hi hz0 hz1 hz2 rfl (by decide) v l.length (cellsL encT l) hs (World.ownsRow.alloc hown _)
    ⟨w.heap.size, 0, none⟩ 1 c (encT p) hx rfl ?_ (encT_one p) (by unfold maxLen; omega) (by omega) (by simp; omega) ?_
  · intro j u hj
    rw [addr_off, World.cell?_alloc_new, ← hj, ← hcs]
    simp
  · intro v' w' hown' hg _
    refine h v' w' ?_ (((Below.refl _ _).alloc hB _).grown hg (by simp; omega) fun _ hk => (World.ownsRow.lt hown _ hk).1)
    unfold OwnT
    rw [List.length_append, cells_app]
    have : cellsL encT [p] = encT p := by unfold cellsL; simp
    rw [this]
    exact hown'
theorem rem_take {m : List Tg} {t : Nat} {owner : Int} (h : t < m.length) : remL owner (m.take (t + 1)) = if (gt m t).2 = owner then remL owner (m.take t) else remL owner (m.take t) ++ [gt m t] := by
  unfold remL
  rw [List.take_succ_eq_append_getElem h, List.filter_append, gt_lt h]
  by_cases e : (m[t]).2 = owner
  · rw [if_pos e]; simp [e]
  · rw [if_neg e]; simp [e]
set_option maxRecDepth 100000 in
set_option maxHeartbeats 4000000 in
/-- Remove -/
theorem rrem_is {G : Nat → Prop} (w : World) (r : Nat) (all : List Tg) (owner : Int) (R : RefIn G w r all) (hG : ∀ k, w.heap.size ≤ k → G k) (hn : all.length ≤ 100000) :
    Calls Try.prog 21 #[.pointer (some ⟨r, 0, none⟩), .int .i64 owner] w fun e w' => e = .returned (.int .i64 (hadL owner all : Nat)) ∧ RefIn G w' r (remL owner all) ∧ Kp (· = r) w w' := by
  obtain ⟨A, c, H⟩ := R
  have p0 := H.c0
  have rl := H.box.lt
  have TA := Lib.hid H.tg
  have HH := Lib.hid H
  have GG := Lib.hid hG
  clear H hG
  have HD := Lib.hid (show hadL owner all = all.length - (remL owner all).length from rfl)
  have LR : (remL owner all).length ≤ all.length := List.length_filter_le _ _
  have RT := Lib.hid (fun (t : Nat) (h : t < all.length) => rem_take (m := all) (owner := owner) h)
  generalize hk : all.length = n at *
  have LN := Lib.hid hk
  clear hk
  go_enter Try.func21, Try.ntmps21
  go_wp2
  go_loopw [5, 6] (fun v i wr => ∃ t : Nat, i = .int .i64 t ∧ t ≤ n ∧ Hid (OwnT w.heap.size wr v (remL owner (all.take t))) ∧ Below w.heap.size w wr) (fun v i _ => n - (intOf i).toNat)
  case atStart => exact ⟨0, rfl, Nat.zero_le _, Lib.hid (OwnT.nil _ _), Below.refl _ _⟩
  case round =>
    obtain ⟨wo, rfl⟩ : ∃ wo : World, wo = wr := ⟨_, rfl⟩
    obtain ⟨t, rfl, ht, OV, hB⟩ := hrel
    have q0 := (hB.cell (p := ⟨r, 0, none⟩) rl).trans p0
    by_cases hlt : t < n
    · have s0 : decide ((t : Int) < n) = true := decide_eq_true (by omega)
      have s00 : decide (t < n) = true := decide_eq_true hlt
      have i5 : (t : Int) < n := by omega
      have W1 : IntKind.i64.wrap ((t : Int) + 1) = (t : Int) + 1 := IntWalk.i64_in _ (by omega)
      obtain ⟨b1, o1, rfl, hl1, hc1⟩ := TA.out.2 (by omega)
      obtain ⟨c0, c1, c2⟩ := hc1 t hlt
      replace c0 := (hB.cell (p := ⟨b1, _, none⟩) hl1).trans c0
      replace c1 := (hB.cell (p := ⟨b1, _, none⟩) hl1).trans c1
      replace c2 := (hB.cell (p := ⟨b1, _, none⟩) hl1).trans c2
      have ST := Lib.hid (RT.out t hlt)
      have LA := Lib.hid (show (remL owner (all.take t)).length ≤ t from Nat.le_trans (List.length_filter_le _ _) (by rw [List.length_take]; omega))
      have SZ := hB.size
      clear hc1
      generalize gt all t = x at *
      generalize remL owner (all.take t) = acc at *
      by_cases hx : x.2 = owner
      · have s1 : ((x.2 : Int) != owner) = false := by rw [bne_eq_false_iff_eq]; exact hx
        rw [if_pos hx] at ST
        have OW := Lib.hid (show OwnT w.heap.size wo _ (remL owner (all.take (t + 1))) from ST.out ▸ OV.out)
        clear hx
        go_wp2
        go_roundw
        case rel => exact ⟨t + 1, by go_num, by omega, OW, hB⟩
        case measure => simp [intOf]; omega
      · have s1 : ((x.2 : Int) != owner) = true := by rw [bne_iff_ne]; exact hx
        rw [if_neg hx] at ST
        clear hx
        have OVH := Lib.hid OV.out
        rcases OV.out.form with ⟨rfl, -⟩ | ⟨g3, cap3, rfl, -⟩
        all_goals
          clear OV
          go_wp2_with (at_builtin; refine append_tg rfl _ _ rfl _ acc rfl OVH.out SZ x _ rfl _ _ rfl (by have := LA.out; omega) ?_)
          intro v4 w4 ow4 hb4
          rw [← ST.out] at ow4
          have OW := Lib.hid ow4
          have B4 := Lib.hid (hB.trans hb4)
          clear ow4 hb4
          go_wp2
          go_roundw
          case rel => exact ⟨t + 1, by go_num, by omega, OW, B4.out⟩
          case measure => simp [intOf]; omega
    · obtain rfl : n = t := by omega
      have s0 : decide ((n : Int) < n) = false := decide_eq_false (by omega)
      have s00 : decide (n < n) = false := decide_eq_false (by omega)
      rw [List.take_of_length_le (by rw [LN.out]; exact Nat.le_refl _)] at OV
      have BO := Lib.hid hB
      have BXR := Lib.hid (HH.out.box.below hB)
      rw [LN.out] at BXR
      have f0 : wo.frozen? ⟨r, 0, none⟩ = false := BXR.out.frozen 0
      have fin : ∀ A' c', OwnT w.heap.size wo (.slice A' (remL owner all).length c') (remL owner all) → RefIn G (wo.setCell ⟨r, 0, none⟩ (.slice A' (remL owner all).length c')) r (remL owner all) ∧ Kp (· = r) w (wo.setCell ⟨r, 0, none⟩ (.slice A' (remL owner all).length c')) := by
        intro A' c' ho
        obtain ⟨R5, K5⟩ := BXR.out.setCell 0 (by simp) (.slice A' (remL owner all).length c')
        refine ⟨⟨A', c', R5, HH.out.foot, ?_⟩, (Kp.of BO.out).trans K5⟩
        rcases ho.form with ⟨e, el⟩ | ⟨g, c5, e, rr, hg, hc⟩
        · injection e with e1 e2 e3
          subst e1 e3
          exact ⟨by rw [cells_len (k := 3) (fun _ => rfl)], by rw [el]; exact Nat.le_refl _, .inl ⟨rfl, rfl⟩⟩
        · injection e with e1 e2 e3
          subst e1 e3
          exact ⟨by rw [cells_len (k := 3) (fun _ => rfl)], hc, .inr ⟨g, rfl, GG.out _ hg, rr.kp K5 (fun q => by omega)⟩⟩
      have FIN := Lib.hid fin
      clear fin hB
      have OVH := Lib.hid OV.out
      rcases OV.out.form with ⟨rfl, e0⟩ | ⟨g3, cap3, rfl, -⟩
      · have RES := Lib.hid (FIN.out none 0 (by rw [e0] at OVH ⊢; exact OVH.out))
        have HD0 := HD.out
        have m0 : (remL owner all).length = 0 := by rw [e0]; rfl
        rw [m0] at RES HD0 LR
        rw [Nat.sub_zero] at HD0
        have HD2 := Lib.hid HD0
        have W2 : IntKind.i64.wrap ((n : Int) - 0) = (n : Int) := by rw [Int.sub_zero]; exact IntWalk.i64_in _ (by omega)
        have W3 : IntKind.i64.wrap (n : Int) = (n : Int) := IntWalk.i64_in _ (by omega)
        clear e0 HD0 OV OVH m0 HD
        go_wp2
        go_ret
        exact ⟨ret_int (by rw [HD2.out]), RES.out⟩
      · have RES := Lib.hid (FIN.out _ _ OVH.out)
        clear OV OVH FIN RT
        generalize (remL owner all).length = m at *
        have W2 : IntKind.i64.wrap ((n : Int) - m) = ((n - m : Nat) : Int) := by rw [show ((n : Int) - m) = ((n - m : Nat) : Int) from by omega]; exact IntWalk.i64_in _ (by omega)
        generalize n - m = hd at *
        go_wp2
        go_ret
        exact ⟨ret_int (by rw [HD.out]), RES.out⟩
end Go.Proofs.Ytjodhfehfpmfaaa.Iv
