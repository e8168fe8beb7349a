/- The walk of voklaw11.TimerMerges: vokref.CopyInts, vokref10.Merge. -/
import Derived.Test.YtjodhfehfpmfaaaTiF
set_option linter.unusedVariables false
namespace Go.Proofs.Ytjodhfehfpmfaaa.Ti
open Go.RowKit Iv

theorem emptyI (w : World) (B : Nat) (hB : B ≤ w.heap.size) : (w.alloc (.cells #[] 3)).ownsRow B 3 1 (.slice (some ⟨w.heap.size, 0, none⟩) 0 0) 0 [] :=
  own_of (n := 0) (new_row w 3 1 0 0 #[] #[] rfl (by unfold maxLen; decide)) rfl (Nat.le_refl _) hB
theorem own_free {W w : World} {v : Value} {l : List Int} (h : OwnI W w v l) : ∃ A c, v = .slice A l.length c ∧ IsAt w A l.length l ∧ l.length ≤ c ∧ ∀ g o, A = some ⟨g, o, none⟩ → W.heap.size ≤ g ∧ g < w.heap.size := by
  obtain ⟨A, c, rfl, h1, h2, -⟩ := h.at_
  refine ⟨A, c, rfl, h1, h2, fun g o e => ?_⟩
  rcases h.2 with ⟨e2, -⟩ | ⟨g2, cap, cur, e2, hb, -⟩
  · injection e2 with e3
    rw [e] at e3; cases e3
  · injection e2 with e3
    rw [e] at e3
    injection e3 with e3
    injection e3 with e3 e4
    subst e3
    have := World.ownsRow.lt h g (by rw [e]; rfl)
    exact this
set_option maxRecDepth 100000 in
set_option maxHeartbeats 4000000 in
/-- vokref.CopyInts -/
theorem copyints_is (w : World) (A : Option Addr) (n c : Nat) (l : List Int) (hA : IsAt w A n l) (hn : n ≤ 100000) : Calls Try.prog 45 #[.slice A n c] w fun e w' => ∃ A' cap, e = .returned (.slice A' n cap) ∧ IsAt w' A' n l ∧ n ≤ cap ∧ (∀ g o, A' = some ⟨g, o, none⟩ → w.heap.size ≤ g ∧ g < w'.heap.size) ∧ Below w.heap.size w w' := by
  have HA := Lib.hid hA
  have en := hA.1
  have be := below_alloc w (.cells #[] 3)
  have OE := Lib.hid (show OwnI w (w.alloc (.cells #[] 3)) (.slice (some ⟨w.heap.size, 0, none⟩) 0 0) [] from emptyI w w.heap.size (Nat.le_refl _))
  have BE := Lib.hid be
  have HE := Lib.hid (hA.below be)
  clear hA be
  have FN := Lib.hid (show ∀ (v : Value) (w' : World), OwnI w w' v l → Below w.heap.size w w' → ∃ A' cap, Ending.returned v = .returned (.slice A' n cap) ∧ IsAt w' A' n l ∧ n ≤ cap ∧ (∀ g o, A' = some ⟨g, o, none⟩ → w.heap.size ≤ g ∧ g < w'.heap.size) ∧ Below w.heap.size w w' from fun v w' ho hb => by
    obtain ⟨A', c', rfl, h1, h2, h3⟩ := own_free ho
    rw [en]
    exact ⟨A', c', rfl, h1, h2, h3, hb⟩)
  go_enter Try.func45, Try.ntmps45
  cases A with
  | none =>
    have n0 : n = 0 := by
      rcases Nat.eq_zero_or_pos n with q | q
      · exact q
      · obtain ⟨b', o', e', -⟩ := HA.out.2 q
        cases e'
    subst n0
    obtain rfl : l = [] := List.length_eq_zero_iff.1 en.symm
    clear en HA HE hn
    go_wp2
    go_ret
    exact FN.out _ _ OE.out BE.out
  | some ad =>
    go_wp2_with (at_builtin; refine append_ints rfl _ _ rfl _ [] rfl OE.out BE.out ad n c l HE.out rfl (by simp; omega) ?_)
    intro v4 w4 ow4 hb4
    have OW := Lib.hid (show OwnI w w4 v4 l from ow4)
    have B4 := Lib.hid hb4
    clear ow4 hb4
    go_wp2
    go_ret
    exact FN.out _ _ OW.out B4.out
set_option maxRecDepth 100000 in
set_option maxHeartbeats 4000000 in
/-- vokref10.Merge -/
theorem rmerge_is (w : World) (B : Option Addr) (n c : Nat) (S : List SlR) (hL : LsAt w B n S) (hn : n ≤ 1000000) (ht : (flatS S).length ≤ 100000) : Calls Try.prog 47 #[.slice B n c] w (IntsR w (sortU iltB (flatS S))) := by
  have HL := Lib.hid hL
  have EN := Lib.hid hL.1
  have FL := Lib.hid (flat_le S)
  clear hL
  go_enter Try.func47, Try.ntmps47
  go_wp2_with fail
  go_loopw [3, 4] (fun ov iv wr => ∃ (v : Value) (t : Nat) (acc : List Int), t ≤ n ∧ v = ov ∧ iv = .int .i64 t ∧ OwnI w wr v acc ∧ Hid (acc = flatS (S.take t)) ∧ Below w.heap.size w wr) (fun _ iv _ => n - (intOf iv).toNat)
  case atStart => exact ⟨_, 0, [], Nat.zero_le _, rfl, rfl, OwnI.nil _ _, Lib.hid (by simp [flatS]), Below.refl _ _⟩
  case round =>
    obtain ⟨wo, rfl⟩ : ∃ wo : World, wo = wr := ⟨_, rfl⟩
    obtain ⟨v, t, acc, htn, rfl, rfl, hO, hacc, hB⟩ := hrel
    have OO := Lib.hid hO
    have BO := Lib.hid hB
    clear hO
    by_cases hlt : t < n
    · obtain ⟨b, off, rfl, hb, hc⟩ := (HL.out.below hB).2 (by omega)
      obtain ⟨c0, s, k⟩ := hc t hlt
      have f1 := FL.out (t + 1)
      have f2 : flatS (S.take (t + 1)) = flatS (S.take t) ++ (gt S t).l := flat_take (by rw [← EN.out]; exact hlt)
      have f3 : acc.length + (gt S t).k ≤ 1000000 := by rw [hacc.out, s.1]; rw [f2, List.length_append] at f1; omega
      have F2 := Lib.hid (show flatS (S.take (t + 1)) = acc ++ (gt S t).l by rw [f2, hacc.out])
      have SS := Lib.hid s
      clear hc s f1 f2 hB
      generalize (gt S t).k = y at *
      generalize (gt S t).c = yc at *
      generalize (gt S t).l = yl at *
      have i5 : (t : Int) < n := by omega
      have s5 : decide ((t : Int) < n) = true := decide_eq_true (by omega)
      have s55 : decide (t < n) = true := decide_eq_true hlt
      have W1 : IntKind.i64.wrap ((t : Int) + 1) = (t : Int) + 1 := IntWalk.i64_in _ (by omega)
      cases hA : (gt S t).A with
      | none =>
        rw [hA] at c0
        have y0 : y = 0 := by
          rcases Nat.eq_zero_or_pos y with q | q
          · exact q
          · obtain ⟨b', o', e', -⟩ := SS.out.2 q
            rw [hA] at e'; cases e'
        have l0 : yl = [] := List.length_eq_zero_iff.1 (by rw [← SS.out.1]; exact y0)
        subst y0 l0
        obtain ⟨A0, cc0, rfl, -, lc, -⟩ := OO.out.at_
        have O2 := Lib.hid (show OwnI w wo (.slice A0 acc.length cc0) (acc ++ []) by rw [List.append_nil]; exact OO.out)
        have F3 := Lib.hid (show acc ++ [] = flatS (S.take (t + 1)) from F2.out.symm)
        clear SS F2 hA
        rcases A0 with _ | a0
        · go_wp2
          go_roundw
          case rel => exact ⟨_, t + 1, acc ++ [], by omega, rfl, by go_num, O2.out, F3, BO.out⟩
          case measure => simp [intOf]; omega
        · go_wp2
          go_roundw
          case rel => exact ⟨_, t + 1, acc ++ [], by omega, rfl, by go_num, O2.out, F3, BO.out⟩
          case measure => simp [intOf]; omega
      | some ad =>
        rw [hA] at c0 SS
        go_wp2_with (at_builtin; refine append_ints rfl _ _ rfl v acc rfl OO.out BO.out ad y yc yl SS.out rfl f3 ?_)
        intro v4 w4 ow4 hb4
        have OW := Lib.hid ow4
        have B4 := Lib.hid hb4
        have F3 := Lib.hid (show acc ++ yl = flatS (S.take (t + 1)) from F2.out.symm)
        clear ow4 hb4 SS F2 hA
        go_wp2
        go_roundw
        case rel => exact ⟨v4, t + 1, acc ++ yl, by omega, rfl, by go_num, OW.out, F3, B4.out⟩
        case measure => simp [intOf]; omega
    · obtain rfl : n = t := by omega
      have s5 : decide ((n : Int) < n) = false := decide_eq_false (by omega)
      have s55 : decide (n < n) = false := decide_eq_false (by omega)
      have tk : S.take n = S := List.take_of_length_le (by rw [← EN.out]; exact Nat.le_refl _)
      rw [tk] at hacc
      have ha := hacc.out
      subst ha
      obtain ⟨A0, cc0, rfl, ia, -, -⟩ := OO.out.at_
      have SO := Lib.hid (sorted_is wo A0 _ cc0 (flatS S) ia ht)
      clear ia
      go_wp2_with fail
      refine SO.out.mono ?_
      rintro e w2 ⟨v2, rfl, o2, b2⟩
      obtain ⟨A2, c2, rfl, i2, l2, -⟩ := o2.at_
      have RR := Lib.hid (show IntsR w (sortU iltB (flatS S)) (.returned (.slice A2 (sortU iltB (flatS S)).length c2)) w2 from ⟨A2, c2, rfl, i2, l2, BO.out.trans (b2.mono BO.out.size)⟩)
      clear o2 i2 b2
      go_wp2
      go_ret
      exact RR.out
/-- a slice of slices of the call's own, and what lies behind it -/
def slV (s : SlR) : Value := .slice s.A s.k s.c
def InAt (W w : World) (v : Value) (S : List SlR) : Prop :=
  w.ownsRow W.heap.size 53 1 v S.length (S.map slV) ∧ ∀ s ∈ S, IsAt w s.A s.k s.l ∧ s.k ≤ s.c ∧ ∀ g o, s.A = some ⟨g, o, none⟩ → g < w.heap.size ∧ v.ownBlock ≠ some g
theorem InAt.nil (W w : World) : InAt W w (.slice none 0 0) [] := ⟨World.ownsRow_nil _ _ _ _, fun s hs => by cases hs⟩
theorem InAt.below {W w w' : World} {v : Value} {S : List SlR} (h : InAt W w v S) (hb : Below w.heap.size w w') : InAt W w' v S :=
  ⟨row_on h.1 hb, fun s hs => by
    obtain ⟨a, b, c⟩ := h.2 s hs
    exact ⟨a.below hb, b, fun g o e => ⟨Nat.lt_of_lt_of_le (c g o e).1 hb.size, (c g o e).2⟩⟩⟩
theorem InAt.ls {W w : World} {v : Value} {S : List SlR} (h : InAt W w v S) : ∃ B c, v = .slice B S.length c ∧ LsAt w B S.length S := by
  rcases h.1.2 with ⟨rfl, h0⟩ | ⟨g, cap, cur, rfl, hb, hg, hnc, hcm, -⟩
  · exact ⟨none, 0, by rw [h0], rfl, fun hp => by omega⟩
  · refine ⟨some ⟨g, 0, none⟩, cap, rfl, rfl, fun h0 => ⟨g, 0, rfl, (World.ownsRow.lt h.1 g rfl).2, fun j hj => ?_⟩⟩
    obtain ⟨a, b, -⟩ := h.2 _ (gt_mem hj)
    refine ⟨?_, a, b⟩
    rw [Nat.zero_add, World.ownsRow.cellAt h.1 j (by omega), gt_lt hj]
    simp [hj, slV]
theorem info_sl : (Try.prog.info? 53).map (fun i => (i.zero, i.size, i.bytes)) = some (some (.slice none 0 0), 1, 24) := by kernel_rfl
/-- append of one slice -/
theorem append_sl {ops : Array Oper} {rest : List Oper} {o : Oper} {a : Act} {Q : Exit → Act → World → Prop} {W w : World} (hgd : o.guard = none) (s x : Operand)
    (ho : o.op = .call { callee := .builtin .append, args := #[s, x], argTypes := #[78, 78] })
    (v : Value) (S : List SlR) (hs : a.eval s = v) (hown : InAt W w v S) (hat : Below W.heap.size W w) (y : SlR) (c : Nat) (hx : a.eval x = .slice (some ⟨w.heap.size, 0, none⟩) 1 c) (hl : S.length ≤ 100000)
    (hy : IsAt w y.A y.k y.l ∧ y.k ≤ y.c ∧ ∀ g o, y.A = some ⟨g, o, none⟩ → g < w.heap.size ∧ v.ownBlock ≠ some g)
    (h : ∀ v' w', InAt W w' v' (S ++ [y]) → Below W.heap.size W w' → wpList Try.prog ops Q rest (a.put o.dst v') w') : wpList Try.prog ops Q (o :: rest) a (w.alloc (.cells #[slV y] 53)) := by
  obtain ⟨i0, hi, hz0, hz1, hz2⟩ := info_parts info_sl
  have ba := below_alloc w (.cells #[slV y] 53)
  have hat1 : Below W.heap.size W (w.alloc (.cells #[slV y] 53)) := hat.trans (ba.mono hat.size)
  refine wpList_append_lies _ hgd s x 78 ho W.heap.size 53 i0 _ 1 24 Try.underlying78 hi hz0 hz1 hz2 rfl (by decide) v S.length (S.map slV) hs (World.ownsRow.alloc hown.1 _)
    ⟨w.heap.size, 0, none⟩ 1 c [slV y] hx rfl (newcellsQ w #[slV y] 53) (fun u hu => (List.mem_singleton.1 hu) ▸ rfl) (by omega) (by unfold maxLen; omega) (by omega) hat1.size _ rfl ?_
  intro g cap w2 ho2 hg2 hb2 hl2
  have K : Kp (fun k => v.ownBlock = some k) (w.alloc (.cells #[slV y] 53)) w2 := Kp.grown hg2 fun k hk => hk
  refine h _ w2 ⟨by rw [List.length_append, List.map_append]; exact ho2, fun s hs => ?_⟩ (hat1.trans ((Below.refl _ _).grown hg2 hat1.size fun _ hk => (World.ownsRow.lt hown.1 _ hk).1))
  have each : IsAt w s.A s.k s.l ∧ s.k ≤ s.c ∧ ∀ g o, s.A = some ⟨g, o, none⟩ → g < w.heap.size ∧ v.ownBlock ≠ some g := by
    rcases List.mem_append.1 hs with hs | hs
    · exact hown.2 s hs
    · obtain rfl := List.mem_singleton.1 hs
      exact hy
  obtain ⟨e1, e2, e3⟩ := each
  refine ⟨(e1.below ba).kp K fun h0 ad ea q => ?_, e2, fun g' o' ea => ?_⟩
  · obtain ⟨b', o', eb, -⟩ := e1.2 h0
    rw [eb] at ea
    injection ea with ea
    subst ea
    exact (e3 b' o' eb).2 q
  · have := e3 g' o' ea
    have sz := K.size
    have sa := ba.size
    refine ⟨by omega, fun q => ?_⟩
    have qg : g = g' := by simpa [Value.ownBlock] using q
    subst qg
    rcases hb2 with hb2 | hb2
    · exact this.2 hb2
    · simp at hb2; omega
end Go.Proofs.Ytjodhfehfpmfaaa.Ti
