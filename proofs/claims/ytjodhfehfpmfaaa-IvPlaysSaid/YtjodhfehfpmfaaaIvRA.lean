/- vokref10.Set: Add. -/
import Derived.Test.YtjodhfehfpmfaaaIvRP
import Derived.Test.YtjodhfehfpmfaaaIvRK
set_option linter.unusedVariables false
namespace Go.Proofs.Ytjodhfehfpmfaaa.Iv
open Go.RowKit

/-- what has been put -/
structure Putn (all : List Tg) (sp : List (Int × Int)) (owner : Int) (t : Nat) (cur : List Tg) : Prop where
  mem : ∀ y, y ∈ cur ↔ y ∈ all ∨ (y.1 ∈ sp.take t ∧ y.2 = owner)
  rise : cur.Pairwise fun a b => a.1.1 < b.1.1
  len : cur.length = all.length + t
theorem Putn.zero {all : List Tg} {sp : List (Int × Int)} {owner : Int} {ow : List Int} (h : SetOk all ow) : Putn all sp owner 0 all := ⟨fun y => by simp, h.rises, rfl⟩
theorem Putn.step {all : List Tg} {sp : List (Int × Int)} {owner : Int} {ow : List Int} {t k : Nat} {cur : List Tg} (h : Putn all sp owner t cur) (ok : SetOk all ow) (hn : Norms sp) (f : Free sp all) (ht : t < sp.length) (hk : k ≤ cur.length)
    (hi : ∀ j, k ≤ j → j < cur.length → (gt sp t).1 < (gt cur j).1.1) (lo : ∀ j, j + 1 = k → (gt cur j).1.1 ≤ (gt sp t).1) : Putn all sp owner (t + 1) (insT (gt sp t, owner) cur k) := by
  have gm : gt sp t ∈ sp := gt_mem ht
  have ne : ∀ y ∈ cur, y.1.1 ≠ (gt sp t).1 := fun y hy => by
    rcases (h.mem y).1 hy with q | ⟨q, -⟩
    · exact free_ne ok hn f q gm
    · obtain ⟨i, hil, ei⟩ := List.getElem_of_mem q
      rw [List.length_take] at hil
      rw [List.getElem_take] at ei
      have := List.pairwise_iff_getElem.1 (norms_rise hn) i t (by omega) ht (by omega)
      rw [gt_lt ht, ← ei]
      omega
  have hr := h.rise
  have hm := h.mem
  have hl := h.len
  generalize hx : gt sp t = x at *
  have t1 : ∀ a ∈ cur.take k, a.1.1 < x.1 := fun a ha => by
    obtain ⟨i, hil, ei⟩ := List.getElem_of_mem ha
    rw [List.length_take] at hil
    obtain ⟨j, rfl⟩ : ∃ j, k = j + 1 := ⟨k - 1, by omega⟩
    have lj := lo j rfl
    have nj := ne (gt cur j) (gt_mem (by omega))
    rw [gt_lt (by omega)] at lj nj
    rw [List.getElem_take] at ei
    subst ei
    rcases Nat.lt_or_ge i j with q | q
    · have := List.pairwise_iff_getElem.1 hr i j (by omega) (by omega) q
      omega
    · obtain rfl : i = j := by omega
      omega
  have t2 : ∀ a ∈ cur.drop k, x.1 < a.1.1 := fun a ha => by
    obtain ⟨i, hil, ei⟩ := List.getElem_of_mem ha
    rw [List.length_drop] at hil
    rw [List.getElem_drop] at ei
    subst ei
    have := hi (k + i) (by omega) (by omega)
    rwa [gt_lt (by omega)] at this
  refine ⟨fun y => ?_, ?_, ?_⟩
  · unfold insT
    have e2 : sp.take (t + 1) = sp.take t ++ [x] := by rw [List.take_succ_eq_append_getElem ht, ← hx, gt_lt ht]
    rw [e2]
    have e3 : y ∈ cur ↔ y ∈ cur.take k ∨ y ∈ cur.drop k := by
      conv => lhs; rw [← List.take_append_drop k cur]
      rw [List.mem_append]
    rw [List.mem_append, List.mem_cons, List.mem_append, List.mem_singleton]
    have m := hm y
    rw [e3] at m
    constructor
    · rintro (q | q | q)
      · rcases m.1 (.inl q) with z | z
        · exact .inl z
        · exact .inr ⟨.inl z.1, z.2⟩
      · subst q; exact .inr ⟨.inr rfl, rfl⟩
      · rcases m.1 (.inr q) with z | z
        · exact .inl z
        · exact .inr ⟨.inl z.1, z.2⟩
    · rintro (q | ⟨q | q, z⟩)
      · exact (m.2 (.inl q)).imp_right .inr
      · exact (m.2 (.inr ⟨q, z⟩)).imp_right .inr
      · exact .inr (.inl (Prod.ext q z))
  · unfold insT
    rw [List.pairwise_append, List.pairwise_cons]
    refine ⟨hr.sublist (List.take_sublist _ _), ⟨t2, hr.sublist (List.drop_sublist _ _)⟩, fun a ha b hb => ?_⟩
    rcases List.mem_cons.1 hb with rfl | hb
    · exact t1 a ha
    · have := t1 a ha; have := t2 b hb; omega
  · rw [insT_len _ _ _ hk]; omega
theorem Putn.done {all cur : List Tg} {sp : List (Int × Int)} {owner : Int} {ow : List Int} (h : Putn all sp owner sp.length cur) (ok : SetOk all ow) (hn : Norms sp) (f : Free sp all) : cur = addL sp owner all := by
  refine add_of ok hn f h.rise fun x => ?_
  have := h.mem x
  rwa [List.take_length] at this
set_option maxRecDepth 100000 in
set_option maxHeartbeats 8000000 in
/-- Add -/
theorem radd_is {G : Nat → Prop} (w : World) (r : Nat) (all : List Tg) (ow : List Int) (B : Option Addr) (n c : Nat) (l : List (Int × Int)) (owner : Int) (R : RefIn G w r all) (ok : SetOk all ow) (hG : ∀ k, w.heap.size ≤ k → G k) (hB : SpAt w B n l) (ha : all.length + n ≤ 90000) :
    Calls Try.prog 19 #[.pointer (some ⟨r, 0, none⟩), .slice B n c, .int .i64 owner] w fun e w' => e = .returned (.bool (addB (normL l) owner all ow)) ∧ RefIn G w' r (addR (normL l) owner all ow).1 ∧ Kp (· = r) w w' := by
  have RH := Lib.hid R
  have OK := Lib.hid ok
  have GG := Lib.hid hG
  have HB := Lib.hid hB
  have NS := Lib.hid (norm_is l).norms
  have NL := Lib.hid (norm_len l)
  have LN := Lib.hid hB.1
  have rl : r < w.heap.size := by obtain ⟨A, cc, h⟩ := R; exact h.box.lt
  clear R ok hG hB
  have no : ∀ (e : Ending) (w2 : World), addB (normL l) owner all ow = false → e = .returned (.bool false) → Below w.heap.size w w2 → e = .returned (.bool (addB (normL l) owner all ow)) ∧ RefIn G w2 r (addR (normL l) owner all ow).1 ∧ Kp (· = r) w w2 := by
    intro e w2 h he hb
    refine ⟨by rw [he, h], ?_, Kp.of hb⟩
    rw [addR_no h]
    exact RH.out.below hb
  have NO := Lib.hid no
  clear no
  go_enter Try.func19, Try.ntmps19
  by_cases o1 : owner < 1
  · have s1 : decide (owner < 1) = true := decide_eq_true o1
    have F := Lib.hid (addB_low (sp := normL l) (all := all) (ow := ow) (owner := owner) (.inl (by omega)))
    go_wp2_with fail
    go_ret
    exact NO.out _ _ F.out rfl (Below.refl _ _)
  have s1 : decide (owner < 1) = false := decide_eq_false o1
  go_wp2_with fail
  refine (rhas_is w r all owner RH.out (by omega)).mono ?_
  rintro e w1 ⟨rfl, b1⟩
  have B1 := Lib.hid b1
  clear b1
  rw [has_ow OK.out]
  by_cases o2 : owner ∈ ow
  · have F := Lib.hid (addB_low (sp := normL l) (all := all) (.inr o2))
    rw [decide_eq_true o2]
    clear o2
    go_wp2_with fail
    go_ret
    exact NO.out _ _ F.out rfl B1.out
  rw [decide_eq_false o2]
  have O2 := Lib.hid o2
  clear o2
  go_wp2_with fail
  refine (rclash_is w1 r all B n c l 0 (RH.out.below B1.out) (HB.out.below B1.out) (by omega) (by omega)).mono ?_
  rintro e w2 ⟨rfl, b2⟩
  have B2 := Lib.hid (B1.out.trans (b2.mono B1.out.size))
  clear b2
  cases hcl : clashL 0 (normL l) all with
  | some t =>
    have F := Lib.hid (show addB (normL l) owner all ow = false by unfold addB; rw [hcl]; simp)
    clear hcl
    unfold tgV
    go_wp2_with fail
    go_ret
    exact NO.out _ _ F.out rfl (B2.out.alloc B2.out.size _)
  | none =>
    have YES := Lib.hid (show addB (normL l) owner all ow = true by unfold addB; rw [hcl, decide_eq_true (show (1 : Int) ≤ owner by omega), decide_eq_true O2.out]; rfl)
    have FR := Lib.hid (free_of OK.out hcl)
    clear hcl NO
    unfold tgV
    go_wp2_with fail
    have b3 := below_alloc w2 (.cells #[.int .i64 0, .int .i64 0, .int .i64 0] 45)
    have B3 := Lib.hid (B2.out.trans (b3.mono B2.out.size))
    generalize w2.alloc (.cells #[.int .i64 0, .int .i64 0, .int .i64 0] 45) = w3 at *
    clear b3
    refine (refnorm_is w3 B n c l (HB.out.below B3.out) (by omega)).mono ?_
    rintro e w4 ⟨A4, c4, rfl, P4, N4, -, b4⟩
    have B4 := Lib.hid (B3.out.trans (b4.mono B3.out.size))
    have PH := Lib.hid P4
    have NH := Lib.hid N4
    have sz3 := B3.out.size
    clear P4 N4 b4
    generalize hsp : normL l = sp at *
    have HSP := Lib.hid hsp
    clear hsp
    generalize hm : sp.length = m at *
    have HM := Lib.hid hm
    have mb := NL.out
    have lb := LN.out
    clear hm
    have OFF : Hid (Off (· = r) A4 m) := Lib.hid (fun h a e => by
      obtain ⟨g, eg, hg⟩ := NH.out h
      rw [eg] at e
      injection e with e
      subst e
      simp only
      omega)
    go_wp2_with fail
    go_loopw [10] (fun i wr => ∃ (t : Nat) (cur : List Tg), i = .int .i64 t ∧ t ≤ m ∧ Putn all sp owner t cur ∧ RefIn G wr r cur ∧ Kp (· = r) w4 wr) (fun i _ => m - (intOf i).toNat)
    case atStart => exact ⟨0, all, rfl, Nat.zero_le _, Putn.zero OK.out, RH.out.below B4.out, Kp.refl _ _⟩
    case round =>
      obtain ⟨wo, rfl⟩ : ∃ wo : World, wo = wr := ⟨_, rfl⟩
      obtain ⟨t, cur, rfl, ht, hP, hR, hK⟩ := hrel
      have PN := Lib.hid hP
      have RO := Lib.hid hR
      have KO := Lib.hid hK
      have PO := Lib.hid (PH.out.kp hK OFF.out)
      have szo := hK.size
      have sz4 := B4.out.size
      have lc := hP.len
      clear hP hR hK
      by_cases hlt : t < m
      · obtain ⟨b1, o1', rfl, hl1, hc1⟩ := PO.out.2 (by omega)
        obtain ⟨c0, c1⟩ := hc1 t hlt
        have i5 : (t : Int) < m := by omega
        have s5 : decide ((t : Int) < m) = true := decide_eq_true (by omega)
        have s55 : decide (t < m) = true := decide_eq_true hlt
        have W1 : IntKind.i64.wrap ((t : Int) + 1) = (t : Int) + 1 := IntWalk.i64_in _ (by omega)
        have ST := Lib.hid (fun (k : Nat) hk hi lo => PN.out.step (k := k) OK.out NS.out FR.out (by rw [HM.out]; exact hlt) hk hi lo)
        clear hc1
        generalize gt sp t = x at *
        go_wp2_with fail
        refine (rput_is wo r cur (x, owner) RO.out (fun k h => GG.out k (by omega)) (by omega)).mono ?_
        rintro e w5 ⟨rfl, k, hk, hi, lo, R5, K5⟩
        have S5 := Lib.hid (ST.out k hk hi lo)
        have R5H := Lib.hid R5
        have K5H := Lib.hid (KO.out.trans K5)
        clear R5 K5 hk hi lo
        go_wp2_with fail
        go_roundw
        case rel => exact ⟨t + 1, _, by go_num, by omega, S5.out, R5H.out, K5H.out⟩
        case measure => simp [intOf]; omega
      · obtain rfl : m = t := by omega
        have s5 : decide ((m : Int) < m) = false := decide_eq_false (by omega)
        have s55 : decide (m < m) = false := decide_eq_false (by omega)
        have E := Lib.hid (show cur = addL sp owner all from by
          have := PN.out
          rw [← HM.out] at this
          exact this.done OK.out NS.out FR.out)
        go_wp2_with fail
        go_ret
        refine ⟨by rw [HSP.out, YES.out]; rfl, ?_, (Kp.of B4.out).trans KO.out⟩
        rw [HSP.out, addR_yes YES.out, ← E.out]
        exact RO.out
end Go.Proofs.Ytjodhfehfpmfaaa.Iv
