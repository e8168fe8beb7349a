/- slices.DeleteFunc at spans: what stays, in front; the cells behind it hold nothing that is asked. -/
import Derived.Test.YtjodhfehfpmfaaaIvRow
import Derived.Test.YtjodhfehfpmfaaaShelf
import Derived.Shelf.SlicesE.DeleteFunc
set_option linter.unusedVariables false
namespace Go.Proofs.Ytjodhfehfpmfaaa.Iv
open Go.RowKit

theorem zeroS (n : Nat) : ∀ u ∈ (Builtin.zeroCells (Value.cells (.agg #[.int .i64 0, .int .i64 0])) n).toList, u.oneCell' = true := by
  intro u hu
  unfold Builtin.zeroCells at hu
  rw [Array.toList_map, List.mem_map] at hu
  obtain ⟨i, -, rfl⟩ := hu
  have h : i % (Value.cells (.agg #[.int .i64 0, .int .i64 0])).size < 2 := Nat.mod_lt _ (by decide)
  generalize i % (Value.cells (.agg #[.int .i64 0, .int .i64 0])).size = j at h
  match j, h with
  | 0, _ => rfl
  | 1, _ => rfl
set_option maxRecDepth 100000 in
set_option maxHeartbeats 4000000 in
theorem delS_is (w : World) (g n cap : Nat) (l : List (Int × Int)) (p : (Int × Int) → Bool) (F : Nat) (lb : Array Value) (eg : ∀ args w, (callFunc F args).run Try.prog w = .ok (.enter F args) w)
    (hr : RowIs w g 40 2 cap (cellsL encS l)) (hn : n = l.length) (hc : n ≤ cap) (hl : n ≤ 1000000)
    (hp : ∀ W x, Kp (· = g) w W → Calls Try.prog F (#[.agg (encS x).toArray] ++ lb) W fun e w' => e = .returned (.bool (p x)) ∧ Below W.heap.size W w') :
    Calls Try.prog 51 #[.slice (some ⟨g, 0, none⟩) n cap, .func (.func F) #[] lb] w fun e w' => e = .returned (.slice (some ⟨g, 0, none⟩) (l.filter fun x => !p x).length cap) ∧ RowIs w' g 40 2 cap (cellsL encS (l.filter fun x => !p x)) ∧ Kp (· = g) w w' := by
  have KK : ∀ x, (encS x).length = 2 := fun _ => rfl
  have hIF := Try.slices_IndexFunc_f83 2 Try.isAgg40 Try.sizeOf40 encS (fun _ => rfl) p F lb eg g 0 n cap l w
    (fun W x hb => (hp W x (Kp.of hb)).mono fun _ _ ⟨he, hb'⟩ => ⟨he, hb.trans (hb'.mono hb.size)⟩) (by omega) (by omega) hr.lt (fun j hj i v hi => by
      have hik : i < 2 := by have := (List.getElem?_eq_some_iff.1 hi).1; rwa [KK] at this
      have := cells_get KK l j i hj hik
      rw [Nat.zero_add]
      refine hr.cell (this.trans ?_)
      rw [gt_lt hj]
      rwa [getElem!_pos l j hj] at hi)
  rw [show l.take n = l from List.take_of_length_le (by omega)] at hIF
  have LL := Lib.hid hn
  have HP := Lib.hid hp
  have HR := Lib.hid hr
  clear hn hp hr
  rcases idxByFrom_spec (fun _ y => p y) default l 0 with ⟨e1, hall⟩ | ⟨k0, hk0, e1, ht, hall⟩
  · have e2 : Lib.idxBy (fun _ y => p y) l default = -1 := e1
    rw [e2] at hIF
    have FL := Lib.hid (show (l.filter fun x => !p x) = l by
      rw [List.filter_eq_self]
      intro x hx
      obtain ⟨j, hj, rfl⟩ := List.mem_iff_getElem.1 hx
      have := hall j hj
      rw [getElem!_pos l j hj] at this
      rw [this]; rfl)
    clear hall e1 e2
    go_enter Try.func51, Try.ntmps51
    go_wp2_with (go_at_call 83; refine hIF.mono ?_; rintro e w' ⟨rfl, hb⟩)
    go_ret
    rw [FL.out, ← LL.out]
    exact ⟨rfl, HR.out.below hb, Kp.of hb⟩
  · have e2 : Lib.idxBy (fun _ y => p y) l default = (k0 : Int) := by unfold Lib.idxBy; rw [e1]; simp
    rw [e2] at hIF
    have hk1 : k0 < n := by rw [LL.out]; exact hk0
    have ST0 := Lib.hid (show l.take k0 = (l.take (k0 + 1)).filter fun x => !p x by
      rw [List.take_succ_eq_append_getElem hk0, List.filter_append]
      have a : (l.take k0).filter (fun x => !p x) = l.take k0 := by
        rw [List.filter_eq_self]
        intro x hx
        obtain ⟨j, hj, rfl⟩ := List.mem_iff_getElem.1 hx
        have hj2 : j < k0 := by rw [List.length_take] at hj; omega
        have := hall j hj2
        rw [getElem!_pos l j (by omega)] at this
        rw [List.getElem_take, this]; rfl
      have b : p l[k0] = true := by rw [getElem!_pos l k0 hk0] at ht; exact ht
      rw [a]
      simp [b])
    have STEP := Lib.hid (fun (t : Nat) (h : t < n) => show (l.take (t + 1)).filter (fun x => !p x) = (l.take t).filter (fun x => !p x) ++ (if p (gt l t) = true then [] else [gt l t]) by
      have h' : t < l.length := by rw [← LL.out]; exact h
      rw [List.take_succ_eq_append_getElem h', List.filter_append, gt_lt h']
      congr 1
      cases c : p l[t] <;> simp [c])
    have ne1 : ((k0 : Int) == -1) = false := beq_eq_false_iff_ne.2 (by omega)
    clear hall ht e1 e2
    go_enter Try.func51, Try.ntmps51
    go_wp2_with (go_at_call 83; refine hIF.mono ?_; rintro e w' ⟨rfl, hb⟩)
    have R0 := Lib.hid (HR.out.below hb)
    have K0 := Lib.hid (Kp.of (F := (· = g)) hb)
    clear hb hIF
    go_loopw [5, 6, 7] (fun i j _ wr => ∃ (m t : Nat) (X : List (Int × Int)), i = .int .i64 m ∧ j = .int .i64 t ∧ m < t ∧ t ≤ n ∧ X.length = n ∧ Hid (X.take m = (l.take t).filter fun x => !p x) ∧ Hid (X.drop t = l.drop t) ∧ Hid (RowIs wr g 40 2 cap (cellsL encS X)) ∧ Hid (Kp (· = g) w wr)) (fun _ j _ _ => n - (intOf j).toNat)
    case atStart => exact ⟨k0, k0 + 1, l, rfl, by go_num, by omega, by omega, LL.out.symm, ST0, Lib.hid rfl, R0, K0⟩
    case round =>
      obtain ⟨wo, rfl⟩ : ∃ wo : World, wo = wr := ⟨_, rfl⟩
      obtain ⟨m, t, X, rfl, rfl, hmt, ht, XL, A, B, R, K⟩ := hrel
      clear R0 K0
      have XLH := Lib.hid XL
      by_cases hlt : t < n
      · have hXt : t < X.length := by omega
        have ex : gt X t = gt l t := by
          have h' : t < l.length := by rw [← LL.out]; exact hlt
          have a := congrArg (fun z : List (Int × Int) => z[0]?) B.out
          simp only [List.getElem?_drop, Nat.add_zero] at a
          unfold gt; rw [a]
        have c0 : wo.cell? ⟨g, t * 2, none⟩ = some (.int .i64 (gt l t).1) := R.out.cell ((cells_get KK X t 0 hXt (by omega)).trans (by rw [ex]; rfl))
        have c1 : wo.cell? ⟨g, t * 2 + 1, none⟩ = some (.int .i64 (gt l t).2) := R.out.cell ((cells_get KK X t 1 hXt (by omega)).trans (by rw [ex]; rfl))
        have ga := R.out.lt
        have STP := Lib.hid (STEP.out t hlt)
        have hcall := HP.out
        have s0 : decide ((t : Int) < n) = true := decide_eq_true (by omega)
        have s00 : decide (t < n) = true := decide_eq_true hlt
        have i1 : (t : Int) < n := by omega
        have i2 : (m : Int) < n := by omega
        have i3 : m < n := by omega
        have B2 := Lib.hid (show X.drop (t + 1) = l.drop (t + 1) by
          have := congrArg (List.drop 1) B.out
          simpa [List.drop_drop] using this)
        have PU := fun W h => HP.out W (gt l t) h
        clear hcall HP XL hXt
        generalize gt l t = u at *
        cases hq : p u with
        | true =>
          rw [hq] at STP
          have A2 := Lib.hid (show X.take m = (l.take (t + 1)).filter (fun x => !p x) by rw [STP.out, A.out]; simp)
          have PU2 := Lib.hid PU
          clear PU STP
          go_wp2_with (go_at_fn F; refine (PU2.out _ (K.out.trans (Kp.of (below_alloc _ _)))).mono ?_; rintro e w' ⟨rfl, hb⟩; rw [hq] at *)
          have hb2 := (below_alloc _ _).trans (hb.mono (by simp))
          have R2 := Lib.hid (R.out.below hb2)
          have K2 := Lib.hid (K.out.trans (Kp.of hb2))
          clear hb hb2 R K
          go_wp2
          go_roundw
          case rel => exact ⟨m, t + 1, X, rfl, by go_num, by omega, by omega, XLH.out, A2, B2, R2, K2⟩
          case measure => simp [intOf]; omega
        | false =>
          rw [hq] at STP
          have XL2 := XLH.out
          have A2 := Lib.hid (show (X.set m u).take (m + 1) = (l.take (t + 1)).filter (fun x => !p x) by rw [STP.out, take_set_succ X m u (by omega), A.out]; simp)
          have B3 := Lib.hid (show (X.set m u).drop (t + 1) = l.drop (t + 1) by rw [drop_set_lt _ _ _ _ (by omega), B2.out])
          have XL3 := Lib.hid (show (X.set m u).length = n by rw [List.length_set]; exact XL2)
          have PU2 := Lib.hid PU
          have MX := Lib.hid (show m < X.length by omega)
          clear PU STP XL2
          go_wp2_with (go_at_fn F; refine (PU2.out _ (K.out.trans (Kp.of (below_alloc _ _)))).mono ?_; rintro e w' ⟨rfl, hb⟩; rw [hq] at *; have hb2 := (below_alloc _ _).trans (hb.mono (by simp)); have R2 := Lib.hid (R.out.below hb2); have K2 := Lib.hid (K.out.trans (Kp.of hb2)); have RS := Lib.hid (R2.out.setS m MX.out u); have d0 : w'.cell? ⟨g, m * 2, none⟩ = some ((cellsL encS X)[m * 2]'(by rw [cells_len KK]; have := MX.out; omega)) := R2.out.cell (by rw [List.getElem?_eq_getElem]); have f0 := R2.out.frozen (m * 2); have b0 : w'.cell? ⟨wo.heap.size, 0, none⟩ = some (.int .i64 u.1) := (hb.cell (p := ⟨wo.heap.size, 0, none⟩) (by simp)).trans (by simp); have d1 : w'.cell? ⟨g, m * 2 + 1, none⟩ = some ((cellsL encS X)[m * 2 + 1]'(by rw [cells_len KK]; have := MX.out; omega)) := R2.out.cell (by rw [List.getElem?_eq_getElem]); have f1 := R2.out.frozen (m * 2 + 1); have b1 : w'.cell? ⟨wo.heap.size, 1, none⟩ = some (.int .i64 u.2) := (hb.cell (p := ⟨wo.heap.size, 1, none⟩) (by simp)).trans (by simp); have lg := R2.out.lt; clear hb hb2 R K R2 PU2)
          go_roundw
          case rel => exact ⟨m + 1, t + 1, X.set m u, by go_num, by go_num, by omega, by omega, XL3.out, A2, B3, Lib.hid RS.out.1, Lib.hid (K2.out.trans RS.out.2)⟩
          case measure => simp [intOf]; omega
      · obtain rfl : n = t := by omega
        have FL := Lib.hid (show X.take m = l.filter fun x => !p x by rw [A.out, List.take_of_length_le (by rw [← LL.out]; exact Nat.le_refl _)])
        have ML := Lib.hid (show (l.filter fun x => !p x).length = m by rw [← FL.out, List.length_take]; omega)
        obtain ⟨w2, hcl, R2, K2⟩ := R.out.clear (P := Try.prog) 22 (.agg #[.int .i64 0, .int .i64 0]) Try.underlying22 Try.zeroValue40 (m * 2) (n - m) (cap - m) (by omega) rfl (by rw [cells_len KK, XL]; omega) (zeroS _)
        have R3 := Lib.hid (show RowIs w2 g 40 2 cap (cellsL encS (l.filter fun x => !p x)) by
          have := R2.cut (m * 2)
          rwa [splice_take _ _ _ (by rw [cells_len KK, XL]; omega), cells_take KK, FL.out] at this)
        have K3 := Lib.hid (K.out.trans K2)
        have s0 : decide ((n : Int) < n) = false := decide_eq_false (by omega)
        have s00 : decide (n < n) = false := decide_eq_false (by omega)
        have j1 : m ≤ n := by omega
        have j2 : (m : Int) ≤ n := by omega
        have j3 : ¬ cap - m = 0 := by omega
        have j4 : ¬ cap = m := by omega
        have j5 : ¬ m = cap := by omega
        have j6 : m ≤ cap := by omega
        have j7 : (m : Int) ≤ cap := by omega
        clear R2 K2 R K A B FL
        go_wp2
        go_ret
        rw [ML.out]
        exact ⟨rfl, R3.out, K3.out⟩
end Go.Proofs.Ytjodhfehfpmfaaa.Iv
