/- Boxes: Copy, First; vokref.Ints, vokref.CopyInts; voklaw12.first. -/
import Derived.Test.YthonmfoajjhkdaaBxL
import Derived.Laws.AppendOwnNone
set_option linter.unusedVariables false
namespace Go.Proofs.Ythonmfoajjhkdaa.Bx
open Go.Conc Go.RowKit Iv

set_option maxRecDepth 100000 in
set_option maxHeartbeats 4000000 in
theorem ints_same (w : World) (A B : Option Addr) (n c d : Nat) (l : List Int) (hl : IsAt w A n l) (hk : IsAt w B n l) (h1 : n ≤ 9223372036854775807) :
    Calls Try.prog 16 #[.slice A n c, .slice B n d] w fun e w' => e = .returned (.bool true) ∧ Below w.heap.size w w' := by
  have HL := Lib.hid hl
  have HK := Lib.hid hk
  clear hl hk
  go_enter Try.func16, Try.ntmps16
  go_wp2
  go_loopw [5] (fun i wr => ∃ t : Nat, i = .int .i64 t ∧ t ≤ n ∧ Below w.heap.size w wr) (fun i _ => n - (intOf i).toNat)
  case atStart => exact ⟨0, rfl, Nat.zero_le _, Below.refl _ _⟩
  case round =>
    obtain ⟨wo, rfl⟩ : ∃ wo : World, wo = wr := ⟨_, rfl⟩
    obtain ⟨t, rfl, ht, hB⟩ := hrel
    by_cases hlt : t < n
    · obtain ⟨b1, o1, rfl, hl1, hc1⟩ := HL.out.2 (by omega)
      obtain ⟨b2, o2, rfl, hl2, hc2⟩ := HK.out.2 (by omega)
      have c0 := (hB.cell (p := ⟨b1, _, none⟩) hl1).trans (hc1 t hlt)
      have d0 := (hB.cell (p := ⟨b2, _, none⟩) hl2).trans (hc2 t hlt)
      clear hc1 hc2
      generalize gt l t = x at *
      have i5 : (t : Int) < n := by omega
      have s0 : decide ((t : Int) < n) = true := decide_eq_true (by omega)
      have s00 : decide (t < n) = true := decide_eq_true hlt
      have W2 : IntKind.i64.wrap ((t : Int) + 1) = (t : Int) + 1 := IntWalk.i64_in _ (by omega)
      go_wp2
      go_big_quiet (fail)
      go_wp2
      go_roundw
      case rel => exact ⟨t + 1, by go_num, by omega, hB.trans (below_drewN _ _ _)⟩
      case measure => simp [intOf]; omega
    · obtain rfl : n = t := by omega
      have s0 : decide ((n : Int) < n) = false := decide_eq_false (by omega)
      have s00 : decide (n < n) = false := decide_eq_false (by omega)
      go_wp2
      go_ret
      exact ⟨rfl, hB⟩
theorem lit_none (w : World) (e : TypeId) (k : Nat) : (w.alloc (.cells #[] e)).ownsRow w.heap.size e k (.slice (some ⟨w.heap.size, 0, none⟩) 0 0) 0 [] :=
  World.ownsRow_lit (base := w.heap.size) (e := e) (size := k) w #[] 0 (Nat.le_refl _) (by decide) (by simp)
def CopyI (w : World) (l : List Int) (e : Ending) (w' : World) : Prop := ∃ v, e = .returned v ∧ OwnN w.heap.size w' v l ∧ Below w.heap.size w w'
set_option maxHeartbeats 2000000 in
/-- vokref.CopyInts -/
theorem copyI_is (w : World) (A : Option Addr) (n c : Nat) (l : List Int) (h : IsAt w A n l) (hn : n ≤ 1000000) (hz : A = none → c = 0) : Calls Try.prog 20 #[.slice A n c] w (CopyI w l) := by
  have LIT := Lib.hid (lit_none w 3 1)
  obtain ⟨i0, hi, hz0, hz1, hz2⟩ := info_parts info_int
  cases A with
  | none =>
    obtain rfl : n = 0 := by
      rcases Nat.eq_zero_or_pos n with z | z
      · exact z
      · obtain ⟨b, off, e, -⟩ := h.2 z; cases e
    obtain rfl : c = 0 := hz rfl
    have e0 : l = [] := List.length_eq_zero_iff.1 h.1.symm
    subst e0
    clear h hz
    go_enter Try.func20, Try.ntmps20
    go_wp2_with (at_builtin; refine wpList_append_own_none rfl _ _ 29 rfl w.heap.size 3 i0 1 Try.underlying29 hi _ 0 [] rfl LIT.out rfl ?_)
    go_wp2
    go_ret
    exact ⟨_, rfl, LIT.out, below_alloc _ _⟩
  | some ad =>
    obtain ⟨b, off, sp⟩ := ad
    have LEN := Lib.hid (show (l.map (Value.int .i64)).length = n * 1 by rw [List.length_map, h.1]; omega)
    have ONE := Lib.hid (fun u (q : u ∈ l.map (Value.int .i64)) => show u.oneCell' = true by obtain ⟨z, -, rfl⟩ := List.mem_map.1 q; rfl)
    have GET := Lib.hid (fun j u (q : (l.map (Value.int .i64))[j]? = some u) => show (w.alloc (.cells #[] 3)).cell? ((⟨b, off, sp⟩ : Addr).add j) = some u by
      have hj : j < l.length := by have := (List.getElem?_eq_some_iff.1 q).1; simpa using this
      obtain ⟨b', off', e, hb, hc⟩ := h.2 (by rw [h.1]; omega)
      cases e
      have z := hc j (by rw [h.1]; exact hj)
      rw [gt_lt hj] at z
      rw [List.getElem?_map, List.getElem?_eq_getElem hj] at q
      obtain rfl : Value.int .i64 l[j] = u := by simpa using q
      rw [addr_off]
      exact ((below_alloc w _).cell (p := ⟨b, off + j, none⟩) hb).trans z)
    have HL := Lib.hid h.1
    have SZ := Lib.hid (show 0 + n ≤ maxLen by unfold maxLen; omega)
    clear h hz
    go_enter Try.func20, Try.ntmps20
    go_wp2_with (at_builtin; refine wpList_append_own _ rfl _ _ 29 rfl w.heap.size 3 i0 (.int .i64 0) 1 8 Try.underlying29 hi hz0 hz1 hz2 rfl (by decide) _ 0 [] rfl LIT.out ⟨b, off, sp⟩ n c (l.map (Value.int .i64)) rfl LEN.out GET.out ONE.out SZ.out (by omega) (by simp) ?_)
    intro v' w' hown hg _
    have OW := Lib.hid (show OwnN w.heap.size w' v' l by unfold OwnN; rw [← HL.out]; exact hown)
    have BW := Lib.hid ((below_alloc w (.cells #[] 3)).grown hg (by simp) (fun k hk => by injection hk with hk; exact Nat.le_of_eq hk))
    clear hown hg
    go_wp2
    go_ret
    exact ⟨_, rfl, OW.out, BW.out⟩
set_option maxRecDepth 100000 in
set_option maxHeartbeats 4000000 in
theorem copy_is (w : World) (p c n : Nat) (l : List Int) (h : BoxIn w p c n l) :
    Calls Try.prog 15 #[.pointer (some ⟨p, 0, none⟩)] w fun e w' => ∃ p' c', e = .returned (.pointer (some ⟨p', 0, none⟩)) ∧ w.heap.size ≤ p' ∧ w.heap.size ≤ c' ∧ BoxIn w' p' c' n l ∧ BoxIn w' p c n l ∧ Kp (· = c) w w' := by
  have HH := Lib.hid h
  have pl := h.pl
  have cl := h.cl
  have c0 := h.box
  have LN := Lib.hid h.len
  have n1 := h.n1
  have n2 := h.n2
  obtain ⟨s, r, hc⟩ := h.chan
  have hcap := fun ty => run_cap_chan (P := Try.prog) 51 ty Try.underlying51 hc
  have mk := fun w => mk_is w n n2
  clear h hc
  have B1 := Lib.hid (show BoxIn ((w.alloc (.chan n #[] false 0 0 false)).alloc (.cells #[.chan (some w.heap.size)] 53)) (w.heap.size + 1) w.heap.size n [] ∧ Below w.heap.size w ((w.alloc (.chan n #[] false 0 0 false)).alloc (.cells #[.chan (some w.heap.size)] 53)) from new_box w n n1 n2)
  go_enter Try.func15, Try.ntmps15
  go_upto_region 2 with fail
  obtain ⟨w1, hw1⟩ : ∃ w1 : World, w1 = (w.alloc (.chan n #[] false 0 0 false)).alloc (.cells #[.chan (some w.heap.size)] 53) := ⟨_, rfl⟩
  rw [← hw1] at B1 ⊢
  clear hw1 hcap mk c0
  obtain ⟨q1, b1⟩ := B1.out
  have I1 := Lib.hid q1
  have P1 := Lib.hid (HH.out.below b1)
  have K1 := Lib.hid (show Kp (· = c) w w1 from Kp.of b1)
  have z1 : w.heap.size < w1.heap.size := q1.cl
  clear q1 b1 B1 HH
  go_wp2_with fail
  refine (list_is w1 p c n l P1.out).mono ?_
  rintro e w2 ⟨v, rfl, o2, q2, k2⟩
  obtain ⟨A, k, rfl, hk, ha, hf, hz⟩ := o2.form
  have P2 := Lib.hid q2
  have K2 := Lib.hid (K1.out.trans k2)
  have I2 := Lib.hid (I1.out.on k2 (fun e => by omega) (fun e => by omega))
  have A2 := Lib.hid ha
  have F2 := Lib.hid hf
  have z2 := K2.out.size
  clear o2 q2 k2 ha hf P1 K1 I1
  go_wp2_with fail
  go_loopw [17] (fun i wr => ∃ t : Nat, i = .int .i64 t ∧ t ≤ l.length ∧ BoxIn wr (w.heap.size + 1) w.heap.size n (l.take t) ∧ Kp (· = w.heap.size) w2 wr) (fun i _ => l.length - (intOf i).toNat)
  case atStart => exact ⟨0, rfl, Nat.zero_le _, by rw [List.take_zero]; exact I2.out, Kp.refl _ _⟩
  case round =>
    obtain ⟨wo, rfl⟩ : ∃ wo : World, wo = wr := ⟨_, rfl⟩
    obtain ⟨t, rfl, ht, hI, hK⟩ := hrel
    have IQ := Lib.hid hI
    have KO := Lib.hid hK
    clear hI hK
    by_cases hlt : t < l.length
    · have s0 : decide ((t : Int) < l.length) = true := decide_eq_true (by omega)
      have s00 : decide (t < l.length) = true := decide_eq_true hlt
      have i5 : (t : Int) < l.length := by omega
      have W1 : IntKind.i64.wrap ((t : Int) + 1) = (t : Int) + 1 := IntWalk.i64_in _ (by have := LN.out; omega)
      obtain ⟨ab, ao, rfl, al, ac⟩ := A2.out.2 (by omega)
      have x0 := (KO.out.cell (o := ao + t) al (fun e => by have := (F2.out _ rfl).1; simp only at this; omega)).trans (ac t hlt)
      have TK := Lib.hid (show putL n (l.take t) (gt l t) = l.take (t + 1) by
        rw [List.take_succ_eq_append_getElem hlt, gt_lt hlt]
        exact putL_room (by rw [List.length_take]; have := LN.out; omega) _)
      clear ac
      generalize gt l t = x at *
      go_wp2_with fail
      refine (put_is wo (w.heap.size + 1) w.heap.size n (l.take t) x IQ.out).mono ?_
      rintro e w3 ⟨rfl, q3, k3⟩
      rw [TK.out] at q3
      have I3 := Lib.hid q3
      have K3 := Lib.hid (KO.out.trans k3)
      generalize putE n (l.take t) = pe at *
      clear q3 k3 IQ KO
      go_wp2
      go_roundw
      case rel => exact ⟨t + 1, by go_num, by omega, I3.out, K3.out⟩
      case measure => simp [intOf]; omega
    · obtain rfl : t = l.length := by omega
      have s0 : decide ((l.length : Int) < l.length) = false := decide_eq_false (by omega)
      have s00 : decide (l.length < l.length) = false := decide_eq_false (by omega)
      have I3 := Lib.hid (show BoxIn wo (w.heap.size + 1) w.heap.size n l by have := IQ.out; rwa [List.take_length] at this)
      have P3 := Lib.hid (P2.out.on KO.out (fun e => by omega) (fun e => by omega))
      have K3 := Lib.hid (show Kp (· = c) w wo from by
        have a := K2.out
        have b := KO.out
        exact ⟨b.os.trans a.os, b.tape.trans a.tape, b.output.trans a.output, Nat.le_trans a.size b.size, fun g hg hf => (b.block g (Nat.lt_of_lt_of_le hg a.size) fun e => by omega).trans (a.block g hg hf)⟩)
      clear IQ KO P2 K2
      go_wp2
      go_ret
      exact ⟨_, _, rfl, by omega, by omega, I3.out, P3.out, K3.out⟩
/-- boxes, where they lie -/
structure BxR where
  p : Nat
  c : Nat
  n : Nat
instance : Inhabited BxR := ⟨⟨0, 0, 0⟩⟩
/-- a slice of boxes that is read -/
def BsAt (W : World) (A : Option Addr) (k : Nat) (S : List BxR) : Prop :=
  k = S.length ∧ (0 < k → ∃ b off, A = some ⟨b, off, none⟩ ∧ b < W.heap.size ∧ ∀ j, j < k → W.cell? ⟨b, off + j, none⟩ = some (.pointer (some ⟨(gt S j).p, 0, none⟩)))
def AllIn (W : World) (S : List BxR) (f : Nat → List Int) : Prop := ∀ j, j < S.length → BoxIn W (gt S j).p (gt S j).c (gt S j).n (f j)
set_option maxRecDepth 100000 in
set_option maxHeartbeats 4000000 in
/-- all are empty -/
theorem bfirst_none (w : World) (A : Option Addr) (k d : Nat) (S : List BxR) (f : Nat → List Int) (hA : BsAt w A k S) (hS : AllIn w S f) (h0 : ∀ j, j < k → f j = []) (h1 : k ≤ 1000000) :
    Calls Try.prog 19 #[.slice A k d] w fun e w' => e = .returned (.tuple #[.int .i64 0, .int .i64 0, .bool false]) ∧ w = w' := by
  have HA := Lib.hid hA
  have HS := Lib.hid (show ∀ j, j < k → BoxIn w (gt S j).p (gt S j).c (gt S j).n [] from fun j hj => by have := hS j (by rw [← hA.1]; exact hj); rwa [h0 j hj] at this)
  clear hA hS h0
  go_enter Try.func19, Try.ntmps19
  go_wp2_with fail
  go_loop [11] (fun i => ∃ t : Nat, t ≤ k ∧ i = .int .i64 t) (fun i => k - (intOf i).toNat)
  case atStart => exact ⟨0, Nat.zero_le _, rfl⟩
  case round =>
    obtain ⟨t, ht, rfl⟩ := hrel
    by_cases hlt : t < k
    · have s0 : decide ((t : Int) < k) = true := decide_eq_true (by omega)
      have s00 : decide (t < k) = true := decide_eq_true hlt
      have i5 : (t : Int) < k := by omega
      have W1 : IntKind.i64.wrap ((t : Int) + 1) = (t : Int) + 1 := IntWalk.i64_in _ (by omega)
      obtain ⟨ab, ao, rfl, al, ac⟩ := HA.out.2 (by omega)
      have x0 := ac t hlt
      have I0 := Lib.hid (HS.out t hlt)
      clear ac
      generalize gt S t = b at *
      go_wp2_with fail
      refine (take_empty w b.p b.c b.n I0.out).mono ?_
      rintro e w3 ⟨rfl, rfl⟩
      go_wp2
      go_round
      case rel => exact ⟨t + 1, by omega, by go_num⟩
      case measure => simp [intOf]; omega
    · obtain rfl : t = k := by omega
      have s0 : decide ((t : Int) < t) = false := decide_eq_false (by omega)
      have s00 : decide (t < t) = false := decide_eq_false (by omega)
      go_wp2
      exact bodyPost_ret (v := .tuple #[.int .i64 0, .int .i64 0, .bool false]) (by simp [results, Try.f19, go_sem]) rfl ⟨rfl, rfl⟩
set_option maxRecDepth 100000 in
set_option maxHeartbeats 4000000 in
/-- the first one that is not empty -/
theorem bfirst_some (w : World) (A : Option Addr) (k d i : Nat) (S : List BxR) (f : Nat → List Int) (hA : BsAt w A k S) (hS : AllIn w S f) (hi : i < k) (h0 : ∀ j, j < i → f j = []) (x : Int) (m : List Int) (hx : f i = x :: m) (h1 : k ≤ 1000000) :
    Calls Try.prog 19 #[.slice A k d] w fun e w' => e = .returned (.tuple #[.int .i64 i, .int .i64 x, .bool true]) ∧ BoxIn w' (gt S i).p (gt S i).c (gt S i).n m ∧ Kp (· = (gt S i).c) w w' := by
  have HA := Lib.hid hA
  have HS := Lib.hid (show ∀ j, j < i → BoxIn w (gt S j).p (gt S j).c (gt S j).n [] from fun j hj => by have := hS j (by rw [← hA.1]; omega); rwa [h0 j hj] at this)
  have HI := Lib.hid (show BoxIn w (gt S i).p (gt S i).c (gt S i).n (x :: m) by have := hS i (by rw [← hA.1]; omega); rwa [hx] at this)
  clear hA hS h0 hx
  go_enter Try.func19, Try.ntmps19
  go_wp2_with fail
  go_loop [11] (fun u => ∃ t : Nat, t ≤ i ∧ u = .int .i64 t) (fun u => i - (intOf u).toNat)
  case atStart => exact ⟨0, Nat.zero_le _, rfl⟩
  case round =>
    obtain ⟨t, ht, rfl⟩ := hrel
    have s0 : decide ((t : Int) < k) = true := decide_eq_true (by omega)
    have s00 : decide (t < k) = true := decide_eq_true (by omega)
    have i5 : (t : Int) < k := by omega
    have W1 : IntKind.i64.wrap ((t : Int) + 1) = (t : Int) + 1 := IntWalk.i64_in _ (by omega)
    obtain ⟨ab, ao, rfl, al, ac⟩ := HA.out.2 (by omega)
    have x0 := ac t (by omega)
    clear ac
    by_cases hlt : t < i
    · have I0 := Lib.hid (HS.out t hlt)
      generalize gt S t = b at *
      go_wp2_with fail
      refine (take_empty w b.p b.c b.n I0.out).mono ?_
      rintro e w3 ⟨rfl, rfl⟩
      go_wp2
      go_round
      case rel => exact ⟨t + 1, by omega, by go_num⟩
      case measure => simp [intOf]; omega
    · obtain rfl : t = i := by omega
      go_wp2_with fail
      refine (take_is w (gt S t).p (gt S t).c (gt S t).n (x :: m) HI.out).mono ?_
      rintro e w3 ⟨rfl, q3, k3⟩
      rw [show headL (x :: m) = x from rfl, show someB (x :: m) = true from rfl]
      have I3 := Lib.hid (show BoxIn w3 (gt S t).p (gt S t).c (gt S t).n m from q3)
      have K3 := Lib.hid k3
      clear q3 k3
      go_wp2
      exact bodyPost_ret (v := .tuple #[.int .i64 t, .int .i64 x, .bool true]) (by simp [results, Try.f19, go_sem]) rfl ⟨rfl, I3.out, K3.out⟩
set_option maxRecDepth 100000 in
set_option maxHeartbeats 4000000 in
/-- what the chapter's examples fix -/
theorem first12 (w : World) : Calls Try.prog 9 #[] w fun e w' => e = .returned (.bool true) ∧ Below w.heap.size w w' := by
  go_enter Try.func9, Try.ntmps9
  go_wp2_with fail
  refine (bnew_is w 1 (by omega) (by omega)).mono ?_
  rintro e w1 ⟨rfl, q1, b1⟩
  have I1 := Lib.hid q1
  have B1 := Lib.hid b1
  have sz := b1.size
  clear q1 b1
  generalize hp : w.heap.size + 1 = p at *
  generalize hc : w.heap.size = c at *
  go_wp2_with fail
  refine (put_is w1 p c 1 [] 7 I1.out).mono ?_
  rintro e w2 ⟨rfl, q2, k2⟩
  have I2 := Lib.hid (show BoxIn w2 p c 1 [7] from q2)
  have B2 := Lib.hid (B1.out.trans (k2.below (B := c) sz (fun k e => by omega)))
  rw [show putE 1 [] = 0 from rfl]
  clear q2 k2
  go_wp2_with fail
  refine (put_is w2 p c 1 [7] 8 I2.out).mono ?_
  rintro e w3 ⟨rfl, q3, k3⟩
  have I3 := Lib.hid (show BoxIn w3 p c 1 [7] from q3)
  have B3 := Lib.hid (B2.out.trans (k3.below (B := c) (Nat.le_trans (Nat.le_of_eq hc.symm) B2.out.size) (fun k e => by omega)))
  rw [show putE 1 [7] = 9 from rfl]
  clear q3 k3
  go_wp2_with fail
  refine (take_is w3 p c 1 [7] I3.out).mono ?_
  rintro e w4 ⟨rfl, q4, k4⟩
  have I4 := Lib.hid (show BoxIn w4 p c 1 [] from q4)
  have B4 := Lib.hid (B3.out.trans (k4.below (B := c) (Nat.le_trans (Nat.le_of_eq hc.symm) B3.out.size) (fun k e => by omega)))
  rw [show headL [7] = 7 from rfl, show someB [7] = true from rfl]
  clear q4 k4
  go_wp2_with fail
  refine (take_is w4 p c 1 [] I4.out).mono ?_
  rintro e w5 ⟨rfl, q5, k5⟩
  have B5 := Lib.hid (B4.out.trans (k5.below (B := c) (Nat.le_trans (Nat.le_of_eq hc.symm) B4.out.size) (fun k e => by omega)))
  rw [show headL [] = 0 from rfl, show someB [] = false from rfl]
  clear q5 k5
  go_wp2
  go_ret
  exact ⟨rfl, by have := B5.out; rwa [hc]⟩
end Go.Proofs.Ythonmfoajjhkdaa.Bx
