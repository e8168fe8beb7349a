/- Boxes: List, Copy, First; voklaw12.first. -/
import Derived.Test.YthonmfoajjhkdaaBxM
set_option linter.unusedVariables false
namespace Go.Proofs.Ythonmfoajjhkdaa.Bx
open Go.RowKit Iv

theorem bytes_int : ∃ i, Try.prog.info? 3 = some i ∧ i.bytes = 8 := bytes3
section
variable {w w2 w3 : World} {B : Nat} {v : Value} {l : List Int}
theorem OwnN.free (h : OwnN B w v l) {c : Nat} (hc : c < B) : ∀ g, v.ownBlock = some g → ¬ g = c := fun g e q => by have := (World.ownsRow.lt h g e).1; omega
/-- an own slice grows: what lay there before it was begun stays -/
theorem kp_own {F : Nat → Prop} (o : OwnN w.heap.size w2 v l) (k : Kp F w w2) (k3 : Kp (fun k => v.ownBlock = some k) w2 w3) : Kp F w w3 := by
  have lt := fun g e => (World.ownsRow.lt o g e).1
  exact ⟨k3.os.trans k.os, k3.tape.trans k.tape, k3.output.trans k.output, Nat.le_trans k.size k3.size, fun g hg hf => (k3.block g (Nat.lt_of_lt_of_le hg k.size) fun e => by have := lt g e; omega).trans (k.block g hg hf)⟩
theorem BoxIn.own {p c n : Nat} {m : List Int} (h : BoxIn w2 p c n m) (o : OwnN B w2 v l) (k3 : Kp (fun k => v.ownBlock = some k) w2 w3) : BoxIn w3 p c n m := h.row o (by decide) k3
theorem OwnN.form (h : OwnN B w v l) : ∃ A k, v = .slice A l.length k ∧ l.length ≤ k ∧ IsAt w A l.length l ∧ (∀ a, A = some a → B ≤ a.block ∧ a.block < w.heap.size) ∧ (A = none → k = 0) := by
  have cc := fun g (e : v.ownBlock = some g) => World.ownsRow.cells h (g := g) e
  have hb := fun g => World.ownsRow.lt h g
  rcases h.2 with ⟨rfl, e⟩ | ⟨g, cap, cur, rfl, hB, hg, hn, hm, hs, ht⟩
  · obtain rfl : l = [] := List.eq_nil_of_length_eq_zero e
    exact ⟨none, 0, rfl, Nat.le_refl _, IsAt.nil _ _, fun a h => (by cases h), fun _ => rfl⟩
  · refine ⟨some ⟨g, 0, none⟩, cap, rfl, hn, ⟨rfl, fun h0 => ⟨g, 0, rfl, (hb g rfl).2, fun j hj => ?_⟩⟩, fun a e => ?_, fun e => (by cases e)⟩
    · have := cc g rfl j (.int .i64 (gt l j)) (by rw [List.getElem?_map, List.getElem?_eq_getElem hj, gt_lt hj]; rfl)
      rwa [addr_off] at this
    · cases e; exact hb g rfl
end
/-- the numbers, turned by t -/
def rotL (l : List Int) (t : Nat) : List Int := l.drop t ++ l.take t
theorem rotL_zero (l : List Int) : rotL l 0 = l := by simp [rotL]
theorem rotL_all (l : List Int) : rotL l l.length = l := by simp [rotL]
theorem rotL_cons {l : List Int} {t : Nat} (h : t < l.length) : rotL l t = gt l t :: (l.drop (t + 1) ++ l.take t) := by
  unfold rotL
  rw [List.drop_eq_getElem_cons h, gt_lt h]; rfl
theorem rotL_next {l : List Int} {t : Nat} (h : t < l.length) : (l.drop (t + 1) ++ l.take t) ++ [gt l t] = rotL l (t + 1) := by
  unfold rotL
  rw [List.take_succ_eq_append_getElem h, gt_lt h, List.append_assoc]
theorem rot_len {l : List Int} {t : Nat} (h : t < l.length) : (l.drop (t + 1) ++ l.take t).length = l.length - 1 := by
  rw [List.length_append, List.length_drop, List.length_take]; omega
def ListR (w : World) (p c n : Nat) (l : List Int) (e : Ending) (w' : World) : Prop := ∃ v, e = .returned v ∧ OwnN w.heap.size w' v l ∧ BoxIn w' p c n l ∧ Kp (· = c) w w'
set_option maxRecDepth 100000 in
set_option maxHeartbeats 4000000 in
theorem list_is (w : World) (p c n : Nat) (l : List Int) (h : BoxIn w p c n l) :
    Calls Try.prog 17 #[.pointer (some ⟨p, 0, none⟩)] w (ListR w p c n l) := by
  have HH := Lib.hid h
  have pl := h.pl
  have cl := h.cl
  have LN := Lib.hid h.len
  have N2 := Lib.hid h.n2
  clear h
  go_enter Try.func17, Try.ntmps17
  go_wp2_with fail
  refine (blen_is w p c n l HH.out).mono ?_
  rintro e w1 ⟨rfl, rfl⟩
  go_wp2_with fail
  go_loopw [3, 8] (fun ov i wr => ∃ (t : Nat) (v : Value), i = .int .i64 t ∧ t ≤ l.length ∧ v = ov ∧ OwnN w.heap.size wr v (l.take t) ∧ BoxIn wr p c n (rotL l t) ∧ Kp (· = c) w wr) (fun _ i _ => l.length - (intOf i).toNat)
  case atStart => exact ⟨0, _, rfl, Nat.zero_le _, rfl, by rw [List.take_zero]; exact World.ownsRow_nil _ _ _ _, by rw [rotL_zero]; exact HH.out, Kp.refl _ _⟩
  case round =>
    obtain ⟨wo, rfl⟩ : ∃ wo : World, wo = wr := ⟨_, rfl⟩
    obtain ⟨t, v, rfl, ht, rfl, hO, hI, hK⟩ := hrel
    have OO := Lib.hid hO
    have IQ := Lib.hid hI
    have KO := Lib.hid hK
    have szo := hK.size
    clear hO hI hK
    by_cases hlt : t < l.length
    · have s0 : decide ((t : Int) < l.length) = true := decide_eq_true (by omega)
      have s00 : decide (t < l.length) = true := decide_eq_true hlt
      have i5 : (t : Int) < l.length := by omega
      have W1 : IntKind.i64.wrap ((t : Int) + 1) = (t : Int) + 1 := IntWalk.i64_in _ (by have := LN.out; have := N2.out; omega)
      have I1 := Lib.hid (show BoxIn wo p c n (gt l t :: (l.drop (t + 1) ++ l.take t)) by have := IQ.out; rwa [rotL_cons hlt] at this)
      have RN := Lib.hid (rotL_next hlt)
      have RL := Lib.hid (rot_len hlt)
      have TK := Lib.hid (show l.take (t + 1) = l.take t ++ [gt l t] by rw [List.take_succ_eq_append_getElem hlt, gt_lt hlt])
      have NL := Lib.hid (show (l.take t).length ≤ 1000000 by rw [List.length_take]; have := LN.out; have := N2.out; omega)
      have LT := Lib.hid hlt
      clear IQ
      generalize gt l t = x at *
      generalize l.drop (t + 1) ++ l.take t = m at *
      go_wp2_with fail
      refine (take_is wo p c n (x :: m) I1.out).mono ?_
      rintro e w1 ⟨rfl, q1, k1⟩
      have I2 := Lib.hid (show BoxIn w1 p c n m from q1)
      have O2 := Lib.hid (OO.out.kp k1 (OO.out.free cl))
      have K2 := Lib.hid (KO.out.trans k1)
      rw [show headL (x :: m) = x from rfl, show someB (x :: m) = true from rfl]
      clear q1 k1 I1 OO KO szo
      go_wp2_with fail
      refine (put_is w1 p c n m x I2.out).mono ?_
      rintro e w2 ⟨rfl, q2, k2⟩
      have I3 := Lib.hid (show BoxIn w2 p c n (rotL l (t + 1)) by
        rw [← RN.out, ← putL_room (n := n) (by rw [RL.out]; have := LN.out; have := LT.out; omega) x]; exact q2)
      have O3 := Lib.hid (O2.out.kp k2 (O2.out.free cl))
      have K3 := Lib.hid (K2.out.trans k2)
      have sz3 := K3.out.size
      generalize putE n m = pe at *
      clear q2 k2 I2 O2 K2
      go_wp2_with (at_builtin; refine append_numB rfl _ _ rfl v (l.take t) rfl O3.out sz3 x _ 1 rfl NL.out ?_)
      intro v4 w4 o4 k4
      have O4 := Lib.hid (show OwnN w.heap.size w4 v4 (l.take (t + 1)) by rw [TK.out]; exact o4)
      have I4 := Lib.hid (I3.out.own O3.out k4)
      have K4 := Lib.hid (kp_own O3.out K3.out k4)
      clear o4 k4 I3 O3 K3 sz3
      go_wp2
      go_roundw
      case rel => exact ⟨t + 1, v4, by go_num, by omega, rfl, O4.out, I4.out, K4.out⟩
      case measure => simp [intOf]; omega
    · obtain rfl : t = l.length := by omega
      have s0 : decide ((l.length : Int) < l.length) = false := decide_eq_false (by omega)
      have s00 : decide (l.length < l.length) = false := decide_eq_false (by omega)
      have O2 := Lib.hid (show OwnN w.heap.size wo v l by have := OO.out; rwa [List.take_length] at this)
      have I2 := Lib.hid (show BoxIn wo p c n l by have := IQ.out; rwa [rotL_all] at this)
      clear OO IQ
      go_wp2
      go_ret
      exact ⟨v, rfl, O2.out, I2.out, KO.out⟩
end Go.Proofs.Ythonmfoajjhkdaa.Bx
