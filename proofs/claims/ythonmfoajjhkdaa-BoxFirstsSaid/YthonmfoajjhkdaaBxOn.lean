/- The walk of voklaw12.BoxOnce. -/
import Derived.Test.YthonmfoajjhkdaaBxO
set_option linter.unusedVariables false
namespace Go.Proofs.Ythonmfoajjhkdaa.Bx
open Go.RowKit Iv

/-- a list that is read, in every later world -/
theorem is_cell {W : World} {A : Option Addr} {k : Nat} {l : List Int} (h : IsAt W A k l) {t : Nat} (ht : t < k) : ∃ b off, A = some ⟨b, off, none⟩ ∧ ∀ w, Below W.heap.size W w → w.cell? ⟨b, off + t, none⟩ = some (.int .i64 (gt l t)) := by
  obtain ⟨b, off, rfl, hb, hc⟩ := h.2 (by omega)
  exact ⟨b, off, rfl, fun w hw => (hw.cell (p := ⟨b, _, none⟩) hb).trans (hc t ht)⟩
theorem put_take {n t : Nat} {l : List Int} (h : t < n) (hl : t < l.length) : putE n (l.take t) = 0 ∧ putL n (l.take t) (gt l t) = l.take (t + 1) := by
  have e : (l.take t).length < n := by rw [List.length_take]; omega
  refine ⟨putE_room e, ?_⟩
  rw [putL_room e, List.take_succ_eq_append_getElem hl, gt_lt hl]
theorem put_over {n t : Nat} {l : List Int} (h : ¬ t < n) (hl : t < l.length) (x : Int) : putE n (l.take n) = 9 ∧ putL n (l.take n) x = l.take n := by
  have e : ¬ (l.take n).length < n := by rw [List.length_take]; omega
  exact ⟨putE_full e, putL_full e x⟩
theorem drop_cons {l : List Int} {t : Nat} (h : t < l.length) : l.drop t = gt l t :: l.drop (t + 1) := by
  rw [List.drop_eq_getElem_cons h, gt_lt h]
theorem gt_take {l : List Int} {t z : Nat} (h : t < z) : gt (l.take z) t = gt l t := by
  unfold gt
  rw [List.getElem?_take, if_pos h]
set_option maxRecDepth 100000 in
set_option maxHeartbeats 8000000 in
theorem once_walk (w : World) (a0 : Int) (A : Option Addr) (k d : Nat) (l : List Int) (hA : IsAt w A k l) (hk : k ≤ 9223372036854775807) :
    Calls Try.prog 5 #[.int .i64 a0, .slice A k d] w fun e w' => e = .returned (.bool true) ∧ Below w.heap.size w w' := by
  have HA := Lib.hid hA
  have LK := Lib.hid hA.1
  clear hA
  go_enter Try.func5, Try.ntmps5
  go_wp2_with fail
  refine (first12 w).mono ?_
  rintro e w0 ⟨rfl, b0⟩
  have B0 := Lib.hid b0
  clear b0
  by_cases hs : ¬ (1 ≤ a0 ∧ a0 ≤ 1000)
  · (go_wp2_with fail
     refine (new_no w0 a0 hs).mono ?_
     rintro e w1 ⟨rfl, rfl⟩
     go_wp2_with fail
     refine (first12 w0).mono ?_
     rintro e w1 ⟨rfl, b1⟩
     have B1 := Lib.hid (B0.out.trans (b1.mono B0.out.size))
     clear b1
     go_wp2
     go_ret
     exact ⟨rfl, B1.out⟩)
  obtain ⟨n, rfl⟩ : ∃ n : Nat, a0 = n := ⟨a0.toNat, by omega⟩
  have n1 : 1 ≤ n := by omega
  have n2 : n ≤ 1000 := by omega
  go_wp2_with fail
  refine (one_new B0.out n n1 n2).mono ?_
  rintro e w1 ⟨p, c, rfl, q1⟩
  have O1 := Lib.hid q1
  clear q1 B0
  by_cases hb : 1000 < k
  · have s1 : decide (1000 < k) = true := decide_eq_true hb
    have s2 : decide ((1000 : Int) < k) = true := decide_eq_true (by omega)
    go_wp2_with fail
    refine O1.out.first.mono ?_
    rintro e w2 ⟨rfl, q2⟩
    have B2 := Lib.hid q2.at_
    clear q2
    go_wp2
    go_ret
    exact ⟨rfl, B2.out⟩
  have k2 : k ≤ 1000 := by omega
  have s1 : decide (1000 < k) = false := decide_eq_false (by omega)
  have s2 : decide ((1000 : Int) < k) = false := decide_eq_false (by omega)
  clear hb hs hk
  have O2 := Lib.hid (show One w w1 p c n (l.take (min 0 n)) by rw [Nat.zero_min, List.take_zero]; exact O1.out)
  clear O1
  go_wp2_with fail
  go_loopw [7] (fun i wr => ∃ t : Nat, i = .int .i64 t ∧ t ≤ k ∧ One w wr p c n (l.take (min t n))) (fun i _ => k - (intOf i).toNat)
  case atStart => exact ⟨0, rfl, Nat.zero_le _, O2.out⟩
  case round =>
    obtain ⟨wo, rfl⟩ : ∃ wo : World, wo = wr := ⟨_, rfl⟩
    clear O2 s1 s2
    obtain ⟨t, rfl, ht, hO⟩ := hrel
    have OO := Lib.hid hO
    clear hO
    by_cases hlt : t < k
    · have s0 : decide ((t : Int) < k) = true := decide_eq_true (by omega)
      have s00 : decide (t < k) = true := decide_eq_true hlt
      have i5 : (t : Int) < k := by omega
      have W1 : IntKind.i64.wrap ((t : Int) + 1) = (t : Int) + 1 := IntWalk.i64_in _ (by omega)
      obtain ⟨b, off, rfl, hc⟩ := is_cell HA.out hlt
      have x0 := hc wo OO.out.at_
      have tl : t < l.length := by have := LK.out; omega
      clear hc
      by_cases hn : t < n
      · have s3 : decide ((t : Int) < n) = true := decide_eq_true (by omega)
        have s33 : decide (t < n) = true := decide_eq_true hn
        obtain ⟨pe, pl⟩ := put_take hn tl
        have O1 := Lib.hid (show One w wo p c n (l.take t) by have := OO.out; rwa [Nat.min_eq_left (by omega)] at this)
        have M1 : min ((t : Int) + 1) n = ((t + 1 : Nat) : Int) := by omega
        have lt1 : (l.take (t + 1)).length = t + 1 := by rw [List.length_take]; omega
        clear OO
        generalize gt l t = x at *
        go_wp2_with fail
        refine (O1.out.put x).mono ?_
        rintro e w2 ⟨rfl, q2⟩
        rw [pe]
        rw [pl] at q2
        have O2 := Lib.hid q2
        clear q2 pe pl O1
        go_wp2_with fail
        refine O2.out.len.mono ?_
        rintro e w3 ⟨rfl, rfl⟩
        rw [lt1]
        have O3 := Lib.hid (show One w w2 p c n (l.take (min (t + 1) n)) by rw [Nat.min_eq_left (by omega)]; exact O2.out)
        clear O2 lt1
        go_wp2
        all_goals first
          | (exfalso; omega)
          | (go_roundw
             case rel => exact ⟨t + 1, by go_num, by omega, O3.out⟩
             case measure => simp [intOf]; omega)
      · have s3 : decide ((t : Int) < n) = false := decide_eq_false (by omega)
        have s33 : decide (t < n) = false := decide_eq_false hn
        obtain ⟨pe, pl⟩ := put_over hn tl (gt l t)
        have O1 := Lib.hid (show One w wo p c n (l.take n) by have := OO.out; rwa [Nat.min_eq_right (by omega)] at this)
        have M1 : min ((t : Int) + 1) n = (n : Int) := by omega
        have lt1 : (l.take n).length = n := by rw [List.length_take]; omega
        clear OO
        generalize gt l t = x at *
        go_wp2_with fail
        refine (O1.out.put x).mono ?_
        rintro e w2 ⟨rfl, q2⟩
        rw [pe]
        rw [pl] at q2
        have O2 := Lib.hid q2
        clear q2 pe pl O1
        go_wp2_with fail
        refine O2.out.len.mono ?_
        rintro e w3 ⟨rfl, rfl⟩
        rw [lt1]
        have O3 := Lib.hid (show One w w2 p c n (l.take (min (t + 1) n)) by rw [Nat.min_eq_right (by omega)]; exact O2.out)
        clear O2 lt1
        go_wp2
        all_goals first
          | (exfalso; omega)
          | (go_roundw
             case rel => exact ⟨t + 1, by go_num, by omega, O3.out⟩
             case measure => simp [intOf]; omega)
    · obtain rfl : t = k := by omega
      have s0 : decide ((t : Int) < t) = false := decide_eq_false (by omega)
      have s00 : decide (t < t) = false := decide_eq_false (by omega)
      obtain ⟨z, hz⟩ : ∃ z : Nat, z = min t n := ⟨_, rfl⟩
      have zi : min (t : Int) n = (z : Int) := by omega
      have O2 := Lib.hid (show One w wo p c n ((l.take z).drop 0) by rw [hz, List.drop_zero]; exact OO.out)
      have ZE := Lib.hid hz
      have zt : z ≤ t := by omega
      have zl : (l.take z).length = z := by rw [List.length_take]; have := LK.out; omega
      clear OO hz
      go_wp2_with fail
      go_loopw [8] (fun i wr => ∃ u : Nat, i = .int .i64 u ∧ u ≤ z ∧ One w wr p c n ((l.take z).drop u)) (fun i _ => z - (intOf i).toNat)
      case atStart => exact ⟨0, rfl, Nat.zero_le _, O2.out⟩
      case round =>
        obtain ⟨wa, rfl⟩ : ∃ wa : World, wa = wr := ⟨_, rfl⟩
        clear O2
        obtain ⟨u, rfl, hu, hO⟩ := hrel
        have OO := Lib.hid hO
        clear hO
        by_cases hlt : u < z
        · have s6 : decide ((u : Int) < z) = true := decide_eq_true (by omega)
          have s66 : decide (u < z) = true := decide_eq_true hlt
          have i5 : (u : Int) < t := by omega
          have W1 : IntKind.i64.wrap ((u : Int) + 1) = (u : Int) + 1 := IntWalk.i64_in _ (by omega)
          have O1 := Lib.hid (show One w wa p c n (gt l u :: (l.take z).drop (u + 1)) by
            have := OO.out
            rwa [drop_cons (by omega), gt_take hlt] at this)
          obtain ⟨b, off, rfl, hc⟩ := is_cell HA.out (show u < t by omega)
          clear OO
          generalize gt l u = x at *
          generalize hm : (l.take z).drop (u + 1) = m at *
          have ME := Lib.hid hm
          clear hm
          go_wp2_with fail
          all_goals (
            refine O1.out.take.mono ?_
            rintro e w3 ⟨rfl, q3⟩
            rw [show headL (x :: m) = x from rfl, show someB (x :: m) = true from rfl]
            have O3 := Lib.hid (show One w w3 p c n m from q3)
            have x0 := hc w3 q3.at_
            clear q3 O1 hc
            go_wp2
            go_roundw
            case rel => exact ⟨u + 1, by go_num, by omega, by rw [ME.out]; exact O3.out⟩
            case measure => simp [intOf]; omega)
        · obtain rfl : u = z := by omega
          have s6 : decide ((u : Int) < u) = false := decide_eq_false (by omega)
          have s66 : decide (u < u) = false := decide_eq_false (by omega)
          have O1 := Lib.hid (show One w wa p c n [] by
            have := OO.out
            rwa [List.drop_eq_nil_of_le (by omega)] at this)
          clear OO
          have i8 : ¬ (u : Int) < min (t : Int) n := by omega
          go_wp2_with fail
          all_goals first
            | (exfalso; omega)
            | (refine O1.out.take.mono ?_
               rintro e w3 ⟨rfl, q3⟩
               rw [show headL [] = 0 from rfl, show someB [] = false from rfl]
               have O3 := Lib.hid (show One w w3 p c n [] from q3)
               clear q3 O1
               go_wp2_with fail
               refine O3.out.first.mono ?_
               rintro e w4 ⟨rfl, q4⟩
               have O4 := Lib.hid q4
               clear q4 O3
               go_wp2_with fail
               refine O4.out.len.mono ?_
               rintro e w5 ⟨rfl, rfl⟩
               have B5 := Lib.hid O4.out.at_
               clear O4
               go_wp2
               go_ret
               exact ⟨rfl, B5.out⟩)
end Go.Proofs.Ythonmfoajjhkdaa.Bx
