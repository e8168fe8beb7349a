/- The walk of voklaw12.BoxFirsts. -/
import Derived.Test.YthonmfoajjhkdaaBxMn
set_option linter.unusedVariables false
namespace Go.Proofs.Ythonmfoajjhkdaa.Bx
open Go.RowKit Iv

/-- a list of lists that is read, in every later world -/
theorem ls_cell {W : World} {A : Option Addr} {k : Nat} {S : List SlR} (h : LsAt W A k S) {t : Nat} (ht : t < k) : ∃ b off, A = some ⟨b, off, none⟩ ∧ ∀ w, Below W.heap.size W w → w.cell? ⟨b, off + t, none⟩ = some (.slice (gt S t).A (gt S t).k (gt S t).c) ∧ IsAt w (gt S t).A (gt S t).k (gt S t).l := by
  obtain ⟨b, off, rfl, hb, hc⟩ := h.2 (by omega)
  exact ⟨b, off, rfl, fun w hw => ⟨(hw.cell (p := ⟨b, _, none⟩) hb).trans (hc t ht).1, (hc t ht).2.1.below hw⟩⟩
def sumS (S : List SlR) : Nat → Nat
  | 0 => 0
  | t + 1 => sumS S t + min (gt S t).k 301
theorem sumS_le (S : List SlR) : ∀ t, sumS S t ≤ 301 * t
  | 0 => Nat.le_refl _
  | t + 1 => by have := sumS_le S t; unfold sumS; omega
theorem sumS_has (S : List SlR) {j : Nat} : ∀ {t}, j < t → min (gt S j).k 301 ≤ sumS S t
  | 0, h => by omega
  | t + 1, h => by
    unfold sumS
    by_cases e : j = t
    · subst e; omega
    · have := sumS_has S (j := j) (t := t) (by omega); omega
/-- what all of them hold -/
def fullF (S : List SlR) (j : Nat) : List Int := (gt S j).l
/-- .. where the first i are empty, and of the next q are taken -/
def fF (S : List SlR) (i q j : Nat) : List Int := if j < i then [] else if j = i then (gt S i).l.drop q else (gt S j).l
theorem fF_zero (S : List SlR) : fF S 0 0 = fullF S := by
  funext j
  unfold fF fullF
  rw [if_neg (by omega)]
  split
  · rename_i e; subst e; exact List.drop_zero
  · rfl
theorem fF_next {S : List SlR} {i q : Nat} (h : q = (gt S i).l.length) : fF S i q = fF S (i + 1) 0 := by
  funext j
  unfold fF
  by_cases h1 : j < i
  · rw [if_pos h1, if_pos (by omega)]
  · rw [if_neg h1]
    by_cases h2 : j = i
    · rw [if_pos h2, if_pos (by omega)]
      exact List.drop_eq_nil_of_le (by omega)
    · rw [if_neg h2, if_neg (by omega)]
      split
      · rename_i e; subst e; exact List.drop_zero.symm
      · rfl
theorem fF_lt {S : List SlR} {i q j : Nat} (h : j < i) : fF S i q j = [] := if_pos h
theorem fF_at (S : List SlR) (i q : Nat) : fF S i q i = (gt S i).l.drop q := by
  unfold fF
  rw [if_neg (by omega), if_pos rfl]
theorem fF_ne {S : List SlR} {i q r j : Nat} (h : j ≠ i) : fF S i r j = fF S i q j := by
  unfold fF
  rw [if_neg h, if_neg h]
set_option maxRecDepth 100000 in
set_option maxHeartbeats 8000000 in
theorem firsts_walk (w : World) (A : Option Addr) (k d0 : Nat) (S : List SlR) (x : Int) (hA : LsAt w A k S) (hk : k ≤ 9223372036854775807) (hS : ∀ s ∈ S, s.k ≤ 9223372036854775807) (l1 : -9223372036854775808 ≤ x) (u1 : x ≤ 9223372036854775807) :
    Calls Try.prog 4 #[.slice A k d0, .int .i64 x] w fun e w' => e = .returned (.bool true) ∧ Below w.heap.size w w' := by
  have HA := Lib.hid hA
  have LK := Lib.hid hA.1
  have SM := Lib.hid (fun t (ht : t < k) => hS (gt S t) (gt_mem (by rw [← hA.1]; exact ht)))
  clear hA hS
  go_enter Try.func4, Try.ntmps4
  go_wp2_with fail
  refine (first12 w).mono ?_
  rintro e w0 ⟨rfl, b0⟩
  have B0 := Lib.hid b0
  clear b0
  go_wp2_with fail
  go_loop [5, 6] (fun s i => ∃ t : Nat, t ≤ k ∧ t ≤ 30 ∧ s = .int .i64 (sumS S t : Nat) ∧ i = .int .i64 t) (fun _ i => 30 - (intOf i).toNat)
  case atStart => exact ⟨0, Nat.zero_le _, Nat.zero_le _, rfl, rfl⟩
  case round =>
    obtain ⟨t, ht, ht2, rfl, rfl⟩ := hrel
    by_cases hlt : t < k ∧ t < 30
    · obtain ⟨h1, h2⟩ := hlt
      have s0 : decide ((t : Int) < k) = true := decide_eq_true (by omega)
      have s00 : decide (t < k) = true := decide_eq_true h1
      have s1 : decide ((t : Int) < 30) = true := decide_eq_true (by omega)
      have s11 : decide (t < 30) = true := decide_eq_true h2
      have i5 : (t : Int) < k := by omega
      have W1 : IntKind.i64.wrap ((t : Int) + 1) = (t : Int) + 1 := IntWalk.i64_in _ (by omega)
      obtain ⟨b, off, rfl, hc⟩ := ls_cell HA.out h1
      obtain ⟨x0, -⟩ := hc w0 B0.out
      have sl := sumS_le S t
      have SE := Lib.hid (show sumS S (t + 1) = sumS S t + min (gt S t).k 301 from rfl)
      have kz := SM.out t h1
      clear hc
      generalize (gt S t).k = z at *
      generalize (gt S t).A = az at *
      generalize (gt S t).c = cz at *
      generalize sumS S t = y at *
      have M1 : min (z : Int) 301 = ((min z 301 : Nat) : Int) := by omega
      have W2 : IntKind.i64.wrap ((y : Int) + z) = (y : Int) + z ∨ 301 < z := by
        by_cases h : 301 < z
        · exact .inr h
        · exact .inl (IntWalk.i64_in _ (by omega))
      have W3 : IntKind.i64.wrap ((y : Int) + 301) = (y : Int) + 301 := IntWalk.i64_in _ (by omega)
      have W4 : IntKind.i64.wrap ((y : Int) + ((min z 301 : Nat) : Int)) = (y : Int) + ((min z 301 : Nat) : Int) := IntWalk.i64_in _ (by omega)
      by_cases hz : 301 < z
      · clear W2
        go_wp2
        all_goals first
          | (exfalso; omega)
          | (go_round
             case rel => exact ⟨t + 1, by omega, by omega, by rw [SE.out, Nat.min_eq_right (by omega)]; first | rfl | (congr 1; omega), by go_num⟩
             case measure => simp [intOf]; omega)
      · have W5 := W2.resolve_right hz
        clear W2
        go_wp2
        all_goals first
          | (exfalso; omega)
          | (go_round
             case rel => exact ⟨t + 1, by omega, by omega, by rw [SE.out]; first | rfl | (congr 1; omega), by go_num⟩
             case measure => simp [intOf]; omega)
    · by_cases hk3 : 30 < k
      · obtain rfl : t = 30 := by omega
        have s1 : decide ((30 : Int) < 30) = false := by decide
        have s3 : decide ((30 : Int) < k) = true := decide_eq_true (by omega)
        have s33 : decide (30 < k) = true := decide_eq_true hk3
        generalize sumS S 30 = y at *
        (go_wp2_with fail
         refine (first12 w0).mono ?_
         rintro e w1 ⟨rfl, b1⟩
         have B1 := Lib.hid (B0.out.trans (b1.mono B0.out.size))
         clear b1
         go_wp2
         go_ret
         exact ⟨rfl, B1.out⟩)
      obtain rfl : t = k := by omega
      have s0 : decide ((t : Int) < t) = false := decide_eq_false (by omega)
      have s00 : decide (t < t) = false := decide_eq_false (by omega)
      have s3 : decide ((30 : Int) < t) = false := decide_eq_false (by omega)
      have s33 : decide (30 < t) = false := decide_eq_false hk3
      clear hlt
      obtain ⟨y, hy⟩ : ∃ y, y = sumS S t := ⟨_, rfl⟩
      rw [← hy]
      by_cases hy3 : 300 < y
      · have s4 : decide ((300 : Int) < y) = true := decide_eq_true (by omega)
        have s44 : decide (300 < y) = true := decide_eq_true hy3
        (go_wp2_with fail
         refine (first12 w0).mono ?_
         rintro e w1 ⟨rfl, b1⟩
         have B1 := Lib.hid (B0.out.trans (b1.mono B0.out.size))
         clear b1
         go_wp2
         go_ret
         exact ⟨rfl, B1.out⟩)
      have s4 : decide ((300 : Int) < y) = false := decide_eq_false (by omega)
      have s44 : decide (300 < y) = false := decide_eq_false hy3
      by_cases hx0 : x < 0
      · have s5 : decide (x < 0) = true := decide_eq_true hx0
        (go_wp2_with fail
         refine (first12 w0).mono ?_
         rintro e w1 ⟨rfl, b1⟩
         have B1 := Lib.hid (B0.out.trans (b1.mono B0.out.size))
         clear b1
         go_wp2
         go_ret
         exact ⟨rfl, B1.out⟩)
      have s5 : decide (x < 0) = false := decide_eq_false hx0
      by_cases hx4 : 400 < x
      · have s6 : decide (400 < x) = true := decide_eq_true hx4
        (go_wp2_with fail
         refine (first12 w0).mono ?_
         rintro e w1 ⟨rfl, b1⟩
         have B1 := Lib.hid (B0.out.trans (b1.mono B0.out.size))
         clear b1
         go_wp2
         go_ret
         exact ⟨rfl, B1.out⟩)
      have s6 : decide (400 < x) = false := decide_eq_false hx4
      obtain ⟨times, rfl⟩ : ∃ n : Nat, x = n := ⟨x.toNat, by omega⟩
      have tm : times ≤ 400 := by omega
      have KL := Lib.hid (fun j (hj : j < t) => show (gt S j).k ≤ 300 by have := sumS_has S hj; omega)
      have t30 : t ≤ 30 := by omega
      have M0 := Lib.hid (Many.nil B0.out (fullF S))
      clear hy hy3 hx0 hx4 hk3
      go_wp2_with fail
      go_loopw [7, 8] (fun bv i wr => ∃ (u : Nat) (v : Value) (R : List BxR), i = .int .i64 u ∧ u ≤ t ∧ v = bv ∧ R.length = u ∧ OwnX w.heap.size wr v R ∧ Many w wr R (fullF S)) (fun _ i _ => t - (intOf i).toNat)
      case atStart => exact ⟨0, _, [], rfl, Nat.zero_le _, rfl, rfl, World.ownsRow_nil _ _ _ _, M0.out⟩
      case round =>
        obtain ⟨wo, rfl⟩ : ∃ wo : World, wo = wr := ⟨_, rfl⟩
        clear M0 s3 s33 s4 s44 s5 s6 s0 s00
        obtain ⟨u, v, R, rfl, hu, rfl, hR, hO, hM⟩ := hrel
        have OO := Lib.hid hO
        have MO := Lib.hid hM
        have RL := Lib.hid hR
        clear hO hM hR
        by_cases hlt : u < t
        · have s0 : decide ((u : Int) < t) = true := decide_eq_true (by omega)
          have s00 : decide (u < t) = true := decide_eq_true hlt
          have i5 : (u : Int) < t := by omega
          have W1 : IntKind.i64.wrap ((u : Int) + 1) = (u : Int) + 1 := IntWalk.i64_in _ (by omega)
          obtain ⟨b, off, rfl, hc⟩ := ls_cell HA.out hlt
          have HC := Lib.hid hc
          obtain ⟨x0, -⟩ := hc wo MO.out.at_
          have kz := KL.out u hlt
          have FU := Lib.hid (show fullF S u = (gt S u).l from rfl)
          clear hc
          generalize (gt S u).A = az at *
          generalize (gt S u).c = cz at *
          generalize (gt S u).l = lz at *
          generalize (gt S u).k = z at *
          have W2 : IntKind.i64.wrap ((z : Int) + 1) = ((z + 1 : Nat) : Int) := by rw [IntWalk.i64_in _ (by omega)]; rfl
          go_wp2_with fail
          refine (MO.out.new (z + 1) (by omega) (by omega)).mono ?_
          rintro e w1 ⟨p, c, rfl, q1, b1⟩
          have P1 := Lib.hid (show Plus w w1 R (fullF S) p c (z + 1) (lz.take 0) from q1)
          have O1 := Lib.hid (OO.out.below b1)
          clear q1 b1 MO OO x0
          go_wp2_with fail
          go_loopw [11] (fun i wr => ∃ j : Nat, i = .int .i64 j ∧ j ≤ z ∧ Plus w wr R (fullF S) p c (z + 1) (lz.take j) ∧ OwnX w.heap.size wr v R) (fun i _ => z - (intOf i).toNat)
          case atStart => exact ⟨0, rfl, Nat.zero_le _, P1.out, O1.out⟩
          case round =>
            obtain ⟨wa, rfl⟩ : ∃ wa : World, wa = wr := ⟨_, rfl⟩
            clear P1 O1 W2
            obtain ⟨j, rfl, hj, hP, hO⟩ := hrel
            have PO := Lib.hid hP
            have OO := Lib.hid hO
            clear hP hO
            obtain ⟨x0, hI⟩ := HC.out wa PO.out.r.at_
            have ZL := Lib.hid hI.1
            by_cases hjz : j < z
            · have s6 : decide ((j : Int) < z) = true := decide_eq_true (by omega)
              have s66 : decide (j < z) = true := decide_eq_true hjz
              have i6 : (j : Int) < z := by omega
              have W3 : IntKind.i64.wrap ((j : Int) + 1) = (j : Int) + 1 := IntWalk.i64_in _ (by omega)
              obtain ⟨b2, off2, rfl, hl2, hc2⟩ := hI.2 (by omega)
              have y0 := hc2 j hjz
              have PL := Lib.hid (put_take (n := z + 1) (l := lz) (show j < z + 1 by omega) (by have := ZL.out; omega))
              clear hI hc2
              generalize gt lz j = yv at *
              go_wp2_with fail
              refine (PO.out.put yv).mono ?_
              rintro e w2 ⟨rfl, q2, k2⟩
              rw [PL.out.2] at q2
              have P2 := Lib.hid q2
              have O2 := Lib.hid (OO.out.turn PO.out.o.is k2)
              clear q2 k2 PL PO OO
              generalize putE (z + 1) (lz.take j) = pe at *
              go_wp2
              go_roundw
              case rel => exact ⟨j + 1, by go_num, by omega, P2.out, O2.out⟩
              case measure => simp [intOf]; omega
            · obtain rfl : j = z := by omega
              have s6 : decide ((j : Int) < j) = false := decide_eq_false (by omega)
              have s66 : decide (j < j) = false := decide_eq_false (by omega)
              have P1 := Lib.hid (show Plus w wa R (fullF S) p c (j + 1) lz by have := PO.out; rwa [List.take_of_length_le (by have := ZL.out; omega)] at this)
              have J1 := Lib.hid (P1.out.join (by rw [RL.out]; exact FU.out))
              have szo := P1.out.r.at_.size
              have RM := Lib.hid (show R.length ≤ 1000000 by have := RL.out; omega)
              clear hI PO
              go_wp2_with (at_builtin; refine append_bx rfl _ _ rfl v R rfl OO.out szo ⟨p, c, j + 1⟩ _ 1 rfl RM.out ?_)
              intro v2 w2 o2 k2
              have O2 := Lib.hid o2
              have M2 := Lib.hid (J1.out.own (Nat.le_refl _) OO.out k2)
              clear o2 k2 J1 P1 OO x0 szo
              go_wp2
              go_roundw
              case rel => exact ⟨u + 1, v2, R ++ [⟨p, c, j + 1⟩], by go_num, by omega, rfl, by rw [List.length_append, RL.out]; rfl, O2.out, M2.out⟩
              case measure => simp [intOf]; omega
        · obtain rfl : u = t := by omega
          have s0 : decide ((u : Int) < u) = false := decide_eq_false (by omega)
          have s00 : decide (u < u) = false := decide_eq_false (by omega)
          obtain ⟨A2, k2, rfl, hb2⟩ := OO.out.form
          rw [RL.out] at hb2
          rw [RL.out]
          have BS := Lib.hid hb2
          have M1 := Lib.hid (show Many w wo R (fF S 0 0) by rw [fF_zero]; exact MO.out)
          have KQ := Lib.hid (fun j (hj : j < u) => KL.out j hj)
          clear hb2 OO MO KL
          go_wp2_with fail
          go_loopw [12, 13, 14] (fun iv qv tv wr => ∃ r i q : Nat, tv = .int .i64 r ∧ r ≤ times ∧ iv = .int .i64 i ∧ i ≤ u ∧ qv = .int .i64 q ∧ q ≤ (gt S i).l.length ∧ Many w wr R (fF S i q) ∧ BsAt wr A2 u R) (fun _ _ tv _ => times - (intOf tv).toNat)
          case atStart => exact ⟨0, 0, 0, rfl, Nat.zero_le _, rfl, Nat.zero_le _, rfl, Nat.zero_le _, M1.out, BS.out⟩
          case round =>
            obtain ⟨wa, rfl⟩ : ∃ wa : World, wa = wr := ⟨_, rfl⟩
            clear M1 BS s0 s00
            obtain ⟨r, i, q, rfl, hr, rfl, hi, rfl, hq, hM, hBS⟩ := hrel
            have MA := Lib.hid hM
            have BA := Lib.hid hBS
            have QL := Lib.hid hq
            clear hM hBS hq
            by_cases hrt : r < times
            · have s0 : decide ((r : Int) < times) = true := decide_eq_true (by omega)
              have s00 : decide (r < times) = true := decide_eq_true hrt
              have W4 : IntKind.i64.wrap ((r : Int) + 1) = (r : Int) + 1 := IntWalk.i64_in _ (by omega)
              go_wp2_with fail
              go_loop [12, 13] (fun iv qv => ∃ i q : Nat, iv = .int .i64 i ∧ i ≤ u ∧ qv = .int .i64 q ∧ q ≤ (gt S i).l.length ∧ Hid (Many w wa R (fF S i q))) (fun iv _ => u - (intOf iv).toNat)
              case atStart => exact ⟨i, q, rfl, hi, rfl, QL.out, MA⟩
              case round =>
                clear MA QL hi
                obtain ⟨i, q, rfl, hi, rfl, hq, hM⟩ := hrel
                have MA := hM
                have QL := Lib.hid hq
                clear hM hq
                by_cases hiu : i < u
                · have s1 : decide ((i : Int) < u) = true := decide_eq_true (by omega)
                  have s11 : decide (i < u) = true := decide_eq_true hiu
                  have i5 : (i : Int) < u := by omega
                  have W1 : IntKind.i64.wrap ((i : Int) + 1) = (i : Int) + 1 := IntWalk.i64_in _ (by omega)
                  obtain ⟨b, off, rfl, hc⟩ := ls_cell HA.out hiu
                  obtain ⟨x0, hI⟩ := hc wa MA.out.at_
                  have ZL := Lib.hid hI.1
                  by_cases hz : q = (gt S i).k
                  · have MN := Lib.hid (show Many w wa R (fF S (i + 1) 0) by rw [← fF_next (q := q) (by rw [hz]; exact hI.1)]; exact MA.out)
                    have s2 : ((q : Int) == ((gt S i).k : Nat)) = true := by rw [beq_iff_eq, hz]
                    clear hI hc
                    generalize (gt S i).k = z at *
                    generalize (gt S i).A = az at *
                    generalize (gt S i).c = cz at *
                    go_wp2
                    go_round
                    case rel => exact ⟨i + 1, 0, by go_num, by omega, rfl, Nat.zero_le _, MN⟩
                    case measure => simp [intOf]; omega
                  · have s2 : ((q : Int) == ((gt S i).k : Nat)) = false := beq_eq_false_iff_ne.2 (by omega)
                    have s3 : ((i : Int) == (u : Nat)) = false := beq_eq_false_iff_ne.2 (by omega)
                    have ql : q < (gt S i).l.length := by have := QL.out; have := ZL.out; omega
                    have FE := Lib.hid (show fF S i q i = gt (gt S i).l q :: (gt S i).l.drop (q + 1) by rw [fF_at]; exact drop_cons ql)
                    have HC := Lib.hid hc
                    have QLT := Lib.hid ql
                    have W2 : IntKind.i64.wrap ((q : Int) + 1) = (q : Int) + 1 := IntWalk.i64_in _ (by have := KQ.out i hiu; have := ZL.out; omega)
                    have RLu := RL.out
                    clear hI hc ql QL
                    generalize hgk : (gt S i).k = z at *
                    go_wp2_with fail
                    refine (bfirst_some wa A2 u k2 i R (fF S i q) BA.out MA.out.is hiu (fun j hj => fF_lt hj) _ _ FE.out (by omega)).mono ?_
                    rintro e w3 ⟨rfl, q3, k3⟩
                    have M3 := Lib.hid (MA.out.turn (g := fF S i (q + 1)) (i := i) (by omega) (by rw [fF_at]; exact q3) k3 (fun j hj => fF_ne hj))
                    have B3 := Lib.hid (BA.out.turn (MA.out.is i (by omega)) k3)
                    obtain ⟨x3, hI3⟩ := HC.out w3 M3.out.at_
                    have QL3 := QLT.out
                    obtain ⟨b2, off2, ea, -, hc2⟩ := hI3.2 (by have := hI3.1; omega)
                    have y0 := hc2 q (by have := hI3.1; omega)
                    have i7 : (q : Int) < z := by have := hI3.1; omega
                    rw [ea] at x3
                    clear q3 k3 MA BA HC hI3 hc2 ea x0
                    generalize gt (gt S i).l q = xv at *
                    generalize (gt S i).c = cz at *
                    go_wp2
                    go_roundw
                    case rel => exact ⟨r + 1, i, q + 1, by go_num, by omega, rfl, by omega, by go_num, QL3, M3.out, B3.out⟩
                    case measure => simp [intOf]; omega
                · obtain rfl : i = u := by omega
                  have s1 : decide ((i : Int) < i) = false := decide_eq_false (by omega)
                  have s11 : decide (i < i) = false := decide_eq_false (by omega)
                  go_wp2_with fail
                  refine (bfirst_none wa A2 i k2 R (fF S i q) BA.out MA.out.is (fun j hj => fF_lt hj) (by omega)).mono ?_
                  rintro e w3 ⟨rfl, rfl⟩
                  go_wp2
                  go_roundw
                  case rel => exact ⟨r + 1, i, q, by go_num, by omega, rfl, by omega, rfl, QL.out, MA.out, BA.out⟩
                  case measure => simp [intOf]; omega
            · obtain rfl : r = times := by omega
              have s0 : decide ((r : Int) < r) = false := decide_eq_false (by omega)
              have s00 : decide (r < r) = false := decide_eq_false (by omega)
              go_wp2_with fail
              refine MA.out.first.mono ?_
              rintro e w3 ⟨rfl, q3⟩
              have B3 := Lib.hid q3.at_
              clear q3 MA BA
              go_wp2
              go_ret
              exact ⟨rfl, B3.out⟩
end Go.Proofs.Ythonmfoajjhkdaa.Bx
