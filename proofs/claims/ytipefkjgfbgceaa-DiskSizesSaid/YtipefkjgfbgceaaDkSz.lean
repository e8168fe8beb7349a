/- The walk of voklaw14.DiskSizes. -/
import Derived.Test.YtipefkjgfbgceaaDkRo
import Derived.Test.YtipefkjgfbgceaaDkLt
set_option linter.unusedVariables false
namespace Go.Proofs.Ytipefkjgfbgceaa.Dk
open Go.RowKit Fr

set_option maxRecDepth 100000 in
set_option maxHeartbeats 4000000 in
theorem sizes_walk (W : World) (size : Int) (A : Option Addr) (n cc : Nat) (S : List OpS) (to cut : Int) (h : OsAt W A n S) (hn : n ≤ 9223372036854775807) (l1 : -9223372036854775808 ≤ size) (u1 : size ≤ 9223372036854775807) (t1 : -9223372036854775808 ≤ to) (t2 : to ≤ 9223372036854775807) (q1 : -9223372036854775808 ≤ cut) (q2 : cut ≤ 9223372036854775807) :
    Calls Try.prog 7 #[.int .i64 size, .slice A n cc, .int .i64 to, .int .i64 cut] W fun e w' => e = .returned (.bool true) ∧ Below W.heap.size W w' := by
  have H := Lib.hid h
  clear h
  go_enter Try.func7, Try.ntmps7
  go_wp2_with fail
  refine (first_is W).mono ?_
  rintro e w0 ⟨rfl, b0⟩
  have B0 := Lib.hid b0
  have H0 := Lib.hid (H.out.below b0)
  have C1 := played_is w0 size A n cc S H0.out hn l1 u1
  clear b0
  go_wp2_with fail
  refine C1.mono ?_
  intro e w1 hp
  clear C1
  rcases made_of H0.out hp with ⟨rfl, b1⟩ | ⟨p, R, Y, l, L, v, rfl, M⟩
  · have B1 := Lib.hid (B0.out.trans (b1.mono B0.out.size))
    clear b1 hp
    go_wp2_with fail
    refine (first_is w1).mono ?_
    rintro e w2 ⟨rfl, b2⟩
    have G := Lib.hid (B1.out.trans (b2.mono B1.out.size))
    clear b2
    go_wp2
    go_ret
    exact ⟨rfl, G.out⟩
  · have hL := M.len
    have hL2 := M.few
    have r0 := M.r0
    have r1 := M.r1
    have YL := Lib.hid M.y1
    have LEN := Lib.hid hL
    have D1 := Lib.hid M.d
    clear hp M
    have C2 := bytes_is w1 p R Y l v D1.out.d (by omega)
    go_wp2_with fail
    all_goals try (exfalso; omega)
    refine C2.mono ?_
    rintro e w2 ⟨s2, rfl, o9, b9⟩
    clear C2
    obtain ⟨A2, c2, rfl, -, -, -⟩ := own_atN o9 hL
    have Q2 := Lib.hid (Out.of D1.out.d o9)
    have O2 := Lib.hid o9
    have D2 := Lib.hid (D1.out.below b9)
    clear o9 b9
    have C3 := res_is w2 p R Y l v to D2.out.d t1 t2
    by_cases hi : 0 ≤ to ∧ to ≤ 1073741824
    · rw [show resR R to = to from if_pos hi, show resB to = true from decide_eq_true hi] at C3
      obtain ⟨h1, h2⟩ := hi
      go_wp2_with fail
      refine C3.mono ?_
      rintro e w3 ⟨rfl, v3, d3, k3, n3⟩
      clear C3
      have Q3 := Lib.hid (Q2.out.next k3 n3)
      have O3 := Lib.hid (own_out Q2.out O2.out k3)
      have D3 := Lib.hid (D2.out.next d3 k3 n3)
      clear d3 k3 n3
      have C4 := room_is w3 p to Y l v3 D3.out.d
      go_wp2_with fail
      all_goals try (exfalso; omega)
      refine C4.mono ?_
      rintro e w5 ⟨rfl, b5⟩
      clear C4
      have Q5 := Lib.hid (Q3.out.below b5)
      have O5 := Lib.hid (O3.out.on b5)
      have D5 := Lib.hid (D3.out.below b5)
      clear b5
      have C6 := bytes_is w5 p to Y l v3 D5.out.d (by omega)
      go_wp2_with fail
      all_goals try (exfalso; omega)
      refine C6.mono ?_
      rintro e w6 ⟨s6, rfl, o9, b9⟩
      clear C6
      obtain ⟨A6, c6, rfl, a6, -, -⟩ := own_atN o9 hL
      have D6 := Lib.hid (D5.out.below b9)
      have Q6 := Lib.hid (Q5.out.below b9)
      have O6 := Lib.hid (O5.out.on b9)
      obtain ⟨A2', c2', e2, a2, k2, -⟩ := own_atN O6.out hL
      injection e2 with e2 e3 e4
      subst e2; subst e4
      have K2 := Lib.hid k2
      have C7 := vb_is w6 A6 A2 L c6 L c2 l l a6 a2
      rw [show decide (l = l) = true from decide_eq_true rfl] at C7
      clear o9 b9 a6 a2 e3 k2
      go_wp2_with fail
      refine C7.mono ?_
      rintro e w7 ⟨rfl, rfl⟩
      clear C7
      by_cases hs : (L : Int) < to
      · go_wp2_with fail
        all_goals try (exfalso; omega)
        all_goals
          refine (first_is _).mono ?_
          rintro e w9 ⟨rfl, b9⟩
          have G := Lib.hid (B0.out.trans ((D6.out.below b9).at_.mono B0.out.size))
          clear b9
          go_wp2
          go_ret
          exact ⟨rfl, G.out⟩
      · have al := below_alloc w7 (.cells #[.int .u8 1] 5)
        have E6 := Lib.hid (D6.out.below al)
        have QE := Lib.hid (Q6.out.below al)
        have OE := Lib.hid (O6.out.on al)
        have C8 := app_is _ p to Y l v3 _ 1 1 [1] E6.out.d (few_at w7 #[.int .u8 1] 5 [1] rfl rfl) (fun q => by cases q) (by omega) (by decide) h1 (by omega)
        have hf2 : ¬ (l.length : Int) + ([1] : List UInt8).length ≤ to := by rw [hL]; show ¬ (L : Int) + (1 : Nat) ≤ to; omega
        rw [show appL to l [1] = l from if_neg hf2, show appE to l [1] = 9 from if_neg hf2] at C8
        clear hf2 al
        go_wp2_with fail
        all_goals try (exfalso; omega)
        refine C8.mono ?_
        rintro e w8 ⟨rfl, v8, d8, k8, n8⟩
        clear C8
        have D8 := Lib.hid (E6.out.next d8 k8 n8)
        have Q8 := Lib.hid (QE.out.next k8 n8)
        have O8 := Lib.hid (own_out QE.out OE.out k8)
        clear d8 k8 n8
        have C9 := cut_is w8 p to Y l v8 cut D8.out.d (by omega) q1 q2
        by_cases hc : 0 ≤ cut ∧ cut ≤ L
        · have hc2 : 0 ≤ cut ∧ cut ≤ l.length := by rw [hL]; exact hc
          rw [show cutY Y l cut = min Y cut from if_pos hc2, show cutL l cut = l.take cut.toNat from if_pos hc2, show cutB l cut = true from decide_eq_true hc2] at C9
          obtain ⟨hc, hc3⟩ := hc
          clear hc2
          go_wp2_with fail
          all_goals try (exfalso; omega)
          refine C9.mono ?_
          rintro e w9 ⟨rfl, v9, d9, k9, n9⟩
          clear C9
          have D9 := Lib.hid (D8.out.next d9 k9 n9)
          have O9 := Lib.hid (own_out Q8.out O8.out k9)
          clear d9 k9 n9
          obtain ⟨t, rfl⟩ := Int.eq_ofNat_of_zero_le hc
          obtain ⟨y, hy⟩ : ∃ y, min Y (t : Int) = y := ⟨_, rfl⟩
          have hyt : y ≤ (t : Int) := by omega
          rw [hy] at D9
          have D9 : Hid (Dsk w0 w9 p to y (l.take t) v9) := D9
          have q0 : ¬ (t : Int) < 0 := by omega
          have q2 : t ≤ c2 := by have := K2.out; omega
          have q3 : (t : Int) ≤ c2 := by have := K2.out; omega
          have LT := Lib.hid (show (l.take t).length = t by rw [List.length_take]; omega)
          clear hy
          clear hL
          go_wp2
          refine wp_region_late (fun _ => false) (fun v => Below w9.heap.size w9 v) (by kernel_rfl) ?_
          have S0 : Below w9.heap.size w9 w9.drew := (Below.refl _ _).drew
          refine late_oneG 0 rfl (by kernel_rfl) (by kernel_rfl) ?_
          go_simp
          refine (first_is _).mono ?_
          rintro e wa ⟨rfl, ba⟩
          have Sa : Below w9.heap.size w9 wa := S0.trans ba
          (first | refine ⟨Sa, ?_⟩ | refine ⟨.inr Sa, ?_⟩)
          refine tk 1 rfl (.bool true) (.inl ⟨by kernel_rfl, fun w' hs => ?_⟩) Sa ?_
          · go_simp
          refine tk 2 rfl (.bool true) (.inl ⟨by kernel_rfl, fun w' hs => ?_⟩) Sa ?_
          · go_simp
          refine tk 3 rfl (.bool true) (.inl ⟨by kernel_rfl, fun w' hs => ?_⟩) Sa ?_
          · go_simp
          refine tk 4 rfl (.bool true) (.inl ⟨by kernel_rfl, fun w' hs => ?_⟩) Sa ?_
          · go_simp
          refine tk 5 rfl (.bool true) (.inl ⟨by kernel_rfl, fun w' hs => ?_⟩) Sa ?_
          · go_simp
          refine tk 6 rfl (.bool true) (.inl ⟨by kernel_rfl, fun w' hs => ?_⟩) Sa ?_
          · go_simp
          refine tk 7 rfl (.bool true) (.inl ⟨by kernel_rfl, fun w' hs => ?_⟩) Sa ?_
          · go_simp
          refine tk 8 rfl (.bool false) (.inl ⟨by kernel_rfl, fun w' hs => ?_⟩) Sa ?_
          · go_simp
          refine tk 9 rfl (.bool false) (.inl ⟨by kernel_rfl, fun w' hs => ?_⟩) Sa ?_
          · go_simp
          refine tk 10 rfl (.pointer (some ⟨p, 0, none⟩)) (.inl ⟨by kernel_rfl, fun w' hs => ?_⟩) Sa ?_
          · go_simp
          refine tk 12 rfl (.slice A2 L c2) (.inl ⟨by kernel_rfl, fun w' hs => ?_⟩) Sa ?_
          · go_simp
          refine tk 13 rfl (.int .i64 (t : Int)) (.inl ⟨by kernel_rfl, fun w' hs => ?_⟩) Sa ?_
          · go_simp
          refine tk 14 rfl (.slice A2 t c2) (.inl ⟨by kernel_rfl, fun w' hs => ?_⟩) Sa ?_
          · go_simp
          refine late_oneG 11 rfl (by kernel_rfl) (by kernel_rfl) ?_
          go_simp
          refine (bytes_is _ p to _ _ v9 (D9.out.below Sa).d (by have := LT.out; omega)).mono ?_
          rintro e wb ⟨ub, rfl, ob, bb⟩
          obtain ⟨Ab, cb, rfl, ab, -, -⟩ := own_atN ob LT.out
          have Sb : Below w9.heap.size w9 wb := Sa.trans (bb.mono Sa.size)
          obtain ⟨A2', c2', e2, a2, -, -⟩ := own_atN (O9.out.on Sb) (show l.length = L from LEN.out)
          injection e2 with e2 e3 e4
          subst e2; subst e4
          have VB := vb_is wb Ab A2 t cb t c2 (l.take t) (l.take t) ab (a2.take (by omega))
          rw [show decide (l.take t = l.take t) = true from decide_eq_true rfl] at VB
          clear ob bb ab a2 e3
          (first | refine ⟨Sb, ?_⟩ | refine ⟨.inr Sb, ?_⟩)
          refine late_oneG 15 rfl (by kernel_rfl) (by kernel_rfl) ?_
          go_simp
          refine VB.mono ?_
          rintro e wc ⟨rfl, rfl⟩
          clear VB
          (first | refine ⟨Sb, ?_⟩ | refine ⟨.inr Sb, ?_⟩)
          refine tk 16 rfl (.bool true) (.inl ⟨by kernel_rfl, fun w' hs => ?_⟩) Sb ?_
          · go_simp
          refine tk 17 rfl (.bool true) (.inl ⟨by kernel_rfl, fun w' hs => ?_⟩) Sb ?_
          · go_simp
          refine tk 18 rfl (.bool true) (.inl ⟨by kernel_rfl, fun w' hs => ?_⟩) Sb ?_
          · go_simp
          refine tk 19 rfl (.bool true) (.inl ⟨by kernel_rfl, fun w' hs => ?_⟩) Sb ?_
          · go_simp
          refine tk 20 rfl (.bool true) (.inl ⟨by kernel_rfl, fun w' hs => ?_⟩) Sb ?_
          · go_simp
          refine tk 21 rfl undef (.inr ⟨by kernel_rfl, rfl⟩) Sb ?_
          refine tk 22 rfl undef (.inr ⟨by kernel_rfl, rfl⟩) Sb ?_
          refine tk 23 rfl undef (.inr ⟨by kernel_rfl, rfl⟩) Sb ?_
          refine tk 24 rfl undef (.inr ⟨by kernel_rfl, rfl⟩) Sb ?_
          refine tk 25 rfl (.bool true) (.inl ⟨by kernel_rfl, fun w' hs => ?_⟩) Sb ?_
          · go_simp
          refine tk 26 rfl (.bool true) (.inl ⟨by kernel_rfl, fun w' hs => ?_⟩) Sb ?_
          · go_simp
          refine tk 27 rfl (.bool true) (.inl ⟨by kernel_rfl, fun w' hs => ?_⟩) Sb ?_
          · go_simp
          refine tk 28 rfl (.pointer (some ⟨p, 0, none⟩)) (.inl ⟨by kernel_rfl, fun w' hs => ?_⟩) Sb ?_
          · go_simp
          refine tk 30 rfl (.pointer (some ⟨p, 0, none⟩)) (.inl ⟨by kernel_rfl, fun w' hs => ?_⟩) Sb ?_
          · go_simp
          refine late_oneG 29 rfl (by kernel_rfl) (by kernel_rfl) ?_
          go_simp
          refine (synced_is _ p to _ _ v9 (D9.out.below Sb).d).mono ?_
          rintro e wx ⟨rfl, bx⟩
          have Sx : Below w9.heap.size w9 wx := Sb.trans (bx.mono Sb.size)
          (first | refine ⟨Sx, ?_⟩ | refine ⟨.inr Sx, ?_⟩)
          refine late_oneG 31 rfl (by kernel_rfl) (by kernel_rfl) ?_
          go_simp
          refine (bytes_is _ p to _ _ v9 (D9.out.below Sx).d (by have := LT.out; omega)).mono ?_
          rintro e wy ⟨uy, rfl, oy, byy⟩
          obtain ⟨Ay, cy, rfl, -, -, -⟩ := own_atN oy LT.out
          have Sy : Below w9.heap.size w9 wy := Sx.trans (byy.mono Sx.size)
          clear oy byy
          (first | refine ⟨Sy, ?_⟩ | refine ⟨.inr Sy, ?_⟩)
          refine tk 32 rfl (.int .i64 (t : Nat)) (.inl ⟨by kernel_rfl, fun w' hs => ?_⟩) Sy ?_
          · go_simp
          refine tk 33 rfl (.bool true) (.inl ⟨by kernel_rfl, fun w' hs => ?_⟩) Sy ?_
          · go_simp
          refine tk 34 rfl (.bool true) (.inl ⟨by kernel_rfl, fun w' hs => ?_⟩) Sy ?_
          · go_simp
          refine tk 35 rfl (.bool true) (.inl ⟨by kernel_rfl, fun w' hs => ?_⟩) Sy ?_
          · go_simp
          refine Late.done (by kernel_rfl) ?_
          have G := Lib.hid (B0.out.trans ((D9.out.below Sy).at_.mono B0.out.size))
          go_simp
          go_wp2
          go_ret
          exact ⟨rfl, G.out⟩
        · have hc2 : ¬ (0 ≤ cut ∧ cut ≤ l.length) := by rw [hL]; exact hc
          rw [show cutY Y l cut = Y from if_neg hc2, show cutL l cut = l from if_neg hc2, show cutB l cut = false from decide_eq_false hc2] at C9
          clear hc2
          by_cases hc4 : 0 ≤ cut
          · have hc3 : ¬ cut ≤ L := fun h => hc ⟨hc4, h⟩
            clear hc
            go_wp2_with fail
            all_goals try (exfalso; omega)
            refine C9.mono ?_
            rintro e w9 ⟨rfl, v9, d9, k9, n9⟩
            clear C9
            have D9 := Lib.hid (D8.out.next d9 k9 n9)
            have O9 := Lib.hid (own_out Q8.out O8.out k9)
            clear d9 k9 n9
            have LT := Lib.hid hL
            have hYL := YL.out
            clear hL
            go_wp2
            refine wp_region_late (fun _ => false) (fun v => Below w9.heap.size w9 v) (by kernel_rfl) ?_
            have S0 : Below w9.heap.size w9 w9.drew := (Below.refl _ _).drew
            refine late_oneG 0 rfl (by kernel_rfl) (by kernel_rfl) ?_
            go_simp
            refine (first_is _).mono ?_
            rintro e wa ⟨rfl, ba⟩
            have Sa : Below w9.heap.size w9 wa := S0.trans ba
            (first | refine ⟨Sa, ?_⟩ | refine ⟨.inr Sa, ?_⟩)
            refine tk 1 rfl (.bool true) (.inl ⟨by kernel_rfl, fun w' hs => ?_⟩) Sa ?_
            · go_simp
            refine tk 2 rfl (.bool false) (.inl ⟨by kernel_rfl, fun w' hs => ?_⟩) Sa ?_
            · go_simp
            refine tk 3 rfl (.bool false) (.inl ⟨by kernel_rfl, fun w' hs => ?_⟩) Sa ?_
            · go_simp
            refine tk 4 rfl (.bool true) (.inl ⟨by kernel_rfl, fun w' hs => ?_⟩) Sa ?_
            · go_simp
            refine tk 5 rfl (.bool true) (.inl ⟨by kernel_rfl, fun w' hs => ?_⟩) Sa ?_
            · go_simp
            refine tk 6 rfl (.bool true) (.inl ⟨by kernel_rfl, fun w' hs => ?_⟩) Sa ?_
            · go_simp
            refine tk 7 rfl (.bool false) (.inl ⟨by kernel_rfl, fun w' hs => ?_⟩) Sa ?_
            · go_simp
            refine tk 8 rfl (.bool true) (.inl ⟨by kernel_rfl, fun w' hs => ?_⟩) Sa ?_
            · go_simp
            refine tk 9 rfl (.bool true) (.inl ⟨by kernel_rfl, fun w' hs => ?_⟩) Sa ?_
            · go_simp
            refine tk 10 rfl undef (.inr ⟨by kernel_rfl, rfl⟩) Sa ?_
            refine tk 11 rfl undef (.inr ⟨by kernel_rfl, rfl⟩) Sa ?_
            refine tk 12 rfl undef (.inr ⟨by kernel_rfl, rfl⟩) Sa ?_
            refine tk 13 rfl undef (.inr ⟨by kernel_rfl, rfl⟩) Sa ?_
            refine tk 14 rfl undef (.inr ⟨by kernel_rfl, rfl⟩) Sa ?_
            refine tk 15 rfl undef (.inr ⟨by kernel_rfl, rfl⟩) Sa ?_
            refine tk 16 rfl (.bool true) (.inl ⟨by kernel_rfl, fun w' hs => ?_⟩) Sa ?_
            · go_simp
            refine tk 17 rfl (.bool true) (.inl ⟨by kernel_rfl, fun w' hs => ?_⟩) Sa ?_
            · go_simp
            refine tk 18 rfl (.bool true) (.inl ⟨by kernel_rfl, fun w' hs => ?_⟩) Sa ?_
            · go_simp
            refine tk 19 rfl (.bool false) (.inl ⟨by kernel_rfl, fun w' hs => ?_⟩) Sa ?_
            · go_simp
            refine tk 20 rfl (.bool false) (.inl ⟨by kernel_rfl, fun w' hs => ?_⟩) Sa ?_
            · go_simp
            refine tk 21 rfl (.pointer (some ⟨p, 0, none⟩)) (.inl ⟨by kernel_rfl, fun w' hs => ?_⟩) Sa ?_
            · go_simp
            refine tk 23 rfl (.slice A2 L c2) (.inl ⟨by kernel_rfl, fun w' hs => ?_⟩) Sa ?_
            · go_simp
            refine late_oneG 22 rfl (by kernel_rfl) (by kernel_rfl) ?_
            go_simp
            refine (bytes_is _ p to _ _ v9 (D9.out.below Sa).d (by have := LT.out; omega)).mono ?_
            rintro e wb ⟨ub, rfl, ob, bb⟩
            obtain ⟨Ab, cb, rfl, ab, -, -⟩ := own_atN ob LT.out
            have Sb : Below w9.heap.size w9 wb := Sa.trans (bb.mono Sa.size)
            obtain ⟨A2', c2', e2, a2, -, -⟩ := own_atN (O9.out.on Sb) LT.out
            injection e2 with e2 e3 e4
            subst e2; subst e4
            have VB := vb_is wb Ab A2 L cb L c2 l l ab a2
            rw [show decide (l = l) = true from decide_eq_true rfl] at VB
            clear ob bb ab a2 e3
            (first | refine ⟨Sb, ?_⟩ | refine ⟨.inr Sb, ?_⟩)
            refine late_oneG 24 rfl (by kernel_rfl) (by kernel_rfl) ?_
            go_simp
            refine VB.mono ?_
            rintro e wc ⟨rfl, rfl⟩
            clear VB
            (first | refine ⟨Sb, ?_⟩ | refine ⟨.inr Sb, ?_⟩)
            refine tk 25 rfl (.bool true) (.inl ⟨by kernel_rfl, fun w' hs => ?_⟩) Sb ?_
            · go_simp
            refine tk 26 rfl (.bool true) (.inl ⟨by kernel_rfl, fun w' hs => ?_⟩) Sb ?_
            · go_simp
            refine tk 27 rfl (.bool true) (.inl ⟨by kernel_rfl, fun w' hs => ?_⟩) Sb ?_
            · go_simp
            refine tk 28 rfl (.pointer (some ⟨p, 0, none⟩)) (.inl ⟨by kernel_rfl, fun w' hs => ?_⟩) Sb ?_
            · go_simp
            refine tk 30 rfl (.pointer (some ⟨p, 0, none⟩)) (.inl ⟨by kernel_rfl, fun w' hs => ?_⟩) Sb ?_
            · go_simp
            refine late_oneG 29 rfl (by kernel_rfl) (by kernel_rfl) ?_
            go_simp
            refine (synced_is _ p to _ _ v9 (D9.out.below Sb).d).mono ?_
            rintro e wx ⟨rfl, bx⟩
            have Sx : Below w9.heap.size w9 wx := Sb.trans (bx.mono Sb.size)
            (first | refine ⟨Sx, ?_⟩ | refine ⟨.inr Sx, ?_⟩)
            refine late_oneG 31 rfl (by kernel_rfl) (by kernel_rfl) ?_
            go_simp
            refine (bytes_is _ p to _ _ v9 (D9.out.below Sx).d (by have := LT.out; omega)).mono ?_
            rintro e wy ⟨uy, rfl, oy, byy⟩
            obtain ⟨Ay, cy, rfl, -, -, -⟩ := own_atN oy LT.out
            have Sy : Below w9.heap.size w9 wy := Sx.trans (byy.mono Sx.size)
            clear oy byy
            (first | refine ⟨Sy, ?_⟩ | refine ⟨.inr Sy, ?_⟩)
            refine tk 32 rfl (.int .i64 (L : Nat)) (.inl ⟨by kernel_rfl, fun w' hs => ?_⟩) Sy ?_
            · go_simp
            refine tk 33 rfl (.bool true) (.inl ⟨by kernel_rfl, fun w' hs => ?_⟩) Sy ?_
            · go_simp
            refine tk 34 rfl (.bool true) (.inl ⟨by kernel_rfl, fun w' hs => ?_⟩) Sy ?_
            · go_simp
            refine tk 35 rfl (.bool true) (.inl ⟨by kernel_rfl, fun w' hs => ?_⟩) Sy ?_
            · go_simp
            refine Late.done (by kernel_rfl) ?_
            have G := Lib.hid (B0.out.trans ((D9.out.below Sy).at_.mono B0.out.size))
            go_simp
            go_wp2
            go_ret
            exact ⟨rfl, G.out⟩
          · clear hc
            go_wp2_with fail
            all_goals try (exfalso; omega)
            refine C9.mono ?_
            rintro e w9 ⟨rfl, v9, d9, k9, n9⟩
            clear C9
            have D9 := Lib.hid (D8.out.next d9 k9 n9)
            have O9 := Lib.hid (own_out Q8.out O8.out k9)
            clear d9 k9 n9
            have LT := Lib.hid hL
            have hYL := YL.out
            clear hL
            go_wp2
            refine wp_region_late (fun _ => false) (fun v => Below w9.heap.size w9 v) (by kernel_rfl) ?_
            have S0 : Below w9.heap.size w9 w9.drew := (Below.refl _ _).drew
            refine late_oneG 0 rfl (by kernel_rfl) (by kernel_rfl) ?_
            go_simp
            refine (first_is _).mono ?_
            rintro e wa ⟨rfl, ba⟩
            have Sa : Below w9.heap.size w9 wa := S0.trans ba
            (first | refine ⟨Sa, ?_⟩ | refine ⟨.inr Sa, ?_⟩)
            refine tk 1 rfl (.bool true) (.inl ⟨by kernel_rfl, fun w' hs => ?_⟩) Sa ?_
            · go_simp
            refine tk 2 rfl (.bool false) (.inl ⟨by kernel_rfl, fun w' hs => ?_⟩) Sa ?_
            · go_simp
            refine tk 3 rfl (.bool false) (.inl ⟨by kernel_rfl, fun w' hs => ?_⟩) Sa ?_
            · go_simp
            refine tk 4 rfl (.bool true) (.inl ⟨by kernel_rfl, fun w' hs => ?_⟩) Sa ?_
            · go_simp
            refine tk 5 rfl (.bool true) (.inl ⟨by kernel_rfl, fun w' hs => ?_⟩) Sa ?_
            · go_simp
            refine tk 6 rfl (.bool true) (.inl ⟨by kernel_rfl, fun w' hs => ?_⟩) Sa ?_
            · go_simp
            refine tk 7 rfl (.bool false) (.inl ⟨by kernel_rfl, fun w' hs => ?_⟩) Sa ?_
            · go_simp
            refine tk 8 rfl (.bool true) (.inl ⟨by kernel_rfl, fun w' hs => ?_⟩) Sa ?_
            · go_simp
            refine tk 9 rfl (.bool true) (.inl ⟨by kernel_rfl, fun w' hs => ?_⟩) Sa ?_
            · go_simp
            refine tk 10 rfl undef (.inr ⟨by kernel_rfl, rfl⟩) Sa ?_
            refine tk 11 rfl undef (.inr ⟨by kernel_rfl, rfl⟩) Sa ?_
            refine tk 12 rfl undef (.inr ⟨by kernel_rfl, rfl⟩) Sa ?_
            refine tk 13 rfl undef (.inr ⟨by kernel_rfl, rfl⟩) Sa ?_
            refine tk 14 rfl undef (.inr ⟨by kernel_rfl, rfl⟩) Sa ?_
            refine tk 15 rfl undef (.inr ⟨by kernel_rfl, rfl⟩) Sa ?_
            refine tk 16 rfl (.bool true) (.inl ⟨by kernel_rfl, fun w' hs => ?_⟩) Sa ?_
            · go_simp
            refine tk 17 rfl (.bool true) (.inl ⟨by kernel_rfl, fun w' hs => ?_⟩) Sa ?_
            · go_simp
            refine tk 18 rfl (.bool true) (.inl ⟨by kernel_rfl, fun w' hs => ?_⟩) Sa ?_
            · go_simp
            refine tk 19 rfl (.bool false) (.inl ⟨by kernel_rfl, fun w' hs => ?_⟩) Sa ?_
            · go_simp
            refine tk 20 rfl (.bool false) (.inl ⟨by kernel_rfl, fun w' hs => ?_⟩) Sa ?_
            · go_simp
            refine tk 21 rfl (.pointer (some ⟨p, 0, none⟩)) (.inl ⟨by kernel_rfl, fun w' hs => ?_⟩) Sa ?_
            · go_simp
            refine tk 23 rfl (.slice A2 L c2) (.inl ⟨by kernel_rfl, fun w' hs => ?_⟩) Sa ?_
            · go_simp
            refine late_oneG 22 rfl (by kernel_rfl) (by kernel_rfl) ?_
            go_simp
            refine (bytes_is _ p to _ _ v9 (D9.out.below Sa).d (by have := LT.out; omega)).mono ?_
            rintro e wb ⟨ub, rfl, ob, bb⟩
            obtain ⟨Ab, cb, rfl, ab, -, -⟩ := own_atN ob LT.out
            have Sb : Below w9.heap.size w9 wb := Sa.trans (bb.mono Sa.size)
            obtain ⟨A2', c2', e2, a2, -, -⟩ := own_atN (O9.out.on Sb) LT.out
            injection e2 with e2 e3 e4
            subst e2; subst e4
            have VB := vb_is wb Ab A2 L cb L c2 l l ab a2
            rw [show decide (l = l) = true from decide_eq_true rfl] at VB
            clear ob bb ab a2 e3
            (first | refine ⟨Sb, ?_⟩ | refine ⟨.inr Sb, ?_⟩)
            refine late_oneG 24 rfl (by kernel_rfl) (by kernel_rfl) ?_
            go_simp
            refine VB.mono ?_
            rintro e wc ⟨rfl, rfl⟩
            clear VB
            (first | refine ⟨Sb, ?_⟩ | refine ⟨.inr Sb, ?_⟩)
            refine tk 25 rfl (.bool true) (.inl ⟨by kernel_rfl, fun w' hs => ?_⟩) Sb ?_
            · go_simp
            refine tk 26 rfl (.bool true) (.inl ⟨by kernel_rfl, fun w' hs => ?_⟩) Sb ?_
            · go_simp
            refine tk 27 rfl (.bool true) (.inl ⟨by kernel_rfl, fun w' hs => ?_⟩) Sb ?_
            · go_simp
            refine tk 28 rfl (.pointer (some ⟨p, 0, none⟩)) (.inl ⟨by kernel_rfl, fun w' hs => ?_⟩) Sb ?_
            · go_simp
            refine tk 30 rfl (.pointer (some ⟨p, 0, none⟩)) (.inl ⟨by kernel_rfl, fun w' hs => ?_⟩) Sb ?_
            · go_simp
            refine late_oneG 29 rfl (by kernel_rfl) (by kernel_rfl) ?_
            go_simp
            refine (synced_is _ p to _ _ v9 (D9.out.below Sb).d).mono ?_
            rintro e wx ⟨rfl, bx⟩
            have Sx : Below w9.heap.size w9 wx := Sb.trans (bx.mono Sb.size)
            (first | refine ⟨Sx, ?_⟩ | refine ⟨.inr Sx, ?_⟩)
            refine late_oneG 31 rfl (by kernel_rfl) (by kernel_rfl) ?_
            go_simp
            refine (bytes_is _ p to _ _ v9 (D9.out.below Sx).d (by have := LT.out; omega)).mono ?_
            rintro e wy ⟨uy, rfl, oy, byy⟩
            obtain ⟨Ay, cy, rfl, -, -, -⟩ := own_atN oy LT.out
            have Sy : Below w9.heap.size w9 wy := Sx.trans (byy.mono Sx.size)
            clear oy byy
            (first | refine ⟨Sy, ?_⟩ | refine ⟨.inr Sy, ?_⟩)
            refine tk 32 rfl (.int .i64 (L : Nat)) (.inl ⟨by kernel_rfl, fun w' hs => ?_⟩) Sy ?_
            · go_simp
            refine tk 33 rfl (.bool true) (.inl ⟨by kernel_rfl, fun w' hs => ?_⟩) Sy ?_
            · go_simp
            refine tk 34 rfl (.bool true) (.inl ⟨by kernel_rfl, fun w' hs => ?_⟩) Sy ?_
            · go_simp
            refine tk 35 rfl (.bool true) (.inl ⟨by kernel_rfl, fun w' hs => ?_⟩) Sy ?_
            · go_simp
            refine Late.done (by kernel_rfl) ?_
            have G := Lib.hid (B0.out.trans ((D9.out.below Sy).at_.mono B0.out.size))
            go_simp
            go_wp2
            go_ret
            exact ⟨rfl, G.out⟩
    · rw [show resR R to = R from if_neg hi, show resB to = false from decide_eq_false hi] at C3
      go_wp2_with fail
      refine C3.mono ?_
      rintro e w5 ⟨rfl, v5, d5, k5, n5⟩
      clear C3
      have O5 := Lib.hid (own_out Q2.out O2.out k5)
      have D5 := Lib.hid (D2.out.next d5 k5 n5)
      clear d5 k5 n5
      by_cases h1 : 0 ≤ to
      · have h2 : ¬ to ≤ 1073741824 := fun h => hi ⟨h1, h⟩
        clear hi
        have C6 := bytes_is w5 p R Y l v5 D5.out.d (by omega)
        go_wp2_with fail
        all_goals try (exfalso; omega)
        refine C6.mono ?_
        rintro e w6 ⟨s6, rfl, o9, b9⟩
        clear C6
        obtain ⟨A6, c6, rfl, a6, -, -⟩ := own_atN o9 hL
        have D6 := Lib.hid (D5.out.below b9)
        have O6 := Lib.hid (O5.out.on b9)
        obtain ⟨A2', c2', e2, a2, k2, -⟩ := own_atN O6.out hL
        injection e2 with e2 e3 e4
        subst e2; subst e4
        have K2 := Lib.hid k2
        have C7 := vb_is w6 A6 A2 L c6 L c2 l l a6 a2
        rw [show decide (l = l) = true from decide_eq_true rfl] at C7
        clear o9 b9 a6 a2 e3 k2
        go_wp2_with fail
        refine C7.mono ?_
        rintro e w7 ⟨rfl, rfl⟩
        clear C7
        go_wp2_with fail
        all_goals try (exfalso; omega)
        all_goals
          refine (first_is _).mono ?_
          rintro e w9 ⟨rfl, b9⟩
          have G := Lib.hid (B0.out.trans ((D6.out.below b9).at_.mono B0.out.size))
          clear b9
          go_wp2
          go_ret
          exact ⟨rfl, G.out⟩
      · clear hi
        have C6 := bytes_is w5 p R Y l v5 D5.out.d (by omega)
        go_wp2_with fail
        all_goals try (exfalso; omega)
        refine C6.mono ?_
        rintro e w6 ⟨s6, rfl, o9, b9⟩
        clear C6
        obtain ⟨A6, c6, rfl, a6, -, -⟩ := own_atN o9 hL
        have D6 := Lib.hid (D5.out.below b9)
        have O6 := Lib.hid (O5.out.on b9)
        obtain ⟨A2', c2', e2, a2, k2, -⟩ := own_atN O6.out hL
        injection e2 with e2 e3 e4
        subst e2; subst e4
        have K2 := Lib.hid k2
        have C7 := vb_is w6 A6 A2 L c6 L c2 l l a6 a2
        rw [show decide (l = l) = true from decide_eq_true rfl] at C7
        clear o9 b9 a6 a2 e3 k2
        go_wp2_with fail
        refine C7.mono ?_
        rintro e w7 ⟨rfl, rfl⟩
        clear C7
        go_wp2_with fail
        all_goals try (exfalso; omega)
        all_goals
          refine (first_is _).mono ?_
          rintro e w9 ⟨rfl, b9⟩
          have G := Lib.hid (B0.out.trans ((D6.out.below b9).at_.mono B0.out.size))
          clear b9
          go_wp2
          go_ret
          exact ⟨rfl, G.out⟩
end Go.Proofs.Ytipefkjgfbgceaa.Dk
