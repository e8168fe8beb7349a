/- The walk of voklaw14.DiskRoom. -/
import Derived.Test.YtipefkjgfbgceaaDkSy
set_option linter.unusedVariables false
namespace Go.Proofs.Ytipefkjgfbgceaa.Dk
open Go.RowKit Fr

theorem list_met {P : Program} {ops : Array Oper} {Q : Exit → Act → World → Prop} {a : Act} {w : World} {rest : List Oper} {o : Oper} (hg : Region.wanted o (yielded ops a.tmps) = true)
    (h : ∀ K : Act → World → Prop, (∀ a w, wpList P ops Q rest a w → K a w) → o.wp P a w K Q) : wpList P ops Q (o :: rest) a w :=
  wpList_step fun K hK => by rw [if_pos hg]; exact h K hK
/-- append to a slice of the call's own, where the operation has a guard -/
theorem append_g {ops : Array Oper} {rest : List Oper} {o : Oper} {a : Act} {Q : Exit → Act → World → Prop} {B : Nat} {w : World} (hgd : Region.wanted o (yielded ops a.tmps) = true) (s x : Operand)
    (ho : o.op = .call { callee := .builtin .append, args := #[s, x], argTypes := #[30, 30] })
    (v : Value) (l : List UInt8) (hs : a.eval s = v) (hown : OwnB B w v l) (hB : B ≤ w.heap.size) (A : Option Addr) (m c : Nat) (k : List UInt8) (hx : a.eval x = .slice A m c) (hk : BsAt w A m k) (hc : A = none → c = 0) (hl : l.length + m ≤ 1000000)
    (h : ∀ v' w', OwnB B w' v' (l ++ k) → Below B w w' → wpList Try.prog ops Q rest (a.put o.dst v') w') : wpList Try.prog ops Q (o :: rest) a w := by
  obtain ⟨i0, hi, hz0, hz1, hz2⟩ := info_parts info_u8
  obtain ⟨ek, hc2⟩ := hk
  refine list_met hgd fun K hK => ?_
  cases A with
  | none =>
    obtain rfl := hc rfl
    have hm : m = 0 := by
      by_cases h0 : 0 < m
      · obtain ⟨b, off, e, _⟩ := hc2 h0; cases e
      · omega
    subst hm
    have e : k = [] := List.length_eq_zero_iff.1 ek.symm
    subst e
    have hrun := run_append_owned_none (P := Try.prog) (w := w) B 30 o.type 5 i0 1 Try.underlying30 hi v l.length (Lib.byteCells l) hown
    unfold Oper.wp
    simp [execOp, ho, resolve, invoke, builtin, hs, hx, hrun, Result.andThen]
    exact hK _ _ (h v w (by rw [List.append_nil]; exact hown) (Below.refl _ _))
  | some ad =>
    obtain ⟨v', w', hr, h2, h3, h4, h5⟩ := run_append_own_at (P := Try.prog) w B 30 o.type 5 i0 (.int .u8 0) 1 1 Try.underlying30 hi hz0 hz1 hz2 rfl (by decide) v l.length (Lib.byteCells l) hown
      ad m c (Lib.byteCells k) (by simp [Lib.byteCells, ek]) (fun j u hj => by
        have hjk : j < k.length := by
          rcases Nat.lt_or_ge j k.length with g | g
          · exact g
          · rw [List.getElem?_eq_none (by simpa [Lib.byteCells] using g)] at hj; cases hj
        obtain ⟨b, off, e, hlt, hcc⟩ := hc2 (by omega)
        injection e with e
        subst e
        rw [addr_off, hcc j (by omega), ← byteCells_at k j hjk, hj]) (byteCells_one k) (by unfold maxLen; omega) (by omega) hB
    unfold Oper.wp execOp
    simp only [ho, resolve, invoke, builtin, Sem.run_bind, Sem.run_pure, Result.andThen_ok, List.map_toArray, List.map_cons, List.map_nil, hs, hx, hr]
    refine hK _ _ (h v' w' ?_ ((Kp.grown (F := fun g => B ≤ g) h3 fun g hg => (World.ownsRow.lt hown g hg).1).below hB fun _ z => z))
    unfold OwnB
    rw [List.length_append, byteCells_append, ← ek]
    exact h2
set_option maxRecDepth 100000 in
set_option maxHeartbeats 4000000 in
theorem room_walk (W : World) (size : Int) (A : Option Addr) (n cc : Nat) (S : List OpS) (B : Option Addr) (m cb : Nat) (b : List UInt8) (h : OsAt W A n S) (hn : n ≤ 9223372036854775807) (l1 : -9223372036854775808 ≤ size) (u1 : size ≤ 9223372036854775807) (hb : BsAt W B m b) (hB : B = none → cb = 0) (hm : m ≤ 9223372036854775807) :
    Calls Try.prog 5 #[.int .i64 size, .slice A n cc, .slice B m cb] W fun e w' => e = .returned (.bool true) ∧ Below W.heap.size W w' := by
  have H := Lib.hid h
  have K := Lib.hid hb
  have KB := Lib.hid hB
  clear h hb hB
  go_enter Try.func5, Try.ntmps5
  go_wp2_with fail
  refine (first_is W).mono ?_
  rintro e w0 ⟨rfl, b0⟩
  have B0 := Lib.hid b0
  have H0 := Lib.hid (H.out.below b0)
  have K0 := Lib.hid (K.out.below b0)
  have C1 := played_is w0 size A n cc S H0.out hn l1 u1
  clear b0
  go_wp2_with fail
  refine C1.mono ?_
  intro e w1 hp
  clear C1
  rcases made_of H0.out hp with ⟨rfl, b1⟩ | ⟨p, R, Y, l, L, v, rfl, M⟩
  · have B1 := Lib.hid (B0.out.trans (b1.mono B0.out.size))
    clear b1 hp
    go_wp2_with fail
    refine (first_is w1).mono ?_
    rintro e w2 ⟨rfl, b2⟩
    have G := Lib.hid (B1.out.trans (b2.mono B1.out.size))
    clear b2
    go_wp2
    go_ret
    exact ⟨rfl, G.out⟩
  · have hL := M.len
    have hL2 := M.few
    have r0 := M.r0
    have r1 := M.r1
    have D1 := Lib.hid M.d
    clear hp M
    by_cases i1 : m ≤ 20000
    · have C2 := bytes_is w1 p R Y l v D1.out.d (by omega)
      go_wp2_with fail
      all_goals try (exfalso; omega)
      refine C2.mono ?_
      rintro e w2 ⟨s2, rfl, o2, b2⟩
      clear C2
      obtain ⟨A2, c2, rfl, -, -, -⟩ := own_atN o2 hL
      have Q2 := Lib.hid (Out.of D1.out.d o2)
      have O2 := Lib.hid o2
      have D2 := Lib.hid (D1.out.below b2)
      clear o2 b2
      have C3 := synced_is w2 p R Y l v D2.out.d
      go_wp2_with fail
      refine C3.mono ?_
      rintro e w3 ⟨rfl, b3⟩
      clear C3
      have Q3 := Lib.hid (Q2.out.below b3)
      have O3 := Lib.hid (O2.out.on b3)
      have D3 := Lib.hid (D2.out.below b3)
      clear b3
      have C4 := room_is w3 p R Y l v D3.out.d
      go_wp2_with fail
      refine C4.mono ?_
      rintro e w4 ⟨rfl, b4⟩
      clear C4
      have Q4 := Lib.hid (Q3.out.below b4)
      have O4 := Lib.hid (O3.out.on b4)
      have D4 := Lib.hid (D3.out.below b4)
      clear b4
-- WAYS
      have HBM := Lib.hid (show m = b.length from K.out.1)
      by_cases hf : (L : Int) + m ≤ R
      · have i2 : (L : Int) ≤ R := by omega
        have i3 : (m : Int) ≤ R - L := by omega
        have C5 := room_is w4 p R Y l v D4.out.d
        go_wp2_with fail
        all_goals try (exfalso; omega)
        refine C5.mono ?_
        rintro e w5 ⟨rfl, b5⟩
        clear C5
        have Q5 := Lib.hid (Q4.out.below b5)
        have O5 := Lib.hid (O4.out.on b5)
        have D5 := Lib.hid (D4.out.below b5)
        clear b5
        have C6 := app_is w5 p R Y l v B m cb b D5.out.d (K0.out.below D5.out.at_) KB.out (by omega) (by omega) r0 (by omega)
        have hf2 : (l.length : Int) + b.length ≤ R := by have := HBM.out; omega
        rw [show appL R l b = l ++ b from if_pos hf2, show appE R l b = 0 from if_pos hf2] at C6
        have hX0 : (l ++ b).length = L + m := by rw [List.length_append]; have := HBM.out; omega
        obtain ⟨X, HX⟩ : ∃ X, l ++ b = X := ⟨_, rfl⟩
        obtain ⟨N, HN⟩ : ∃ N, L + m = N := ⟨_, rfl⟩
        have hX : X.length = N := by rw [← HX, ← HN]; exact hX0
        have HX := Lib.hid HX
        have hN : N ≤ 40000 := by omega
        rw [HX.out] at C6
        clear hf2 hX0 HN
        go_wp2_with fail
        all_goals try (exfalso; omega)
        refine C6.mono ?_
        rintro e w6 ⟨rfl, v6, d6, k6, n6⟩
        clear C6
        have Q6 := Lib.hid (Q5.out.next k6 n6)
        have O6 := Lib.hid (own_out Q5.out O5.out k6)
        have D6 := Lib.hid (D5.out.next d6 k6 n6)
        clear d6 k6 n6
        have C7 := bytes_is w6 p R Y X v6 D6.out.d (by omega)
        go_wp2_with fail
        refine C7.mono ?_
        rintro e w7 ⟨s7, rfl, o7, b7⟩
        clear C7
        obtain ⟨A7, c7, rfl, -, -, -⟩ := own_atN o7 hX
        have P7 := Lib.hid (Out.of D6.out.d o7)
        have R7 := Lib.hid o7
        have O7 := Lib.hid (O6.out.on b7)
        have D7 := Lib.hid (D6.out.below b7)
        clear o7 b7
        have C8 := synced_is w7 p R Y X v6 D7.out.d
        go_wp2_with fail
        all_goals try (exfalso; omega)
        refine C8.mono ?_
        rintro e w8 ⟨rfl, b8⟩
        clear C8
        have P8 := Lib.hid (P7.out.below b8)
        have R8 := Lib.hid (R7.out.on b8)
        have O8 := Lib.hid (O7.out.on b8)
        have D8 := Lib.hid (D7.out.below b8)
        clear b8
        obtain ⟨A2', c2', e2, a2, -, z2⟩ := own_atN O8.out hL
        injection e2 with e2 e3 e4
        subst e2; subst e4
        obtain ⟨A7', c7', e5, a7, -, -⟩ := own_atN R8.out hX
        injection e5 with e5 e6 e7
        subst e5; subst e7
        have I2 := Lib.hid a2
        have I7 := Lib.hid a7
        have Z2 := Lib.hid z2
        clear e3 e6 a2 a7 z2
        have C9 := copy_is w8 A2 L c2 l I2.out Z2.out (by omega)
        go_wp2_with fail
        refine C9.mono ?_
        rintro e w9 ⟨s9, rfl, o9, b9⟩
        clear C9
        have D9 := Lib.hid (D8.out.below b9)
        have O9 := Lib.hid o9
        have X9 := Lib.hid b9
        clear o9 b9
        go_wp2_with (refine append_g (by go_simp) _ _ rfl _ l (by go_simp) O9.out X9.out.size B m cb b (by go_simp) (K0.out.below D9.out.at_) KB.out (by omega) ?_)
        intro s10 w10 o10 g10
        have b10 := X9.out.trans g10
        try rw [HX.out] at o10
        obtain ⟨A10, c10, rfl, a10, -, -⟩ := own_atN o10 hX
        have C11 := vb_is w10 A7 A10 N c7 N c10 X X (I7.out.below b10) a10
        rw [show decide (X = X) = true from decide_eq_true rfl] at C11
        have DN := Lib.hid (D8.out.below b10)
        have ON := Lib.hid (R8.out.on b10)
        have QN := Lib.hid (P8.out.below b10)
        clear o10 g10 b10 a10 X9 O9 D9
        go_wp2_with fail
        refine C11.mono ?_
        rintro e w11 ⟨rfl, rfl⟩
        clear C11
        have C12 := swap_is _ p R Y X v6 B m cb b DN.out.d (K0.out.below DN.out.at_) KB.out (by omega)
        by_cases hs : m ≤ R
        · have hs2 : (b.length : Int) ≤ R := by have := HBM.out; omega
          rw [show swY R Y b = (m : Nat) by unfold swY; rw [if_pos hs2, HBM.out], show swL R X b = b from if_pos hs2, show swE R b = 0 from if_pos hs2] at C12
          clear hs2
          go_wp2_with fail
          refine C12.mono ?_
          rintro e w12 ⟨rfl, v12, d12, k12, n12⟩
          clear C12
          have D12 := Lib.hid (DN.out.next d12 k12 n12)
          clear d12 k12 n12
          have C13 := crash_is w12 p R m b v12 0 D12.out.d (by have := HBM.out; omega) (by omega) (by have := HBM.out; omega) (by decide) (by decide)
          rw [show crN m b 0 = (m : Nat) by have := HBM.out; unfold crN; omega, Int.toNat_natCast, List.take_of_length_le (by have := HBM.out; omega : b.length ≤ m)] at C13
          go_wp2_with fail
          refine C13.mono ?_
          rintro e w13 ⟨rfl, v13, d13, k13, n13⟩
          clear C13
          have D13 := Lib.hid (D12.out.next d13 k13 n13)
          clear d13 k13 n13
          go_wp2_with fail
          refine (first_is w13).mono ?_
          rintro e w14 ⟨rfl, b14⟩
          have D14 := Lib.hid (D13.out.below b14)
          clear b14
          have C15 := bytes_is w14 p R m b v13 D14.out.d (by have := HBM.out; omega)
          go_wp2_with fail
          refine C15.mono ?_
          rintro e w15 ⟨s15, rfl, o15, b15⟩
          clear C15
          obtain ⟨A15, c15, rfl, a15, -, -⟩ := own_atN o15 HBM.out.symm
          have D15 := Lib.hid (D14.out.below b15)
          have C16 := vb_is w15 A15 B m c15 m cb b b a15 (K0.out.below D15.out.at_)
          rw [show decide (b = b) = true from decide_eq_true rfl] at C16
          clear a15 o15 b15
          go_wp2_with fail
          refine C16.mono ?_
          rintro e w16 ⟨rfl, rfl⟩
          clear C16
          have C17 := synced_is w16 p R m b v13 D15.out.d
          go_wp2_with fail
          refine C17.mono ?_
          rintro e w17 ⟨rfl, b17⟩
          have G := Lib.hid (B0.out.trans ((D15.out.below b17).at_.mono B0.out.size))
          clear C17 b17
          go_wp2
          all_goals first
            | (exfalso; omega)
            | (go_ret; exact ⟨by first | rfl | (refine ret_bool ?_; simp) | (refine ret_bool ?_; rw [beq_iff_eq]), G.out⟩)
        · exfalso; omega
      · by_cases h2 : (L : Int) ≤ R
        · have i3 : ¬ (m : Int) ≤ R - L := by omega
          have C5 := room_is w4 p R Y l v D4.out.d
          go_wp2_with fail
          all_goals try (exfalso; omega)
          refine C5.mono ?_
          rintro e w5 ⟨rfl, b5⟩
          clear C5
          have Q5 := Lib.hid (Q4.out.below b5)
          have O5 := Lib.hid (O4.out.on b5)
          have D5 := Lib.hid (D4.out.below b5)
          clear b5
          have C6 := app_is _ p R Y l v B m cb b D5.out.d (K0.out.below D5.out.at_) KB.out (by omega) (by omega) r0 (by omega)
          have hf2 : ¬ (l.length : Int) + b.length ≤ R := by have := HBM.out; omega
          rw [show appL R l b = l from if_neg hf2, show appE R l b = 9 from if_neg hf2] at C6
          clear hf2
          go_wp2_with fail
          all_goals try (exfalso; omega)
          refine C6.mono ?_
          rintro e w6 ⟨rfl, v6, d6, k6, n6⟩
          clear C6
          have Q6 := Lib.hid (Q5.out.next k6 n6)
          have O6 := Lib.hid (own_out Q5.out O5.out k6)
          have D6 := Lib.hid (D5.out.next d6 k6 n6)
          clear d6 k6 n6
          have C7 := bytes_is w6 p R Y l v6 D6.out.d (by omega)
          go_wp2_with fail
          refine C7.mono ?_
          rintro e w7 ⟨s7, rfl, o7, b7⟩
          clear C7
          obtain ⟨A7, c7, rfl, -, -, -⟩ := own_atN o7 hL
          have P7 := Lib.hid (Out.of D6.out.d o7)
          have R7 := Lib.hid o7
          have O7 := Lib.hid (O6.out.on b7)
          have D7 := Lib.hid (D6.out.below b7)
          clear o7 b7
          have C8 := synced_is w7 p R Y l v6 D7.out.d
          go_wp2_with fail
          all_goals try (exfalso; omega)
          refine C8.mono ?_
          rintro e w8 ⟨rfl, b8⟩
          clear C8
          have P8 := Lib.hid (P7.out.below b8)
          have R8 := Lib.hid (R7.out.on b8)
          have O8 := Lib.hid (O7.out.on b8)
          have D8 := Lib.hid (D7.out.below b8)
          clear b8
          obtain ⟨A2', c2', e2, a2, -, z2⟩ := own_atN O8.out hL
          injection e2 with e2 e3 e4
          subst e2; subst e4
          obtain ⟨A7', c7', e5, a7, -, -⟩ := own_atN R8.out hL
          injection e5 with e5 e6 e7
          subst e5; subst e7
          have I2 := Lib.hid a2
          have I7 := Lib.hid a7
          have Z2 := Lib.hid z2
          clear e3 e6 a2 a7 z2
          have C11 := vb_is w8 A7 A2 L c7 L c2 l l I7.out I2.out
          rw [show decide (l = l) = true from decide_eq_true rfl] at C11
          have DN := Lib.hid D8.out
          have ON := Lib.hid R8.out
          have QN := Lib.hid P8.out
          go_wp2_with fail
          refine C11.mono ?_
          rintro e w11 ⟨rfl, rfl⟩
          clear C11
          have C12 := swap_is _ p R Y l v6 B m cb b DN.out.d (K0.out.below DN.out.at_) KB.out (by omega)
          by_cases hs : m ≤ R
          · have hs2 : (b.length : Int) ≤ R := by have := HBM.out; omega
            rw [show swY R Y b = (m : Nat) by unfold swY; rw [if_pos hs2, HBM.out], show swL R l b = b from if_pos hs2, show swE R b = 0 from if_pos hs2] at C12
            clear hs2
            go_wp2_with fail
            refine C12.mono ?_
            rintro e w12 ⟨rfl, v12, d12, k12, n12⟩
            clear C12
            have D12 := Lib.hid (DN.out.next d12 k12 n12)
            clear d12 k12 n12
            have C13 := crash_is w12 p R m b v12 0 D12.out.d (by have := HBM.out; omega) (by omega) (by have := HBM.out; omega) (by decide) (by decide)
            rw [show crN m b 0 = (m : Nat) by have := HBM.out; unfold crN; omega, Int.toNat_natCast, List.take_of_length_le (by have := HBM.out; omega : b.length ≤ m)] at C13
            go_wp2_with fail
            refine C13.mono ?_
            rintro e w13 ⟨rfl, v13, d13, k13, n13⟩
            clear C13
            have D13 := Lib.hid (D12.out.next d13 k13 n13)
            clear d13 k13 n13
            go_wp2_with fail
            refine (first_is w13).mono ?_
            rintro e w14 ⟨rfl, b14⟩
            have D14 := Lib.hid (D13.out.below b14)
            clear b14
            have C15 := bytes_is w14 p R m b v13 D14.out.d (by have := HBM.out; omega)
            go_wp2_with fail
            refine C15.mono ?_
            rintro e w15 ⟨s15, rfl, o15, b15⟩
            clear C15
            obtain ⟨A15, c15, rfl, a15, -, -⟩ := own_atN o15 HBM.out.symm
            have D15 := Lib.hid (D14.out.below b15)
            have C16 := vb_is w15 A15 B m c15 m cb b b a15 (K0.out.below D15.out.at_)
            rw [show decide (b = b) = true from decide_eq_true rfl] at C16
            clear a15 o15 b15
            go_wp2_with fail
            refine C16.mono ?_
            rintro e w16 ⟨rfl, rfl⟩
            clear C16
            have C17 := synced_is w16 p R m b v13 D15.out.d
            go_wp2_with fail
            refine C17.mono ?_
            rintro e w17 ⟨rfl, b17⟩
            have G := Lib.hid (B0.out.trans ((D15.out.below b17).at_.mono B0.out.size))
            clear C17 b17
            go_wp2
            all_goals first
              | (exfalso; omega)
              | (go_ret; exact ⟨by first | rfl | (refine ret_bool ?_; simp) | (refine ret_bool ?_; rw [beq_iff_eq]), G.out⟩)
          · have hs2 : ¬ (b.length : Int) ≤ R := by have := HBM.out; omega
            rw [show swY R Y b = Y from if_neg hs2, show swL R l b = l from if_neg hs2, show swE R b = 9 from if_neg hs2] at C12
            clear hs2
            go_wp2_with fail
            refine C12.mono ?_
            rintro e w12 ⟨rfl, v12, d12, k12, n12⟩
            clear C12
            have D12 := Lib.hid (DN.out.next d12 k12 n12)
            have O12 := Lib.hid (own_out QN.out ON.out k12)
            clear d12 k12 n12
            go_wp2_with fail
            refine (first_is w12).mono ?_
            rintro e w13 ⟨rfl, b13⟩
            have D13 := Lib.hid (D12.out.below b13)
            have O13 := Lib.hid (O12.out.on b13)
            clear b13
            have C14 := room_is w13 p R Y l v12 D13.out.d
            go_wp2_with fail
            refine C14.mono ?_
            rintro e w14 ⟨rfl, b14⟩
            clear C14
            have D14 := Lib.hid (D13.out.below b14)
            have O14 := Lib.hid (O13.out.on b14)
            clear b14
            have C15 := bytes_is w14 p R Y l v12 D14.out.d (by omega)
            go_wp2_with fail
            all_goals try (exfalso; omega)
            refine C15.mono ?_
            rintro e w15 ⟨s15, rfl, o15, b15⟩
            clear C15
            obtain ⟨A15, c15, rfl, a15, -, -⟩ := own_atN o15 hL
            have D15 := Lib.hid (D14.out.below b15)
            obtain ⟨A16, c16, e6, a16, -, -⟩ := own_atN (O14.out.on b15) hL
            injection e6 with e6 e7 e8
            subst e6; subst e8
            have C16 := vb_is w15 A15 A7 L c15 L c7 l l a15 a16
            rw [show decide (l = l) = true from decide_eq_true rfl] at C16
            have G := Lib.hid (B0.out.trans (D15.out.at_.mono B0.out.size))
            clear a15 o15 b15 a16 e7
            go_wp2_with fail
            refine C16.mono ?_
            rintro e w16 ⟨rfl, rfl⟩
            clear C16
            go_wp2
            all_goals first
              | (exfalso; omega)
              | (go_ret; exact ⟨by first | rfl | (refine ret_bool ?_; simp), G.out⟩)
        · have Q5 := Lib.hid Q4.out
          have O5 := Lib.hid O4.out
          have D5 := Lib.hid D4.out
          have C6 := app_is _ p R Y l v B m cb b D5.out.d (K0.out.below D5.out.at_) KB.out (by omega) (by omega) r0 (by omega)
          have hf2 : ¬ (l.length : Int) + b.length ≤ R := by have := HBM.out; omega
          rw [show appL R l b = l from if_neg hf2, show appE R l b = 9 from if_neg hf2] at C6
          clear hf2
          go_wp2_with fail
          all_goals try (exfalso; omega)
          refine C6.mono ?_
          rintro e w6 ⟨rfl, v6, d6, k6, n6⟩
          clear C6
          have Q6 := Lib.hid (Q5.out.next k6 n6)
          have O6 := Lib.hid (own_out Q5.out O5.out k6)
          have D6 := Lib.hid (D5.out.next d6 k6 n6)
          clear d6 k6 n6
          have C7 := bytes_is w6 p R Y l v6 D6.out.d (by omega)
          go_wp2_with fail
          refine C7.mono ?_
          rintro e w7 ⟨s7, rfl, o7, b7⟩
          clear C7
          obtain ⟨A7, c7, rfl, -, -, -⟩ := own_atN o7 hL
          have P7 := Lib.hid (Out.of D6.out.d o7)
          have R7 := Lib.hid o7
          have O7 := Lib.hid (O6.out.on b7)
          have D7 := Lib.hid (D6.out.below b7)
          clear o7 b7
          have C8 := synced_is w7 p R Y l v6 D7.out.d
          go_wp2_with fail
          all_goals try (exfalso; omega)
          refine C8.mono ?_
          rintro e w8 ⟨rfl, b8⟩
          clear C8
          have P8 := Lib.hid (P7.out.below b8)
          have R8 := Lib.hid (R7.out.on b8)
          have O8 := Lib.hid (O7.out.on b8)
          have D8 := Lib.hid (D7.out.below b8)
          clear b8
          obtain ⟨A2', c2', e2, a2, -, z2⟩ := own_atN O8.out hL
          injection e2 with e2 e3 e4
          subst e2; subst e4
          obtain ⟨A7', c7', e5, a7, -, -⟩ := own_atN R8.out hL
          injection e5 with e5 e6 e7
          subst e5; subst e7
          have I2 := Lib.hid a2
          have I7 := Lib.hid a7
          have Z2 := Lib.hid z2
          clear e3 e6 a2 a7 z2
          have C11 := vb_is w8 A7 A2 L c7 L c2 l l I7.out I2.out
          rw [show decide (l = l) = true from decide_eq_true rfl] at C11
          have DN := Lib.hid D8.out
          have ON := Lib.hid R8.out
          have QN := Lib.hid P8.out
          go_wp2_with fail
          refine C11.mono ?_
          rintro e w11 ⟨rfl, rfl⟩
          clear C11
          have C12 := swap_is _ p R Y l v6 B m cb b DN.out.d (K0.out.below DN.out.at_) KB.out (by omega)
          by_cases hs : m ≤ R
          · have hs2 : (b.length : Int) ≤ R := by have := HBM.out; omega
            rw [show swY R Y b = (m : Nat) by unfold swY; rw [if_pos hs2, HBM.out], show swL R l b = b from if_pos hs2, show swE R b = 0 from if_pos hs2] at C12
            clear hs2
            go_wp2_with fail
            refine C12.mono ?_
            rintro e w12 ⟨rfl, v12, d12, k12, n12⟩
            clear C12
            have D12 := Lib.hid (DN.out.next d12 k12 n12)
            clear d12 k12 n12
            have C13 := crash_is w12 p R m b v12 0 D12.out.d (by have := HBM.out; omega) (by omega) (by have := HBM.out; omega) (by decide) (by decide)
            rw [show crN m b 0 = (m : Nat) by have := HBM.out; unfold crN; omega, Int.toNat_natCast, List.take_of_length_le (by have := HBM.out; omega : b.length ≤ m)] at C13
            go_wp2_with fail
            refine C13.mono ?_
            rintro e w13 ⟨rfl, v13, d13, k13, n13⟩
            clear C13
            have D13 := Lib.hid (D12.out.next d13 k13 n13)
            clear d13 k13 n13
            go_wp2_with fail
            refine (first_is w13).mono ?_
            rintro e w14 ⟨rfl, b14⟩
            have D14 := Lib.hid (D13.out.below b14)
            clear b14
            have C15 := bytes_is w14 p R m b v13 D14.out.d (by have := HBM.out; omega)
            go_wp2_with fail
            refine C15.mono ?_
            rintro e w15 ⟨s15, rfl, o15, b15⟩
            clear C15
            obtain ⟨A15, c15, rfl, a15, -, -⟩ := own_atN o15 HBM.out.symm
            have D15 := Lib.hid (D14.out.below b15)
            have C16 := vb_is w15 A15 B m c15 m cb b b a15 (K0.out.below D15.out.at_)
            rw [show decide (b = b) = true from decide_eq_true rfl] at C16
            clear a15 o15 b15
            go_wp2_with fail
            refine C16.mono ?_
            rintro e w16 ⟨rfl, rfl⟩
            clear C16
            have C17 := synced_is w16 p R m b v13 D15.out.d
            go_wp2_with fail
            refine C17.mono ?_
            rintro e w17 ⟨rfl, b17⟩
            have G := Lib.hid (B0.out.trans ((D15.out.below b17).at_.mono B0.out.size))
            clear C17 b17
            go_wp2
            all_goals first
              | (exfalso; omega)
              | (go_ret; exact ⟨by first | rfl | (refine ret_bool ?_; simp) | (refine ret_bool ?_; rw [beq_iff_eq]), G.out⟩)
          · have hs2 : ¬ (b.length : Int) ≤ R := by have := HBM.out; omega
            rw [show swY R Y b = Y from if_neg hs2, show swL R l b = l from if_neg hs2, show swE R b = 9 from if_neg hs2] at C12
            clear hs2
            go_wp2_with fail
            refine C12.mono ?_
            rintro e w12 ⟨rfl, v12, d12, k12, n12⟩
            clear C12
            have D12 := Lib.hid (DN.out.next d12 k12 n12)
            have O12 := Lib.hid (own_out QN.out ON.out k12)
            clear d12 k12 n12
            go_wp2_with fail
            refine (first_is w12).mono ?_
            rintro e w13 ⟨rfl, b13⟩
            have D13 := Lib.hid (D12.out.below b13)
            have O13 := Lib.hid (O12.out.on b13)
            clear b13
            have C14 := room_is w13 p R Y l v12 D13.out.d
            go_wp2_with fail
            refine C14.mono ?_
            rintro e w14 ⟨rfl, b14⟩
            clear C14
            have D14 := Lib.hid (D13.out.below b14)
            have O14 := Lib.hid (O13.out.on b14)
            clear b14
            have C15 := bytes_is w14 p R Y l v12 D14.out.d (by omega)
            go_wp2_with fail
            all_goals try (exfalso; omega)
            refine C15.mono ?_
            rintro e w15 ⟨s15, rfl, o15, b15⟩
            clear C15
            obtain ⟨A15, c15, rfl, a15, -, -⟩ := own_atN o15 hL
            have D15 := Lib.hid (D14.out.below b15)
            obtain ⟨A16, c16, e6, a16, -, -⟩ := own_atN (O14.out.on b15) hL
            injection e6 with e6 e7 e8
            subst e6; subst e8
            have C16 := vb_is w15 A15 A7 L c15 L c7 l l a15 a16
            rw [show decide (l = l) = true from decide_eq_true rfl] at C16
            have G := Lib.hid (B0.out.trans (D15.out.at_.mono B0.out.size))
            clear a15 o15 b15 a16 e7
            go_wp2_with fail
            refine C16.mono ?_
            rintro e w16 ⟨rfl, rfl⟩
            clear C16
            go_wp2
            all_goals first
              | (exfalso; omega)
              | (go_ret; exact ⟨by first | rfl | (refine ret_bool ?_; simp), G.out⟩)
-- ENDWAYS
    · have B1 := Lib.hid (B0.out.trans (D1.out.at_.mono B0.out.size))
      have F := Lib.hid ((first_is w1).mono fun e w' (h : e = .returned (.bool true) ∧ Below w1.heap.size w1 w') => (show e = .returned (.bool true) ∧ Below W.heap.size W w' from ⟨h.1, B1.out.trans (h.2.mono B1.out.size)⟩))
      go_wp2_with fail
      all_goals try (exfalso; omega)
      all_goals
        refine F.out.mono ?_
        rintro e w2 ⟨rfl, G⟩
        go_wp2
        go_ret
        exact ⟨rfl, G⟩
end Go.Proofs.Ytipefkjgfbgceaa.Dk
