/- The walk of voklaw14.DiskCuts. -/
import Derived.Test.YtipefkjgfbgceaaDkH
set_option linter.unusedVariables false
namespace Go.Proofs.Ytipefkjgfbgceaa.Dk
open Go.RowKit Fr

/-- what played leaves, by name -/
structure Made (w w' : World) (p : Nat) (R Y : Int) (l : List UInt8) (L : Nat) (v : Value) : Prop where
  d : Dsk w w' p R Y l v
  len : l.length = L
  few : L ≤ 20000
  r0 : 0 ≤ R
  r1 : R ≤ 1073741824
  y0 : 0 ≤ Y
  y1 : Y ≤ L
theorem made_of {W w w' : World} {size : Int} {A : Option Addr} {n : Nat} {S : List OpS} {e : Ending} (H : OsAt W A n S) (h : PlayR w size S n e w') :
    (e = .returned (.pointer none) ∧ Below w.heap.size w w') ∨ ∃ p R Y l L v, e = .returned (.pointer (some ⟨p, 0, none⟩)) ∧ Made w w' p R Y l L v := by
  rcases h with ⟨h0, h1, hf, p, v, he, d⟩ | h
  · refine .inr ⟨p, _, _, _, _, v, he, d, rfl, ?_, (playD_ok h0 h1 S n).r0, (playD_ok h0 h1 S n).r1, (playD_ok h0 h1 S n).y0, (playD_ok h0 h1 S n).y1⟩
    obtain ⟨hn2, hs2⟩ := of_decide_eq_true (show decide (n ≤ 200 ∧ sumO S (min n 200) ≤ 20000) = true from hf)
    rw [Nat.min_eq_left hn2] at hs2
    have := playD_len h0 h1 (S := S) (n := n) (fun j hj => by obtain ⟨b', off', e, -, q⟩ := os_cell H hj; exact (q W (Below.refl _ _)).2.2.2.1) hs2 n (Nat.le_refl _)
    omega
  · exact .inl h
set_option maxRecDepth 100000 in
set_option maxHeartbeats 4000000 in
theorem cuts_walk (W : World) (size : Int) (A : Option Addr) (n c : Nat) (S : List OpS) (keep : Int) (h : OsAt W A n S) (hn : n ≤ 9223372036854775807) (l1 : -9223372036854775808 ≤ size) (u1 : size ≤ 9223372036854775807) (l2 : -9223372036854775808 ≤ keep) (u2 : keep ≤ 9223372036854775807) :
    Calls Try.prog 4 #[.int .i64 size, .slice A n c, .int .i64 keep] W fun e w' => e = .returned (.bool true) ∧ Below W.heap.size W w' := by
  have H := Lib.hid h
  clear h
  go_enter Try.func4, Try.ntmps4
  go_wp2_with fail
  refine (first_is W).mono ?_
  rintro e w0 ⟨rfl, b0⟩
  have B0 := Lib.hid b0
  have H0 := Lib.hid (H.out.below b0)
  have C1 := played_is w0 size A n c S H0.out hn l1 u1
  clear b0
  go_wp2_with fail
  refine C1.mono ?_
  intro e w1 hp
  clear C1
  rcases made_of H0.out hp with ⟨rfl, b1⟩ | ⟨p, R, Y, l, L, v, rfl, m⟩
  · have B1 := Lib.hid (B0.out.trans (b1.mono B0.out.size))
    clear b1 hp
    go_wp2_with fail
    refine (first_is w1).mono ?_
    rintro e w2 ⟨rfl, b2⟩
    have G := Lib.hid (B1.out.trans (b2.mono B1.out.size))
    clear b2
    go_wp2
    go_ret
    exact ⟨rfl, G.out⟩
  · have M := Lib.hid m
    have hL := m.len
    have hL2 := m.few
    have hY0 := m.y0
    have hY1 := m.y1
    have D1 := Lib.hid m.d
    clear hp m
    obtain ⟨Y, rfl⟩ := Int.eq_ofNat_of_zero_le hY0
    have C2 := bytes_is w1 p R Y l v D1.out.d (by omega)
    go_wp2_with fail
    refine C2.mono ?_
    rintro e w2 ⟨u2', rfl, o2, b2⟩
    clear C2
    obtain ⟨A2, c2, rfl, a2, k2, z2⟩ := own_atN o2 hL
    have Q2 := Lib.hid (Out.of D1.out.d o2)
    have O2 := Lib.hid o2
    have D2 := Lib.hid (D1.out.below b2)
    clear o2 b2 a2
    have C3 := synced_is w2 p R Y l v D2.out.d
    go_wp2_with fail
    refine C3.mono ?_
    rintro e w3 ⟨rfl, b3⟩
    clear C3
    have Q3 := Lib.hid (Q2.out.below b3)
    have O3 := Lib.hid (O2.out.on b3)
    have D3 := Lib.hid (D2.out.below b3)
    clear b3
    obtain ⟨x, hx⟩ : ∃ x, crN Y l keep = x := ⟨_, rfl⟩
    have hx0 : (Y : Int) ≤ x ∧ x ≤ L := by unfold crN at hx; omega
    have hxx : x - Y = min (max keep 0) (L - Y) := by unfold crN at hx; omega
    obtain ⟨x, rfl⟩ := Int.eq_ofNat_of_zero_le (show 0 ≤ x by omega)
    have C4 := crash_is w3 p R Y l v keep D3.out.d (by omega) (by omega) (by omega) l2 u2
    rw [hx, Int.toNat_natCast] at C4
    clear hx
    go_wp2_with fail
    refine C4.mono ?_
    rintro e w4 ⟨rfl, v4, d4, k4, n4⟩
    clear C4
    have Q4 := Lib.hid (Q3.out.next k4 n4)
    have O4 := Lib.hid (own_out Q3.out O3.out k4)
    have D4 := Lib.hid (D3.out.next d4 k4 n4)
    clear d4 k4 n4
    have hlt : (l.take x).length = x := by rw [List.length_take]; omega
    have C5 := bytes_is w4 p R x (l.take x) v4 D4.out.d (by omega)
    go_wp2_with fail
    refine C5.mono ?_
    rintro e w5 ⟨u5, rfl, o5, b5⟩
    clear C5
    obtain ⟨A5, c5, rfl, a5, k5, z5⟩ := own_atN o5 hlt
    have O5 := Lib.hid (O4.out.on b5)
    have D5 := Lib.hid (D4.out.below b5)
    have I5 := Lib.hid a5
    clear o5 b5 a5
    obtain ⟨A6, c6, e6, a6, -, -⟩ := own_atN O5.out hL
    injection e6 with e6 e7 e8
    subst e6; subst e8
    have C6 := fun cc => vb_is w5 A5 A2 x c5 x cc _ _ I5.out (a6.take (k := x) (by omega))
    rw [show decide (l.take x = l.take x) = true from decide_eq_true rfl] at C6
    clear e7 a6
    go_wp2_with fail
    refine (C6 _).mono ?_
    rintro e w6 ⟨rfl, rfl⟩
    clear C6
    have C7 := synced_is w6 p R x (l.take x) v4 D5.out.d
    go_wp2_with fail
    refine C7.mono ?_
    rintro e w7 ⟨rfl, b7⟩
    clear C7
    have D7 := Lib.hid (D5.out.below b7)
    clear b7
    go_wp2_with fail
    refine (first_is w7).mono ?_
    rintro e w8 ⟨rfl, b8⟩
    have G := Lib.hid (B0.out.trans ((D7.out.below b8).at_.mono B0.out.size))
    clear b8
    by_cases h1 : keep ≤ 0
    · obtain rfl : x = Y := by omega
      have m0 : max keep 0 = 0 := by omega
      have g0 : ¬ 0 < keep := by omega
      clear hxx
      go_wp2
      all_goals first
        | (exfalso; omega)
        | (go_ret; exact ⟨by first | rfl | (refine ret_bool ?_; rw [beq_iff_eq]; omega) | (refine ret_bool ?_; simp), G.out⟩)
    · by_cases h2 : keep ≤ (L : Int) - Y
      · have hk : (x : Int) = Y + keep := by omega
        have g0 : 0 < keep := by omega
        clear hxx
        go_wp2
        all_goals first
          | (exfalso; omega)
          | (go_ret; exact ⟨by first | rfl | (refine ret_bool ?_; rw [beq_iff_eq]; omega) | (refine ret_bool ?_; simp), G.out⟩)
      · obtain rfl : x = L := by omega
        clear hxx
        go_wp2
        all_goals first
          | (exfalso; omega)
          | (go_ret; exact ⟨by first | rfl | (refine ret_bool ?_; rw [beq_iff_eq]; omega) | (refine ret_bool ?_; simp), G.out⟩)
end Go.Proofs.Ytipefkjgfbgceaa.Dk
