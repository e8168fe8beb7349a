/- The walk of voklaw14.DiskSyncs. -/
import Derived.Test.YtipefkjgfbgceaaDkCu
set_option linter.unusedVariables false
namespace Go.Proofs.Ytipefkjgfbgceaa.Dk
open Go.RowKit Fr

/-- the disk at q is no part of the one at p -/
def OutD (w : World) (p : Nat) (v : Value) (q : Nat) (u : Value) : Prop := ∀ g, Ft q u g → g < w.heap.size ∧ ¬ Ft p v g
theorem OutD.next {w w' : World} {p q : Nat} {v v' u : Value} (h : OutD w p v q u) (k : Kp (Ft p v) w w') (n : New w v v') : OutD w' p v' q u := fun g hg => by
  obtain ⟨h1, h2⟩ := h g hg
  refine ⟨Nat.lt_of_lt_of_le h1 k.size, fun z => ?_⟩
  rcases z with z | z
  · exact h2 (.inl z)
  · rcases n with n | n
    · exact h2 (.inr (n ▸ z))
    · exact absurd (n g z) (by omega)
theorem OutD.below {w w' : World} {p q : Nat} {v u : Value} (h : OutD w p v q u) (b : Below w.heap.size w w') : OutD w' p v q u := fun g hg => ⟨Nat.lt_of_lt_of_le (h g hg).1 b.size, (h g hg).2⟩
theorem DkV.all {T : TypeId} {w : World} {p : Nat} {R Y : Int} {l : List UInt8} {v : Value} (h : DkV T w p R Y l v) : ∀ g, Ft p v g → g < w.heap.size := fun g hg => by
  rcases hg with rfl | hg
  · exact h.lt
  · exact (World.ownsRow.lt h.own g hg).2
theorem OutD.swap {w : World} {p q : Nat} {v u : Value} (h : OutD w p v q u) (hp : ∀ g, Ft p v g → g < w.heap.size) : OutD w q u p v := fun g hg => ⟨hp g hg, fun z => (h g z).2 hg⟩
/-- the other one is worked on -/
theorem Dsk.other {W w w' : World} {p q : Nat} {R Y R' Y' : Int} {l l' : List UInt8} {v u : Value} (h : Dsk W w q R Y l u) (o : OutD w p v q u) (D : Dsk W w p R' Y' l' v) (k : Kp (Ft p v) w w') : Dsk W w' q R Y l u :=
  ⟨h.d.kp k fun g hg => (o g hg).2, h.hi, h.at_.trans (k.below h.at_.size D.hi)⟩
theorem OutD.of {w w' : World} {p q : Nat} {v u : Value} (hp : ∀ g, Ft p v g → g < w.heap.size) (hx : ∀ g, Ft q u g → w.heap.size ≤ g) (hq : ∀ g, Ft q u g → g < w'.heap.size) : OutD w' p v q u := fun g hg => ⟨hq g hg, fun z => by have := hp g z; have := hx g hg; omega⟩
theorem Out.of2 {w : World} {q : Nat} {u z : Value} (hz : ∀ g, z.ownBlock = some g → g < w.heap.size) (hx : ∀ g, Ft q u g → w.heap.size ≤ g) {w' : World} (b : w.heap.size ≤ w'.heap.size) : Out w' q u z := fun g hg => ⟨Nat.lt_of_lt_of_le (hz g hg) b, fun k => by have := hz g hg; have := hx g k; omega⟩
set_option maxRecDepth 100000 in
set_option maxHeartbeats 4000000 in
theorem syncs_walk (W : World) (size : Int) (A : Option Addr) (n cc : Nat) (S : List OpS) (B : Option Addr) (m cb : Nat) (b : List UInt8) (a c : Int) (h : OsAt W A n S) (hn : n ≤ 9223372036854775807) (l1 : -9223372036854775808 ≤ size) (u1 : size ≤ 9223372036854775807) (hb : BsAt W B m b) (hB : B = none → cb = 0) (hm : m ≤ 9223372036854775807) (l2 : -9223372036854775808 ≤ a) (u2 : a ≤ 9223372036854775807) (l3 : -9223372036854775808 ≤ c) (u3 : c ≤ 9223372036854775807) :
    Calls Try.prog 6 #[.int .i64 size, .slice A n cc, .slice B m cb, .int .i64 a, .int .i64 c] W fun e w' => e = .returned (.bool true) ∧ Below W.heap.size W w' := by
  have H := Lib.hid h
  have K := Lib.hid hb
  have KB := Lib.hid hB
  clear h hb hB
  go_enter Try.func6, Try.ntmps6
  go_wp2_with fail
  refine (first_is W).mono ?_
  rintro e w0 ⟨rfl, b0⟩
  have B0 := Lib.hid b0
  have H0 := Lib.hid (H.out.below b0)
  have C1 := played_is w0 size A n cc S H0.out hn l1 u1
  clear b0
  go_wp2_with fail
  refine C1.mono ?_
  intro e w1 hp
  clear C1
  rcases made_of H0.out hp with ⟨rfl, b1⟩ | ⟨p, R, Y, l, L, v, rfl, M⟩
  · have B1 := Lib.hid (B0.out.trans (b1.mono B0.out.size))
    clear b1 hp
    go_wp2_with fail
    refine (first_is w1).mono ?_
    rintro e w2 ⟨rfl, b2⟩
    have G := Lib.hid (B1.out.trans (b2.mono B1.out.size))
    clear b2
    go_wp2
    go_ret
    exact ⟨rfl, G.out⟩
  · have hL := M.len
    have hL2 := M.few
    have r0 := M.r0
    have r1 := M.r1
    have D1 := Lib.hid M.d
    clear hp M
    by_cases hin : m ≤ 20000 ∧ 0 ≤ a ∧ 0 ≤ c
    · obtain ⟨i1, i2, i3⟩ := hin
      have C2 := sync_is w1 p R Y l v D1.out.d (by omega)
      go_wp2_with fail
      all_goals try (exfalso; omega)
      refine C2.mono ?_
      rintro e w2 ⟨rfl, v2, d2, k2, n2⟩
      clear C2
      have D2 := Lib.hid (D1.out.next d2 k2 n2)
      clear d2 k2 n2
      have C3 := bytes_is w2 p R l.length l v2 D2.out.d (by omega)
      go_wp2_with fail
      refine C3.mono ?_
      rintro e w3 ⟨s3, rfl, o3, b3⟩
      clear C3
      obtain ⟨A3, c3, rfl, a3, -, -⟩ := own_atN o3 hL
      have Q3 := Lib.hid (Out.of D2.out.d o3)
      have O3 := Lib.hid o3
      have D3 := Lib.hid (D2.out.below b3)
      clear o3 b3 a3
      have C4 := app_is w3 p R l.length l v2 B m cb b D3.out.d ((K.out.below B0.out).below (D3.out.at_)) KB.out (by omega) (by omega) r0 (by omega)
      obtain ⟨X, hX⟩ : ∃ X, appL R l b = X := ⟨_, rfl⟩
      have X1 : X.take L = l ∧ L ≤ X.length ∧ X.length ≤ 40000 := by
        have := K.out.1
        rw [← hX]; unfold appL
        split
        · rw [List.length_append]; exact ⟨by rw [← hL]; simp, by omega, by omega⟩
        · exact ⟨by rw [← hL]; simp, by omega, by omega⟩
      obtain ⟨X1, X2, X3⟩ := X1
      rw [hX] at C4
      clear hX
      go_wp2_with fail
      refine C4.mono ?_
      rintro e w4 ⟨rfl, v4, d4, k4, n4⟩
      clear C4
      have Q4 := Lib.hid (Q3.out.next k4 n4)
      have O4 := Lib.hid (own_out Q3.out O3.out k4)
      have D4 := Lib.hid (D3.out.next d4 k4 n4)
      clear d4 k4 n4
      have C5 := copyd_is w4 p R l.length X v4 D4.out.d (by omega)
      go_wp2_with fail
      refine C5.mono ?_
      rintro e w5 ⟨q, x5, rfl, d5, b5, f5⟩
      clear C5
      have DA := D4.out.d.all
      have E5 := Lib.hid (show Dsk w0 w5 q R l.length X x5 from ⟨d5, fun g hg => Nat.le_trans D4.out.at_.size (f5 g hg), D4.out.at_.trans (b5.mono D4.out.at_.size)⟩)
      have U5 := Lib.hid (OutD.of (w := w4) (w' := w5) (p := p) (v := v4) DA f5 d5.all)
      have Z5 := Lib.hid (Out.of2 (w := w4) (w' := w5) (q := q) (u := x5) (fun g hg => (Q4.out g hg).1) f5 b5.size)
      have Q5 := Lib.hid (Q4.out.below b5)
      have O5 := Lib.hid (O4.out.on b5)
      have D5 := Lib.hid (D4.out.below b5)
      clear d5 b5 f5 DA
      obtain ⟨k, hk⟩ : ∃ k, crN l.length X a = k := ⟨_, rfl⟩
      have hk0 : L ≤ k ∧ k ≤ X.length := by rw [← hL, ← hk]; unfold crN; omega
      obtain ⟨k, rfl⟩ := Int.eq_ofNat_of_zero_le (show 0 ≤ k by omega)
      obtain ⟨Z, hZ⟩ : ∃ Z, X.take k = Z := ⟨_, rfl⟩
      have Z1 : Z.length = k := by rw [← hZ, List.length_take]; omega
      have Z2 : Z.take L = l := by rw [← hZ, List.take_take, Nat.min_eq_left (by omega), X1]
      have C6 := crash_is w5 p R l.length X v4 a D5.out.d (by omega) (by omega) (by omega) l2 u2
      rw [hk, Int.toNat_natCast, hZ] at C6
      go_wp2_with fail
      refine C6.mono ?_
      rintro e w6 ⟨rfl, v6, d6, k6, n6⟩
      clear C6
      have E6 := Lib.hid (E5.out.other U5.out D5.out k6)
      have U6 := Lib.hid (U5.out.next k6 n6)
      have Z6 := Lib.hid (show Out w6 q x5 _ from fun g hg => ⟨Nat.lt_of_lt_of_le (Z5.out g hg).1 k6.size, (Z5.out g hg).2⟩)
      have Q6 := Lib.hid (Q5.out.next k6 n6)
      have O6 := Lib.hid (own_out Q5.out O5.out k6)
      have D6 := Lib.hid (D5.out.next d6 k6 n6)
      clear d6 k6 n6
      have C7 := crash_is w6 p R k Z v6 c D6.out.d (by omega) (by omega) (by omega) l3 u3
      rw [show crN k Z c = (k : Nat) by unfold crN; omega, Int.toNat_natCast, List.take_of_length_le (by omega : Z.length ≤ k)] at C7
      go_wp2_with fail
      refine C7.mono ?_
      rintro e w7 ⟨rfl, v7, d7, k7, n7⟩
      clear C7
      have E7 := Lib.hid (E6.out.other U6.out D6.out k7)
      have U7 := Lib.hid (U6.out.next k7 n7)
      have Z7 := Lib.hid (show Out w7 q x5 _ from fun g hg => ⟨Nat.lt_of_lt_of_le (Z6.out g hg).1 k7.size, (Z6.out g hg).2⟩)
      have Q7 := Lib.hid (Q6.out.next k7 n7)
      have O7 := Lib.hid (own_out Q6.out O6.out k7)
      have D7 := Lib.hid (D6.out.next d7 k7 n7)
      clear d7 k7 n7
      have C8 := crash_is w7 q R l.length X x5 a E7.out.d (by omega) (by omega) (by omega) l2 u2
      rw [hk, Int.toNat_natCast, hZ] at C8
      go_wp2_with fail
      refine C8.mono ?_
      rintro e w8 ⟨rfl, x8, d8, k8, n8⟩
      clear C8
      have V7 := U7.out.swap D7.out.d.all
      have D8 := Lib.hid (D7.out.other V7 E7.out k8)
      have O8 := Lib.hid (own_out Z7.out O7.out k8)
      have E8 := Lib.hid (E7.out.next d8 k8 n8)
      have Q8 := Lib.hid (show Out w8 p v7 _ from fun g hg => ⟨Nat.lt_of_lt_of_le (Q7.out g hg).1 k8.size, (Q7.out g hg).2⟩)
      clear d8 k8 n8 V7 hk hZ X1
      have C9 := bytes_is w8 p R k Z v7 D8.out.d (by omega)
      go_wp2_with fail
      refine C9.mono ?_
      rintro e w9 ⟨s9, rfl, o9, b9⟩
      clear C9
      obtain ⟨A9, c9, rfl, a9, kc, -⟩ := own_atN o9 Z1
      have kc2 : L ≤ c9 := by omega
      have O9 := Lib.hid (O8.out.on b9)
      have I9 := Lib.hid a9
      have D9 := Lib.hid (D8.out.below b9)
      have E9 := Lib.hid (E8.out.below b9)
      clear o9 b9 a9
      go_wp2_with fail
      refine (first_is w9).mono ?_
      rintro e w10 ⟨rfl, b10⟩
      have O10 := Lib.hid (O9.out.on b10)
      have I10 := Lib.hid (I9.out.below b10)
      have D10 := Lib.hid (D9.out.below b10)
      have E10 := Lib.hid (E9.out.below b10)
      clear b10
      obtain ⟨A3', c3', e3, a3, -, -⟩ := own_atN O10.out hL
      injection e3 with e3 e4 e5
      subst e3; subst e5
      have C10 := fun dd => vb_is w10 A9 A3 L dd L c3 _ _ (I10.out.take (k := L) (by omega)) a3
      rw [show decide (Z.take L = l) = true from decide_eq_true Z2] at C10
      clear e4 a3
      go_wp2_with fail
      all_goals try (exfalso; omega)
      refine (C10 _).mono ?_
      rintro e w11 ⟨rfl, rfl⟩
      clear C10
      have C11 := bytes_is w11 q R k Z x8 E10.out.d (by omega)
      go_wp2_with fail
      refine C11.mono ?_
      rintro e w12 ⟨s12, rfl, o12, b12⟩
      clear C11
      obtain ⟨A12, c12, rfl, a12, -, -⟩ := own_atN o12 Z1
      have C12 := vb_is w12 A9 A12 k c9 k c12 _ _ (I10.out.below b12) a12
      rw [show decide (Z = Z) = true from decide_eq_true rfl] at C12
      have D12 := Lib.hid (D10.out.below b12)
      clear o12 b12 a12
      go_wp2_with fail
      refine C12.mono ?_
      rintro e w13 ⟨rfl, rfl⟩
      clear C12
      have C13 := synced_is w13 p R k Z v7 D12.out.d
      go_wp2_with fail
      refine C13.mono ?_
      rintro e w14 ⟨rfl, b14⟩
      have G := Lib.hid (B0.out.trans ((D12.out.below b14).at_.mono B0.out.size))
      clear C13 b14
      go_wp2
      all_goals first
        | (exfalso; omega)
        | (go_ret; exact ⟨by first | rfl | (refine ret_bool ?_; simp) | (refine ret_bool ?_; rw [beq_iff_eq]), G.out⟩)
    · have B1 := Lib.hid (B0.out.trans (D1.out.at_.mono B0.out.size))
      have F := Lib.hid ((first_is w1).mono fun e w' (h : e = .returned (.bool true) ∧ Below w1.heap.size w1 w') => (show e = .returned (.bool true) ∧ Below W.heap.size W w' from ⟨h.1, B1.out.trans (h.2.mono B1.out.size)⟩))
      go_wp2_with fail
      all_goals try (exfalso; omega)
      all_goals
        refine F.out.mono ?_
        rintro e w2 ⟨rfl, G⟩
        go_wp2
        go_ret
        exact ⟨rfl, G⟩
end Go.Proofs.Ytipefkjgfbgceaa.Dk
