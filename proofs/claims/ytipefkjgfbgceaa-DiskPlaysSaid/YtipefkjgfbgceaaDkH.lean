/- The walk of voklaw14.played. -/
import Derived.Test.YtipefkjgfbgceaaDkG
set_option linter.unusedVariables false
namespace Go.Proofs.Ytipefkjgfbgceaa.Dk
open Go.RowKit Fr

/-- a disk in plain words -/
structure Ds where
  R : Int
  Y : Int
  l : List UInt8
structure Ds.Ok (s : Ds) : Prop where
  r0 : 0 ≤ s.R
  r1 : s.R ≤ 1073741824
  y0 : 0 ≤ s.Y
  y1 : s.Y ≤ s.l.length
def stepD (s : Ds) (o : OpS) : Ds := ⟨doR s.R o.k o.n, doY s.R s.Y s.l o.b o.k o.n, doL s.R s.Y s.l o.b o.k o.n⟩
def playD (size : Int) (S : List OpS) : Nat → Ds
  | 0 => ⟨size, 0, []⟩
  | t + 1 => stepD (playD size S t) (gt S t)
theorem stepD_ok {s : Ds} (h : s.Ok) (o : OpS) : (stepD s o).Ok ∧ (stepD s o).l.length ≤ s.l.length + o.b.length := by
  obtain ⟨r0, r1, y0, y1⟩ := h
  obtain ⟨R, Y, l⟩ := s
  simp only at r0 r1 y0 y1
  have hR : 0 ≤ doR R o.k o.n ∧ doR R o.k o.n ≤ 1073741824 := by
    unfold doR resR
    split
    · split <;> omega
    · exact ⟨r0, r1⟩
  have hL : 0 ≤ doY R Y l o.b o.k o.n ∧ doY R Y l o.b o.k o.n ≤ (doL R Y l o.b o.k o.n).length ∧ (doL R Y l o.b o.k o.n).length ≤ l.length + o.b.length := by
    unfold doY doL
    by_cases h0 : o.k = 0
    · rw [if_neg (by omega), if_neg (by omega), if_neg (by omega), if_neg (by omega), if_pos h0]
      unfold appL
      split
      · rw [List.length_append]; omega
      · omega
    · rw [if_neg h0]
      by_cases h1 : o.k = 1
      · rw [if_pos h1, if_neg (by omega), if_neg (by omega), if_neg (by omega)]; omega
      · rw [if_neg h1]
        by_cases h2 : o.k = 2
        · rw [if_pos h2, if_pos h2]
          unfold swY swL
          split <;> omega
        · rw [if_neg h2, if_neg h2]
          by_cases h3 : o.k = 3
          · rw [if_pos h3, if_pos h3]
            unfold cutY cutL
            split
            · rw [List.length_take]; omega
            · omega
          · rw [if_neg h3, if_neg h3]
            by_cases h4 : o.k = 4
            · rw [if_pos h4, if_pos h4]
              unfold crN
              rw [List.length_take]; omega
            · rw [if_neg h4, if_neg h4]; omega
  exact ⟨⟨hR.1, hR.2, hL.1, hL.2.1⟩, hL.2.2⟩
theorem playD_ok {size : Int} (h0 : 0 ≤ size) (h1 : size ≤ 1073741824) (S : List OpS) : ∀ t, (playD size S t).Ok
  | 0 => ⟨h0, h1, Int.le_refl _, by show (0 : Int) ≤ _; omega⟩
  | t + 1 => (stepD_ok (playD_ok h0 h1 S t) _).1
theorem playD_len {size : Int} (h0 : 0 ≤ size) (h1 : size ≤ 1073741824) {S : List OpS} {n : Nat} (hm : ∀ j, j < n → (gt S j).m = (gt S j).b.length) (hs : sumO S n ≤ 20000) : ∀ t, t ≤ n → (playD size S t).l.length ≤ sumO S t
  | 0, _ => Nat.le_refl _
  | t + 1, h => by
    have ih := playD_len h0 h1 hm hs t (by omega)
    have g := (sumO_has S (j := t) (by omega : t < n) hs).2
    have st := (stepD_ok (playD_ok h0 h1 S t) (gt S t)).2
    show (stepD (playD size S t) (gt S t)).l.length ≤ _
    have := hm t (by omega)
    omega
/-- what played answers -/
def PlayR (w : World) (size : Int) (S : List OpS) (n : Nat) (e : Ending) (w' : World) : Prop :=
  (0 ≤ size ∧ size ≤ 1073741824 ∧ fewO S n = true ∧ ∃ p v, e = .returned (.pointer (some ⟨p, 0, none⟩)) ∧ Dsk w w' p (playD size S n).R (playD size S n).Y (playD size S n).l v) ∨
  (e = .returned (.pointer none) ∧ Below w.heap.size w w')
set_option maxRecDepth 100000 in
set_option maxHeartbeats 4000000 in
theorem played_is (w : World) (size : Int) (A : Option Addr) (n c : Nat) (S : List OpS) (h : OsAt w A n S) (hn : n ≤ 9223372036854775807) (l1 : -9223372036854775808 ≤ size) (u1 : size ≤ 9223372036854775807) :
    Calls Try.prog 22 #[.int .i64 size, .slice A n c] w (PlayR w size S n) := by
  have H := Lib.hid h
  clear h
  by_cases hs : 0 ≤ size ∧ size ≤ 1073741824
  · obtain ⟨h0, h1⟩ := hs
    have C1 := new_yes w size h0 h1
    go_enter Try.func22, Try.ntmps22
    go_wp2_with fail
    refine C1.mono ?_
    rintro e w1 ⟨p, v1, rfl, d1, b1, g1⟩
    clear C1
    have D1 := Lib.hid (show Dsk w w1 p size 0 [] v1 from ⟨d1, g1, b1⟩)
    have C2 := fewo_is w1 A n c S (H.out.below b1) hn
    clear d1 b1 g1
    go_wp2_with fail
    refine C2.mono ?_
    rintro e w2 ⟨rfl, rfl⟩
    clear C2
    cases hf : fewO S n with
    | false =>
      have G := Lib.hid (show PlayR w size S n (.returned (.pointer none)) w2 from .inr ⟨rfl, D1.out.at_⟩)
      go_wp2
      go_ret
      exact G.out
    | true =>
      have hf2 := of_decide_eq_true (show decide (n ≤ 200 ∧ sumO S (min n 200) ≤ 20000) = true from hf)
      obtain ⟨hn2, hs2⟩ := hf2
      rw [Nat.min_eq_left hn2] at hs2
      have HS := Lib.hid hs2
      have HF := Lib.hid hf
      clear hf hs2
      go_wp2
      go_loopw [7] (fun i wr => ∃ t v, t ≤ n ∧ i = .int .i64 (t : Nat) ∧ Dsk w wr p (playD size S t).R (playD size S t).Y (playD size S t).l v) (fun i _ => n - (intOf i).toNat)
      case atStart => exact ⟨0, v1, Nat.zero_le _, rfl, D1.out⟩
      case round =>
        obtain ⟨t, v, ht, rfl, hD⟩ := hrel
        have HD := Lib.hid hD
        clear hD
        by_cases hlt : t < n
        · have i5 : (t : Int) < n := by omega
          have ok := playD_ok h0 h1 S t
          have len := playD_len h0 h1 (S := S) (n := n) (fun j hj => by obtain ⟨b', off', e, -, q⟩ := os_cell H.out hj; exact (q w (Below.refl _ _)).2.2.2.1) HS.out t (by omega)
          have len2 := sumO_mono S (a := t) (b := n) (by omega)
          have hm2 := (sumO_has S hlt HS.out).1
          obtain ⟨b, off, rfl, ⟨k1, k2, k3, k4, k5⟩, hc⟩ := os_cell H.out hlt
          obtain ⟨c0, c1, c2, bs⟩ := hc wr HD.out.at_
          have NX := Lib.hid (show playD size S (t + 1) = stepD (playD size S t) (gt S t) from rfl)
          have C3 := does_is wr p _ _ _ v (gt S t).k (gt S t).n (gt S t).A (gt S t).m (gt S t).c (gt S t).b HD.out.d bs k2 (by have := HS.out; omega) (by omega) ok.r0 (by have := ok.r1; omega) ok.y0 ok.y1 k4 k5
          clear hc bs ok len len2
          unfold stepD at NX
          generalize playD size S t = s at *
          generalize gt S t = o at *
          generalize doB s.R s.l o.b o.k o.n = ans at *
          go_wp2_with fail
          refine C3.mono ?_
          rintro e w2 ⟨rfl, v2, d2, k2, n2⟩
          clear C3
          have D2 := Lib.hid (HD.out.next d2 k2 n2)
          clear d2 k2 n2
          go_wp2
          go_roundw
          case rel => exact ⟨t + 1, v2, by omega, by go_num, by rw [NX.out]; exact D2.out⟩
          case measure => simp [intOf]; omega
        · obtain rfl : t = n := by omega
          have G := Lib.hid (show PlayR w size S t (.returned (.pointer (some ⟨p, 0, none⟩))) wr from .inl ⟨h0, h1, HF.out, p, v, rfl, HD.out⟩)
          go_wp2
          go_ret
          exact G.out
  · have C1 := new_no w size hs l1 u1
    go_enter Try.func22, Try.ntmps22
    go_wp2_with fail
    refine C1.mono ?_
    rintro e w1 ⟨rfl, b1⟩
    have G := Lib.hid (show PlayR w size S n (.returned (.pointer none)) w1 from .inr ⟨rfl, b1⟩)
    clear C1 b1
    go_wp2
    go_ret
    exact G.out
end Go.Proofs.Ytipefkjgfbgceaa.Dk
