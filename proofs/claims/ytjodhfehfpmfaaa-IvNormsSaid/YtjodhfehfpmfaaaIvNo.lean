/- The walk of voklaw10.IvNorms. -/
import Derived.Test.YtjodhfehfpmfaaaIvRN
import Derived.Test.YtjodhfehfpmfaaaIvApp
import Derived.Test.YtjodhfehfpmfaaaIvOp
set_option linter.unusedVariables false
namespace Go.Proofs.Ytjodhfehfpmfaaa.Iv
open Go.RowKit

set_option maxRecDepth 100000 in
set_option maxHeartbeats 8000000 in
theorem norms_walk (w : World) (A : Option Addr) (n c : Nat) (l : List (Int × Int)) (hA : SpAt w A n l) (hz : A = none → n = 0) (hm : n ≤ 9223372036854775807) :
    Calls Try.prog 3 #[.slice A n c] w fun e w' => e = .returned (.bool true) ∧ Below w.heap.size w w' := by
  have HA := Lib.hid hA
  have HZ := Lib.hid hz
  clear hA hz
  go_enter Try.func3, Try.ntmps3
  go_wp2_with fail
  refine (firstV _).mono ?_
  rintro e w1 ⟨rfl, b1⟩
  have B1 := Lib.hid b1
  clear b1
  by_cases hb : 3000 < n
  · have s1 : decide (3000 < n) = true := decide_eq_true hb
    have s2 : decide ((3000 : Int) < n) = true := decide_eq_true (by omega)
    go_wp2_with fail
    refine (firstV _).mono ?_
    rintro e w2 ⟨rfl, b2⟩
    have B2 := Lib.hid (B1.out.trans (b2.mono B1.out.size))
    clear b2
    go_wp2_with fail
    go_ret
    exact ⟨rfl, B2.out⟩
  · have s1 : decide (3000 < n) = false := decide_eq_false hb
    have s2 : decide ((3000 : Int) < n) = false := decide_eq_false (by omega)
    have H1 := Lib.hid (HA.out.below B1.out)
    go_upto_region 5 with fail
    go_cut [3] from 10 to 12 (fun v wx => Hid (OwnP w1.heap.size wx v l ∧ Below w1.heap.size w1 wx))
    case first =>
      have OE := Lib.hid (own_empty w1 w1.heap.size (Nat.le_refl _))
      have BE := below_alloc w1 (.cells #[] 40)
      have HE := Lib.hid (H1.out.below BE)
      have BEH := Lib.hid BE
      have sE := BE.size
      clear BE
      cases A with
      | none =>
        obtain rfl : l = [] := List.length_eq_zero_iff.1 (by rw [← HA.out.1]; exact HZ.out rfl)
        obtain rfl := HZ.out rfl
        go_wp2
        go_meet
        exact Lib.hid ⟨OE.out, BEH.out⟩
      | some ad =>
        go_wp2_with (at_builtin; refine append_sps rfl _ _ rfl _ [] rfl OE.out sE ad n c l HE.out rfl (by simp; omega) ?_)
        intro v4 w4 ow4 hb4
        have OW := Lib.hid (show OwnP w1.heap.size w4 v4 l from ow4)
        have B4 := Lib.hid (BEH.out.trans hb4)
        clear ow4 hb4
        go_wp2
        go_meet
        exact Lib.hid ⟨OW.out, B4.out⟩
    case rest =>
      obtain ⟨w4, rfl⟩ : ∃ w4 : World, w4 = wc := ⟨_, rfl⟩
      obtain ⟨A9, c9, q9, i9, z9⟩ := own_any hcut.out.1
      have BW := Lib.hid (B1.out.trans (hcut.out.2.mono B1.out.size))
      have I9 := Lib.hid i9
      have LN := Lib.hid HA.out.1
      subst q9
      clear hcut i9
      go_wp2_with fail
      refine (firstV _).mono ?_
      rintro e w5 ⟨rfl, b5⟩
      have B5 := Lib.hid b5
      have BW5 := Lib.hid (BW.out.trans (b5.mono BW.out.size))
      clear b5
      go_wp2_with fail
      refine (norm_any w5 A9 l.length c9 l (I9.out.below B5.out) z9 (by have := LN.out; omega)).mono ?_
      rintro e w6 ⟨A6, c6, rfl, h6, -, -, b6⟩
      have H6 := Lib.hid h6
      have B6 := Lib.hid (B5.out.trans (b6.mono B5.out.size))
      have BW6 := Lib.hid (BW5.out.trans (b6.mono BW5.out.size))
      clear h6 b6
      go_wp2_with fail
      refine (refnorm_is w6 A n c l (HA.out.below BW6.out) (by omega)).mono ?_
      rintro e w7 ⟨A7, c7, rfl, h7, -, -, b7⟩
      have H7 := Lib.hid h7
      have H67 := Lib.hid (H6.out.below b7)
      have B7 := Lib.hid (B6.out.trans (b7.mono B6.out.size))
      have BW7 := Lib.hid (BW6.out.trans (b7.mono BW6.out.size))
      have NL := Lib.hid (norm_len l)
      clear h7 b7 H6
      generalize normL l = r at *
      go_wp2_with fail
      refine (spans_any w7 A6 A7 r.length c6 r.length c7 r r H67.out H7.out (by have := NL.out; have := LN.out; omega) (by have := NL.out; have := LN.out; omega)).mono ?_
      rintro e w8 ⟨rfl, b8⟩
      have B8 := Lib.hid (B7.out.trans (b8.mono B7.out.size))
      have BW8 := Lib.hid (BW7.out.trans (b8.mono BW7.out.size))
      rw [decide_eq_true (rfl : r = r)]
      clear b8
      go_wp2_with fail
      refine (spans_any w8 A9 A l.length c9 n c l l (I9.out.below B8.out) (HA.out.below BW8.out) (by have := LN.out; omega) (by omega)).mono ?_
      rintro e w9 ⟨rfl, b9⟩
      have BW9 := Lib.hid (BW8.out.trans (b9.mono BW8.out.size))
      rw [decide_eq_true (rfl : l = l)]
      clear b9
      go_wp2_with fail
      go_ret
      exact ⟨rfl, BW9.out⟩
end Go.Proofs.Ytjodhfehfpmfaaa.Iv
