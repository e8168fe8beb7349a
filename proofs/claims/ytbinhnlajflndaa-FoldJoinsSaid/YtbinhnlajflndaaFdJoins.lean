/- The walk of voklaw4's law FoldJoins. -/
import Derived.Test.YtbinhnlajflndaaFdRJoin
import Derived.Test.YtbinhnlajflndaaFdBack
set_option linter.unusedVariables false
namespace Go.Proofs.Ytbinhnlajflndaa.Fd
open Go.RowKit Cv St

theorem rjoin_is (w : World) (A : Option Addr) (n c : Nat) (l : List ByteArray) (E : Int) (B : List UInt8) (k : Nat) (h : SsAt w A n l) (hn : n ≤ 300) (hz : ∀ j, (sat l j).size ≤ 6000) (hE : joinE (tl l) = E) (hB : joinB (tl l) = B) (hk : B.length = k) :
    Calls Try.prog 30 #[.slice A n c] w fun e w' => ∃ A' c', e = .returned (.tuple #[.slice A' k c', .int .i64 E]) ∧ BsAt w' A' k B ∧ k ≤ c' ∧ (A' = none → c' = 0) ∧ Below w.heap.size w w' := by
  subst hE; subst hB; subst hk
  refine (rjoin_any w A n c l h hn hz).mono ?_
  rintro e w' ⟨v, rfl, ho, hb⟩
  obtain ⟨A', c', rfl, hs, hc, hn', -⟩ := Own.at_ ho
  exact ⟨A', c', rfl, hs, hc, hn', hb⟩
theorem bytes_same (w : World) (A B : Option Addr) (n c m d : Nat) (l : List UInt8) (hl : BsAt w A n l) (hk : BsAt w B m l) :
    Calls Try.prog 31 #[.slice A n c, .slice B m d] w fun e w' => e = .returned (.bool true) ∧ w = w' := by
  have := bytes_any w A B n c m d l l hl hk
  rwa [show decide (l = l) = true from decide_eq_true rfl] at this
set_option maxRecDepth 100000 in
set_option maxHeartbeats 4000000 in
theorem foldJoins_walk (W : World) (A : Option Addr) (n c : Nat) (l : List ByteArray) (hA : SsAt W A n l) (sn : n ≤ 9223372036854775807) (hz : ∀ j, (sat l j).size ≤ maxLen) :
    Calls Try.prog 5 #[.slice A n c] W fun e w' => e = .returned (.bool true) ∧ Below W.heap.size W w' := by
  have b0 := Below.refl W.heap.size W
  have SH := Lib.hid hA
  have SZ := Lib.hid hz
  clear hz
  cases hf : fewS l n
  · have FW := Lib.hid hf
    clear hA hf
    go_enter Try.func5, Try.ntmps5
    go_wp2_with fail
    refine (first4_any _).mono ?_
    rintro e b1w ⟨rfl, b1h⟩
    have b1 := b0.trans (b1h.mono b0.size)
    go_wp2_with fail
    refine (few_is _ A n c l _ (SH.out.below b1) sn SZ.out FW.out).mono ?_
    rintro e _ ⟨rfl, rfl⟩
    go_wp2_with fail
    refine (first4_any _).mono ?_
    rintro e b2w ⟨rfl, b2h⟩
    have b2 := b1.trans (b2h.mono b1.size)
    go_wp2
    go_ret
    exact ⟨rfl, b2⟩
  · have FW := Lib.hid hf
    obtain ⟨n3, z6⟩ := few_sizes hA.1 hf
    have Z6 := Lib.hid z6
    clear hA hf z6
    obtain ⟨E, hE⟩ : ∃ E, joinE (tl l) = E := ⟨_, rfl⟩
    obtain ⟨B, hB⟩ : ∃ B, joinB (tl l) = B := ⟨_, rfl⟩
    obtain ⟨k, hk⟩ : ∃ k, B.length = k := ⟨_, rfl⟩
    have HE := Lib.hid hE; have HB := Lib.hid hB; have HK := Lib.hid hk
    clear hE hB hk
    go_enter Try.func5, Try.ntmps5
    go_wp2_with fail
    refine (first4_any _).mono ?_
    rintro e b1w ⟨rfl, b1h⟩
    have b1 := b0.trans (b1h.mono b0.size)
    go_wp2_with fail
    refine (few_is _ A n c l _ (SH.out.below b1) sn SZ.out FW.out).mono ?_
    rintro e _ ⟨rfl, rfl⟩
    go_wp2_with fail
    refine (join_is _ A n c l _ _ _ (SH.out.below b1) n3 Z6.out HE.out HB.out HK.out).mono ?_
    rintro e w3 ⟨A', c', rfl, hs3, hc3, hn3, h3⟩
    have b3 := b1.trans (h3.mono b1.size)
    go_wp2_with fail
    refine (rjoin_is _ A n c l _ _ _ (SH.out.below b3) n3 Z6.out HE.out HB.out HK.out).mono ?_
    rintro e w4 ⟨A4, c4, rfl, hs4, hc4, hn4, h4⟩
    have b4 := b3.trans (h4.mono b3.size)
    have hs34 := hs3.below h4
    clear h3 h4 hs3 hc3 hn3 hc4 hn4
    go_wp2_with fail
    refine (first4_any _).mono ?_
    rintro e b5w ⟨rfl, b5h⟩
    have b5 := b4.trans (b5h.mono b4.size)
    have hx := hs34.below b5h
    have hy := hs4.below b5h
    go_wp2_with fail
    refine (bytes_same _ _ _ _ _ _ _ _ hx hy).mono ?_
    rintro e _ ⟨rfl, rfl⟩
    go_wp2
    go_ret
    exact ⟨rfl, b5⟩
end Go.Proofs.Ytbinhnlajflndaa.Fd
