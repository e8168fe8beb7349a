/- The walk of voklaw4's law FoldBack. -/
import Derived.Test.YtbinhnlajflndaaFdFew
set_option linter.unusedVariables false
namespace Go.Proofs.Ytbinhnlajflndaa.Fd
open Go.RowKit Cv St

theorem few_is (w : World) (A : Option Addr) (n c : Nat) (l : List ByteArray) (x : Bool) (h : SsAt w A n l) (hn : n ≤ 9223372036854775807) (hz : ∀ j, (sat l j).size ≤ maxLen) (hx : fewS l n = x) :
    Calls Try.prog 28 #[.slice A n c] w fun e w' => e = .returned (.bool x) ∧ w = w' := hx ▸ few_any w A n c l h hn hz
theorem texts_same (w : World) (A B : Option Addr) (n c m d : Nat) (l : List ByteArray) (hl : SsAt w A n l) (hk : SsAt w B m l) (h1 : n ≤ 9223372036854775807) (h2 : m ≤ 9223372036854775807) :
    Calls Try.prog 33 #[.slice A n c, .slice B m d] w fun e w' => e = .returned (.bool true) ∧ Below w.heap.size w w' := by
  have := texts_any w A B n c m d l l hl hk h1 h2
  rwa [show decide (l = l) = true from decide_eq_true rfl] at this
theorem tl_str (l : List ByteArray) : (tl l).map str = l := by
  unfold tl; rw [List.map_map]
  conv => rhs; rw [← List.map_id l]
  exact List.map_congr_left fun s _ => str_list s
theorem runs_step {c t : Nat} {B : List UInt8} (h : runs c (B.drop t)) (ht : t < B.length) : (bat B t = 10 → runs 0 (B.drop (t + 1))) ∧ (bat B t ≠ 10 → c + 1 ≤ 76 ∧ runs (c + 1) (B.drop (t + 1))) := by
  rw [List.drop_eq_getElem_cons ht] at h
  obtain ⟨h1, h2⟩ := h
  rw [bat_lt ht]
  refine ⟨fun e => ?_, fun e => ?_⟩
  · have : B[t] = 10 := UInt8.toNat_inj.1 (by have : (10 : UInt8).toNat = 10 := rfl; omega)
    rw [if_pos this] at h2; exact h2
  · have : B[t] ≠ 10 := fun g => e (by rw [g]; rfl)
    rw [if_neg this] at h1 h2; exact ⟨h1, h2⟩
/-- Join by names -/
theorem join_is (w : World) (A : Option Addr) (n c : Nat) (l : List ByteArray) (E : Int) (B : List UInt8) (k : Nat) (h : SsAt w A n l) (hn : n ≤ 300) (hz : ∀ j, (sat l j).size ≤ 6000) (hE : joinE (tl l) = E) (hB : joinB (tl l) = B) (hk : B.length = k) :
    Calls Try.prog 29 #[.slice A n c] w fun e w' => ∃ A' c', e = .returned (.tuple #[.slice A' k c', .int .i64 E]) ∧ BsAt w' A' k B ∧ k ≤ c' ∧ (A' = none → c' = 0) ∧ Below w.heap.size w w' := by
  subst hE; subst hB; subst hk
  refine (join_any w A n c l h hn hz).mono ?_
  rintro e w' ⟨v, rfl, ho, hb⟩
  obtain ⟨A', c', rfl, hs, hc, hn', -⟩ := Own.at_ ho
  exact ⟨A', c', rfl, hs, hc, hn', hb⟩
set_option maxRecDepth 100000 in
set_option maxHeartbeats 4000000 in
theorem foldBack_walk (W : World) (A : Option Addr) (n c : Nat) (l : List ByteArray) (hA : SsAt W A n l) (sn : n ≤ 9223372036854775807) (hz : ∀ j, (sat l j).size ≤ maxLen) :
    Calls Try.prog 6 #[.slice A n c] W fun e w' => e = .returned (.bool true) ∧ Below W.heap.size W w' := by
  have b0 := Below.refl W.heap.size W
  have SH := Lib.hid hA
  have SZ := Lib.hid hz
  clear hz
  cases hf : fewS l n
  · have FW := Lib.hid hf
    clear hA hf
    go_enter Try.func6, Try.ntmps6
    go_wp2_with fail
    refine (first4_any _).mono ?_
    rintro e b1w ⟨rfl, b1h⟩
    have b1 := b0.trans (b1h.mono b0.size)
    go_wp2_with fail
    refine (few_is _ A n c l _ (SH.out.below b1) sn SZ.out FW.out).mono ?_
    rintro e _ ⟨rfl, rfl⟩
    go_wp2_with fail
    refine (first4_any _).mono ?_
    rintro e b2w ⟨rfl, b2h⟩
    have b2 := b1.trans (b2h.mono b1.size)
    go_wp2
    go_ret
    exact ⟨rfl, b2⟩
  · have FW := Lib.hid hf
    obtain ⟨n3, z6⟩ := few_sizes hA.1 hf
    have Z6 := Lib.hid z6
    have EN := Lib.hid hA.1
    clear hA hf z6
    obtain ⟨E, hE⟩ : ∃ E, joinE (tl l) = E := ⟨_, rfl⟩
    obtain ⟨B, hB⟩ : ∃ B, joinB (tl l) = B := ⟨_, rfl⟩
    obtain ⟨k, hk⟩ : ∃ k, B.length = k := ⟨_, rfl⟩
    have HE := Lib.hid hE; have HB := Lib.hid hB; have HK := Lib.hid hk
    by_cases h0 : E = 0
    · subst h0
      obtain ⟨j1, j2, j3⟩ := joinE_in hE
      have eB : joinL (tl l) = B := by rw [← hB, j3]
      have bs := back_split j1 j2
      have ru := runs_join j1
      rw [eB] at bs ru j2
      have BS := Lib.hid bs
      have RU := Lib.hid ru
      have k4 : k ≤ 4096 := by rw [← hk]; exact j2
      have TS := Lib.hid (show (splitL B).map str = l from by rw [bs.1, tl_str])
      clear hE hB hk j1 j2 j3 eB bs ru
      go_enter Try.func6, Try.ntmps6
      go_wp2_with fail
      refine (first4_any _).mono ?_
      rintro e b1w ⟨rfl, b1h⟩
      have b1 := b0.trans (b1h.mono b0.size)
      go_wp2_with fail
      refine (few_is _ A n c l _ (SH.out.below b1) sn SZ.out FW.out).mono ?_
      rintro e _ ⟨rfl, rfl⟩
      go_wp2_with fail
      refine (join_is _ A n c l _ _ _ (SH.out.below b1) n3 Z6.out HE.out HB.out HK.out).mono ?_
      rintro e w3 ⟨A', c', rfl, hs3, hc3, hn3, h3⟩
      have b3 := b1.trans (h3.mono b1.size)
      go_wp2_with fail
      refine (split_k _ A' k c' B l n 0 0 hs3 hc3 (by omega) TS.out EN.out.symm BS.out.2.1 BS.out.2.2).mono ?_
      rintro e w4 ⟨A4, d4, rfl, hs4, h4⟩
      have b4 := b3.trans (h4.mono b3.size)
      have hsb := hs3.below h4
      have hcb := hsb.2
      have HCB := Lib.hid hcb
      clear h3 h4 hs3 hsb hcb
      go_wp2
      go_loop [8, 9] (fun q i => ∃ t m : Nat, t ≤ k ∧ i = .int .i64 t ∧ q = .int .i64 m ∧ m ≤ 76 ∧ Hid (runs m (B.drop t))) (fun _ i => k - (intOf i).toNat)
      case atStart => exact ⟨0, 0, Nat.zero_le _, rfl, rfl, by omega, RU⟩
      case round =>
        obtain ⟨t, m, ht, rfl, rfl, hm, D⟩ := hrel
        by_cases hlt : t < k
        · obtain ⟨b, off, rfl, hb, hcc⟩ := HCB.out (by omega)
          have c0 := hcc t hlt
          have st := runs_step D.out (by rw [HK.out]; exact hlt)
          by_cases h10 : bat B t = 10
          · have t1 : ((bat B t : Int) == 10) = true := by rw [beq_iff_eq]; exact h10
            have R2 := Lib.hid (st.1 h10)
            clear st h10 hcc
            go_wp2
            go_round
            case rel => exact ⟨t + 1, 0, by omega, by go_num, rfl, by omega, R2⟩
            case measure => simp [intOf]; omega
          · have t1 : ((bat B t : Int) == 10) = false := by rw [beq_eq_false_iff_ne]; exact h10
            have m1 := (st.2 h10).1
            have m1' : (m : Int) + 1 ≤ 76 := by omega
            have R2 := Lib.hid (st.2 h10).2
            clear st h10 hcc
            go_wp2
            go_round
            case rel => exact ⟨t + 1, m + 1, by omega, by go_num, by go_num, m1, R2⟩
            case measure => simp [intOf]; omega
        · obtain rfl : k = t := by omega
          clear D hlt ht
          go_wp2_with fail
          refine (first4_any _).mono ?_
          rintro e b5w ⟨rfl, b5h⟩
          have b5 := b4.trans (b5h.mono b4.size)
          have hl5 := SH.out.below b5
          have hs5 := hs4.below b5h
          go_wp2_with fail
          refine (texts_same _ _ _ _ _ _ _ _ hl5 hs5 sn sn).mono ?_
          rintro e w6 ⟨rfl, h6⟩
          go_wp2
          go_ret
          exact ⟨rfl, b5.trans (h6.mono b5.size)⟩
    · have tE : (E != 0) = true := by rw [bne_iff_ne]; exact h0
      have eB : B = [] := by
        rw [← hB]; unfold joinB; rw [hE, if_neg h0]
      subst eB
      obtain rfl : k = 0 := by rw [← hk]; rfl
      clear hE hB hk h0
      go_enter Try.func6, Try.ntmps6
      go_wp2_with fail
      refine (first4_any _).mono ?_
      rintro e b1w ⟨rfl, b1h⟩
      have b1 := b0.trans (b1h.mono b0.size)
      go_wp2_with fail
      refine (few_is _ A n c l _ (SH.out.below b1) sn SZ.out FW.out).mono ?_
      rintro e _ ⟨rfl, rfl⟩
      go_wp2_with fail
      refine (join_is _ A n c l _ _ _ (SH.out.below b1) n3 Z6.out HE.out HB.out HK.out).mono ?_
      rintro e w3 ⟨A', c', rfl, hs3, hc3, hn3, h3⟩
      have b3 := b1.trans (h3.mono b1.size)
      clear hs3 hc3 hn3 h3
      go_wp2_with fail
      refine (first4_any _).mono ?_
      rintro e b4w ⟨rfl, b4h⟩
      have b4 := b3.trans (b4h.mono b3.size)
      go_wp2
      go_ret
      exact ⟨rfl, b4⟩
end Go.Proofs.Ytbinhnlajflndaa.Fd
