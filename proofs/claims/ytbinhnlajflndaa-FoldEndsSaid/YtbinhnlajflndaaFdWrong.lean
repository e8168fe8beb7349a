/- The walk of voklaw4's law FoldWrong. -/
import Derived.Test.YtbinhnlajflndaaFdLaw0
set_option linter.unusedVariables false
namespace Go.Proofs.Ytbinhnlajflndaa.Fd
open Go.RowKit Cv St

def visible (l : List UInt8) (k : Nat) : Prop := ∀ j, j < k → 33 ≤ bat l j ∧ bat l j ≤ 126
theorem visible.succ {l : List UInt8} {k : Nat} (h : visible l k) (e : 33 ≤ bat l k ∧ bat l k ≤ 126) : visible l (k + 1) := fun j hj => by
  by_cases g : j = k
  · subst g; exact e
  · exact h j (by omega)
theorem visible.may {l : List UInt8} {k j : Nat} (h : visible l k) (hj : j < k) : mayI (bat l j) = true := by
  have := h j hj; exact decide_eq_true ⟨by omega, by omega⟩
theorem bat_app1 {a r : List UInt8} {j : Nat} (h : j < a.length) : bat (a ++ r) j = bat a j := by
  unfold bat; rw [List.getD_eq_getElem?_getD, List.getElem?_append_left h, ← List.getD_eq_getElem?_getD]
theorem bat_app2 (a r : List UInt8) (j : Nat) : bat (a ++ r) (a.length + j) = bat r j := by
  unfold bat; rw [List.getD_eq_getElem?_getD, List.getElem?_append_right (by omega), ← List.getD_eq_getElem?_getD]; congr 2; congr 1; omega
theorem wrong_split {a b : List UInt8} {x : UInt8} (ha : visible a a.length) (hl : a.length + 1 + b.length ≤ 4096) (h1 : ¬ (32 ≤ (x.toNat : Int) ∧ (x.toNat : Int) ≤ 126)) (h2 : (x.toNat : Int) ≠ 10) (h3 : (x.toNat : Int) ≠ 13) :
    splitL (a ++ [x] ++ b) = [] ∧ splitN (a ++ [x] ++ b) = (a.length : Int) ∧ splitE (a ++ [x] ++ b) = 4 := by
  have e : a ++ [x] ++ b = a ++ (x :: b) := by simp
  have hx : bat (a ++ (x :: b)) a.length = (x.toNat : Int) := by have := bat_app2 a (x :: b) 0; rw [Nat.add_zero] at this; rw [this]; rfl
  have hf : faultF (a ++ (x :: b)) = some a.length := faultF_some (by simp) (fun j hj => ok_may (by rw [bat_app1 hj]; exact ha.may hj))
    (ok_no (by rw [hx]; exact decide_eq_false h1) (by rw [hx]; exact h2) (by rw [hx]; exact fun k => h3 k.1))
  obtain ⟨f1, f2⟩ := faultN_some hf
  rw [e]
  have := split_bad (l := a ++ (x :: b)) (by simp; omega) f2.symm
  rw [← f1] at this
  exact this
set_option maxRecDepth 100000 in
set_option maxHeartbeats 4000000 in
theorem foldWrong_walk (W : World) (A B : Option Addr) (n c m d : Nat) (a b : List UInt8) (hA : BsAt W A n a) (hB : BsAt W B m b) (ka : A = none → c = 0) (kb : B = none → d = 0) (sa : n ≤ 9223372036854775807) (sb : m ≤ 9223372036854775807) (z : Int) (z0 : 0 ≤ z) (z1 : z ≤ 255) :
    Calls Try.prog 10 #[.slice A n c, .slice B m d, .int .u8 z] W fun e w' => e = .returned (.bool true) ∧ Below W.heap.size W w' := by
  have b0 := Below.refl W.heap.size W
  by_cases k1 : 2000 < n
  · go_enter Try.func10, Try.ntmps10
    go_wp2_with fail
    refine (first4_any _).mono ?_
    rintro e b1w ⟨rfl, b1h⟩
    have b1 := b0.trans (b1h.mono b0.size)
    go_wp2_with fail
    refine (first4_any _).mono ?_
    rintro e b2w ⟨rfl, b2h⟩
    have b2 := b1.trans (b2h.mono b1.size)
    go_wp2
    go_ret
    exact ⟨rfl, b2⟩
  have k1' : n ≤ 2000 := by omega
  clear k1 sa
  by_cases k2 : 2000 < m
  · go_enter Try.func10, Try.ntmps10
    go_wp2_with fail
    refine (first4_any _).mono ?_
    rintro e b1w ⟨rfl, b1h⟩
    have b1 := b0.trans (b1h.mono b0.size)
    go_wp2_with fail
    refine (first4_any _).mono ?_
    rintro e b2w ⟨rfl, b2h⟩
    have b2 := b1.trans (b2h.mono b1.size)
    go_wp2
    go_ret
    exact ⟨rfl, b2⟩
  have k2' : m ≤ 2000 := by omega
  clear k2 sb
  by_cases k3 : n = 0
  · have t0 : ((n : Int) == 0) = true := by rw [beq_iff_eq]; omega
    clear k3
    go_enter Try.func10, Try.ntmps10
    go_wp2_with fail
    refine (first4_any _).mono ?_
    rintro e b1w ⟨rfl, b1h⟩
    have b1 := b0.trans (b1h.mono b0.size)
    go_wp2_with fail
    refine (first4_any _).mono ?_
    rintro e b2w ⟨rfl, b2h⟩
    have b2 := b1.trans (b2h.mono b1.size)
    go_wp2
    go_ret
    exact ⟨rfl, b2⟩
  have t0 : ((n : Int) == 0) = false := by rw [beq_eq_false_iff_ne]; omega
  by_cases k4 : 32 ≤ z ∧ z ≤ 126
  · obtain ⟨k5, k6⟩ := k4
    clear k3
    go_enter Try.func10, Try.ntmps10
    go_wp2_with fail
    refine (first4_any _).mono ?_
    rintro e b1w ⟨rfl, b1h⟩
    have b1 := b0.trans (b1h.mono b0.size)
    go_wp2_with fail
    refine (first4_any _).mono ?_
    rintro e b2w ⟨rfl, b2h⟩
    have b2 := b1.trans (b2h.mono b1.size)
    go_wp2
    go_ret
    exact ⟨rfl, b2⟩
  by_cases k10 : z = 10
  · have t1 : ((z : Int) == 10) = true := by rw [beq_iff_eq]; exact k10
    have q : z < 32 := by omega
    clear k3 k4 k10
    go_enter Try.func10, Try.ntmps10
    go_wp2_with fail
    refine (first4_any _).mono ?_
    rintro e b1w ⟨rfl, b1h⟩
    have b1 := b0.trans (b1h.mono b0.size)
    go_wp2_with fail
    refine (first4_any _).mono ?_
    rintro e b2w ⟨rfl, b2h⟩
    have b2 := b1.trans (b2h.mono b1.size)
    go_wp2
    go_ret
    exact ⟨rfl, b2⟩
  have t1 : ((z : Int) == 10) = false := by rw [beq_eq_false_iff_ne]; exact k10
  by_cases k13 : z = 13
  · have t2 : ((z : Int) == 13) = true := by rw [beq_iff_eq]; exact k13
    have q : z < 32 := by omega
    clear k3 k4 k10 k13
    go_enter Try.func10, Try.ntmps10
    go_wp2_with fail
    refine (first4_any _).mono ?_
    rintro e b1w ⟨rfl, b1h⟩
    have b1 := b0.trans (b1h.mono b0.size)
    go_wp2_with fail
    refine (first4_any _).mono ?_
    rintro e b2w ⟨rfl, b2h⟩
    have b2 := b1.trans (b2h.mono b1.size)
    go_wp2
    go_ret
    exact ⟨rfl, b2⟩
  have t2 : ((z : Int) == 13) = false := by rw [beq_eq_false_iff_ne]; exact k13
  obtain ⟨x, rfl⟩ : ∃ x : UInt8, z = (x.toNat : Int) := ⟨u8 z, (u8_nat z z0 z1).symm⟩
  have S : visible a a.length → (splitL (a ++ [x] ++ b) = [] ∧ splitN (a ++ [x] ++ b) = (a.length : Int) ∧ splitE (a ++ [x] ++ b) = 4) := fun h => wrong_split h (by rw [← hA.1, ← hB.1]; omega) k4 k10 k13
  have SH := Lib.hid S
  have EA := Lib.hid hA.1
  have EB := Lib.hid hB.1
  have HA := Lib.hid hA; have HB := Lib.hid hB; have KA := Lib.hid ka; have KB := Lib.hid kb
  have n0 : 0 < n := by omega
  obtain ⟨bk, off, rfl, hlt0, hc⟩ := hA.2 n0
  have kz : ((x.toNat : Int) < 32) ∨ (126 < (x.toNat : Int)) := by omega
  have HC := Lib.hid hc
  clear S k3 k4 k10 k13 hA hB ka kb hc z0 z1
  rcases kz with kz | kz
  · go_enter Try.func10, Try.ntmps10
    go_wp2_with fail
    refine (first4_any _).mono ?_
    rintro e b1w ⟨rfl, b1h⟩
    have b1 := b0.trans (b1h.mono b0.size)
    go_wp2
    go_loopw [7] (fun i wr => ∃ t : Nat, t ≤ n ∧ i = .int .i64 t ∧ Hid (visible a t) ∧ Below W.heap.size W wr) (fun i _ => n - (intOf i).toNat)
    case atStart => exact ⟨0, Nat.zero_le _, rfl, Lib.hid (fun j hj => absurd hj (by omega)), b1⟩
    case round =>
      rename_i wr
      obtain ⟨t, ht, rfl, D, hW⟩ := hrel
      by_cases hlt : t < n
      · have c0 := (hW.cell (p := ⟨bk, off + t, none⟩) hlt0).trans (HC.out t hlt)
        by_cases h1 : bat a t < 33
        · clear hlt0
          go_wp2_with fail
          refine (first4_any _).mono ?_
          rintro e b2w ⟨rfl, b2h⟩
          have b2 := hW.trans (b2h.mono hW.size)
          go_wp2
          go_ret
          exact ⟨rfl, b2⟩
        · by_cases h2 : 126 < bat a t
          · have h1' : 33 ≤ bat a t := by omega
            clear h1 hlt0
            go_wp2_with fail
            refine (first4_any _).mono ?_
            rintro e b2w ⟨rfl, b2h⟩
            have b2 := hW.trans (b2h.mono hW.size)
            go_wp2
            go_ret
            exact ⟨rfl, b2⟩
          · have D2 := Lib.hid (D.out.succ ⟨by omega, by omega⟩)
            have h1' : 33 ≤ bat a t := by omega
            have h2' : bat a t ≤ 126 := by omega
            clear h1 h2 hlt0
            go_wp2
            go_roundw
            case rel => exact ⟨t + 1, by omega, by go_num, D2, hW⟩
            case measure => simp [intOf]; omega
      · obtain rfl : n = t := by omega
        have T := Lib.hid (SH.out (by rw [← EA.out]; exact D.out))
        clear D SH hlt ht
        have hAw := HA.out.below hW
        go_wp2_with fail
        refine (copy_any _ _ _ _ _ hAw KA.out (by omega)).mono ?_
        rintro e w3 ⟨v, rfl, hO, h3⟩
        have b3 := hW.trans (h3.mono hW.size)
        have g1 := (Below.refl w3.heap.size w3).alloc (Nat.le_refl _) (.cells #[.int .u8 x.toNat] 5)
        have hX := lit_at w3 [x] #[.int .u8 x.toNat] 5 (0, 0) rfl
        have hO3 := Own.on hO g1
        have h3b := h3.trans (g1.mono h3.size)
        go_wp2_with (at_builtin; refine append_bs rfl _ _ rfl v a rfl hO3 h3b _ _ _ [x] rfl hX (fun h => by cases h) (by rw [← EA.out]; omega) ?_)
        intro v4 w4 hO4 h4
        have hBw := HB.out.below (hW.trans (h4.mono hW.size))
        go_wp2_with (at_builtin; refine append_bs rfl _ _ rfl v4 (a ++ [x]) rfl hO4 h4 _ _ _ b rfl hBw KB.out (by rw [List.length_append, ← EA.out]; simp; omega) ?_)
        intro v5 w5 hO5 h5
        have b5 := hW.trans (h5.mono hW.size)
        replace hO5 : Own wr w5 v5 (a ++ [x] ++ b) := by simpa using hO5
        obtain ⟨A5, c5, rfl, hs5, hc5, -, hm5⟩ := Own.at_ hO5
        obtain ⟨k5, hk5⟩ : ∃ k, (a ++ [x] ++ b).length = k := ⟨_, rfl⟩
        have hk5' : k5 ≤ 4001 := by rw [← hk5]; simp only [List.length_append, ← EA.out, ← EB.out]; simp; omega
        rw [hk5] at hs5 hc5
        rw [hk5]
        have HK := Lib.hid hk5
        clear hk5 hO5 hO4 hO3 hO hm5 hX g1 h3b hAw hBw
        have T2 : splitN (a ++ [x] ++ b) = (n : Int) := by rw [T.out.2.1, ← EA.out]
        have HT2 := Lib.hid T2
        clear T2
        go_wp2_with fail
        refine (split_k _ A5 k5 c5 _ [] 0 _ _ hs5 hc5 (by omega) (by rw [T.out.1]; rfl) rfl HT2.out T.out.2.2).mono ?_
        rintro e w6 ⟨B6, d6, rfl, -, h6⟩
        have b6 := b5.trans (h6.mono b5.size)
        go_wp2_with fail
        refine (first4_any _).mono ?_
        rintro e b7w ⟨rfl, b7h⟩
        have b7 := b6.trans (b7h.mono b6.size)
        go_wp2
        go_ret
        exact ⟨rfl, b7⟩
  · go_enter Try.func10, Try.ntmps10
    go_wp2_with fail
    refine (first4_any _).mono ?_
    rintro e b1w ⟨rfl, b1h⟩
    have b1 := b0.trans (b1h.mono b0.size)
    go_wp2
    go_loopw [7] (fun i wr => ∃ t : Nat, t ≤ n ∧ i = .int .i64 t ∧ Hid (visible a t) ∧ Below W.heap.size W wr) (fun i _ => n - (intOf i).toNat)
    case atStart => exact ⟨0, Nat.zero_le _, rfl, Lib.hid (fun j hj => absurd hj (by omega)), b1⟩
    case round =>
      rename_i wr
      obtain ⟨t, ht, rfl, D, hW⟩ := hrel
      by_cases hlt : t < n
      · have c0 := (hW.cell (p := ⟨bk, off + t, none⟩) hlt0).trans (HC.out t hlt)
        by_cases h1 : bat a t < 33
        · clear hlt0
          go_wp2_with fail
          refine (first4_any _).mono ?_
          rintro e b2w ⟨rfl, b2h⟩
          have b2 := hW.trans (b2h.mono hW.size)
          go_wp2
          go_ret
          exact ⟨rfl, b2⟩
        · by_cases h2 : 126 < bat a t
          · have h1' : 33 ≤ bat a t := by omega
            clear h1 hlt0
            go_wp2_with fail
            refine (first4_any _).mono ?_
            rintro e b2w ⟨rfl, b2h⟩
            have b2 := hW.trans (b2h.mono hW.size)
            go_wp2
            go_ret
            exact ⟨rfl, b2⟩
          · have D2 := Lib.hid (D.out.succ ⟨by omega, by omega⟩)
            have h1' : 33 ≤ bat a t := by omega
            have h2' : bat a t ≤ 126 := by omega
            clear h1 h2 hlt0
            go_wp2
            go_roundw
            case rel => exact ⟨t + 1, by omega, by go_num, D2, hW⟩
            case measure => simp [intOf]; omega
      · obtain rfl : n = t := by omega
        have T := Lib.hid (SH.out (by rw [← EA.out]; exact D.out))
        clear D SH hlt ht
        have hAw := HA.out.below hW
        go_wp2_with fail
        refine (copy_any _ _ _ _ _ hAw KA.out (by omega)).mono ?_
        rintro e w3 ⟨v, rfl, hO, h3⟩
        have b3 := hW.trans (h3.mono hW.size)
        have g1 := (Below.refl w3.heap.size w3).alloc (Nat.le_refl _) (.cells #[.int .u8 x.toNat] 5)
        have hX := lit_at w3 [x] #[.int .u8 x.toNat] 5 (0, 0) rfl
        have hO3 := Own.on hO g1
        have h3b := h3.trans (g1.mono h3.size)
        go_wp2_with (at_builtin; refine append_bs rfl _ _ rfl v a rfl hO3 h3b _ _ _ [x] rfl hX (fun h => by cases h) (by rw [← EA.out]; omega) ?_)
        intro v4 w4 hO4 h4
        have hBw := HB.out.below (hW.trans (h4.mono hW.size))
        go_wp2_with (at_builtin; refine append_bs rfl _ _ rfl v4 (a ++ [x]) rfl hO4 h4 _ _ _ b rfl hBw KB.out (by rw [List.length_append, ← EA.out]; simp; omega) ?_)
        intro v5 w5 hO5 h5
        have b5 := hW.trans (h5.mono hW.size)
        replace hO5 : Own wr w5 v5 (a ++ [x] ++ b) := by simpa using hO5
        obtain ⟨A5, c5, rfl, hs5, hc5, -, hm5⟩ := Own.at_ hO5
        obtain ⟨k5, hk5⟩ : ∃ k, (a ++ [x] ++ b).length = k := ⟨_, rfl⟩
        have hk5' : k5 ≤ 4001 := by rw [← hk5]; simp only [List.length_append, ← EA.out, ← EB.out]; simp; omega
        rw [hk5] at hs5 hc5
        rw [hk5]
        have HK := Lib.hid hk5
        clear hk5 hO5 hO4 hO3 hO hm5 hX g1 h3b hAw hBw
        have T2 : splitN (a ++ [x] ++ b) = (n : Int) := by rw [T.out.2.1, ← EA.out]
        have HT2 := Lib.hid T2
        clear T2
        go_wp2_with fail
        refine (split_k _ A5 k5 c5 _ [] 0 _ _ hs5 hc5 (by omega) (by rw [T.out.1]; rfl) rfl HT2.out T.out.2.2).mono ?_
        rintro e w6 ⟨B6, d6, rfl, -, h6⟩
        have b6 := b5.trans (h6.mono b5.size)
        go_wp2_with fail
        refine (first4_any _).mono ?_
        rintro e b7w ⟨rfl, b7h⟩
        have b7 := b6.trans (b7h.mono b6.size)
        go_wp2
        go_ret
        exact ⟨rfl, b7⟩
end Go.Proofs.Ytbinhnlajflndaa.Fd
