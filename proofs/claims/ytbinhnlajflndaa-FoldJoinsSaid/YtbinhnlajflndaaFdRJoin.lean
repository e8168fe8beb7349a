/- The walk of vokref4's Join. -/
import Derived.Test.YtbinhnlajflndaaFdFew
set_option linter.unusedVariables false
namespace Go.Proofs.Ytbinhnlajflndaa.Fd
open Go.RowKit Cv St

theorem linTo_bad {z : List UInt8} {k : Nat} (hk : k < z.length) (h : ¬ (32 ≤ bat z k ∧ bat z k ≤ 126)) : mayLn z = false := (mayLn_bad hk (decide_eq_false h)).symm
theorem over {l : List (List UInt8)} {t : Nat} {L X Y : List UInt8} (h : joinL (l.take t) = L ++ X) (g : 4096 < L.length) : 4096 < (joinL l).length := by
  have := joinL_pre l t
  rw [h, List.length_append] at this
  omega
set_option maxRecDepth 100000 in
set_option maxHeartbeats 8000000 in
theorem rjoin_any (w : World) (A : Option Addr) (n c : Nat) (l : List ByteArray) (h : SsAt w A n l) (hn : n ≤ 300) (hz : ∀ j, (sat l j).size ≤ 6000) :
    Calls Try.prog 30 #[.slice A n c] w (JoinPost w l) := by
  have EN := Lib.hid h.1
  have HZ := Lib.hid hz
  have HC := Lib.hid h.2
  clear h hz
  go_enter Try.func30, Try.ntmps30
  go_wp2
  go_loop [5] (fun i => ∃ t : Nat, t ≤ n ∧ i = .int .i64 t ∧ Hid (mayTo l t)) (fun i => n - (intOf i).toNat)
  case atStart => exact ⟨0, Nat.zero_le _, rfl, Lib.hid (fun j hj => absurd hj (by omega))⟩
  case round =>
    obtain ⟨t, ht, rfl, D⟩ := hrel
    by_cases hlt : t < n
    · obtain ⟨b, off, rfl, hb, hcc⟩ := HC.out (by omega)
      have c0 := hcc t hlt
      have zs := HZ.out t
      clear hcc
      obtain ⟨s, hs⟩ : ∃ s, sat l t = s := ⟨_, rfl⟩
      have NO := Lib.hid (fun (g : mayLn s.data.toList = false) => may_none (l := l) (k := t) (by rw [← EN.out]; exact hlt) (by rw [hs]; exact g))
      have YES := Lib.hid (fun (g : mayLn s.data.toList = true) => D.out.succ (by rw [hs]; exact g))
      have hl : s.data.toList.length = s.size := by simp
      rw [hs] at c0 zs
      clear hs D
      by_cases h0 : s.size = 0
      · have t1 : ((s.size : Int) == 0) = true := by rw [beq_iff_eq]; omega
        have F := Lib.hid (NO.out (by rw [List.length_eq_zero_iff.1 (show s.data.toList.length = 0 by omega)]; exact mayLn_empty.symm))
        clear h0 hl NO YES
        go_wp2
        go_ret2
        exact join_4 F.out (Below.refl _ _)
      · have hp : 0 < s.size := by omega
        have t1 : ((s.size : Int) == 0) = false := by rw [beq_eq_false_iff_ne]; omega
        have b0 := bat_str hp
        by_cases h32 : (s[0].toNat : Int) = 32
        · have t2 : ((s[0].toNat : Int) == 32) = true := by rw [beq_iff_eq]; exact h32
          have F := Lib.hid (NO.out (mayLn_blank (by omega) (by rw [b0]; exact h32)).symm)
          clear h0 hl b0 h32 NO YES
          go_wp2
          go_ret2
          exact join_4 F.out (Below.refl _ _)
        · have t2 : ((s[0].toNat : Int) == 32) = false := by rw [beq_eq_false_iff_ne]; exact h32
          have Y2 := Lib.hid (fun g => YES.out (mayLn_yes (z := s.data.toList) (by omega) (by rw [b0]; exact h32) g).symm)
          have HL := Lib.hid hl
          clear h0 hl b0 h32 YES
          go_wp2
          go_loop [6] (fun i => ∃ k : Nat, k ≤ s.size ∧ i = .int .i64 k ∧ Hid (linTo s.data.toList k)) (fun i => s.size - (intOf i).toNat)
          case atStart => exact ⟨0, Nat.zero_le _, rfl, Lib.hid (fun j hj => absurd hj (by omega))⟩
          case round =>
            obtain ⟨k, hk, rfl, G⟩ := hrel
            by_cases hkt : k < s.size
            · have eb := bat_str hkt
              by_cases g1 : (s[k].toNat : Int) < 32
              · have F := Lib.hid (NO.out (linTo_bad (by rw [HL.out]; exact hkt) (by rw [eb]; omega)))
                clear eb NO Y2
                go_wp2
                go_ret2
                exact join_4 F.out (Below.refl _ _)
              · by_cases g2 : 126 < (s[k].toNat : Int)
                · have F := Lib.hid (NO.out (linTo_bad (by rw [HL.out]; exact hkt) (by rw [eb]; omega)))
                  have g1' : 32 ≤ (s[k].toNat : Int) := by omega
                  clear eb NO Y2 g1
                  go_wp2
                  go_ret2
                  exact join_4 F.out (Below.refl _ _)
                · have G2 := Lib.hid (G.out.succ (by rw [eb]; exact decide_eq_true ⟨by omega, by omega⟩))
                  have g1' : 32 ≤ (s[k].toNat : Int) := by omega
                  have g2' : (s[k].toNat : Int) ≤ 126 := by omega
                  clear eb g1 g2 NO Y2
                  go_wp2
                  go_round
                  case rel => exact ⟨k + 1, by omega, by go_num, G2⟩
                  case measure => simp [intOf]; omega
            · obtain rfl : s.size = k := by omega
              have D2 := Lib.hid (Y2.out (by rw [HL.out]; exact G.out))
              clear G hkt hk NO Y2
              go_wp2
              go_round
              case rel => exact ⟨t + 1, by omega, by go_num, D2⟩
              case measure => simp [intOf]; omega
    · obtain rfl : n = t := by omega
      have ALL := Lib.hid (show (tl l).all mayLn = true from mayTo.all (by rw [← EN.out]; exact D.out))
      clear D hlt ht
      go_wp2
      go_loopw [4, 7] (fun o i wr => ∃ (t : Nat) (v' : Value) (L : List UInt8), t ≤ n ∧ v' = o ∧ i = .int .i64 t ∧ Hid (joinL ((tl l).take t) = L) ∧ Own w wr v' L ∧ Below w.heap.size w wr ∧ L.length ≤ 4096) (fun _ i _ => n - (intOf i).toNat)
      case atStart => exact ⟨0, _, [], Nat.zero_le _, rfl, rfl, Lib.hid rfl, Own.nil _ _, Below.refl _ _, by simp⟩
      case round =>
        rename_i wr
        obtain ⟨t, v', L, ht, rfl, rfl, E, hO, hB, hL⟩ := hrel
        by_cases hlt : t < n
        · obtain ⟨b, off, rfl, hb, hcc⟩ := HC.out (by omega)
          have c0 := (hB.cell (p := ⟨b, off + t, none⟩) hb).trans (hcc t hlt)
          have zs := HZ.out t
          have tn : t < (tl l).length := by rw [tl_len, ← EN.out]; exact hlt
          have st := joinL_take tn
          rw [tl_at (by rw [← EN.out]; exact hlt), E.out] at st
          clear hcc tn
          generalize sat l t = s at *
          have ST := Lib.hid st
          have E0 := Lib.hid (show L ++ foldN 75 s.data.toList = joinL ((tl l).take (t + 1)) from st.symm)
          clear st E
          go_wp2
          go_loopw [4, 8, 9] (fun o sv nv wx => ∃ (v2 : Value) (L2 : List UInt8) (r : ByteArray) (m : Nat), v2 = o ∧ sv = .string r ∧ nv = .int .i64 (m : Int) ∧ 74 ≤ m ∧ m ≤ 75 ∧ r.size ≤ 6000 ∧ Own w wx v2 L2 ∧ Below w.heap.size w wx ∧ L2.length ≤ 4096 ∧ Hid (L2 ++ foldN m r.data.toList = joinL ((tl l).take (t + 1)))) (fun _ sv _ _ => byteLen sv)
          case atStart => exact ⟨v', L, s, 75, rfl, rfl, rfl, by omega, by omega, zs, hO, hB, hL, E0⟩
          case round =>
            rename_i wx
            clear hO hB hL E0 c0 zs
            obtain ⟨v2, L2, r, m, rfl, rfl, rfl, hm1, hm2, hr, hO, hB, hL, E⟩ := hrel
            have hz : r.data.toList.length = r.size := by simp
            by_cases hmr : m < r.size
            · have tk := Lib.hid (show (r.extract 0 m).data.toList = r.data.toList.take m from by rw [ext_list]; simp)
              have dk : (r.extract m r.size).data.toList = r.data.toList.drop m := by rw [ext_list, List.take_of_length_le (by rw [List.length_drop]; omega)]
              have E2 := Lib.hid (show ((L2 ++ r.data.toList.take m) ++ [13, 10, 32]) ++ foldN 74 (r.extract m r.size).data.toList = joinL ((tl l).take (t + 1)) from by
                rw [← E.out, foldN_step (n := m) (z := r.data.toList) (by omega), dk]; simp)
              have tl2 : (r.data.toList.take m).length = m := by rw [List.length_take]; omega
              have ex : (r.extract m r.size).size = r.size - m := by rw [ByteArray.size_extract]; omega
              have EX := Lib.hid ex
              have mi : (m : Int) < (r.size : Int) := by omega
              have mi2 : (m : Int) ≤ (r.size : Int) := by omega
              clear dk hz E ex
              go_wp2_with (at_builtin; refine append_text rfl _ _ rfl v2 L2 rfl hO hB _ (r.data.toList.take m) rfl tk.out (by omega) ?_)
              intro v3 w3 o3 b3
              have g2 := (Below.refl w3.heap.size w3).alloc (Nat.le_refl _) (.cells #[.int .u8 13, .int .u8 10, .int .u8 32] 5)
              have hX := lit_at w3 [13, 10, 32] #[.int .u8 13, .int .u8 10, .int .u8 32] 5 (0, 0) rfl
              have o3' := Own.on o3 g2
              have b3' := b3.trans (g2.mono b3.size)
              go_wp2_with (at_builtin; refine append_bs rfl _ _ rfl v3 (L2 ++ r.data.toList.take m) rfl o3' b3' _ _ _ [13, 10, 32] rfl hX (fun h => by cases h) (by simp only [List.length_append]; omega) ?_)
              intro v4 w4 o4 b4
              replace o4 : Own w w4 v4 ((L2 ++ r.data.toList.take m) ++ [13, 10, 32]) := by simpa using o4
              obtain ⟨k4, hk4⟩ : ∃ k, ((L2 ++ r.data.toList.take m) ++ [13, 10, 32]).length = k := ⟨_, rfl⟩
              have o4s := o4
              obtain ⟨A4, c4, rfl, -, -, -, -⟩ := Own.at_ o4
              rw [hk4]
              rw [hk4] at o4s
              have HO4 := Lib.hid o4s
              have HK4 := Lib.hid hk4
              have k5 : k4 ≤ 5000 := by rw [← hk4]; simp only [List.length_append, List.length_cons, List.length_nil]; omega
              clear hX g2 o3' b3' o3 o4 o4s hk4
              by_cases hbig : 4096 < k4
              · have F := Lib.hid (over (Y := []) E2.out.symm (by rw [HK4.out]; exact hbig))
                have hb' : (4096 : Int) < (k4 : Int) := by omega
                go_wp2
                go_ret2
                exact join_3 ALL.out F.out b4
              · have hb' : (k4 : Int) ≤ 4096 := by omega
                clear hbig
                go_wp2
                go_roundw
                case rel => exact ⟨_, _, _, 74, rfl, rfl, rfl, by omega, by omega, by rw [EX.out]; omega, HO4.out, b4, by rw [HK4.out]; omega, E2⟩
                case measure => show byteLen (Value.string _) < byteLen (Value.string r); simp only [byteLen]; rw [EX.out]; omega
            · have hmr' : r.size ≤ m := by omega
              have E2 := Lib.hid (show (L2 ++ r.data.toList) ++ [13, 10] = joinL ((tl l).take (t + 1)) from by
                rw [← E.out, foldN_end (n := m) (z := r.data.toList) (by omega)]; simp)
              have HZr := Lib.hid hz
              have mi : (r.size : Int) ≤ (m : Int) := by omega
              clear hz E hmr
              go_wp2_with (at_builtin; refine append_text rfl _ _ rfl v2 L2 rfl hO hB _ r.data.toList rfl rfl (by rw [HZr.out]; omega) ?_)
              intro v3 w3 o3 b3
              have g2 := (Below.refl w3.heap.size w3).alloc (Nat.le_refl _) (.cells #[.int .u8 13, .int .u8 10] 5)
              have hX := lit_at w3 [13, 10] #[.int .u8 13, .int .u8 10] 5 (0, 0) rfl
              have o3' := Own.on o3 g2
              have b3' := b3.trans (g2.mono b3.size)
              go_wp2_with (at_builtin; refine append_bs rfl _ _ rfl v3 (L2 ++ r.data.toList) rfl o3' b3' _ _ _ [13, 10] rfl hX (fun h => by cases h) (by simp only [List.length_append]; rw [HZr.out]; omega) ?_)
              intro v4 w4 o4 b4
              replace o4 : Own w w4 v4 (joinL ((tl l).take (t + 1))) := by rw [← E2.out]; simpa using o4
              obtain ⟨Lz, hLz⟩ : ∃ Lz, joinL ((tl l).take (t + 1)) = Lz := ⟨_, rfl⟩
              have k5 : Lz.length ≤ 5000 := by rw [← hLz, ← E2.out]; simp only [List.length_append, List.length_cons, List.length_nil]; rw [HZr.out]; omega
              rw [hLz] at o4
              have HLz := Lib.hid hLz
              obtain ⟨k4, hk4⟩ : ∃ k, Lz.length = k := ⟨_, rfl⟩
              have o4s := o4
              obtain ⟨A4, c4, rfl, -, -, -, -⟩ := Own.at_ o4
              rw [hk4]
              rw [hk4] at o4s k5
              have HO4 := Lib.hid o4s
              have HK4 := Lib.hid hk4
              clear hX g2 o3' b3' o3 o4 o4s hk4 hLz
              by_cases hbig : 4096 < k4
              · have F := Lib.hid (over (l := tl l) (t := t + 1) (L := Lz) (X := []) (Y := []) (by rw [HLz.out, List.append_nil]) (by rw [HK4.out]; exact hbig))
                have hb' : (4096 : Int) < (k4 : Int) := by omega
                go_wp2
                go_ret2
                exact join_3 ALL.out F.out b4
              · have hb' : (k4 : Int) ≤ 4096 := by omega
                clear hbig
                go_wp2
                go_roundw
                case rel => exact ⟨t + 1, _, Lz, by omega, rfl, by go_num, HLz, HO4.out, b4, by rw [HK4.out]; omega⟩
                case measure => simp [intOf]; omega
        · obtain rfl : n = t := by omega
          have E1 := Lib.hid (show L = joinL (tl l) from by rw [← E.out, List.take_of_length_le (by rw [tl_len, EN.out]; omega)])
          have HO := Lib.hid hO
          have F := Lib.hid (show (joinL (tl l)).length ≤ 4096 from by rw [← E1.out]; exact hL)
          clear hlt ht hO
          go_wp2
          go_ret2
          exact join_0 ALL.out F.out (by rw [← E1.out]; exact HO.out) hB
end Go.Proofs.Ytbinhnlajflndaa.Fd
