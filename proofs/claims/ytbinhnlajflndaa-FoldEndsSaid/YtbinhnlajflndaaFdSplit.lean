/- The walk of package fold's Split. -/
import Derived.Test.YtbinhnlajflndaaFdFault
import Derived.StillTailTactics
set_option linter.unusedVariables false
namespace Go.Proofs.Ytbinhnlajflndaa.Fd
open Go.RowKit Cv St

theorem OwnT.slice {W w : World} {v : Value} {l : List ByteArray} (h : OwnT W w v l) (hl : 0 < l.length) : ∃ g cap, v = .slice (some ⟨g, 0, none⟩) l.length cap := by
  rcases h.2 with ⟨-, h0⟩ | ⟨g, cap, cur, rfl, -⟩
  · omega
  · exact ⟨g, cap, rfl⟩
theorem OwnT.on {W w w' : World} {v : Value} {l : List ByteArray} (h : OwnT W w v l) (hb : Below w.heap.size w w') : OwnT W w' v l :=
  World.ownsRow.kept (row := none) h ⟨hb.1, hb.2, hb.3, hb.4, fun k hk _ => hb.5 k hk⟩ (by cases v.ownBlock <;> simp)
theorem Own.on {W w w' : World} {v : Value} {l : List UInt8} (h : Own W w v l) (hb : Below w.heap.size w w') : Own W w' v l :=
  World.ownsRow.kept (row := none) h ⟨hb.1, hb.2, hb.3, hb.4, fun k hk _ => hb.5 k hk⟩ (by cases v.ownBlock <;> simp)
/-- what bytes.Cut at 10 answers -/
def CutIs (b off c : Nat) (l : List UInt8) (w : World) (e : Ending) (w' : World) : Prop :=
  ∃ (A' : Option Addr) (c' : Nat) (x : Bool), e = .returned (.tuple #[.slice (some ⟨b, off, none⟩) (piece l).length c, .slice A' (rest l).length c', .bool x]) ∧ (∀ W : World, BsAt W (some ⟨b, off, none⟩) l.length l → BsAt W A' (rest l).length (rest l)) ∧ (rest l).length ≤ c' ∧ Below w.heap.size w w'
theorem xs_one (n : UInt8) : xs [n] = [(n.toNat : Int)] := rfl
theorem cut_is (w : World) (b off n c g d : Nat) (l : List UInt8) (hl : BsAt w (some ⟨b, off, none⟩) n l) (hk : BsAt w (some ⟨g, 0, none⟩) 1 [10]) (hnc : n ≤ c) (hn : n ≤ 1000000) :
    Calls Try.prog 54 #[.slice (some ⟨b, off, none⟩) n c, .slice (some ⟨g, 0, none⟩) 1 d] w (CutIs b off c l w) := by
  have e1 := hl.1
  by_cases h0 : 0 < n
  case neg =>
    obtain rfl : n = 0 := by omega
    obtain rfl : l = [] := List.length_eq_zero_iff.1 e1.symm
    obtain ⟨b2, o2, e2, -, h2⟩ := hk.2 (by omega)
    injection e2 with e2; injection e2 with e2 e3; subst e2; subst e3
    have hc2 := h2 0 (by omega)
    refine (Try.bytes_Cut_of (some ⟨b, off, none⟩) (some ⟨g, 0, none⟩) 0 c 1 d (-1) w hnc (by omega) (fun h => by omega) (by omega) ?_).mono ?_
    · refine (Try.bytes_Index_one b off 0 c g 0 d [] 10 w rfl (fun i hi => by omega) (by simpa [bat] using hc2)).mono fun e w' h => ⟨h.1, 0, h.2⟩
    · rintro e w' ⟨rfl, q, rfl⟩
      exact ⟨none, 0, false, rfl, fun _ _ => BsAt.nil _ _, Nat.le_refl _, Below.drewN' _ _ _⟩
  obtain ⟨b1, o1, e4, hlt, h1⟩ := hl.2 h0
  injection e4 with e4; injection e4 with e4 e5; subst e4; subst e5
  obtain ⟨b2, o2, e2, -, h2⟩ := hk.2 (by omega)
  injection e2 with e2; injection e2 with e2 e3; subst e2; subst e3
  have hc2 := h2 0 (by omega)
  have hi := Try.bytes_Index_one b off n c g 0 d (xs l) 10 w (by rw [xs_len, e1]) (fun i hi => by rw [xs_at]; exact h1 i hi) (by simpa [bat] using hc2)
  rw [xs_bytes] at hi
  have e10 : (10 : Int).toNat.toUInt8 = 10 := by decide
  rw [e10] at hi
  rcases index_10 l with ⟨i1, i2, i3⟩ | ⟨j, hj, i1, i2, i3⟩
  · rw [i1] at hi
    refine (Try.bytes_Cut_of (some ⟨b, off, none⟩) (some ⟨g, 0, none⟩) n c 1 d (-1) w hnc (by omega) (fun h => by omega) (by omega) (hi.mono fun e w' h => ⟨h.1, 0, h.2⟩)).mono ?_
    rintro e w' ⟨rfl, q, rfl⟩
    refine ⟨none, 0, false, ?_, fun _ _ => by rw [i3]; exact BsAt.nil _ _, by rw [i3]; exact Nat.le_refl _, Below.drewN' _ _ _⟩
    rw [i2, i3, ← e1]; rfl
  · rw [i1] at hi
    refine (Try.bytes_Cut_of (some ⟨b, off, none⟩) (some ⟨g, 0, none⟩) n c 1 d j w hnc (by omega) (fun h => by omega) (by omega) (hi.mono fun e w' h => ⟨h.1, 0, h.2⟩)).mono ?_
    rintro e w' ⟨rfl, q, rfl⟩
    have hp : (piece l).length = j := by rw [i2, List.length_take]; omega
    have hr : (rest l).length = n - (j + 1) := by rw [i3, List.length_drop, ← e1]
    refine ⟨if c = j + 1 then some ⟨b, off, none⟩ else some ⟨b, off + (j + 1), none⟩, c - (j + 1), true, ?_, fun W hW => ?_, by omega, Below.drewN' _ _ _⟩
    · rw [hp, hr]
      unfold Lib.cutV Lib.fromV
      rw [if_pos (by omega)]
      have e6 : ((j : Int).toNat + 1) = j + 1 := by omega
      rw [e6]
      by_cases hcj : c = j + 1
      · simp [hcj]
      · simp [hcj, Addr.add_lit]
    · have hd := hW.drop (k := j + 1) (by omega)
      by_cases hcj : c = j + 1
      · have : rest l = [] := List.length_eq_zero_iff.1 (by omega)
        rw [this]; exact BsAt.nil _ _
      · rw [if_neg hcj, hr, i3]; rw [← e1] at hd; exact hd
theorem strip_is (p : List UInt8) : (Lib.hasSuffix p [13] = true ∧ (strip p).length = p.length - 1 ∧ 0 < p.length) ∨ (Lib.hasSuffix p [13] = false ∧ (strip p).length = p.length) := by
  unfold Lib.hasSuffix
  by_cases h : p.getLast? = some 13
  · left
    have hp : p ≠ [] := by rintro rfl; simp at h
    have e : p = p.dropLast ++ [13] := by
      have := List.dropLast_concat_getLast hp
      rw [List.getLast?_eq_some_getLast hp] at h
      injection h with h
      rw [h] at this; exact this.symm
    refine ⟨?_, by unfold strip; rw [if_pos h, List.length_dropLast], List.length_pos_iff.2 hp⟩
    rw [List.isSuffixOf_iff_suffix]
    exact ⟨p.dropLast, e.symm⟩
  · right
    refine ⟨?_, by unfold strip; rw [if_neg h]⟩
    cases hc : [13].isSuffixOf p
    · rfl
    · rw [List.isSuffixOf_iff_suffix] at hc
      obtain ⟨t, ht⟩ := hc
      exact absurd (by rw [← ht]; simp) h
theorem trim_is (w : World) (b off n c g d : Nat) (p : List UInt8) (hl : BsAt w (some ⟨b, off, none⟩) n p) (hk : BsAt w (some ⟨g, 0, none⟩) 1 [13]) (hnc : n ≤ c) (hn : n ≤ 1000000) :
    Calls Try.prog 55 #[.slice (some ⟨b, off, none⟩) n c, .slice (some ⟨g, 0, none⟩) 1 d] w fun e w' => e = .returned (.slice (some ⟨b, off, none⟩) (strip p).length c) ∧ w = w' := by
  have := Try.bytes_TrimSuffix_all (some ⟨b, off, none⟩) (some ⟨g, 0, none⟩) n c 1 d (xs p) (xs [13]) w (by rw [xs_len, hl.1]) rfl hnc (by omega) hl.shelf hk.shelf
  refine this.mono fun e w' h => ⟨h.1.trans ?_, h.2.symm⟩
  rw [xs_one]
  show Ending.returned (Lib.bytesTrimSuffix b off n c (xs p) [13]) = _
  unfold Lib.bytesTrimSuffix
  rw [xs_bytes, show Lib.bytesOf [13] = [13] from by decide]
  rcases strip_is p with ⟨h1, h2, h3⟩ | ⟨h1, h2⟩
  · rw [h1, if_pos rfl, h2, ← hl.1]; rfl
  · rw [h1, h2, ← hl.1]; rfl
def CutIs' (b off c : Nat) (np nr : Nat) (l r : List UInt8) (w : World) (e : Ending) (w' : World) : Prop :=
  ∃ (A' : Option Addr) (c' : Nat) (x : Bool), e = .returned (.tuple #[.slice (some ⟨b, off, none⟩) np c, .slice A' nr c', .bool x]) ∧ (∀ W : World, BsAt W (some ⟨b, off, none⟩) l.length l → BsAt W A' nr r) ∧ nr ≤ c' ∧ Below w.heap.size w w'
theorem cut_is' (w : World) (b off n c g d : Nat) (l p r : List UInt8) (np nr : Nat) (hl : BsAt w (some ⟨b, off, none⟩) n l) (hk : BsAt w (some ⟨g, 0, none⟩) 1 [10]) (hnc : n ≤ c) (hn : n ≤ 1000000)
    (hp : piece l = p) (hr : rest l = r) (hnp : p.length = np) (hnr : r.length = nr) :
    Calls Try.prog 54 #[.slice (some ⟨b, off, none⟩) n c, .slice (some ⟨g, 0, none⟩) 1 d] w (CutIs' b off c np nr l r w) := by
  subst hp; subst hr; subst hnp; subst hnr
  refine (cut_is w b off n c g d l hl hk hnc hn).mono ?_
  rintro e w' ⟨A', c', x, rfl, h1, h2, h3⟩
  exact ⟨A', c', x, rfl, h1, h2, h3⟩
theorem trim_is' (w : World) (b off n c g d : Nat) (p s : List UInt8) (ns : Nat) (hl : BsAt w (some ⟨b, off, none⟩) n p) (hk : BsAt w (some ⟨g, 0, none⟩) 1 [13]) (hnc : n ≤ c) (hn : n ≤ 1000000) (hs : strip p = s) (hns : s.length = ns) :
    Calls Try.prog 55 #[.slice (some ⟨b, off, none⟩) n c, .slice (some ⟨g, 0, none⟩) 1 d] w fun e w' => e = .returned (.slice (some ⟨b, off, none⟩) ns c) ∧ w = w' := by
  subst hs; subst hns
  exact trim_is w b off n c g d p hl hk hnc hn
theorem ret3 {v : Value} {a b c d : Int} (h : a = c) (g : b = d) : Ending.returned (.tuple #[v, .int .i64 a, .int .i64 b]) = .returned (.tuple #[v, .int .i64 c, .int .i64 d]) := by rw [h, g]
def sliceLen (v : Value) : Nat := match v with | .slice _ n _ => n | _ => 0
def SplitPost (W : World) (l : List UInt8) (e : Ending) (w' : World) : Prop :=
  ∃ v, e = .returned (.tuple #[v, .int .i64 (splitN l), .int .i64 (splitE l)]) ∧ OwnT W w' v ((splitL l).map str) ∧ Below W.heap.size W w'
set_option maxRecDepth 100000 in
set_option maxHeartbeats 4000000 in
theorem split_any (w : World) (A : Option Addr) (n c : Nat) (l : List UInt8) (h : BsAt w A n l) (hnc : n ≤ c) (hn : n ≤ 9223372036854775807) :
    Calls Try.prog 32 #[.slice A n c] w (SplitPost w l) := by
  have e1 := h.1
  by_cases h1 : 4096 < n
  · have S := Lib.hid (split_long (l := l) (by omega))
    clear e1 h
    go_enter Try.func32, Try.ntmps32
    go_wp2
    go_ret3
    exact ⟨.slice none 0 0, ret3 S.out.2.1.symm S.out.2.2.symm, by rw [S.out.1]; exact OwnT.nil _ _, Below.refl _ _⟩
  have h2 : n ≤ 4096 := by omega
  clear h1
  cases hf : faultB l
  case true =>
    have S := Lib.hid (split_bad (l := l) (by omega) hf)
    have F := Lib.hid hf
    have H := Lib.hid (fault_any w A n c l h hnc hn)
    clear e1 h hf
    go_enter Try.func32, Try.ntmps32
    go_wp2_with fail
    refine H.out.mono ?_
    rw [F.out]
    rintro e w1 ⟨rfl, b1⟩
    go_wp2
    go_ret3
    exact ⟨.slice none 0 0, ret3 S.out.2.1.symm S.out.2.2.symm, by rw [S.out.1]; exact OwnT.nil _ _, b1⟩
  case false =>
    have S := Lib.hid (split_good (l := l) (by omega) hf)
    have F := Lib.hid hf
    have H := Lib.hid (fault_any w A n c l h hnc hn)
    have R0 : Room [] l := ⟨fun z hz => by simp at hz, by simp; omega, fun _ => by
      cases hg : faultF l with
      | none => have := faultN_none hg; rw [hf] at this; exact this.2
      | some i => have := faultN_some hg; rw [hf] at this; exact absurd this.2 (by decide)⟩
    have RH := Lib.hid R0
    clear e1 hf R0
    go_enter Try.func32, Try.ntmps32
    go_wp2_with fail
    refine H.out.mono ?_
    rw [F.out]
    rintro e w1 ⟨rfl, b1⟩
    clear H F
    go_wp2
    go_loopw [0, 7] (fun bv av wr => ∃ (A' : Option Addr) (n' c' : Nat) (l' : List UInt8) (acc : List (List UInt8)) (v : Value), bv = .slice A' n' c' ∧ v = av ∧ BsAt w A' n' l' ∧ n' ≤ c' ∧ n' ≤ 4096 ∧ Hid (lines acc l' = lines [] l) ∧ Hid (Room acc l') ∧ OwnT w wr v (acc.map str) ∧ Below w.heap.size w wr) (fun bv _ _ => sliceLen bv)
    case atStart => exact ⟨A, n, c, l, [], _, rfl, rfl, h, hnc, h2, Lib.hid rfl, RH, OwnT.nil _ _, b1⟩
    case round =>
      rename_i wr
      obtain ⟨A', n', c', l', acc, v, rfl, rfl, hw, hnc', hn', L, R, hO, hB⟩ := hrel
      have hl := hw.below hB
      have el := hl.1
      by_cases h0 : n' = 0
      · subst h0
        obtain rfl : l' = [] := List.length_eq_zero_iff.1 el.symm
        have E := Lib.hid (show splitL l = acc from by rw [S.out.1, ← L.out, lines_nil])
        clear hl hw L R el
        go_wp2
        go_ret3
        exact ⟨v, ret3 S.out.2.1.symm S.out.2.2.symm, by rw [E.out]; exact hO, hB⟩
      · have hp0 : 0 < n' := by omega
        have hne : l' ≠ [] := by rintro rfl; simp at el; omega
        obtain ⟨b, off, rfl, hblt, -⟩ := hl.2 hp0
        obtain ⟨p, hp⟩ : ∃ p, piece l' = p := ⟨_, rfl⟩
        obtain ⟨r, hr⟩ : ∃ r, rest l' = r := ⟨_, rfl⟩
        obtain ⟨s, hs⟩ : ∃ s, strip p = s := ⟨_, rfl⟩
        obtain ⟨np, hnp⟩ : ∃ k, p.length = k := ⟨_, rfl⟩
        obtain ⟨nr, hnr⟩ : ∃ k, r.length = k := ⟨_, rfl⟩
        obtain ⟨ns, hns⟩ : ∃ k, s.length = k := ⟨_, rfl⟩
        have q1 := (piece_rest l' hne).1
        have q2 := (piece_rest l' hne).2
        have q3 := strip_len p
        rw [hp, hr, hnp, hnr, ← el] at q1
        rw [hr, hnr, ← el] at q2
        rw [hs, hns, hnp] at q3
        have ep : l'.take np = p := by rw [← hnp, ← hp]; exact (List.prefix_iff_eq_take.1 (List.takeWhile_prefix _)).symm
        have es : p.take ns = s := by rw [← hns, ← hs]; exact (strip_take p).symm
        have L' := Lib.hid (show lines (put acc s) r = lines [] l from by rw [← L.out, lines_step hne, hp, hr, hs])
        have R' := Lib.hid (show Room (put acc s) r from by have := R.out.next hne; rwa [hp, hr, hs] at this)
        have hold : s.head? = some 32 → acc ≠ [] := fun g => R.out.old (by rw [hp, hs]; exact g)
        have accl : acc.length ≤ 4096 := by have := R.out.2.1; omega
        have zl : ∀ z ∈ acc, z.length ≤ 4096 := fun z hz => by have := R.out.1 z hz; omega
        have HP := Lib.hid hp; have HR := Lib.hid hr; have HS := Lib.hid hs; have HNP := Lib.hid hnp; have HNR := Lib.hid hnr; have HNS := Lib.hid hns
        have EP := Lib.hid ep; have ES := Lib.hid es; have EL := Lib.hid el; have ACL := Lib.hid accl; have ZL := Lib.hid zl; have HOLD := Lib.hid hold; have HNE := Lib.hid hne
        clear hp hr hs hnp hnr hns ep es el L R accl zl hold hne
        have kc := const_bytes
        have hk := lit_at wr [10] #[.int .u8 10] 5 (1, 2) rfl
        have hA := (Below.refl wr.heap.size wr).alloc (Nat.le_refl _) (.cells #[.int .u8 10] 5 (1, 2))
        have hl1 := hl.below hA
        have hO1 := hO.on hA
        have hB1 := hB.trans (hA.mono hB.size)
        go_wp2_with fail
        refine (cut_is' _ _ _ _ _ _ _ _ _ _ _ _ hl1 hk hnc' (by omega) HP.out HR.out HNP.out HNR.out).mono ?_
        rintro e w2 ⟨A2, c2, x, rfl, hrw, hrc, hb2⟩
        have hr2 := hrw w (by rw [← EL.out]; exact hw)
        clear hrw hw
        have hp2 : BsAt w2 (some ⟨b, off, none⟩) np p := by rw [← EP.out]; exact (hl1.below hb2).take (by omega)
        have hO2 := hO1.on hb2
        have hB2 := hB1.trans (hb2.mono hB1.size)
        have hk3 := lit_at w2 [13] #[.int .u8 13] 5 (1, 2) rfl
        have hA3 := (Below.refl w2.heap.size w2).alloc (Nat.le_refl _) (.cells #[.int .u8 13] 5 (1, 2))
        have hp3 := hp2.below hA3
        have hO3 := hO2.on hA3
        have hB3 := hB2.trans (hA3.mono hB2.size)
        clear hk hA hl1 hO1 hB1 hO hB hl hp2 hO2 hB2
        go_wp2_with fail
        refine (trim_is' _ _ _ _ _ _ _ _ _ _ hp3 hk3 (by omega) (by omega) HS.out HNS.out).mono ?_
        rintro e _ ⟨rfl, rfl⟩
        have hs3 : BsAt (w2.alloc (.cells #[.int .u8 13] 5 (1, 2))) (some ⟨b, off, none⟩) ns s := by rw [← ES.out]; exact hp3.take q3
        clear hk3 hA3 hp3 kc
        generalize w2.alloc (.cells #[.int .u8 13] 5 (1, 2)) = w3 at *
        by_cases hs0 : ns = 0
        · subst hs0
          have es0 : s = [] := List.length_eq_zero_iff.1 HNS.out
          have P := Lib.hid (show put acc s = acc ++ [s] from put_new (by rw [es0]; simp))
          have ct := hs3.text c'
          clear hs3 es0
          go_wp2_with (at_builtin; refine append_line rfl _ _ rfl v (acc.map str) rfl hO3 hB3 (str s) 9 1 rfl (by rw [List.length_map]; have := ACL.out; omega) ?_)
          intro v5 w5 hO5 hB5
          go_wp2
          go_roundw
          case rel => exact ⟨A2, nr, c2, r, put acc s, _, rfl, rfl, hr2, hrc, by omega, L', R', by rw [P.out, List.map_append]; exact hO5, hB5⟩
          case measure => show sliceLen (Value.slice A2 nr c2) < sliceLen (Value.slice _ n' c'); simp only [sliceLen]; omega
        · have hsp : 0 < ns := by omega
          clear hs0
          obtain ⟨b', o', e', hblt3, hcell⟩ := hs3.2 hsp
          injection e' with e'; injection e' with e' e''; subst e'; subst e''
          have c0 := hcell 0 hsp
          rw [Nat.add_zero] at c0
          have hg0 : (0 : Int) < (ns : Int) := by omega
          clear hcell
          by_cases h32 : bat s 0 = 32
          · have t32 : ((bat s 0 : Int) == 32) = true := by rw [beq_iff_eq]; exact h32
            have hh : s.head? = some 32 := by
              have := blank_at (l := s) (by rw [HNS.out]; exact hsp)
              rw [show decide (bat s 0 = 32) = true from decide_eq_true h32] at this
              exact of_decide_eq_true this
            obtain ⟨t, rfl⟩ : ∃ t, s = 32 :: t := by
              cases s with
              | nil => simp at hh
              | cons x t => simp at hh; exact ⟨t, by rw [hh]⟩
            have hacc := HOLD.out hh
            obtain ⟨a, z, rfl⟩ : ∃ a z, acc = a ++ [z] := ⟨_, _, (List.dropLast_concat_getLast hacc).symm⟩
            have P := Lib.hid (show put (a ++ [z]) (32 :: t) = a ++ [z ++ t] from put_old)
            have tl : t.length = ns - 1 := by have := HNS.out; simp at this; omega
            obtain ⟨m, hm⟩ : ∃ m, a.length = m := ⟨_, rfl⟩
            have nl : ((a ++ [z]).map str).length = m + 1 := by simp [hm]
            obtain ⟨g, cap, rfl⟩ := OwnT.slice hO3 (by rw [nl]; omega)
            have cz := World.ownsRow.cellAt hO3 m (by rw [nl]; omega)
            have ez : (((a ++ [z]).map str).map strV)[m]? = some (.string (str z)) := by rw [← hm]; simp [strV]
            rw [ez] at cz
            have fz := World.ownsRow.frozenAt hO3 m
            have hm4 : m ≤ 4096 := by have := ACL.out; simp at this; omega
            have zz := ZL.out z (by simp)
            have hO4 := OwnT.store hO3 hB3 m (str (z ++ t))
            have es5 : ((a ++ [z]).map str).set m (str (z ++ t)) = (a ++ [z ++ t]).map str := by rw [← hm]; simp
            rw [es5, nl] at hO4
            obtain ⟨hO5, hB5⟩ := hO4
            have nl2 : ((a ++ [z ++ t]).map str).length = m + 1 := by simp [hm]
            rw [nl] at *
            have w1 : IntKind.i64.wrap (((m + 1 : Nat) : Int) - 1) = (m : Int) := by rw [show ((m + 1 : Nat) : Int) - 1 = (m : Int) from by omega]; exact IntWalk.i64_in _ (by omega)
            have w2' : IntKind.i64.wrap ((m : Int) + 1 - 1) = (m : Int) := by rw [show (m : Int) + 1 - 1 = (m : Int) from by omega]; exact IntWalk.i64_in _ (by omega)
            have w3' : IntKind.i64.wrap (m : Int) = (m : Int) := IntWalk.i64_in _ (by omega)
            have i1 : (m : Int) < (m : Int) + 1 := by omega
            have i0 : (0 : Int) ≤ (m : Int) := by omega
            have i2 : m < m + 1 := by omega
            replace hO5 := OwnT.on hO5 ((Below.refl _ _).drew)
            replace hB5 := hB5.trans ((Below.refl _ _).drew)
            have HO5 := Lib.hid hO5
            have HB5 := Lib.hid hB5
            have L2 := Lib.hid (show lines (a ++ [z ++ t]) r = lines [] l from by have := L'.out; rwa [P.out] at this)
            have R2 := Lib.hid (show Room (a ++ [z ++ t]) r from by have := R'.out; rwa [P.out] at this)
            have sz1 : (str z).size ≤ 4096 := by rw [str_size]; exact zz
            have sz2 : (str t).size ≤ 4096 := by rw [str_size, tl]; omega
            have ap := str_app z t
            have szz : ¬ 9223372036854775807 < (str z).size + (str t).size := by omega
            clear hO3 hO5 es5 nl hm ez hacc hh h32 zz nl2 hB5
            by_cases hc1 : c' = 1
            · subst hc1
              obtain rfl : ns = 1 := by omega
              have ht0 : t = [] := List.length_eq_zero_iff.1 (by omega)
              have ct := (BsAt.nil w3.drew (some ⟨b, off, none⟩)).text 0
              rw [← ht0] at ct
              clear hs3 ht0 tl
              go_wp2
              go_still_tail 11, (by kernel_rfl)
              change wpList _ _ _ _ _ w3.drew
              go_wp2
              go_roundw
              case rel => exact ⟨A2, nr, c2, r, a ++ [z ++ t], _, rfl, rfl, hr2, hrc, by omega, L2, R2, HO5.out, HB5.out⟩
              case measure => show sliceLen (Value.slice A2 nr c2) < sliceLen (Value.slice _ n' _); simp only [sliceLen]; omega
            · have hs4 := (hs3.below ((Below.refl _ _).drew)).drop (k := 1) (by omega)
              have ct := hs4.text (c' - 1)
              rw [show List.drop 1 (32 :: t) = t from rfl] at ct
              have j1 : (1 : Int) ≤ (ns : Int) := by omega
              have j2 : (1 : Int) ≤ (c' : Int) := by omega
              have j3 : 1 ≤ ns := by omega
              have j4 : 1 ≤ c' := by omega
              clear hs3 hs4
              clear tl
              go_wp2
              go_still_tail 11, (by kernel_rfl)
              change wpList _ _ _ _ _ w3.drew
              go_wp2
              go_roundw
              case rel => exact ⟨A2, nr, c2, r, a ++ [z ++ t], _, rfl, rfl, hr2, hrc, by omega, L2, R2, HO5.out, HB5.out⟩
              case measure => show sliceLen (Value.slice A2 nr c2) < sliceLen (Value.slice _ n' _); simp only [sliceLen]; omega
          · have t32 : ((bat s 0 : Int) == 32) = false := by rw [beq_eq_false_iff_ne]; exact h32
            have P := Lib.hid (show put acc s = acc ++ [s] from put_new (fun g => h32 (of_decide_eq_true (by rw [← blank_at (by rw [HNS.out]; exact hsp)]; unfold blank1; rw [g]; rfl))))
            have ct := hs3.text c'
            clear hs3 h32
            go_wp2_with (at_builtin; refine append_line rfl _ _ rfl v (acc.map str) rfl hO3 hB3 (str s) 9 1 rfl (by rw [List.length_map]; have := ACL.out; omega) ?_)
            intro v5 w5 hO5 hB5
            go_wp2
            go_roundw
            case rel => exact ⟨A2, nr, c2, r, put acc s, _, rfl, rfl, hr2, hrc, by omega, L', R', by rw [P.out, List.map_append]; exact hO5, hB5⟩
            case measure => show sliceLen (Value.slice A2 nr c2) < sliceLen (Value.slice _ n' c'); simp only [sliceLen]; omega
end Go.Proofs.Ytbinhnlajflndaa.Fd
