/- RuleLists answers true. -/
import Derived.Test.YtcngmgpegnmooaaGreatDoorRuPrint
import Derived.Test.YtcngmgpegnmooaaGreatDoorRpZ
import Derived.Test.YtcngmgpegnmooaaGreatDoorRuLaws
import Derived.Test.YtcngmgpegnmooaaGreatDoorRuDec
import Derived.Test.YtcngmgpegnmooaaGreatDoorRuSorted
import Derived.LoopTactic
import Derived.Deep.RegionHeld
set_option linter.unusedVariables false
namespace Go.Proofs.YtcngmgpegnmooaaGreatDoor.Ru
open Go.RowKit Cv St Go.Proofs.YtcngmgpegnmooaaGreatDoor.Fd

def goodTo (l : List Int) (k : Nat) : Prop := ∀ j, j < k → -31 ≤ iat l j ∧ iat l j ≤ 31 ∧ iat l j ≠ 0
def bigTo (l : List Int) (k : Nat) : Prop := ∀ j, j < k → -999999999 ≤ iat l j ∧ iat l j ≤ 999999999
theorem bigTo.succ {l : List Int} {k : Nat} (h : bigTo l k) (e : -999999999 ≤ iat l k ∧ iat l k ≤ 999999999) : bigTo l (k + 1) := fun j hj => by
  by_cases c : j = k
  · subst c; exact e
  · exact h j (by omega)
theorem goodTo_succ {l : List Int} {k : Nat} : goodTo l (k + 1) ↔ goodTo l k ∧ -31 ≤ iat l k ∧ iat l k ≤ 31 ∧ iat l k ≠ 0 :=
  ⟨fun h => ⟨fun j hj => h j (by omega), h k (by omega)⟩, fun h j hj => by
    by_cases c : j = k
    · subst c; exact h.2
    · exact h.1 j (by omega)⟩
theorem goodTo_all {l : List Int} : goodTo l l.length ↔ ∀ x ∈ l, -31 ≤ x ∧ x ≤ 31 ∧ x ≠ 0 :=
  ⟨fun h x hx => by
    obtain ⟨j, hj, e⟩ := List.getElem_of_mem hx
    have := h j hj
    rwa [iat_lt hj, e] at this, fun h j hj => by rw [iat_lt hj]; exact h _ (List.getElem_mem _)⟩
theorem bigTo_all {l : List Int} (h : bigTo l l.length) : ∀ x ∈ l, -999999999 ≤ x ∧ x ≤ 999999999 := fun x hx => by
  obtain ⟨j, hj, e⟩ := List.getElem_of_mem hx
  have := h j hj
  rwa [iat_lt hj, e] at this
/-- the text of the first k numbers -/
def preL (l : List Int) (k : Nat) : ByteArray := str (headT ++ commaL (l.take k))
theorem preL_0 (l : List Int) : preL l 0 = ⟨#[70, 82, 69, 81, 61, 89, 69, 65, 82, 76, 89, 59, 66, 89, 77, 79, 78, 84, 72, 68, 65, 89, 61]⟩ := by unfold preL commaL; simp [sep]; rfl
theorem preL_1 {l : List Int} (h : 0 < l.length) : preL l 1 = preL l 0 ++ str (Lib.itoa (iat l 0)) := by
  cases l with
  | nil => exact absurd h (by simp)
  | cons x l => unfold preL; rw [str_app]; unfold commaL; simp [sep, iat]
theorem sep_more (c : UInt8) : ∀ (L : List (List UInt8)) (p : List UInt8), L ≠ [] → sep c (L ++ [p]) = sep c L ++ c :: p
  | [], _, h => absurd rfl h
  | [q], p, _ => by simp [sep]
  | q :: x :: L, p, _ => by
    rw [List.cons_append, List.cons_append, sep_cons, sep_cons, ← List.cons_append, sep_more c (x :: L) p (by simp)]
    simp
theorem preL_s {l : List Int} {k : Nat} (h : k < l.length) (h0 : 0 < k) : preL l (k + 1) = preL l k ++ str [44] ++ str (Lib.itoa (iat l k)) := by
  unfold preL
  rw [str_app, str_app]
  congr 1
  unfold commaL
  rw [List.take_succ_eq_append_getElem h, List.map_append, List.map_singleton, sep_more, iat_lt h]
  · simp
  · intro e
    have := congrArg List.length e
    rw [List.length_map, List.length_take] at this
    simp only [List.length_nil] at this
    omega
theorem preL_size {l : List Int} {k : Nat} (hk : k ≤ 60) (h : bigTo l k) (hl : k ≤ l.length) : (preL l k).size ≤ 700 := by
  unfold preL
  rw [str_size, List.length_append]
  have := comma_len (l := l.take k) (k := 10) fun x hx => by
    obtain ⟨j, hj, e⟩ := List.getElem_of_mem hx
    have hj2 : j < k := by rw [List.length_take] at hj; omega
    have z := h j hj2
    rw [List.getElem_take] at e
    rw [iat_lt (by omega), e] at z
    exact itoa_len9 z.1 z.2
  have hd : headT.length = 23 := rfl
  have h2 : (l.take k).length = k := by rw [List.length_take]; omega
  rw [h2] at this
  omega
def ruleL (l : List Int) : Ru := { startR with freq := 1, mday := sortU iltB l }
instance (l : List Int) (k : Nat) : Decidable (goodTo l k) := inferInstanceAs (Decidable (∀ j, j < k → -31 ≤ iat l j ∧ iat l j ≤ 31 ∧ iat l j ≠ 0))

set_option maxRecDepth 100000 in
set_option maxHeartbeats 8000000 in
theorem lists_none (w : World) (T : Tabs w) (A : Option Addr) (n c : Nat) (l : List Int) (h : IsAt w A n l) (hk : n ≤ 9223372036854775807) (hn : n = 0) :
    Calls Tryz.prog 9 #[.slice A n c] w fun e w' => e = .returned (.bool true) ∧ Below w.heap.size w w' := by
  have TT := Lib.hid T
  clear T
  subst hn
  clear h
  show Calls Tryz.prog 9 #[.slice A 0 c] w _
  go_enter Tryz.func9, Tryz.ntmps9
  have B0 := Below.refl w.heap.size w
  go_wp2_with fail
  refine (first_is _ (TT.out.on B0)).mono ?_
  rintro e w1 ⟨rfl, b1⟩
  have B1 := B0.trans (b1.mono B0.size)
  clear B0
  clear b1
  go_wp2_with fail
  refine (first_is _ (TT.out.on B1)).mono ?_
  rintro e w2 ⟨rfl, b2⟩
  have B2 := B1.trans (b2.mono B1.size)
  clear B1
  clear b2
  go_wp2
  go_ret
  exact ⟨rfl, B2⟩
set_option maxRecDepth 100000 in
set_option maxHeartbeats 8000000 in
theorem lists_many (w : World) (T : Tabs w) (A : Option Addr) (n c : Nat) (l : List Int) (h : IsAt w A n l) (hk : n ≤ 9223372036854775807) (hn : 60 < n) :
    Calls Tryz.prog 9 #[.slice A n c] w fun e w' => e = .returned (.bool true) ∧ Below w.heap.size w w' := by
  have TT := Lib.hid T
  clear T
  have i1 : 60 < (n : Int) := by omega
  have i2 : (1 : Int) ≤ (n : Int) := by omega
  clear h
  show Calls Tryz.prog 9 #[.slice A n c] w _
  go_enter Tryz.func9, Tryz.ntmps9
  have B0 := Below.refl w.heap.size w
  go_wp2_with fail
  refine (first_is _ (TT.out.on B0)).mono ?_
  rintro e w1 ⟨rfl, b1⟩
  have B1 := B0.trans (b1.mono B0.size)
  clear B0
  clear b1
  go_wp2_with fail
  refine (first_is _ (TT.out.on B1)).mono ?_
  rintro e w2 ⟨rfl, b2⟩
  have B2 := B1.trans (b2.mono B1.size)
  clear B1
  clear b2
  go_wp2
  go_ret
  exact ⟨rfl, B2⟩
set_option maxRecDepth 100000 in
set_option maxHeartbeats 8000000 in
theorem lists_main (w : World) (T : Tabs w) (A : Option Addr) (n c : Nat) (l : List Int) (h : IsAt w A n l) (hk : n ≤ 9223372036854775807) (h0 : 0 < n) (h6 : n ≤ 60) :
    Calls Tryz.prog 9 #[.slice A n c] w fun e w' => e = .returned (.bool true) ∧ Below w.heap.size w w' := by
  have TT := Lib.hid T
  clear T
  have HI := Lib.hid h
  obtain ⟨en, hc⟩ := h
  obtain ⟨b, off, rfl, hb, hcc⟩ := hc h0
  have EN := Lib.hid en
  obtain ⟨P, hP⟩ : ∃ P : Nat → ByteArray, ∀ t, preL l t = P t := ⟨_, fun _ => rfl⟩
  obtain ⟨G, hG⟩ : ∃ G : Nat → Bool, ∀ t, decide (goodTo l t) = G t := ⟨_, fun _ => rfl⟩
  have PZ := Lib.hid (fun (t : Nat) (ht : t ≤ n) (q : bigTo l t) => show (P t).size ≤ 700 by rw [← hP]; exact preL_size (by omega) q (by omega))
  have P0 := Lib.hid (show P 0 = ⟨#[70, 82, 69, 81, 61, 89, 69, 65, 82, 76, 89, 59, 66, 89, 77, 79, 78, 84, 72, 68, 65, 89, 61]⟩ by rw [← hP]; exact preL_0 l)
  have P1 := Lib.hid (show P 1 = P 0 ++ str (Lib.itoa (iat l 0)) by rw [← hP, ← hP]; exact preL_1 (by omega))
  have PS := Lib.hid (fun (t : Nat) (h1 : t < n) (h2 : 0 < t) => show P (t + 1) = P t ++ str [44] ++ str (Lib.itoa (iat l t)) by rw [← hP, ← hP]; exact preL_s (by omega) h2)
  have PN := Lib.hid (show P n = str (headT ++ commaL l) by rw [← hP]; unfold preL; rw [en, List.take_length])
  have G0 := Lib.hid (show G 0 = true by rw [← hG]; exact decide_eq_true (fun j hj => absurd hj (by omega)))
  have GN := Lib.hid (show G n = decide (∀ x ∈ l, -31 ≤ x ∧ x ≤ 31 ∧ x ≠ 0) by rw [← hG, en]; exact decide_eq_decide.2 goodTo_all)
  have GS := Lib.hid (fun (t : Nat) => show G (t + 1) = (G t && decide (-31 ≤ iat l t ∧ iat l t ≤ 31 ∧ iat l t ≠ 0)) by rw [← hG, ← hG, ← Bool.decide_and]; exact decide_eq_decide.2 goodTo_succ)
  have i1 : (1 : Int) ≤ (n : Int) := by omega
  have i2 : (n : Int) ≤ 60 := by omega
  clear hc en hP hG
  show Calls Tryz.prog 9 #[.slice (some ⟨b, off, none⟩) n c] w _
  go_enter Tryz.func9, Tryz.ntmps9
  have B0 := Below.refl w.heap.size w
  go_wp2_with fail
  refine (first_is _ (TT.out.on B0)).mono ?_
  rintro e w1 ⟨rfl, b1⟩
  have B1 := B0.trans (b1.mono B0.size)
  clear B0
  clear b1
  go_wp2
  go_loopw [3, 4, 5] (fun sv gv iv wr => ∃ t : Nat, t ≤ n ∧ sv = .string (P t) ∧ gv = .bool (G t) ∧ iv = .int .i64 t ∧ Hid (bigTo l t) ∧ Below w.heap.size w wr) (fun _ _ iv _ => n - (intOf iv).toNat)
  case atStart => exact ⟨0, Nat.zero_le _, by rw [P0.out], by rw [G0.out], rfl, Lib.hid (fun j hj => absurd hj (by omega)), B1⟩
  case round =>
    rename_i wr
    obtain ⟨t, ht, rfl, rfl, rfl, BT, hB⟩ := hrel
    by_cases hlt : t < n
    · have c0 := (hB.cell (p := ⟨b, off + t, none⟩) hb).trans (hcc t hlt)
      have GG := Lib.hid (GS.out t)
      have BS := Lib.hid (fun (q : -999999999 ≤ iat l t ∧ iat l t ≤ 999999999) => BT.out.succ q)
      have pz := PZ.out t ht BT.out
      have PP := Lib.hid (show (0 < t → P (t + 1) = P t ++ str [44] ++ str (Lib.itoa (iat l t))) ∧ (t = 0 → P (t + 1) = P t ++ str (Lib.itoa (iat l t))) from ⟨fun q => PS.out t hlt q, fun q => by subst q; exact P1.out⟩)
      obtain ⟨x, hx⟩ : ∃ x, iat l t = x := ⟨_, rfl⟩
      rw [hx] at c0 GG BS PP
      clear hx hcc
      obtain ⟨gb, hgb⟩ : ∃ z, G (t + 1) = z := ⟨_, rfl⟩
      rw [hgb] at GG
      have HG := Lib.hid hgb
      obtain ⟨ga, hga⟩ : ∃ z, G t = z := ⟨_, rfl⟩
      rw [hga] at GG ⊢
      obtain ⟨pt, hpt⟩ : ∃ z, P t = z := ⟨_, rfl⟩
      rw [hpt] at pz PP ⊢
      clear hgb hga hpt
      obtain ⟨bd, hbd⟩ : ∃ z, (!decide (-31 ≤ x ∧ x ≤ 31 ∧ x ≠ 0)) = z := ⟨_, rfl⟩
      have BD := Lib.hid hbd
      have GB := Lib.hid (show gb = (ga && !bd) by rw [GG.out, ← hbd, Bool.not_not])
      clear hbd GG
      go_upto_region 10 with fail
      go_cut [44] (fun s wx => s = .bool bd ∧ wx = wr)
      case first =>
        by_cases p1 : x < -31
        · have z := Lib.hid (show true = bd by rw [← BD.out, decide_eq_false (by omega)]; rfl)
          have t1 : decide (x < -31) = true := decide_eq_true p1
          clear p1
          go_wp2
          go_meet
          exact ⟨by rw [← z.out], rfl⟩
        · have t1 : decide (x < -31) = false := decide_eq_false p1
          by_cases p2 : 31 < x
          · have z := Lib.hid (show true = bd by rw [← BD.out, decide_eq_false (by omega)]; rfl)
            have t2 : decide (31 < x) = true := decide_eq_true p2
            clear p1 p2
            go_wp2
            go_meet
            exact ⟨by rw [← z.out], rfl⟩
          · have t2 : decide (31 < x) = false := decide_eq_false p2
            by_cases p3 : x = 0
            · have z := Lib.hid (show true = bd by rw [← BD.out, decide_eq_false (by omega)]; rfl)
              have t3 : ((x : Int) == 0) = true := beq_iff_eq.2 p3
              clear p1 p2 p3
              go_wp2
              go_meet
              exact ⟨by rw [← z.out], rfl⟩
            · have z := Lib.hid (show false = bd by rw [← BD.out, decide_eq_true (by omega)]; rfl)
              have t3 : ((x : Int) == 0) = false := beq_eq_false_iff_ne.2 p3
              clear p1 p2 p3
              go_wp2
              go_meet
              exact ⟨by rw [← z.out], rfl⟩
      case rest =>
        obtain ⟨rfl, rfl⟩ := hcut
        go_upto_if 44 with fail
        go_cut [4] (fun s wx => s = .bool gb ∧ wx = wc)
        case first =>
          cases bd
          · have z := Lib.hid (show ga = gb by rw [GB.out]; simp)
            go_wp2
            go_meet
            exact ⟨by rw [z.out], rfl⟩
          · have z := Lib.hid (show false = gb by rw [GB.out]; simp)
            go_wp2
            go_meet
            exact ⟨by rw [← z.out], rfl⟩
        case rest =>
        obtain ⟨rfl, rfl⟩ := hcut
        by_cases p1 : x < -999999999
        · have t1 : decide (x < -999999999) = true := decide_eq_true p1
          clear p1
          go_wp2_with fail
          refine (first_is _ (TT.out.on hB)).mono ?_
          rintro e w2 ⟨rfl, b2⟩
          go_wp2
          go_ret
          exact ⟨rfl, hB.trans (b2.mono hB.size)⟩
        have t1 : decide (x < -999999999) = false := decide_eq_false p1
        by_cases p2 : 999999999 < x
        · have t2 : decide (999999999 < x) = true := decide_eq_true p2
          clear p1 p2
          go_wp2_with fail
          refine (first_is _ (TT.out.on hB)).mono ?_
          rintro e w2 ⟨rfl, b2⟩
          go_wp2
          go_ret
          exact ⟨rfl, hB.trans (b2.mono hB.size)⟩
        have t2 : decide (999999999 < x) = false := decide_eq_false p2
        have BN := Lib.hid (BS.out ⟨by omega, by omega⟩)
        have x1 : -999999999 ≤ x := by omega
        have x2 : x ≤ 999999999 := by omega
        obtain ⟨v, hv⟩ : ∃ v, str (Lib.itoa x) = v := ⟨_, rfl⟩
        have sv := itoa_size hv x1 x2
        rw [hv] at PP
        have HV := Lib.hid hv
        clear p1 p2 hv
        by_cases t0 : t = 0
        · have z := Lib.hid (show P (t + 1) = pt ++ v from PP.out.2 t0)
          have j1 : decide (0 < t) = false := decide_eq_false (by omega)
          have j2 : ¬ 0 < t := by omega
          have j3 : (t : Int) ≤ 0 := by omega
          clear t0
          go_wp2_with fail
          refine (decI_is x _ (by omega) (by omega) v HV.out).mono ?_
          rintro e w2 ⟨rfl, b2⟩
          go_wp2
          go_roundw
          case rel => exact ⟨t + 1, by omega, by rw [z.out], by rw [HG.out], by go_num, BN, hB.trans (b2.mono hB.size)⟩
          case measure => simp [intOf]; omega
        · have z := Lib.hid (show P (t + 1) = pt ++ str [44] ++ v from PP.out.1 (by omega))
          have j1 : decide (0 < t) = true := decide_eq_true (by omega)
          have j2 : 0 < t := by omega
          have j3 : (0 : Int) < (t : Int) := by omega
          clear t0
          go_wp2_with fail
          refine (decI_is x _ (by omega) (by omega) v HV.out).mono ?_
          rintro e w2 ⟨rfl, b2⟩
          go_wp2
          go_roundw
          case rel => exact ⟨t + 1, by omega, by rw [z.out]; rfl, by rw [HG.out], by go_num, BN, hB.trans (b2.mono hB.size)⟩
          case measure => simp [intOf]; omega
    · obtain rfl : n = t := by omega
      have pz := PZ.out n ht BT.out
      have LP := Lib.hid (lists_parse (l := l) (by rintro rfl; have := EN.out; simp at this; omega) (by rw [← EN.out]; exact h6) (bigTo_all (by rw [← EN.out]; exact BT.out)))
      obtain ⟨gn, hgn⟩ : ∃ z, G n = z := ⟨_, rfl⟩
      obtain ⟨pn, hpn⟩ : ∃ z, P n = z := ⟨_, rfl⟩
      have HGN := Lib.hid (hgn.symm.trans GN.out)
      have PD := Lib.hid (show pn.data.toList = headT ++ commaL l by rw [← hpn, PN.out, list_str])
      rw [hgn, hpn]
      rw [hpn] at pz
      clear hgn hpn
      cases gn
      · have PQ := Lib.hid (show ruParse pn.data.toList = (zeroR, 0, 1) by rw [PD.out, LP.out, if_neg (of_decide_eq_false HGN.out.symm)])
        have B20 := hB
        clear hB
        go_wp2_with fail
        refine (parse_ok pn _ (TT.out.on B20) zeroR 0 1 PQ.out).mono ?_
        rintro e w21 ⟨⟨pa6, pn6, pc6, pa7, pn7, pc7, pa8, pn8, pc8, pa9, pn9, pc9, pa10, pn10, pc10, pa11, pn11, pc11, pa12, pn12, pc12, pa13, pn13, pc13, pa14, pn14, pc14⟩, he, hS, b21⟩
        replace he : e = .returned (.tuple #[.agg #[.int .i64 0, .int .i64 0, .int .i64 0, .int .i64 0, .int .i64 0, .bool false, .slice pa6 pn6 pc6, .slice pa7 pn7 pc7, .slice pa8 pn8 pc8, .slice pa9 pn9 pc9, .slice pa10 pn10 pc10, .slice pa11 pn11 pc11, .slice pa12 pn12 pc12, .slice pa13 pn13 pc13, .slice pa14 pn14 pc14], .int .i64 0, .int .i64 1]) := he
        subst he
        have B21 := B20.trans (b21.mono B20.size)
        clear B20
        clear b21
        go_upto_region 18 with fail
        have b22 := alloc_below w21 (.cells #[.int .i64 0, .int .i64 0, .int .i64 0, .int .i64 0, .int .i64 0, .bool false, .slice pa6 pn6 pc6, .slice pa7 pn7 pc7, .slice pa8 pn8 pc8, .slice pa9 pn9 pc9, .slice pa10 pn10 pc10, .slice pa11 pn11 pc11, .slice pa12 pn12 pc12, .slice pa13 pn13 pc13, .slice pa14 pn14 pc14] 25)
        have Xp22 := Box.new w21 #[.int .i64 0, .int .i64 0, .int .i64 0, .int .i64 0, .int .i64 0, .bool false, .slice pa6 pn6 pc6, .slice pa7 pn7 pc7, .slice pa8 pn8 pc8, .slice pa9 pn9 pc9, .slice pa10 pn10 pc10, .slice pa11 pn11 pc11, .slice pa12 pn12 pc12, .slice pa13 pn13 pc13, .slice pa14 pn14 pc14] 25
        have Rp22 := hS.below b22
        clear hS
        generalize w21.alloc (.cells #[.int .i64 0, .int .i64 0, .int .i64 0, .int .i64 0, .int .i64 0, .bool false, .slice pa6 pn6 pc6, .slice pa7 pn7 pc7, .slice pa8 pn8 pc8, .slice pa9 pn9 pc9, .slice pa10 pn10 pc10, .slice pa11 pn11 pc11, .slice pa12 pn12 pc12, .slice pa13 pn13 pc13, .slice pa14 pn14 pc14] 25) = w22 at *
        have B22 := B21.trans (b22.mono B21.size)
        clear B21
        clear b22
        go_wp2_with fail
        refine (first_is _ (TT.out.on B22)).mono ?_
        rintro e w23 ⟨rfl, b23⟩
        have B23 := B22.trans (b23.mono B22.size)
        have Xp23 := Xp22.below b23
        have Rp23 := Rp22.below b23
        clear B22 Xp22 Rp22
        clear b23
        go_wp2
        go_ret
        exact ⟨rfl, B23⟩
      · have PQ := Lib.hid (show ruParse pn.data.toList = (ruleL l, 0, 0) by rw [PD.out, LP.out, if_pos (of_decide_eq_true HGN.out.symm)]; rfl)
        have B20 := hB
        clear hB
        go_wp2_with fail
        refine (parse_ok pn _ (TT.out.on B20) (ruleL l) 0 0 PQ.out).mono ?_
        rintro e w21 ⟨⟨pa6, pn6, pc6, pa7, pn7, pc7, pa8, pn8, pc8, pa9, pn9, pc9, pa10, pn10, pc10, pa11, pn11, pc11, pa12, pn12, pc12, pa13, pn13, pc13, pa14, pn14, pc14⟩, he, hS, b21⟩
        replace he : e = .returned (.tuple #[.agg #[.int .i64 1, .int .i64 1, .int .i64 0, .int .i64 0, .int .i64 0, .bool false, .slice pa6 pn6 pc6, .slice pa7 pn7 pc7, .slice pa8 pn8 pc8, .slice pa9 pn9 pc9, .slice pa10 pn10 pc10, .slice pa11 pn11 pc11, .slice pa12 pn12 pc12, .slice pa13 pn13 pc13, .slice pa14 pn14 pc14], .int .i64 0, .int .i64 0]) := he
        subst he
        have B21 := B20.trans (b21.mono B20.size)
        clear B20
        clear b21
        go_upto_region 20 with fail
        have b22 := alloc_below w21 (.cells #[.int .i64 1, .int .i64 1, .int .i64 0, .int .i64 0, .int .i64 0, .bool false, .slice pa6 pn6 pc6, .slice pa7 pn7 pc7, .slice pa8 pn8 pc8, .slice pa9 pn9 pc9, .slice pa10 pn10 pc10, .slice pa11 pn11 pc11, .slice pa12 pn12 pc12, .slice pa13 pn13 pc13, .slice pa14 pn14 pc14] 25)
        have Xp22 := Box.new w21 #[.int .i64 1, .int .i64 1, .int .i64 0, .int .i64 0, .int .i64 0, .bool false, .slice pa6 pn6 pc6, .slice pa7 pn7 pc7, .slice pa8 pn8 pc8, .slice pa9 pn9 pc9, .slice pa10 pn10 pc10, .slice pa11 pn11 pc11, .slice pa12 pn12 pc12, .slice pa13 pn13 pc13, .slice pa14 pn14 pc14] 25
        have Rp22 := hS.below b22
        clear hS
        generalize w21.alloc (.cells #[.int .i64 1, .int .i64 1, .int .i64 0, .int .i64 0, .int .i64 0, .bool false, .slice pa6 pn6 pc6, .slice pa7 pn7 pc7, .slice pa8 pn8 pc8, .slice pa9 pn9 pc9, .slice pa10 pn10 pc10, .slice pa11 pn11 pc11, .slice pa12 pn12 pc12, .slice pa13 pn13 pc13, .slice pa14 pn14 pc14] 25) = w22 at *
        have B22 := B21.trans (b22.mono B21.size)
        clear B21
        clear b22
        have Z9 : w22.cell? ⟨w21.heap.size, 9, none⟩ = some (.slice pa9 pn9 pc9) := Xp22.at_ 9 _ rfl
        have Y9 := Xp22.1
        have HR := Lib.hid Rp22.h9
        have D0 : Below w22.heap.size w22 w22.drew := (Below.refl _ _).drew
        have TA := Lib.hid (fun (v : World) (q : Below w22.heap.size w22 v) => TT.out.on (B22.trans (q.mono B22.size)))
        have IA := Lib.hid (fun (v : World) (q : Below w22.heap.size w22 v) => HI.out.below (B22.trans (q.mono B22.size)))
        have MA := Lib.hid (fun (v : World) (q : Below w22.heap.size w22 v) => HR.out.below q)
        have KP := fun (v : World) (q : Below w22.heap.size w22 v) => (q.cell (p := ⟨w21.heap.size, 9, none⟩) Y9).trans Z9
        have BF := Lib.hid (fun (v : World) (q : Below w22.heap.size w22 v) => show Below w.heap.size w v from B22.trans (q.mono B22.size))
        have h1000 : n ≤ 1000 := by omega
        have L9 : pn9 ≤ 9223372036854775807 := by have z := Rp22.l9; simp only at z; omega
        have ML := fun (k : Nat) (z : k ≤ maxLen) => show k ≤ 9223372036854775807 by unfold maxLen at z; omega
        go_region_held (fun w' => w'.cell? ⟨w21.heap.size, 9, none⟩ = some (.slice pa9 pn9 pc9)) (first | exact KP _ q3 | exact KP _ q2 | exact KP _ q1 | go_keep)
          (first
            | ((with_reducible refine (first_is _ (TA.out _ D0)).mono ?_); rintro e v1 ⟨rfl, b1⟩; have q1 := D0.trans (b1.mono D0.size); clear b1)
            | ((with_reducible refine (sorted_is _ (some ⟨b, off, none⟩) n c l (IA.out _ q1) h1000).mono ?_); rintro e v2 ⟨sv, rfl, ov, b2⟩; obtain ⟨SA, sc, rfl, hSA, -, hsm⟩ := ov.at_; have hsm2 := ML _ hsm; have q2 := q1.trans (b2.mono q1.size); clear b2 ov)
            | ((with_reducible refine (ints_any _ pa9 SA pn9 pc9 _ sc _ (sortU iltB l) (MA.out _ q2) hSA L9 hsm2).mono ?_); rintro e v3 ⟨rfl, b3⟩; have q3 := q2.trans (b3.mono q2.size); clear b3))
        all_goals
          go_wp2
          go_ret
          exact ⟨ret_bool (decide_eq_true (show (ruleL l).mday = sortU iltB l from rfl)), BF.out _ q3⟩
theorem lists_walk (w : World) (T : Tabs w) (A : Option Addr) (n c : Nat) (l : List Int) (h : IsAt w A n l) (hk : n ≤ 9223372036854775807) :
    Calls Tryz.prog 9 #[.slice A n c] w fun e w' => e = .returned (.bool true) ∧ Below w.heap.size w w' := by
  by_cases h0 : n = 0
  · subst h0; exact lists_none w T A 0 c l h hk rfl
  by_cases h6 : 60 < n
  · exact lists_many w T A n c l h hk h6
  · exact lists_main w T A n c l h hk (by omega) (by omega)
end Go.Proofs.YtcngmgpegnmooaaGreatDoor.Ru
