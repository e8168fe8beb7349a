/- RuleTurns answers true. -/
import Derived.Test.YtcngmgpegnmooaaGreatDoorRuPrint
import Derived.Test.YtcngmgpegnmooaaGreatDoorRpZ
import Derived.Test.YtcngmgpegnmooaaGreatDoorRpT
import Derived.Test.YtcngmgpegnmooaaGreatDoorRuLaws
import Derived.LoopTactic
set_option linter.unusedVariables false
namespace Go.Proofs.YtcngmgpegnmooaaGreatDoor.Ru
open Go.RowKit Cv St Go.Proofs.YtcngmgpegnmooaaGreatDoor.Fd

theorem sep_snoc (c : UInt8) : ∀ (L : List (List UInt8)) (p : List UInt8), L ≠ [] → sep c (L ++ [p]) = sep c L ++ c :: p
  | [], _, h => absurd rfl h
  | [q], p, _ => by simp [sep]
  | q :: x :: L, p, _ => by
    rw [List.cons_append, List.cons_append, sep_cons, sep_cons, ← List.cons_append, sep_snoc c (x :: L) p (by simp)]
    simp
/-- the pieces from k on, turned round -/
def backT (ps : List (List UInt8)) (k : Nat) : ByteArray := str (sep 59 (ps.drop k).reverse)
theorem backT_end (ps : List (List UInt8)) : backT ps ps.length = ⟨#[]⟩ := by unfold backT; rw [List.drop_length]; rfl
theorem drop_snoc {ps : List (List UInt8)} {k : Nat} (h : k < ps.length) : (ps.drop k).reverse = (ps.drop (k + 1)).reverse ++ [pat ps k] := by
  rw [drop_pat h, List.reverse_cons]
theorem backT_first {ps : List (List UInt8)} {k : Nat} (h : k + 1 = ps.length) : backT ps k = str (pat ps k) := by
  unfold backT
  rw [drop_snoc (by omega), List.drop_eq_nil_of_le (by omega)]
  simp [sep]
theorem backT_next {ps : List (List UInt8)} {k : Nat} (h : k + 1 < ps.length) : backT ps k = backT ps (k + 1) ++ str [59] ++ str (pat ps k) := by
  unfold backT
  rw [drop_snoc (by omega), sep_snoc, str_app, str_app]
  · simp
  · intro e
    have := congrArg List.length e
    simp at this
    omega
theorem backT_le {ps : List (List UInt8)} {k : Nat} (h : k < ps.length) : (backT ps (k + 1)).size ≤ (backT ps k).size := by
  by_cases e : k + 1 = ps.length
  · rw [e, backT_end]; exact Nat.zero_le _
  · have n := backT_next (ps := ps) (k := k) (by omega)
    rw [n, ByteArray.size_append, ByteArray.size_append]; omega
theorem backT_size {ps : List (List UInt8)} (k : Nat) (h : k ≤ ps.length) : (backT ps k).size ≤ (backT ps 0).size := by
  induction k with
  | zero => exact Nat.le_refl _
  | succ k ih => exact Nat.le_trans (backT_le (ps := ps) (k := k) h) (ih (Nat.le_of_succ_le h))
theorem backT_all (l : List UInt8) : (backT (cutAt 59 l) 0).size = l.length := by
  unfold backT
  rw [List.drop_zero, str_size, rev_len, sep_cut]

set_option maxRecDepth 100000 in
set_option maxHeartbeats 8000000 in
theorem turns_long (w : World) (T : Tabs w) (s : ByteArray) (hz : s.size ≤ maxLen) (hl : 5000 < s.size) :
    Calls Tryz.prog 6 #[.string s] w fun e w' => e = .returned (.bool true) ∧ Below w.heap.size w w' := by
  unfold maxLen at hz
  have TT := Lib.hid T
  have il : 5000 < (s.size : Int) := by omega
  clear T
  show Calls Tryz.prog 6 #[.string s] w _
  go_enter Tryz.func6, Tryz.ntmps6
  have B0 := Below.refl w.heap.size w
  go_wp2_with fail
  refine (first_is _ (TT.out.on B0)).mono ?_
  rintro e w1 ⟨rfl, b1⟩
  have B1 := B0.trans (b1.mono B0.size)
  clear B0
  clear b1
  go_wp2_with fail
  refine (first_is _ (TT.out.on B1)).mono ?_
  rintro e w2 ⟨rfl, b2⟩
  have B2 := B1.trans (b2.mono B1.size)
  clear B1
  clear b2
  go_wp2
  go_ret
  exact ⟨rfl, B2⟩
set_option maxRecDepth 100000 in
set_option maxHeartbeats 8000000 in
theorem turns_main (w : World) (T : Tabs w) (s : ByteArray) (hz : s.size ≤ maxLen) (hl : s.size ≤ 5000) :
    Calls Tryz.prog 6 #[.string s] w fun e w' => e = .returned (.bool true) ∧ Below w.heap.size w w' := by
  unfold maxLen at hz
  have TT := Lib.hid T
  have il : (s.size : Int) ≤ 5000 := by omega
  obtain ⟨o, a, x, hp⟩ : ∃ o a x, ruParse s.data.toList = (o, a, x) := ⟨_, _, _, rfl⟩
  obtain ⟨ps, hps⟩ : ∃ ps, cutAt 59 s.data.toList = ps := ⟨_, rfl⟩
  obtain ⟨n, hn⟩ : ∃ n, ps.length = n := ⟨_, rfl⟩
  have n0 : 0 < n := by rw [← hn]; have := cutAt_ne 59 s.data.toList; rw [hps] at this; exact List.length_pos_iff.2 this
  have n1 : n ≤ 5001 := by rw [← hn, ← hps]; have := countB_le s 59; omega
  obtain ⟨u, hu⟩ : ∃ u, backT ps 0 = u := ⟨_, rfl⟩
  have usz : u.size ≤ 5000 := by rw [← hu, ← hps, backT_all, size_list]; exact hl
  obtain ⟨o', b, y, hq⟩ : ∃ o a x, ruParse u.data.toList = (o, a, x) := ⟨_, _, _, rfl⟩
  have tu := turned s.data.toList
  have eu : sep 59 (cutAt 59 s.data.toList).reverse = u.data.toList := by rw [← hu, hps]; unfold backT; rw [list_str, List.drop_zero]
  rw [eu, hp, hq] at tu
  obtain ⟨t1, t2⟩ := tu
  simp only at t1 t2
  subst t2
  have SZ := Lib.hid (fun (k : Nat) (hk : k ≤ n) => show (backT ps k).size ≤ 5000 from Nat.le_trans (backT_size k (by omega)) (by rw [hu]; exact usz))
  have PZ := Lib.hid (fun (k : Nat) (hk : k < n) => show (str (pat ps k)).size ≤ 5000 by
    rw [str_size, pat_lt (by omega)]
    have := cut_len 59 s.data.toList (ps[k]'(by omega)) (by rw [hps]; exact List.getElem_mem _)
    rw [size_list] at this; omega)
  have HP := Lib.hid hp
  have HQ := Lib.hid hq
  have HS := Lib.hid hps
  have HN := Lib.hid hn
  have HU := Lib.hid hu
  have HT := Lib.hid t1
  have ZE := Lib.hid (show backT ps n = ⟨#[]⟩ by rw [← hn]; exact backT_end ps)
  have ZF := Lib.hid (fun (k : Nat) (hk : k + 1 = n) => show backT ps k = str (pat ps k) from backT_first (by omega))
  have ZN := Lib.hid (fun (k : Nat) (hk : k + 1 < n) => show backT ps k = backT ps (k + 1) ++ str [59] ++ str (pat ps k) from backT_next (by omega))
  clear hp hq hps hn hu t1 eu T hl
  obtain ⟨ofreq, oitv, ocnt, otil, owkst, oends, omon, oweek, oyday, omday, oday, ohour, ominu, osec, opos⟩ := o
  show Calls Tryz.prog 6 #[.string s] w _
  go_enter Tryz.func6, Tryz.ntmps6
  have B0 := Below.refl w.heap.size w
  go_wp2_with fail
  refine (first_is _ (TT.out.on B0)).mono ?_
  rintro e w1 ⟨rfl, b1⟩
  have B1 := B0.trans (b1.mono B0.size)
  clear B0
  clear b1
  go_wp2_with fail
  refine (parse_ok s _ (TT.out.on B1) ⟨ofreq, oitv, ocnt, otil, owkst, oends, omon, oweek, oyday, omday, oday, ohour, ominu, osec, opos⟩ a x HP.out).mono ?_
  rintro e w2 ⟨⟨pa6, pn6, pc6, pa7, pn7, pc7, pa8, pn8, pc8, pa9, pn9, pc9, pa10, pn10, pc10, pa11, pn11, pc11, pa12, pn12, pc12, pa13, pn13, pc13, pa14, pn14, pc14⟩, he, hS, b2⟩
  replace he : e = .returned (.tuple #[.agg #[.int .i64 ofreq, .int .i64 oitv, .int .i64 ocnt, .int .i64 otil, .int .i64 owkst, .bool oends, .slice pa6 pn6 pc6, .slice pa7 pn7 pc7, .slice pa8 pn8 pc8, .slice pa9 pn9 pc9, .slice pa10 pn10 pc10, .slice pa11 pn11 pc11, .slice pa12 pn12 pc12, .slice pa13 pn13 pc13, .slice pa14 pn14 pc14], .int .i64 a, .int .i64 x]) := he
  subst he
  have B2 := B1.trans (b2.mono B1.size)
  clear B1
  clear b2
  go_upto_region 6 with fail
  have b3 := alloc_below w2 (.cells #[.int .i64 ofreq, .int .i64 oitv, .int .i64 ocnt, .int .i64 otil, .int .i64 owkst, .bool oends, .slice pa6 pn6 pc6, .slice pa7 pn7 pc7, .slice pa8 pn8 pc8, .slice pa9 pn9 pc9, .slice pa10 pn10 pc10, .slice pa11 pn11 pc11, .slice pa12 pn12 pc12, .slice pa13 pn13 pc13, .slice pa14 pn14 pc14] 25)
  have Xp3 := Box.new w2 #[.int .i64 ofreq, .int .i64 oitv, .int .i64 ocnt, .int .i64 otil, .int .i64 owkst, .bool oends, .slice pa6 pn6 pc6, .slice pa7 pn7 pc7, .slice pa8 pn8 pc8, .slice pa9 pn9 pc9, .slice pa10 pn10 pc10, .slice pa11 pn11 pc11, .slice pa12 pn12 pc12, .slice pa13 pn13 pc13, .slice pa14 pn14 pc14] 25
  have Rp3 := hS.below b3
  clear hS
  generalize w2.alloc (.cells #[.int .i64 ofreq, .int .i64 oitv, .int .i64 ocnt, .int .i64 otil, .int .i64 owkst, .bool oends, .slice pa6 pn6 pc6, .slice pa7 pn7 pc7, .slice pa8 pn8 pc8, .slice pa9 pn9 pc9, .slice pa10 pn10 pc10, .slice pa11 pn11 pc11, .slice pa12 pn12 pc12, .slice pa13 pn13 pc13, .slice pa14 pn14 pc14] 25) = w3 at *
  have B3 := B2.trans (b3.mono B2.size)
  clear B2
  clear b3
  go_wp2_with fail
  refine (rsplit_any _ s 59 59 rfl (by omega)).mono ?_
  rintro e w4 ⟨v, rfl, ov, b4⟩
  rw [HS.out] at ov
  obtain ⟨A, k, rfl, hA, hk, -⟩ := ov.at_
  rw [List.length_map, HN.out] at hk hA
  rw [List.length_map, HN.out]
  clear ov
  obtain ⟨b0, off, rfl, hb0, hc⟩ := hA.2 n0
  have HC := Lib.hid hc
  clear hA hc
  have B4 := B3.trans (b4.mono B3.size)
  have Xp4 := Xp3.below b4
  have Rp4 := Rp3.below b4
  clear B3 Xp3 Rp3
  clear b4
  generalize hbt : backT ps = bt at *
  have iw : (0 : Int) ≤ (n : Int) - 1 := by omega
  go_wp2
  go_loop [7, 8] (fun tv iv => ∃ (k : Nat) (z : Int), k ≤ n ∧ z + 1 = (k : Int) ∧ iv = .int .i64 z ∧ tv = .string (bt k)) (fun _ iv => (intOf iv + 1).toNat)
  case atStart => exact ⟨n, (n : Int) - 1, Nat.le_refl _, by omega, rfl, by rw [ZE.out]⟩
  case round =>
    obtain ⟨k, z, hk2, hz2, rfl, rfl⟩ := hrel
    cases k with
    | succ k =>
      obtain rfl : z = (k : Int) := by omega
      have kn : k < n := by omega
      have c0 := HC.out k kn
      rw [show sat (ps.map str) k = str (pat ps k) from pat_str (by rw [HN.out]; exact kn)] at c0
      have s1 := SZ.out (k + 1) hk2
      have s2 := PZ.out k kn
      by_cases e : k + 1 = n
      · have G := Lib.hid (show bt k = str (pat ps k) from ZF.out k e)
        have z0 : bt (k + 1) = ⟨#[]⟩ := by rw [e]; exact ZE.out
        have t0 : ¬ ((k : Int) < (n : Int) - 1) := by omega
        have t1 : decide ((k : Int) < (n : Int) - 1) = false := decide_eq_false t0
        generalize str (pat ps k) = pk at *
        rw [z0] at s1 ⊢
        clear z0 hz2
        go_wp2
        go_round
        case rel => exact ⟨k, (k : Int) - 1, by omega, by omega, rfl, by rw [G.out]; exact congrArg Value.string (show (ByteArray.empty ++ pk : ByteArray) = pk by simp)⟩
        case measure => simp [intOf]; try omega
      · have G := Lib.hid (show bt k = bt (k + 1) ++ str [59] ++ str (pat ps k) from ZN.out k (by omega))
        have t0 : (k : Int) < (n : Int) - 1 := by omega
        have t1 : decide ((k : Int) < (n : Int) - 1) = true := decide_eq_true t0
        generalize str (pat ps k) = pk at *
        generalize bt (k + 1) = bk at *
        clear hz2
        by_cases q : bk.toList = []
        · have q1 : (bk.toList != []) = false := by rw [q]; rfl
          have q2 : (!bk.toList.isEmpty) = false := by rw [q]; rfl
          have q3 : bk.toList.isEmpty = true := by rw [q]; rfl
          go_wp2
          go_round
          case rel => exact ⟨k, (k : Int) - 1, by omega, by omega, rfl, by rw [G.out]; rfl⟩
          case measure => simp [intOf]; try omega
        · have q3 : bk.toList.isEmpty = false := by rw [List.isEmpty_eq_false_iff]; exact q
          have q2 : (!bk.toList.isEmpty) = true := by rw [q3]; rfl
          have q1 : (bk.toList != []) = true := by rw [bne_iff_ne]; exact q
          go_wp2
          go_round
          case rel => exact ⟨k, (k : Int) - 1, by omega, by omega, rfl, by rw [G.out]; rfl⟩
          case measure => simp [intOf]; try omega
    | zero =>
      obtain rfl : z = -1 := by omega
      have hu2 := HU.out
      rw [hu2]
      clear hu2
      go_wp2_with fail
      refine (parse_ok u _ (TT.out.on B4) ⟨ofreq, oitv, ocnt, otil, owkst, oends, omon, oweek, oyday, omday, oday, ohour, ominu, osec, opos⟩ b y HQ.out).mono ?_
      rintro e w5 ⟨⟨qa6, qn6, qc6, qa7, qn7, qc7, qa8, qn8, qc8, qa9, qn9, qc9, qa10, qn10, qc10, qa11, qn11, qc11, qa12, qn12, qc12, qa13, qn13, qc13, qa14, qn14, qc14⟩, he, hS, b5⟩
      replace he : e = .returned (.tuple #[.agg #[.int .i64 ofreq, .int .i64 oitv, .int .i64 ocnt, .int .i64 otil, .int .i64 owkst, .bool oends, .slice qa6 qn6 qc6, .slice qa7 qn7 qc7, .slice qa8 qn8 qc8, .slice qa9 qn9 qc9, .slice qa10 qn10 qc10, .slice qa11 qn11 qc11, .slice qa12 qn12 qc12, .slice qa13 qn13 qc13, .slice qa14 qn14 qc14], .int .i64 b, .int .i64 y]) := he
      subst he
      have B5 := B4.trans (b5.mono B4.size)
      have Xp5 := Xp4.below b5
      have Rp5 := Rp4.below b5
      clear B4 Xp4 Rp4
      clear b5
      go_upto_region 15 with fail
      have b6 := alloc_below w5 (.cells #[.int .i64 ofreq, .int .i64 oitv, .int .i64 ocnt, .int .i64 otil, .int .i64 owkst, .bool oends, .slice qa6 qn6 qc6, .slice qa7 qn7 qc7, .slice qa8 qn8 qc8, .slice qa9 qn9 qc9, .slice qa10 qn10 qc10, .slice qa11 qn11 qc11, .slice qa12 qn12 qc12, .slice qa13 qn13 qc13, .slice qa14 qn14 qc14] 25)
      have Xq6 := Box.new w5 #[.int .i64 ofreq, .int .i64 oitv, .int .i64 ocnt, .int .i64 otil, .int .i64 owkst, .bool oends, .slice qa6 qn6 qc6, .slice qa7 qn7 qc7, .slice qa8 qn8 qc8, .slice qa9 qn9 qc9, .slice qa10 qn10 qc10, .slice qa11 qn11 qc11, .slice qa12 qn12 qc12, .slice qa13 qn13 qc13, .slice qa14 qn14 qc14] 25
      have Rq6 := hS.below b6
      clear hS
      generalize w5.alloc (.cells #[.int .i64 ofreq, .int .i64 oitv, .int .i64 ocnt, .int .i64 otil, .int .i64 owkst, .bool oends, .slice qa6 qn6 qc6, .slice qa7 qn7 qc7, .slice qa8 qn8 qc8, .slice qa9 qn9 qc9, .slice qa10 qn10 qc10, .slice qa11 qn11 qc11, .slice qa12 qn12 qc12, .slice qa13 qn13 qc13, .slice qa14 qn14 qc14] 25) = w6 at *
      have B6 := B5.trans (b6.mono B5.size)
      have Xp6 := Xp5.below b6
      have Rp6 := Rp5.below b6
      clear B5 Xp5 Rp5
      clear b6
      by_cases hx : x = 0
      · have hy : y = 0 := HT.out.1 hx
        subst hx hy
        go_wp2_with fail
        refine (first_is _ (TT.out.on B6)).mono ?_
        rintro e w7 ⟨rfl, b7⟩
        have B7 := B6.trans (b7.mono B6.size)
        have Xp7 := Xp6.below b7
        have Xq7 := Xq6.below b7
        have Rp7 := Rp6.below b7
        have Rq7 := Rq6.below b7
        clear B6 Xp6 Xq6 Rp6 Rq6
        clear b7
        have pz0 : w7.cell? ⟨w2.heap.size, 0, none⟩ = some (.int .i64 ofreq) := Xp7.at_ 0 _ rfl
        have pz1 : w7.cell? ⟨w2.heap.size, 1, none⟩ = some (.int .i64 oitv) := Xp7.at_ 1 _ rfl
        have pz2 : w7.cell? ⟨w2.heap.size, 2, none⟩ = some (.int .i64 ocnt) := Xp7.at_ 2 _ rfl
        have pz3 : w7.cell? ⟨w2.heap.size, 3, none⟩ = some (.int .i64 otil) := Xp7.at_ 3 _ rfl
        have pz4 : w7.cell? ⟨w2.heap.size, 4, none⟩ = some (.int .i64 owkst) := Xp7.at_ 4 _ rfl
        have pz5 : w7.cell? ⟨w2.heap.size, 5, none⟩ = some (.bool oends) := Xp7.at_ 5 _ rfl
        have pz6 : w7.cell? ⟨w2.heap.size, 6, none⟩ = some (.slice pa6 pn6 pc6) := Xp7.at_ 6 _ rfl
        have pz7 : w7.cell? ⟨w2.heap.size, 7, none⟩ = some (.slice pa7 pn7 pc7) := Xp7.at_ 7 _ rfl
        have pz8 : w7.cell? ⟨w2.heap.size, 8, none⟩ = some (.slice pa8 pn8 pc8) := Xp7.at_ 8 _ rfl
        have pz9 : w7.cell? ⟨w2.heap.size, 9, none⟩ = some (.slice pa9 pn9 pc9) := Xp7.at_ 9 _ rfl
        have pz10 : w7.cell? ⟨w2.heap.size, 10, none⟩ = some (.slice pa10 pn10 pc10) := Xp7.at_ 10 _ rfl
        have pz11 : w7.cell? ⟨w2.heap.size, 11, none⟩ = some (.slice pa11 pn11 pc11) := Xp7.at_ 11 _ rfl
        have pz12 : w7.cell? ⟨w2.heap.size, 12, none⟩ = some (.slice pa12 pn12 pc12) := Xp7.at_ 12 _ rfl
        have pz13 : w7.cell? ⟨w2.heap.size, 13, none⟩ = some (.slice pa13 pn13 pc13) := Xp7.at_ 13 _ rfl
        have pz14 : w7.cell? ⟨w2.heap.size, 14, none⟩ = some (.slice pa14 pn14 pc14) := Xp7.at_ 14 _ rfl
        have qz0 : w7.cell? ⟨w5.heap.size, 0, none⟩ = some (.int .i64 ofreq) := Xq7.at_ 0 _ rfl
        have qz1 : w7.cell? ⟨w5.heap.size, 1, none⟩ = some (.int .i64 oitv) := Xq7.at_ 1 _ rfl
        have qz2 : w7.cell? ⟨w5.heap.size, 2, none⟩ = some (.int .i64 ocnt) := Xq7.at_ 2 _ rfl
        have qz3 : w7.cell? ⟨w5.heap.size, 3, none⟩ = some (.int .i64 otil) := Xq7.at_ 3 _ rfl
        have qz4 : w7.cell? ⟨w5.heap.size, 4, none⟩ = some (.int .i64 owkst) := Xq7.at_ 4 _ rfl
        have qz5 : w7.cell? ⟨w5.heap.size, 5, none⟩ = some (.bool oends) := Xq7.at_ 5 _ rfl
        have qz6 : w7.cell? ⟨w5.heap.size, 6, none⟩ = some (.slice qa6 qn6 qc6) := Xq7.at_ 6 _ rfl
        have qz7 : w7.cell? ⟨w5.heap.size, 7, none⟩ = some (.slice qa7 qn7 qc7) := Xq7.at_ 7 _ rfl
        have qz8 : w7.cell? ⟨w5.heap.size, 8, none⟩ = some (.slice qa8 qn8 qc8) := Xq7.at_ 8 _ rfl
        have qz9 : w7.cell? ⟨w5.heap.size, 9, none⟩ = some (.slice qa9 qn9 qc9) := Xq7.at_ 9 _ rfl
        have qz10 : w7.cell? ⟨w5.heap.size, 10, none⟩ = some (.slice qa10 qn10 qc10) := Xq7.at_ 10 _ rfl
        have qz11 : w7.cell? ⟨w5.heap.size, 11, none⟩ = some (.slice qa11 qn11 qc11) := Xq7.at_ 11 _ rfl
        have qz12 : w7.cell? ⟨w5.heap.size, 12, none⟩ = some (.slice qa12 qn12 qc12) := Xq7.at_ 12 _ rfl
        have qz13 : w7.cell? ⟨w5.heap.size, 13, none⟩ = some (.slice qa13 qn13 qc13) := Xq7.at_ 13 _ rfl
        have qz14 : w7.cell? ⟨w5.heap.size, 14, none⟩ = some (.slice qa14 qn14 qc14) := Xq7.at_ 14 _ rfl
        go_wp2_with fail
        refine (same_is _ ⟨pa6, pn6, pc6, pa7, pn7, pc7, pa8, pn8, pc8, pa9, pn9, pc9, pa10, pn10, pc10, pa11, pn11, pc11, pa12, pn12, pc12, pa13, pn13, pc13, pa14, pn14, pc14⟩ ⟨qa6, qn6, qc6, qa7, qn7, qc7, qa8, qn8, qc8, qa9, qn9, qc9, qa10, qn10, qc10, qa11, qn11, qc11, qa12, qn12, qc12, qa13, qn13, qc13, qa14, qn14, qc14⟩ ⟨ofreq, oitv, ocnt, otil, owkst, oends, omon, oweek, oyday, omday, oday, ohour, ominu, osec, opos⟩ ⟨ofreq, oitv, ocnt, otil, owkst, oends, omon, oweek, oyday, omday, oday, ohour, ominu, osec, opos⟩ true Rp7 Rq7 (decide_eq_true rfl)).mono ?_
        rintro e w8 ⟨rfl, b8⟩
        clear pz0 pz1 pz2 pz3 pz4 pz5 pz6 pz7 pz8 pz9 pz10 pz11 pz12 pz13 pz14 qz0 qz1 qz2 qz3 qz4 qz5 qz6 qz7 qz8 qz9 qz10 qz11 qz12 qz13 qz14
        have B8 := B7.trans (b8.mono B7.size)
        have Xp8 := Xp7.below b8
        have Xq8 := Xq7.below b8
        have Rp8 := Rp7.below b8
        have Rq8 := Rq7.below b8
        clear B7 Xp7 Xq7 Rp7 Rq7
        clear b8
        go_wp2
        go_ret
        exact ⟨rfl, B8⟩
      · have hy : y ≠ 0 := fun e => hx (HT.out.2 e)
        have tx : ((x : Int) == 0) = false := beq_eq_false_iff_ne.2 hx
        have ty : ((y : Int) == 0) = false := beq_eq_false_iff_ne.2 hy
        go_wp2_with fail
        refine (first_is _ (TT.out.on B6)).mono ?_
        rintro e w7 ⟨rfl, b7⟩
        have B7 := B6.trans (b7.mono B6.size)
        have Xp7 := Xp6.below b7
        have Xq7 := Xq6.below b7
        have Rp7 := Rp6.below b7
        have Rq7 := Rq6.below b7
        clear B6 Xp6 Xq6 Rp6 Rq6
        clear b7
        have pz0 : w7.cell? ⟨w2.heap.size, 0, none⟩ = some (.int .i64 ofreq) := Xp7.at_ 0 _ rfl
        have pz1 : w7.cell? ⟨w2.heap.size, 1, none⟩ = some (.int .i64 oitv) := Xp7.at_ 1 _ rfl
        have pz2 : w7.cell? ⟨w2.heap.size, 2, none⟩ = some (.int .i64 ocnt) := Xp7.at_ 2 _ rfl
        have pz3 : w7.cell? ⟨w2.heap.size, 3, none⟩ = some (.int .i64 otil) := Xp7.at_ 3 _ rfl
        have pz4 : w7.cell? ⟨w2.heap.size, 4, none⟩ = some (.int .i64 owkst) := Xp7.at_ 4 _ rfl
        have pz5 : w7.cell? ⟨w2.heap.size, 5, none⟩ = some (.bool oends) := Xp7.at_ 5 _ rfl
        have pz6 : w7.cell? ⟨w2.heap.size, 6, none⟩ = some (.slice pa6 pn6 pc6) := Xp7.at_ 6 _ rfl
        have pz7 : w7.cell? ⟨w2.heap.size, 7, none⟩ = some (.slice pa7 pn7 pc7) := Xp7.at_ 7 _ rfl
        have pz8 : w7.cell? ⟨w2.heap.size, 8, none⟩ = some (.slice pa8 pn8 pc8) := Xp7.at_ 8 _ rfl
        have pz9 : w7.cell? ⟨w2.heap.size, 9, none⟩ = some (.slice pa9 pn9 pc9) := Xp7.at_ 9 _ rfl
        have pz10 : w7.cell? ⟨w2.heap.size, 10, none⟩ = some (.slice pa10 pn10 pc10) := Xp7.at_ 10 _ rfl
        have pz11 : w7.cell? ⟨w2.heap.size, 11, none⟩ = some (.slice pa11 pn11 pc11) := Xp7.at_ 11 _ rfl
        have pz12 : w7.cell? ⟨w2.heap.size, 12, none⟩ = some (.slice pa12 pn12 pc12) := Xp7.at_ 12 _ rfl
        have pz13 : w7.cell? ⟨w2.heap.size, 13, none⟩ = some (.slice pa13 pn13 pc13) := Xp7.at_ 13 _ rfl
        have pz14 : w7.cell? ⟨w2.heap.size, 14, none⟩ = some (.slice pa14 pn14 pc14) := Xp7.at_ 14 _ rfl
        have qz0 : w7.cell? ⟨w5.heap.size, 0, none⟩ = some (.int .i64 ofreq) := Xq7.at_ 0 _ rfl
        have qz1 : w7.cell? ⟨w5.heap.size, 1, none⟩ = some (.int .i64 oitv) := Xq7.at_ 1 _ rfl
        have qz2 : w7.cell? ⟨w5.heap.size, 2, none⟩ = some (.int .i64 ocnt) := Xq7.at_ 2 _ rfl
        have qz3 : w7.cell? ⟨w5.heap.size, 3, none⟩ = some (.int .i64 otil) := Xq7.at_ 3 _ rfl
        have qz4 : w7.cell? ⟨w5.heap.size, 4, none⟩ = some (.int .i64 owkst) := Xq7.at_ 4 _ rfl
        have qz5 : w7.cell? ⟨w5.heap.size, 5, none⟩ = some (.bool oends) := Xq7.at_ 5 _ rfl
        have qz6 : w7.cell? ⟨w5.heap.size, 6, none⟩ = some (.slice qa6 qn6 qc6) := Xq7.at_ 6 _ rfl
        have qz7 : w7.cell? ⟨w5.heap.size, 7, none⟩ = some (.slice qa7 qn7 qc7) := Xq7.at_ 7 _ rfl
        have qz8 : w7.cell? ⟨w5.heap.size, 8, none⟩ = some (.slice qa8 qn8 qc8) := Xq7.at_ 8 _ rfl
        have qz9 : w7.cell? ⟨w5.heap.size, 9, none⟩ = some (.slice qa9 qn9 qc9) := Xq7.at_ 9 _ rfl
        have qz10 : w7.cell? ⟨w5.heap.size, 10, none⟩ = some (.slice qa10 qn10 qc10) := Xq7.at_ 10 _ rfl
        have qz11 : w7.cell? ⟨w5.heap.size, 11, none⟩ = some (.slice qa11 qn11 qc11) := Xq7.at_ 11 _ rfl
        have qz12 : w7.cell? ⟨w5.heap.size, 12, none⟩ = some (.slice qa12 qn12 qc12) := Xq7.at_ 12 _ rfl
        have qz13 : w7.cell? ⟨w5.heap.size, 13, none⟩ = some (.slice qa13 qn13 qc13) := Xq7.at_ 13 _ rfl
        have qz14 : w7.cell? ⟨w5.heap.size, 14, none⟩ = some (.slice qa14 qn14 qc14) := Xq7.at_ 14 _ rfl
        go_wp2_with fail
        refine (same_is _ ⟨pa6, pn6, pc6, pa7, pn7, pc7, pa8, pn8, pc8, pa9, pn9, pc9, pa10, pn10, pc10, pa11, pn11, pc11, pa12, pn12, pc12, pa13, pn13, pc13, pa14, pn14, pc14⟩ ⟨qa6, qn6, qc6, qa7, qn7, qc7, qa8, qn8, qc8, qa9, qn9, qc9, qa10, qn10, qc10, qa11, qn11, qc11, qa12, qn12, qc12, qa13, qn13, qc13, qa14, qn14, qc14⟩ ⟨ofreq, oitv, ocnt, otil, owkst, oends, omon, oweek, oyday, omday, oday, ohour, ominu, osec, opos⟩ ⟨ofreq, oitv, ocnt, otil, owkst, oends, omon, oweek, oyday, omday, oday, ohour, ominu, osec, opos⟩ true Rp7 Rq7 (decide_eq_true rfl)).mono ?_
        rintro e w8 ⟨rfl, b8⟩
        clear pz0 pz1 pz2 pz3 pz4 pz5 pz6 pz7 pz8 pz9 pz10 pz11 pz12 pz13 pz14 qz0 qz1 qz2 qz3 qz4 qz5 qz6 qz7 qz8 qz9 qz10 qz11 qz12 qz13 qz14
        have B8 := B7.trans (b8.mono B7.size)
        have Xp8 := Xp7.below b8
        have Xq8 := Xq7.below b8
        have Rp8 := Rp7.below b8
        have Rq8 := Rq7.below b8
        clear B7 Xp7 Xq7 Rp7 Rq7
        clear b8
        go_wp2
        go_ret
        exact ⟨rfl, B8⟩
theorem turns_walk (w : World) (T : Tabs w) (s : ByteArray) (hz : s.size ≤ maxLen) :
    Calls Tryz.prog 6 #[.string s] w fun e w' => e = .returned (.bool true) ∧ Below w.heap.size w w' := by
  by_cases hl : 5000 < s.size
  · exact turns_long w T s hz hl
  · exact turns_main w T s hz (by omega)
end Go.Proofs.YtcngmgpegnmooaaGreatDoor.Ru
