/- The queue: Drop, List, Copy. -/
import Derived.Test.YtjodhfehfpmfaaaTiQa
import Derived.Test.YtjodhfehfpmfaaaTiDel
import Derived.Test.YtjodhfehfpmfaaaTiCmp
import Derived.Test.YtjodhfehfpmfaaaIvOps
set_option linter.unusedVariables false
namespace Go.Proofs.Ytjodhfehfpmfaaa.Ti
open Go.RowKit Go.Sort Iv

theorem lt_cmp (x y : It) : ltOf cmpI x y = ltB x y := by
  show decide (cmpI x y < 0) = _
  exact cmpI_lt x y
theorem swo_cmp : SWO (ltOf cmpI) where
  irrefl x := by rw [lt_cmp, lt_irr]
  trans x y z h1 h2 := by
    rw [lt_cmp] at *
    rw [ltB_t] at *
    omega
  ntrans x y z h1 h2 := by
    rw [lt_cmp] at *
    rw [ltB_f] at *
    omega
set_option maxRecDepth 100000 in
set_option maxHeartbeats 4000000 in
/-- slices.SortFunc at items, by timer.compare -/
theorem sortf_is (blk off cap : Nat) (d : Array It) (w : World) (hH : HoldsK Iv.encS 2 w blk off d) (hblk : blk < w.heap.size) (hsz : d.size < 1000000) :
    Calls Try.prog 81 #[.slice (some ⟨blk, off, none⟩) d.size cap, .func (.func 82) #[] #[]] w fun e w' =>
      e = .returned (.tuple #[]) ∧ ∃ d' n os, PermIn 0 d.size d d' ∧ SortedIn (ltOf cmpI) 0 d.size d' ∧ w' = sortWorldK Iv.encS 2 w blk off n d' os := by
  have eg : ∀ args w, (callFunc 82 args).run Try.prog w = .ok (.enter 82 args) w := enters_of Try.func82 (by kernel_rfl) rfl
  have hlim : Lib.bitLen d.size < 4611686018427387904 := Nat.lt_of_le_of_lt (Lib.bitLen_le d.size 62 (by omega) (by omega)) (by omega)
  have hp := Try.pdqsortCmpFunc_all_f101 2 Try.isAgg70 Try.sizeOf70 Iv.encS cmpI 82 #[] swo_cmp blk off cap d w eg (fun _ _ _ _ x y => compare_is x y _) ⟨fun _ => rfl, encS_one, hH, hblk⟩ (d.size + 1) 0 d.size (Lib.bitLen d.size) d w (by omega) rfl (SWK.start hH) (Nat.zero_le _) (Nat.le_refl _) (by omega) hlim (Or.inl rfl)
  have hl := Try.bits_Len (d.size : Int) w (by omega) (by omega)
  rw [Int.toNat_natCast] at hl
  have PS := Lib.hid (pdq_sorts (ltOf cmpI) swo_cmp d 0 d.size (Lib.bitLen d.size) true true (Nat.zero_le _) (Nat.le_refl _) (Or.inl rfl))
  have wr : IntKind.u64.wrap (d.size : Int) = d.size := by simp [IntKind.wrap, IntKind.bits, IntKind.signed]; omega
  have HP := Lib.hid hp
  have HL := Lib.hid hl
  clear hH hp hl
  go_enter Try.func81, Try.ntmps81
  go_wp2_with fail
  refine HL.out.mono ?_
  rintro e w' ⟨rfl, hw⟩
  subst hw
  go_wp2_with fail
  refine HP.out.mono ?_
  rintro e w1 ⟨rfl, hw1⟩
  have HW := Lib.hid hw1
  clear hw1
  go_wp2
  go_end0
  obtain ⟨n, os, rfl⟩ := HW.out
  exact ⟨rfl, _, n, os, PS.out.1, PS.out.2, rfl⟩
/-- the sort of a row of items: in order, the same items -/
theorem sortQ_is (w : World) (g cap : Nat) (l L : List It) (h : Its w g cap l) (hs : Srt L) (hp : l.Perm L) (hl : l.length < 1000000) :
    Calls Try.prog 81 #[.slice (some ⟨g, 0, none⟩) l.length cap, .func (.func 82) #[] #[]] w fun e w' => e = .returned (.tuple #[]) ∧ SpAt w' (some ⟨g, 0, none⟩) L.length L ∧ Kp (· = g) w w' := by
  have hH : HoldsK Iv.encS 2 w g 0 l.toArray := by
    intro j hj
    rw [size_flatK] at hj
    have hj2 : j < l.length * 2 := by simpa using hj
    have e := get_flatK Iv.encS 2 l.toArray j (by simpa using hj)
    refine ⟨?_, by rw [Nat.zero_add]; exact h.frozen j⟩
    rw [Nat.zero_add]
    refine h.cell ?_
    have a := cells_get (enc := Iv.encS) (k := 2) (fun _ => rfl) l (j / 2) (j % 2) (by omega) (by omega)
    rw [show j / 2 * 2 + j % 2 = j by omega] at a
    rw [a, e]
    have b : (l.toArray)[j / 2]! = gt l (j / 2) := by rw [gt_lt (by omega), getElem!_pos _ _ (by simp; omega)]; simp
    rw [b]
    have c : j % 2 < (Iv.encS (gt l (j / 2))).length := by show j % 2 < 2; omega
    rw [getElem!_pos (Iv.encS (gt l (j / 2))) (j % 2) c, List.getElem?_eq_getElem c]
    rfl
  have := sortf_is g 0 cap l.toArray w hH h.lt (by simpa using hl)
  rw [List.size_toArray] at this
  refine this.mono ?_
  rintro e w' ⟨he, d', n, os, hpe, hso, rfl⟩
  have hsz : d'.size = l.length := by have := hpe.1; simpa using this
  have pd : d'.toList.Perm l := by
    have := hpe.2.2
    rw [← hsz] at this
    have a : d'.extract 0 d'.size = d' := Array.extract_size
    have b : l.toArray.extract 0 d'.size = l.toArray := by rw [hsz]; simp
    rw [a, b] at this
    simpa using this
  have sd : Srt d'.toList := by
    unfold Srt
    rw [List.pairwise_iff_getElem]
    intro i j hi hj hij
    have := hso i j (Nat.zero_le _) hij (by simpa [hsz] using hj)
    rw [lt_cmp] at this
    rw [getElem!_pos d' j (by simpa using hj), getElem!_pos d' i (by simpa using hi)] at this
    simpa using this
  have eL : d'.toList = L := srt_unique sd hs (pd.trans hp)
  have kp := kp_sortWorld Iv.encS 2 w g n d' os
  have hk : HoldsK Iv.encS 2 (sortWorldK Iv.encS 2 w g 0 n d' os) g 0 d' :=
    holdsK_grow Iv.encS 2 _ os g 0 d' (by unfold putRowK putRow mapBlock Sort.ahead; simpa using h.lt) (holdsK_putRowK Iv.encS 2 _ g 0 l.toArray d' (holdsK_ahead Iv.encS 2 w n g 0 _ hH) (by simpa using hsz))
  refine ⟨he, ?_, kp⟩
  rw [← eL]
  refine ⟨rfl, fun h0 => ⟨g, 0, rfl, Nat.lt_of_lt_of_le h.lt kp.size, fun j hj => ?_⟩⟩
  have hj2 : j < d'.size := by simpa using hj
  have a := (hk.cell (i := j) (c := 0) hj2 (by omega)).1
  have b := (hk.cell (i := j) (c := 1) hj2 (by omega)).1
  have e : d'[j]! = gt d'.toList j := by rw [gt_lt hj, getElem!_pos d' j hj2]; simp
  rw [e] at a b
  exact ⟨a, b⟩
theorem indexQ_nil (fv : Value) (w : World) : Calls Try.prog 98 #[.slice none 0 0, fv] w fun e w' => e = .returned (.int .i64 (-1)) ∧ w = w' := by
  go_enter Try.func98, Try.ntmps98
  go_wp2
  refine wp_loop_rounds 1 ?_
  rw [rounds_succ]
  go_wp2
  go_ret
  exact ⟨rfl, rfl⟩
theorem delQ_nil (fv : Value) (w : World) : Calls Try.prog 73 #[.slice none 0 0, fv] w fun e w' => e = .returned (.slice none 0 0) ∧ w = w' := by
  go_enter Try.func73, Try.ntmps73
  go_wp2_with (go_at_call 98; refine (indexQ_nil _ _).mono ?_; rintro e w' ⟨rfl, rfl⟩)
  go_ret
  exact ⟨rfl, rfl⟩
theorem sortQ_nil (cap : Nat) (fv : Value) (w : World) : Calls Try.prog 81 #[.slice none 0 cap, fv] w fun e w' => e = .returned (.tuple #[]) ∧ w = w' := by
  have hp := fun lim => AnyF.pdqsortCmpFunc_none Try.laysSlF014_f101 none cap lim fv w
  have hl := Try.bits_Len 0 w (by omega) (by omega)
  have HP := Lib.hid hp
  have HL := Lib.hid hl
  clear hp hl
  go_enter Try.func81, Try.ntmps81
  go_wp2_with fail
  refine HL.out.mono ?_
  rintro e w' ⟨rfl, hw⟩
  subst hw
  go_wp2_with fail
  refine (HP.out _).mono ?_
  rintro e w1 ⟨rfl, hw⟩
  subst hw
  go_wp2
  go_end0
  exact ⟨rfl, rfl⟩
/-- slices.Clone at items: a row of its own, the items as they lay -/
theorem cloneQ_is {F : Nat → Prop} (w : World) (A : Option Addr) (c : Nat) (l : List It) (h : RowF F w 70 2 A l.length c (cellsL Iv.encS l)) (hl : l.length ≤ 1000000) :
    Calls Try.prog 76 #[.slice A l.length c] w fun e w' => ∃ A' c', e = .returned (.slice A' l.length c') ∧ RowF (fun k => w.heap.size ≤ k) w' 70 2 A' l.length c' (cellsL Iv.encS l) ∧ Below w.heap.size w w' := by
  obtain ⟨i0, hi, hz0, hz1, hz2⟩ := info_parts info_it
  rcases h.2.2 with ⟨rfl, q⟩ | ⟨g, rfl, -, r⟩
  · have e0 : l = [] := List.length_eq_zero_iff.1 (by have := h.2.1; omega)
    subst e0 q
    refine (Try.slices_Clone_nil_f76 0 0 w).mono ?_
    rintro e w' ⟨rfl, rfl⟩
    exact ⟨none, 0, rfl, ⟨rfl, Nat.le_refl _, .inl ⟨rfl, rfl⟩⟩, Below.refl _ _⟩
  · refine (Try.slices_Clone_f76 i0 _ 2 16 hi hz0 hz1 hz2 rfl (by decide) Try.sizeOf70 g 0 l.length c (cellsL Iv.encS l) w (by rw [cells_len (k := 2) (fun _ => rfl)]) (by unfold maxLen; omega) (by omega) (fun j u hj => by rw [Nat.zero_add]; exact r.cell hj) (cells_one encS_one l)).mono ?_
    rintro e w' ⟨v', rfl, hown, hne, hb⟩
    rcases hown.2 with ⟨h', _⟩ | ⟨g, cap, cur, rfl, hbg, hg, hnc, hcm, hcs, htake⟩
    · exact absurd h' hne
    · obtain ⟨r, hl2, q, -⟩ := row_of hown
      exact ⟨_, cap, rfl, ⟨hl2, q, .inr ⟨g, rfl, hbg, r⟩⟩, hb⟩
set_option maxRecDepth 100000 in
set_option maxHeartbeats 4000000 in
/-- List -/
theorem qlist_is {F : Nat → Prop} (w : World) (q : Nat) (L : List It) (H : QIn F w q L) (hl : L.length ≤ 700000) : Calls Try.prog 48 #[.pointer (some ⟨q, 0, none⟩)] w fun e w' => ∃ A c, e = .returned (.slice A L.length c) ∧ SpAt w' A L.length L ∧ (A = none → c = 0) ∧ (∀ g o, A = some ⟨g, o, none⟩ → w.heap.size ≤ g) ∧ Below w.heap.size w w' := by
  obtain ⟨h, A, c, H, Q⟩ := H
  have c0 := H.c0
  have CL := Lib.hid (cloneQ_is w A c h H.rows (by rw [Q.len]; omega))
  have QH := Lib.hid Q
  have LN := Lib.hid Q.len
  clear H Q
  go_enter Try.func48, Try.ntmps48
  go_wp2_with fail
  refine CL.out.mono ?_
  rintro e w1 ⟨A1, c1, rfl, R1, b1⟩
  rcases R1.2.2 with ⟨rfl, rfl⟩ | ⟨g, rfl, hg, r⟩
  · have e0 : h.length = 0 := by have := R1.2.1; omega
    have eL : L = [] := List.length_eq_zero_iff.1 (by rw [← LN.out]; exact e0)
    subst eL
    have B1 := Lib.hid b1
    have SN := Lib.hid (sortQ_nil 0 (.func (.func 82) #[] #[]) w1)
    rw [e0]
    clear R1 b1 CL e0 c0
    go_wp2_with fail
    refine SN.out.mono ?_
    rintro e w2 ⟨rfl, rfl⟩
    go_wp2
    go_ret
    exact ⟨none, 0, rfl, SpAt.nil _ _, fun _ => rfl, (fun g o e => by cases e), B1.out⟩
  · have SQ := Lib.hid (sortQ_is w1 g c1 h L r QH.out.srt QH.out.perm (by rw [LN.out]; omega))
    have B1 := Lib.hid b1
    have HG := Lib.hid hg
    clear R1 b1 CL r c0 hg
    go_wp2_with fail
    refine SQ.out.mono ?_
    rintro e w2 ⟨rfl, s2, k2⟩
    have S2 := Lib.hid s2
    have B2 := Lib.hid (show Below w.heap.size w w2 from B1.out.trans (k2.below B1.out.size fun k e => e ▸ HG.out))
    clear s2 k2 SQ
    go_wp2
    go_ret
    refine ⟨some ⟨g, 0, none⟩, c1, ?_, S2.out, ?_, ?_, B2.out⟩
    · rw [← LN.out]; rfl
    · intro h; cases h
    · intro g' o e
      injection e with e
      injection e with e
      exact e ▸ HG.out
set_option maxRecDepth 100000 in
set_option maxHeartbeats 4000000 in
/-- Copy -/
theorem qcopy_is {F : Nat → Prop} (w : World) (q : Nat) (L : List It) (H : QIn F w q L) (hl : L.length ≤ 700000) : Calls Try.prog 43 #[.pointer (some ⟨q, 0, none⟩)] w fun e w' => ∃ q', e = .returned (.pointer (some ⟨q', 0, none⟩)) ∧ QIn (fun k => w.heap.size ≤ k) w' q' L ∧ Below w.heap.size w w' := by
  obtain ⟨h, A, c, H, Q⟩ := H
  have c0 := H.c0
  have CL := Lib.hid (cloneQ_is w A c h H.rows (by rw [Q.len]; omega))
  have QH := Lib.hid Q
  clear H Q
  go_enter Try.func43, Try.ntmps43
  go_wp2_with fail
  refine CL.out.mono ?_
  rintro e w1 ⟨A1, c1, rfl, R1, b1⟩
  have RH := Lib.hid R1
  have B1 := Lib.hid b1
  clear R1 b1 CL c0
  go_wp2
  go_ret
  refine ⟨w1.heap.size, rfl, ⟨h, A1, c1, ⟨?_, B1.out.size, RH.out.on (Kp.of' (below_alloc w1 _)) fun _ _ _ p => p⟩, QH.out⟩, B1.out.trans ((below_alloc w1 _).mono B1.out.size)⟩
  exact new_row w1 108 1 1 1 #[.slice A1 h.length c1] #[] rfl (by unfold maxLen; decide)
/-- Drop's closure -/
theorem drop1_is (x : It) (id : Int) (b : Nat) (W : World) (h : W.cell? ⟨b, 0, none⟩ = some (.int .i64 id)) : Calls Try.prog 74 #[.agg #[.int .i64 x.1, .int .i64 x.2], .pointer (some ⟨b, 0, none⟩)] W fun e w' => e = .returned (.bool (decide (x.2 = id))) ∧ Below W.heap.size W w' := by
  have bl : b < W.heap.size := World.block_lt_of_cell? _ _ h
  have ne : ¬ W.heap.size = b := by omega
  obtain ⟨x1, x2⟩ := x
  go_enter Try.func74, Try.ntmps74
  go_wp2
  go_ret
  exact ⟨rfl, below_alloc _ _⟩
def dropL (id : Int) (L : List It) : List It := L.filter fun x => !decide (x.2 = id)
set_option maxRecDepth 100000 in
set_option maxHeartbeats 4000000 in
/-- Drop -/
theorem qdrop_is {F : Nat → Prop} (w : World) (q : Nat) (L : List It) (id : Int) (H : QIn F w q L) (hl : L.length ≤ 700000) : Calls Try.prog 41 #[.pointer (some ⟨q, 0, none⟩), .int .i64 id] w fun e w' => e = .returned (.int .i64 ((L.length - (dropL id L).length : Nat) : Int)) ∧ QIn F w' q (dropL id L) ∧ Kp F w w' := by
  obtain ⟨h, A, c, H, Q⟩ := H
  obtain ⟨w0, hw0⟩ : ∃ w0 : World, w0 = w.alloc (.cells #[.int .i64 id] 3) := ⟨_, rfl⟩
  have b0 : Below w.heap.size w w0 := hw0 ▸ below_alloc _ _
  have i0 : w0.cell? ⟨w.heap.size, 0, none⟩ = some (.int .i64 id) := by rw [hw0]; simp
  have il : w.heap.size < w0.heap.size := by rw [hw0]; simp
  have H0 := H.below b0
  have c0 := H0.c0
  have ql := H0.box.lt
  have ql0 := H.box.lt
  have LN := Lib.hid Q.len
  have QQ := Lib.hid Q
  have B0 := Lib.hid b0
  have le2 : (h.filter fun x => !decide (x.2 = id)).length = (dropL id L).length := (Q.perm.filter _).length_eq
  have le1 : (dropL id L).length ≤ L.length := List.length_filter_le _ _
  have LE := Lib.hid le2
  have W1 : IntKind.i64.wrap ((L.length : Int) - (dropL id L).length) = ((L.length - (dropL id L).length : Nat) : Int) := by rw [IntWalk.i64_in _ (by omega)]; omega
  -- what the store and Init leave
  have FI := Lib.hid (show ∀ (w2 : World) (A' : Option Addr) (c' : Nat), Kp F w0 w2 → RowIs w2 q 108 1 1 [.slice A h.length c] → RowF F w2 70 2 A' (dropL id L).length c' (cellsL Iv.encS (h.filter fun x => !decide (x.2 = id))) → (∀ g, A' = some ⟨g, 0, none⟩ → g ≠ q) →
      Hid (QF F (w2.setCell ⟨q, 0, none⟩ (.slice A' (dropL id L).length c')) q (h.filter fun x => !decide (x.2 = id)) A' c' ∧ Kp F w (w2.setCell ⟨q, 0, none⟩ (.slice A' (dropL id L).length c'))) from fun w2 A' c' k2 bx2 r2 hg => by
    obtain ⟨box3, k3⟩ := bx2.setCell 0 (by simp) (.slice A' (dropL id L).length c')
    refine Lib.hid ⟨⟨by rw [LE.out]; exact box3, H.foot, ?_⟩, ((Kp.of B0.out).trans k2).trans (k3.mono fun k e => e ▸ H.foot)⟩
    rw [LE.out]
    refine ⟨r2.1, r2.2.1, ?_⟩
    rcases r2.2.2 with x | ⟨g, e, f, r⟩
    · exact .inl x
    · exact .inr ⟨g, e, f, r.kp k3 (hg g e)⟩)
  have IN := Lib.hid (fun (w3 : World) (A' : Option Addr) (c' : Nat) (Q3 : QF F w3 q (h.filter fun x => !decide (x.2 = id)) A' c') => hinit_is w3 q _ A' c' Q3 (by rw [LE.out]; omega))
  have EN := Lib.hid (show ∀ (w4 : World) (h' : List It) (A' : Option Addr) (c' : Nat), QF F w4 q h' A' c' → h'.Perm (h.filter fun x => !decide (x.2 = id)) → HeapFrom h' h'.length 0 → w4.cell? ⟨q, 0, none⟩ = some (.slice A' (dropL id L).length c') ∧ QIn F w4 q (dropL id L) from fun w4 h' A' c' Q4 p4 hp4 =>
    ⟨by have := Q4.c0; rwa [p4.length_eq, LE.out] at this, h', A', c', Q4, QQ.out.some p4 hp4⟩)
  rw [Q.len] at c0
  rcases H0.rows.2.2 with ⟨rfl, rfl⟩ | ⟨g, rfl, fg, r⟩
  · have e0 : h.length = 0 := by have := H0.rows.2.1; omega
    have hn : h = [] := List.length_eq_zero_iff.1 e0
    have eL : L.length = 0 := by rw [← LN.out]; exact e0
    have eD : (dropL id L).length = 0 := by omega
    have f0 := H0.box.frozen 0
    have F2 := FI.out w0 none 0 (Kp.refl _ _) H0.box ⟨by rw [hn]; simp [cellsL]; omega, by omega, .inl ⟨rfl, rfl⟩⟩ (fun g e => by cases e)
    have DN := Lib.hid (fun fv => delQ_nil fv w0)
    rw [eL] at c0 W1 ⊢
    rw [eD] at F2 EN W1 ⊢
    clear H0 H Q FI b0 le1 le2 e0
    go_enter Try.func41, Try.ntmps41
    go_upto_region 1 with fail
    rw [← hw0]
    clear hw0
    go_wp2_with fail
    refine (DN.out _).mono ?_
    rintro e w1 ⟨rfl, rfl⟩
    go_wp2_with fail
    refine (IN.out _ _ _ F2.out.1).mono ?_
    rintro e w4 ⟨rfl, ⟨h', Q4, p4, hp4⟩, k4⟩
    obtain ⟨c4, R4⟩ := EN.out w4 h' _ _ Q4 p4 hp4
    have FN := Lib.hid (show QIn F w4 q (dropL id L) ∧ Kp F w w4 from ⟨R4, F2.out.2.trans k4⟩)
    clear Q4 p4 hp4 k4 R4 F2
    go_wp2
    go_ret
    exact ⟨rfl, FN.out⟩
  · have qg : q ≠ g := H0.box.ne r (by decide)
    have gw : g ≠ w.heap.size := fun e => by
      rcases H.rows.2.2 with ⟨e2, -⟩ | ⟨g', e2, -, r'⟩
      · cases e2
      · injection e2 with e2
        injection e2 with e2
        have := r'.lt
        omega
    have eg : ∀ args w, (callFunc 74 args).run Try.prog w = .ok (.enter 74 args) w := enters_of Try.func74 (by kernel_rfl) rfl
    have DL := Lib.hid (delQ_is w0 g h.length c h (fun x => decide (x.2 = id)) 74 #[.pointer (some ⟨w.heap.size, 0, none⟩)] eg r rfl H0.rows.2.1 (by rw [LN.out]; omega) (fun W x k => drop1_is x id w.heap.size W ((k.cell (o := 0) il (fun e => gw e.symm)).trans i0)))
    have BX := Lib.hid H0.box
    have cp := H0.rows.2.1
    have FGH := Lib.hid fg
    rw [LE.out, LN.out] at DL
    rw [LN.out] at cp
    clear H0 H Q b0 r fg
    go_enter Try.func41, Try.ntmps41
    go_upto_region 1 with fail
    rw [← hw0]
    clear hw0
    go_wp2_with fail
    refine DL.out.mono ?_
    rintro e w1 ⟨rfl, r1, k1⟩
    have bx1 := BX.out.kp k1 qg
    have s0 : w1.cell? ⟨q, 0, none⟩ = some (.slice (some ⟨g, 0, none⟩) h.length c) := bx1.cell rfl
    have f0 := bx1.frozen 0
    have F2 := FI.out w1 (some ⟨g, 0, none⟩) c (k1.mono fun k e => e ▸ FGH.out) bx1 ⟨by rw [cells_len (k := 2) (fun _ => rfl), LE.out], by omega, .inr ⟨g, rfl, FGH.out, r1⟩⟩ (fun g' e => by injection e with e; injection e with e; subst e; exact fun e => qg e.symm)
    clear r1 k1 bx1 DL FI c0 i0
    go_wp2_with fail
    refine (IN.out _ _ _ F2.out.1).mono ?_
    rintro e w4 ⟨rfl, ⟨h', Q4, p4, hp4⟩, k4⟩
    obtain ⟨c4, R4⟩ := EN.out w4 h' _ _ Q4 p4 hp4
    have FN := Lib.hid (show QIn F w4 q (dropL id L) ∧ Kp F w w4 from ⟨R4, F2.out.2.trans k4⟩)
    clear Q4 p4 hp4 k4 R4 F2
    go_wp2
    go_ret
    exact ⟨rfl, FN.out⟩
end Go.Proofs.Ytjodhfehfpmfaaa.Ti
