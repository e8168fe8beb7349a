/- The walk of voklaw13.FrameBack. -/
import Derived.Test.YtdaabjoiokgjlaaDoorFrBk
set_option linter.unusedVariables false
namespace Go.Proofs.YtdaabjoiokgjlaaDoor.Fr
open Go.RowKit

theorem take_all {α : Type} {l : List α} {n : Nat} (h : l.length = n) : l.take n = l := List.take_of_length_le (by omega)
set_option maxRecDepth 100000 in
set_option maxHeartbeats 8000000 in
theorem back_walk (W : World) (T : Tab W) (A : Option Addr) (n c : Nat) (S : List SlB) (x : Int) (h : LsAt W A n S) (hn : n ≤ 9223372036854775807) (hS : ∀ s ∈ S, s.c ≤ 9223372036854775807) (l1 : -9223372036854775808 ≤ x) (u1 : x ≤ 9223372036854775807) :
    Calls Tryd.prog 5 #[.slice A n c, .int .i64 x] W fun e w' => e = .returned (.bool true) ∧ Below W.heap.size W w' := by
  have SL := Lib.hid h.1
  have SM := Lib.hid hS
  have H := Lib.hid h
  have O := Lib.hid (Own.refl T)
  have TW := Lib.hid T
  clear h hS T
  go_enter Tryd.func5, Tryd.ntmps5
  go_wp2_with fail
  refine O.out.first.mono ?_
  rintro e w0 ⟨rfl, o0, b0⟩
  have O0 := Lib.hid o0
  have C1 := few_is w0 A n c S (H.out.below b0) hn SM.out
  clear o0 b0
  cases hf : fewB S n with
  | false =>
    rw [hf] at C1
    go_wp2_with fail
    refine C1.mono ?_
    rintro e w1 ⟨rfl, rfl⟩
    clear C1
    go_wp2_with fail
    refine O0.out.first.mono ?_
    rintro e w2 ⟨rfl, o2, b2⟩
    have G := Lib.hid o2.at_
    clear o2 b2
    go_wp2
    go_ret
    exact ⟨rfl, G.out⟩
  | true =>
    rw [hf] at C1
    have hf2 := of_decide_eq_true (show decide (n ≤ 300 ∧ sumK S (min n 300) ≤ 20000) = true from hf)
    obtain ⟨hn3, hs2⟩ := hf2
    rw [Nat.min_eq_left hn3] at hs2
    have HS := Lib.hid hs2
    clear hf hs2
    go_wp2_with fail
    refine C1.mono ?_
    rintro e w1 ⟨rfl, rfl⟩
    clear C1
    go_wp2
    go_loopw [5, 6, 7, 8] (fun vb vi ve i wr => ∃ t : Nat, t ≤ n ∧ i = .int .i64 t ∧ BackI W S t wr vb vi ve) (fun _ _ _ i _ => n - (intOf i).toNat)
    case atStart => exact ⟨0, Nat.zero_le _, rfl, BackI.start S O0.out⟩
    case round =>
      obtain ⟨t, ht, rfl, hI⟩ := hrel
      have HI := Lib.hid hI
      clear hI
      by_cases hlt : t < n
      · have htS : t < S.length := by rw [← SL.out]; exact hlt
        obtain ⟨b, off, rfl, hc⟩ := ls_cell H.out hlt
        have HC := Lib.hid hc
        clear hc
        have d0 := (HC.out _ HI.out.o.at_).1
        obtain ⟨-, s1, s2, s3⟩ := HC.out _ HI.out.o.at_
        have hk8 := (sumK_has S hlt HS.out).1
        have YES := Lib.hid (fun q => keepS_yes htS q)
        have NO := Lib.hid (fun q => keepS_no htS q)
        have MEM := Lib.hid (show gt S t ∈ S from gt_mem htS)
        have KL := keepS_len S t
        have FL := frames_len (S := S) (n := n) (by rw [← SL.out]; exact Nat.le_refl _) (fun j hj => by obtain ⟨b', off', e, q⟩ := ls_cell H.out hj; exact (q W (Below.refl _ _)).2.1.1) HS.out t ht
        have FK := sumK_mono S (a := t) (b := n) ht
        have hfl : (framesL (bytesS (keepS S t))).length ≤ 30000 := by have := HS.out; omega
        clear FL FK
        obtain ⟨s, hs⟩ : ∃ s, gt S t = s := ⟨_, rfl⟩
        rw [hs] at d0 s1 s2 s3 hk8 YES NO MEM HC
        obtain ⟨sA, sk, sc, sl⟩ := s
        simp only at d0 s1 s2 s3 hk8 YES NO
        have C2 := put_is wr sA sk sc sl HI.out.o.tab s1 s3 (by omega)
        have SK := Lib.hid s1.1
        clear s1
        unfold PutR at C2
        by_cases h8 : sk ≤ 8192
        · have h8l : sl.length ≤ 8192 := by rw [← SK.out]; exact h8
          rw [show putE sl = 0 by unfold putE; rw [if_pos h8l], show putV sl = frameL sl by unfold putV; rw [if_pos h8l]] at C2
          go_wp2_with fail
          refine C2.mono ?_
          rintro e w2 ⟨v2, rfl, o2, b2⟩
          clear C2
          have d2 := (HC.out _ (HI.out.o.on b2).at_).1
          have hl2 : (frameL sl).length = sk + 6 := by rw [frameL_len, ← SK.out]; omega
          rcases o2.form with ⟨-, q⟩ | ⟨g2, c2, rfl, a2, hg2, hgw2, hc2⟩
          · rw [q, List.length_nil] at hl2; omega
          · rw [hl2] at a2 hc2 ⊢
            have A2 := Lib.hid a2
            have HI2 := Lib.hid (HI.out.on b2)
            clear o2 b2 a2
            have q8 : (sk : Int) ≤ 8192 := by omega
            go_wp2
            have EA := Lib.hid (show SlB.val ⟨sA, sk, sc, sl⟩ = .slice sA sk sc from rfl)
            have D0 : Below W.heap.size W w2.drew := HI2.out.o.at_.trans (((Below.refl w2.heap.size w2).drew).mono HI2.out.o.at_.size)
            have DD : Below w2.heap.size w2 w2.drew := (Below.refl _ _).drew
            have HI3 := HI2.out.on DD
            have A3 := A2.out.below DD
            have i5 : (t : Int) < n := by omega
            refine wp_region_late (fun _ => false) (fun v => Below W.heap.size W v) (by kernel_rfl) ?_
            refine tk 0 rfl (u5) (.inl ⟨rfl, fun w' hs => ?_⟩) D0 ?_
            ·
              go_simp
            refine tk 1 rfl (.slice (some ⟨g2, 0, none⟩) (sk + 6) c2) (.inl ⟨rfl, fun w' hs => ?_⟩) D0 ?_
            ·
              go_simp
            refine tk 3 rfl (u6) (.inl ⟨rfl, fun w' hs => ?_⟩) D0 ?_
            ·
              go_simp
            refine tk 4 rfl (.slice (some ⟨b, off, none⟩) n c) (.inl ⟨rfl, fun w' hs => ?_⟩) D0 ?_
            ·
              go_simp
            refine tk 5 rfl (.int .i64 (t : Int)) (.inl ⟨rfl, fun w' hs => ?_⟩) D0 ?_
            ·
              go_simp
            refine tk 6 rfl (.pointer (some ⟨b, off + t, none⟩)) (.inl ⟨rfl, fun w' hs => ?_⟩) D0 ?_
            ·
              go_simp
            refine tk 7 rfl (.slice sA sk sc) (.inl ⟨rfl, fun w' hs => ?_⟩) D0 ?_
            ·
              have z0 := (HC.out w' hs).1
              go_simp
            refine Late.two 2 8 rfl rfl (by kernel_rfl) rfl rfl ?_ ?_
            · refine wp_bs (B := W.heap.size) (.tmp 63) (.tmp 64) rfl u5 (framesL (bytesS (keepS S t))) (by go_simp) HI3.b D0.size g2 0 (sk + 6) c2 (frameL sl) (by go_simp) A3 (by omega) fun v5 w5 o5 g5 => ?_
              have B5 : Below W.heap.size W w5 := D0.trans (grown_below HI3.b g5 D0.size)
              have RI5 : RowV W.heap.size w5 u6 (keepS S t) := World.ownsRow.kept HI3.i g5 (row_ne HI3.i HI3.b (by decide))
              have RE5 : RowI W.heap.size w5 u7 (endsL (bytesS (keepS S t))) := World.ownsRow.kept HI3.e g5 (row_ne HI3.e HI3.b (by decide))
              refine ⟨.inr B5, ?_⟩
              refine Late.one 8 rfl (by kernel_rfl) rfl ?_
              go_simp
              have al := below_alloc w5 (.cells #[.slice sA sk sc] 22)
              have BE : Below W.heap.size W (w5.alloc (.cells #[.slice sA sk sc] 22)) := B5.trans (al.mono B5.size)
              refine ⟨BE, ?_⟩
              have OB := o5.on al
              have RI : RowV W.heap.size _ u6 (keepS S t) := row_on RI5 al
              have RE : RowI W.heap.size _ u7 (endsL (bytesS (keepS S t))) := row_on RE5 al
              have CE : (w5.alloc (.cells #[.slice sA sk sc] 22)).cell? ⟨w5.heap.size, 0, none⟩ = some (SlB.val ⟨sA, sk, sc, sl⟩) := by rw [World.cell?_alloc_new]; rfl
              refine Late.one 9 rfl (by kernel_rfl) rfl ?_
              refine wp_rv (B := W.heap.size) (.tmp 66) (.tmp 71) rfl u6 (keepS S t) (by go_simp) RI BE.size ⟨sA, sk, sc, sl⟩ w5.heap.size 1 (by go_simp) CE (by omega) fun v6 w6 o6 g6 => ?_
              have OB6 : OwnB W.heap.size w6 v5 (framesL (bytesS (keepS S t)) ++ frameL sl) := OB.grown g6 (row_ne OB RI (by decide))
              have OE6 : RowI W.heap.size w6 u7 (endsL (bytesS (keepS S t))) := World.ownsRow.kept RE g6 (row_ne RE RI (by decide))
              have B6 : Below W.heap.size W w6 := BE.trans (grown_below RI g6 BE.size)
              clear OB RI RE CE BE o5 g5
              refine ⟨.inr B6, ?_⟩
              refine Late.one 10 rfl (by kernel_rfl) rfl ?_
              go_simp
              refine Late.one 11 rfl (by kernel_rfl) rfl ?_
              go_simp
              refine ⟨by kernel_rfl, ?_⟩
              have NX := Lib.hid (YES.out h8l)
              have FIN := Lib.hid (show ∀ v7 w7, RowI W.heap.size w7 v7 (endsL (bytesS (keepS S t)) ++ [((framesL (bytesS (keepS S t)) ++ frameL sl).length : Int)]) → Below W.heap.size w6 w7 → OwnB W.heap.size w7 v5 (framesL (bytesS (keepS S t)) ++ frameL sl) → RowV W.heap.size w7 v6 (keepS S t ++ [⟨sA, sk, sc, sl⟩]) → BackI W S (t + 1) w7 v5 v6 v7 from fun v7 w7 r7 b7 q7 q8 => by
                have e1 : bytesS (keepS S (t + 1)) = bytesS (keepS S t) ++ [sl] := by rw [NX.out, bytesS_app]; rfl
                have ow : Own W w7 := ⟨B6.trans b7, TW.out.on (B6.trans b7)⟩
                refine ⟨by rw [e1, framesL_snoc]; exact q7, by rw [NX.out]; exact q8, ?_, ow⟩
                rw [e1, endsL_snoc, framesL_snoc]
                exact r7)
              have LN : (framesL (bytesS (keepS S t)) ++ frameL sl).length ≤ 40000 := by rw [List.length_append, hl2]; omega
              obtain ⟨A7, c7, rfl, -, k7, z7⟩ := OB6.atN (n := (framesL (bytesS (keepS S t)) ++ frameL sl).length) rfl
              generalize hLL : (framesL (bytesS (keepS S t)) ++ frameL sl).length = LL at *
              have O6 := Lib.hid OB6
              have V6 := Lib.hid o6
              have E6 := Lib.hid OE6
              have H6 := Lib.hid B6
              clear OB6 o6 OE6 B6 g6
              have EL := endsL_len (bytesS (keepS S t))
              rw [bytesS_len] at EL
              go_wp2_with (at_builtin; refine append_int rfl _ _ rfl u7 _ rfl E6.out H6.out.size (LL : Int) _ 1 rfl (by omega) ?_)
              intro v8 w8 o8 g8
              have x0 : W.heap.size ≤ (w6.alloc (.cells #[.int .i64 (LL : Int)] 3)).heap.size := by have := H6.out.size; simp; omega
              have g9 := grown_below (row_on E6.out (below_alloc w6 (.cells #[.int .i64 (LL : Int)] 3))) g8 x0
              have b8 : Below W.heap.size w6 w8 := ((below_alloc w6 (.cells #[.int .i64 (LL : Int)] 3)).mono H6.out.size).trans g9
              have qb := (O6.out.on (below_alloc w6 (.cells #[.int .i64 (LL : Int)] 3)))
              have qv := (row_on V6.out (below_alloc w6 (.cells #[.int .i64 (LL : Int)] 3)))
              have ee := (row_on E6.out (below_alloc w6 (.cells #[.int .i64 (LL : Int)] 3)))
              have FX := Lib.hid (FIN.out v8 w8 o8 b8 (OwnB.grown qb g8 (row_ne qb ee (by decide))) (World.ownsRow.kept qv g8 (row_ne qv ee (by decide))))
              clear o8 g8 x0 g9 b8 qb qv ee
              go_wp2
              go_roundw
              case rel => exact ⟨t + 1, by omega, by go_num, FX.out⟩
              case measure => simp [intOf]; omega
            · go_simp
              have al := below_alloc w2.drew (.cells #[.slice sA sk sc] 22)
              have B4 : Below W.heap.size W (w2.drew.alloc (.cells #[.slice sA sk sc] 22)) := D0.trans (al.mono D0.size)
              have HI4 := HI3.on al
              have A4 := A3.below al
              have C4 : (w2.drew.alloc (.cells #[.slice sA sk sc] 22)).cell? ⟨w2.heap.size, 0, none⟩ = some (SlB.val ⟨sA, sk, sc, sl⟩) := (World.cell?_alloc_new w2.drew _ _ 0).trans rfl
              refine ⟨B4, ?_⟩
              refine Late.one 2 rfl (by kernel_rfl) rfl ?_
              refine wp_bs (B := W.heap.size) (.tmp 63) (.tmp 64) rfl u5 (framesL (bytesS (keepS S t))) (by go_simp) HI4.b B4.size g2 0 (sk + 6) c2 (frameL sl) (by go_simp) A4 (by omega) fun v5 w5 o5 g5 => ?_
              have BE : Below W.heap.size W w5 := B4.trans (grown_below HI4.b g5 B4.size)
              have RI : RowV W.heap.size w5 u6 (keepS S t) := World.ownsRow.kept HI4.i g5 (row_ne HI4.i HI4.b (by decide))
              have RE : RowI W.heap.size w5 u7 (endsL (bytesS (keepS S t))) := World.ownsRow.kept HI4.e g5 (row_ne HI4.e HI4.b (by decide))
              have OB := o5
              have CE : w5.cell? ⟨w2.heap.size, 0, none⟩ = some (SlB.val ⟨sA, sk, sc, sl⟩) := by
                refine (World.cell?_of_block (w := w2.drew.alloc (.cells #[.slice sA sk sc] 22)) (g5.block w2.heap.size (by simp) fun q => ?_)).trans C4
                have := (World.ownsRow.lt HI3.b w2.heap.size q.symm).2
                exact absurd this (Nat.lt_irrefl _)
              refine ⟨.inr BE, ?_⟩
              refine Late.one 9 rfl (by kernel_rfl) rfl ?_
              refine wp_rv (B := W.heap.size) (.tmp 66) (.tmp 71) rfl u6 (keepS S t) (by go_simp) RI BE.size ⟨sA, sk, sc, sl⟩ w2.heap.size 1 (by go_simp) CE (by omega) fun v6 w6 o6 g6 => ?_
              have OB6 : OwnB W.heap.size w6 v5 (framesL (bytesS (keepS S t)) ++ frameL sl) := OB.grown g6 (row_ne OB RI (by decide))
              have OE6 : RowI W.heap.size w6 u7 (endsL (bytesS (keepS S t))) := World.ownsRow.kept RE g6 (row_ne RE RI (by decide))
              have B6 : Below W.heap.size W w6 := BE.trans (grown_below RI g6 BE.size)
              clear OB RI RE CE BE o5 g5
              refine ⟨.inr B6, ?_⟩
              refine Late.one 10 rfl (by kernel_rfl) rfl ?_
              go_simp
              refine Late.one 11 rfl (by kernel_rfl) rfl ?_
              go_simp
              refine ⟨by kernel_rfl, ?_⟩
              have NX := Lib.hid (YES.out h8l)
              have FIN := Lib.hid (show ∀ v7 w7, RowI W.heap.size w7 v7 (endsL (bytesS (keepS S t)) ++ [((framesL (bytesS (keepS S t)) ++ frameL sl).length : Int)]) → Below W.heap.size w6 w7 → OwnB W.heap.size w7 v5 (framesL (bytesS (keepS S t)) ++ frameL sl) → RowV W.heap.size w7 v6 (keepS S t ++ [⟨sA, sk, sc, sl⟩]) → BackI W S (t + 1) w7 v5 v6 v7 from fun v7 w7 r7 b7 q7 q8 => by
                have e1 : bytesS (keepS S (t + 1)) = bytesS (keepS S t) ++ [sl] := by rw [NX.out, bytesS_app]; rfl
                have ow : Own W w7 := ⟨B6.trans b7, TW.out.on (B6.trans b7)⟩
                refine ⟨by rw [e1, framesL_snoc]; exact q7, by rw [NX.out]; exact q8, ?_, ow⟩
                rw [e1, endsL_snoc, framesL_snoc]
                exact r7)
              have LN : (framesL (bytesS (keepS S t)) ++ frameL sl).length ≤ 40000 := by rw [List.length_append, hl2]; omega
              obtain ⟨A7, c7, rfl, -, k7, z7⟩ := OB6.atN (n := (framesL (bytesS (keepS S t)) ++ frameL sl).length) rfl
              generalize hLL : (framesL (bytesS (keepS S t)) ++ frameL sl).length = LL at *
              have O6 := Lib.hid OB6
              have V6 := Lib.hid o6
              have E6 := Lib.hid OE6
              have H6 := Lib.hid B6
              clear OB6 o6 OE6 B6 g6
              have EL := endsL_len (bytesS (keepS S t))
              rw [bytesS_len] at EL
              go_wp2_with (at_builtin; refine append_int rfl _ _ rfl u7 _ rfl E6.out H6.out.size (LL : Int) _ 1 rfl (by omega) ?_)
              intro v8 w8 o8 g8
              have x0 : W.heap.size ≤ (w6.alloc (.cells #[.int .i64 (LL : Int)] 3)).heap.size := by have := H6.out.size; simp; omega
              have g9 := grown_below (row_on E6.out (below_alloc w6 (.cells #[.int .i64 (LL : Int)] 3))) g8 x0
              have b8 : Below W.heap.size w6 w8 := ((below_alloc w6 (.cells #[.int .i64 (LL : Int)] 3)).mono H6.out.size).trans g9
              have qb := (O6.out.on (below_alloc w6 (.cells #[.int .i64 (LL : Int)] 3)))
              have qv := (row_on V6.out (below_alloc w6 (.cells #[.int .i64 (LL : Int)] 3)))
              have ee := (row_on E6.out (below_alloc w6 (.cells #[.int .i64 (LL : Int)] 3)))
              have FX := Lib.hid (FIN.out v8 w8 o8 b8 (OwnB.grown qb g8 (row_ne qb ee (by decide))) (World.ownsRow.kept qv g8 (row_ne qv ee (by decide))))
              clear o8 g8 x0 g9 b8 qb qv ee
              go_wp2
              go_roundw
              case rel => exact ⟨t + 1, by omega, by go_num, FX.out⟩
              case measure => simp [intOf]; omega
        · have h8l : ¬ sl.length ≤ 8192 := by rw [← SK.out]; exact h8
          rw [show putE sl = 3 by unfold putE; rw [if_neg h8l], show putV sl = [] by unfold putV; rw [if_neg h8l]] at C2
          go_wp2_with fail
          refine C2.mono ?_
          rintro e w2 ⟨v2, rfl, o2, b2⟩
          clear C2
          have d2 := (HC.out _ (HI.out.o.on b2).at_).1
          have q8 : ¬ (sk : Int) ≤ 8192 := by omega
          have HI2 := HI.out.on b2
          have HX := Lib.hid (show BackI W S (t + 1) w2 u5 u6 u7 from ⟨by rw [NO.out h8l]; exact HI2.b, by rw [NO.out h8l]; exact HI2.i, by rw [NO.out h8l]; exact HI2.e, HI2.o⟩)
          clear o2 b2 HI2
          go_wp2
          go_roundw
          case rel => exact ⟨t + 1, by omega, by go_num, HX.out⟩
          case measure => simp [intOf]; omega
      · obtain rfl : t = n := by omega
        obtain ⟨R, hR⟩ : ∃ R, keepS S t = R := ⟨_, rfl⟩
        have KL := keepS_len S t
        have FL := frames_len (S := S) (n := t) (by rw [← SL.out]; exact Nat.le_refl _) (fun j hj => by obtain ⟨b', off', e, q⟩ := ls_cell H.out hj; exact (q W (Below.refl _ _)).2.1.1) HS.out t (Nat.le_refl _)
        have hb := HI.out.b
        have hi := HI.out.i
        have he := HI.out.e
        have OW := Lib.hid HI.out.o
        have ML := Lib.hid (fun (s : SlB) (q : s ∈ R) => show s ∈ S ∧ s.l.length ≤ 8192 from keepS_mem (hR ▸ q))
        rw [hR] at KL FL hb hi he
        have each : ∀ v, Below W.heap.size W v → ∀ s ∈ R, BsAt v s.A s.k s.l ∧ s.k ≤ s.c ∧ (s.A = none → s.c = 0) := fun v hv s q => by
          obtain ⟨j, hj, e⟩ := List.mem_iff_getElem.1 (ML.out s q).1
          have hjt : j < t := by rw [SL.out]; exact hj
          obtain ⟨b', off', -, z⟩ := ls_cell H.out hjt
          have zz := (z v hv).2
          rw [show gt S j = s by rw [gt_lt hj, e]] at zz
          exact zz
        have EACH := Lib.hid each
        have short : ∀ p ∈ bytesS R, p.length ≤ 8192 := fun p q => by
          obtain ⟨s, hs, rfl⟩ := List.mem_map.1 q
          exact (ML.out s hs).2
        have SH := Lib.hid short
        have SA := scan_all short
        have LE := endsL_len (bytesS R)
        have LB := bytesS_len R
        have HRI := Lib.hid hi
        have HEI := Lib.hid he
        obtain ⟨L, hL⟩ : ∃ L, (framesL (bytesS R)).length = L := ⟨_, rfl⟩
        obtain ⟨A1, c1, rfl, a1, k1, x1, z1⟩ := hb.atC hL
        have A1' := Lib.hid a1
        have hL4 : L ≤ 30000 := by have := HS.out; omega
        have C5 := scan_is wr A1 L c1 _ OW.out.tab a1 k1 x1 (by omega)
        unfold ScanR at C5
        rw [SA, hL] at C5
        clear hb hi he each short SA a1 FL
        go_wp2_with fail
        refine C5.mono ?_
        rintro e w3 ⟨v3, S3, rfl, o3, e3, b3⟩
        clear C5
        have O3 := Lib.hid (OW.out.on b3)
        have RI3 : RowV W.heap.size w3 u6 R := row_on HRI.out b3
        have RE3 : RowI W.heap.size w3 u7 (endsL (bytesS R)) := row_on HEI.out b3
        have f3 := o3.few
        obtain ⟨A3, c3, rfl, a3, k3, z3⟩ := o3.at_
        obtain ⟨A4, c4, rfl, a4, k4, x4⟩ := RI3.at_ (EACH.out w3 O3.out.at_)
        have C6 := lists_is w3 A3 A4 _ c3 _ c4 S3 R a3 a4 f3 (by omega)
        rw [e3, show decide (bytesS R = bytesS R) = true from decide_eq_true rfl] at C6
        have LA4 := Lib.hid a4
        have B1 := Lib.hid (A1'.out.below b3)
        have RE := Lib.hid RE3
        clear o3 b3 RI3 RE3 a3 a4 e3
        go_wp2_with fail
        refine C6.mono ?_
        rintro e w4 ⟨rfl, b4⟩
        clear C6
        have O4 := Lib.hid (O3.out.on b4)
        have LB4 := Lib.hid (LA4.out.below b4)
        have B4 := Lib.hid (B1.out.below b4)
        have RE4 : RowI W.heap.size w4 u7 (endsL (bytesS R)) := row_on RE.out b4
        obtain ⟨A7, c7, rfl, cells⟩ := RE4.at_
        rw [LE, LB] at *
        have CL := Lib.hid cells
        clear b4 RE4 cells
        by_cases hx : 0 ≤ x ∧ x ≤ L
        · obtain ⟨q1, q2⟩ := hx
          obtain ⟨k, rfl⟩ := Int.eq_ofNat_of_zero_le q1
          have q3 : ¬ (k : Int) < 0 := by omega
          have q4 : ¬ (L : Int) < k := by omega
          go_wp2
          go_loop [13, 14] (fun i z => ∃ m E : Nat, m ≤ R.length ∧ i = .int .i64 m ∧ z = .int .i64 E ∧ (framesL ((bytesS R).take m)).length = E ∧ E ≤ k) (fun i _ => R.length - (intOf i).toNat)
          case atStart => exact ⟨0, 0, Nat.zero_le _, rfl, rfl, rfl, Nat.zero_le _⟩
          case round =>
            obtain ⟨m, E, hmR, rfl, rfl, hE, hEk⟩ := hrel
            by_cases hm : m < R.length
            · have s0 : (m : Int) < R.length := by omega
              obtain ⟨g7, rfl, hg7, cz⟩ := CL.out m _ (endsL_at (by rw [bytesS_len]; exact hm))
              obtain ⟨F, hF⟩ : ∃ F, (framesL ((bytesS R).take (m + 1))).length = F := ⟨_, rfl⟩
              rw [hF] at cz
              by_cases hFk : F ≤ k
              · have s1 : (F : Int) ≤ k := by omega
                go_wp2
                go_round
                case rel => exact ⟨m + 1, F, by omega, by go_num, rfl, hF, hFk⟩
                case measure => simp [intOf]; omega
              · have s1 : ¬ (F : Int) ≤ k := by omega
                have HEND : m = (bytesS R).length ∨ k < (framesL ((bytesS R).take (m + 1))).length := .inr (by rw [hF]; omega)
                have SC := scan_cut SH.out (c := k) (n := m) (by rw [hE]; exact hEk) HEND
                have TK := LB4.out.take hmR
                rw [hE] at SC
                have BT := B4.out.take (show k ≤ L by omega)
                have C8 := scan_is w4 A1 k c1 _ O4.out.tab BT (by omega) x1 (by omega)
                unfold ScanR at C8
                rw [SC] at C8
                clear SC BT
                go_wp2_with fail
                refine C8.mono ?_
                rintro e w5 ⟨v5, S5, rfl, o5, e5, b5⟩
                clear C8
                have O5 := Lib.hid (O4.out.on b5)
                have f5 := o5.few
                obtain ⟨A5, c5, rfl, a5, k5, z5⟩ := o5.at_
                have A5' := Lib.hid a5
                have TK5 := Lib.hid (TK.below b5)
                clear o5 b5 a5 TK
                go_wp2_with fail
                refine O5.out.first.mono ?_
                rintro e w6 ⟨rfl, o6, b6⟩
                have O6 := Lib.hid o6
                have C9 := fun cc => lists_is w6 A5 A4 _ c5 m cc S5 (R.take m) (A5'.out.below b6) (TK5.out.below b6) f5 (by omega)
                rw [e5, bytesS_take, show decide ((bytesS R).take m = (bytesS R).take m) = true from decide_eq_true rfl] at C9
                clear o6 b6 e5
                go_wp2_with fail
                refine (C9 _).mono ?_
                rintro e w7 ⟨rfl, b7⟩
                have G := Lib.hid (O6.out.on b7).at_
                clear C9 b7
                go_wp2
                go_ret
                exact ⟨rfl, G.out⟩
            · obtain rfl : m = R.length := by omega
              have HEND : R.length = (bytesS R).length ∨ k < (framesL ((bytesS R).take (R.length + 1))).length := .inl (bytesS_len R).symm
              have s0 : ¬ (R.length : Int) < R.length := by omega
              have SC := scan_cut SH.out (c := k) (n := R.length) (by rw [hE]; exact hEk) HEND
              have TK := LB4.out.take hmR
              rw [hE] at SC
              have BT := B4.out.take (show k ≤ L by omega)
              have C8 := scan_is w4 A1 k c1 _ O4.out.tab BT (by omega) x1 (by omega)
              unfold ScanR at C8
              rw [SC] at C8
              clear SC BT
              go_wp2_with fail
              refine C8.mono ?_
              rintro e w5 ⟨v5, S5, rfl, o5, e5, b5⟩
              clear C8
              have O5 := Lib.hid (O4.out.on b5)
              have f5 := o5.few
              obtain ⟨A5, c5, rfl, a5, k5, z5⟩ := o5.at_
              have A5' := Lib.hid a5
              have TK5 := Lib.hid (TK.below b5)
              clear o5 b5 a5 TK
              go_wp2_with fail
              refine O5.out.first.mono ?_
              rintro e w6 ⟨rfl, o6, b6⟩
              have O6 := Lib.hid o6
              have C9 := fun cc => lists_is w6 A5 A4 _ c5 R.length cc S5 (R.take R.length) (A5'.out.below b6) (TK5.out.below b6) f5 (by omega)
              rw [e5, bytesS_take, show decide ((bytesS R).take R.length = (bytesS R).take R.length) = true from decide_eq_true rfl] at C9
              clear o6 b6 e5
              go_wp2_with fail
              refine (C9 _).mono ?_
              rintro e w7 ⟨rfl, b7⟩
              have G := Lib.hid (O6.out.on b7).at_
              clear C9 b7
              go_wp2
              go_ret
              exact ⟨rfl, G.out⟩
        · by_cases hx0 : x < 0
          · go_wp2_with fail
            refine O4.out.first.mono ?_
            rintro e w5 ⟨rfl, o5, b5⟩
            have G := Lib.hid o5.at_
            clear o5 b5
            go_wp2
            go_ret
            exact ⟨rfl, G.out⟩
          · have q4 : (L : Int) < x := by omega
            go_wp2_with fail
            refine O4.out.first.mono ?_
            rintro e w5 ⟨rfl, o5, b5⟩
            have G := Lib.hid o5.at_
            clear o5 b5
            go_wp2
            go_ret
            exact ⟨rfl, G.out⟩
end Go.Proofs.YtdaabjoiokgjlaaDoor.Fr
