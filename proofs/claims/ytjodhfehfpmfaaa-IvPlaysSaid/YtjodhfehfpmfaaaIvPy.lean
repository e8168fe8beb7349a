/- The walk of voklaw10.IvPlays. -/
import Derived.Test.YtjodhfehfpmfaaaIvTk
import Derived.Test.YtjodhfehfpmfaaaIvFi
import Derived.Test.YtjodhfehfpmfaaaIvPl
import Derived.Test.YtjodhfehfpmfaaaIvRK
import Derived.Test.YtjodhfehfpmfaaaIvRC
set_option linter.unusedVariables false
namespace Go.Proofs.Ytjodhfehfpmfaaa.Iv
open Go.RowKit

theorem cut_small (lo hi : Int) (all : List Tg) : (cutL lo hi all).length ≤ all.length := by
  unfold cutL
  have := norm_len (all.map (cutT lo hi))
  rw [List.length_map] at this
  exact this
set_option maxRecDepth 100000 in
set_option maxHeartbeats 16000000 in
theorem plays_walk (w : World) (A : Option Addr) (n c : Nat) (ops : List OpR) (hA : OpAt w A n ops) (hm : n ≤ 9223372036854775807) :
    Calls Try.prog 4 #[.slice A n c] w fun e w' => e = .returned (.bool true) ∧ Below w.heap.size w w' := by
  have HA := Lib.hid hA
  have LN := Lib.hid hA.1
  have KL := Lib.hid hA.kl
  clear hA
  go_enter Try.func4, Try.ntmps4
  go_wp2_with fail
  refine (firstV _).mono ?_
  rintro e w0 ⟨rfl, b0⟩
  have B0 := Lib.hid b0
  have sz0 := b0.size
  clear b0
  go_wp2_with fail
  refine (new_is (F := fun k => w.heap.size ≤ k) w0 fun k h => Nat.le_trans sz0 h).mono ?_
  rintro e w1 ⟨rfl, S1, b1⟩
  generalize w0.heap.size = p0 at *
  have S1H := Lib.hid S1
  have B1 := Lib.hid (B0.out.trans (b1.mono sz0))
  clear S1 b1
  go_wp2_with fail
  refine (few_is w1 A n c ops (HA.out.below B1.out) hm).mono ?_
  rintro e w2 ⟨rfl, b2⟩
  have B2 := Lib.hid (B1.out.trans (b2.mono B1.out.size))
  have S2H := Lib.hid (S1H.out.below b2)
  have FI := Lib.hid (few_iff (ops := ops))
  clear b2 S1H B1 B0
  cases hf : fewB ops with
  | false =>
    clear hf FI
    go_wp2_with fail
    refine (firstV _).mono ?_
    rintro e w3 ⟨rfl, b3⟩
    have B3 := Lib.hid (B2.out.trans (b3.mono B2.out.size))
    clear b3
    go_wp2_with fail
    go_ret
    exact ⟨rfl, B3.out⟩
  | true =>
    have FW := Lib.hid (FI.out.1 hf)
    have hn : n ≤ 200 := by have := FW.out.len; have := LN.out; omega
    clear hf FI
    have sz2 := B2.out.size
    have T3 := Lib.hid (two_start (B := w.heap.size) S2H.out sz2)
    have B3 := Lib.hid (B2.out.trans ((below_alloc w2 (.cells #[.slice none 0 0] 34)).mono sz2))
    go_upto_region 7 with fail
    generalize w2.alloc (.cells #[.slice none 0 0] 34) = w3 at *
    generalize w2.heap.size = r at *
    clear B2 S2H sz2 sz0
    go_wp2_with fail
    go_loopw [3, 5] (fun sp i wr => ∃ (t p : Nat), sp = .pointer (some ⟨p, 0, none⟩) ∧ i = .int .i64 t ∧ t ≤ n ∧ Two wr p r (playN ops t).1 (playN ops t).2 (playN ops t).1 w.heap.size 0 [] ∧ Below w.heap.size w wr) (fun _ i _ => n - (intOf i).toNat)
    case atStart => exact ⟨0, p0, rfl, rfl, Nat.zero_le _, T3.out, B3.out⟩
    case round =>
      obtain ⟨wo, rfl⟩ : ∃ wo : World, wo = wr := ⟨_, rfl⟩
      obtain ⟨t, p, rfl, rfl, ht, hT, hB⟩ := hrel
      have T := Lib.hid hT
      have B := Lib.hid hB
      have sz := hB.size
      have PL := Lib.hid (play_len FW.out KL.out t (by have := LN.out; omega))
      clear hT hB T3 B3
      by_cases hlt : t < n
      · have s0 : decide ((t : Int) < n) = true := decide_eq_true (by omega)
        have s00 : decide (t < n) = true := decide_eq_true hlt
        have i5 : (t : Int) < n := by omega
        have W1 : IntKind.i64.wrap ((t : Int) + 1) = (t : Int) + 1 := IntWalk.i64_in _ (by omega)
        have KK := Lib.hid (FW.out.k (t := t) (by have := LN.out; omega))
        have ST := Lib.hid (show playN ops (t + 1) = stepO (playN ops t) (gt ops t) from rfl)
        obtain ⟨b1, o1, rfl, hl1, hc1⟩ := HA.out.2 (by omega)
        obtain ⟨c0, c1, c2, c3, hsp, -⟩ := hc1 t hlt
        replace c0 := (B.out.cell (p := ⟨b1, _, none⟩) hl1).trans c0
        replace c1 := (B.out.cell (p := ⟨b1, _, none⟩) hl1).trans c1
        replace c2 := (B.out.cell (p := ⟨b1, _, none⟩) hl1).trans c2
        replace c3 := (B.out.cell (p := ⟨b1, _, none⟩) hl1).trans c3
        have SP := Lib.hid (hsp.below B.out)
        have SW := Lib.hid hsp
        clear hc1 hsp
        have lim : (playN ops t).1.length + (gt ops t).k ≤ 3000 ∧ (playN ops t).2.length ≤ 200 := by
          obtain ⟨a1, a2⟩ := PL.out
          obtain ⟨b1, b2, b3⟩ := KK.out
          omega
        have PL1 := Lib.hid (play_len FW.out KL.out (t + 1) (by have := LN.out; omega))
        have lim1 : (stepO (playN ops t) (gt ops t)).1.length ≤ 3000 ∧ (stepO (playN ops t) (gt ops t)).2.length ≤ 200 := by
          obtain ⟨a1, a2⟩ := PL1.out
          obtain ⟨b1, b2, b3⟩ := KK.out
          rw [ST.out] at a1 a2
          omega
        clear PL PL1 KK
        generalize playN ops t = st at *
        generalize gt ops t = o at *
        obtain ⟨lim, lim0⟩ := lim
        go_upto_region 11 with fail
        obtain ⟨wb, hwb⟩ : ∃ wb : World, wb = wo.alloc (.cells #[.int .i64 o.kind, .int .i64 o.n, .int .i64 o.m, .slice o.A o.k o.c] 36) := ⟨_, rfl⟩
        have TB := Lib.hid (show Two wb p r st.1 st.2 st.1 w.heap.size wo.heap.size [.int .i64 o.kind, .int .i64 o.n, .int .i64 o.m, .slice o.A o.k o.c] from T.out.fresh (hwb ▸ below_alloc _ _) (by rw [hwb]; simp) fun j v hj => by
          rw [hwb]
          rcases j with _ | _ | _ | _ | j <;> simp at hj ⊢ <;> exact hj)
        have BB := Lib.hid (show Below w.heap.size w wb from B.out.trans ((hwb ▸ below_alloc wo _ : Below wo.heap.size wo wb).mono sz))
        rw [← hwb]
        clear hwb c0 c1 c2 c3
        generalize wo.heap.size = bx at *
        have szb := BB.out.size
        have SPB := Lib.hid (SW.out.below BB.out)
        clear T B SP
        have d0 : wb.cell? ⟨bx, 0, none⟩ = some (.int .i64 o.kind) := TB.out.cell rfl
        have d1 : wb.cell? ⟨bx, 1, none⟩ = some (.int .i64 o.n) := TB.out.cell rfl
        have d2 : wb.cell? ⟨bx, 2, none⟩ = some (.int .i64 o.m) := TB.out.cell rfl
        have d3 : wb.cell? ⟨bx, 3, none⟩ = some (.slice o.A o.k o.c) := TB.out.cell rfl
        obtain ⟨q0, hq0⟩ : ∃ q0 : Bool, ((o.kind : Int) == 0) = q0 := ⟨_, rfl⟩
        have HQ := Lib.hid hq0
        have ST0 := Lib.hid (show ∀ s, stepO st o = s → stepO st o = s from fun _ h => h)
        have KS := Lib.hid (show stepO st o = if o.kind = 0 then addR (normL o.l) o.n st.1 st.2 else if o.kind = 1 then (remL o.n st.1, remO o.n st.2) else st from rfl)
        go_upto_region 12 with fail
        go_cut [41] from 40 to 41 (fun v wx => Hid (v = .int .i64 o.kind ∧ wx = wb))
        case first =>
          go_wp2
          go_meet
          exact Lib.hid ⟨rfl, rfl⟩
        case rest =>
        obtain ⟨rfl, hwx⟩ := hcut.out
        subst hwx
        obtain ⟨wb, rfl⟩ : ∃ wb : World, wb = wc := ⟨_, rfl⟩
        clear hcut
        rename_i hK
        apply hK
        go_cut [3, 7, 8, 9, 10, 11, 12] from 42 to 141 (fun sp ok x1 x2 x3 x4 x5 wx => Hid (∃ p', sp = .pointer (some ⟨p', 0, none⟩) ∧ ok = .bool true ∧ Two wx p' r (stepO st o).1 (stepO st o).2 (stepO st o).1 w.heap.size 0 [] ∧ Below w.heap.size w wx))
        case first =>
          cases q0 with
          | true =>
            have E := Lib.hid (show stepO st o = addR (normL o.l) o.n st.1 st.2 by rw [KS.out, if_pos (beq_iff_eq.1 HQ.out)])
            go_upto_region 19 with fail
            refine wp_region_late (fun _ => false) (fun v => v.cell? ⟨bx, 1, none⟩ = some (.int .i64 o.n) ∧ v.cell? ⟨bx, 3, none⟩ = some (.slice o.A o.k o.c)) (by kernel_rfl) ?_
            have TD := TB.out.below ((Below.refl wb.heap.size wb).drew)
            have D0 : (fun v => v.cell? ⟨bx, 1, none⟩ = some (.int .i64 o.n) ∧ v.cell? ⟨bx, 3, none⟩ = some (.slice o.A o.k o.c)) wb.drew := ⟨TD.cell rfl, TD.cell rfl⟩
            have BD := Lib.hid (BB.out.trans ((Below.refl wb.heap.size wb).drew.mono szb))
            refine tk 0 rfl (.pointer (some ⟨p, 0, none⟩)) (.inl ⟨by kernel_rfl, fun w' hs => ?_⟩) D0 ?_
            · go_simp
            refine tk 1 rfl (.pointer (some ⟨bx, 3, none⟩)) (.inl ⟨by kernel_rfl, fun w' hs => ?_⟩) D0 ?_
            · go_simp
            refine tk 2 rfl (.slice o.A o.k o.c) (.inl ⟨by kernel_rfl, fun w' hs => ?_⟩) D0 ?_
            · have z3 := hs.2
              go_simp
            refine tk 3 rfl (.pointer (some ⟨bx, 1, none⟩)) (.inl ⟨by kernel_rfl, fun w' hs => ?_⟩) D0 ?_
            · go_simp
            refine tk 4 rfl (.int .i64 o.n) (.inl ⟨by kernel_rfl, fun w' hs => ?_⟩) D0 ?_
            · have z1 := hs.1
              go_simp
            refine tk 6 rfl (.pointer (some ⟨r, 0, none⟩)) (.inl ⟨by kernel_rfl, fun w' hs => ?_⟩) D0 ?_
            · go_simp
            refine tk 7 rfl (.pointer (some ⟨bx, 3, none⟩)) (.inl ⟨by kernel_rfl, fun w' hs => ?_⟩) D0 ?_
            · go_simp
            refine tk 8 rfl (.slice o.A o.k o.c) (.inl ⟨by kernel_rfl, fun w' hs => ?_⟩) D0 ?_
            · have z3 := hs.2
              go_simp
            refine tk 9 rfl (.pointer (some ⟨bx, 1, none⟩)) (.inl ⟨by kernel_rfl, fun w' hs => ?_⟩) D0 ?_
            · go_simp
            refine tk 10 rfl (.int .i64 o.n) (.inl ⟨by kernel_rfl, fun w' hs => ?_⟩) D0 ?_
            · have z1 := hs.1
              go_simp
            clear d0 d1 d2 d3
            refine Late.one 5 rfl (by kernel_rfl) rfl ?_
            go_simp
            refine (two_add TD o.n (SW.out.below BD.out) (sp_zero SW.out) (by omega) (by omega)).mono ?_
            rintro e w5 ⟨rfl, TT, b5⟩
            (first | refine ⟨⟨TT.cell rfl, TT.cell rfl⟩, ?_⟩ | refine ⟨.inr ⟨TT.cell rfl, TT.cell rfl⟩, ?_⟩)
            have B5 := Lib.hid (BD.out.trans b5)
            refine Late.one 11 rfl (by kernel_rfl) rfl ?_
            go_simp
            refine (two_radd TT TB.out.ok o.n (SW.out.below B5.out) (by omega)).mono ?_
            rintro e w6 ⟨rfl, TT6, b6⟩
            have D6 : (fun v => v.cell? ⟨bx, 1, none⟩ = some (.int .i64 o.n) ∧ v.cell? ⟨bx, 3, none⟩ = some (.slice o.A o.k o.c)) w6 := ⟨TT6.cell rfl, TT6.cell rfl⟩
            (first | refine ⟨D6, ?_⟩ | refine ⟨.inr D6, ?_⟩)
            have B6 := Lib.hid (B5.out.trans b6)
            have R6 := Lib.hid (show Two w6 p r (stepO st o).1 (stepO st o).2 (stepO st o).1 w.heap.size 0 [] by rw [E.out]; exact TT6.nobox)
            clear TT b5 b6 TT6
            refine tk 12 rfl (.bool true) (.inl ⟨by kernel_rfl, fun w' hs => ?_⟩) D6 ?_
            · go_simp
            refine tk 13 rfl (.bool true) (.inl ⟨by kernel_rfl, fun w' hs => ?_⟩) D6 ?_
            · go_simp
            refine Late.done (by kernel_rfl) ?_
            go_wp2
            go_meet
            exact Lib.hid ⟨p, rfl, rfl, R6.out, B6.out⟩
          | false =>
            have K0 : ¬ o.kind = 0 := fun e => by have := HQ.out; rw [e] at this; cases this
            by_cases k1 : o.kind = 1
            · have q1 : ((o.kind : Int) == 1) = true := by rw [beq_iff_eq]; exact k1
              have E := Lib.hid (show stepO st o = (remL o.n st.1, remO o.n st.2) by rw [KS.out, if_neg K0, if_pos k1])
              clear k1 K0
              go_upto_region 21 with fail
              refine wp_region_late (fun _ => false) (fun v => v.cell? ⟨bx, 1, none⟩ = some (.int .i64 o.n) ∧ v.cell? ⟨bx, 3, none⟩ = some (.slice o.A o.k o.c)) (by kernel_rfl) ?_
              have TD := TB.out.below ((Below.refl wb.heap.size wb).drew)
              have D0 : (fun v => v.cell? ⟨bx, 1, none⟩ = some (.int .i64 o.n) ∧ v.cell? ⟨bx, 3, none⟩ = some (.slice o.A o.k o.c)) wb.drew := ⟨TD.cell rfl, TD.cell rfl⟩
              have BD := Lib.hid (BB.out.trans ((Below.refl wb.heap.size wb).drew.mono szb))
              refine tk 0 rfl (.pointer (some ⟨p, 0, none⟩)) (.inl ⟨by kernel_rfl, fun w' hs => ?_⟩) D0 ?_
              · go_simp
              refine tk 1 rfl (.pointer (some ⟨bx, 1, none⟩)) (.inl ⟨by kernel_rfl, fun w' hs => ?_⟩) D0 ?_
              · go_simp
              refine tk 2 rfl (.int .i64 o.n) (.inl ⟨by kernel_rfl, fun w' hs => ?_⟩) D0 ?_
              · have z1 := hs.1
                go_simp
              refine tk 4 rfl (.pointer (some ⟨r, 0, none⟩)) (.inl ⟨by kernel_rfl, fun w' hs => ?_⟩) D0 ?_
              · go_simp
              refine tk 5 rfl (.pointer (some ⟨bx, 1, none⟩)) (.inl ⟨by kernel_rfl, fun w' hs => ?_⟩) D0 ?_
              · go_simp
              refine tk 6 rfl (.int .i64 o.n) (.inl ⟨by kernel_rfl, fun w' hs => ?_⟩) D0 ?_
              · have z1 := hs.1
                go_simp
              clear d0 d1 d2 d3
              refine Late.one 3 rfl (by kernel_rfl) rfl ?_
              go_simp
              refine (two_rem TD o.n (by omega) (by omega)).mono ?_
              rintro e w5 ⟨rfl, TT, b5⟩
              (first | refine ⟨⟨TT.cell rfl, TT.cell rfl⟩, ?_⟩ | refine ⟨.inr ⟨TT.cell rfl, TT.cell rfl⟩, ?_⟩)
              have B5 := Lib.hid (BD.out.trans b5)
              refine Late.one 7 rfl (by kernel_rfl) rfl ?_
              go_simp
              refine (two_rrem TT o.n (by omega)).mono ?_
              rintro e w6 ⟨rfl, TT6, b6⟩
              have D6 : (fun v => v.cell? ⟨bx, 1, none⟩ = some (.int .i64 o.n) ∧ v.cell? ⟨bx, 3, none⟩ = some (.slice o.A o.k o.c)) w6 := ⟨TT6.cell rfl, TT6.cell rfl⟩
              (first | refine ⟨D6, ?_⟩ | refine ⟨.inr D6, ?_⟩)
              have B6 := Lib.hid (B5.out.trans b6)
              have R6 := Lib.hid (show Two w6 p r (stepO st o).1 (stepO st o).2 (stepO st o).1 w.heap.size 0 [] by rw [E.out]; exact TT6.nobox)
              clear TT b5 b6 TT6
              refine tk 8 rfl (.bool true) (.inl ⟨by kernel_rfl, fun w' hs => ?_⟩) D6 ?_
              · go_simp
              refine tk 9 rfl (.bool true) (.inl ⟨by kernel_rfl, fun w' hs => ?_⟩) D6 ?_
              · go_simp
              refine Late.done (by kernel_rfl) ?_
              go_wp2
              go_meet
              exact Lib.hid ⟨p, rfl, rfl, R6.out, B6.out⟩
            · have q1 : ((o.kind : Int) == 1) = false := by rw [beq_eq_false_iff_ne]; exact k1
              have E := Lib.hid (show stepO st o = st by rw [KS.out, if_neg K0, if_neg k1])
              obtain ⟨F, SF⟩ := TB.out.set
              obtain ⟨G, RG⟩ := TB.out.ref
              have FS := Lib.hid SF
              have GR := Lib.hid RG
              clear SF RG K0 k1
              by_cases k2 : o.kind = 2
              · have q2 : ((o.kind : Int) == 2) = true := by rw [beq_iff_eq]; exact k2
                clear k2
                go_wp2_with fail
                refine (clash_is wb p st.1 st.2 o.A o.k o.c o.l o.n FS.out SPB.out (sp_zero SPB.out) (by omega) (by omega)).mono ?_
                rintro e w5 ⟨rfl, b5⟩
                have T5 := Lib.hid (TB.out.below b5)
                have B5 := Lib.hid (BB.out.trans (b5.mono szb))
                have GR5 := Lib.hid (GR.out.below b5)
                clear b5 d0 d1 d2 d3
                have sz5 := B5.out.size
                obtain ⟨x, ok, hx⟩ : ∃ (x : Tg) (ok : Bool), tgV (clashL o.n (normL o.l) st.1) = .tuple #[.agg #[.int .i64 x.1.1, .int .i64 x.1.2, .int .i64 x.2], .bool ok] := by
                  cases clashL o.n (normL o.l) st.1 with
                  | some x => exact ⟨x, true, rfl⟩
                  | none => exact ⟨((0, 0), 0), false, rfl⟩
                rw [hx]
                have HX := Lib.hid hx
                clear hx
                go_upto_region 24 with fail
                obtain ⟨w6, hw6⟩ : ∃ w6 : World, w6 = w5.alloc (.cells #[.int .i64 x.1.1, .int .i64 x.1.2, .int .i64 x.2] 42) := ⟨_, rfl⟩
                have b6 : Below w5.heap.size w5 w6 := hw6 ▸ below_alloc _ _
                have T6 := Lib.hid (T5.out.fresh b6 (by rw [hw6]; simp) (cs' := [.int .i64 x.1.1, .int .i64 x.1.2, .int .i64 x.2]) fun j v hj => by
                  rw [hw6]
                  rcases j with _ | _ | _ | j <;> simp at hj ⊢ <;> exact hj)
                have B6 := Lib.hid (B5.out.trans (b6.mono sz5))
                have GR6 := Lib.hid (GR5.out.below b6)
                have T6o := Lib.hid (T5.out.below b6)
                rw [← hw6]
                clear hw6 b6 T5 GR5 B5
                generalize w5.heap.size = y1 at *
                have e1 : w6.cell? ⟨bx, 1, none⟩ = some (.int .i64 o.n) := T6o.out.cell rfl
                have e3 : w6.cell? ⟨bx, 3, none⟩ = some (.slice o.A o.k o.c) := T6o.out.cell rfl
                have sz6 := B6.out.size
                go_wp2_with fail
                refine (rclash_is w6 r st.1 o.A o.k o.c o.l o.n GR6.out (SW.out.below B6.out) (by omega) (by omega)).mono ?_
                rintro e w7 ⟨rfl, b7⟩
                rw [HX.out]
                have T7 := Lib.hid (T6.out.below b7)
                have B7 := Lib.hid (B6.out.trans (b7.mono sz6))
                clear b7 e1 e3 T6o GR6 T6 B6
                have sz7 := B7.out.size
                go_upto_region 25 with fail
                obtain ⟨w8, hw8⟩ : ∃ w8 : World, w8 = w7.alloc (.cells #[.int .i64 x.1.1, .int .i64 x.1.2, .int .i64 x.2] 45) := ⟨_, rfl⟩
                have b8 : Below w7.heap.size w7 w8 := hw8 ▸ below_alloc _ _
                have f0 : w8.cell? ⟨w7.heap.size, 0, none⟩ = some (.int .i64 x.1.1) := by rw [hw8]; simp
                have f1 : w8.cell? ⟨w7.heap.size, 1, none⟩ = some (.int .i64 x.1.2) := by rw [hw8]; simp
                have f2 : w8.cell? ⟨w7.heap.size, 2, none⟩ = some (.int .i64 x.2) := by rw [hw8]; simp
                have T8 := Lib.hid (T7.out.below b8)
                have B8 := Lib.hid (B7.out.trans (b8.mono sz7))
                rw [← hw8]
                clear hw8 b8 T7 B7
                generalize w7.heap.size = y2 at *
                have g0 : w8.cell? ⟨y1, 0, none⟩ = some (.int .i64 x.1.1) := T8.out.cell rfl
                have g1 : w8.cell? ⟨y1, 1, none⟩ = some (.int .i64 x.1.2) := T8.out.cell rfl
                have g2 : w8.cell? ⟨y1, 2, none⟩ = some (.int .i64 x.2) := T8.out.cell rfl
                have R8 := Lib.hid (show Two w8 p r (stepO st o).1 (stepO st o).2 (stepO st o).1 w.heap.size 0 [] by rw [E.out]; exact T8.out.nobox)
                clear T8 HX
                generalize x.1.1 = xa at *
                generalize x.1.2 = xb at *
                generalize x.2 = xc at *
                go_wp2
                go_meet
                exact Lib.hid ⟨p, rfl, by simp, R8.out, B8.out⟩
              · have q2 : ((o.kind : Int) == 2) = false := by rw [beq_eq_false_iff_ne]; exact k2
                by_cases k3 : o.kind = 3
                · have q3 : ((o.kind : Int) == 3) = true := by rw [beq_iff_eq]; exact k3
                  clear k2 k3
                  go_upto_region 27 with fail
                  refine wp_region_late (fun _ => false) (fun v => Below wb.heap.size wb v) (by kernel_rfl) ?_
                  have D0 : Below wb.heap.size wb wb.drew := (Below.refl _ _).drew
                  have Z := Lib.hid (show ∀ v, Below wb.heap.size wb v → v.cell? ⟨bx, 1, none⟩ = some (.int .i64 o.n) ∧ v.cell? ⟨bx, 2, none⟩ = some (.int .i64 o.m) from fun v hv => ⟨(TB.out.below hv).cell rfl, (TB.out.below hv).cell rfl⟩)
                  refine tk 0 rfl (.pointer (some ⟨p, 0, none⟩)) (.inl ⟨by kernel_rfl, fun w' hs => ?_⟩) D0 ?_
                  · go_simp
                  refine tk 1 rfl (.pointer (some ⟨bx, 1, none⟩)) (.inl ⟨by kernel_rfl, fun w' hs => ?_⟩) D0 ?_
                  · go_simp
                  refine tk 2 rfl (.int .i64 o.n) (.inl ⟨by kernel_rfl, fun w' hs => ?_⟩) D0 ?_
                  · have z1 := (Z.out _ hs).1
                    go_simp
                  refine tk 3 rfl (.pointer (some ⟨bx, 2, none⟩)) (.inl ⟨by kernel_rfl, fun w' hs => ?_⟩) D0 ?_
                  · go_simp
                  refine tk 4 rfl (.int .i64 o.m) (.inl ⟨by kernel_rfl, fun w' hs => ?_⟩) D0 ?_
                  · have z2 := (Z.out _ hs).2
                    go_simp
                  refine tk 6 rfl (.pointer (some ⟨r, 0, none⟩)) (.inl ⟨by kernel_rfl, fun w' hs => ?_⟩) D0 ?_
                  · go_simp
                  refine tk 7 rfl (.pointer (some ⟨bx, 1, none⟩)) (.inl ⟨by kernel_rfl, fun w' hs => ?_⟩) D0 ?_
                  · go_simp
                  refine tk 8 rfl (.int .i64 o.n) (.inl ⟨by kernel_rfl, fun w' hs => ?_⟩) D0 ?_
                  · have z1 := (Z.out _ hs).1
                    go_simp
                  refine tk 9 rfl (.pointer (some ⟨bx, 2, none⟩)) (.inl ⟨by kernel_rfl, fun w' hs => ?_⟩) D0 ?_
                  · go_simp
                  refine tk 10 rfl (.int .i64 o.m) (.inl ⟨by kernel_rfl, fun w' hs => ?_⟩) D0 ?_
                  · have z2 := (Z.out _ hs).2
                    go_simp
                  clear d0 d1 d2 d3
                  refine Late.one 5 rfl (by kernel_rfl) rfl ?_
                  go_simp
                  refine (cut_is _ p st.1 st.2 o.n o.m (FS.out.below D0) (by omega)).mono ?_
                  rintro e w5 ⟨A5, n5, rfl, s5, -, -, b5⟩
                  have D5 := D0.trans (b5.mono D0.size)
                  (first | refine ⟨D5, ?_⟩ | refine ⟨.inr D5, ?_⟩)
                  refine Late.one 11 rfl (by kernel_rfl) rfl ?_
                  go_simp
                  refine (rcut_is _ r st.1 o.n o.m (GR.out.below D5) (by omega)).mono ?_
                  rintro e w6 ⟨A6, n6, rfl, s6, -, -, b6⟩
                  have D6 := D5.trans (b6.mono D5.size)
                  (first | refine ⟨D6, ?_⟩ | refine ⟨.inr D6, ?_⟩)
                  refine Late.one 12 rfl (by kernel_rfl) rfl ?_
                  go_simp
                  refine (spans_any _ A5 A6 _ n5 _ n6 (cutL o.n o.m st.1) (cutL o.n o.m st.1) (s5.below b6) s6 (by have := cut_small o.n o.m st.1; omega) (by have := cut_small o.n o.m st.1; omega)).mono ?_
                  rintro e w7 ⟨rfl, b7⟩
                  have D7 := D6.trans (b7.mono D6.size)
                  (first | refine ⟨D7, ?_⟩ | refine ⟨.inr D7, ?_⟩)
                  have R7 := Lib.hid (show Two w7 p r (stepO st o).1 (stepO st o).2 (stepO st o).1 w.heap.size 0 [] by rw [E.out]; exact (TB.out.below D7).nobox)
                  have B7 := Lib.hid (BB.out.trans (D7.mono szb))
                  rw [decide_eq_true rfl]
                  clear s5 s6 b5 b6 b7
                  refine tk 13 rfl (.bool true) (.inl ⟨by kernel_rfl, fun w' hs => ?_⟩) D7 ?_
                  · go_simp
                  refine Late.done (by kernel_rfl) ?_
                  go_wp2
                  go_meet
                  exact Lib.hid ⟨p, rfl, rfl, R7.out, B7.out⟩
                · have q3 : ((o.kind : Int) == 3) = false := by rw [beq_eq_false_iff_ne]; exact k3
                  clear k2 k3
                  go_wp2_with fail
                  refine (copy_is wb p st.1 st.2 FS.out (by omega) (by omega)).mono ?_
                  rintro e w5 ⟨p2, rfl, -, S5, b5⟩
                  have T5 := Lib.hid (TB.out.three b5 S5)
                  have B5 := Lib.hid (BB.out.trans (b5.mono szb))
                  clear S5 b5 d0 d1 d2 d3
                  have sz5 := B5.out.size
                  go_wp2_with fail
                  have b6 := below_alloc w5 (.cells #[.int .i64 (-9), .int .i64 (-8)] 40)
                  refine (three_add (T5.out.below b6) 999 (sp1 w5 _ (-9, -8)) (fun h => by cases h) (by omega) (by omega)).mono ?_
                  rintro e w7 ⟨bq, a1, o1, rfl, T7, b7, l1, l2⟩
                  have B7 := Lib.hid ((B5.out.trans (b6.mono sz5)).trans b7)
                  have T7H := Lib.hid T7
                  clear T7 b6 b7
                  have sz7 := B7.out.size
                  go_wp2_with fail
                  refine (three_rem T7H.out 1 (by omega) (by omega)).mono ?_
                  rintro e w8 ⟨⟨v8, rfl⟩, T8, b8⟩
                  have B8 := Lib.hid (B7.out.trans b8)
                  have R8 := Lib.hid (show Two w8 p2 r (stepO st o).1 (stepO st o).2 (stepO st o).1 w.heap.size 0 [] by rw [E.out]; exact T8)
                  clear T8 b8
                  go_wp2
                  go_meet
                  exact Lib.hid ⟨p2, rfl, rfl, R8.out, B8.out⟩
        case rest =>
          obtain ⟨wq, rfl⟩ : ∃ wq : World, wq = wc := ⟨_, rfl⟩
          obtain ⟨p', rfl, rfl, TQ, BQ⟩ := hcut.out
          have TQH := Lib.hid TQ
          have BQH := Lib.hid BQ
          clear hcut TQ BQ TB BB d0 d1 d2 d3 SPB KS HQ ST0
          generalize stepO st o = sn at *
          obtain ⟨l1, l2⟩ := lim1
          obtain ⟨F, SF⟩ := TQH.out.set
          obtain ⟨G, RG⟩ := TQH.out.ref
          have FS := Lib.hid SF
          have GR := Lib.hid RG
          obtain ⟨AR, cR, RF⟩ := RG
          have TG := Lib.hid RF.tg
          have Z := Lib.hid (show ∀ v, Below wq.heap.size wq v → v.cell? ⟨r, 0, none⟩ = some (.slice AR sn.1.length cR) from fun v hv => (RF.below hv).c0)
          have OK := Lib.hid TQH.out.ok
          have szq := BQH.out.size
          clear SF RF
          go_upto_region 28 with fail
          refine wp_region_late (fun _ => false) (fun v => Below wq.heap.size wq v) (by kernel_rfl) ?_
          have D0 : Below wq.heap.size wq wq.drew := (Below.refl _ _).drew
          refine tk 0 rfl (.bool true) (.inl ⟨by kernel_rfl, fun w' hs => ?_⟩) D0 ?_
          · go_simp
          refine tk 1 rfl (.bool false) (.inl ⟨by kernel_rfl, fun w' hs => ?_⟩) D0 ?_
          · go_simp
          refine tk 2 rfl (.bool false) (.inl ⟨by kernel_rfl, fun w' hs => ?_⟩) D0 ?_
          · go_simp
          refine tk 3 rfl (.pointer (some ⟨p', 0, none⟩)) (.inl ⟨by kernel_rfl, fun w' hs => ?_⟩) D0 ?_
          · go_simp
          refine tk 5 rfl (.pointer (some ⟨r, 0, none⟩)) (.inl ⟨by kernel_rfl, fun w' hs => ?_⟩) D0 ?_
          · go_simp
          refine tk 6 rfl (.pointer (some ⟨r, 0, none⟩)) (.inl ⟨by kernel_rfl, fun w' hs => ?_⟩) D0 ?_
          · go_simp
          refine tk 7 rfl (.pointer (some ⟨r, 0, none⟩)) (.inl ⟨by kernel_rfl, fun w' hs => ?_⟩) D0 ?_
          · go_simp
          refine tk 8 rfl (.slice AR sn.1.length cR) (.inl ⟨by kernel_rfl, fun w' hs => ?_⟩) D0 ?_
          · have z0 := Z.out _ hs
            go_simp
          refine late_oneG 4 rfl (by kernel_rfl) (by kernel_rfl) ?_
          go_simp
          refine (list_is _ p' sn.1 sn.2 (FS.out.below D0) (by omega)).mono ?_
          rintro e w5 ⟨A5, n5, rfl, s5, -, -, b5⟩
          have D5 := D0.trans (b5.mono D0.size)
          (first | refine ⟨D5, ?_⟩ | refine ⟨.inr D5, ?_⟩)
          refine late_oneG 9 rfl (by kernel_rfl) (by kernel_rfl) ?_
          go_simp
          refine (tagged_same _ A5 AR _ n5 cR sn.1 s5 (TG.out.below D5) (by omega)).mono ?_
          rintro e w6 ⟨rfl, b6⟩
          have D6 := D5.trans (b6.mono D5.size)
          (first | refine ⟨D6, ?_⟩ | refine ⟨.inr D6, ?_⟩)
          clear s5 b5 b6 D0 D5
          refine tk 10 rfl (.bool false) (.inl ⟨by kernel_rfl, fun w' hs => ?_⟩) D6 ?_
          · go_simp
          refine tk 11 rfl (.bool false) (.inl ⟨by kernel_rfl, fun w' hs => ?_⟩) D6 ?_
          · go_simp
          refine tk 12 rfl (.bool false) (.inl ⟨by kernel_rfl, fun w' hs => ?_⟩) D6 ?_
          · go_simp
          refine tk 13 rfl (.pointer (some ⟨p', 0, none⟩)) (.inl ⟨by kernel_rfl, fun w' hs => ?_⟩) D6 ?_
          · go_simp
          refine tk 15 rfl (.pointer (some ⟨r, 0, none⟩)) (.inl ⟨by kernel_rfl, fun w' hs => ?_⟩) D6 ?_
          · go_simp
          refine late_oneG 14 rfl (by kernel_rfl) (by kernel_rfl) ?_
          go_simp
          refine (owners_is _ p' sn.1 sn.2 (FS.out.below D6) (by omega)).mono ?_
          rintro e w7 ⟨A7, n7, rfl, s7, -, -, b7⟩
          have D7 := D6.trans (b7.mono D6.size)
          (first | refine ⟨D7, ?_⟩ | refine ⟨.inr D7, ?_⟩)
          refine late_oneG 16 rfl (by kernel_rfl) (by kernel_rfl) ?_
          go_simp
          refine (rowners_is _ r sn.1 sn.2 (GR.out.below D7) OK.out (by omega)).mono ?_
          rintro e w8 ⟨A8, n8, rfl, s8, b8⟩
          have D8 := D7.trans (b8.mono D7.size)
          (first | refine ⟨D8, ?_⟩ | refine ⟨.inr D8, ?_⟩)
          refine late_oneG 17 rfl (by kernel_rfl) (by kernel_rfl) ?_
          go_simp
          refine (ints_same _ A7 A8 _ n7 n8 sn.2 (s7.below b8) s8 (by omega)).mono ?_
          rintro e w9 ⟨rfl, b9⟩
          have D9 := D8.trans (b9.mono D8.size)
          (first | refine ⟨D9, ?_⟩ | refine ⟨.inr D9, ?_⟩)
          clear s7 s8 b7 b8 b9 D6 D7 D8
          refine tk 18 rfl (.bool false) (.inl ⟨by kernel_rfl, fun w' hs => ?_⟩) D9 ?_
          · go_simp
          refine tk 19 rfl (.bool false) (.inl ⟨by kernel_rfl, fun w' hs => ?_⟩) D9 ?_
          · go_simp
          refine tk 20 rfl (.bool false) (.inl ⟨by kernel_rfl, fun w' hs => ?_⟩) D9 ?_
          · go_simp
          refine tk 21 rfl (.pointer (some ⟨p', 0, none⟩)) (.inl ⟨by kernel_rfl, fun w' hs => ?_⟩) D9 ?_
          · go_simp
          refine tk 23 rfl (.pointer (some ⟨r, 0, none⟩)) (.inl ⟨by kernel_rfl, fun w' hs => ?_⟩) D9 ?_
          · go_simp
          refine tk 24 rfl (.pointer (some ⟨r, 0, none⟩)) (.inl ⟨by kernel_rfl, fun w' hs => ?_⟩) D9 ?_
          · go_simp
          refine tk 25 rfl (.pointer (some ⟨r, 0, none⟩)) (.inl ⟨by kernel_rfl, fun w' hs => ?_⟩) D9 ?_
          · go_simp
          refine tk 26 rfl (.slice AR sn.1.length cR) (.inl ⟨by kernel_rfl, fun w' hs => ?_⟩) D9 ?_
          · have z0 := Z.out _ hs
            go_simp
          refine tk 27 rfl (.int .i64 (sn.1.length : Nat)) (.inl ⟨by kernel_rfl, fun w' hs => ?_⟩) D9 ?_
          · go_simp
          refine late_oneG 22 rfl (by kernel_rfl) (by kernel_rfl) ?_
          go_simp
          refine (len_is _ p' sn.1 sn.2 (FS.out.below D9)).mono ?_
          rintro e w10 ⟨rfl, rfl⟩
          (first | refine ⟨D9, ?_⟩ | refine ⟨.inr D9, ?_⟩)
          refine tk 28 rfl (.bool false) (.inl ⟨by kernel_rfl, fun w' hs => ?_⟩) D9 ?_
          · go_simp
          refine tk 29 rfl (.bool false) (.inl ⟨by kernel_rfl, fun w' hs => ?_⟩) D9 ?_
          · go_simp
          refine Late.done (by kernel_rfl) ?_
          have BX := Lib.hid (BQH.out.trans (D9.mono szq))
          have TX := Lib.hid (TQH.out.below D9)
          clear D9 Z FS GR
          go_wp2
          go_roundw
          case rel => exact ⟨t + 1, p', rfl, by go_num, by omega, by rw [ST.out]; exact TX.out, BX.out⟩
          case measure => simp [intOf]; omega
      · obtain rfl : n = t := by omega
        have s0 : decide ((n : Int) < n) = false := decide_eq_false (by omega)
        have s00 : decide (n < n) = false := decide_eq_false (by omega)
        go_wp2_with fail
        refine (firstV _).mono ?_
        rintro e w5 ⟨rfl, b5⟩
        have B5 := Lib.hid (B.out.trans (b5.mono B.out.size))
        clear b5
        go_wp2_with fail
        go_ret
        exact ⟨rfl, B5.out⟩
end Go.Proofs.Ytjodhfehfpmfaaa.Iv
