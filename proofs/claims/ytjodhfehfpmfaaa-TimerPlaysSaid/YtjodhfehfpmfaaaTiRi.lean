/- The reference's queue: Push. -/
import Derived.Test.YtjodhfehfpmfaaaTiRo
set_option linter.unusedVariables false
namespace Go.Proofs.Ytjodhfehfpmfaaa.Ti
open Go.RowKit Iv

theorem ltB_no {x y : It} (h : ¬ x.1 < y.1) (h2 : x.1 = y.1 → ¬ x.2 < y.2) : ltB x y = false := decide_eq_false fun q => by
  rcases q with q | ⟨q1, q2⟩
  · exact h q
  · exact h2 q1 q2
theorem OwnI2.blk {B : Nat} {w : World} {v : Value} {l : List It} (h : OwnI2 B w v l) (k : Nat) (hk : v.ownBlock = some k) : B ≤ k := (World.ownsRow.lt h k hk).1
/-- what the loop's test says -/
def PT (L : List It) (n k : Nat) (x : It) (t : Bool) : Prop := (t = true → k < n ∧ ltB (gt L k) x = true) ∧ (t = false → k < n → ltB (gt L k) x = false)
set_option maxRecDepth 100000 in
set_option maxHeartbeats 16000000 in
theorem rpush_is {G : Nat → Prop} (w : World) (r : Nat) (L : List It) (xa xb : Int) (H : RQ G w r L) (hG : ∀ k, w.heap.size ≤ k → G k) (hl : L.length ≤ 700000) : Calls Try.prog 38 #[.pointer (some ⟨r, 0, none⟩), .int .i64 xa, .int .i64 xb] w fun e w' => e = .returned (.tuple #[]) ∧ RQ G w' r (insL (xa, xb) L) ∧ Kp (· = r) w w' := by
  obtain ⟨A, c, H⟩ := H
  have c0 := H.c0
  have rl := H.box.lt
  have HH := Lib.hid H
  have GG := Lib.hid hG
  have CE := Lib.hid (show ∀ t, t < L.length → ∃ g, A = some ⟨g, 0, none⟩ ∧ w.cell? ⟨g, t * 2, none⟩ = some (.int .i64 (gt L t).1) ∧ w.cell? ⟨g, t * 2 + 1, none⟩ = some (.int .i64 (gt L t).2) from fun t ht => by
    obtain ⟨g, e, fg, q, qg⟩ := H.has (by omega)
    exact ⟨g, e, itr_cell q ht⟩)
  have hcap := H.rows.2.1
  obtain ⟨n, hn⟩ : ∃ n, n = L.length := ⟨_, rfl⟩
  have LN := Lib.hid hn
  rw [← hn] at c0 CE hl hcap
  clear hn H hG
  go_enter Try.func38, Try.ntmps38
  go_wp2_with fail
  go_loopw [6] (fun i wr => ∃ k : Nat, i = .int .i64 k ∧ k ≤ n ∧ wr = w ∧ Hid (∀ j, j < k → ltB (gt L j) (xa, xb) = true)) (fun i _ => n - (intOf i).toNat)
  case atStart => exact ⟨0, rfl, Nat.zero_le _, rfl, Lib.hid fun j h => absurd h (Nat.not_lt_zero _)⟩
  case round =>
    obtain ⟨k, rfl, hk, hwr, UP⟩ := hrel
    subst hwr
    go_upto_region 1 with fail
    go_cut [49] from 7 to 49 (fun v wx => ∃ t : Bool, v = .bool t ∧ wx = wr ∧ Hid (PT L n k (xa, xb) t))
    case first =>
      by_cases hlt : k < n
      · have s0 : decide ((k : Int) < n) = true := decide_eq_true (by omega)
        have s00 : decide (k < n) = true := decide_eq_true hlt
        have i5 : (k : Int) < n := by omega
        obtain ⟨g, rfl, d0, d1⟩ := CE.out k hlt
        by_cases h1 : (gt L k).1 < xa
        · have FN := Lib.hid (show PT L n k (xa, xb) true from ⟨fun _ => ⟨hlt, decide_eq_true (.inl h1)⟩, fun e => nomatch e⟩)
          have s1 : decide ((gt L k).1 < xa) = true := decide_eq_true h1
          clear h1 UP
          generalize gt L k = y at *
          go_wp2
          go_meet
          exact ⟨true, rfl, rfl, FN⟩
        · have s1 : decide ((gt L k).1 < xa) = false := decide_eq_false h1
          by_cases h2 : (gt L k).1 = xa
          · have s2 : ((gt L k).1 == xa) = true := by rw [beq_iff_eq]; exact h2
            by_cases h3 : (gt L k).2 < xb
            · have FN := Lib.hid (show PT L n k (xa, xb) true from ⟨fun _ => ⟨hlt, decide_eq_true (.inr ⟨h2, h3⟩)⟩, fun e => nomatch e⟩)
              have s3 : decide ((gt L k).2 < xb) = true := decide_eq_true h3
              clear h1 h2 h3 UP
              generalize gt L k = y at *
              go_wp2
              go_meet
              exact ⟨true, rfl, rfl, FN⟩
            · have FN := Lib.hid (show PT L n k (xa, xb) false from ⟨(fun e => nomatch e), fun _ _ => ltB_no h1 fun _ => h3⟩)
              have s3 : decide ((gt L k).2 < xb) = false := decide_eq_false h3
              clear h1 h2 h3 UP
              generalize gt L k = y at *
              go_wp2
              go_meet
              exact ⟨false, rfl, rfl, FN⟩
          · have s2 : ((gt L k).1 == xa) = false := by rw [beq_eq_false_iff_ne]; exact h2
            have FN := Lib.hid (show PT L n k (xa, xb) false from ⟨(fun e => nomatch e), fun _ _ => ltB_no h1 fun e => absurd e h2⟩)
            clear h1 h2 UP
            generalize gt L k = y at *
            go_wp2
            go_meet
            exact ⟨false, rfl, rfl, FN⟩
      · obtain rfl : n = k := by omega
        have s0 : decide ((n : Int) < n) = false := decide_eq_false (by omega)
        have s00 : decide (n < n) = false := decide_eq_false (by omega)
        have FN := Lib.hid (show PT L n n (xa, xb) false from ⟨(fun e => nomatch e), fun _ h => absurd h (Nat.lt_irrefl _)⟩)
        clear hlt UP
        go_wp2
        go_meet
        exact ⟨false, rfl, rfl, FN⟩
    case rest =>
      obtain ⟨t, rfl, rfl, T0⟩ := hcut
      obtain ⟨wr, rfl⟩ : ∃ wr : World, wr = wc := ⟨_, rfl⟩
      cases t with
      | true =>
        obtain ⟨hlt, lt⟩ := T0.out.1 rfl
        have W1 : IntKind.i64.wrap ((k : Int) + 1) = (k : Int) + 1 := IntWalk.i64_in _ (by omega)
        have U2 := Lib.hid (show ∀ j, j < k + 1 → ltB (gt L j) (xa, xb) = true from fun j hj => by
          by_cases e : j = k
          · rw [e]; exact lt
          · exact UP.out j (by omega))
        clear UP lt T0
        go_wp2
        go_roundw
        case rel => exact ⟨k + 1, by go_num, by omega, by first | trivial | rfl, U2⟩
        case measure => simp [intOf]; omega
      | false =>
        have IN := Lib.hid (show insL (xa, xb) L = (L.take k ++ [(xa, xb)]) ++ L.drop k by
          rw [ins_at (xa, xb) (by have := LN.out; omega) UP.out (fun h => T0.out.2 rfl (by have := LN.out; omega)), List.append_assoc]; rfl)
        have LT := Lib.hid (show (L.take k).length = k by rw [List.length_take]; have := LN.out; omega)
        obtain ⟨A5, c5, TV, tn, tc⟩ := tail_has HH.out k (by have := LN.out; omega)
        rw [← LN.out] at TV tn
        have TVH := Lib.hid TV
        have TN := Lib.hid tn
        have TC := Lib.hid tc
        have TK := Lib.hid (show ∀ W, Below wr.heap.size wr W → ∀ ad, A = some ad → ∀ j u, (cellsL Iv.encS (L.take k))[j]? = some u → W.cell? (ad.add j) = some u from fun W hb ad e j u hj => by
          rcases HH.out.rows.2.2 with ⟨e1, -⟩ | ⟨g, e1, -, -⟩
          · rw [e] at e1; cases e1
          · rw [e] at e1; cases e1
            have := rcells HH.out hb 0 (Nat.zero_le _) k g e j u hj
            rwa [Nat.zero_mul] at this)
        have AN := Lib.hid (show A = none → k = 0 ∧ c = 0 from fun e => by
          rcases HH.out.rows.2.2 with ⟨-, e2⟩ | ⟨g, e1, -, -⟩
          · exact ⟨by omega, e2⟩
          · rw [e] at e1; cases e1)
        have AF := Lib.hid (show A = none ∧ n = 0 ∧ k = 0 ∧ c = 0 ∨ ∃ g, A = some ⟨g, 0, none⟩ from by
          rcases HH.out.rows.2.2 with ⟨e1, e2⟩ | ⟨g, e1, -, -⟩
          · exact .inl ⟨e1, by omega, by omega, e2⟩
          · exact .inr ⟨g, e1⟩)
        have LD := Lib.hid (show n - k = (L.drop k).length by rw [List.length_drop, LN.out])
        have Z := Lib.hid (show ∀ v, Below wr.heap.size wr v → v.cell? ⟨r, 0, none⟩ = some (.slice A n c) from fun v hv => (hv.cell (p := ⟨r, 0, none⟩) rl).trans c0)
        have i1 : (0 : Int) ≤ (k : Int) := by omega
        have i2 : (k : Int) ≤ (n : Int) := by omega
        have i3 : k ≤ c := by omega
        have i5 : (k : Int) ≤ (c : Int) := by omega
        clear UP T0 TV tn tc CE
        go_upto_region 3 with fail
        refine wp_region_late (fun k => k == 23) (fun v => Below wr.heap.size wr v) (by kernel_rfl) ?_
        have D0 : Below wr.heap.size wr wr.drew := (Below.refl _ _).drew
        have DE : Below wr.heap.size wr ((wr.drew).alloc (.cells #[] 73)) := D0.alloc D0.size _
        have DX : Below wr.heap.size wr ((wr.drew).alloc (.cells #[.int .i64 xa, .int .i64 xb] 73)) := D0.alloc D0.size _
        have DEX : Below wr.heap.size wr (((wr.drew).alloc (.cells #[] 73)).alloc (.cells #[.int .i64 xa, .int .i64 xb] 73)) := DE.alloc DE.size _
        have DXE : Below wr.heap.size wr (((wr.drew).alloc (.cells #[.int .i64 xa, .int .i64 xb] 73)).alloc (.cells #[] 73)) := DX.alloc DX.size _
        have EX : cellsL Iv.encS [((xa, xb) : It)] = Iv.encS (xa, xb) := by simp [cellsL]
        have HX := Lib.hid EX
        have OE : OwnI2 wr.heap.size ((wr.drew).alloc (.cells #[] 73)) (.slice (some ⟨wr.heap.size, 0, none⟩) 0 0) [] := own_emptyR wr.drew wr.heap.size (Nat.le_refl _)
        have OEX : OwnI2 wr.heap.size (((wr.drew).alloc (.cells #[] 73)).alloc (.cells #[.int .i64 xa, .int .i64 xb] 73)) (.slice (some ⟨wr.heap.size, 0, none⟩) 0 0) [] := OE.below (below_alloc _ _)
        have sX : ((wr.drew).alloc (.cells #[.int .i64 xa, .int .i64 xb] 73)).heap.size = wr.heap.size + 1 := by simp
        have sE : ((wr.drew).alloc (.cells #[] 73)).heap.size = wr.heap.size + 1 := by simp
        have OXE : OwnI2 wr.heap.size (((wr.drew).alloc (.cells #[.int .i64 xa, .int .i64 xb] 73)).alloc (.cells #[] 73)) (.slice (some ⟨wr.heap.size + 1, 0, none⟩) 0 0) [] := by
          have := own_emptyR ((wr.drew).alloc (.cells #[.int .i64 xa, .int .i64 xb] 73)) wr.heap.size DX.size
          rw [sX] at this
          exact this
        have LEX : ∀ j u, (cellsL Iv.encS [((xa, xb) : It)])[j]? = some u → (((wr.drew).alloc (.cells #[] 73)).alloc (.cells #[.int .i64 xa, .int .i64 xb] 73)).cell? ((⟨wr.heap.size + 1, 0, none⟩ : Addr).add j) = some u := by
          have := newcellsQ ((wr.drew).alloc (.cells #[] 73)) #[.int .i64 xa, .int .i64 xb] 73
          rw [sE] at this
          rw [EX]
          exact this
        have LXE : ∀ j u, (cellsL Iv.encS [((xa, xb) : It)])[j]? = some u → (((wr.drew).alloc (.cells #[.int .i64 xa, .int .i64 xb] 73)).alloc (.cells #[] 73)).cell? ((⟨wr.heap.size, 0, none⟩ : Addr).add j) = some u := by
          intro j u hj
          rw [EX] at hj
          have := newcellsQ wr.drew #[.int .i64 xa, .int .i64 xb] 73 j u hj
          rw [addr_off] at this ⊢
          exact ((below_alloc ((wr.drew).alloc (.cells #[.int .i64 xa, .int .i64 xb] 73)) (.cells #[] 73)).cell (p := ⟨wr.heap.size, 0 + j, none⟩) (by show wr.heap.size < _; simp)).trans this
        have hOE := Lib.hid OE
        have hOEX := Lib.hid OEX
        have hOXE := Lib.hid OXE
        have hLEX := Lib.hid LEX
        have hLXE := Lib.hid LXE
        have sEX : wr.heap.size + 1 < (((wr.drew).alloc (.cells #[] 73)).alloc (.cells #[.int .i64 xa, .int .i64 xb] 73)).heap.size := by simp
        have sXE : wr.heap.size < (((wr.drew).alloc (.cells #[.int .i64 xa, .int .i64 xb] 73)).alloc (.cells #[] 73)).heap.size := by simp; omega
        have hsEX := Lib.hid sEX
        have hsXE := Lib.hid sXE
        clear OE OEX OXE LEX LXE sX sE sEX sXE EX
        refine tk 0 rfl (.pointer (some ⟨r, 0, none⟩)) (.inl ⟨by kernel_rfl, fun w' hs => ?_⟩) D0 ?_
        · go_simp
        refine tk 2 rfl (.pointer (some ⟨r, 0, none⟩)) (.inl ⟨by kernel_rfl, fun w' hs => ?_⟩) D0 ?_
        · go_simp
        refine tk 3 rfl (.pointer (some ⟨r, 0, none⟩)) (.inl ⟨by kernel_rfl, fun w' hs => ?_⟩) D0 ?_
        · go_simp
        refine tk 4 rfl (.pointer (some ⟨r, 0, none⟩)) (.inl ⟨by kernel_rfl, fun w' hs => ?_⟩) D0 ?_
        · go_simp
        refine tk 5 rfl (.slice A n c) (.inl ⟨by kernel_rfl, fun w' hs => ?_⟩) D0 ?_
        · have z0 := Z.out _ hs
          go_simp
        refine tk 6 rfl (.int .i64 (k : Int)) (.inl ⟨by kernel_rfl, fun w' hs => ?_⟩) D0 ?_
        · go_simp
        refine tk 7 rfl (.slice A k c) (.inl ⟨by kernel_rfl, fun w' hs => ?_⟩) D0 ?_
        · rcases AF.out with ⟨e1, e2, e3, e4⟩ | ⟨g, e1⟩
          · clear i1 i2 i3 i5
            rw [e1, e2, e3, e4]
            go_simp
          · rw [e1]
            go_simp
        refine tk 9 rfl (.int .i64 xa) (.inl ⟨by kernel_rfl, fun w' hs => ?_⟩) D0 ?_
        · go_simp
        refine tk 10 rfl (.int .i64 xb) (.inl ⟨by kernel_rfl, fun w' hs => ?_⟩) D0 ?_
        · go_simp
        refine tk 11 rfl (.agg #[.int .i64 xa, .int .i64 xb]) (.inl ⟨by kernel_rfl, fun w' hs => ?_⟩) D0 ?_
        · go_simp
        refine tk 14 rfl (.pointer (some ⟨r, 0, none⟩)) (.inl ⟨by kernel_rfl, fun w' hs => ?_⟩) D0 ?_
        · go_simp
        refine tk 15 rfl (.pointer (some ⟨r, 0, none⟩)) (.inl ⟨by kernel_rfl, fun w' hs => ?_⟩) D0 ?_
        · go_simp
        refine tk 16 rfl (.pointer (some ⟨r, 0, none⟩)) (.inl ⟨by kernel_rfl, fun w' hs => ?_⟩) D0 ?_
        · go_simp
        refine tk 17 rfl (.slice A n c) (.inl ⟨by kernel_rfl, fun w' hs => ?_⟩) D0 ?_
        · have z0 := Z.out _ hs
          go_simp
        refine tk 18 rfl (.int .i64 (k : Int)) (.inl ⟨by kernel_rfl, fun w' hs => ?_⟩) D0 ?_
        · go_simp
        refine tk 19 rfl (.slice A5 (n - k) c5) (.inl ⟨by kernel_rfl, fun w' hs => ?_⟩) D0 ?_
        · rcases TVH.out with ⟨e1, e2, e3, e4, e5, e6⟩ | ⟨g, e1, e2, e3, e5, e6⟩ | ⟨g, e1, e2, e5, e6⟩
          · clear i1 i2 i3 i5
            rw [e1, e2, e3, e4, e5, e6]
            go_simp
          · rw [e1, e2, e3, e5, e6, Nat.sub_self]
            go_simp
          · have j1 : ¬ c = k := by omega
            have j3 : ¬ c - k = 0 := by omega
            rw [e1, e5, e6]
            clear e1 e5 e6
            go_simp
        refine Late.two 1 12 rfl rfl (by kernel_rfl) rfl rfl ?_ ?_
        · go_simp
          refine ⟨DE, ?_⟩
          refine Late.two 8 12 rfl rfl (by kernel_rfl) rfl rfl ?_ ?_
          · skip
            refine wp_appG (.tmp 53) (.tmp 59) (by rfl) _ [] (by rfl) hOE.out DE.size A k c (L.take k) (by rfl) LT.out.symm AN.out (TK.out _ DE) (by simp; omega) ?_
            intro v1 w1 ow1 k1
            have bl1 : Below wr.heap.size wr w1 := DE.trans (k1.below DE.size hOE.out.blk)
            refine ⟨.inr bl1, ?_⟩
            refine Late.one 12 rfl (by kernel_rfl) rfl ?_
            go_simp
            have bl1' := bl1.alloc bl1.size (.cells #[.int .i64 xa, .int .i64 xb] 73)
            refine ⟨bl1', ?_⟩
            have li1 : ∀ j u, (cellsL Iv.encS [((xa, xb) : It)])[j]? = some u → (w1.alloc (.cells #[.int .i64 xa, .int .i64 xb] 73)).cell? ((⟨w1.heap.size, 0, none⟩ : Addr).add j) = some u := by rw [HX.out]; exact newcellsQ w1 #[.int .i64 xa, .int .i64 xb] 73
            replace ow1 := ow1.below (below_alloc w1 (.cells #[.int .i64 xa, .int .i64 xb] 73))
            replace bl1 := bl1'
            refine Late.one 13 rfl (by kernel_rfl) rfl ?_
            refine wp_app (.tmp 60) (.tmp 64) (by rfl) v1 ([] ++ L.take k) (by rfl) ow1 bl1.size ⟨w1.heap.size, 0, none⟩ 1 1 [(xa, xb)] (by rfl) rfl li1 (by rw [List.nil_append, LT.out]; omega) ?_
            intro v2 w2 ow2 k2
            have bl2 : Below wr.heap.size wr w2 := bl1.trans (k2.below bl1.size ow1.blk)
            refine ⟨.inr bl2, ?_⟩
            refine Late.one 20 rfl (by kernel_rfl) rfl ?_
            refine wp_appG (.tmp 65) (.tmp 71) (by rfl) v2 (([] ++ L.take k) ++ [(xa, xb)]) (by rfl) ow2 bl2.size A5 (n - k) c5 (L.drop k) (by rfl) LD.out TN.out (TC.out _ bl2) (by rw [List.nil_append, List.length_append, LT.out]; simp; omega) ?_
            intro v3 w3 ow3 k3
            have bl3 : Below wr.heap.size wr w3 := bl2.trans (k3.below bl2.size ow2.blk)
            refine ⟨.inr bl3, ?_⟩
            have ow4 : OwnI2 wr.heap.size w3 v3 (insL (xa, xb) L) := by rw [IN.out]; rw [List.nil_append] at ow3; exact ow3
            obtain ⟨A9, c9, rfl, -, -⟩ := ow4.form
            obtain ⟨⟨sc, sf⟩, FN⟩ := rq_store HH.out GG.out bl3 ow4
            rw [← LN.out] at sc
            clear ow1 ow2 ow3 ow4 k2 k3 li1
            generalize (insL (xa, xb) L).length = n9 at *
            refine Late.one 21 rfl (by kernel_rfl) rfl ?_
            go_simp
            refine Late.one 22 rfl (by kernel_rfl) rfl ?_
            go_simp
            refine Late.one 23 rfl (by kernel_rfl) rfl ?_
            go_simp
            refine Late.done (by kernel_rfl) ?_
            go_wp2
            go_end0
            exact ⟨rfl, FN.out⟩
          · go_simp
            refine ⟨DEX, ?_⟩
            refine Late.one 8 rfl (by kernel_rfl) rfl ?_
            refine wp_appG (.tmp 53) (.tmp 59) (by rfl) _ [] (by rfl) hOEX.out DEX.size A k c (L.take k) (by rfl) LT.out.symm AN.out (TK.out _ DEX) (by simp; omega) ?_
            intro v1 w1 ow1 k1
            have bl1 : Below wr.heap.size wr w1 := DEX.trans (k1.below DEX.size hOEX.out.blk)
            have li1 : ∀ j u, (cellsL Iv.encS [((xa, xb) : It)])[j]? = some u → w1.cell? ((⟨wr.heap.size + 1, 0, none⟩ : Addr).add j) = some u := fun j u hj => by
              have := hLEX.out j u hj
              rw [addr_off] at this ⊢
              exact (k1.cell hsEX.out (by simp [Value.ownBlock])).trans this
            refine ⟨.inr bl1, ?_⟩
            refine Late.one 13 rfl (by kernel_rfl) rfl ?_
            refine wp_app (.tmp 60) (.tmp 64) (by rfl) v1 ([] ++ L.take k) (by rfl) ow1 bl1.size ⟨wr.heap.size + 1, 0, none⟩ 1 1 [(xa, xb)] (by rfl) rfl li1 (by rw [List.nil_append, LT.out]; omega) ?_
            intro v2 w2 ow2 k2
            have bl2 : Below wr.heap.size wr w2 := bl1.trans (k2.below bl1.size ow1.blk)
            refine ⟨.inr bl2, ?_⟩
            refine Late.one 20 rfl (by kernel_rfl) rfl ?_
            refine wp_appG (.tmp 65) (.tmp 71) (by rfl) v2 (([] ++ L.take k) ++ [(xa, xb)]) (by rfl) ow2 bl2.size A5 (n - k) c5 (L.drop k) (by rfl) LD.out TN.out (TC.out _ bl2) (by rw [List.nil_append, List.length_append, LT.out]; simp; omega) ?_
            intro v3 w3 ow3 k3
            have bl3 : Below wr.heap.size wr w3 := bl2.trans (k3.below bl2.size ow2.blk)
            refine ⟨.inr bl3, ?_⟩
            have ow4 : OwnI2 wr.heap.size w3 v3 (insL (xa, xb) L) := by rw [IN.out]; rw [List.nil_append] at ow3; exact ow3
            obtain ⟨A9, c9, rfl, -, -⟩ := ow4.form
            obtain ⟨⟨sc, sf⟩, FN⟩ := rq_store HH.out GG.out bl3 ow4
            rw [← LN.out] at sc
            clear ow1 ow2 ow3 ow4 k2 k3 li1
            generalize (insL (xa, xb) L).length = n9 at *
            refine Late.one 21 rfl (by kernel_rfl) rfl ?_
            go_simp
            refine Late.one 22 rfl (by kernel_rfl) rfl ?_
            go_simp
            refine Late.one 23 rfl (by kernel_rfl) rfl ?_
            go_simp
            refine Late.done (by kernel_rfl) ?_
            go_wp2
            go_end0
            exact ⟨rfl, FN.out⟩
        · go_simp
          refine ⟨DX, ?_⟩
          refine Late.one 1 rfl (by kernel_rfl) rfl ?_
          go_simp
          refine ⟨DXE, ?_⟩
          refine Late.one 8 rfl (by kernel_rfl) rfl ?_
          refine wp_appG (.tmp 53) (.tmp 59) (by rfl) _ [] (by rfl) hOXE.out DXE.size A k c (L.take k) (by rfl) LT.out.symm AN.out (TK.out _ DXE) (by simp; omega) ?_
          intro v1 w1 ow1 k1
          have bl1 : Below wr.heap.size wr w1 := DXE.trans (k1.below DXE.size hOXE.out.blk)
          have li1 : ∀ j u, (cellsL Iv.encS [((xa, xb) : It)])[j]? = some u → w1.cell? ((⟨wr.heap.size, 0, none⟩ : Addr).add j) = some u := fun j u hj => by
            have := hLXE.out j u hj
            rw [addr_off] at this ⊢
            exact (k1.cell hsXE.out (by simp [Value.ownBlock])).trans this
          refine ⟨.inr bl1, ?_⟩
          refine Late.one 13 rfl (by kernel_rfl) rfl ?_
          refine wp_app (.tmp 60) (.tmp 64) (by rfl) v1 ([] ++ L.take k) (by rfl) ow1 bl1.size ⟨wr.heap.size, 0, none⟩ 1 1 [(xa, xb)] (by rfl) rfl li1 (by rw [List.nil_append, LT.out]; omega) ?_
          intro v2 w2 ow2 k2
          have bl2 : Below wr.heap.size wr w2 := bl1.trans (k2.below bl1.size ow1.blk)
          refine ⟨.inr bl2, ?_⟩
          refine Late.one 20 rfl (by kernel_rfl) rfl ?_
          refine wp_appG (.tmp 65) (.tmp 71) (by rfl) v2 (([] ++ L.take k) ++ [(xa, xb)]) (by rfl) ow2 bl2.size A5 (n - k) c5 (L.drop k) (by rfl) LD.out TN.out (TC.out _ bl2) (by rw [List.nil_append, List.length_append, LT.out]; simp; omega) ?_
          intro v3 w3 ow3 k3
          have bl3 : Below wr.heap.size wr w3 := bl2.trans (k3.below bl2.size ow2.blk)
          refine ⟨.inr bl3, ?_⟩
          have ow4 : OwnI2 wr.heap.size w3 v3 (insL (xa, xb) L) := by rw [IN.out]; rw [List.nil_append] at ow3; exact ow3
          obtain ⟨A9, c9, rfl, -, -⟩ := ow4.form
          obtain ⟨⟨sc, sf⟩, FN⟩ := rq_store HH.out GG.out bl3 ow4
          rw [← LN.out] at sc
          clear ow1 ow2 ow3 ow4 k2 k3 li1
          generalize (insL (xa, xb) L).length = n9 at *
          refine Late.one 21 rfl (by kernel_rfl) rfl ?_
          go_simp
          refine Late.one 22 rfl (by kernel_rfl) rfl ?_
          go_simp
          refine Late.one 23 rfl (by kernel_rfl) rfl ?_
          go_simp
          refine Late.done (by kernel_rfl) ?_
          go_wp2
          go_end0
          exact ⟨rfl, FN.out⟩
end Go.Proofs.Ytjodhfehfpmfaaa.Ti
