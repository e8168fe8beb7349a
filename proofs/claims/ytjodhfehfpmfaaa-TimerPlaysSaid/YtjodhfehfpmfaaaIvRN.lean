/- The walk of vokref6.Norm. -/
import Derived.Test.YtjodhfehfpmfaaaIvRNM
import Derived.Test.YtjodhfehfpmfaaaIvOpen
import Derived.Deep.AppendLies
import Derived.Deep.RegionHeldLaw
import Derived.Laws.AppendOwnNone
set_option linter.unusedVariables false
namespace Go.Proofs.Ytjodhfehfpmfaaa.Iv
open Go.RowKit

/-- append to an own row, whatever is appended, as one step of a region that draws -/
theorem step_own {P : Program} {w : World} {ops : Array Oper} {o : Oper} {a : Act} {K : Act → World → Prop} {Q : Exit → Act → World → Prop} {E : Prop} (hgd : o.guard = none) (s x : Operand) (t : TypeId)
    (ho : o.op = .call { callee := .builtin .append, args := #[s, x], argTypes := #[t, t] })
    (base : Nat) (e : TypeId) (i : TypeInfo) (z : Value) (size bytes : Nat) (ht : P.underlying t = some (.slice e)) (hi : P.info? e = some i) (hz : i.zero = some z)
    (hsize : i.size = size) (hby : i.bytes = bytes) (hzs : z.cells.size = size) (hsz : 0 < size)
    (v : Value) (n : Nat) (xs : List Value) (hs : a.eval s = v) (hown : w.ownsRow base e size v n xs)
    (ad : Addr) (m c : Nat) (news : List Value) (hx : a.eval x = .slice (some ad) m c) (hl : news.length = m * size) (hnews : ∀ j u, news[j]? = some u → w.cell? (ad.add j) = some u) (h1 : ∀ u ∈ news, u.oneCell' = true)
    (h63 : n + m ≤ maxLen) (hbytes : (n + m) * bytes ≤ 140737488355328) (hbase : base ≤ w.heap.size)
    (h : ∀ v' w', w'.ownsRow base e size v' (n + m) (xs ++ news) → w.grownBy w' v.ownBlock → K (a.put o.dst v') w') :
    if Region.wanted o (yielded ops a.tmps) = true then Oper.wp P o a w K Q else E := by
  rw [if_pos (by simp [Region.wanted, hgd])]
  exact wp_append_own w s x t ho base e i z size bytes ht hi hz hsize hby hzs hsz v n xs hs hown ad m c news hx hl hnews h1 h63 hbytes hbase fun v' w' h2 h3 _ => h v' w' h2 h3
/-- append of nil to an own row, as one step of a region that draws -/
theorem step_nil {P : Program} {w : World} {ops : Array Oper} {o : Oper} {a : Act} {K : Act → World → Prop} {Q : Exit → Act → World → Prop} {E : Prop} (hgd : o.guard = none) (s x : Operand) (t : TypeId)
    (ho : o.op = .call { callee := .builtin .append, args := #[s, x], argTypes := #[t, t] })
    (base : Nat) (e : TypeId) (i : TypeInfo) (size : Nat) (ht : P.underlying t = some (.slice e)) (hi : P.info? e = some i)
    (v : Value) (n : Nat) (xs : List Value) (hs : a.eval s = v) (hown : w.ownsRow base e size v n xs) (hx : a.eval x = .slice none 0 0)
    (h : K (a.put o.dst v) w) : if Region.wanted o (yielded ops a.tmps) = true then Oper.wp P o a w K Q else E := by
  rw [if_pos (by simp [Region.wanted, hgd])]
  have hrun := run_append_owned_none (P := P) (w := w) base t o.type e i size ht hi v n xs hown
  unfold Oper.wp
  simp [execOp, ho, resolve, invoke, builtin, hs, hx, hrun, Result.andThen]
  exact h
theorem far2 {w1 w2 : World} {row : Option Nat} {b o : Nat} {u v : Value} (g : w1.grownBy w2 row) (hb : b < w1.heap.size) (hn : some b ≠ row) (h : w1.cell? ⟨b, o, none⟩ = some u ∧ w1.cell? ⟨b, o + 1, none⟩ = some v) : w2.cell? ⟨b, o, none⟩ = some u ∧ w2.cell? ⟨b, o + 1, none⟩ = some v :=
  ⟨(World.grownBy.cell_far g ⟨b, o, none⟩ hb hn).trans h.1, (World.grownBy.cell_far g ⟨b, o + 1, none⟩ hb hn).trans h.2⟩
theorem encS_all (x : Int × Int) : ∀ u ∈ encS x, u.oneCell' = true := encS_one x
set_option maxRecDepth 100000 in
set_option maxHeartbeats 8000000 in
/-- vokref6.Norm -/
theorem refnorm_is (w : World) (A : Option Addr) (n c : Nat) (l : List (Int × Int)) (hA : SpAt w A n l) (hn : n ≤ 900000) : Calls Try.prog 15 #[.slice A n c] w (NewS w (normL l)) := by
  have HA := Lib.hid hA
  have LN := Lib.hid hA.1
  clear hA
  go_enter Try.func15, Try.ntmps15
  go_wp2
  go_loopw [3, 4] (fun ov i wr => ∃ (t : Nat) (s : List (Int × Int)) (v : Value), v = ov ∧ i = .int .i64 t ∧ t ≤ n ∧ Hid (Srt (l.take t) s) ∧ Hid (OwnP w.heap.size wr v s) ∧ Below w.heap.size w wr) (fun _ i _ => n - (intOf i).toNat)
  case atStart => exact ⟨0, [], _, rfl, rfl, Nat.zero_le _, Lib.hid Srt.nil, Lib.hid (OwnP.nil _ _), Below.refl _ _⟩
  case round =>
    obtain ⟨wo, rfl⟩ : ∃ wo : World, wo = wr := ⟨_, rfl⟩
    obtain ⟨t, s, v, rfl, rfl, ht, SR, OV, hB⟩ := hrel
    by_cases hlt : t < n
    · obtain ⟨b, o1, rfl, hbw, hc1⟩ := HA.out.2 (by omega)
      obtain ⟨c0, c1⟩ := hc1 t hlt
      replace c0 := (hB.cell (p := ⟨b, _, none⟩) hbw).trans c0
      replace c1 := (hB.cell (p := ⟨b, _, none⟩) hbw).trans c1
      have hbo := Nat.lt_of_lt_of_le hbw hB.size
      have N0 := Lib.hid (fun (h : (gt l t).2 ≤ (gt l t).1) => SR.out.none (by rw [← LN.out]; exact hlt) h)
      have N1 := Lib.hid (fun (h : ¬ (gt l t).2 ≤ (gt l t).1) (k : Nat) hk hi lo => SR.out.put (k := k) (by rw [← LN.out]; exact hlt) h hk hi lo)
      have SL := SR.out.len
      rw [List.length_take] at SL
      have s0 : decide ((t : Int) < n) = true := decide_eq_true (by omega)
      have s00 : decide (t < n) = true := decide_eq_true hlt
      have i9 : (t : Int) < n := by omega
      have W2 : IntKind.i64.wrap ((t : Int) + 1) = (t : Int) + 1 := IntWalk.i64_in _ (by omega)
      have BO := Lib.hid hB
      clear hc1 hB SR
      generalize gt l t = x at *
      by_cases hx : x.2 ≤ x.1
      · have s1 : decide (x.2 ≤ x.1) = true := decide_eq_true hx
        have S2 := Lib.hid (N0.out hx)
        clear N0 N1
        go_wp2
        go_big_quiet (fail)
        go_wp2
        go_roundw
        case rel => exact ⟨t + 1, s, _, rfl, by go_num, by omega, S2, Lib.hid (OV.out.on (below_drewN _ _ _)), BO.out.trans ((below_drewN _ _ _).mono BO.out.size)⟩
        case measure => simp [intOf]; omega
      · have s1 : decide (x.2 ≤ x.1) = false := decide_eq_false hx
        have NP := Lib.hid (N1.out hx)
        clear N1
        rcases OV.out.form with ⟨rfl, rfl⟩ | ⟨g, c2, rfl, hsp, hg1, hg2, hcap⟩
        · have NN := Lib.hid (NP.out 0 (Nat.le_refl _) (fun j h1 h2 => absurd h2 (by simp)) (fun j h => absurd h (by omega)))
          clear N0 NP hx SL
          go_wp2
          go_big_quiet (fail)
          have bA := below_drewN wo.heap.size wo nq
          have BA := Lib.hid (BO.out.trans (bA.mono BO.out.size))
          have a0 := (bA.cell (p := ⟨b, o1 + t * 2, none⟩) hbo).trans c0
          have a1 := (bA.cell (p := ⟨b, o1 + t * 2 + 1, none⟩) hbo).trans c1
          have hba := Nat.lt_of_lt_of_le hbo bA.size
          clear bA OV c0 c1 BO
          generalize wo.drewN nq = wa at *
          go_wp2
          refine wp_loop_rounds 1 ?_
          rw [rounds_succ]
          go_wp2
          go_big_quiet (fail)
          go_upto_region 9 with fail
          have bq : Below wa.heap.size wa (wa.drewN nq) := below_drewN _ _ _
          have cq0 := (bq.cell (p := ⟨b, o1 + t * 2, none⟩) hba).trans a0
          have cq1 := (bq.cell (p := ⟨b, o1 + t * 2 + 1, none⟩) hba).trans a1
          have BQ := BA.out.trans (bq.mono BA.out.size)
          have hbq := Nat.lt_of_lt_of_le hba bq.size
          generalize wa.drewN nq = wq at *
          clear bq a0 a1
          have LIT := Lib.hid (lit_own wq x)
          have bw := BQ.size
          have NILO := Lib.hid (World.ownsRow_nil ((wq.drew).alloc (.cells #[.int .i64 x.1, .int .i64 x.2] 40)) w.heap.size 40 2)
          obtain ⟨i0, hi, hz0, hz1, hz2⟩ := info_parts info_sp
          have CX : (((wq.drew).alloc (.cells #[.int .i64 x.1, .int .i64 x.2] 40)).cell? ⟨b, o1 + t * 2, none⟩ = some (.int .i64 x.1)) ∧ (((wq.drew).alloc (.cells #[.int .i64 x.1, .int .i64 x.2] 40)).cell? ⟨b, o1 + t * 2 + 1, none⟩ = some (.int .i64 x.2)) :=
            ⟨(((((Below.refl _ _).drew).alloc (Nat.le_refl _) _ : Below wq.heap.size wq ((wq.drew).alloc (.cells #[.int .i64 x.1, .int .i64 x.2] 40)))).cell (p := ⟨b, o1 + t * 2, none⟩) (by show b < wq.heap.size; omega)).trans cq0, (((((Below.refl _ _).drew).alloc (Nat.le_refl _) _ : Below wq.heap.size wq ((wq.drew).alloc (.cells #[.int .i64 x.1, .int .i64 x.2] 40)))).cell (p := ⟨b, o1 + t * 2 + 1, none⟩) (by show b < wq.heap.size; omega)).trans cq1⟩
          have CX1 := fun (w1 : World) (z : World.grownBy ((wq.drew).alloc (.cells #[.int .i64 x.1, .int .i64 x.2] 40)) w1 none) => far2 z (by show b < ((wq.drew).alloc (.cells #[.int .i64 x.1, .int .i64 x.2] 40)).heap.size; simp; omega) (by simp) CX
          have BX := Lib.hid (fun (w1 : World) (z : World.grownBy ((wq.drew).alloc (.cells #[.int .i64 x.1, .int .i64 x.2] 40)) w1 none) => show Below w.heap.size w w1 from ((BQ.drew).alloc BQ.size _).grown z (by simp; omega) (fun j hj => by cases hj))
          have NW := Lib.hid (World.ownsRow.cells LIT.out (g := wq.heap.size) rfl)
          clear CX
          go_region_held_law (fun w' => w'.cell? ⟨b, o1 + t * 2, none⟩ = some (.int .i64 x.1) ∧ w'.cell? ⟨b, o1 + t * 2 + 1, none⟩ = some (.int .i64 x.2)) (first | exact CX1 _ hgr2 | go_keep)
            (first
              | (refine step_nil (by rfl) (.tmp 53) (.tmp 56) _ (by rfl) wq.heap.size 40 i0 2 Try.underlying22 hi (.slice (some ⟨wq.heap.size, 0, none⟩) 1 1) 1 (encS x) (by rfl) LIT.out (by rfl) ?_)
              | (refine step_append_lies _ (by rfl) (.tmp 48) (.tmp 57) _ (by rfl) w.heap.size 40 i0 _ 2 16 Try.underlying22 hi hz0 hz1 hz2 rfl (by omega) (.slice none 0 0) 0 [] (by rfl) NILO.out ⟨wq.heap.size, 0, none⟩ 1 1 (encS x) (by rfl) (by rfl) NW.out (encS_all x) (by omega) (by decide) (by omega) (by simp; omega) (wq.heap.size + 1) (by simp) ?_; intro g2 cap2 w2 hown2 hgr2 hat2 hlt2))
          all_goals
            have OW := Lib.hid (show OwnP w.heap.size w2 (.slice (some ⟨g2, 0, none⟩) (0 + 1) cap2) (insL x [] 0) from hown2)
            have BW := Lib.hid (BX.out _ hgr2)
            clear hown2 hgr2 hat2 hlt2 CX1
            go_wp2
            go_roundw
            case rel => exact ⟨t + 1, _, _, rfl, by go_num, by omega, NN, OW, BW.out⟩
            case measure => simp [intOf]; omega
        have SP := Lib.hid hsp
        have HM' : ∃ m, s.length = m := ⟨_, rfl⟩
        obtain ⟨m, hm⟩ := HM'
        rw [hm] at SP hcap SL ⊢
        have HM := Lib.hid hm
        clear N0 hsp hm hx
        go_wp2
        go_big_quiet (fail)
        have bA := below_drewN wo.heap.size wo nq
        have BA := Lib.hid (BO.out.trans (bA.mono BO.out.size))
        have OA := Lib.hid (OV.out.on bA)
        rw [HM.out] at OA
        have SA := Lib.hid (SP.out.below bA)
        have a0 := (bA.cell (p := ⟨b, o1 + t * 2, none⟩) hbo).trans c0
        have a1 := (bA.cell (p := ⟨b, o1 + t * 2 + 1, none⟩) hbo).trans c1
        have hba := Nat.lt_of_lt_of_le hbo bA.size
        clear bA OV SP c0 c1 BO
        generalize wo.drewN nq = wa at *
        go_wp2
        go_loopw [5] (fun kv wx => ∃ (k : Nat) (q : Nat), k ≤ m ∧ kv = .int .i64 k ∧ Hid (∀ j, k ≤ j → j < m → x.1 < (gt s j).1) ∧ wx = wa.drewN q) (fun kv _ => (intOf kv).toNat)
        case atStart => exact ⟨m, 0, Nat.le_refl _, rfl, Lib.hid (fun j h1 h2 => absurd h2 (by omega)), rfl⟩
        case round =>
          obtain ⟨k, q, hk, rfl, D, rfl⟩ := hrel
          rcases Nat.eq_zero_or_pos k with kz | kp
          · have s2 : decide ((0 : Int) < (k : Int)) = false := decide_eq_false (by omega)
            have s22 : decide (0 < k) = false := decide_eq_false (by omega)
            have LO := Lib.hid (fun (j : Nat) (h : j + 1 = k) => show (gt s j).1 ≤ x.1 from absurd h (by omega))
            have KZ := Lib.hid kz
            clear kz
            go_wp2
            go_big_quiet (fail)
            (go_upto_region 9 with fail
             have bq : Below wa.heap.size wa ((wa.drewN q).drewN nq) := (below_drewN _ _ _).trans (below_drewN _ _ _)
             have cq0 := (bq.cell (p := ⟨b, o1 + t * 2, none⟩) hba).trans a0
             have cq1 := (bq.cell (p := ⟨b, o1 + t * 2 + 1, none⟩) hba).trans a1
             have OQ := OA.out.on bq
             have BQ := BA.out.trans (bq.mono BA.out.size)
             have hbq := Nat.lt_of_lt_of_le hba bq.size
             generalize (wa.drewN q).drewN nq = wq at *
             have NN := Lib.hid (NP.out k (by rw [HM.out]; exact hk) (fun j h1 h2 => D.out j h1 (by rw [HM.out] at h2; exact h2)) LO.out)
             have NLEN := Lib.hid (ins_len x s k (by rw [HM.out]; exact hk))
             have NCEL := Lib.hid (ins_cells x s k)
             have SSL := Lib.hid (cells_len (enc := encS) (k := 2) (fun _ => rfl) s)
             rw [HM.out] at NLEN SSL
             clear bq D LO NP a0 a1
             have LIT := Lib.hid (lit_own wq x)
             have bw := BQ.size
             have BWA := Lib.hid ((BQ.drew).alloc BQ.size (.cells #[.int .i64 x.1, .int .i64 x.2] 40))
             obtain ⟨i0, hi, hz0, hz1, hz2⟩ := info_parts info_sp
             have CX : (((wq.drew).alloc (.cells #[.int .i64 x.1, .int .i64 x.2] 40)).cell? ⟨b, o1 + t * 2, none⟩ = some (.int .i64 x.1)) ∧ (((wq.drew).alloc (.cells #[.int .i64 x.1, .int .i64 x.2] 40)).cell? ⟨b, o1 + t * 2 + 1, none⟩ = some (.int .i64 x.2)) :=
               ⟨(((((Below.refl _ _).drew).alloc (Nat.le_refl _) _ : Below wq.heap.size wq ((wq.drew).alloc (.cells #[.int .i64 x.1, .int .i64 x.2] 40)))).cell (p := ⟨b, o1 + t * 2, none⟩) (by show b < wq.heap.size; omega)).trans cq0, (((((Below.refl _ _).drew).alloc (Nat.le_refl _) _ : Below wq.heap.size wq ((wq.drew).alloc (.cells #[.int .i64 x.1, .int .i64 x.2] 40)))).cell (p := ⟨b, o1 + t * 2 + 1, none⟩) (by show b < wq.heap.size; omega)).trans cq1⟩
             have LA : wq.heap.size + 1 = ((wq.drew).alloc (.cells #[.int .i64 x.1, .int .i64 x.2] 40)).heap.size := by simp
             have SZ1 := Lib.hid (show 1 + (m - k) ≤ maxLen by unfold maxLen; omega)
             have SZ2 := Lib.hid (show k + (1 + (m - k)) ≤ maxLen by unfold maxLen; omega)
             have SZ3 := Lib.hid (show k + 1 ≤ maxLen by unfold maxLen; omega)
             have szn : m * 2 ≤ 2000000 := by omega
             have OQ2 : wq.ownsRow w.heap.size 40 2 (.slice (some ⟨g, 0, none⟩) m c2) m (cellsL encS s) := by have z := OQ; unfold OwnP at z; rw [HM.out] at z; exact z
             have hgq := (World.ownsRow.lt OQ2 g rfl).2
             have nbg : b ≠ g := by omega
             have CX1 := fun {w1 : World} (z : World.grownBy ((wq.drew).alloc (.cells #[.int .i64 x.1, .int .i64 x.2] 40)) w1 (Value.ownBlock (.slice (some ⟨wq.heap.size, 0, none⟩) 1 1))) => far2 z (by show b < _; omega) (by simp [Value.ownBlock]; omega) CX
             have CX2 := fun {w1 w2 : World} {kk : Nat} (z : World.grownBy w1 w2 (Value.ownBlock (.slice (some ⟨g, 0, none⟩) kk c2))) (z1 : w1.cell? ⟨b, o1 + t * 2, none⟩ = some (.int .i64 x.1) ∧ w1.cell? ⟨b, o1 + t * 2 + 1, none⟩ = some (.int .i64 x.2)) (y : b < w1.heap.size) => far2 z y (by simp [Value.ownBlock]; omega) z1
             have CX3 := fun {w1 : World} (z : World.grownBy ((wq.drew).alloc (.cells #[.int .i64 x.1, .int .i64 x.2] 40)) w1 (Value.ownBlock (.slice (some ⟨wq.heap.size, 0, none⟩) 1 1))) => show b < w1.heap.size from Nat.lt_of_lt_of_le (Nat.lt_of_lt_of_le (show b < wq.heap.size + 1 by omega) (Nat.le_of_eq LA)) z.size
             have CX4 := fun {w1 : World} (z : World.grownBy ((wq.drew).alloc (.cells #[.int .i64 x.1, .int .i64 x.2] 40)) w1 (Value.ownBlock (.slice (some ⟨wq.heap.size, 0, none⟩) 1 1))) => show w.heap.size ≤ w1.heap.size from Nat.le_trans (Nat.le_trans (show w.heap.size ≤ wq.heap.size + 1 by omega) (Nat.le_of_eq LA)) z.size
             have BX := Lib.hid (fun (kk : Nat) (w1 w2 : World) (z1 : World.grownBy ((wq.drew).alloc (.cells #[.int .i64 x.1, .int .i64 x.2] 40)) w1 (Value.ownBlock (.slice (some ⟨wq.heap.size, 0, none⟩) 1 1))) (z : World.grownBy w1 w2 (Value.ownBlock (.slice (some ⟨g, 0, none⟩) kk c2))) => show Below w.heap.size w w2 from
               (((BQ.drew).alloc BQ.size _).grown z1 (Nat.le_trans (show w.heap.size ≤ wq.heap.size + 1 by omega) (Nat.le_of_eq LA)) (fun j hj => by injection hj with hj; show w.heap.size ≤ j; rw [← hj]; exact bw)).grown z (Nat.le_trans (Nat.le_trans (show w.heap.size ≤ wq.heap.size + 1 by omega) (Nat.le_of_eq LA)) z1.size) (fun j hj => by injection hj with hj; show w.heap.size ≤ j; rw [← hj]; exact hg1))
             have i1 : (0 : Int) ≤ (k : Int) := by omega
             have i2 : (k : Int) ≤ (m : Int) := by omega
             have i3 : k ≤ c2 := by omega
             have i5 : (k : Int) ≤ (c2 : Int) := by omega
             by_cases hkm : k < m
             · have CUT := Lib.hid (own_cut OQ2 (Nat.le_of_lt hkm))
               have LEN := Lib.hid (show (cellsL encS (s.drop k)).length = (m - k) * 2 by rw [cells_len (k := 2) (fun _ => rfl), List.length_drop, HM.out])
               have GET := Lib.hid (fun j u (q : (cellsL encS (s.drop k))[j]? = some u) => show wq.cell? ((⟨g, k * 2, none⟩ : Addr).add j) = some u by
                 rw [addr_off]
                 have e : cellsL encS s = (cellsL encS s).take (k * 2) ++ cellsL encS (s.drop k) := by rw [cells_take (k := 2) (fun _ => rfl), ← cells_app, List.take_append_drop]
                 have z := World.ownsRow.cells OQ2 (g := g) rfl (k * 2 + j) u (by
                   rw [e, List.getElem?_append_right (by rw [List.length_take]; omega), List.length_take, Nat.min_eq_left (by rw [SSL.out]; omega), show k * 2 + j - k * 2 = j by omega]; exact q)
                 rwa [addr_off, Nat.zero_add] at z)
               have GET2 := Lib.hid (fun j u (q : (cellsL encS (s.drop k))[j]? = some u) => show ((wq.drew).alloc (.cells #[.int .i64 x.1, .int .i64 x.2] 40)).cell? ((⟨g, k * 2, none⟩ : Addr).add j) = some u by
                 have z := GET.out j u q
                 rw [addr_off] at z ⊢
                 exact ((((Below.refl _ _).drew).alloc (Nat.le_refl _) _ : Below wq.heap.size wq ((wq.drew).alloc (.cells #[.int .i64 x.1, .int .i64 x.2] 40))).cell (p := ⟨g, k * 2 + j, none⟩) hgq).trans z)
               have ONE := Lib.hid (cells_one encS_one (s.drop k))
               have ONE2 := Lib.hid (fun u (q : u ∈ encS x ++ cellsL encS (s.drop k)) => show u.oneCell' = true by
                 rcases List.mem_append.1 q with q | q
                 · exact encS_one x u q
                 · exact ONE.out u q)
               have CUT2 := Lib.hid (World.ownsRow.alloc (World.ownsRow.drew CUT.out) (.cells #[.int .i64 x.1, .int .i64 x.2] 40))
               have WX := Lib.hid (fun (w2 : World) (g2 cap2 : Nat) (q : w2.ownsRow w.heap.size 40 2 (.slice (some ⟨g2, 0, none⟩) (k + (1 + (m - k))) cap2) (k + (1 + (m - k))) ((cellsL encS s).take (k * 2) ++ (encS x ++ cellsL encS (s.drop k)))) => show OwnP w.heap.size w2 (.slice (some ⟨g2, 0, none⟩) (k + (1 + (m - k))) cap2) (insL x s k) by
                 unfold OwnP
                 rw [NLEN.out, NCEL.out]; exact q)
               have i4 : k < c2 := by omega
               have j1 : ¬ c2 = k := by omega
               have j3 : ¬ c2 - k = 0 := by omega
               clear CX LA OQ OQ2
               go_region_held_law (fun w' => w'.cell? ⟨b, o1 + t * 2, none⟩ = some (.int .i64 x.1) ∧ w'.cell? ⟨b, o1 + t * 2 + 1, none⟩ = some (.int .i64 x.2)) (first | exact CX2 hgr2 (CX1 hgr1) (CX3 hgr1) | exact CX1 hgr1 | go_keep)
                 (first
                   | (refine step_append_lies _ (by rfl) (.tmp 53) (.tmp 56) _ (by rfl) wq.heap.size 40 i0 _ 2 16 Try.underlying22 hi hz0 hz1 hz2 rfl (by omega) (.slice (some ⟨wq.heap.size, 0, none⟩) 1 1) 1 (encS x) (by rfl) LIT.out ⟨g, k * 2, none⟩ (m - k) (c2 - k) (cellsL encS (s.drop k)) (by rfl) LEN.out GET2.out ONE.out (by omega) SZ1.out (by omega) (by simp) (wq.heap.size + 1) (by simp) ?_; intro g1 cap1 w1 hown1 hgr1 hat1 hlt1)
                   | (refine step_append_lies _ (by rfl) (.tmp 48) (.tmp 57) _ (by rfl) w.heap.size 40 i0 _ 2 16 Try.underlying22 hi hz0 hz1 hz2 rfl (by omega) (.slice (some ⟨g, 0, none⟩) k c2) k ((cellsL encS s).take (k * 2)) (by rfl) (World.ownsRow.kept CUT2.out hgr1 (.inr (by simp [Value.ownBlock]; omega))) ⟨g1, 0, none⟩ (1 + (m - k)) cap1 (encS x ++ cellsL encS (s.drop k)) (by rfl) hown1.1 (World.ownsRow.cells hown1 rfl) ONE2.out (by omega) SZ2.out (by omega) (CX4 hgr1) w1.heap.size rfl ?_; intro g2 cap2 w2 hown2 hgr2 hat2 hlt2))
               all_goals
                 have OW := Lib.hid (WX.out _ _ _ hown2)
                 have BW := Lib.hid (BX.out _ _ _ hgr1 hgr2)
                 clear hown1 hown2 hgr1 hgr2 hat1 hat2 hlt1 hlt2 CX1 CX2 CX3 CX4
                 go_wp2
                 go_roundw
                 case rel => exact ⟨t + 1, _, _, rfl, by go_num, by omega, NN, OW, BW.out⟩
                 case measure => simp [intOf]; omega
             · obtain rfl : k = m := by omega
               have OQ3 := Lib.hid (World.ownsRow.alloc (World.ownsRow.drew OQ2) (.cells #[.int .i64 x.1, .int .i64 x.2] 40))
               have EW := Lib.hid (show insL x s k = s ++ [x] by unfold insL; rw [List.take_of_length_le (by rw [HM.out]; exact Nat.le_refl _), List.drop_eq_nil_of_le (by rw [HM.out]; exact Nat.le_refl _)])
               have WX := Lib.hid (fun (w2 : World) (v2 : Value) (z : w2.ownsRow w.heap.size 40 2 v2 (k + 1) (cellsL encS s ++ encS x)) => show OwnP w.heap.size w2 v2 (insL x s k) by
                 rw [EW.out]
                 unfold OwnP
                 have e1 : cellsL encS [x] = encS x := by unfold cellsL; simp
                 rw [List.length_append, HM.out, cells_app, e1]; exact z)
               clear CX LA OQ OQ2 hkm NCEL NLEN
               by_cases hck : c2 = k
               · subst hck
                 go_region_held_law (fun w' => w'.cell? ⟨b, o1 + t * 2, none⟩ = some (.int .i64 x.1) ∧ w'.cell? ⟨b, o1 + t * 2 + 1, none⟩ = some (.int .i64 x.2)) (first | exact CX2 hgr2 (CX1 hgr1) (CX3 hgr1) | exact CX1 hgr1 | go_keep)
                   (first
                     | (refine step_own (by rfl) (.tmp 53) (.tmp 56) _ (by rfl) wq.heap.size 40 i0 _ 2 16 Try.underlying22 hi hz0 hz1 hz2 rfl (by omega) (.slice (some ⟨wq.heap.size, 0, none⟩) 1 1) 1 (encS x) (by rfl) LIT.out ⟨g, 0, none⟩ 0 0 [] (by rfl) (by rfl) (by intro j u q; simp at q) (by intro u q; simp at q) (by decide) (by decide) (by simp) ?_; intro v1 w1 hown1 hgr1; obtain ⟨g1, cap1, rfl, hq1, hq2⟩ := World.ownsRow.form hown1 (by omega))
                     | (refine step_own (by rfl) (.tmp 48) (.tmp 57) _ (by rfl) w.heap.size 40 i0 _ 2 16 Try.underlying22 hi hz0 hz1 hz2 rfl (by omega) (.slice (some ⟨g, 0, none⟩) c2 c2) c2 (cellsL encS s) (by rfl) (World.ownsRow.kept OQ3.out hgr1 (.inr (by simp [Value.ownBlock]; omega))) ⟨g1, 0, none⟩ 1 cap1 (encS x) (by rfl) (by rfl) (World.ownsRow.cells hown1 rfl) (encS_all x) SZ3.out (by omega) (CX4 hgr1) ?_; intro v2 w2 hown2 hgr2))
                 all_goals
                   have OW := Lib.hid (WX.out _ _ hown2)
                   have BW := Lib.hid (BX.out _ _ _ hgr1 hgr2)
                   clear hown1 hown2 hgr1 hgr2 hq1 hq2 CX1 CX2 CX3 CX4
                   go_wp2
                   go_roundw
                   case rel => exact ⟨t + 1, _, _, rfl, by go_num, by omega, NN, OW, BW.out⟩
                   case measure => simp [intOf]; omega
               · have j3 : ¬ c2 - k = 0 := by omega
                 go_region_held_law (fun w' => w'.cell? ⟨b, o1 + t * 2, none⟩ = some (.int .i64 x.1) ∧ w'.cell? ⟨b, o1 + t * 2 + 1, none⟩ = some (.int .i64 x.2)) (first | exact CX2 hgr2 (CX1 hgr1) (CX3 hgr1) | exact CX1 hgr1 | go_keep)
                   (first
                     | (refine step_own (by rfl) (.tmp 53) (.tmp 56) _ (by rfl) wq.heap.size 40 i0 _ 2 16 Try.underlying22 hi hz0 hz1 hz2 rfl (by omega) (.slice (some ⟨wq.heap.size, 0, none⟩) 1 1) 1 (encS x) (by rfl) LIT.out ⟨g, k * 2, none⟩ 0 (c2 - k) [] (by rfl) (by rfl) (by intro j u q; simp at q) (by intro u q; simp at q) (by decide) (by decide) (by simp) ?_; intro v1 w1 hown1 hgr1; obtain ⟨g1, cap1, rfl, hq1, hq2⟩ := World.ownsRow.form hown1 (by omega))
                     | (refine step_own (by rfl) (.tmp 48) (.tmp 57) _ (by rfl) w.heap.size 40 i0 _ 2 16 Try.underlying22 hi hz0 hz1 hz2 rfl (by omega) (.slice (some ⟨g, 0, none⟩) k c2) k (cellsL encS s) (by rfl) (World.ownsRow.kept OQ3.out hgr1 (.inr (by simp [Value.ownBlock]; omega))) ⟨g1, 0, none⟩ 1 cap1 (encS x) (by rfl) (by rfl) (World.ownsRow.cells hown1 rfl) (encS_all x) SZ3.out (by omega) (CX4 hgr1) ?_; intro v2 w2 hown2 hgr2))
                 all_goals
                   have OW := Lib.hid (WX.out _ _ hown2)
                   have BW := Lib.hid (BX.out _ _ _ hgr1 hgr2)
                   clear hown1 hown2 hgr1 hgr2 hq1 hq2 CX1 CX2 CX3 CX4
                   go_wp2
                   go_roundw
                   case rel => exact ⟨t + 1, _, _, rfl, by go_num, by omega, NN, OW, BW.out⟩
                   case measure => simp [intOf]; omega)
          · obtain ⟨k0, hk0⟩ : ∃ k', k = k' + 1 := ⟨k - 1, by omega⟩
            obtain ⟨b2, o2, ea, hb2, hcc2⟩ := SA.out.2 (by omega)
            injection ea with ea
            injection ea with ea1 ea2
            subst ea1 ea2
            obtain ⟨e0, -⟩ := hcc2 k0 (by omega)
            rw [Nat.zero_add] at e0
            have HK0 := Lib.hid hk0
            have j1 : (k0 : Int) < m := by omega
            have j2 : k0 < m := by omega
            have j5 : decide ((0 : Int) < (k : Int)) = true := decide_eq_true (by omega)
            have j6 : decide (0 < k) = true := decide_eq_true (by omega)
            have W3 : IntKind.i64.wrap ((k : Int) - 1) = (k0 : Int) := by rw [show (k : Int) - 1 = (k0 : Int) from by omega]; exact IntWalk.i64_in _ (by omega)
            clear hcc2 hk0
            have HY : ∃ y, gt s k0 = y := ⟨_, rfl⟩
            obtain ⟨y, hy⟩ := HY
            rw [hy] at e0
            have HY := Lib.hid hy
            clear hy
            by_cases hyx : x.1 < y.1
            · have s2 : decide (x.1 < y.1) = true := decide_eq_true hyx
              have D2 := Lib.hid (show ∀ j, k0 ≤ j → j < m → x.1 < (gt s j).1 from fun j h1 h2 => by
                by_cases e : j = k0
                · subst e; rw [HY.out]; exact hyx
                · exact D.out j (by have := HK0.out; omega) h2)
              clear D
              go_wp2
              go_big_quiet (fail)
              go_wp2
              go_roundw
              case rel => exact ⟨k0, _, by omega, by go_num, D2, rfl⟩
              case measure => have := HK0.out; simp [intOf]; omega
            · have s2 : decide (x.1 < y.1) = false := decide_eq_false hyx
              have LO := Lib.hid (fun (j : Nat) (h : j + 1 = k) => show (gt s j).1 ≤ x.1 from by
                obtain rfl : j = k0 := by have := HK0.out; omega
                rw [HY.out]; omega)
              go_wp2
              go_big_quiet (fail)
              (go_upto_region 9 with fail
               have bq : Below wa.heap.size wa ((wa.drewN q).drewN nq) := (below_drewN _ _ _).trans (below_drewN _ _ _)
               have cq0 := (bq.cell (p := ⟨b, o1 + t * 2, none⟩) hba).trans a0
               have cq1 := (bq.cell (p := ⟨b, o1 + t * 2 + 1, none⟩) hba).trans a1
               have OQ := OA.out.on bq
               have BQ := BA.out.trans (bq.mono BA.out.size)
               have hbq := Nat.lt_of_lt_of_le hba bq.size
               generalize (wa.drewN q).drewN nq = wq at *
               have NN := Lib.hid (NP.out k (by rw [HM.out]; exact hk) (fun j h1 h2 => D.out j h1 (by rw [HM.out] at h2; exact h2)) LO.out)
               have NLEN := Lib.hid (ins_len x s k (by rw [HM.out]; exact hk))
               have NCEL := Lib.hid (ins_cells x s k)
               have SSL := Lib.hid (cells_len (enc := encS) (k := 2) (fun _ => rfl) s)
               rw [HM.out] at NLEN SSL
               clear bq D LO NP a0 a1
               have LIT := Lib.hid (lit_own wq x)
               have bw := BQ.size
               have BWA := Lib.hid ((BQ.drew).alloc BQ.size (.cells #[.int .i64 x.1, .int .i64 x.2] 40))
               obtain ⟨i0, hi, hz0, hz1, hz2⟩ := info_parts info_sp
               have CX : (((wq.drew).alloc (.cells #[.int .i64 x.1, .int .i64 x.2] 40)).cell? ⟨b, o1 + t * 2, none⟩ = some (.int .i64 x.1)) ∧ (((wq.drew).alloc (.cells #[.int .i64 x.1, .int .i64 x.2] 40)).cell? ⟨b, o1 + t * 2 + 1, none⟩ = some (.int .i64 x.2)) :=
                 ⟨(((((Below.refl _ _).drew).alloc (Nat.le_refl _) _ : Below wq.heap.size wq ((wq.drew).alloc (.cells #[.int .i64 x.1, .int .i64 x.2] 40)))).cell (p := ⟨b, o1 + t * 2, none⟩) (by show b < wq.heap.size; omega)).trans cq0, (((((Below.refl _ _).drew).alloc (Nat.le_refl _) _ : Below wq.heap.size wq ((wq.drew).alloc (.cells #[.int .i64 x.1, .int .i64 x.2] 40)))).cell (p := ⟨b, o1 + t * 2 + 1, none⟩) (by show b < wq.heap.size; omega)).trans cq1⟩
               have LA : wq.heap.size + 1 = ((wq.drew).alloc (.cells #[.int .i64 x.1, .int .i64 x.2] 40)).heap.size := by simp
               have SZ1 := Lib.hid (show 1 + (m - k) ≤ maxLen by unfold maxLen; omega)
               have SZ2 := Lib.hid (show k + (1 + (m - k)) ≤ maxLen by unfold maxLen; omega)
               have SZ3 := Lib.hid (show k + 1 ≤ maxLen by unfold maxLen; omega)
               have szn : m * 2 ≤ 2000000 := by omega
               have OQ2 : wq.ownsRow w.heap.size 40 2 (.slice (some ⟨g, 0, none⟩) m c2) m (cellsL encS s) := by have z := OQ; unfold OwnP at z; rw [HM.out] at z; exact z
               have hgq := (World.ownsRow.lt OQ2 g rfl).2
               have nbg : b ≠ g := by omega
               have CX1 := fun {w1 : World} (z : World.grownBy ((wq.drew).alloc (.cells #[.int .i64 x.1, .int .i64 x.2] 40)) w1 (Value.ownBlock (.slice (some ⟨wq.heap.size, 0, none⟩) 1 1))) => far2 z (by show b < _; omega) (by simp [Value.ownBlock]; omega) CX
               have CX2 := fun {w1 w2 : World} {kk : Nat} (z : World.grownBy w1 w2 (Value.ownBlock (.slice (some ⟨g, 0, none⟩) kk c2))) (z1 : w1.cell? ⟨b, o1 + t * 2, none⟩ = some (.int .i64 x.1) ∧ w1.cell? ⟨b, o1 + t * 2 + 1, none⟩ = some (.int .i64 x.2)) (y : b < w1.heap.size) => far2 z y (by simp [Value.ownBlock]; omega) z1
               have CX3 := fun {w1 : World} (z : World.grownBy ((wq.drew).alloc (.cells #[.int .i64 x.1, .int .i64 x.2] 40)) w1 (Value.ownBlock (.slice (some ⟨wq.heap.size, 0, none⟩) 1 1))) => show b < w1.heap.size from Nat.lt_of_lt_of_le (Nat.lt_of_lt_of_le (show b < wq.heap.size + 1 by omega) (Nat.le_of_eq LA)) z.size
               have CX4 := fun {w1 : World} (z : World.grownBy ((wq.drew).alloc (.cells #[.int .i64 x.1, .int .i64 x.2] 40)) w1 (Value.ownBlock (.slice (some ⟨wq.heap.size, 0, none⟩) 1 1))) => show w.heap.size ≤ w1.heap.size from Nat.le_trans (Nat.le_trans (show w.heap.size ≤ wq.heap.size + 1 by omega) (Nat.le_of_eq LA)) z.size
               have BX := Lib.hid (fun (kk : Nat) (w1 w2 : World) (z1 : World.grownBy ((wq.drew).alloc (.cells #[.int .i64 x.1, .int .i64 x.2] 40)) w1 (Value.ownBlock (.slice (some ⟨wq.heap.size, 0, none⟩) 1 1))) (z : World.grownBy w1 w2 (Value.ownBlock (.slice (some ⟨g, 0, none⟩) kk c2))) => show Below w.heap.size w w2 from
                 (((BQ.drew).alloc BQ.size _).grown z1 (Nat.le_trans (show w.heap.size ≤ wq.heap.size + 1 by omega) (Nat.le_of_eq LA)) (fun j hj => by injection hj with hj; show w.heap.size ≤ j; rw [← hj]; exact bw)).grown z (Nat.le_trans (Nat.le_trans (show w.heap.size ≤ wq.heap.size + 1 by omega) (Nat.le_of_eq LA)) z1.size) (fun j hj => by injection hj with hj; show w.heap.size ≤ j; rw [← hj]; exact hg1))
               have i1 : (0 : Int) ≤ (k : Int) := by omega
               have i2 : (k : Int) ≤ (m : Int) := by omega
               have i3 : k ≤ c2 := by omega
               have i5 : (k : Int) ≤ (c2 : Int) := by omega
               by_cases hkm : k < m
               · have CUT := Lib.hid (own_cut OQ2 (Nat.le_of_lt hkm))
                 have LEN := Lib.hid (show (cellsL encS (s.drop k)).length = (m - k) * 2 by rw [cells_len (k := 2) (fun _ => rfl), List.length_drop, HM.out])
                 have GET := Lib.hid (fun j u (q : (cellsL encS (s.drop k))[j]? = some u) => show wq.cell? ((⟨g, k * 2, none⟩ : Addr).add j) = some u by
                   rw [addr_off]
                   have e : cellsL encS s = (cellsL encS s).take (k * 2) ++ cellsL encS (s.drop k) := by rw [cells_take (k := 2) (fun _ => rfl), ← cells_app, List.take_append_drop]
                   have z := World.ownsRow.cells OQ2 (g := g) rfl (k * 2 + j) u (by
                     rw [e, List.getElem?_append_right (by rw [List.length_take]; omega), List.length_take, Nat.min_eq_left (by rw [SSL.out]; omega), show k * 2 + j - k * 2 = j by omega]; exact q)
                   rwa [addr_off, Nat.zero_add] at z)
                 have GET2 := Lib.hid (fun j u (q : (cellsL encS (s.drop k))[j]? = some u) => show ((wq.drew).alloc (.cells #[.int .i64 x.1, .int .i64 x.2] 40)).cell? ((⟨g, k * 2, none⟩ : Addr).add j) = some u by
                   have z := GET.out j u q
                   rw [addr_off] at z ⊢
                   exact ((((Below.refl _ _).drew).alloc (Nat.le_refl _) _ : Below wq.heap.size wq ((wq.drew).alloc (.cells #[.int .i64 x.1, .int .i64 x.2] 40))).cell (p := ⟨g, k * 2 + j, none⟩) hgq).trans z)
                 have ONE := Lib.hid (cells_one encS_one (s.drop k))
                 have ONE2 := Lib.hid (fun u (q : u ∈ encS x ++ cellsL encS (s.drop k)) => show u.oneCell' = true by
                   rcases List.mem_append.1 q with q | q
                   · exact encS_one x u q
                   · exact ONE.out u q)
                 have CUT2 := Lib.hid (World.ownsRow.alloc (World.ownsRow.drew CUT.out) (.cells #[.int .i64 x.1, .int .i64 x.2] 40))
                 have WX := Lib.hid (fun (w2 : World) (g2 cap2 : Nat) (q : w2.ownsRow w.heap.size 40 2 (.slice (some ⟨g2, 0, none⟩) (k + (1 + (m - k))) cap2) (k + (1 + (m - k))) ((cellsL encS s).take (k * 2) ++ (encS x ++ cellsL encS (s.drop k)))) => show OwnP w.heap.size w2 (.slice (some ⟨g2, 0, none⟩) (k + (1 + (m - k))) cap2) (insL x s k) by
                   unfold OwnP
                   rw [NLEN.out, NCEL.out]; exact q)
                 have i4 : k < c2 := by omega
                 have j1 : ¬ c2 = k := by omega
                 have j3 : ¬ c2 - k = 0 := by omega
                 clear CX LA OQ OQ2
                 go_region_held_law (fun w' => w'.cell? ⟨b, o1 + t * 2, none⟩ = some (.int .i64 x.1) ∧ w'.cell? ⟨b, o1 + t * 2 + 1, none⟩ = some (.int .i64 x.2)) (first | exact CX2 hgr2 (CX1 hgr1) (CX3 hgr1) | exact CX1 hgr1 | go_keep)
                   (first
                     | (refine step_append_lies _ (by rfl) (.tmp 53) (.tmp 56) _ (by rfl) wq.heap.size 40 i0 _ 2 16 Try.underlying22 hi hz0 hz1 hz2 rfl (by omega) (.slice (some ⟨wq.heap.size, 0, none⟩) 1 1) 1 (encS x) (by rfl) LIT.out ⟨g, k * 2, none⟩ (m - k) (c2 - k) (cellsL encS (s.drop k)) (by rfl) LEN.out GET2.out ONE.out (by omega) SZ1.out (by omega) (by simp) (wq.heap.size + 1) (by simp) ?_; intro g1 cap1 w1 hown1 hgr1 hat1 hlt1)
                     | (refine step_append_lies _ (by rfl) (.tmp 48) (.tmp 57) _ (by rfl) w.heap.size 40 i0 _ 2 16 Try.underlying22 hi hz0 hz1 hz2 rfl (by omega) (.slice (some ⟨g, 0, none⟩) k c2) k ((cellsL encS s).take (k * 2)) (by rfl) (World.ownsRow.kept CUT2.out hgr1 (.inr (by simp [Value.ownBlock]; omega))) ⟨g1, 0, none⟩ (1 + (m - k)) cap1 (encS x ++ cellsL encS (s.drop k)) (by rfl) hown1.1 (World.ownsRow.cells hown1 rfl) ONE2.out (by omega) SZ2.out (by omega) (CX4 hgr1) w1.heap.size rfl ?_; intro g2 cap2 w2 hown2 hgr2 hat2 hlt2))
                 all_goals
                   have OW := Lib.hid (WX.out _ _ _ hown2)
                   have BW := Lib.hid (BX.out _ _ _ hgr1 hgr2)
                   clear hown1 hown2 hgr1 hgr2 hat1 hat2 hlt1 hlt2 CX1 CX2 CX3 CX4
                   go_wp2
                   go_roundw
                   case rel => exact ⟨t + 1, _, _, rfl, by go_num, by omega, NN, OW, BW.out⟩
                   case measure => simp [intOf]; omega
               · obtain rfl : k = m := by omega
                 have OQ3 := Lib.hid (World.ownsRow.alloc (World.ownsRow.drew OQ2) (.cells #[.int .i64 x.1, .int .i64 x.2] 40))
                 have EW := Lib.hid (show insL x s k = s ++ [x] by unfold insL; rw [List.take_of_length_le (by rw [HM.out]; exact Nat.le_refl _), List.drop_eq_nil_of_le (by rw [HM.out]; exact Nat.le_refl _)])
                 have WX := Lib.hid (fun (w2 : World) (v2 : Value) (z : w2.ownsRow w.heap.size 40 2 v2 (k + 1) (cellsL encS s ++ encS x)) => show OwnP w.heap.size w2 v2 (insL x s k) by
                   rw [EW.out]
                   unfold OwnP
                   have e1 : cellsL encS [x] = encS x := by unfold cellsL; simp
                   rw [List.length_append, HM.out, cells_app, e1]; exact z)
                 clear CX LA OQ OQ2 hkm NCEL NLEN
                 by_cases hck : c2 = k
                 · subst hck
                   go_region_held_law (fun w' => w'.cell? ⟨b, o1 + t * 2, none⟩ = some (.int .i64 x.1) ∧ w'.cell? ⟨b, o1 + t * 2 + 1, none⟩ = some (.int .i64 x.2)) (first | exact CX2 hgr2 (CX1 hgr1) (CX3 hgr1) | exact CX1 hgr1 | go_keep)
                     (first
                       | (refine step_own (by rfl) (.tmp 53) (.tmp 56) _ (by rfl) wq.heap.size 40 i0 _ 2 16 Try.underlying22 hi hz0 hz1 hz2 rfl (by omega) (.slice (some ⟨wq.heap.size, 0, none⟩) 1 1) 1 (encS x) (by rfl) LIT.out ⟨g, 0, none⟩ 0 0 [] (by rfl) (by rfl) (by intro j u q; simp at q) (by intro u q; simp at q) (by decide) (by decide) (by simp) ?_; intro v1 w1 hown1 hgr1; obtain ⟨g1, cap1, rfl, hq1, hq2⟩ := World.ownsRow.form hown1 (by omega))
                       | (refine step_own (by rfl) (.tmp 48) (.tmp 57) _ (by rfl) w.heap.size 40 i0 _ 2 16 Try.underlying22 hi hz0 hz1 hz2 rfl (by omega) (.slice (some ⟨g, 0, none⟩) c2 c2) c2 (cellsL encS s) (by rfl) (World.ownsRow.kept OQ3.out hgr1 (.inr (by simp [Value.ownBlock]; omega))) ⟨g1, 0, none⟩ 1 cap1 (encS x) (by rfl) (by rfl) (World.ownsRow.cells hown1 rfl) (encS_all x) SZ3.out (by omega) (CX4 hgr1) ?_; intro v2 w2 hown2 hgr2))
                   all_goals
                     have OW := Lib.hid (WX.out _ _ hown2)
                     have BW := Lib.hid (BX.out _ _ _ hgr1 hgr2)
                     clear hown1 hown2 hgr1 hgr2 hq1 hq2 CX1 CX2 CX3 CX4
                     go_wp2
                     go_roundw
                     case rel => exact ⟨t + 1, _, _, rfl, by go_num, by omega, NN, OW, BW.out⟩
                     case measure => simp [intOf]; omega
                 · have j3 : ¬ c2 - k = 0 := by omega
                   go_region_held_law (fun w' => w'.cell? ⟨b, o1 + t * 2, none⟩ = some (.int .i64 x.1) ∧ w'.cell? ⟨b, o1 + t * 2 + 1, none⟩ = some (.int .i64 x.2)) (first | exact CX2 hgr2 (CX1 hgr1) (CX3 hgr1) | exact CX1 hgr1 | go_keep)
                     (first
                       | (refine step_own (by rfl) (.tmp 53) (.tmp 56) _ (by rfl) wq.heap.size 40 i0 _ 2 16 Try.underlying22 hi hz0 hz1 hz2 rfl (by omega) (.slice (some ⟨wq.heap.size, 0, none⟩) 1 1) 1 (encS x) (by rfl) LIT.out ⟨g, k * 2, none⟩ 0 (c2 - k) [] (by rfl) (by rfl) (by intro j u q; simp at q) (by intro u q; simp at q) (by decide) (by decide) (by simp) ?_; intro v1 w1 hown1 hgr1; obtain ⟨g1, cap1, rfl, hq1, hq2⟩ := World.ownsRow.form hown1 (by omega))
                       | (refine step_own (by rfl) (.tmp 48) (.tmp 57) _ (by rfl) w.heap.size 40 i0 _ 2 16 Try.underlying22 hi hz0 hz1 hz2 rfl (by omega) (.slice (some ⟨g, 0, none⟩) k c2) k (cellsL encS s) (by rfl) (World.ownsRow.kept OQ3.out hgr1 (.inr (by simp [Value.ownBlock]; omega))) ⟨g1, 0, none⟩ 1 cap1 (encS x) (by rfl) (by rfl) (World.ownsRow.cells hown1 rfl) (encS_all x) SZ3.out (by omega) (CX4 hgr1) ?_; intro v2 w2 hown2 hgr2))
                   all_goals
                     have OW := Lib.hid (WX.out _ _ hown2)
                     have BW := Lib.hid (BX.out _ _ _ hgr1 hgr2)
                     clear hown1 hown2 hgr1 hgr2 hq1 hq2 CX1 CX2 CX3 CX4
                     go_wp2
                     go_roundw
                     case rel => exact ⟨t + 1, _, _, rfl, by go_num, by omega, NN, OW, BW.out⟩
                     case measure => simp [intOf]; omega)
    · obtain rfl : n = t := by omega
      have s0 : decide ((n : Int) < n) = false := decide_eq_false (by omega)
      have s00 : decide (n < n) = false := decide_eq_false (by omega)
      have SR2 : Srt l s := by have := SR.out; rwa [List.take_of_length_le (by rw [← LN.out]; exact Nat.le_refl _)] at this
      have HR := Lib.hid SR2.norm
      have SL := SR2.len
      obtain ⟨A3, c3, rfl, hsp, hnew, hcap⟩ := OV.out.new
      have S3H := Lib.hid hsp
      have BO := Lib.hid hB
      have STEP := Lib.hid (fun (t : Nat) (h : t < s.length) => jnL_take (l := s) h)
      have LEN := Lib.hid (jnL_len s)
      have kn : s.length ≤ n := by have := LN.out; omega
      generalize hn : s.length = k at *
      have KM := Lib.hid hn
      clear hn hsp hnew SR SR2 OV hB SL hcap
      go_wp2
      go_loopw [6, 7] (fun ov i wr => ∃ (t : Nat) (acc : List (Int × Int)) (v : Value), v = ov ∧ i = .int .i64 t ∧ t ≤ k ∧ Hid (jnL (s.take t) = acc) ∧ Hid (OwnP wo.heap.size wr v acc) ∧ Below wo.heap.size wo wr) (fun _ i _ => k - (intOf i).toNat)
      case atStart => exact ⟨0, [], _, rfl, rfl, Nat.zero_le _, Lib.hid rfl, Lib.hid (OwnP.nil _ _), Below.refl _ _⟩
      case round =>
        obtain ⟨wi, rfl⟩ : ∃ wi : World, wi = wr := ⟨_, rfl⟩
        obtain ⟨t, acc, v, rfl, rfl, ht, D, OV, hB⟩ := hrel
        by_cases hlt : t < k
        · obtain ⟨b, o1, rfl, hg2, hc⟩ := S3H.out.2 (by omega)
          obtain ⟨c0, c1⟩ := hc t hlt
          replace c0 := (hB.cell (p := ⟨b, _, none⟩) hg2).trans c0
          replace c1 := (hB.cell (p := ⟨b, _, none⟩) hg2).trans c1
          have ST := Lib.hid (STEP.out t hlt)
          have al : acc.length ≤ t := by rw [← D.out]; exact LEN.out t
          rw [D.out] at ST
          have hbi := Nat.lt_of_lt_of_le hg2 hB.size
          clear hc
          generalize gt s t = x at *
          have s0 : decide ((t : Int) < k) = true := decide_eq_true (by omega)
          have s00 : decide (t < k) = true := decide_eq_true hlt
          have i5 : (t : Int) < k := by omega
          have W2 : IntKind.i64.wrap ((t : Int) + 1) = (t : Int) + 1 := IntWalk.i64_in _ (by omega)
          have SZ := hB.size
          by_cases k0 : acc.length = 0
          · obtain rfl : acc = [] := List.length_eq_zero_iff.1 k0
            have S := Lib.hid (show jnL (s.take (t + 1)) = [] ++ [x] by rw [ST.out, jnS_nil]; rfl)
            have OVH := Lib.hid OV.out
            clear ST D k0
            rcases OV.out.form with ⟨rfl, -⟩ | ⟨g3, cap3, rfl, -⟩
            all_goals
              clear OV
              go_wp2
              go_big_quiet (fail)
              have ba := below_drewN wi.heap.size wi nq
              have BA := Lib.hid (hB.trans (ba.mono SZ))
              have OVA := Lib.hid (OVH.out.on ba)
              have e0 := (ba.cell (p := ⟨b, _, none⟩) hbi).trans c0
              have e1 := (ba.cell (p := ⟨b, _, none⟩) hbi).trans c1
              clear ba c0 c1 hB OVH
              generalize wi.drewN nq = wa at *
              have SZ2 := BA.out.size
              go_wp2_with (at_builtin; refine append_sp rfl _ _ rfl _ [] rfl OVA.out SZ2 x _ rfl _ _ rfl (by simp) ?_)
              intro v4 w4 ow4 hb4
              have OW := Lib.hid ow4
              have B4 := Lib.hid (BA.out.trans hb4)
              clear ow4 hb4
              go_wp2
              go_roundw
              case rel => exact ⟨t + 1, _, v4, rfl, by go_num, by omega, S, OW, B4.out⟩
              case measure => simp [intOf]; omega
          · obtain ⟨q, hk⟩ : ∃ q, acc.length = q + 1 := ⟨acc.length - 1, by omega⟩
            rcases OV.out.form with ⟨rfl, rfl⟩ | ⟨g3, cap3, rfl, sp, hg1, hg3, hcap3⟩
            · simp at hk
            have cz : wi.cell? ⟨g3, q * 2 + 1, none⟩ = some (.int .i64 (gt acc q).2) := by
              obtain ⟨b, o, e, -, hc⟩ := sp.2 (by omega)
              injection e with e
              injection e with e1 e2
              subst e1 e2
              have := (hc q (by omega)).2
              rwa [Nat.zero_add] at this
            have ne : b ≠ g3 := by omega
            have IN := Lib.hid (fun (h : x.1 ≤ (gt acc q).2) => show jnL (s.take (t + 1)) = acc.set q ((gt acc q).1, max (gt acc q).2 x.2) by rw [ST.out, jnS_in hk h])
            have OUT := Lib.hid (fun (h : ¬ x.1 ≤ (gt acc q).2) => show jnL (s.take (t + 1)) = acc ++ [x] by rw [ST.out, jnS_out hk h])
            have fz := World.ownsRow.frozenAt OV.out (q * 2 + 1)
            have OVK := Lib.hid OV.out
            rw [hk] at OVK
            clear ST D sp OV
            generalize (gt acc q).2 = hi at *
            have w1 : IntKind.i64.wrap (((q + 1 : Nat) : Int) - 1) = (q : Int) := by rw [show ((q + 1 : Nat) : Int) - 1 = (q : Int) from by omega]; exact IntWalk.i64_in _ (by omega)
            have w2' : IntKind.i64.wrap ((q : Int) + 1 - 1) = (q : Int) := by rw [show (q : Int) + 1 - 1 = (q : Int) from by omega]; exact IntWalk.i64_in _ (by omega)
            have w3' : IntKind.i64.wrap (q : Int) = (q : Int) := IntWalk.i64_in _ (by omega)
            have i1 : (q : Int) < (q : Int) + 1 := by omega
            have i0 : (0 : Int) ≤ (q : Int) := by omega
            have i2 : q < q + 1 := by omega
            have i3 : (0 : Int) < (q : Int) + 1 := by omega
            have i4 : decide ((0 : Int) < (q : Int) + 1) = true := decide_eq_true i3
            have i5' : decide (0 < q + 1) = true := decide_eq_true (by omega)
            rw [hk]
            by_cases cc : x.1 ≤ hi
            · have s1 : decide (x.1 ≤ hi) = true := decide_eq_true cc
              have S := Lib.hid (IN.out cc)
              clear IN OUT
              go_wp2
              go_big_quiet (fail)
              have ba := below_drewN wi.heap.size wi nq
              have e1 := (ba.cell (p := ⟨b, _, none⟩) hbi).trans c1
              have cz2 := (ba.cell (p := ⟨g3, _, none⟩) hg3).trans cz
              have fz2 := (ba.frozen (p := ⟨g3, _, none⟩) hg3).trans fz
              have BA := Lib.hid (ba.drew)
              have SO := Lib.hid (OwnP.store (by have := OVK.out.on BA.out; rw [← hk] at this; exact this) q (by omega) (max hi x.2))
              rw [hk] at SO
              have BW := Lib.hid ((hB.trans (BA.out.mono hB.size)).trans (SO.out.2 (hB.trans (BA.out.mono hB.size)).size))
              clear ba BA OVK cz fz c0 c1 hB
              generalize wi.drewN nq = wa at *
              go_wp2
              go_still_tail 17, (by kernel_rfl)
              change wpList _ _ _ _ _ wa.drew
              go_wp2
              go_roundw
              case rel => exact ⟨t + 1, _, _, rfl, by go_num, by omega, S, Lib.hid SO.out.1, BW.out⟩
              case measure => simp [intOf]; omega
            · have s1 : decide (x.1 ≤ hi) = false := decide_eq_false cc
              have S := Lib.hid (OUT.out cc)
              clear IN OUT
              go_wp2
              go_big_quiet (fail)
              have ba := below_drewN wi.heap.size wi nq
              have BA := Lib.hid (hB.trans (ba.mono SZ))
              have OVA := Lib.hid (OVK.out.on ba)
              have e0 := (ba.cell (p := ⟨b, _, none⟩) hbi).trans c0
              have e1 := (ba.cell (p := ⟨b, _, none⟩) hbi).trans c1
              clear ba c0 c1 hB OVK cz fz
              generalize wi.drewN nq = wa at *
              have SZ2 := BA.out.size
              go_wp2_with (at_builtin; refine append_sp rfl _ _ rfl _ acc rfl OVA.out SZ2 x _ rfl _ _ rfl (by omega) ?_)
              intro v4 w4 ow4 hb4
              have OW := Lib.hid ow4
              have B4 := Lib.hid (BA.out.trans hb4)
              clear ow4 hb4
              go_wp2
              go_roundw
              case rel => exact ⟨t + 1, _, v4, rfl, by go_num, by omega, S, OW, B4.out⟩
              case measure => simp [intOf]; omega
        · obtain rfl : k = t := by omega
          have E := Lib.hid (show acc = normL l by
            rw [← D.out, List.take_of_length_le (by rw [KM.out]; exact Nat.le_refl _)]; exact HR.out)
          have s0 : decide ((k : Int) < k) = false := decide_eq_false (by omega)
          have s00 : decide (k < k) = false := decide_eq_false (by omega)
          go_wp2
          go_ret
          obtain ⟨A5, c5, rfl, i5, f5, l5⟩ := OV.out.new
          have hs := BO.out.size
          rw [E.out] at i5 l5 f5 ⊢
          exact ⟨A5, c5, rfl, i5, fun h => by obtain ⟨g5, e5, h5⟩ := f5 h; exact ⟨g5, e5, by omega⟩, l5, BO.out.trans (hB.mono hs)⟩
end Go.Proofs.Ytjodhfehfpmfaaa.Iv
