/- vokref10.Set: put. -/
import Derived.Test.YtjodhfehfpmfaaaIvRR
import Derived.Test.YtjodhfehfpmfaaaIvLate
set_option linter.unusedVariables false
namespace Go.Proofs.Ytjodhfehfpmfaaa.Iv
open Go.RowKit

def insT (x : Tg) (s : List Tg) (k : Nat) : List Tg := s.take k ++ x :: s.drop k
theorem insT_cells (x : Tg) (s : List Tg) (k : Nat) : cellsL encT (insT x s k) = (cellsL encT s).take (k * 3) ++ (encT x ++ cellsL encT (s.drop k)) := by
  unfold insT
  rw [cells_app, cells_take (k := 3) (fun _ => rfl)]
  rfl
theorem insT_len (x : Tg) (s : List Tg) (k : Nat) (hk : k ≤ s.length) : (insT x s k).length = k + 1 + (s.length - k) := by
  unfold insT
  rw [List.length_append, List.length_cons, List.length_take, List.length_drop]; omega
theorem wp_nil {P : Program} {w : World} {o : Oper} {a : Act} {K : Act → World → Prop} {Q : Exit → Act → World → Prop} (s x : Operand) (t : TypeId)
    (ho : o.op = .call { callee := .builtin .append, args := #[s, x], argTypes := #[t, t] })
    (base : Nat) (e : TypeId) (i : TypeInfo) (size : Nat) (ht : P.underlying t = some (.slice e)) (hi : P.info? e = some i)
    (v : Value) (n : Nat) (xs : List Value) (hs : a.eval s = v) (hown : w.ownsRow base e size v n xs) (hx : a.eval x = .slice none 0 0)
    (h : K (a.put o.dst v) w) : Oper.wp P o a w K Q := by
  have hrun := run_append_owned_none (P := P) (w := w) base t o.type e i size ht hi v n xs hown
  unfold Oper.wp
  simp [execOp, ho, resolve, invoke, builtin, hs, hx, hrun, Result.andThen]
  exact h
theorem newcells (W : World) (cs : Array Value) (T : TypeId) : ∀ j u, cs.toList[j]? = some u → (W.alloc (.cells cs T)).cell? ((⟨W.heap.size, 0, none⟩ : Addr).add j) = some u := by
  intro j u hj
  rw [addr_off, World.cell?_alloc_new, ← hj]
  simp
theorem ownT_empty (w : World) : (w.alloc (.cells #[] 45)).ownsRow w.heap.size 45 3 (.slice (some ⟨w.heap.size, 0, none⟩) 0 0) 0 [] :=
  own_of (n := 0) (new_row w 45 3 0 0 #[] #[] rfl (by unfold maxLen; decide)) rfl (Nat.le_refl _) (Nat.le_refl _)
theorem own_low {w : World} {B B' : Nat} {e : TypeId} {size n : Nat} {v : Value} {xs : List Value} (h : w.ownsRow B e size v n xs) (hb : B' ≤ B) : w.ownsRow B' e size v n xs := by
  refine ⟨h.1, ?_⟩
  rcases h.2 with q | ⟨g, cap, cur, e1, e2, e3⟩
  · exact .inl q
  · exact .inr ⟨g, cap, cur, e1, Nat.le_trans hb e2, e3⟩
/-- what put leaves -/
def PutR (G : Nat → Prop) (w : World) (r : Nat) (all : List Tg) (x : Tg) (e : Ending) (w' : World) : Prop :=
  e = .returned (.tuple #[]) ∧ ∃ k, k ≤ all.length ∧ (∀ j, k ≤ j → j < all.length → x.1.1 < (gt all j).1.1) ∧ (∀ j, j + 1 = k → (gt all j).1.1 ≤ x.1.1) ∧ RefIn G w' r (insT x all k) ∧ Kp (· = r) w w'
set_option maxRecDepth 100000 in
set_option maxHeartbeats 8000000 in
theorem rput_is {G : Nat → Prop} (w : World) (r : Nat) (all : List Tg) (x : Tg) (R : RefIn G w r all) (hG : ∀ k, w.heap.size ≤ k → G k) (hn : all.length ≤ 100000) :
    Calls Try.prog 62 #[.pointer (some ⟨r, 0, none⟩), .agg #[.int .i64 x.1.1, .int .i64 x.1.2, .int .i64 x.2]] w (PutR G w r all x) := by
  obtain ⟨A, c, H⟩ := R
  have rl := H.box.lt
  obtain ⟨w0, hw0⟩ : ∃ w0 : World, w0 = w.alloc (.cells #[.int .i64 x.1.1, .int .i64 x.1.2, .int .i64 x.2] 45) := ⟨_, rfl⟩
  have b0 : Below w.heap.size w w0 := hw0 ▸ below_alloc _ _
  have XR := Lib.hid (show RowIs w0 w.heap.size 45 3 1 [.int .i64 x.1.1, .int .i64 x.1.2, .int .i64 x.2] from hw0 ▸ new_row w 45 3 1 1 #[.int .i64 x.1.1, .int .i64 x.1.2, .int .i64 x.2] #[] rfl (by unfold maxLen; decide))
  have H0 := H.below b0
  have p0 := H0.c0
  have TA := Lib.hid H0.tg
  have HH := Lib.hid H0
  have B0 := Lib.hid b0
  have GG := Lib.hid hG
  have x0 : w0.cell? ⟨w.heap.size, 0, none⟩ = some (.int .i64 x.1.1) := XR.out.cell rfl
  have x1 : w0.cell? ⟨w.heap.size, 1, none⟩ = some (.int .i64 x.1.2) := XR.out.cell rfl
  have x2 : w0.cell? ⟨w.heap.size, 2, none⟩ = some (.int .i64 x.2) := XR.out.cell rfl
  have zl := XR.out.lt
  have rl0 := H0.box.lt
  clear H H0 b0 hG
  generalize hk : all.length = m at *
  have HM := Lib.hid hk
  clear hk
  rcases HH.out.tags.2.2 with ⟨rfl, rfl⟩ | ⟨g, rfl, -, -⟩
  · have m0 : m = 0 := by have := HH.out.tags.2.1; have := HM.out; omega
    subst m0
    have A0 : all = [] := List.length_eq_zero_iff.1 HM.out
    subst A0
    go_enter Try.func62, Try.ntmps62
    go_upto_region 1 with fail
    rw [← hw0]
    clear hw0
    go_wp2
    refine wp_loop_rounds 1 ?_
    rw [rounds_succ]
    go_wp2
    go_big_quiet (fail)
    go_upto_region 4 with fail
    have bq : Below w0.heap.size w0 (w0.drewN nq) := below_drewN _ _ _
    have p1 := (bq.cell (p := ⟨r, 0, none⟩) rl0).trans p0
    have X0 := (bq.cell (p := ⟨w.heap.size, 0, none⟩) zl).trans x0
    have X1 := (bq.cell (p := ⟨w.heap.size, 1, none⟩) zl).trans x1
    have X2 := (bq.cell (p := ⟨w.heap.size, 2, none⟩) zl).trans x2
    have HQ := Lib.hid (HH.out.below bq)
    have BQ := Lib.hid (B0.out.trans (bq.mono B0.out.size))
    have rq := Nat.lt_of_lt_of_le rl0 bq.size
    have pf := HQ.out.box.frozen 0
    have zq := Nat.lt_of_lt_of_le zl bq.size
    generalize w0.drewN nq = wq at *
    clear bq
    obtain ⟨i0, hi, hz0, hz1, hz2⟩ := info_parts info_rt
    have bE : Below wq.heap.size wq ((wq.drew).alloc (.cells #[] 45)) := ((Below.refl _ _).drew).alloc (Nat.le_refl _) _
    have bX : Below wq.heap.size wq ((wq.drew).alloc (.cells #[.int .i64 x.1.1, .int .i64 x.1.2, .int .i64 x.2] 45)) := ((Below.refl _ _).drew).alloc (Nat.le_refl _) _
    have bEX : Below wq.heap.size wq (((wq.drew).alloc (.cells #[] 45)).alloc (.cells #[.int .i64 x.1.1, .int .i64 x.1.2, .int .i64 x.2] 45)) := bE.alloc (by simp) _
    have bXE : Below wq.heap.size wq (((wq.drew).alloc (.cells #[.int .i64 x.1.1, .int .i64 x.1.2, .int .i64 x.2] 45)).alloc (.cells #[] 45)) := bX.alloc (by simp) _
    have OEa : ((wq.drew).alloc (.cells #[] 45)).ownsRow wq.heap.size 45 3 (.slice (some ⟨wq.heap.size, 0, none⟩) 0 0) 0 [] := ownT_empty wq.drew
    have OEb : (((wq.drew).alloc (.cells #[] 45)).alloc (.cells #[.int .i64 x.1.1, .int .i64 x.1.2, .int .i64 x.2] 45)).ownsRow wq.heap.size 45 3 (.slice (some ⟨wq.heap.size, 0, none⟩) 0 0) 0 [] := World.ownsRow.alloc OEa _
    have sX : ((wq.drew).alloc (.cells #[.int .i64 x.1.1, .int .i64 x.1.2, .int .i64 x.2] 45)).heap.size = wq.heap.size + 1 := by simp
    have sE : ((wq.drew).alloc (.cells #[] 45)).heap.size = wq.heap.size + 1 := by simp
    have OEc : (((wq.drew).alloc (.cells #[.int .i64 x.1.1, .int .i64 x.1.2, .int .i64 x.2] 45)).alloc (.cells #[] 45)).ownsRow wq.heap.size 45 3 (.slice (some ⟨wq.heap.size + 1, 0, none⟩) 0 0) 0 [] := by
      have := ownT_empty ((wq.drew).alloc (.cells #[.int .i64 x.1.1, .int .i64 x.1.2, .int .i64 x.2] 45))
      rw [sX] at this
      exact own_low this (by omega)
    have LIb : ∀ j u, (encT x)[j]? = some u → (((wq.drew).alloc (.cells #[] 45)).alloc (.cells #[.int .i64 x.1.1, .int .i64 x.1.2, .int .i64 x.2] 45)).cell? ((⟨wq.heap.size + 1, 0, none⟩ : Addr).add j) = some u := by
      have := newcells ((wq.drew).alloc (.cells #[] 45)) #[.int .i64 x.1.1, .int .i64 x.1.2, .int .i64 x.2] 45
      rw [sE] at this
      exact this
    have LIc0 : ∀ j u, (encT x)[j]? = some u → ((wq.drew).alloc (.cells #[.int .i64 x.1.1, .int .i64 x.1.2, .int .i64 x.2] 45)).cell? ((⟨wq.heap.size, 0, none⟩ : Addr).add j) = some u := newcells wq.drew #[.int .i64 x.1.1, .int .i64 x.1.2, .int .i64 x.2] 45
    have SB := Lib.hid (fun (w' : World) (hb : Below wq.heap.size wq w') => show w'.cell? ⟨r, 0, none⟩ = some (.slice none 0 0) ∧ w'.frozen? ⟨r, 0, none⟩ = false ∧ w'.cell? ⟨w.heap.size, 0, none⟩ = some (.int .i64 x.1.1) ∧ w'.cell? ⟨w.heap.size, 1, none⟩ = some (.int .i64 x.1.2) ∧ w'.cell? ⟨w.heap.size, 2, none⟩ = some (.int .i64 x.2) from
      ⟨(hb.cell (p := ⟨r, 0, none⟩) rq).trans p1, (hb.frozen (p := ⟨r, 0, none⟩) rq).trans pf, (hb.cell (p := ⟨w.heap.size, 0, none⟩) zq).trans X0, (hb.cell (p := ⟨w.heap.size, 1, none⟩) zq).trans X1, (hb.cell (p := ⟨w.heap.size, 2, none⟩) zq).trans X2⟩)
    have FI := Lib.hid (fun (w3 : World) (g3 cap3 : Nat) (bl3 : Below wq.heap.size wq w3) (ho : w3.ownsRow wq.heap.size 45 3 (.slice (some ⟨g3, 0, none⟩) (0 + 1) cap3) (0 + 1) ([] ++ encT x)) => show PutR G w r [] x (.returned (.tuple #[])) (w3.setCell ⟨r, 0, none⟩ (.slice (some ⟨g3, 0, none⟩) (0 + 1) cap3)) by
      obtain ⟨R5, K5⟩ := (HQ.out.box.below bl3).setCell 0 (by simp) (.slice (some ⟨g3, 0, none⟩) (0 + 1) cap3)
      obtain ⟨rr, ll, hcap, hB3⟩ := row_of ho
      have hgr : g3 ≠ r := by omega
      exact ⟨rfl, 0, Nat.le_refl _, fun j h1 h2 => absurd h2 (by simp), fun j h => absurd h (by omega), ⟨some ⟨g3, 0, none⟩, cap3, R5, HQ.out.foot, ⟨rfl, hcap, .inr ⟨g3, rfl, GG.out _ (Nat.le_trans BQ.out.size hB3), rr.kp K5 hgr⟩⟩⟩, (Kp.of (BQ.out.trans (bl3.mono BQ.out.size))).trans K5⟩)
    clear X0 X1 X2 pf
    refine wp_region_late (fun k => k == 21) (fun v => Below wq.heap.size wq v) (by kernel_rfl) ?_
    have D0 : Below wq.heap.size wq wq.drew := (Below.refl _ _).drew
    refine Late.take 0 (.pointer (some ⟨r, 0, none⟩)) rfl (by kernel_rfl) (by kernel_rfl) (by kernel_rfl) (by kernel_rfl) (fun _ _ _ h => h) (.inl ⟨rfl, fun w' hs => ?_⟩) D0 ?_
    ·
      go_simp
    refine Late.take 2 (.pointer (some ⟨r, 0, none⟩)) rfl (by kernel_rfl) (by kernel_rfl) (by kernel_rfl) (by kernel_rfl) (fun _ _ _ h => h) (.inl ⟨rfl, fun w' hs => ?_⟩) D0 ?_
    ·
      go_simp
    refine Late.take 3 (.pointer (some ⟨r, 0, none⟩)) rfl (by kernel_rfl) (by kernel_rfl) (by kernel_rfl) (by kernel_rfl) (fun _ _ _ h => h) (.inl ⟨rfl, fun w' hs => ?_⟩) D0 ?_
    ·
      go_simp
    refine Late.take 4 (.pointer (some ⟨r, 0, none⟩)) rfl (by kernel_rfl) (by kernel_rfl) (by kernel_rfl) (by kernel_rfl) (fun _ _ _ h => h) (.inl ⟨rfl, fun w' hs => ?_⟩) D0 ?_
    ·
      go_simp
    refine Late.take 5 (.slice none 0 0) rfl (by kernel_rfl) (by kernel_rfl) (by kernel_rfl) (by kernel_rfl) (fun _ _ _ h => h) (.inl ⟨rfl, fun w' hs => ?_⟩) D0 ?_
    ·
      have z0 := (SB.out w' hs).1
      go_simp
    refine Late.take 6 (.int .i64 0) rfl (by kernel_rfl) (by kernel_rfl) (by kernel_rfl) (by kernel_rfl) (fun _ _ _ h => h) (.inl ⟨rfl, fun w' hs => ?_⟩) D0 ?_
    ·
      go_simp
    refine Late.take 7 (.slice none 0 0) rfl (by kernel_rfl) (by kernel_rfl) (by kernel_rfl) (by kernel_rfl) (fun _ _ _ h => h) (.inl ⟨rfl, fun w' hs => ?_⟩) D0 ?_
    ·
      go_simp
    refine Late.take 9 (.agg #[.int .i64 x.1.1, .int .i64 x.1.2, .int .i64 x.2]) rfl (by kernel_rfl) (by kernel_rfl) (by kernel_rfl) (by kernel_rfl) (fun _ _ _ h => h) (.inl ⟨rfl, fun w' hs => ?_⟩) D0 ?_
    ·
      obtain ⟨-, -, z0, z1, z2⟩ := SB.out w' hs
      go_simp
    refine Late.take 12 (.pointer (some ⟨r, 0, none⟩)) rfl (by kernel_rfl) (by kernel_rfl) (by kernel_rfl) (by kernel_rfl) (fun _ _ _ h => h) (.inl ⟨rfl, fun w' hs => ?_⟩) D0 ?_
    ·
      go_simp
    refine Late.take 13 (.pointer (some ⟨r, 0, none⟩)) rfl (by kernel_rfl) (by kernel_rfl) (by kernel_rfl) (by kernel_rfl) (fun _ _ _ h => h) (.inl ⟨rfl, fun w' hs => ?_⟩) D0 ?_
    ·
      go_simp
    refine Late.take 14 (.pointer (some ⟨r, 0, none⟩)) rfl (by kernel_rfl) (by kernel_rfl) (by kernel_rfl) (by kernel_rfl) (fun _ _ _ h => h) (.inl ⟨rfl, fun w' hs => ?_⟩) D0 ?_
    ·
      go_simp
    refine Late.take 15 (.slice none 0 0) rfl (by kernel_rfl) (by kernel_rfl) (by kernel_rfl) (by kernel_rfl) (fun _ _ _ h => h) (.inl ⟨rfl, fun w' hs => ?_⟩) D0 ?_
    ·
      have z0 := (SB.out w' hs).1
      go_simp
    refine Late.take 16 (.int .i64 0) rfl (by kernel_rfl) (by kernel_rfl) (by kernel_rfl) (by kernel_rfl) (fun _ _ _ h => h) (.inl ⟨rfl, fun w' hs => ?_⟩) D0 ?_
    ·
      go_simp
    refine Late.take 17 (.slice none 0 0) rfl (by kernel_rfl) (by kernel_rfl) (by kernel_rfl) (by kernel_rfl) (fun _ _ _ h => h) (.inl ⟨rfl, fun w' hs => ?_⟩) D0 ?_
    ·
      go_simp
    refine Late.two 1 10 rfl rfl (by kernel_rfl) rfl rfl ?_ ?_
    · go_simp
      refine ⟨bE, ?_⟩
      refine Late.two 8 10 rfl rfl (by kernel_rfl) rfl rfl ?_ ?_
      · skip
        refine wp_nil (.tmp 31) (.tmp 37) _ (by rfl) wq.heap.size 45 i0 3 Try.underlying32 hi (.slice (some ⟨wq.heap.size, 0, none⟩) 0 0) 0 [] (by rfl) OEa (by rfl) ?_
        refine ⟨.inr bE, ?_⟩
        refine Late.one 10 rfl (by kernel_rfl) rfl ?_
        go_simp
        refine ⟨bEX, ?_⟩
        refine Late.one 11 rfl (by kernel_rfl) rfl ?_
        refine wp_append_own _ (.tmp 38) (.tmp 40) _ (by rfl) wq.heap.size 45 i0 _ 3 24 Try.underlying32 hi hz0 hz1 hz2 rfl (by omega) (.slice (some ⟨wq.heap.size, 0, none⟩) 0 0) 0 [] (by rfl) OEb ⟨wq.heap.size + 1, 0, none⟩ 1 1 (encT x) (by rfl) (by rfl) LIb (encT_one x) (by decide) (by decide) bEX.size ?_
        intro v2 w2 hown2 hgr2 _
        have bl2 := bEX.grown hgr2 bEX.size (fun j hj => (World.ownsRow.lt OEb j hj).1)
        refine ⟨.inr bl2, ?_⟩
        refine Late.one 18 rfl (by kernel_rfl) rfl ?_
        refine wp_nil (.tmp 41) (.tmp 47) _ (by rfl) wq.heap.size 45 i0 3 Try.underlying32 hi v2 (0 + 1) ([] ++ encT x) (by rfl) hown2 (by rfl) ?_
        refine ⟨.inr bl2, ?_⟩
        have sc3 := (SB.out w2 bl2).1
        have sf3 := (SB.out w2 bl2).2.1
        obtain ⟨g3, cap3, rfl, hg31, hg32⟩ := World.ownsRow.form hown2 (by omega)
        have FIN := Lib.hid (FI.out w2 g3 cap3 bl2 hown2)
        refine Late.one 19 rfl (by kernel_rfl) rfl ?_
        go_simp
        refine Late.take 20 (.pointer (some ⟨r, 0, none⟩)) rfl (by kernel_rfl) (by kernel_rfl) (by kernel_rfl) (by kernel_rfl) (fun _ _ _ h => h) (.inl ⟨rfl, fun w' hs => ?_⟩) bl2 ?_
        ·
          go_simp
        refine Late.one 21 rfl (by kernel_rfl) rfl ?_
        go_simp
        refine ⟨by kernel_rfl, ?_⟩
        clear hown2 hgr2
        go_wp2
        exact bodyPost_ret (v := .tuple #[]) (by simp [results, Try.results62, go_sem]) rfl FIN.out
      · go_simp
        refine ⟨bEX, ?_⟩
        refine Late.one 8 rfl (by kernel_rfl) rfl ?_
        refine wp_nil (.tmp 31) (.tmp 37) _ (by rfl) wq.heap.size 45 i0 3 Try.underlying32 hi (.slice (some ⟨wq.heap.size, 0, none⟩) 0 0) 0 [] (by rfl) OEb (by rfl) ?_
        refine ⟨.inr bEX, ?_⟩
        refine Late.one 11 rfl (by kernel_rfl) rfl ?_
        refine wp_append_own _ (.tmp 38) (.tmp 40) _ (by rfl) wq.heap.size 45 i0 _ 3 24 Try.underlying32 hi hz0 hz1 hz2 rfl (by omega) (.slice (some ⟨wq.heap.size, 0, none⟩) 0 0) 0 [] (by rfl) OEb ⟨wq.heap.size + 1, 0, none⟩ 1 1 (encT x) (by rfl) (by rfl) LIb (encT_one x) (by decide) (by decide) bEX.size ?_
        intro v2 w2 hown2 hgr2 _
        have bl2 := bEX.grown hgr2 bEX.size (fun j hj => (World.ownsRow.lt OEb j hj).1)
        refine ⟨.inr bl2, ?_⟩
        refine Late.one 18 rfl (by kernel_rfl) rfl ?_
        refine wp_nil (.tmp 41) (.tmp 47) _ (by rfl) wq.heap.size 45 i0 3 Try.underlying32 hi v2 (0 + 1) ([] ++ encT x) (by rfl) hown2 (by rfl) ?_
        refine ⟨.inr bl2, ?_⟩
        have sc3 := (SB.out w2 bl2).1
        have sf3 := (SB.out w2 bl2).2.1
        obtain ⟨g3, cap3, rfl, hg31, hg32⟩ := World.ownsRow.form hown2 (by omega)
        have FIN := Lib.hid (FI.out w2 g3 cap3 bl2 hown2)
        refine Late.one 19 rfl (by kernel_rfl) rfl ?_
        go_simp
        refine Late.take 20 (.pointer (some ⟨r, 0, none⟩)) rfl (by kernel_rfl) (by kernel_rfl) (by kernel_rfl) (by kernel_rfl) (fun _ _ _ h => h) (.inl ⟨rfl, fun w' hs => ?_⟩) bl2 ?_
        ·
          go_simp
        refine Late.one 21 rfl (by kernel_rfl) rfl ?_
        go_simp
        refine ⟨by kernel_rfl, ?_⟩
        clear hown2 hgr2
        go_wp2
        exact bodyPost_ret (v := .tuple #[]) (by simp [results, Try.results62, go_sem]) rfl FIN.out
    · go_simp
      refine ⟨bX, ?_⟩
      refine Late.one 1 rfl (by kernel_rfl) rfl ?_
      go_simp
      refine ⟨bXE, ?_⟩
      refine Late.one 8 rfl (by kernel_rfl) rfl ?_
      refine wp_nil (.tmp 31) (.tmp 37) _ (by rfl) wq.heap.size 45 i0 3 Try.underlying32 hi (.slice (some ⟨wq.heap.size + 1, 0, none⟩) 0 0) 0 [] (by rfl) OEc (by rfl) ?_
      refine ⟨.inr bXE, ?_⟩
      have LIc : ∀ j u, (encT x)[j]? = some u → (((wq.drew).alloc (.cells #[.int .i64 x.1.1, .int .i64 x.1.2, .int .i64 x.2] 45)).alloc (.cells #[] 45)).cell? ((⟨wq.heap.size, 0, none⟩ : Addr).add j) = some u := fun j u hj => by
        have := LIc0 j u hj
        rw [addr_off] at this ⊢
        exact ((below_alloc ((wq.drew).alloc (.cells #[.int .i64 x.1.1, .int .i64 x.1.2, .int .i64 x.2] 45)) (.cells #[] 45)).cell (p := ⟨wq.heap.size, 0 + j, none⟩) (by show wq.heap.size < _; simp)).trans this
      refine Late.one 11 rfl (by kernel_rfl) rfl ?_
      refine wp_append_own _ (.tmp 38) (.tmp 40) _ (by rfl) wq.heap.size 45 i0 _ 3 24 Try.underlying32 hi hz0 hz1 hz2 rfl (by omega) (.slice (some ⟨wq.heap.size + 1, 0, none⟩) 0 0) 0 [] (by rfl) OEc ⟨wq.heap.size, 0, none⟩ 1 1 (encT x) (by rfl) (by rfl) LIc (encT_one x) (by decide) (by decide) bXE.size ?_
      intro v2 w2 hown2 hgr2 _
      have bl2 := bXE.grown hgr2 bXE.size (fun j hj => (World.ownsRow.lt OEc j hj).1)
      refine ⟨.inr bl2, ?_⟩
      refine Late.one 18 rfl (by kernel_rfl) rfl ?_
      refine wp_nil (.tmp 41) (.tmp 47) _ (by rfl) wq.heap.size 45 i0 3 Try.underlying32 hi v2 (0 + 1) ([] ++ encT x) (by rfl) hown2 (by rfl) ?_
      refine ⟨.inr bl2, ?_⟩
      have sc3 := (SB.out w2 bl2).1
      have sf3 := (SB.out w2 bl2).2.1
      obtain ⟨g3, cap3, rfl, hg31, hg32⟩ := World.ownsRow.form hown2 (by omega)
      have FIN := Lib.hid (FI.out w2 g3 cap3 bl2 hown2)
      refine Late.one 19 rfl (by kernel_rfl) rfl ?_
      go_simp
      refine Late.take 20 (.pointer (some ⟨r, 0, none⟩)) rfl (by kernel_rfl) (by kernel_rfl) (by kernel_rfl) (by kernel_rfl) (fun _ _ _ h => h) (.inl ⟨rfl, fun w' hs => ?_⟩) bl2 ?_
      ·
        go_simp
      refine Late.one 21 rfl (by kernel_rfl) rfl ?_
      go_simp
      refine ⟨by kernel_rfl, ?_⟩
      clear hown2 hgr2
      go_wp2
      exact bodyPost_ret (v := .tuple #[]) (by simp [results, Try.results62, go_sem]) rfl FIN.out
  go_enter Try.func62, Try.ntmps62
  go_upto_region 1 with fail
  rw [← hw0]
  clear hw0
  go_wp2
  go_loopw [4] (fun kv wx => ∃ (k : Nat) (q : Nat), k ≤ m ∧ kv = .int .i64 k ∧ Hid (∀ j, k ≤ j → j < m → x.1.1 < (gt all j).1.1) ∧ wx = w0.drewN q) (fun kv _ => (intOf kv).toNat)
  case atStart => exact ⟨m, 0, Nat.le_refl _, rfl, Lib.hid (fun j h1 h2 => absurd h2 (by omega)), rfl⟩
  case round =>
    obtain ⟨k, q, hk, rfl, D, rfl⟩ := hrel
    rcases Nat.eq_zero_or_pos k with kz | kp
    · have s2 : decide ((0 : Int) < (k : Int)) = false := decide_eq_false (by omega)
      have s22 : decide (0 < k) = false := decide_eq_false (by omega)
      have LO := Lib.hid (fun (j : Nat) (h : j + 1 = k) => show (gt all j).1.1 ≤ x.1.1 from absurd h (by omega))
      have KZ := Lib.hid kz
      clear kz
      go_wp2
      go_big_quiet (fail)
      (go_upto_region 4 with fail
       have bq : Below w0.heap.size w0 ((w0.drewN q).drewN nq) := (below_drewN _ _ _).trans (below_drewN _ _ _)
       have p1 := (bq.cell (p := ⟨r, 0, none⟩) rl0).trans p0
       have X0 := (bq.cell (p := ⟨w.heap.size, 0, none⟩) zl).trans x0
       have X1 := (bq.cell (p := ⟨w.heap.size, 1, none⟩) zl).trans x1
       have X2 := (bq.cell (p := ⟨w.heap.size, 2, none⟩) zl).trans x2
       have HQ := Lib.hid (HH.out.below bq)
       have BQ := Lib.hid (B0.out.trans (bq.mono B0.out.size))
       have rq := Nat.lt_of_lt_of_le rl0 bq.size
       have pf := HQ.out.box.frozen 0
       have zq := Nat.lt_of_lt_of_le zl bq.size
       generalize (w0.drewN q).drewN nq = wq at *
       clear bq
       obtain ⟨i0, hi, hz0, hz1, hz2⟩ := info_parts info_rt
       have bE : Below wq.heap.size wq ((wq.drew).alloc (.cells #[] 45)) := ((Below.refl _ _).drew).alloc (Nat.le_refl _) _
       have bX : Below wq.heap.size wq ((wq.drew).alloc (.cells #[.int .i64 x.1.1, .int .i64 x.1.2, .int .i64 x.2] 45)) := ((Below.refl _ _).drew).alloc (Nat.le_refl _) _
       have bEX : Below wq.heap.size wq (((wq.drew).alloc (.cells #[] 45)).alloc (.cells #[.int .i64 x.1.1, .int .i64 x.1.2, .int .i64 x.2] 45)) := bE.alloc (by simp) _
       have bXE : Below wq.heap.size wq (((wq.drew).alloc (.cells #[.int .i64 x.1.1, .int .i64 x.1.2, .int .i64 x.2] 45)).alloc (.cells #[] 45)) := bX.alloc (by simp) _
       have OEa : ((wq.drew).alloc (.cells #[] 45)).ownsRow wq.heap.size 45 3 (.slice (some ⟨wq.heap.size, 0, none⟩) 0 0) 0 [] := ownT_empty wq.drew
       have OEb : (((wq.drew).alloc (.cells #[] 45)).alloc (.cells #[.int .i64 x.1.1, .int .i64 x.1.2, .int .i64 x.2] 45)).ownsRow wq.heap.size 45 3 (.slice (some ⟨wq.heap.size, 0, none⟩) 0 0) 0 [] := World.ownsRow.alloc OEa _
       have sX : ((wq.drew).alloc (.cells #[.int .i64 x.1.1, .int .i64 x.1.2, .int .i64 x.2] 45)).heap.size = wq.heap.size + 1 := by simp
       have sE : ((wq.drew).alloc (.cells #[] 45)).heap.size = wq.heap.size + 1 := by simp
       have OEc : (((wq.drew).alloc (.cells #[.int .i64 x.1.1, .int .i64 x.1.2, .int .i64 x.2] 45)).alloc (.cells #[] 45)).ownsRow wq.heap.size 45 3 (.slice (some ⟨wq.heap.size + 1, 0, none⟩) 0 0) 0 [] := by
         have := ownT_empty ((wq.drew).alloc (.cells #[.int .i64 x.1.1, .int .i64 x.1.2, .int .i64 x.2] 45))
         rw [sX] at this
         exact own_low this (by omega)
       have LIb : ∀ j u, (encT x)[j]? = some u → (((wq.drew).alloc (.cells #[] 45)).alloc (.cells #[.int .i64 x.1.1, .int .i64 x.1.2, .int .i64 x.2] 45)).cell? ((⟨wq.heap.size + 1, 0, none⟩ : Addr).add j) = some u := by
         have := newcells ((wq.drew).alloc (.cells #[] 45)) #[.int .i64 x.1.1, .int .i64 x.1.2, .int .i64 x.2] 45
         rw [sE] at this
         exact this
       have LIc0 : ∀ j u, (encT x)[j]? = some u → ((wq.drew).alloc (.cells #[.int .i64 x.1.1, .int .i64 x.1.2, .int .i64 x.2] 45)).cell? ((⟨wq.heap.size, 0, none⟩ : Addr).add j) = some u := newcells wq.drew #[.int .i64 x.1.1, .int .i64 x.1.2, .int .i64 x.2] 45
       have SB := Lib.hid (fun (w' : World) (hb : Below wq.heap.size wq w') => show w'.cell? ⟨r, 0, none⟩ = some (.slice (some ⟨g, 0, none⟩) m c) ∧ w'.frozen? ⟨r, 0, none⟩ = false ∧ w'.cell? ⟨w.heap.size, 0, none⟩ = some (.int .i64 x.1.1) ∧ w'.cell? ⟨w.heap.size, 1, none⟩ = some (.int .i64 x.1.2) ∧ w'.cell? ⟨w.heap.size, 2, none⟩ = some (.int .i64 x.2) from
         ⟨(hb.cell (p := ⟨r, 0, none⟩) rq).trans p1, (hb.frozen (p := ⟨r, 0, none⟩) rq).trans pf, (hb.cell (p := ⟨w.heap.size, 0, none⟩) zq).trans X0, (hb.cell (p := ⟨w.heap.size, 1, none⟩) zq).trans X1, (hb.cell (p := ⟨w.heap.size, 2, none⟩) zq).trans X2⟩)
       have KS := Lib.hid (fun (w3 : World) (v : Value) (hb : Below wq.heap.size wq w3) => show (w3.setCell ⟨r, 0, none⟩ v).cell? ⟨w.heap.size, 0, none⟩ = some (.int .i64 x.1.1) ∧ (w3.setCell ⟨r, 0, none⟩ v).cell? ⟨w.heap.size, 1, none⟩ = some (.int .i64 x.1.2) ∧ (w3.setCell ⟨r, 0, none⟩ v).cell? ⟨w.heap.size, 2, none⟩ = some (.int .i64 x.2) from
         ⟨(World.cell?_setCell_other _ _ _ _ (fun e => by injection e with e1 _ _; omega)).trans (SB.out w3 hb).2.2.1, (World.cell?_setCell_other _ _ _ _ (fun e => by injection e with e1 e2 _; omega)).trans (SB.out w3 hb).2.2.2.1, (World.cell?_setCell_other _ _ _ _ (fun e => by injection e with e1 e2 _; omega)).trans (SB.out w3 hb).2.2.2.2⟩)
       have pD := (SB.out _ ((Below.refl wq.heap.size wq).drew)).1
       have pE := (SB.out _ bE).1
       have pX := (SB.out _ bX).1
       have pEX := (SB.out _ bEX).1
       have pXE := (SB.out _ bXE).1
       have LENk := Lib.hid (show (cellsL encT (all.take k)).length = k * 3 by rw [cells_len (k := 3) (fun _ => rfl), List.length_take, HM.out, Nat.min_eq_left hk])
       have ONEk := Lib.hid (cells_one encT_one (all.take k))
       have ONEd := Lib.hid (cells_one encT_one (all.drop k))
       have SZk := Lib.hid (show 0 + k ≤ maxLen by unfold maxLen; omega)
       have SZk2 := Lib.hid (show (0 + k) * 24 ≤ 140737488355328 by omega)
       have SZm := Lib.hid (show 0 + k + 1 ≤ maxLen by unfold maxLen; omega)
       have SZm2 := Lib.hid (show (0 + k + 1) * 24 ≤ 140737488355328 by omega)
       have ROW := Lib.hid (HQ.out.tags.has rfl).2
       have gq := ROW.out.lt
       have GETk := Lib.hid (fun (w' : World) (hb : Below wq.heap.size wq w') (j : Nat) (u : Value) (hj : (cellsL encT (all.take k))[j]? = some u) => show w'.cell? ((⟨g, 0, none⟩ : Addr).add j) = some u by
         rw [addr_off, Nat.zero_add]
         refine (hb.cell (p := ⟨g, j, none⟩) gq).trans (ROW.out.cell ?_)
         rw [← cells_take (k := 3) (fun _ => rfl), List.getElem?_take] at hj
         split at hj
         · exact hj
         · cases hj)
       have SSL := Lib.hid (cells_len (enc := encT) (k := 3) (fun _ => rfl) all)
       rw [HM.out] at SSL
       have GETd := Lib.hid (fun (w' : World) (hb : Below wq.heap.size wq w') (j : Nat) (u : Value) (hj : (cellsL encT (all.drop k))[j]? = some u) => show w'.cell? ((⟨g, k * 3, none⟩ : Addr).add j) = some u by
         rw [addr_off]
         refine (hb.cell (p := ⟨g, k * 3 + j, none⟩) gq).trans (ROW.out.cell ?_)
         have e : cellsL encT all = (cellsL encT all).take (k * 3) ++ cellsL encT (all.drop k) := by rw [cells_take (k := 3) (fun _ => rfl), ← cells_app, List.take_append_drop]
         rw [e, List.getElem?_append_right (by rw [List.length_take]; omega), List.length_take, Nat.min_eq_left (by rw [SSL.out]; omega), show k * 3 + j - k * 3 = j by omega]; exact hj)
       have KLb := Lib.hid (fun (w1 : World) (z : World.grownBy (((wq.drew).alloc (.cells #[] 45)).alloc (.cells #[.int .i64 x.1.1, .int .i64 x.1.2, .int .i64 x.2] 45)) w1 (Value.ownBlock (.slice (some ⟨wq.heap.size, 0, none⟩) 0 0))) (j : Nat) (u : Value) (hj : (encT x)[j]? = some u) => show w1.cell? ((⟨wq.heap.size + 1, 0, none⟩ : Addr).add j) = some u by
         have := LIb j u hj
         rw [addr_off] at this ⊢
         exact (World.grownBy.cell_far z ⟨wq.heap.size + 1, 0 + j, none⟩ (by show wq.heap.size + 1 < _; simp) (by simp [Value.ownBlock])).trans this)
       have KLc := Lib.hid (fun (w1 : World) (z : World.grownBy (((wq.drew).alloc (.cells #[.int .i64 x.1.1, .int .i64 x.1.2, .int .i64 x.2] 45)).alloc (.cells #[] 45)) w1 (Value.ownBlock (.slice (some ⟨wq.heap.size + 1, 0, none⟩) 0 0))) (j : Nat) (u : Value) (hj : (encT x)[j]? = some u) => show w1.cell? ((⟨wq.heap.size, 0, none⟩ : Addr).add j) = some u by
         have := LIc0 j u hj
         rw [addr_off] at this ⊢
         exact (World.grownBy.cell_far z ⟨wq.heap.size, 0 + j, none⟩ (by show wq.heap.size < _; simp; omega) (by simp [Value.ownBlock])).trans (((below_alloc ((wq.drew).alloc (.cells #[.int .i64 x.1.1, .int .i64 x.1.2, .int .i64 x.2] 45)) (.cells #[] 45)).cell (p := ⟨wq.heap.size, 0 + j, none⟩) (by show wq.heap.size < _; simp)).trans this))
       have IC := Lib.hid (insT_cells x all k)
       have IL := Lib.hid (insT_len x all k (by rw [HM.out]; exact hk))
       rw [HM.out] at IL
       have CT := Lib.hid (cells_take (enc := encT) (k := 3) (fun _ => rfl) all k)
       have FI := Lib.hid (fun (w3 : World) (g3 cap3 : Nat) (bl3 : Below wq.heap.size wq w3) (ho : w3.ownsRow wq.heap.size 45 3 (.slice (some ⟨g3, 0, none⟩) (k + 1 + (m - k)) cap3) (k + 1 + (m - k)) (cellsL encT (all.take k) ++ encT x ++ cellsL encT (all.drop k))) => show PutR G w r all x (.returned (.tuple #[])) (w3.setCell ⟨r, 0, none⟩ (.slice (some ⟨g3, 0, none⟩) (k + 1 + (m - k)) cap3)) by
         have bl3' : Below wq.heap.size wq w3 := bl3
         obtain ⟨R5, K5⟩ := (HQ.out.box.below bl3').setCell 0 (by simp) (.slice (some ⟨g3, 0, none⟩) (k + 1 + (m - k)) cap3)
         obtain ⟨rr, ll, hcap, hB3⟩ := row_of ho
         have hgr : g3 ≠ r := by omega
         refine ⟨rfl, k, by rw [HM.out]; exact hk, fun j h1 h2 => D.out j h1 (by rw [HM.out] at h2; exact h2), LO.out, ⟨some ⟨g3, 0, none⟩, cap3, by rw [IL.out]; exact R5, HQ.out.foot, ⟨by rw [cells_len (k := 3) (fun _ => rfl)], by rw [IL.out]; exact hcap, .inr ⟨g3, rfl, GG.out _ (Nat.le_trans BQ.out.size hB3), ?_⟩⟩⟩, ?_⟩
         · rw [IC.out, CT.out, ← List.append_assoc]
           exact rr.kp K5 hgr
         · exact (Kp.of (BQ.out.trans (bl3'.mono BQ.out.size))).trans K5)
       have i1 : (0 : Int) ≤ (k : Int) := by omega
       have i2 : (k : Int) ≤ (m : Int) := by omega
       have hmc := HQ.out.tags.2.1
       rw [HM.out] at hmc
       have i3 : k ≤ c := by omega
       have i5 : (k : Int) ≤ (c : Int) := by omega
       clear X0 X1 X2 pf
       by_cases hkm : k < m
       · have i4 : k < c := by omega
         have j1 : ¬ c = k := by omega
         have j3 : ¬ c - k = 0 := by omega
         have LENd := Lib.hid (show (cellsL encT (all.drop k)).length = (m - k) * 3 by rw [cells_len (k := 3) (fun _ => rfl), List.length_drop, HM.out])
         have SZ1 := Lib.hid (show 0 + k + 1 + (m - k) ≤ maxLen by unfold maxLen; omega)
         have SZ2 := Lib.hid (show (0 + k + 1 + (m - k)) * 24 ≤ 140737488355328 by omega)
         refine wp_region_late (fun k => k == 21) (fun v => Below wq.heap.size wq v) (by kernel_rfl) ?_
         have D0 : Below wq.heap.size wq wq.drew := (Below.refl _ _).drew
         refine Late.take 0 (.pointer (some ⟨r, 0, none⟩)) rfl (by kernel_rfl) (by kernel_rfl) (by kernel_rfl) (by kernel_rfl) (fun _ _ _ h => h) (.inl ⟨rfl, fun w' hs => ?_⟩) D0 ?_
         ·
           go_simp
         refine Late.take 2 (.pointer (some ⟨r, 0, none⟩)) rfl (by kernel_rfl) (by kernel_rfl) (by kernel_rfl) (by kernel_rfl) (fun _ _ _ h => h) (.inl ⟨rfl, fun w' hs => ?_⟩) D0 ?_
         ·
           go_simp
         refine Late.take 3 (.pointer (some ⟨r, 0, none⟩)) rfl (by kernel_rfl) (by kernel_rfl) (by kernel_rfl) (by kernel_rfl) (fun _ _ _ h => h) (.inl ⟨rfl, fun w' hs => ?_⟩) D0 ?_
         ·
           go_simp
         refine Late.take 4 (.pointer (some ⟨r, 0, none⟩)) rfl (by kernel_rfl) (by kernel_rfl) (by kernel_rfl) (by kernel_rfl) (fun _ _ _ h => h) (.inl ⟨rfl, fun w' hs => ?_⟩) D0 ?_
         ·
           go_simp
         refine Late.take 5 (.slice (some ⟨g, 0, none⟩) m c) rfl (by kernel_rfl) (by kernel_rfl) (by kernel_rfl) (by kernel_rfl) (fun _ _ _ h => h) (.inl ⟨rfl, fun w' hs => ?_⟩) D0 ?_
         ·
           have z0 := (SB.out w' hs).1
           go_simp
         refine Late.take 6 (.int .i64 (k : Int)) rfl (by kernel_rfl) (by kernel_rfl) (by kernel_rfl) (by kernel_rfl) (fun _ _ _ h => h) (.inl ⟨rfl, fun w' hs => ?_⟩) D0 ?_
         ·
           go_simp
         refine Late.take 7 (.slice (some ⟨g, 0, none⟩) k c) rfl (by kernel_rfl) (by kernel_rfl) (by kernel_rfl) (by kernel_rfl) (fun _ _ _ h => h) (.inl ⟨rfl, fun w' hs => ?_⟩) D0 ?_
         ·
           go_simp
         refine Late.take 9 (.agg #[.int .i64 x.1.1, .int .i64 x.1.2, .int .i64 x.2]) rfl (by kernel_rfl) (by kernel_rfl) (by kernel_rfl) (by kernel_rfl) (fun _ _ _ h => h) (.inl ⟨rfl, fun w' hs => ?_⟩) D0 ?_
         ·
           obtain ⟨-, -, z0, z1, z2⟩ := SB.out w' hs
           go_simp
         refine Late.take 12 (.pointer (some ⟨r, 0, none⟩)) rfl (by kernel_rfl) (by kernel_rfl) (by kernel_rfl) (by kernel_rfl) (fun _ _ _ h => h) (.inl ⟨rfl, fun w' hs => ?_⟩) D0 ?_
         ·
           go_simp
         refine Late.take 13 (.pointer (some ⟨r, 0, none⟩)) rfl (by kernel_rfl) (by kernel_rfl) (by kernel_rfl) (by kernel_rfl) (fun _ _ _ h => h) (.inl ⟨rfl, fun w' hs => ?_⟩) D0 ?_
         ·
           go_simp
         refine Late.take 14 (.pointer (some ⟨r, 0, none⟩)) rfl (by kernel_rfl) (by kernel_rfl) (by kernel_rfl) (by kernel_rfl) (fun _ _ _ h => h) (.inl ⟨rfl, fun w' hs => ?_⟩) D0 ?_
         ·
           go_simp
         refine Late.take 15 (.slice (some ⟨g, 0, none⟩) m c) rfl (by kernel_rfl) (by kernel_rfl) (by kernel_rfl) (by kernel_rfl) (fun _ _ _ h => h) (.inl ⟨rfl, fun w' hs => ?_⟩) D0 ?_
         ·
           have z0 := (SB.out w' hs).1
           go_simp
         refine Late.take 16 (.int .i64 (k : Int)) rfl (by kernel_rfl) (by kernel_rfl) (by kernel_rfl) (by kernel_rfl) (fun _ _ _ h => h) (.inl ⟨rfl, fun w' hs => ?_⟩) D0 ?_
         ·
           go_simp
         refine Late.take 17 (.slice (some ⟨g, k * 3, none⟩) (m - k) (c - k)) rfl (by kernel_rfl) (by kernel_rfl) (by kernel_rfl) (by kernel_rfl) (fun _ _ _ h => h) (.inl ⟨rfl, fun w' hs => ?_⟩) D0 ?_
         ·
           go_simp
         refine Late.two 1 10 rfl rfl (by kernel_rfl) rfl rfl ?_ ?_
         · go_simp
           refine ⟨bE, ?_⟩
           refine Late.two 8 10 rfl rfl (by kernel_rfl) rfl rfl ?_ ?_
           · refine wp_append_own _ (.tmp 31) (.tmp 37) _ (by rfl) wq.heap.size 45 i0 _ 3 24 Try.underlying32 hi hz0 hz1 hz2 rfl (by omega) (.slice (some ⟨wq.heap.size, 0, none⟩) 0 0) 0 [] (by rfl) OEa ⟨g, 0, none⟩ k c (cellsL encT (all.take k)) (by rfl) LENk.out (GETk.out _ bE) ONEk.out SZk.out SZk2.out bE.size ?_
             intro v1 w1 hown1 hgr1 _
             have bl1 := bE.grown hgr1 bE.size (fun j hj => (World.ownsRow.lt OEa j hj).1)
             refine ⟨.inr bl1, ?_⟩
             have ba1 := bl1.alloc bl1.size (.cells #[.int .i64 x.1.1, .int .i64 x.1.2, .int .i64 x.2] 45)
             refine Late.one 10 rfl (by kernel_rfl) rfl ?_
             go_simp
             refine Late.one 11 rfl (by kernel_rfl) rfl ?_
             refine wp_append_own _ (.tmp 38) (.tmp 40) _ (by rfl) wq.heap.size 45 i0 _ 3 24 Try.underlying32 hi hz0 hz1 hz2 rfl (by omega) v1 (0 + k) ([] ++ cellsL encT (all.take k)) (by rfl) (World.ownsRow.alloc hown1 _) ⟨w1.heap.size, 0, none⟩ 1 1 (encT x) (by rfl) (by rfl) (newcells w1 #[.int .i64 x.1.1, .int .i64 x.1.2, .int .i64 x.2] 45) (encT_one x) SZm.out SZm2.out ba1.size ?_
             intro v2 w2 hown2 hgr2 _
             have bl2 := ba1.grown hgr2 ba1.size (fun j hj => (World.ownsRow.lt hown1 j hj).1)
             refine ⟨.inr bl2, ?_⟩
             refine Late.one 18 rfl (by kernel_rfl) rfl ?_
             refine wp_append_own _ (.tmp 41) (.tmp 47) _ (by rfl) wq.heap.size 45 i0 _ 3 24 Try.underlying32 hi hz0 hz1 hz2 rfl (by omega) v2 (0 + k + 1) (([] ++ cellsL encT (all.take k)) ++ encT x) (by rfl) hown2 ⟨g, k * 3, none⟩ (m - k) (c - k) (cellsL encT (all.drop k)) (by rfl) LENd.out (GETd.out _ bl2) ONEd.out SZ1.out SZ2.out bl2.size ?_
             intro v3 w3 hown3 hgr3 _
             have bl3 := bl2.grown hgr3 bl2.size (fun j hj => (World.ownsRow.lt hown2 j hj).1)
             refine ⟨.inr bl3, ?_⟩
             have sc3 := (SB.out w3 bl3).1
             have sf3 := (SB.out w3 bl3).2.1
             obtain ⟨g3, cap3, rfl, hg31, hg32⟩ := World.ownsRow.form hown3 (by omega)
             have FIN := Lib.hid (FI.out w3 g3 cap3 bl3 (by rw [List.nil_append, Nat.zero_add] at hown3; exact hown3))
             refine Late.one 19 rfl (by kernel_rfl) rfl ?_
             go_simp
             refine Late.take 20 (.pointer (some ⟨r, 0, none⟩)) rfl (by kernel_rfl) (by kernel_rfl) (by kernel_rfl) (by kernel_rfl) (fun _ _ _ h => h) (.inl ⟨rfl, fun w' hs => ?_⟩) bl3 ?_
             ·
               go_simp
             refine Late.one 21 rfl (by kernel_rfl) rfl ?_
             go_simp
             refine ⟨by kernel_rfl, ?_⟩
             clear hown1 hown2 hown3 hgr1 hgr2 hgr3
             go_wp2
             exact bodyPost_ret (v := .tuple #[]) (by simp [results, Try.results62, go_sem]) rfl FIN.out
           · go_simp
             refine ⟨bEX, ?_⟩
             refine Late.one 8 rfl (by kernel_rfl) rfl ?_
             refine wp_append_own _ (.tmp 31) (.tmp 37) _ (by rfl) wq.heap.size 45 i0 _ 3 24 Try.underlying32 hi hz0 hz1 hz2 rfl (by omega) (.slice (some ⟨wq.heap.size, 0, none⟩) 0 0) 0 [] (by rfl) OEb ⟨g, 0, none⟩ k c (cellsL encT (all.take k)) (by rfl) LENk.out (GETk.out _ bEX) ONEk.out SZk.out SZk2.out bEX.size ?_
             intro v1 w1 hown1 hgr1 _
             have bl1 := bEX.grown hgr1 bEX.size (fun j hj => (World.ownsRow.lt OEb j hj).1)
             refine ⟨.inr bl1, ?_⟩
             have li1 := KLb.out w1 hgr1
             refine Late.one 11 rfl (by kernel_rfl) rfl ?_
             refine wp_append_own _ (.tmp 38) (.tmp 40) _ (by rfl) wq.heap.size 45 i0 _ 3 24 Try.underlying32 hi hz0 hz1 hz2 rfl (by omega) v1 (0 + k) ([] ++ cellsL encT (all.take k)) (by rfl) hown1 ⟨wq.heap.size + 1, 0, none⟩ 1 1 (encT x) (by rfl) (by rfl) li1 (encT_one x) SZm.out SZm2.out bl1.size ?_
             intro v2 w2 hown2 hgr2 _
             have bl2 := bl1.grown hgr2 bl1.size (fun j hj => (World.ownsRow.lt hown1 j hj).1)
             refine ⟨.inr bl2, ?_⟩
             refine Late.one 18 rfl (by kernel_rfl) rfl ?_
             refine wp_append_own _ (.tmp 41) (.tmp 47) _ (by rfl) wq.heap.size 45 i0 _ 3 24 Try.underlying32 hi hz0 hz1 hz2 rfl (by omega) v2 (0 + k + 1) (([] ++ cellsL encT (all.take k)) ++ encT x) (by rfl) hown2 ⟨g, k * 3, none⟩ (m - k) (c - k) (cellsL encT (all.drop k)) (by rfl) LENd.out (GETd.out _ bl2) ONEd.out SZ1.out SZ2.out bl2.size ?_
             intro v3 w3 hown3 hgr3 _
             have bl3 := bl2.grown hgr3 bl2.size (fun j hj => (World.ownsRow.lt hown2 j hj).1)
             refine ⟨.inr bl3, ?_⟩
             have sc3 := (SB.out w3 bl3).1
             have sf3 := (SB.out w3 bl3).2.1
             obtain ⟨g3, cap3, rfl, hg31, hg32⟩ := World.ownsRow.form hown3 (by omega)
             have FIN := Lib.hid (FI.out w3 g3 cap3 bl3 (by rw [List.nil_append, Nat.zero_add] at hown3; exact hown3))
             refine Late.one 19 rfl (by kernel_rfl) rfl ?_
             go_simp
             refine Late.take 20 (.pointer (some ⟨r, 0, none⟩)) rfl (by kernel_rfl) (by kernel_rfl) (by kernel_rfl) (by kernel_rfl) (fun _ _ _ h => h) (.inl ⟨rfl, fun w' hs => ?_⟩) bl3 ?_
             ·
               go_simp
             refine Late.one 21 rfl (by kernel_rfl) rfl ?_
             go_simp
             refine ⟨by kernel_rfl, ?_⟩
             clear hown1 hown2 hown3 hgr1 hgr2 hgr3
             go_wp2
             exact bodyPost_ret (v := .tuple #[]) (by simp [results, Try.results62, go_sem]) rfl FIN.out
         · go_simp
           refine ⟨bX, ?_⟩
           refine Late.one 1 rfl (by kernel_rfl) rfl ?_
           go_simp
           refine ⟨bXE, ?_⟩
           refine Late.one 8 rfl (by kernel_rfl) rfl ?_
           refine wp_append_own _ (.tmp 31) (.tmp 37) _ (by rfl) wq.heap.size 45 i0 _ 3 24 Try.underlying32 hi hz0 hz1 hz2 rfl (by omega) (.slice (some ⟨wq.heap.size + 1, 0, none⟩) 0 0) 0 [] (by rfl) OEc ⟨g, 0, none⟩ k c (cellsL encT (all.take k)) (by rfl) LENk.out (GETk.out _ bXE) ONEk.out SZk.out SZk2.out bXE.size ?_
           intro v1 w1 hown1 hgr1 _
           have bl1 := bXE.grown hgr1 bXE.size (fun j hj => (World.ownsRow.lt OEc j hj).1)
           refine ⟨.inr bl1, ?_⟩
           have li1 := KLc.out w1 hgr1
           refine Late.one 11 rfl (by kernel_rfl) rfl ?_
           refine wp_append_own _ (.tmp 38) (.tmp 40) _ (by rfl) wq.heap.size 45 i0 _ 3 24 Try.underlying32 hi hz0 hz1 hz2 rfl (by omega) v1 (0 + k) ([] ++ cellsL encT (all.take k)) (by rfl) hown1 ⟨wq.heap.size, 0, none⟩ 1 1 (encT x) (by rfl) (by rfl) li1 (encT_one x) SZm.out SZm2.out bl1.size ?_
           intro v2 w2 hown2 hgr2 _
           have bl2 := bl1.grown hgr2 bl1.size (fun j hj => (World.ownsRow.lt hown1 j hj).1)
           refine ⟨.inr bl2, ?_⟩
           refine Late.one 18 rfl (by kernel_rfl) rfl ?_
           refine wp_append_own _ (.tmp 41) (.tmp 47) _ (by rfl) wq.heap.size 45 i0 _ 3 24 Try.underlying32 hi hz0 hz1 hz2 rfl (by omega) v2 (0 + k + 1) (([] ++ cellsL encT (all.take k)) ++ encT x) (by rfl) hown2 ⟨g, k * 3, none⟩ (m - k) (c - k) (cellsL encT (all.drop k)) (by rfl) LENd.out (GETd.out _ bl2) ONEd.out SZ1.out SZ2.out bl2.size ?_
           intro v3 w3 hown3 hgr3 _
           have bl3 := bl2.grown hgr3 bl2.size (fun j hj => (World.ownsRow.lt hown2 j hj).1)
           refine ⟨.inr bl3, ?_⟩
           have sc3 := (SB.out w3 bl3).1
           have sf3 := (SB.out w3 bl3).2.1
           obtain ⟨g3, cap3, rfl, hg31, hg32⟩ := World.ownsRow.form hown3 (by omega)
           have FIN := Lib.hid (FI.out w3 g3 cap3 bl3 (by rw [List.nil_append, Nat.zero_add] at hown3; exact hown3))
           refine Late.one 19 rfl (by kernel_rfl) rfl ?_
           go_simp
           refine Late.take 20 (.pointer (some ⟨r, 0, none⟩)) rfl (by kernel_rfl) (by kernel_rfl) (by kernel_rfl) (by kernel_rfl) (fun _ _ _ h => h) (.inl ⟨rfl, fun w' hs => ?_⟩) bl3 ?_
           ·
             go_simp
           refine Late.one 21 rfl (by kernel_rfl) rfl ?_
           go_simp
           refine ⟨by kernel_rfl, ?_⟩
           clear hown1 hown2 hown3 hgr1 hgr2 hgr3
           go_wp2
           exact bodyPost_ret (v := .tuple #[]) (by simp [results, Try.results62, go_sem]) rfl FIN.out
       · obtain rfl : k = m := by omega
         have DN := Lib.hid (show all.drop k = [] from List.drop_eq_nil_of_le (by rw [HM.out]; exact Nat.le_refl _))
         have SZ1 := Lib.hid (show 0 + k + 1 + 0 ≤ maxLen by unfold maxLen; omega)
         have SZ2 := Lib.hid (show (0 + k + 1 + 0) * 24 ≤ 140737488355328 by omega)
         rw [DN.out, Nat.sub_self] at FI
         clear hkm GETd ONEd
         by_cases hck : c = k
         · subst hck
           refine wp_region_late (fun k => k == 21) (fun v => Below wq.heap.size wq v) (by kernel_rfl) ?_
           have D0 : Below wq.heap.size wq wq.drew := (Below.refl _ _).drew
           refine Late.take 0 (.pointer (some ⟨r, 0, none⟩)) rfl (by kernel_rfl) (by kernel_rfl) (by kernel_rfl) (by kernel_rfl) (fun _ _ _ h => h) (.inl ⟨rfl, fun w' hs => ?_⟩) D0 ?_
           ·
             go_simp
           refine Late.take 2 (.pointer (some ⟨r, 0, none⟩)) rfl (by kernel_rfl) (by kernel_rfl) (by kernel_rfl) (by kernel_rfl) (fun _ _ _ h => h) (.inl ⟨rfl, fun w' hs => ?_⟩) D0 ?_
           ·
             go_simp
           refine Late.take 3 (.pointer (some ⟨r, 0, none⟩)) rfl (by kernel_rfl) (by kernel_rfl) (by kernel_rfl) (by kernel_rfl) (fun _ _ _ h => h) (.inl ⟨rfl, fun w' hs => ?_⟩) D0 ?_
           ·
             go_simp
           refine Late.take 4 (.pointer (some ⟨r, 0, none⟩)) rfl (by kernel_rfl) (by kernel_rfl) (by kernel_rfl) (by kernel_rfl) (fun _ _ _ h => h) (.inl ⟨rfl, fun w' hs => ?_⟩) D0 ?_
           ·
             go_simp
           refine Late.take 5 (.slice (some ⟨g, 0, none⟩) c c) rfl (by kernel_rfl) (by kernel_rfl) (by kernel_rfl) (by kernel_rfl) (fun _ _ _ h => h) (.inl ⟨rfl, fun w' hs => ?_⟩) D0 ?_
           ·
             have z0 := (SB.out w' hs).1
             go_simp
           refine Late.take 6 (.int .i64 (c : Int)) rfl (by kernel_rfl) (by kernel_rfl) (by kernel_rfl) (by kernel_rfl) (fun _ _ _ h => h) (.inl ⟨rfl, fun w' hs => ?_⟩) D0 ?_
           ·
             go_simp
           refine Late.take 7 (.slice (some ⟨g, 0, none⟩) c c) rfl (by kernel_rfl) (by kernel_rfl) (by kernel_rfl) (by kernel_rfl) (fun _ _ _ h => h) (.inl ⟨rfl, fun w' hs => ?_⟩) D0 ?_
           ·
             go_simp
           refine Late.take 9 (.agg #[.int .i64 x.1.1, .int .i64 x.1.2, .int .i64 x.2]) rfl (by kernel_rfl) (by kernel_rfl) (by kernel_rfl) (by kernel_rfl) (fun _ _ _ h => h) (.inl ⟨rfl, fun w' hs => ?_⟩) D0 ?_
           ·
             obtain ⟨-, -, z0, z1, z2⟩ := SB.out w' hs
             go_simp
           refine Late.take 12 (.pointer (some ⟨r, 0, none⟩)) rfl (by kernel_rfl) (by kernel_rfl) (by kernel_rfl) (by kernel_rfl) (fun _ _ _ h => h) (.inl ⟨rfl, fun w' hs => ?_⟩) D0 ?_
           ·
             go_simp
           refine Late.take 13 (.pointer (some ⟨r, 0, none⟩)) rfl (by kernel_rfl) (by kernel_rfl) (by kernel_rfl) (by kernel_rfl) (fun _ _ _ h => h) (.inl ⟨rfl, fun w' hs => ?_⟩) D0 ?_
           ·
             go_simp
           refine Late.take 14 (.pointer (some ⟨r, 0, none⟩)) rfl (by kernel_rfl) (by kernel_rfl) (by kernel_rfl) (by kernel_rfl) (fun _ _ _ h => h) (.inl ⟨rfl, fun w' hs => ?_⟩) D0 ?_
           ·
             go_simp
           refine Late.take 15 (.slice (some ⟨g, 0, none⟩) c c) rfl (by kernel_rfl) (by kernel_rfl) (by kernel_rfl) (by kernel_rfl) (fun _ _ _ h => h) (.inl ⟨rfl, fun w' hs => ?_⟩) D0 ?_
           ·
             have z0 := (SB.out w' hs).1
             go_simp
           refine Late.take 16 (.int .i64 (c : Int)) rfl (by kernel_rfl) (by kernel_rfl) (by kernel_rfl) (by kernel_rfl) (fun _ _ _ h => h) (.inl ⟨rfl, fun w' hs => ?_⟩) D0 ?_
           ·
             go_simp
           refine Late.take 17 (.slice (some ⟨g, 0, none⟩) 0 0) rfl (by kernel_rfl) (by kernel_rfl) (by kernel_rfl) (by kernel_rfl) (fun _ _ _ h => h) (.inl ⟨rfl, fun w' hs => ?_⟩) D0 ?_
           ·
             go_simp
           refine Late.two 1 10 rfl rfl (by kernel_rfl) rfl rfl ?_ ?_
           · go_simp
             refine ⟨bE, ?_⟩
             refine Late.two 8 10 rfl rfl (by kernel_rfl) rfl rfl ?_ ?_
             · refine wp_append_own _ (.tmp 31) (.tmp 37) _ (by rfl) wq.heap.size 45 i0 _ 3 24 Try.underlying32 hi hz0 hz1 hz2 rfl (by omega) (.slice (some ⟨wq.heap.size, 0, none⟩) 0 0) 0 [] (by rfl) OEa ⟨g, 0, none⟩ c c (cellsL encT (all.take c)) (by rfl) LENk.out (GETk.out _ bE) ONEk.out SZk.out SZk2.out bE.size ?_
               intro v1 w1 hown1 hgr1 _
               have bl1 := bE.grown hgr1 bE.size (fun j hj => (World.ownsRow.lt OEa j hj).1)
               refine ⟨.inr bl1, ?_⟩
               have ba1 := bl1.alloc bl1.size (.cells #[.int .i64 x.1.1, .int .i64 x.1.2, .int .i64 x.2] 45)
               refine Late.one 10 rfl (by kernel_rfl) rfl ?_
               go_simp
               refine Late.one 11 rfl (by kernel_rfl) rfl ?_
               refine wp_append_own _ (.tmp 38) (.tmp 40) _ (by rfl) wq.heap.size 45 i0 _ 3 24 Try.underlying32 hi hz0 hz1 hz2 rfl (by omega) v1 (0 + c) ([] ++ cellsL encT (all.take c)) (by rfl) (World.ownsRow.alloc hown1 _) ⟨w1.heap.size, 0, none⟩ 1 1 (encT x) (by rfl) (by rfl) (newcells w1 #[.int .i64 x.1.1, .int .i64 x.1.2, .int .i64 x.2] 45) (encT_one x) SZm.out SZm2.out ba1.size ?_
               intro v2 w2 hown2 hgr2 _
               have bl2 := ba1.grown hgr2 ba1.size (fun j hj => (World.ownsRow.lt hown1 j hj).1)
               refine ⟨.inr bl2, ?_⟩
               refine Late.one 18 rfl (by kernel_rfl) rfl ?_
               refine wp_append_own _ (.tmp 41) (.tmp 47) _ (by rfl) wq.heap.size 45 i0 _ 3 24 Try.underlying32 hi hz0 hz1 hz2 rfl (by omega) v2 (0 + c + 1) (([] ++ cellsL encT (all.take c)) ++ encT x) (by rfl) hown2 ⟨g, 0, none⟩ 0 0 [] (by rfl) (by rfl) (by intro j u q; simp at q) (by intro u q; simp at q) SZ1.out SZ2.out bl2.size ?_
               intro v3 w3 hown3 hgr3 _
               have bl3 := bl2.grown hgr3 bl2.size (fun j hj => (World.ownsRow.lt hown2 j hj).1)
               refine ⟨.inr bl3, ?_⟩
               have sc3 := (SB.out w3 bl3).1
               have sf3 := (SB.out w3 bl3).2.1
               obtain ⟨g3, cap3, rfl, hg31, hg32⟩ := World.ownsRow.form hown3 (by omega)
               have FIN := Lib.hid (FI.out w3 g3 cap3 bl3 (by rw [List.nil_append, Nat.zero_add] at hown3; exact hown3))
               refine Late.one 19 rfl (by kernel_rfl) rfl ?_
               go_simp
               refine Late.take 20 (.pointer (some ⟨r, 0, none⟩)) rfl (by kernel_rfl) (by kernel_rfl) (by kernel_rfl) (by kernel_rfl) (fun _ _ _ h => h) (.inl ⟨rfl, fun w' hs => ?_⟩) bl3 ?_
               ·
                 go_simp
               refine Late.one 21 rfl (by kernel_rfl) rfl ?_
               go_simp
               refine ⟨by kernel_rfl, ?_⟩
               clear hown1 hown2 hown3 hgr1 hgr2 hgr3
               go_wp2
               exact bodyPost_ret (v := .tuple #[]) (by simp [results, Try.results62, go_sem]) rfl FIN.out
             · go_simp
               refine ⟨bEX, ?_⟩
               refine Late.one 8 rfl (by kernel_rfl) rfl ?_
               refine wp_append_own _ (.tmp 31) (.tmp 37) _ (by rfl) wq.heap.size 45 i0 _ 3 24 Try.underlying32 hi hz0 hz1 hz2 rfl (by omega) (.slice (some ⟨wq.heap.size, 0, none⟩) 0 0) 0 [] (by rfl) OEb ⟨g, 0, none⟩ c c (cellsL encT (all.take c)) (by rfl) LENk.out (GETk.out _ bEX) ONEk.out SZk.out SZk2.out bEX.size ?_
               intro v1 w1 hown1 hgr1 _
               have bl1 := bEX.grown hgr1 bEX.size (fun j hj => (World.ownsRow.lt OEb j hj).1)
               refine ⟨.inr bl1, ?_⟩
               have li1 := KLb.out w1 hgr1
               refine Late.one 11 rfl (by kernel_rfl) rfl ?_
               refine wp_append_own _ (.tmp 38) (.tmp 40) _ (by rfl) wq.heap.size 45 i0 _ 3 24 Try.underlying32 hi hz0 hz1 hz2 rfl (by omega) v1 (0 + c) ([] ++ cellsL encT (all.take c)) (by rfl) hown1 ⟨wq.heap.size + 1, 0, none⟩ 1 1 (encT x) (by rfl) (by rfl) li1 (encT_one x) SZm.out SZm2.out bl1.size ?_
               intro v2 w2 hown2 hgr2 _
               have bl2 := bl1.grown hgr2 bl1.size (fun j hj => (World.ownsRow.lt hown1 j hj).1)
               refine ⟨.inr bl2, ?_⟩
               refine Late.one 18 rfl (by kernel_rfl) rfl ?_
               refine wp_append_own _ (.tmp 41) (.tmp 47) _ (by rfl) wq.heap.size 45 i0 _ 3 24 Try.underlying32 hi hz0 hz1 hz2 rfl (by omega) v2 (0 + c + 1) (([] ++ cellsL encT (all.take c)) ++ encT x) (by rfl) hown2 ⟨g, 0, none⟩ 0 0 [] (by rfl) (by rfl) (by intro j u q; simp at q) (by intro u q; simp at q) SZ1.out SZ2.out bl2.size ?_
               intro v3 w3 hown3 hgr3 _
               have bl3 := bl2.grown hgr3 bl2.size (fun j hj => (World.ownsRow.lt hown2 j hj).1)
               refine ⟨.inr bl3, ?_⟩
               have sc3 := (SB.out w3 bl3).1
               have sf3 := (SB.out w3 bl3).2.1
               obtain ⟨g3, cap3, rfl, hg31, hg32⟩ := World.ownsRow.form hown3 (by omega)
               have FIN := Lib.hid (FI.out w3 g3 cap3 bl3 (by rw [List.nil_append, Nat.zero_add] at hown3; exact hown3))
               refine Late.one 19 rfl (by kernel_rfl) rfl ?_
               go_simp
               refine Late.take 20 (.pointer (some ⟨r, 0, none⟩)) rfl (by kernel_rfl) (by kernel_rfl) (by kernel_rfl) (by kernel_rfl) (fun _ _ _ h => h) (.inl ⟨rfl, fun w' hs => ?_⟩) bl3 ?_
               ·
                 go_simp
               refine Late.one 21 rfl (by kernel_rfl) rfl ?_
               go_simp
               refine ⟨by kernel_rfl, ?_⟩
               clear hown1 hown2 hown3 hgr1 hgr2 hgr3
               go_wp2
               exact bodyPost_ret (v := .tuple #[]) (by simp [results, Try.results62, go_sem]) rfl FIN.out
           · go_simp
             refine ⟨bX, ?_⟩
             refine Late.one 1 rfl (by kernel_rfl) rfl ?_
             go_simp
             refine ⟨bXE, ?_⟩
             refine Late.one 8 rfl (by kernel_rfl) rfl ?_
             refine wp_append_own _ (.tmp 31) (.tmp 37) _ (by rfl) wq.heap.size 45 i0 _ 3 24 Try.underlying32 hi hz0 hz1 hz2 rfl (by omega) (.slice (some ⟨wq.heap.size + 1, 0, none⟩) 0 0) 0 [] (by rfl) OEc ⟨g, 0, none⟩ c c (cellsL encT (all.take c)) (by rfl) LENk.out (GETk.out _ bXE) ONEk.out SZk.out SZk2.out bXE.size ?_
             intro v1 w1 hown1 hgr1 _
             have bl1 := bXE.grown hgr1 bXE.size (fun j hj => (World.ownsRow.lt OEc j hj).1)
             refine ⟨.inr bl1, ?_⟩
             have li1 := KLc.out w1 hgr1
             refine Late.one 11 rfl (by kernel_rfl) rfl ?_
             refine wp_append_own _ (.tmp 38) (.tmp 40) _ (by rfl) wq.heap.size 45 i0 _ 3 24 Try.underlying32 hi hz0 hz1 hz2 rfl (by omega) v1 (0 + c) ([] ++ cellsL encT (all.take c)) (by rfl) hown1 ⟨wq.heap.size, 0, none⟩ 1 1 (encT x) (by rfl) (by rfl) li1 (encT_one x) SZm.out SZm2.out bl1.size ?_
             intro v2 w2 hown2 hgr2 _
             have bl2 := bl1.grown hgr2 bl1.size (fun j hj => (World.ownsRow.lt hown1 j hj).1)
             refine ⟨.inr bl2, ?_⟩
             refine Late.one 18 rfl (by kernel_rfl) rfl ?_
             refine wp_append_own _ (.tmp 41) (.tmp 47) _ (by rfl) wq.heap.size 45 i0 _ 3 24 Try.underlying32 hi hz0 hz1 hz2 rfl (by omega) v2 (0 + c + 1) (([] ++ cellsL encT (all.take c)) ++ encT x) (by rfl) hown2 ⟨g, 0, none⟩ 0 0 [] (by rfl) (by rfl) (by intro j u q; simp at q) (by intro u q; simp at q) SZ1.out SZ2.out bl2.size ?_
             intro v3 w3 hown3 hgr3 _
             have bl3 := bl2.grown hgr3 bl2.size (fun j hj => (World.ownsRow.lt hown2 j hj).1)
             refine ⟨.inr bl3, ?_⟩
             have sc3 := (SB.out w3 bl3).1
             have sf3 := (SB.out w3 bl3).2.1
             obtain ⟨g3, cap3, rfl, hg31, hg32⟩ := World.ownsRow.form hown3 (by omega)
             have FIN := Lib.hid (FI.out w3 g3 cap3 bl3 (by rw [List.nil_append, Nat.zero_add] at hown3; exact hown3))
             refine Late.one 19 rfl (by kernel_rfl) rfl ?_
             go_simp
             refine Late.take 20 (.pointer (some ⟨r, 0, none⟩)) rfl (by kernel_rfl) (by kernel_rfl) (by kernel_rfl) (by kernel_rfl) (fun _ _ _ h => h) (.inl ⟨rfl, fun w' hs => ?_⟩) bl3 ?_
             ·
               go_simp
             refine Late.one 21 rfl (by kernel_rfl) rfl ?_
             go_simp
             refine ⟨by kernel_rfl, ?_⟩
             clear hown1 hown2 hown3 hgr1 hgr2 hgr3
             go_wp2
             exact bodyPost_ret (v := .tuple #[]) (by simp [results, Try.results62, go_sem]) rfl FIN.out
         · have j3 : ¬ c - k = 0 := by omega
           refine wp_region_late (fun k => k == 21) (fun v => Below wq.heap.size wq v) (by kernel_rfl) ?_
           have D0 : Below wq.heap.size wq wq.drew := (Below.refl _ _).drew
           refine Late.take 0 (.pointer (some ⟨r, 0, none⟩)) rfl (by kernel_rfl) (by kernel_rfl) (by kernel_rfl) (by kernel_rfl) (fun _ _ _ h => h) (.inl ⟨rfl, fun w' hs => ?_⟩) D0 ?_
           ·
             go_simp
           refine Late.take 2 (.pointer (some ⟨r, 0, none⟩)) rfl (by kernel_rfl) (by kernel_rfl) (by kernel_rfl) (by kernel_rfl) (fun _ _ _ h => h) (.inl ⟨rfl, fun w' hs => ?_⟩) D0 ?_
           ·
             go_simp
           refine Late.take 3 (.pointer (some ⟨r, 0, none⟩)) rfl (by kernel_rfl) (by kernel_rfl) (by kernel_rfl) (by kernel_rfl) (fun _ _ _ h => h) (.inl ⟨rfl, fun w' hs => ?_⟩) D0 ?_
           ·
             go_simp
           refine Late.take 4 (.pointer (some ⟨r, 0, none⟩)) rfl (by kernel_rfl) (by kernel_rfl) (by kernel_rfl) (by kernel_rfl) (fun _ _ _ h => h) (.inl ⟨rfl, fun w' hs => ?_⟩) D0 ?_
           ·
             go_simp
           refine Late.take 5 (.slice (some ⟨g, 0, none⟩) k c) rfl (by kernel_rfl) (by kernel_rfl) (by kernel_rfl) (by kernel_rfl) (fun _ _ _ h => h) (.inl ⟨rfl, fun w' hs => ?_⟩) D0 ?_
           ·
             have z0 := (SB.out w' hs).1
             go_simp
           refine Late.take 6 (.int .i64 (k : Int)) rfl (by kernel_rfl) (by kernel_rfl) (by kernel_rfl) (by kernel_rfl) (fun _ _ _ h => h) (.inl ⟨rfl, fun w' hs => ?_⟩) D0 ?_
           ·
             go_simp
           refine Late.take 7 (.slice (some ⟨g, 0, none⟩) k c) rfl (by kernel_rfl) (by kernel_rfl) (by kernel_rfl) (by kernel_rfl) (fun _ _ _ h => h) (.inl ⟨rfl, fun w' hs => ?_⟩) D0 ?_
           ·
             go_simp
           refine Late.take 9 (.agg #[.int .i64 x.1.1, .int .i64 x.1.2, .int .i64 x.2]) rfl (by kernel_rfl) (by kernel_rfl) (by kernel_rfl) (by kernel_rfl) (fun _ _ _ h => h) (.inl ⟨rfl, fun w' hs => ?_⟩) D0 ?_
           ·
             obtain ⟨-, -, z0, z1, z2⟩ := SB.out w' hs
             go_simp
           refine Late.take 12 (.pointer (some ⟨r, 0, none⟩)) rfl (by kernel_rfl) (by kernel_rfl) (by kernel_rfl) (by kernel_rfl) (fun _ _ _ h => h) (.inl ⟨rfl, fun w' hs => ?_⟩) D0 ?_
           ·
             go_simp
           refine Late.take 13 (.pointer (some ⟨r, 0, none⟩)) rfl (by kernel_rfl) (by kernel_rfl) (by kernel_rfl) (by kernel_rfl) (fun _ _ _ h => h) (.inl ⟨rfl, fun w' hs => ?_⟩) D0 ?_
           ·
             go_simp
           refine Late.take 14 (.pointer (some ⟨r, 0, none⟩)) rfl (by kernel_rfl) (by kernel_rfl) (by kernel_rfl) (by kernel_rfl) (fun _ _ _ h => h) (.inl ⟨rfl, fun w' hs => ?_⟩) D0 ?_
           ·
             go_simp
           refine Late.take 15 (.slice (some ⟨g, 0, none⟩) k c) rfl (by kernel_rfl) (by kernel_rfl) (by kernel_rfl) (by kernel_rfl) (fun _ _ _ h => h) (.inl ⟨rfl, fun w' hs => ?_⟩) D0 ?_
           ·
             have z0 := (SB.out w' hs).1
             go_simp
           refine Late.take 16 (.int .i64 (k : Int)) rfl (by kernel_rfl) (by kernel_rfl) (by kernel_rfl) (by kernel_rfl) (fun _ _ _ h => h) (.inl ⟨rfl, fun w' hs => ?_⟩) D0 ?_
           ·
             go_simp
           refine Late.take 17 (.slice (some ⟨g, k * 3, none⟩) 0 (c - k)) rfl (by kernel_rfl) (by kernel_rfl) (by kernel_rfl) (by kernel_rfl) (fun _ _ _ h => h) (.inl ⟨rfl, fun w' hs => ?_⟩) D0 ?_
           ·
             go_simp
           refine Late.two 1 10 rfl rfl (by kernel_rfl) rfl rfl ?_ ?_
           · go_simp
             refine ⟨bE, ?_⟩
             refine Late.two 8 10 rfl rfl (by kernel_rfl) rfl rfl ?_ ?_
             · refine wp_append_own _ (.tmp 31) (.tmp 37) _ (by rfl) wq.heap.size 45 i0 _ 3 24 Try.underlying32 hi hz0 hz1 hz2 rfl (by omega) (.slice (some ⟨wq.heap.size, 0, none⟩) 0 0) 0 [] (by rfl) OEa ⟨g, 0, none⟩ k c (cellsL encT (all.take k)) (by rfl) LENk.out (GETk.out _ bE) ONEk.out SZk.out SZk2.out bE.size ?_
               intro v1 w1 hown1 hgr1 _
               have bl1 := bE.grown hgr1 bE.size (fun j hj => (World.ownsRow.lt OEa j hj).1)
               refine ⟨.inr bl1, ?_⟩
               have ba1 := bl1.alloc bl1.size (.cells #[.int .i64 x.1.1, .int .i64 x.1.2, .int .i64 x.2] 45)
               refine Late.one 10 rfl (by kernel_rfl) rfl ?_
               go_simp
               refine Late.one 11 rfl (by kernel_rfl) rfl ?_
               refine wp_append_own _ (.tmp 38) (.tmp 40) _ (by rfl) wq.heap.size 45 i0 _ 3 24 Try.underlying32 hi hz0 hz1 hz2 rfl (by omega) v1 (0 + k) ([] ++ cellsL encT (all.take k)) (by rfl) (World.ownsRow.alloc hown1 _) ⟨w1.heap.size, 0, none⟩ 1 1 (encT x) (by rfl) (by rfl) (newcells w1 #[.int .i64 x.1.1, .int .i64 x.1.2, .int .i64 x.2] 45) (encT_one x) SZm.out SZm2.out ba1.size ?_
               intro v2 w2 hown2 hgr2 _
               have bl2 := ba1.grown hgr2 ba1.size (fun j hj => (World.ownsRow.lt hown1 j hj).1)
               refine ⟨.inr bl2, ?_⟩
               refine Late.one 18 rfl (by kernel_rfl) rfl ?_
               refine wp_append_own _ (.tmp 41) (.tmp 47) _ (by rfl) wq.heap.size 45 i0 _ 3 24 Try.underlying32 hi hz0 hz1 hz2 rfl (by omega) v2 (0 + k + 1) (([] ++ cellsL encT (all.take k)) ++ encT x) (by rfl) hown2 ⟨g, k * 3, none⟩ 0 (c - k) [] (by rfl) (by rfl) (by intro j u q; simp at q) (by intro u q; simp at q) SZ1.out SZ2.out bl2.size ?_
               intro v3 w3 hown3 hgr3 _
               have bl3 := bl2.grown hgr3 bl2.size (fun j hj => (World.ownsRow.lt hown2 j hj).1)
               refine ⟨.inr bl3, ?_⟩
               have sc3 := (SB.out w3 bl3).1
               have sf3 := (SB.out w3 bl3).2.1
               obtain ⟨g3, cap3, rfl, hg31, hg32⟩ := World.ownsRow.form hown3 (by omega)
               have FIN := Lib.hid (FI.out w3 g3 cap3 bl3 (by rw [List.nil_append, Nat.zero_add] at hown3; exact hown3))
               refine Late.one 19 rfl (by kernel_rfl) rfl ?_
               go_simp
               refine Late.take 20 (.pointer (some ⟨r, 0, none⟩)) rfl (by kernel_rfl) (by kernel_rfl) (by kernel_rfl) (by kernel_rfl) (fun _ _ _ h => h) (.inl ⟨rfl, fun w' hs => ?_⟩) bl3 ?_
               ·
                 go_simp
               refine Late.one 21 rfl (by kernel_rfl) rfl ?_
               go_simp
               refine ⟨by kernel_rfl, ?_⟩
               clear hown1 hown2 hown3 hgr1 hgr2 hgr3
               go_wp2
               exact bodyPost_ret (v := .tuple #[]) (by simp [results, Try.results62, go_sem]) rfl FIN.out
             · go_simp
               refine ⟨bEX, ?_⟩
               refine Late.one 8 rfl (by kernel_rfl) rfl ?_
               refine wp_append_own _ (.tmp 31) (.tmp 37) _ (by rfl) wq.heap.size 45 i0 _ 3 24 Try.underlying32 hi hz0 hz1 hz2 rfl (by omega) (.slice (some ⟨wq.heap.size, 0, none⟩) 0 0) 0 [] (by rfl) OEb ⟨g, 0, none⟩ k c (cellsL encT (all.take k)) (by rfl) LENk.out (GETk.out _ bEX) ONEk.out SZk.out SZk2.out bEX.size ?_
               intro v1 w1 hown1 hgr1 _
               have bl1 := bEX.grown hgr1 bEX.size (fun j hj => (World.ownsRow.lt OEb j hj).1)
               refine ⟨.inr bl1, ?_⟩
               have li1 := KLb.out w1 hgr1
               refine Late.one 11 rfl (by kernel_rfl) rfl ?_
               refine wp_append_own _ (.tmp 38) (.tmp 40) _ (by rfl) wq.heap.size 45 i0 _ 3 24 Try.underlying32 hi hz0 hz1 hz2 rfl (by omega) v1 (0 + k) ([] ++ cellsL encT (all.take k)) (by rfl) hown1 ⟨wq.heap.size + 1, 0, none⟩ 1 1 (encT x) (by rfl) (by rfl) li1 (encT_one x) SZm.out SZm2.out bl1.size ?_
               intro v2 w2 hown2 hgr2 _
               have bl2 := bl1.grown hgr2 bl1.size (fun j hj => (World.ownsRow.lt hown1 j hj).1)
               refine ⟨.inr bl2, ?_⟩
               refine Late.one 18 rfl (by kernel_rfl) rfl ?_
               refine wp_append_own _ (.tmp 41) (.tmp 47) _ (by rfl) wq.heap.size 45 i0 _ 3 24 Try.underlying32 hi hz0 hz1 hz2 rfl (by omega) v2 (0 + k + 1) (([] ++ cellsL encT (all.take k)) ++ encT x) (by rfl) hown2 ⟨g, k * 3, none⟩ 0 (c - k) [] (by rfl) (by rfl) (by intro j u q; simp at q) (by intro u q; simp at q) SZ1.out SZ2.out bl2.size ?_
               intro v3 w3 hown3 hgr3 _
               have bl3 := bl2.grown hgr3 bl2.size (fun j hj => (World.ownsRow.lt hown2 j hj).1)
               refine ⟨.inr bl3, ?_⟩
               have sc3 := (SB.out w3 bl3).1
               have sf3 := (SB.out w3 bl3).2.1
               obtain ⟨g3, cap3, rfl, hg31, hg32⟩ := World.ownsRow.form hown3 (by omega)
               have FIN := Lib.hid (FI.out w3 g3 cap3 bl3 (by rw [List.nil_append, Nat.zero_add] at hown3; exact hown3))
               refine Late.one 19 rfl (by kernel_rfl) rfl ?_
               go_simp
               refine Late.take 20 (.pointer (some ⟨r, 0, none⟩)) rfl (by kernel_rfl) (by kernel_rfl) (by kernel_rfl) (by kernel_rfl) (fun _ _ _ h => h) (.inl ⟨rfl, fun w' hs => ?_⟩) bl3 ?_
               ·
                 go_simp
               refine Late.one 21 rfl (by kernel_rfl) rfl ?_
               go_simp
               refine ⟨by kernel_rfl, ?_⟩
               clear hown1 hown2 hown3 hgr1 hgr2 hgr3
               go_wp2
               exact bodyPost_ret (v := .tuple #[]) (by simp [results, Try.results62, go_sem]) rfl FIN.out
           · go_simp
             refine ⟨bX, ?_⟩
             refine Late.one 1 rfl (by kernel_rfl) rfl ?_
             go_simp
             refine ⟨bXE, ?_⟩
             refine Late.one 8 rfl (by kernel_rfl) rfl ?_
             refine wp_append_own _ (.tmp 31) (.tmp 37) _ (by rfl) wq.heap.size 45 i0 _ 3 24 Try.underlying32 hi hz0 hz1 hz2 rfl (by omega) (.slice (some ⟨wq.heap.size + 1, 0, none⟩) 0 0) 0 [] (by rfl) OEc ⟨g, 0, none⟩ k c (cellsL encT (all.take k)) (by rfl) LENk.out (GETk.out _ bXE) ONEk.out SZk.out SZk2.out bXE.size ?_
             intro v1 w1 hown1 hgr1 _
             have bl1 := bXE.grown hgr1 bXE.size (fun j hj => (World.ownsRow.lt OEc j hj).1)
             refine ⟨.inr bl1, ?_⟩
             have li1 := KLc.out w1 hgr1
             refine Late.one 11 rfl (by kernel_rfl) rfl ?_
             refine wp_append_own _ (.tmp 38) (.tmp 40) _ (by rfl) wq.heap.size 45 i0 _ 3 24 Try.underlying32 hi hz0 hz1 hz2 rfl (by omega) v1 (0 + k) ([] ++ cellsL encT (all.take k)) (by rfl) hown1 ⟨wq.heap.size, 0, none⟩ 1 1 (encT x) (by rfl) (by rfl) li1 (encT_one x) SZm.out SZm2.out bl1.size ?_
             intro v2 w2 hown2 hgr2 _
             have bl2 := bl1.grown hgr2 bl1.size (fun j hj => (World.ownsRow.lt hown1 j hj).1)
             refine ⟨.inr bl2, ?_⟩
             refine Late.one 18 rfl (by kernel_rfl) rfl ?_
             refine wp_append_own _ (.tmp 41) (.tmp 47) _ (by rfl) wq.heap.size 45 i0 _ 3 24 Try.underlying32 hi hz0 hz1 hz2 rfl (by omega) v2 (0 + k + 1) (([] ++ cellsL encT (all.take k)) ++ encT x) (by rfl) hown2 ⟨g, k * 3, none⟩ 0 (c - k) [] (by rfl) (by rfl) (by intro j u q; simp at q) (by intro u q; simp at q) SZ1.out SZ2.out bl2.size ?_
             intro v3 w3 hown3 hgr3 _
             have bl3 := bl2.grown hgr3 bl2.size (fun j hj => (World.ownsRow.lt hown2 j hj).1)
             refine ⟨.inr bl3, ?_⟩
             have sc3 := (SB.out w3 bl3).1
             have sf3 := (SB.out w3 bl3).2.1
             obtain ⟨g3, cap3, rfl, hg31, hg32⟩ := World.ownsRow.form hown3 (by omega)
             have FIN := Lib.hid (FI.out w3 g3 cap3 bl3 (by rw [List.nil_append, Nat.zero_add] at hown3; exact hown3))
             refine Late.one 19 rfl (by kernel_rfl) rfl ?_
             go_simp
             refine Late.take 20 (.pointer (some ⟨r, 0, none⟩)) rfl (by kernel_rfl) (by kernel_rfl) (by kernel_rfl) (by kernel_rfl) (fun _ _ _ h => h) (.inl ⟨rfl, fun w' hs => ?_⟩) bl3 ?_
             ·
               go_simp
             refine Late.one 21 rfl (by kernel_rfl) rfl ?_
             go_simp
             refine ⟨by kernel_rfl, ?_⟩
             clear hown1 hown2 hown3 hgr1 hgr2 hgr3
             go_wp2
             exact bodyPost_ret (v := .tuple #[]) (by simp [results, Try.results62, go_sem]) rfl FIN.out)
    · obtain ⟨k0, hk0⟩ : ∃ k', k = k' + 1 := ⟨k - 1, by omega⟩
      obtain ⟨b2, o2, ea, hb2, hcc2⟩ := TA.out.2 (by omega)
      injection ea with ea
      injection ea with ea1 ea2
      subst ea1 ea2
      obtain ⟨e0, -, -⟩ := hcc2 k0 (by omega)
      rw [Nat.zero_add] at e0
      have HK0 := Lib.hid hk0
      have j1 : (k0 : Int) < m := by omega
      have j2 : k0 < m := by omega
      have j5 : decide ((0 : Int) < (k : Int)) = true := decide_eq_true (by omega)
      have j6 : decide (0 < k) = true := decide_eq_true (by omega)
      have W3 : IntKind.i64.wrap ((k : Int) - 1) = (k0 : Int) := by rw [show (k : Int) - 1 = (k0 : Int) from by omega]; exact IntWalk.i64_in _ (by omega)
      clear hcc2 hk0
      have HY : ∃ y, gt all k0 = y := ⟨_, rfl⟩
      obtain ⟨y, hy⟩ := HY
      rw [hy] at e0
      have HY := Lib.hid hy
      clear hy
      by_cases hyx : x.1.1 < y.1.1
      · have s2 : decide (x.1.1 < y.1.1) = true := decide_eq_true hyx
        have D2 := Lib.hid (show ∀ j, k0 ≤ j → j < m → x.1.1 < (gt all j).1.1 from fun j h1 h2 => by
          by_cases e : j = k0
          · subst e; rw [HY.out]; exact hyx
          · exact D.out j (by have := HK0.out; omega) h2)
        clear D
        go_wp2
        go_big_quiet (fail)
        go_wp2
        go_roundw
        case rel => exact ⟨k0, _, by omega, by go_num, D2, rfl⟩
        case measure => have := HK0.out; simp [intOf]; omega
      · have s2 : decide (x.1.1 < y.1.1) = false := decide_eq_false hyx
        have LO := Lib.hid (fun (j : Nat) (h : j + 1 = k) => show (gt all j).1.1 ≤ x.1.1 from by
          obtain rfl : j = k0 := by have := HK0.out; omega
          rw [HY.out]; omega)
        go_wp2
        go_big_quiet (fail)
        (go_upto_region 4 with fail
         have bq : Below w0.heap.size w0 ((w0.drewN q).drewN nq) := (below_drewN _ _ _).trans (below_drewN _ _ _)
         have p1 := (bq.cell (p := ⟨r, 0, none⟩) rl0).trans p0
         have X0 := (bq.cell (p := ⟨w.heap.size, 0, none⟩) zl).trans x0
         have X1 := (bq.cell (p := ⟨w.heap.size, 1, none⟩) zl).trans x1
         have X2 := (bq.cell (p := ⟨w.heap.size, 2, none⟩) zl).trans x2
         have HQ := Lib.hid (HH.out.below bq)
         have BQ := Lib.hid (B0.out.trans (bq.mono B0.out.size))
         have rq := Nat.lt_of_lt_of_le rl0 bq.size
         have pf := HQ.out.box.frozen 0
         have zq := Nat.lt_of_lt_of_le zl bq.size
         generalize (w0.drewN q).drewN nq = wq at *
         clear bq
         obtain ⟨i0, hi, hz0, hz1, hz2⟩ := info_parts info_rt
         have bE : Below wq.heap.size wq ((wq.drew).alloc (.cells #[] 45)) := ((Below.refl _ _).drew).alloc (Nat.le_refl _) _
         have bX : Below wq.heap.size wq ((wq.drew).alloc (.cells #[.int .i64 x.1.1, .int .i64 x.1.2, .int .i64 x.2] 45)) := ((Below.refl _ _).drew).alloc (Nat.le_refl _) _
         have bEX : Below wq.heap.size wq (((wq.drew).alloc (.cells #[] 45)).alloc (.cells #[.int .i64 x.1.1, .int .i64 x.1.2, .int .i64 x.2] 45)) := bE.alloc (by simp) _
         have bXE : Below wq.heap.size wq (((wq.drew).alloc (.cells #[.int .i64 x.1.1, .int .i64 x.1.2, .int .i64 x.2] 45)).alloc (.cells #[] 45)) := bX.alloc (by simp) _
         have OEa : ((wq.drew).alloc (.cells #[] 45)).ownsRow wq.heap.size 45 3 (.slice (some ⟨wq.heap.size, 0, none⟩) 0 0) 0 [] := ownT_empty wq.drew
         have OEb : (((wq.drew).alloc (.cells #[] 45)).alloc (.cells #[.int .i64 x.1.1, .int .i64 x.1.2, .int .i64 x.2] 45)).ownsRow wq.heap.size 45 3 (.slice (some ⟨wq.heap.size, 0, none⟩) 0 0) 0 [] := World.ownsRow.alloc OEa _
         have sX : ((wq.drew).alloc (.cells #[.int .i64 x.1.1, .int .i64 x.1.2, .int .i64 x.2] 45)).heap.size = wq.heap.size + 1 := by simp
         have sE : ((wq.drew).alloc (.cells #[] 45)).heap.size = wq.heap.size + 1 := by simp
         have OEc : (((wq.drew).alloc (.cells #[.int .i64 x.1.1, .int .i64 x.1.2, .int .i64 x.2] 45)).alloc (.cells #[] 45)).ownsRow wq.heap.size 45 3 (.slice (some ⟨wq.heap.size + 1, 0, none⟩) 0 0) 0 [] := by
           have := ownT_empty ((wq.drew).alloc (.cells #[.int .i64 x.1.1, .int .i64 x.1.2, .int .i64 x.2] 45))
           rw [sX] at this
           exact own_low this (by omega)
         have LIb : ∀ j u, (encT x)[j]? = some u → (((wq.drew).alloc (.cells #[] 45)).alloc (.cells #[.int .i64 x.1.1, .int .i64 x.1.2, .int .i64 x.2] 45)).cell? ((⟨wq.heap.size + 1, 0, none⟩ : Addr).add j) = some u := by
           have := newcells ((wq.drew).alloc (.cells #[] 45)) #[.int .i64 x.1.1, .int .i64 x.1.2, .int .i64 x.2] 45
           rw [sE] at this
           exact this
         have LIc0 : ∀ j u, (encT x)[j]? = some u → ((wq.drew).alloc (.cells #[.int .i64 x.1.1, .int .i64 x.1.2, .int .i64 x.2] 45)).cell? ((⟨wq.heap.size, 0, none⟩ : Addr).add j) = some u := newcells wq.drew #[.int .i64 x.1.1, .int .i64 x.1.2, .int .i64 x.2] 45
         have SB := Lib.hid (fun (w' : World) (hb : Below wq.heap.size wq w') => show w'.cell? ⟨r, 0, none⟩ = some (.slice (some ⟨g, 0, none⟩) m c) ∧ w'.frozen? ⟨r, 0, none⟩ = false ∧ w'.cell? ⟨w.heap.size, 0, none⟩ = some (.int .i64 x.1.1) ∧ w'.cell? ⟨w.heap.size, 1, none⟩ = some (.int .i64 x.1.2) ∧ w'.cell? ⟨w.heap.size, 2, none⟩ = some (.int .i64 x.2) from
           ⟨(hb.cell (p := ⟨r, 0, none⟩) rq).trans p1, (hb.frozen (p := ⟨r, 0, none⟩) rq).trans pf, (hb.cell (p := ⟨w.heap.size, 0, none⟩) zq).trans X0, (hb.cell (p := ⟨w.heap.size, 1, none⟩) zq).trans X1, (hb.cell (p := ⟨w.heap.size, 2, none⟩) zq).trans X2⟩)
         have KS := Lib.hid (fun (w3 : World) (v : Value) (hb : Below wq.heap.size wq w3) => show (w3.setCell ⟨r, 0, none⟩ v).cell? ⟨w.heap.size, 0, none⟩ = some (.int .i64 x.1.1) ∧ (w3.setCell ⟨r, 0, none⟩ v).cell? ⟨w.heap.size, 1, none⟩ = some (.int .i64 x.1.2) ∧ (w3.setCell ⟨r, 0, none⟩ v).cell? ⟨w.heap.size, 2, none⟩ = some (.int .i64 x.2) from
           ⟨(World.cell?_setCell_other _ _ _ _ (fun e => by injection e with e1 _ _; omega)).trans (SB.out w3 hb).2.2.1, (World.cell?_setCell_other _ _ _ _ (fun e => by injection e with e1 e2 _; omega)).trans (SB.out w3 hb).2.2.2.1, (World.cell?_setCell_other _ _ _ _ (fun e => by injection e with e1 e2 _; omega)).trans (SB.out w3 hb).2.2.2.2⟩)
         have pD := (SB.out _ ((Below.refl wq.heap.size wq).drew)).1
         have pE := (SB.out _ bE).1
         have pX := (SB.out _ bX).1
         have pEX := (SB.out _ bEX).1
         have pXE := (SB.out _ bXE).1
         have LENk := Lib.hid (show (cellsL encT (all.take k)).length = k * 3 by rw [cells_len (k := 3) (fun _ => rfl), List.length_take, HM.out, Nat.min_eq_left hk])
         have ONEk := Lib.hid (cells_one encT_one (all.take k))
         have ONEd := Lib.hid (cells_one encT_one (all.drop k))
         have SZk := Lib.hid (show 0 + k ≤ maxLen by unfold maxLen; omega)
         have SZk2 := Lib.hid (show (0 + k) * 24 ≤ 140737488355328 by omega)
         have SZm := Lib.hid (show 0 + k + 1 ≤ maxLen by unfold maxLen; omega)
         have SZm2 := Lib.hid (show (0 + k + 1) * 24 ≤ 140737488355328 by omega)
         have ROW := Lib.hid (HQ.out.tags.has rfl).2
         have gq := ROW.out.lt
         have GETk := Lib.hid (fun (w' : World) (hb : Below wq.heap.size wq w') (j : Nat) (u : Value) (hj : (cellsL encT (all.take k))[j]? = some u) => show w'.cell? ((⟨g, 0, none⟩ : Addr).add j) = some u by
           rw [addr_off, Nat.zero_add]
           refine (hb.cell (p := ⟨g, j, none⟩) gq).trans (ROW.out.cell ?_)
           rw [← cells_take (k := 3) (fun _ => rfl), List.getElem?_take] at hj
           split at hj
           · exact hj
           · cases hj)
         have SSL := Lib.hid (cells_len (enc := encT) (k := 3) (fun _ => rfl) all)
         rw [HM.out] at SSL
         have GETd := Lib.hid (fun (w' : World) (hb : Below wq.heap.size wq w') (j : Nat) (u : Value) (hj : (cellsL encT (all.drop k))[j]? = some u) => show w'.cell? ((⟨g, k * 3, none⟩ : Addr).add j) = some u by
           rw [addr_off]
           refine (hb.cell (p := ⟨g, k * 3 + j, none⟩) gq).trans (ROW.out.cell ?_)
           have e : cellsL encT all = (cellsL encT all).take (k * 3) ++ cellsL encT (all.drop k) := by rw [cells_take (k := 3) (fun _ => rfl), ← cells_app, List.take_append_drop]
           rw [e, List.getElem?_append_right (by rw [List.length_take]; omega), List.length_take, Nat.min_eq_left (by rw [SSL.out]; omega), show k * 3 + j - k * 3 = j by omega]; exact hj)
         have KLb := Lib.hid (fun (w1 : World) (z : World.grownBy (((wq.drew).alloc (.cells #[] 45)).alloc (.cells #[.int .i64 x.1.1, .int .i64 x.1.2, .int .i64 x.2] 45)) w1 (Value.ownBlock (.slice (some ⟨wq.heap.size, 0, none⟩) 0 0))) (j : Nat) (u : Value) (hj : (encT x)[j]? = some u) => show w1.cell? ((⟨wq.heap.size + 1, 0, none⟩ : Addr).add j) = some u by
           have := LIb j u hj
           rw [addr_off] at this ⊢
           exact (World.grownBy.cell_far z ⟨wq.heap.size + 1, 0 + j, none⟩ (by show wq.heap.size + 1 < _; simp) (by simp [Value.ownBlock])).trans this)
         have KLc := Lib.hid (fun (w1 : World) (z : World.grownBy (((wq.drew).alloc (.cells #[.int .i64 x.1.1, .int .i64 x.1.2, .int .i64 x.2] 45)).alloc (.cells #[] 45)) w1 (Value.ownBlock (.slice (some ⟨wq.heap.size + 1, 0, none⟩) 0 0))) (j : Nat) (u : Value) (hj : (encT x)[j]? = some u) => show w1.cell? ((⟨wq.heap.size, 0, none⟩ : Addr).add j) = some u by
           have := LIc0 j u hj
           rw [addr_off] at this ⊢
           exact (World.grownBy.cell_far z ⟨wq.heap.size, 0 + j, none⟩ (by show wq.heap.size < _; simp; omega) (by simp [Value.ownBlock])).trans (((below_alloc ((wq.drew).alloc (.cells #[.int .i64 x.1.1, .int .i64 x.1.2, .int .i64 x.2] 45)) (.cells #[] 45)).cell (p := ⟨wq.heap.size, 0 + j, none⟩) (by show wq.heap.size < _; simp)).trans this))
         have IC := Lib.hid (insT_cells x all k)
         have IL := Lib.hid (insT_len x all k (by rw [HM.out]; exact hk))
         rw [HM.out] at IL
         have CT := Lib.hid (cells_take (enc := encT) (k := 3) (fun _ => rfl) all k)
         have FI := Lib.hid (fun (w3 : World) (g3 cap3 : Nat) (bl3 : Below wq.heap.size wq w3) (ho : w3.ownsRow wq.heap.size 45 3 (.slice (some ⟨g3, 0, none⟩) (k + 1 + (m - k)) cap3) (k + 1 + (m - k)) (cellsL encT (all.take k) ++ encT x ++ cellsL encT (all.drop k))) => show PutR G w r all x (.returned (.tuple #[])) (w3.setCell ⟨r, 0, none⟩ (.slice (some ⟨g3, 0, none⟩) (k + 1 + (m - k)) cap3)) by
           have bl3' : Below wq.heap.size wq w3 := bl3
           obtain ⟨R5, K5⟩ := (HQ.out.box.below bl3').setCell 0 (by simp) (.slice (some ⟨g3, 0, none⟩) (k + 1 + (m - k)) cap3)
           obtain ⟨rr, ll, hcap, hB3⟩ := row_of ho
           have hgr : g3 ≠ r := by omega
           refine ⟨rfl, k, by rw [HM.out]; exact hk, fun j h1 h2 => D.out j h1 (by rw [HM.out] at h2; exact h2), LO.out, ⟨some ⟨g3, 0, none⟩, cap3, by rw [IL.out]; exact R5, HQ.out.foot, ⟨by rw [cells_len (k := 3) (fun _ => rfl)], by rw [IL.out]; exact hcap, .inr ⟨g3, rfl, GG.out _ (Nat.le_trans BQ.out.size hB3), ?_⟩⟩⟩, ?_⟩
           · rw [IC.out, CT.out, ← List.append_assoc]
             exact rr.kp K5 hgr
           · exact (Kp.of (BQ.out.trans (bl3'.mono BQ.out.size))).trans K5)
         have i1 : (0 : Int) ≤ (k : Int) := by omega
         have i2 : (k : Int) ≤ (m : Int) := by omega
         have hmc := HQ.out.tags.2.1
         rw [HM.out] at hmc
         have i3 : k ≤ c := by omega
         have i5 : (k : Int) ≤ (c : Int) := by omega
         clear X0 X1 X2 pf
         by_cases hkm : k < m
         · have i4 : k < c := by omega
           have j1 : ¬ c = k := by omega
           have j3 : ¬ c - k = 0 := by omega
           have LENd := Lib.hid (show (cellsL encT (all.drop k)).length = (m - k) * 3 by rw [cells_len (k := 3) (fun _ => rfl), List.length_drop, HM.out])
           have SZ1 := Lib.hid (show 0 + k + 1 + (m - k) ≤ maxLen by unfold maxLen; omega)
           have SZ2 := Lib.hid (show (0 + k + 1 + (m - k)) * 24 ≤ 140737488355328 by omega)
           refine wp_region_late (fun k => k == 21) (fun v => Below wq.heap.size wq v) (by kernel_rfl) ?_
           have D0 : Below wq.heap.size wq wq.drew := (Below.refl _ _).drew
           refine Late.take 0 (.pointer (some ⟨r, 0, none⟩)) rfl (by kernel_rfl) (by kernel_rfl) (by kernel_rfl) (by kernel_rfl) (fun _ _ _ h => h) (.inl ⟨rfl, fun w' hs => ?_⟩) D0 ?_
           ·
             go_simp
           refine Late.take 2 (.pointer (some ⟨r, 0, none⟩)) rfl (by kernel_rfl) (by kernel_rfl) (by kernel_rfl) (by kernel_rfl) (fun _ _ _ h => h) (.inl ⟨rfl, fun w' hs => ?_⟩) D0 ?_
           ·
             go_simp
           refine Late.take 3 (.pointer (some ⟨r, 0, none⟩)) rfl (by kernel_rfl) (by kernel_rfl) (by kernel_rfl) (by kernel_rfl) (fun _ _ _ h => h) (.inl ⟨rfl, fun w' hs => ?_⟩) D0 ?_
           ·
             go_simp
           refine Late.take 4 (.pointer (some ⟨r, 0, none⟩)) rfl (by kernel_rfl) (by kernel_rfl) (by kernel_rfl) (by kernel_rfl) (fun _ _ _ h => h) (.inl ⟨rfl, fun w' hs => ?_⟩) D0 ?_
           ·
             go_simp
           refine Late.take 5 (.slice (some ⟨g, 0, none⟩) m c) rfl (by kernel_rfl) (by kernel_rfl) (by kernel_rfl) (by kernel_rfl) (fun _ _ _ h => h) (.inl ⟨rfl, fun w' hs => ?_⟩) D0 ?_
           ·
             have z0 := (SB.out w' hs).1
             go_simp
           refine Late.take 6 (.int .i64 (k : Int)) rfl (by kernel_rfl) (by kernel_rfl) (by kernel_rfl) (by kernel_rfl) (fun _ _ _ h => h) (.inl ⟨rfl, fun w' hs => ?_⟩) D0 ?_
           ·
             go_simp
           refine Late.take 7 (.slice (some ⟨g, 0, none⟩) k c) rfl (by kernel_rfl) (by kernel_rfl) (by kernel_rfl) (by kernel_rfl) (fun _ _ _ h => h) (.inl ⟨rfl, fun w' hs => ?_⟩) D0 ?_
           ·
             go_simp
           refine Late.take 9 (.agg #[.int .i64 x.1.1, .int .i64 x.1.2, .int .i64 x.2]) rfl (by kernel_rfl) (by kernel_rfl) (by kernel_rfl) (by kernel_rfl) (fun _ _ _ h => h) (.inl ⟨rfl, fun w' hs => ?_⟩) D0 ?_
           ·
             obtain ⟨-, -, z0, z1, z2⟩ := SB.out w' hs
             go_simp
           refine Late.take 12 (.pointer (some ⟨r, 0, none⟩)) rfl (by kernel_rfl) (by kernel_rfl) (by kernel_rfl) (by kernel_rfl) (fun _ _ _ h => h) (.inl ⟨rfl, fun w' hs => ?_⟩) D0 ?_
           ·
             go_simp
           refine Late.take 13 (.pointer (some ⟨r, 0, none⟩)) rfl (by kernel_rfl) (by kernel_rfl) (by kernel_rfl) (by kernel_rfl) (fun _ _ _ h => h) (.inl ⟨rfl, fun w' hs => ?_⟩) D0 ?_
           ·
             go_simp
           refine Late.take 14 (.pointer (some ⟨r, 0, none⟩)) rfl (by kernel_rfl) (by kernel_rfl) (by kernel_rfl) (by kernel_rfl) (fun _ _ _ h => h) (.inl ⟨rfl, fun w' hs => ?_⟩) D0 ?_
           ·
             go_simp
           refine Late.take 15 (.slice (some ⟨g, 0, none⟩) m c) rfl (by kernel_rfl) (by kernel_rfl) (by kernel_rfl) (by kernel_rfl) (fun _ _ _ h => h) (.inl ⟨rfl, fun w' hs => ?_⟩) D0 ?_
           ·
             have z0 := (SB.out w' hs).1
             go_simp
           refine Late.take 16 (.int .i64 (k : Int)) rfl (by kernel_rfl) (by kernel_rfl) (by kernel_rfl) (by kernel_rfl) (fun _ _ _ h => h) (.inl ⟨rfl, fun w' hs => ?_⟩) D0 ?_
           ·
             go_simp
           refine Late.take 17 (.slice (some ⟨g, k * 3, none⟩) (m - k) (c - k)) rfl (by kernel_rfl) (by kernel_rfl) (by kernel_rfl) (by kernel_rfl) (fun _ _ _ h => h) (.inl ⟨rfl, fun w' hs => ?_⟩) D0 ?_
           ·
             go_simp
           refine Late.two 1 10 rfl rfl (by kernel_rfl) rfl rfl ?_ ?_
           · go_simp
             refine ⟨bE, ?_⟩
             refine Late.two 8 10 rfl rfl (by kernel_rfl) rfl rfl ?_ ?_
             · refine wp_append_own _ (.tmp 31) (.tmp 37) _ (by rfl) wq.heap.size 45 i0 _ 3 24 Try.underlying32 hi hz0 hz1 hz2 rfl (by omega) (.slice (some ⟨wq.heap.size, 0, none⟩) 0 0) 0 [] (by rfl) OEa ⟨g, 0, none⟩ k c (cellsL encT (all.take k)) (by rfl) LENk.out (GETk.out _ bE) ONEk.out SZk.out SZk2.out bE.size ?_
               intro v1 w1 hown1 hgr1 _
               have bl1 := bE.grown hgr1 bE.size (fun j hj => (World.ownsRow.lt OEa j hj).1)
               refine ⟨.inr bl1, ?_⟩
               have ba1 := bl1.alloc bl1.size (.cells #[.int .i64 x.1.1, .int .i64 x.1.2, .int .i64 x.2] 45)
               refine Late.one 10 rfl (by kernel_rfl) rfl ?_
               go_simp
               refine Late.one 11 rfl (by kernel_rfl) rfl ?_
               refine wp_append_own _ (.tmp 38) (.tmp 40) _ (by rfl) wq.heap.size 45 i0 _ 3 24 Try.underlying32 hi hz0 hz1 hz2 rfl (by omega) v1 (0 + k) ([] ++ cellsL encT (all.take k)) (by rfl) (World.ownsRow.alloc hown1 _) ⟨w1.heap.size, 0, none⟩ 1 1 (encT x) (by rfl) (by rfl) (newcells w1 #[.int .i64 x.1.1, .int .i64 x.1.2, .int .i64 x.2] 45) (encT_one x) SZm.out SZm2.out ba1.size ?_
               intro v2 w2 hown2 hgr2 _
               have bl2 := ba1.grown hgr2 ba1.size (fun j hj => (World.ownsRow.lt hown1 j hj).1)
               refine ⟨.inr bl2, ?_⟩
               refine Late.one 18 rfl (by kernel_rfl) rfl ?_
               refine wp_append_own _ (.tmp 41) (.tmp 47) _ (by rfl) wq.heap.size 45 i0 _ 3 24 Try.underlying32 hi hz0 hz1 hz2 rfl (by omega) v2 (0 + k + 1) (([] ++ cellsL encT (all.take k)) ++ encT x) (by rfl) hown2 ⟨g, k * 3, none⟩ (m - k) (c - k) (cellsL encT (all.drop k)) (by rfl) LENd.out (GETd.out _ bl2) ONEd.out SZ1.out SZ2.out bl2.size ?_
               intro v3 w3 hown3 hgr3 _
               have bl3 := bl2.grown hgr3 bl2.size (fun j hj => (World.ownsRow.lt hown2 j hj).1)
               refine ⟨.inr bl3, ?_⟩
               have sc3 := (SB.out w3 bl3).1
               have sf3 := (SB.out w3 bl3).2.1
               obtain ⟨g3, cap3, rfl, hg31, hg32⟩ := World.ownsRow.form hown3 (by omega)
               have FIN := Lib.hid (FI.out w3 g3 cap3 bl3 (by rw [List.nil_append, Nat.zero_add] at hown3; exact hown3))
               refine Late.one 19 rfl (by kernel_rfl) rfl ?_
               go_simp
               refine Late.take 20 (.pointer (some ⟨r, 0, none⟩)) rfl (by kernel_rfl) (by kernel_rfl) (by kernel_rfl) (by kernel_rfl) (fun _ _ _ h => h) (.inl ⟨rfl, fun w' hs => ?_⟩) bl3 ?_
               ·
                 go_simp
               refine Late.one 21 rfl (by kernel_rfl) rfl ?_
               go_simp
               refine ⟨by kernel_rfl, ?_⟩
               clear hown1 hown2 hown3 hgr1 hgr2 hgr3
               go_wp2
               exact bodyPost_ret (v := .tuple #[]) (by simp [results, Try.results62, go_sem]) rfl FIN.out
             · go_simp
               refine ⟨bEX, ?_⟩
               refine Late.one 8 rfl (by kernel_rfl) rfl ?_
               refine wp_append_own _ (.tmp 31) (.tmp 37) _ (by rfl) wq.heap.size 45 i0 _ 3 24 Try.underlying32 hi hz0 hz1 hz2 rfl (by omega) (.slice (some ⟨wq.heap.size, 0, none⟩) 0 0) 0 [] (by rfl) OEb ⟨g, 0, none⟩ k c (cellsL encT (all.take k)) (by rfl) LENk.out (GETk.out _ bEX) ONEk.out SZk.out SZk2.out bEX.size ?_
               intro v1 w1 hown1 hgr1 _
               have bl1 := bEX.grown hgr1 bEX.size (fun j hj => (World.ownsRow.lt OEb j hj).1)
               refine ⟨.inr bl1, ?_⟩
               have li1 := KLb.out w1 hgr1
               refine Late.one 11 rfl (by kernel_rfl) rfl ?_
               refine wp_append_own _ (.tmp 38) (.tmp 40) _ (by rfl) wq.heap.size 45 i0 _ 3 24 Try.underlying32 hi hz0 hz1 hz2 rfl (by omega) v1 (0 + k) ([] ++ cellsL encT (all.take k)) (by rfl) hown1 ⟨wq.heap.size + 1, 0, none⟩ 1 1 (encT x) (by rfl) (by rfl) li1 (encT_one x) SZm.out SZm2.out bl1.size ?_
               intro v2 w2 hown2 hgr2 _
               have bl2 := bl1.grown hgr2 bl1.size (fun j hj => (World.ownsRow.lt hown1 j hj).1)
               refine ⟨.inr bl2, ?_⟩
               refine Late.one 18 rfl (by kernel_rfl) rfl ?_
               refine wp_append_own _ (.tmp 41) (.tmp 47) _ (by rfl) wq.heap.size 45 i0 _ 3 24 Try.underlying32 hi hz0 hz1 hz2 rfl (by omega) v2 (0 + k + 1) (([] ++ cellsL encT (all.take k)) ++ encT x) (by rfl) hown2 ⟨g, k * 3, none⟩ (m - k) (c - k) (cellsL encT (all.drop k)) (by rfl) LENd.out (GETd.out _ bl2) ONEd.out SZ1.out SZ2.out bl2.size ?_
               intro v3 w3 hown3 hgr3 _
               have bl3 := bl2.grown hgr3 bl2.size (fun j hj => (World.ownsRow.lt hown2 j hj).1)
               refine ⟨.inr bl3, ?_⟩
               have sc3 := (SB.out w3 bl3).1
               have sf3 := (SB.out w3 bl3).2.1
               obtain ⟨g3, cap3, rfl, hg31, hg32⟩ := World.ownsRow.form hown3 (by omega)
               have FIN := Lib.hid (FI.out w3 g3 cap3 bl3 (by rw [List.nil_append, Nat.zero_add] at hown3; exact hown3))
               refine Late.one 19 rfl (by kernel_rfl) rfl ?_
               go_simp
               refine Late.take 20 (.pointer (some ⟨r, 0, none⟩)) rfl (by kernel_rfl) (by kernel_rfl) (by kernel_rfl) (by kernel_rfl) (fun _ _ _ h => h) (.inl ⟨rfl, fun w' hs => ?_⟩) bl3 ?_
               ·
                 go_simp
               refine Late.one 21 rfl (by kernel_rfl) rfl ?_
               go_simp
               refine ⟨by kernel_rfl, ?_⟩
               clear hown1 hown2 hown3 hgr1 hgr2 hgr3
               go_wp2
               exact bodyPost_ret (v := .tuple #[]) (by simp [results, Try.results62, go_sem]) rfl FIN.out
           · go_simp
             refine ⟨bX, ?_⟩
             refine Late.one 1 rfl (by kernel_rfl) rfl ?_
             go_simp
             refine ⟨bXE, ?_⟩
             refine Late.one 8 rfl (by kernel_rfl) rfl ?_
             refine wp_append_own _ (.tmp 31) (.tmp 37) _ (by rfl) wq.heap.size 45 i0 _ 3 24 Try.underlying32 hi hz0 hz1 hz2 rfl (by omega) (.slice (some ⟨wq.heap.size + 1, 0, none⟩) 0 0) 0 [] (by rfl) OEc ⟨g, 0, none⟩ k c (cellsL encT (all.take k)) (by rfl) LENk.out (GETk.out _ bXE) ONEk.out SZk.out SZk2.out bXE.size ?_
             intro v1 w1 hown1 hgr1 _
             have bl1 := bXE.grown hgr1 bXE.size (fun j hj => (World.ownsRow.lt OEc j hj).1)
             refine ⟨.inr bl1, ?_⟩
             have li1 := KLc.out w1 hgr1
             refine Late.one 11 rfl (by kernel_rfl) rfl ?_
             refine wp_append_own _ (.tmp 38) (.tmp 40) _ (by rfl) wq.heap.size 45 i0 _ 3 24 Try.underlying32 hi hz0 hz1 hz2 rfl (by omega) v1 (0 + k) ([] ++ cellsL encT (all.take k)) (by rfl) hown1 ⟨wq.heap.size, 0, none⟩ 1 1 (encT x) (by rfl) (by rfl) li1 (encT_one x) SZm.out SZm2.out bl1.size ?_
             intro v2 w2 hown2 hgr2 _
             have bl2 := bl1.grown hgr2 bl1.size (fun j hj => (World.ownsRow.lt hown1 j hj).1)
             refine ⟨.inr bl2, ?_⟩
             refine Late.one 18 rfl (by kernel_rfl) rfl ?_
             refine wp_append_own _ (.tmp 41) (.tmp 47) _ (by rfl) wq.heap.size 45 i0 _ 3 24 Try.underlying32 hi hz0 hz1 hz2 rfl (by omega) v2 (0 + k + 1) (([] ++ cellsL encT (all.take k)) ++ encT x) (by rfl) hown2 ⟨g, k * 3, none⟩ (m - k) (c - k) (cellsL encT (all.drop k)) (by rfl) LENd.out (GETd.out _ bl2) ONEd.out SZ1.out SZ2.out bl2.size ?_
             intro v3 w3 hown3 hgr3 _
             have bl3 := bl2.grown hgr3 bl2.size (fun j hj => (World.ownsRow.lt hown2 j hj).1)
             refine ⟨.inr bl3, ?_⟩
             have sc3 := (SB.out w3 bl3).1
             have sf3 := (SB.out w3 bl3).2.1
             obtain ⟨g3, cap3, rfl, hg31, hg32⟩ := World.ownsRow.form hown3 (by omega)
             have FIN := Lib.hid (FI.out w3 g3 cap3 bl3 (by rw [List.nil_append, Nat.zero_add] at hown3; exact hown3))
             refine Late.one 19 rfl (by kernel_rfl) rfl ?_
             go_simp
             refine Late.take 20 (.pointer (some ⟨r, 0, none⟩)) rfl (by kernel_rfl) (by kernel_rfl) (by kernel_rfl) (by kernel_rfl) (fun _ _ _ h => h) (.inl ⟨rfl, fun w' hs => ?_⟩) bl3 ?_
             ·
               go_simp
             refine Late.one 21 rfl (by kernel_rfl) rfl ?_
             go_simp
             refine ⟨by kernel_rfl, ?_⟩
             clear hown1 hown2 hown3 hgr1 hgr2 hgr3
             go_wp2
             exact bodyPost_ret (v := .tuple #[]) (by simp [results, Try.results62, go_sem]) rfl FIN.out
         · obtain rfl : k = m := by omega
           have DN := Lib.hid (show all.drop k = [] from List.drop_eq_nil_of_le (by rw [HM.out]; exact Nat.le_refl _))
           have SZ1 := Lib.hid (show 0 + k + 1 + 0 ≤ maxLen by unfold maxLen; omega)
           have SZ2 := Lib.hid (show (0 + k + 1 + 0) * 24 ≤ 140737488355328 by omega)
           rw [DN.out, Nat.sub_self] at FI
           clear hkm GETd ONEd
           by_cases hck : c = k
           · subst hck
             refine wp_region_late (fun k => k == 21) (fun v => Below wq.heap.size wq v) (by kernel_rfl) ?_
             have D0 : Below wq.heap.size wq wq.drew := (Below.refl _ _).drew
             refine Late.take 0 (.pointer (some ⟨r, 0, none⟩)) rfl (by kernel_rfl) (by kernel_rfl) (by kernel_rfl) (by kernel_rfl) (fun _ _ _ h => h) (.inl ⟨rfl, fun w' hs => ?_⟩) D0 ?_
             ·
               go_simp
             refine Late.take 2 (.pointer (some ⟨r, 0, none⟩)) rfl (by kernel_rfl) (by kernel_rfl) (by kernel_rfl) (by kernel_rfl) (fun _ _ _ h => h) (.inl ⟨rfl, fun w' hs => ?_⟩) D0 ?_
             ·
               go_simp
             refine Late.take 3 (.pointer (some ⟨r, 0, none⟩)) rfl (by kernel_rfl) (by kernel_rfl) (by kernel_rfl) (by kernel_rfl) (fun _ _ _ h => h) (.inl ⟨rfl, fun w' hs => ?_⟩) D0 ?_
             ·
               go_simp
             refine Late.take 4 (.pointer (some ⟨r, 0, none⟩)) rfl (by kernel_rfl) (by kernel_rfl) (by kernel_rfl) (by kernel_rfl) (fun _ _ _ h => h) (.inl ⟨rfl, fun w' hs => ?_⟩) D0 ?_
             ·
               go_simp
             refine Late.take 5 (.slice (some ⟨g, 0, none⟩) c c) rfl (by kernel_rfl) (by kernel_rfl) (by kernel_rfl) (by kernel_rfl) (fun _ _ _ h => h) (.inl ⟨rfl, fun w' hs => ?_⟩) D0 ?_
             ·
               have z0 := (SB.out w' hs).1
               go_simp
             refine Late.take 6 (.int .i64 (c : Int)) rfl (by kernel_rfl) (by kernel_rfl) (by kernel_rfl) (by kernel_rfl) (fun _ _ _ h => h) (.inl ⟨rfl, fun w' hs => ?_⟩) D0 ?_
             ·
               go_simp
             refine Late.take 7 (.slice (some ⟨g, 0, none⟩) c c) rfl (by kernel_rfl) (by kernel_rfl) (by kernel_rfl) (by kernel_rfl) (fun _ _ _ h => h) (.inl ⟨rfl, fun w' hs => ?_⟩) D0 ?_
             ·
               go_simp
             refine Late.take 9 (.agg #[.int .i64 x.1.1, .int .i64 x.1.2, .int .i64 x.2]) rfl (by kernel_rfl) (by kernel_rfl) (by kernel_rfl) (by kernel_rfl) (fun _ _ _ h => h) (.inl ⟨rfl, fun w' hs => ?_⟩) D0 ?_
             ·
               obtain ⟨-, -, z0, z1, z2⟩ := SB.out w' hs
               go_simp
             refine Late.take 12 (.pointer (some ⟨r, 0, none⟩)) rfl (by kernel_rfl) (by kernel_rfl) (by kernel_rfl) (by kernel_rfl) (fun _ _ _ h => h) (.inl ⟨rfl, fun w' hs => ?_⟩) D0 ?_
             ·
               go_simp
             refine Late.take 13 (.pointer (some ⟨r, 0, none⟩)) rfl (by kernel_rfl) (by kernel_rfl) (by kernel_rfl) (by kernel_rfl) (fun _ _ _ h => h) (.inl ⟨rfl, fun w' hs => ?_⟩) D0 ?_
             ·
               go_simp
             refine Late.take 14 (.pointer (some ⟨r, 0, none⟩)) rfl (by kernel_rfl) (by kernel_rfl) (by kernel_rfl) (by kernel_rfl) (fun _ _ _ h => h) (.inl ⟨rfl, fun w' hs => ?_⟩) D0 ?_
             ·
               go_simp
             refine Late.take 15 (.slice (some ⟨g, 0, none⟩) c c) rfl (by kernel_rfl) (by kernel_rfl) (by kernel_rfl) (by kernel_rfl) (fun _ _ _ h => h) (.inl ⟨rfl, fun w' hs => ?_⟩) D0 ?_
             ·
               have z0 := (SB.out w' hs).1
               go_simp
             refine Late.take 16 (.int .i64 (c : Int)) rfl (by kernel_rfl) (by kernel_rfl) (by kernel_rfl) (by kernel_rfl) (fun _ _ _ h => h) (.inl ⟨rfl, fun w' hs => ?_⟩) D0 ?_
             ·
               go_simp
             refine Late.take 17 (.slice (some ⟨g, 0, none⟩) 0 0) rfl (by kernel_rfl) (by kernel_rfl) (by kernel_rfl) (by kernel_rfl) (fun _ _ _ h => h) (.inl ⟨rfl, fun w' hs => ?_⟩) D0 ?_
             ·
               go_simp
             refine Late.two 1 10 rfl rfl (by kernel_rfl) rfl rfl ?_ ?_
             · go_simp
               refine ⟨bE, ?_⟩
               refine Late.two 8 10 rfl rfl (by kernel_rfl) rfl rfl ?_ ?_
               · refine wp_append_own _ (.tmp 31) (.tmp 37) _ (by rfl) wq.heap.size 45 i0 _ 3 24 Try.underlying32 hi hz0 hz1 hz2 rfl (by omega) (.slice (some ⟨wq.heap.size, 0, none⟩) 0 0) 0 [] (by rfl) OEa ⟨g, 0, none⟩ c c (cellsL encT (all.take c)) (by rfl) LENk.out (GETk.out _ bE) ONEk.out SZk.out SZk2.out bE.size ?_
                 intro v1 w1 hown1 hgr1 _
                 have bl1 := bE.grown hgr1 bE.size (fun j hj => (World.ownsRow.lt OEa j hj).1)
                 refine ⟨.inr bl1, ?_⟩
                 have ba1 := bl1.alloc bl1.size (.cells #[.int .i64 x.1.1, .int .i64 x.1.2, .int .i64 x.2] 45)
                 refine Late.one 10 rfl (by kernel_rfl) rfl ?_
                 go_simp
                 refine Late.one 11 rfl (by kernel_rfl) rfl ?_
                 refine wp_append_own _ (.tmp 38) (.tmp 40) _ (by rfl) wq.heap.size 45 i0 _ 3 24 Try.underlying32 hi hz0 hz1 hz2 rfl (by omega) v1 (0 + c) ([] ++ cellsL encT (all.take c)) (by rfl) (World.ownsRow.alloc hown1 _) ⟨w1.heap.size, 0, none⟩ 1 1 (encT x) (by rfl) (by rfl) (newcells w1 #[.int .i64 x.1.1, .int .i64 x.1.2, .int .i64 x.2] 45) (encT_one x) SZm.out SZm2.out ba1.size ?_
                 intro v2 w2 hown2 hgr2 _
                 have bl2 := ba1.grown hgr2 ba1.size (fun j hj => (World.ownsRow.lt hown1 j hj).1)
                 refine ⟨.inr bl2, ?_⟩
                 refine Late.one 18 rfl (by kernel_rfl) rfl ?_
                 refine wp_append_own _ (.tmp 41) (.tmp 47) _ (by rfl) wq.heap.size 45 i0 _ 3 24 Try.underlying32 hi hz0 hz1 hz2 rfl (by omega) v2 (0 + c + 1) (([] ++ cellsL encT (all.take c)) ++ encT x) (by rfl) hown2 ⟨g, 0, none⟩ 0 0 [] (by rfl) (by rfl) (by intro j u q; simp at q) (by intro u q; simp at q) SZ1.out SZ2.out bl2.size ?_
                 intro v3 w3 hown3 hgr3 _
                 have bl3 := bl2.grown hgr3 bl2.size (fun j hj => (World.ownsRow.lt hown2 j hj).1)
                 refine ⟨.inr bl3, ?_⟩
                 have sc3 := (SB.out w3 bl3).1
                 have sf3 := (SB.out w3 bl3).2.1
                 obtain ⟨g3, cap3, rfl, hg31, hg32⟩ := World.ownsRow.form hown3 (by omega)
                 have FIN := Lib.hid (FI.out w3 g3 cap3 bl3 (by rw [List.nil_append, Nat.zero_add] at hown3; exact hown3))
                 refine Late.one 19 rfl (by kernel_rfl) rfl ?_
                 go_simp
                 refine Late.take 20 (.pointer (some ⟨r, 0, none⟩)) rfl (by kernel_rfl) (by kernel_rfl) (by kernel_rfl) (by kernel_rfl) (fun _ _ _ h => h) (.inl ⟨rfl, fun w' hs => ?_⟩) bl3 ?_
                 ·
                   go_simp
                 refine Late.one 21 rfl (by kernel_rfl) rfl ?_
                 go_simp
                 refine ⟨by kernel_rfl, ?_⟩
                 clear hown1 hown2 hown3 hgr1 hgr2 hgr3
                 go_wp2
                 exact bodyPost_ret (v := .tuple #[]) (by simp [results, Try.results62, go_sem]) rfl FIN.out
               · go_simp
                 refine ⟨bEX, ?_⟩
                 refine Late.one 8 rfl (by kernel_rfl) rfl ?_
                 refine wp_append_own _ (.tmp 31) (.tmp 37) _ (by rfl) wq.heap.size 45 i0 _ 3 24 Try.underlying32 hi hz0 hz1 hz2 rfl (by omega) (.slice (some ⟨wq.heap.size, 0, none⟩) 0 0) 0 [] (by rfl) OEb ⟨g, 0, none⟩ c c (cellsL encT (all.take c)) (by rfl) LENk.out (GETk.out _ bEX) ONEk.out SZk.out SZk2.out bEX.size ?_
                 intro v1 w1 hown1 hgr1 _
                 have bl1 := bEX.grown hgr1 bEX.size (fun j hj => (World.ownsRow.lt OEb j hj).1)
                 refine ⟨.inr bl1, ?_⟩
                 have li1 := KLb.out w1 hgr1
                 refine Late.one 11 rfl (by kernel_rfl) rfl ?_
                 refine wp_append_own _ (.tmp 38) (.tmp 40) _ (by rfl) wq.heap.size 45 i0 _ 3 24 Try.underlying32 hi hz0 hz1 hz2 rfl (by omega) v1 (0 + c) ([] ++ cellsL encT (all.take c)) (by rfl) hown1 ⟨wq.heap.size + 1, 0, none⟩ 1 1 (encT x) (by rfl) (by rfl) li1 (encT_one x) SZm.out SZm2.out bl1.size ?_
                 intro v2 w2 hown2 hgr2 _
                 have bl2 := bl1.grown hgr2 bl1.size (fun j hj => (World.ownsRow.lt hown1 j hj).1)
                 refine ⟨.inr bl2, ?_⟩
                 refine Late.one 18 rfl (by kernel_rfl) rfl ?_
                 refine wp_append_own _ (.tmp 41) (.tmp 47) _ (by rfl) wq.heap.size 45 i0 _ 3 24 Try.underlying32 hi hz0 hz1 hz2 rfl (by omega) v2 (0 + c + 1) (([] ++ cellsL encT (all.take c)) ++ encT x) (by rfl) hown2 ⟨g, 0, none⟩ 0 0 [] (by rfl) (by rfl) (by intro j u q; simp at q) (by intro u q; simp at q) SZ1.out SZ2.out bl2.size ?_
                 intro v3 w3 hown3 hgr3 _
                 have bl3 := bl2.grown hgr3 bl2.size (fun j hj => (World.ownsRow.lt hown2 j hj).1)
                 refine ⟨.inr bl3, ?_⟩
                 have sc3 := (SB.out w3 bl3).1
                 have sf3 := (SB.out w3 bl3).2.1
                 obtain ⟨g3, cap3, rfl, hg31, hg32⟩ := World.ownsRow.form hown3 (by omega)
                 have FIN := Lib.hid (FI.out w3 g3 cap3 bl3 (by rw [List.nil_append, Nat.zero_add] at hown3; exact hown3))
                 refine Late.one 19 rfl (by kernel_rfl) rfl ?_
                 go_simp
                 refine Late.take 20 (.pointer (some ⟨r, 0, none⟩)) rfl (by kernel_rfl) (by kernel_rfl) (by kernel_rfl) (by kernel_rfl) (fun _ _ _ h => h) (.inl ⟨rfl, fun w' hs => ?_⟩) bl3 ?_
                 ·
                   go_simp
                 refine Late.one 21 rfl (by kernel_rfl) rfl ?_
                 go_simp
                 refine ⟨by kernel_rfl, ?_⟩
                 clear hown1 hown2 hown3 hgr1 hgr2 hgr3
                 go_wp2
                 exact bodyPost_ret (v := .tuple #[]) (by simp [results, Try.results62, go_sem]) rfl FIN.out
             · go_simp
               refine ⟨bX, ?_⟩
               refine Late.one 1 rfl (by kernel_rfl) rfl ?_
               go_simp
               refine ⟨bXE, ?_⟩
               refine Late.one 8 rfl (by kernel_rfl) rfl ?_
               refine wp_append_own _ (.tmp 31) (.tmp 37) _ (by rfl) wq.heap.size 45 i0 _ 3 24 Try.underlying32 hi hz0 hz1 hz2 rfl (by omega) (.slice (some ⟨wq.heap.size + 1, 0, none⟩) 0 0) 0 [] (by rfl) OEc ⟨g, 0, none⟩ c c (cellsL encT (all.take c)) (by rfl) LENk.out (GETk.out _ bXE) ONEk.out SZk.out SZk2.out bXE.size ?_
               intro v1 w1 hown1 hgr1 _
               have bl1 := bXE.grown hgr1 bXE.size (fun j hj => (World.ownsRow.lt OEc j hj).1)
               refine ⟨.inr bl1, ?_⟩
               have li1 := KLc.out w1 hgr1
               refine Late.one 11 rfl (by kernel_rfl) rfl ?_
               refine wp_append_own _ (.tmp 38) (.tmp 40) _ (by rfl) wq.heap.size 45 i0 _ 3 24 Try.underlying32 hi hz0 hz1 hz2 rfl (by omega) v1 (0 + c) ([] ++ cellsL encT (all.take c)) (by rfl) hown1 ⟨wq.heap.size, 0, none⟩ 1 1 (encT x) (by rfl) (by rfl) li1 (encT_one x) SZm.out SZm2.out bl1.size ?_
               intro v2 w2 hown2 hgr2 _
               have bl2 := bl1.grown hgr2 bl1.size (fun j hj => (World.ownsRow.lt hown1 j hj).1)
               refine ⟨.inr bl2, ?_⟩
               refine Late.one 18 rfl (by kernel_rfl) rfl ?_
               refine wp_append_own _ (.tmp 41) (.tmp 47) _ (by rfl) wq.heap.size 45 i0 _ 3 24 Try.underlying32 hi hz0 hz1 hz2 rfl (by omega) v2 (0 + c + 1) (([] ++ cellsL encT (all.take c)) ++ encT x) (by rfl) hown2 ⟨g, 0, none⟩ 0 0 [] (by rfl) (by rfl) (by intro j u q; simp at q) (by intro u q; simp at q) SZ1.out SZ2.out bl2.size ?_
               intro v3 w3 hown3 hgr3 _
               have bl3 := bl2.grown hgr3 bl2.size (fun j hj => (World.ownsRow.lt hown2 j hj).1)
               refine ⟨.inr bl3, ?_⟩
               have sc3 := (SB.out w3 bl3).1
               have sf3 := (SB.out w3 bl3).2.1
               obtain ⟨g3, cap3, rfl, hg31, hg32⟩ := World.ownsRow.form hown3 (by omega)
               have FIN := Lib.hid (FI.out w3 g3 cap3 bl3 (by rw [List.nil_append, Nat.zero_add] at hown3; exact hown3))
               refine Late.one 19 rfl (by kernel_rfl) rfl ?_
               go_simp
               refine Late.take 20 (.pointer (some ⟨r, 0, none⟩)) rfl (by kernel_rfl) (by kernel_rfl) (by kernel_rfl) (by kernel_rfl) (fun _ _ _ h => h) (.inl ⟨rfl, fun w' hs => ?_⟩) bl3 ?_
               ·
                 go_simp
               refine Late.one 21 rfl (by kernel_rfl) rfl ?_
               go_simp
               refine ⟨by kernel_rfl, ?_⟩
               clear hown1 hown2 hown3 hgr1 hgr2 hgr3
               go_wp2
               exact bodyPost_ret (v := .tuple #[]) (by simp [results, Try.results62, go_sem]) rfl FIN.out
           · have j3 : ¬ c - k = 0 := by omega
             refine wp_region_late (fun k => k == 21) (fun v => Below wq.heap.size wq v) (by kernel_rfl) ?_
             have D0 : Below wq.heap.size wq wq.drew := (Below.refl _ _).drew
             refine Late.take 0 (.pointer (some ⟨r, 0, none⟩)) rfl (by kernel_rfl) (by kernel_rfl) (by kernel_rfl) (by kernel_rfl) (fun _ _ _ h => h) (.inl ⟨rfl, fun w' hs => ?_⟩) D0 ?_
             ·
               go_simp
             refine Late.take 2 (.pointer (some ⟨r, 0, none⟩)) rfl (by kernel_rfl) (by kernel_rfl) (by kernel_rfl) (by kernel_rfl) (fun _ _ _ h => h) (.inl ⟨rfl, fun w' hs => ?_⟩) D0 ?_
             ·
               go_simp
             refine Late.take 3 (.pointer (some ⟨r, 0, none⟩)) rfl (by kernel_rfl) (by kernel_rfl) (by kernel_rfl) (by kernel_rfl) (fun _ _ _ h => h) (.inl ⟨rfl, fun w' hs => ?_⟩) D0 ?_
             ·
               go_simp
             refine Late.take 4 (.pointer (some ⟨r, 0, none⟩)) rfl (by kernel_rfl) (by kernel_rfl) (by kernel_rfl) (by kernel_rfl) (fun _ _ _ h => h) (.inl ⟨rfl, fun w' hs => ?_⟩) D0 ?_
             ·
               go_simp
             refine Late.take 5 (.slice (some ⟨g, 0, none⟩) k c) rfl (by kernel_rfl) (by kernel_rfl) (by kernel_rfl) (by kernel_rfl) (fun _ _ _ h => h) (.inl ⟨rfl, fun w' hs => ?_⟩) D0 ?_
             ·
               have z0 := (SB.out w' hs).1
               go_simp
             refine Late.take 6 (.int .i64 (k : Int)) rfl (by kernel_rfl) (by kernel_rfl) (by kernel_rfl) (by kernel_rfl) (fun _ _ _ h => h) (.inl ⟨rfl, fun w' hs => ?_⟩) D0 ?_
             ·
               go_simp
             refine Late.take 7 (.slice (some ⟨g, 0, none⟩) k c) rfl (by kernel_rfl) (by kernel_rfl) (by kernel_rfl) (by kernel_rfl) (fun _ _ _ h => h) (.inl ⟨rfl, fun w' hs => ?_⟩) D0 ?_
             ·
               go_simp
             refine Late.take 9 (.agg #[.int .i64 x.1.1, .int .i64 x.1.2, .int .i64 x.2]) rfl (by kernel_rfl) (by kernel_rfl) (by kernel_rfl) (by kernel_rfl) (fun _ _ _ h => h) (.inl ⟨rfl, fun w' hs => ?_⟩) D0 ?_
             ·
               obtain ⟨-, -, z0, z1, z2⟩ := SB.out w' hs
               go_simp
             refine Late.take 12 (.pointer (some ⟨r, 0, none⟩)) rfl (by kernel_rfl) (by kernel_rfl) (by kernel_rfl) (by kernel_rfl) (fun _ _ _ h => h) (.inl ⟨rfl, fun w' hs => ?_⟩) D0 ?_
             ·
               go_simp
             refine Late.take 13 (.pointer (some ⟨r, 0, none⟩)) rfl (by kernel_rfl) (by kernel_rfl) (by kernel_rfl) (by kernel_rfl) (fun _ _ _ h => h) (.inl ⟨rfl, fun w' hs => ?_⟩) D0 ?_
             ·
               go_simp
             refine Late.take 14 (.pointer (some ⟨r, 0, none⟩)) rfl (by kernel_rfl) (by kernel_rfl) (by kernel_rfl) (by kernel_rfl) (fun _ _ _ h => h) (.inl ⟨rfl, fun w' hs => ?_⟩) D0 ?_
             ·
               go_simp
             refine Late.take 15 (.slice (some ⟨g, 0, none⟩) k c) rfl (by kernel_rfl) (by kernel_rfl) (by kernel_rfl) (by kernel_rfl) (fun _ _ _ h => h) (.inl ⟨rfl, fun w' hs => ?_⟩) D0 ?_
             ·
               have z0 := (SB.out w' hs).1
               go_simp
             refine Late.take 16 (.int .i64 (k : Int)) rfl (by kernel_rfl) (by kernel_rfl) (by kernel_rfl) (by kernel_rfl) (fun _ _ _ h => h) (.inl ⟨rfl, fun w' hs => ?_⟩) D0 ?_
             ·
               go_simp
             refine Late.take 17 (.slice (some ⟨g, k * 3, none⟩) 0 (c - k)) rfl (by kernel_rfl) (by kernel_rfl) (by kernel_rfl) (by kernel_rfl) (fun _ _ _ h => h) (.inl ⟨rfl, fun w' hs => ?_⟩) D0 ?_
             ·
               go_simp
             refine Late.two 1 10 rfl rfl (by kernel_rfl) rfl rfl ?_ ?_
             · go_simp
               refine ⟨bE, ?_⟩
               refine Late.two 8 10 rfl rfl (by kernel_rfl) rfl rfl ?_ ?_
               · refine wp_append_own _ (.tmp 31) (.tmp 37) _ (by rfl) wq.heap.size 45 i0 _ 3 24 Try.underlying32 hi hz0 hz1 hz2 rfl (by omega) (.slice (some ⟨wq.heap.size, 0, none⟩) 0 0) 0 [] (by rfl) OEa ⟨g, 0, none⟩ k c (cellsL encT (all.take k)) (by rfl) LENk.out (GETk.out _ bE) ONEk.out SZk.out SZk2.out bE.size ?_
                 intro v1 w1 hown1 hgr1 _
                 have bl1 := bE.grown hgr1 bE.size (fun j hj => (World.ownsRow.lt OEa j hj).1)
                 refine ⟨.inr bl1, ?_⟩
                 have ba1 := bl1.alloc bl1.size (.cells #[.int .i64 x.1.1, .int .i64 x.1.2, .int .i64 x.2] 45)
                 refine Late.one 10 rfl (by kernel_rfl) rfl ?_
                 go_simp
                 refine Late.one 11 rfl (by kernel_rfl) rfl ?_
                 refine wp_append_own _ (.tmp 38) (.tmp 40) _ (by rfl) wq.heap.size 45 i0 _ 3 24 Try.underlying32 hi hz0 hz1 hz2 rfl (by omega) v1 (0 + k) ([] ++ cellsL encT (all.take k)) (by rfl) (World.ownsRow.alloc hown1 _) ⟨w1.heap.size, 0, none⟩ 1 1 (encT x) (by rfl) (by rfl) (newcells w1 #[.int .i64 x.1.1, .int .i64 x.1.2, .int .i64 x.2] 45) (encT_one x) SZm.out SZm2.out ba1.size ?_
                 intro v2 w2 hown2 hgr2 _
                 have bl2 := ba1.grown hgr2 ba1.size (fun j hj => (World.ownsRow.lt hown1 j hj).1)
                 refine ⟨.inr bl2, ?_⟩
                 refine Late.one 18 rfl (by kernel_rfl) rfl ?_
                 refine wp_append_own _ (.tmp 41) (.tmp 47) _ (by rfl) wq.heap.size 45 i0 _ 3 24 Try.underlying32 hi hz0 hz1 hz2 rfl (by omega) v2 (0 + k + 1) (([] ++ cellsL encT (all.take k)) ++ encT x) (by rfl) hown2 ⟨g, k * 3, none⟩ 0 (c - k) [] (by rfl) (by rfl) (by intro j u q; simp at q) (by intro u q; simp at q) SZ1.out SZ2.out bl2.size ?_
                 intro v3 w3 hown3 hgr3 _
                 have bl3 := bl2.grown hgr3 bl2.size (fun j hj => (World.ownsRow.lt hown2 j hj).1)
                 refine ⟨.inr bl3, ?_⟩
                 have sc3 := (SB.out w3 bl3).1
                 have sf3 := (SB.out w3 bl3).2.1
                 obtain ⟨g3, cap3, rfl, hg31, hg32⟩ := World.ownsRow.form hown3 (by omega)
                 have FIN := Lib.hid (FI.out w3 g3 cap3 bl3 (by rw [List.nil_append, Nat.zero_add] at hown3; exact hown3))
                 refine Late.one 19 rfl (by kernel_rfl) rfl ?_
                 go_simp
                 refine Late.take 20 (.pointer (some ⟨r, 0, none⟩)) rfl (by kernel_rfl) (by kernel_rfl) (by kernel_rfl) (by kernel_rfl) (fun _ _ _ h => h) (.inl ⟨rfl, fun w' hs => ?_⟩) bl3 ?_
                 ·
                   go_simp
                 refine Late.one 21 rfl (by kernel_rfl) rfl ?_
                 go_simp
                 refine ⟨by kernel_rfl, ?_⟩
                 clear hown1 hown2 hown3 hgr1 hgr2 hgr3
                 go_wp2
                 exact bodyPost_ret (v := .tuple #[]) (by simp [results, Try.results62, go_sem]) rfl FIN.out
               · go_simp
                 refine ⟨bEX, ?_⟩
                 refine Late.one 8 rfl (by kernel_rfl) rfl ?_
                 refine wp_append_own _ (.tmp 31) (.tmp 37) _ (by rfl) wq.heap.size 45 i0 _ 3 24 Try.underlying32 hi hz0 hz1 hz2 rfl (by omega) (.slice (some ⟨wq.heap.size, 0, none⟩) 0 0) 0 [] (by rfl) OEb ⟨g, 0, none⟩ k c (cellsL encT (all.take k)) (by rfl) LENk.out (GETk.out _ bEX) ONEk.out SZk.out SZk2.out bEX.size ?_
                 intro v1 w1 hown1 hgr1 _
                 have bl1 := bEX.grown hgr1 bEX.size (fun j hj => (World.ownsRow.lt OEb j hj).1)
                 refine ⟨.inr bl1, ?_⟩
                 have li1 := KLb.out w1 hgr1
                 refine Late.one 11 rfl (by kernel_rfl) rfl ?_
                 refine wp_append_own _ (.tmp 38) (.tmp 40) _ (by rfl) wq.heap.size 45 i0 _ 3 24 Try.underlying32 hi hz0 hz1 hz2 rfl (by omega) v1 (0 + k) ([] ++ cellsL encT (all.take k)) (by rfl) hown1 ⟨wq.heap.size + 1, 0, none⟩ 1 1 (encT x) (by rfl) (by rfl) li1 (encT_one x) SZm.out SZm2.out bl1.size ?_
                 intro v2 w2 hown2 hgr2 _
                 have bl2 := bl1.grown hgr2 bl1.size (fun j hj => (World.ownsRow.lt hown1 j hj).1)
                 refine ⟨.inr bl2, ?_⟩
                 refine Late.one 18 rfl (by kernel_rfl) rfl ?_
                 refine wp_append_own _ (.tmp 41) (.tmp 47) _ (by rfl) wq.heap.size 45 i0 _ 3 24 Try.underlying32 hi hz0 hz1 hz2 rfl (by omega) v2 (0 + k + 1) (([] ++ cellsL encT (all.take k)) ++ encT x) (by rfl) hown2 ⟨g, k * 3, none⟩ 0 (c - k) [] (by rfl) (by rfl) (by intro j u q; simp at q) (by intro u q; simp at q) SZ1.out SZ2.out bl2.size ?_
                 intro v3 w3 hown3 hgr3 _
                 have bl3 := bl2.grown hgr3 bl2.size (fun j hj => (World.ownsRow.lt hown2 j hj).1)
                 refine ⟨.inr bl3, ?_⟩
                 have sc3 := (SB.out w3 bl3).1
                 have sf3 := (SB.out w3 bl3).2.1
                 obtain ⟨g3, cap3, rfl, hg31, hg32⟩ := World.ownsRow.form hown3 (by omega)
                 have FIN := Lib.hid (FI.out w3 g3 cap3 bl3 (by rw [List.nil_append, Nat.zero_add] at hown3; exact hown3))
                 refine Late.one 19 rfl (by kernel_rfl) rfl ?_
                 go_simp
                 refine Late.take 20 (.pointer (some ⟨r, 0, none⟩)) rfl (by kernel_rfl) (by kernel_rfl) (by kernel_rfl) (by kernel_rfl) (fun _ _ _ h => h) (.inl ⟨rfl, fun w' hs => ?_⟩) bl3 ?_
                 ·
                   go_simp
                 refine Late.one 21 rfl (by kernel_rfl) rfl ?_
                 go_simp
                 refine ⟨by kernel_rfl, ?_⟩
                 clear hown1 hown2 hown3 hgr1 hgr2 hgr3
                 go_wp2
                 exact bodyPost_ret (v := .tuple #[]) (by simp [results, Try.results62, go_sem]) rfl FIN.out
             · go_simp
               refine ⟨bX, ?_⟩
               refine Late.one 1 rfl (by kernel_rfl) rfl ?_
               go_simp
               refine ⟨bXE, ?_⟩
               refine Late.one 8 rfl (by kernel_rfl) rfl ?_
               refine wp_append_own _ (.tmp 31) (.tmp 37) _ (by rfl) wq.heap.size 45 i0 _ 3 24 Try.underlying32 hi hz0 hz1 hz2 rfl (by omega) (.slice (some ⟨wq.heap.size + 1, 0, none⟩) 0 0) 0 [] (by rfl) OEc ⟨g, 0, none⟩ k c (cellsL encT (all.take k)) (by rfl) LENk.out (GETk.out _ bXE) ONEk.out SZk.out SZk2.out bXE.size ?_
               intro v1 w1 hown1 hgr1 _
               have bl1 := bXE.grown hgr1 bXE.size (fun j hj => (World.ownsRow.lt OEc j hj).1)
               refine ⟨.inr bl1, ?_⟩
               have li1 := KLc.out w1 hgr1
               refine Late.one 11 rfl (by kernel_rfl) rfl ?_
               refine wp_append_own _ (.tmp 38) (.tmp 40) _ (by rfl) wq.heap.size 45 i0 _ 3 24 Try.underlying32 hi hz0 hz1 hz2 rfl (by omega) v1 (0 + k) ([] ++ cellsL encT (all.take k)) (by rfl) hown1 ⟨wq.heap.size, 0, none⟩ 1 1 (encT x) (by rfl) (by rfl) li1 (encT_one x) SZm.out SZm2.out bl1.size ?_
               intro v2 w2 hown2 hgr2 _
               have bl2 := bl1.grown hgr2 bl1.size (fun j hj => (World.ownsRow.lt hown1 j hj).1)
               refine ⟨.inr bl2, ?_⟩
               refine Late.one 18 rfl (by kernel_rfl) rfl ?_
               refine wp_append_own _ (.tmp 41) (.tmp 47) _ (by rfl) wq.heap.size 45 i0 _ 3 24 Try.underlying32 hi hz0 hz1 hz2 rfl (by omega) v2 (0 + k + 1) (([] ++ cellsL encT (all.take k)) ++ encT x) (by rfl) hown2 ⟨g, k * 3, none⟩ 0 (c - k) [] (by rfl) (by rfl) (by intro j u q; simp at q) (by intro u q; simp at q) SZ1.out SZ2.out bl2.size ?_
               intro v3 w3 hown3 hgr3 _
               have bl3 := bl2.grown hgr3 bl2.size (fun j hj => (World.ownsRow.lt hown2 j hj).1)
               refine ⟨.inr bl3, ?_⟩
               have sc3 := (SB.out w3 bl3).1
               have sf3 := (SB.out w3 bl3).2.1
               obtain ⟨g3, cap3, rfl, hg31, hg32⟩ := World.ownsRow.form hown3 (by omega)
               have FIN := Lib.hid (FI.out w3 g3 cap3 bl3 (by rw [List.nil_append, Nat.zero_add] at hown3; exact hown3))
               refine Late.one 19 rfl (by kernel_rfl) rfl ?_
               go_simp
               refine Late.take 20 (.pointer (some ⟨r, 0, none⟩)) rfl (by kernel_rfl) (by kernel_rfl) (by kernel_rfl) (by kernel_rfl) (fun _ _ _ h => h) (.inl ⟨rfl, fun w' hs => ?_⟩) bl3 ?_
               ·
                 go_simp
               refine Late.one 21 rfl (by kernel_rfl) rfl ?_
               go_simp
               refine ⟨by kernel_rfl, ?_⟩
               clear hown1 hown2 hown3 hgr1 hgr2 hgr3
               go_wp2
               exact bodyPost_ret (v := .tuple #[]) (by simp [results, Try.results62, go_sem]) rfl FIN.out)
end Go.Proofs.Ytjodhfehfpmfaaa.Iv
