/- The walk of (*Set).put: from behind, each span into its place. -/
import Derived.Test.YtjodhfehfpmfaaaIvPutM
import Derived.Test.YtjodhfehfpmfaaaIvZeros
import Derived.Test.YtjodhfehfpmfaaaIvOver
import Derived.Test.YtjodhfehfpmfaaaIvBack
import Derived.Test.YtjodhfehfpmfaaaIvRound
import Derived.Deep.CutRange
set_option linter.unusedVariables false
namespace Go.Proofs.Ytjodhfehfpmfaaa.Iv
open Go.RowKit Go.Shelf
attribute [local go_sem] Oper.semAt_some

/-- what put leaves -/
structure Put (w : World) (p : Nat) (A : Option Addr) (O : Value) (all : List Tg) (w' : World) (g c : Nat) : Prop where
  box : RowIs w' p 93 2 1 [.slice (some ⟨g, 0, none⟩) all.length c, O]
  row : RowIs w' g 42 3 c (cellsL encT all)
  cap : all.length ≤ c
  whose : A = some ⟨g, 0, none⟩ ∨ w.heap.size ≤ g
  kp : Kp (fun k => k = p ∨ A = some ⟨k, 0, none⟩) w w'
def PutIs (w : World) (p : Nat) (A : Option Addr) (O : Value) (all : List Tg) (e : Ending) (w' : World) : Prop := e = .returned (.tuple #[]) ∧ ∃ g c, Put w p A O all w' g c
theorem wp_no {P : Program} {c : Code} {K : Act → World → Prop} {Q : Exit → Act → World → Prop} {a : Act} {w : World} (h : c.wp P (Exit.then K fun _ _ _ => False) a w) : c.wp P (Exit.then K Q) a w :=
  wp_mono h fun e a w hq => by cases e <;> first | exact hq | exact hq.elim
/-- when the row has been made longer -/
structure PutMid (w0 : World) (p : Nat) (A : Option Addr) (O : Value) (all : List Tg) (n : Nat) (wx : World) (g c : Nat) : Prop where
  box : RowIs wx p 93 2 1 [.slice (some ⟨g, 0, none⟩) (all.length + n) c, O]
  row : RowIs wx g 42 3 c (cellsL encT (all ++ List.replicate n zeroT))
  cap : all.length + n ≤ c
  whose : A = some ⟨g, 0, none⟩ ∨ w0.heap.size ≤ g
  kp : Kp (fun k => k = p ∨ A = some ⟨k, 0, none⟩) w0 wx
theorem put_mid {w0 w2 : World} {p : Nat} {A : Option Addr} {O : Value} {all : List Tg} {n c g c' : Nat} {v' : Value} (h : RowIs w0 p 93 2 1 [.slice A all.length c, O]) (hp : ∀ g, A = some ⟨g, 0, none⟩ → p ≠ g) (Z : Zeroed w0.drew A all n v' w2 g c') : PutMid w0 p A O all n (w2.setCell ⟨p, 0, none⟩ (.slice (some ⟨g, 0, none⟩) (all.length + n) c')) g c' := by
  have hd : RowIs w0.drew p 93 2 1 [.slice A all.length c, O] := h.below ((Below.refl _ _).drew)
  have h2 := hd.kp Z.kp (fun e => hp p e rfl)
  obtain ⟨r, k⟩ := h2.setCell 0 (by simp) (.slice (some ⟨g, 0, none⟩) (all.length + n) c')
  have gp : g ≠ p := Z.row.ne h2 (by decide)
  have k0 : Kp (fun k => k = p ∨ A = some ⟨k, 0, none⟩) w0 w0.drew := Kp.of ((Below.refl _ _).drew)
  exact ⟨r, Z.row.kp k gp, Z.cap, Z.whose, k0.trans ((Z.kp.mono fun _ q => .inr q).trans (k.mono fun _ q => .inl q))⟩
theorem two_row (w : World) (T : TypeId) (u v : Value) : RowIs (w.alloc (.cells #[u, v] T)) w.heap.size T 2 1 [u, v] := new_row w T 2 1 1 #[u, v] #[] rfl (by unfold maxLen; decide)
theorem one_row (w : World) (T : TypeId) (v : Value) : RowIs (w.alloc (.cells #[v] T)) w.heap.size T 1 1 [v] := new_row w T 1 1 1 #[v] #[] rfl (by unfold maxLen; decide)
/-- what holds between two rounds -/
structure PutInv (w : World) (p : Nat) (A : Option Addr) (g c : Nat) (O : Value) (all : List Tg) (sp : List (Int × Int)) (owner : Int) (n : Nat) (X : Nat → Prop) (k : Nat) (W : World) : Prop where
  box : RowIs W p 93 2 1 [.slice (some ⟨g, 0, none⟩) (all.length + n) c, O]
  ex : ∃ e Xs, PutI all sp owner k e Xs ∧ RowIs W g 42 3 c (cellsL encT Xs) ∧ RowIs W (w.heap.size + 1 + 1) 3 1 1 [.int .i64 (e : Int)]
  b3 : RowIs W w.heap.size 28 1 1 [.pointer (some ⟨p, 0, none⟩)]
  b5 : RowIs W (w.heap.size + 1) 3 1 1 [.int .i64 owner]
  far : ∀ j, X j → w.heap.size + 1 + 1 < j ∧ j ≠ g
  kp : Kp (fun j => j = p ∨ j = g ∨ A = some ⟨j, 0, none⟩ ∨ w.heap.size ≤ j) w W
  pl : p < w.heap.size
theorem put_foot {w : World} {p : Nat} {A : Option Addr} {g c : Nat} {O : Value} {all : List Tg} {sp : List (Int × Int)} {owner : Int} {n : Nat} {α : Type} : Foot (fun X (pre : List α) W => PutInv w p A g c O all sp owner n X pre.length W) := by
  intro X X' s W W' h hk hx
  obtain ⟨e, Xs, i, r, q⟩ := h.ex
  have no : ∀ j, j ≤ w.heap.size + 1 + 1 → ¬ X j := fun j hj hX => by have := (h.far j hX).1; omega
  have np : ¬ X p := no p (by have := h.pl; omega)
  have ng : ¬ X g := fun hX => (h.far g hX).2 rfl
  have gl := r.lt
  refine ⟨h.box.on (hk.same p np h.box.lt), ⟨e, Xs, i, r.on (hk.same g ng gl), q.on (hk.same _ (no _ (by omega)) q.lt)⟩, h.b3.on (hk.same _ (no _ (by omega)) h.b3.lt), h.b5.on (hk.same _ (no _ (by omega)) h.b5.lt), fun j hj => ?_, ?_, h.pl⟩
  · rcases hx j hj with z | z
    · exact h.far j z
    · have := q.lt
      exact ⟨by omega, by omega⟩
  · refine ⟨hk.os.trans h.kp.os, hk.tape.trans h.kp.tape, hk.output.trans h.kp.output, Nat.le_trans h.kp.size hk.size, fun j hj hf => ?_⟩
    have nj : ¬ X j := fun hX => by have := (h.far j hX).1; omega
    exact (hk.same j nj (Nat.lt_of_lt_of_le hj h.kp.size)).trans (h.kp.block j hj hf)
set_option maxRecDepth 100000 in
set_option maxHeartbeats 8000000 in
theorem put_is {F : Nat → Prop} (w : World) (p : Nat) (A : Option Addr) (c : Nat) (O : Value) (all : List Tg) (ow : List Int) (sp : List (Int × Int)) (owner : Int) (b off n cn : Nat)
    (hbox : RowIs w p 93 2 1 [.slice A all.length c, O]) (htag : RowF F w 42 3 A all.length c (cellsL encT all)) (ok : SetOk all ow) (hs : SpAt w (some ⟨b, off, none⟩) n sp) (hn : Norms sp) (hf : Free sp all)
    (h0 : 0 < n) (hl : all.length + n ≤ 900000) (hbp : b ≠ p) (hbA : ∀ a, A = some a → b ≠ a.block) :
    Calls Try.prog 60 #[.pointer (some ⟨p, 0, none⟩), .slice (some ⟨b, off, none⟩) n cn, .int .i64 owner] w (PutIs w p A O (addL sp owner all)) := by
  obtain ⟨N, hN⟩ : ∃ N : Nat, 9 ≤ N := ⟨9, Nat.le_refl _⟩
  have pl := hbox.lt
  have c0 : w.cell? ⟨p, 0, none⟩ = some (.slice A all.length c) := hbox.cell rfl
  have f0 := hbox.frozen 0
  have BOX := Lib.hid hbox
  have TAG := Lib.hid htag
  have SPA := Lib.hid hs
  have pA := Lib.hid (show ∀ g, A = some ⟨g, 0, none⟩ → p ≠ g from fun g e => by
    rcases htag.2.2 with ⟨q, -⟩ | ⟨g', q, -, r⟩
    · rw [q] at e; cases e
    · rw [q] at e; injection e with e; injection e with e; subst e
      exact hbox.ne r (by decide))
  have HBA := Lib.hid hbA
  have OK := Lib.hid ok
  have HN := Lib.hid hn
  have HF := Lib.hid hf
  clear hbox htag hs hbA ok hn hf
  refine (callsIn_wide (n := N)).1 ?_
  refine callsIn_of_wp_marks Try.func60 rfl trivial ?_ rfl
  simp only [Try.ntmps60, List.size_toArray, List.length_cons, List.length_nil, Nat.reduceAdd, Nat.reduceSub, Array.replicate_succ, Array.replicate_zero, List.push_toArray, List.append_toArray, List.nil_append, List.cons_append]
  refine wpIn_wide.2 ?_
  go_upto_region 2 with fail
  generalize hN0 : all.length = n0 at *
  obtain ⟨w0, hw0⟩ : ∃ w0 : World, w0 = ((w.alloc (.cells #[.pointer (some ⟨p, 0, none⟩)] 28)).alloc (.cells #[.int .i64 owner] 3)).alloc (.cells #[.int .i64 n0] 3) := ⟨_, rfl⟩
  have e0 : w0.heap.size = w.heap.size + 1 + 1 + 1 := by rw [hw0]; simp
  have b0 : Below w.heap.size w w0 := by rw [hw0]; exact (((Below.refl _ _).alloc (Nat.le_refl _) _).alloc (by simp) _).alloc (by simp; omega) _
  have d3 : w0.cell? ⟨w.heap.size, 0, none⟩ = some (.pointer (some ⟨p, 0, none⟩)) := by rw [hw0]; simp [go_sem]
  have d5 : w0.cell? ⟨w.heap.size + 1, 0, none⟩ = some (.int .i64 owner) := by rw [hw0]; simp [go_sem]
  have d6 : w0.cell? ⟨w.heap.size + 1 + 1, 0, none⟩ = some (.int .i64 n0) := by rw [hw0]; simp [go_sem]
  have c1 : w0.cell? ⟨p, 0, none⟩ = some (.slice A n0 c) := (b0.cell (p := ⟨p, 0, none⟩) pl).trans c0
  have f1 : w0.frozen? ⟨p, 0, none⟩ = false := (b0.frozen (p := ⟨p, 0, none⟩) pl).trans f0
  have TAG0 := Lib.hid (show RowF F w0.drew 42 3 A all.length c (cellsL encT all) by rw [hN0]; exact TAG.out.on (Kp.of' b0.drew) fun _ _ _ q => q)
  have HN0 := Lib.hid hN0
  have B0 := Lib.hid b0
  have PA := pA
  have QA := Lib.hid (show ∀ k, A = some ⟨k, 0, none⟩ → k = w.heap.size → False from fun k e h => by
    rcases TAG.out.2.2 with ⟨q, -⟩ | ⟨g', q, -, r⟩
    · rw [q] at e; cases e
    · rw [q] at e; injection e with e; injection e with e; subst e
      have := r.lt
      omega)
  have FZ := Lib.hid (fun (w2 : World) (k : Kp (fun j => A = some ⟨j, 0, none⟩) w0.drew w2) => show w2.frozen? ⟨p, 0, none⟩ = false from
    (World.frozen?_of_block (w := w0.drew) (a := ⟨p, 0, none⟩) (k.block p (by show p < w0.heap.size; omega) (fun e => PA.out p e rfl))).trans f1)
  have X3 := Lib.hid (show RowIs w0 w.heap.size 28 1 1 [.pointer (some ⟨p, 0, none⟩)] from by rw [hw0]; exact ((one_row w _ _).below (below_alloc _ _)).below (below_alloc _ _))
  have X5 := Lib.hid (show RowIs w0 (w.heap.size + 1) 3 1 1 [.int .i64 owner] from by rw [hw0]; have := one_row (w.alloc (.cells #[.pointer (some ⟨p, 0, none⟩)] 28)) 3 (.int .i64 owner); rw [World.size_alloc] at this; exact this.below (below_alloc _ _))
  have X6 := Lib.hid (show RowIs w0 (w.heap.size + 1 + 1) 3 1 1 [.int .i64 n0] from by rw [hw0]; have := one_row ((w.alloc (.cells #[.pointer (some ⟨p, 0, none⟩)] 28)).alloc (.cells #[.int .i64 owner] 3)) 3 (.int .i64 n0); rw [World.size_alloc, World.size_alloc] at this; exact this)
  rw [← hw0]
  clear hw0 b0 c0 f0 hN0 pA
  have pl0 : p < w0.heap.size := by omega
  have BOX0 := Lib.hid (BOX.out.below B0.out)
  have MID := Lib.hid (fun (w2 : World) (v' : Value) (g c' : Nat) (Z : Zeroed w0.drew A all n v' w2 g c') => put_mid (by rw [HN0.out]; exact BOX0.out) PA.out Z)
  go_cut [22] from 10 to 25 (fun _ wx => Hid (∃ g c', PutMid w0 p A O all n wx g c'))
  case first =>
    refine wp_no ?_
    go_region_law (refine step_zeros (F := F) (by rfl) (.tmp 19) (.tmp 21) (by rfl) A c n all (by rw [HN0.out]; rfl) (by rfl) TAG0.out h0 (by rw [HN0.out]; omega) ?_; intro v' w2 g c' Z; have hv := Z.val; rw [HN0.out] at hv; subst hv; have MZ := Lib.hid (MID.out w2 _ g c' Z); have q3 : w2.cell? ⟨w.heap.size, 0, none⟩ = some (.pointer (some ⟨p, 0, none⟩)) := (Z.kp.cell (by simp; omega) (fun e => QA.out _ e rfl)).trans d3; have qp : w2.cell? ⟨p, 0, none⟩ = some (.slice A n0 c) := (Z.kp.cell pl0 (fun e => PA.out p e rfl)).trans c1; have fp : w2.frozen? ⟨p, 0, none⟩ = false := FZ.out _ Z.kp)
    all_goals
      rw [HN0.out] at MZ
      go_wp2
      go_meet
      exact Lib.hid ⟨_, _, MZ.out⟩
  case rest =>
    clear TAG0 BOX0 MID c1 f1
    obtain ⟨g, c', M⟩ := hcut.out
    go_wp2_with fail
    refine (callsIn_wide (n := N)).1 ?_
    refine (spBack_in Fence.wide N trivial rfl _ _ _ _).mono ?_
    rintro e w1 ⟨rfl, rfl⟩
    go_wp2
    obtain ⟨wr, hwr⟩ : ∃ wr : World, wr = wc.alloc (.cells #[.slice (some ⟨b, off, none⟩) n cn] 22) := ⟨_, rfl⟩
    have hb : b < w.heap.size := by obtain ⟨b', o', ea, h, -⟩ := SPA.out.2 h0; injection ea with ea; injection ea with ea; subst ea; exact h
    have bg : b ≠ g := by
      rcases M.whose with e | e
      · exact HBA.out _ e
      · omega
    have gl := M.row.lt
    have gB : g ≠ wc.heap.size := by omega
    have nb : ¬ (b = p ∨ A = some ⟨b, 0, none⟩) := by
      rintro (e | e)
      · exact hbp e
      · exact HBA.out _ e rfl
    have gw : ∀ j, w.heap.size ≤ j → j ≤ w.heap.size + 1 + 1 → ¬ (j = p ∨ A = some ⟨j, 0, none⟩) := by
      rintro j h1 h2 (e | e)
      · omega
      · rcases TAG.out.2.2 with ⟨q, -⟩ | ⟨g', q, -, r⟩
        · rw [q] at e; cases e
        · rw [q] at e; injection e with e; injection e with e; subst e
          have := r.lt
          omega
    have kw : Kp (fun j => j = p ∨ j = g ∨ A = some ⟨j, 0, none⟩ ∨ w.heap.size ≤ j) w wc := (Kp.of B0.out).trans (M.kp.mono fun j q => by
      rcases q with q | q
      · exact .inl q
      · exact .inr (.inr (.inl q)))
    have gne : ∀ j, w.heap.size ≤ j → j ≤ w.heap.size + 1 + 1 → j ≠ g := fun j h1 h2 e => by
      rcases M.whose with z | z
      · exact gw j h1 h2 (.inr (by rw [e]; exact z))
      · omega
    have M3 := X3.out.kp M.kp (gw _ (by omega) (by omega))
    have M5 := X5.out.kp M.kp (gw _ (by omega) (by omega))
    have M6 := X6.out.kp M.kp (gw _ (by omega) (by omega))
    have br : Below wc.heap.size wc wr := hwr ▸ below_alloc _ _
    have START := Lib.hid (show PutInv w p A g c' O all sp owner n noneX 0 wr from
      ⟨M.box.below br, ⟨n0, _, by rw [← HN0.out]; exact PutI.start (by rw [List.length_append, List.length_replicate, SPA.out.1]) (by simp), M.row.below br, M6.below br⟩, M3.below br, M5.below br, fun j h => h.elim, kw.trans (Kp.of br), pl⟩)
    have IN := Lib.hid (show BackIn b wc.heap.size off n cn sp wr from by
      obtain ⟨b', o', ea, hlt, hc⟩ := SPA.out.2 h0
      injection ea with ea
      injection ea with e1 e2
      subst e1 e2
      have k0 : Kp (fun k => k = p ∨ A = some ⟨k, 0, none⟩) w wr := (Kp.of B0.out).trans (M.kp.trans (Kp.of br))
      refine ⟨by rw [hwr]; simp, fun j hj => ⟨(k0.cell hlt nb).trans (hc j hj).1, (k0.cell hlt nb).trans (hc j hj).2⟩, ?_, ?_⟩
      · exact Nat.lt_of_lt_of_le hlt k0.size
      · rw [hwr]; simp)
    have szr : wr.heap.size = wc.heap.size + 1 := by rw [hwr]; simp
    have szw := M.kp.size
    have cap := M.cap
    have GW := Lib.hid gne
    have WH := Lib.hid M.whose
    have gp : g ≠ p := M.row.ne M.box (by decide)
    rw [← hwr]
    clear hwr M M3 M5 M6 kw br gw gne
    refine wpIn_wide (n := N).1 ?_
    refine wpIn_rangeX (n := N) rfl (by omega) (gf := 114) (lb := #[.pointer (some ⟨wc.heap.size, 0, none⟩)]) rfl trivial (enters_of Try.func114 (by kernel_rfl) rfl)
      (spBack_seq Fence.wide (N - 1) trivial rfl (by omega) wc.heap.size b off n cn sp (by omega)) (fun _ => rfl) (fun k hk => by rcases hk with h | h <;> omega) (fun W' hk => IN.out.keeps (hk.mono fun k h => by rcases h with h | h <;> omega))
      (fun X pre W => PutInv w p A g c' O all sp owner n X pre.length W) (fun _ _ _ _ => False) put_foot (fun _ _ _ _ _ _ h => h.elim) START.out
      (fun x a' W => ∃ Bx, RowIs W Bx 40 2 1 [.int .i64 x.2.1, .int .i64 x.2.2] ∧ wr.heap.size + 1 < Bx ∧ a' = { tmps := #[.pointer (some ⟨p, 0, none⟩), .slice (some ⟨b, off, none⟩) n cn, .int .i64 owner, .pointer (some ⟨w.heap.size, 0, none⟩), undef, .pointer (some ⟨w.heap.size + 1, 0, none⟩), .pointer (some ⟨w.heap.size + 1 + 1, 0, none⟩), .int .i64 (x.1 : Int), .pointer (some ⟨Bx, 0, none⟩), undef, u10, u11, u12, u13, u14, u15, u16, u17, u18, u19, u20, u21, u22, u23, u24, .slice (some ⟨b, off, none⟩) n cn, .func (.func 114) #[] #[.pointer (some ⟨wc.heap.size, 0, none⟩)], .int .i64 (x.1 : Int), .agg #[.int .i64 x.2.1, .int .i64 x.2.2], undef, undef, undef, undef, undef, undef, undef, undef, undef, undef, undef, undef, undef, undef, undef, undef, undef, undef, undef, undef, undef, undef, undef, undef, undef, undef, undef, undef, undef, undef, undef, undef, undef, undef, undef, undef, undef, undef], defers := [] })
      (fun x a' W l o o' h hl ho => by
        obtain ⟨Bx, r, h2, h3⟩ := h
        refine ⟨Bx, r.on (World.putObj_heap_other fun e => ?_), h2, h3⟩
        obtain ⟨cur, hg, -⟩ := r.ex
        rw [e, hl] at hg
        injection hg with hg
        rw [hg] at ho
        cases ho)
      ?assign ?body ?done ?stop
    case assign =>
      rintro l X pre x W K hI hW hK
      unfold spV
      gi_wp2
      exact hK _ _ (below_alloc _ _) ⟨W.heap.size, two_row _ _ _ _, by omega, rfl⟩
    case body =>
      rintro l X pre x a' W hI ⟨Bx, RX, hBx, rfl⟩ hX hXC hXD hXL hpre
      obtain ⟨e, Xs, PI, RG, R6⟩ := hI.ex
      have hk : pre.length < n := by have := hpre.length_le; rw [upto_length, List.length_append] at this; simp at this; omega
      obtain rfl : x = spIx sp n pre.length := by
        have a := hpre.getElem (i := pre.length) (by simp)
        simp [upto] at a
        exact a
      generalize hkp : pre.length = k at *
      have hsp := Lib.hid SPA.out.1
      unfold spIx at *
      generalize hi : n - 1 - k = i at *
      have hik : i + k + 1 = sp.length := by have := hsp.out; omega
      obtain ⟨at_, hat⟩ : ∃ a, a = toB (gt sp i).1 (all.take e) := ⟨_, rfl⟩
      obtain ⟨s1, s2, PS⟩ := PI.step OK.out HN.out HF.out hik at_ hat
      have XL : Xs.length = all.length + n := by rw [PI.len, ← hsp.out]
      have eN := PI.e_le
      rw [HN0.out] at XL eN
      have d3 : W.cell? ⟨w.heap.size, 0, none⟩ = some (.pointer (some ⟨p, 0, none⟩)) := hI.b3.cell rfl
      have d5 : W.cell? ⟨w.heap.size + 1, 0, none⟩ = some (.int .i64 owner) := hI.b5.cell rfl
      have d6 : W.cell? ⟨w.heap.size + 1 + 1, 0, none⟩ = some (.int .i64 (e : Int)) := R6.cell rfl
      have q0 : W.cell? ⟨p, 0, none⟩ = some (.slice (some ⟨g, 0, none⟩) (n0 + n) c') := by have := hI.box.cell (j := 0) rfl; rwa [HN0.out] at this
      have x0 : W.cell? ⟨Bx, 0, none⟩ = some (.int .i64 (gt sp i).1) := RX.cell rfl
      have x1 : W.cell? ⟨Bx, 1, none⟩ = some (.int .i64 (gt sp i).2) := RX.cell rfl
      have TG := Lib.hid (show TgAt W.drew (some ⟨g, 0, none⟩) e (all.take e) from by
        have r := RG.cut (e * 3)
        rw [cells_take (enc := encT) (k := 3) (fun _ => rfl), PI.front] at r
        have t := tg_of (r.below ((Below.refl _ _).drew))
        rwa [List.length_take, Nat.min_eq_left PI.e_le] at t)
      have RT := Lib.hid (OK.out.rises.sublist (List.take_sublist e all))
      have HI := Lib.hid hI
      have RXH := Lib.hid RX
      have RGH := Lib.hid RG
      have R6H := Lib.hid R6
      have PIH := Lib.hid PI
      have PSH := Lib.hid PS
      have HAT := Lib.hid hat
      have HII := Lib.hid hi
      generalize gt sp i = s at *
      clear hI RX RG R6 PI PS hat hi hpre
      rw [HN0.out] at cap
      have v1 : e ≤ c' := by omega
      have v2 : (e : Int) ≤ c' := by omega
      gi_wp2
      refine wpIn_still_tail 8 (by kernel_rfl) (by kernel_rfl) (fun ⟨_, _, h⟩ => h) (by kernel_rfl) ?_
      simp only [List.take_succ_cons, List.take_zero, List.drop_succ_cons, List.drop_zero]
      repeat still_step
      try refine wpStill_nil ?_
      change wpList _ _ _ _ _ W.drew
      go_wp2_with fail
      refine (below_is _ _ e c' (all.take e) s.1 TG.out RT.out (by omega)).mono ?_
      rintro e3 w3 ⟨rfl, b3⟩
      rw [← HAT.out]
      have B3 := Lib.hid ((Below.refl _ _).drew.trans b3)
      have lw := HI.out.b3.lt
      have l6 := R6H.out.lt
      have lp := HI.out.box.lt
      have lx := RXH.out.lt
      have l5 := HI.out.b5.lt
      have y3 := (B3.out.cell (p := ⟨w.heap.size, 0, none⟩) lw).trans d3
      have y5 := (B3.out.cell (p := ⟨w.heap.size + 1, 0, none⟩) l5).trans d5
      have y6 := (B3.out.cell (p := ⟨w.heap.size + 1 + 1, 0, none⟩) l6).trans d6
      have yq := (B3.out.cell (p := ⟨p, 0, none⟩) lp).trans q0
      have yx0 := (B3.out.cell (p := ⟨Bx, 0, none⟩) lx).trans x0
      have yx1 := (B3.out.cell (p := ⟨Bx, 1, none⟩) lx).trans x1
      clear d3 d5 d6 q0 x0 x1 b3 TG RT
      have W1 : IntKind.i64.wrap ((at_ : Int) + i) = (at_ : Int) + i := IntWalk.i64_in _ (by omega)
      have W2 : IntKind.i64.wrap ((at_ : Int) + i + 1) = (at_ : Int) + i + 1 := IntWalk.i64_in _ (by omega)
      have T1 : ((at_ : Int) + i + 1).toNat = at_ + i + 1 := by omega
      have T2 : ((at_ : Int) + i).toNat = at_ + i := by omega
      have v3 : at_ + i + 1 ≤ n0 + n := by omega
      have v4 : (at_ : Int) + i + 1 ≤ ((n0 : Int) + n) := by omega
      have v5 : at_ ≤ c' := by omega
      have v6 : (at_ : Int) ≤ e := by omega
      have v7 : (0 : Int) ≤ (at_ : Int) + i + 1 := by omega
      have v8 : (0 : Int) ≤ (at_ : Int) + i := by omega
      have v9 : at_ + i + 1 ≤ c' := by omega
      have v10 : ¬ c' = at_ := by omega
      have v11 : ¬ at_ = c' := by omega
      have v12 : ¬ c' - at_ = 0 := by omega
      have CLAIM := Lib.hid (show ∀ D : Option Addr, (at_ + i + 1 ≠ c' → D = some ⟨g, (at_ + i + 1) * 3, none⟩) → ∃ w4, (∀ ty, (Builtin.copy_ #[50, 50] ty #[.slice D (n0 + n - (at_ + i + 1)) (c' - (at_ + i + 1)), .slice (some ⟨g, at_ * 3, none⟩) (e - at_) (c' - at_)]).run Try.prog w3.drew = .ok (goInt (e - at_ : Nat)) w4) ∧
          RowIs w4 g 42 3 c' (cellsL encT (splice Xs (at_ + i + 1) ((Xs.take e).drop at_))) ∧ Kp (· = g) w3.drew w4 from by
        obtain ⟨i0, hi0, hz0, hz1, hz2⟩ := info_parts info_tg
        have RG3 := RGH.out.below (B3.out.trans (Below.refl _ _).drew)
        have csl : ((Xs.take e).drop at_).length = e - at_ := by rw [List.length_drop, List.length_take]; omega
        intro D hD
        by_cases hc : at_ + i + 1 = c'
        · have ee : e - at_ = 0 := by omega
          have nn : (Xs.take e).drop at_ = [] := List.length_eq_zero_iff.1 (by omega)
          refine ⟨w3.drew, fun ty => ?_, ?_, Kp.refl _ _⟩
          · rw [ee]
            exact copy_nothing 50 ty i0 Try.underlying50 hi0 _ _ _ _ _ _ (by simp)
          · rw [nn]
            have : splice Xs (at_ + i + 1) [] = Xs := by simp [splice]
            rw [this]; exact RG3
        · rw [hD hc]
          obtain ⟨w4, h1, h2, h3⟩ := RG3.copy (P := Try.prog) 50 i0 Try.underlying50 hi0 hz1 ((at_ + i + 1) * 3) (at_ * 3) (e - at_) (n0 + n - (at_ + i + 1)) (c' - (at_ + i + 1)) (e - at_) (c' - at_) (Nat.min_eq_left (by omega)).symm (cellsL encT ((Xs.take e).drop at_)) (by rw [cells_len (k := 3) (fun _ => rfl), csl])
            (by rw [cells_len (k := 3) (fun _ => rfl), csl, cells_len (k := 3) (fun _ => rfl), XL]; omega) (fun j u hj => by
              have hj2 : j < (e - at_) * 3 := by have := (List.getElem?_eq_some_iff.1 hj).1; rwa [cells_len (k := 3) (fun _ => rfl), csl] at this
              have a := cells_get (enc := encT) (k := 3) (fun _ => rfl) ((Xs.take e).drop at_) (j / 3) (j % 3) (by omega) (by omega)
              rw [show j / 3 * 3 + j % 3 = j by omega, hj] at a
              have b := cells_get (enc := encT) (k := 3) (fun _ => rfl) Xs (at_ + j / 3) (j % 3) (by omega) (by omega)
              rw [show at_ * 3 + j = (at_ + j / 3) * 3 + j % 3 by omega, b, a]
              unfold gt
              rw [List.getElem?_drop, List.getElem?_take, if_pos (by omega)]) (cells_one encT_one _)
          rw [splice_cells (enc := encT) (k := 3) (fun _ => rfl) Xs _ (at_ + i + 1) (by rw [csl]; omega)] at h2
          exact ⟨w4, h1, h2, h3⟩)
      go_wp2
      gi_wp2
      have HCL : Hid (∃ D : Option Addr, (if c' - (at_ + i + 1) = 0 then some ⟨g, 0, none⟩ else some ⟨g, (at_ + i + 1) * 3, none⟩) = D ∧ (at_ + i + 1 ≠ c' → D = some ⟨g, (at_ + i + 1) * 3, none⟩)) := Lib.hid ⟨_, rfl, fun h => if_neg (by omega)⟩
      refine wpIn_still_tail 16 (by kernel_rfl) (by kernel_rfl) (fun ⟨_, _, h⟩ => h) (by kernel_rfl) ?_
      simp only [List.take_succ_cons, List.take_zero, List.drop_succ_cons, List.drop_zero]
      by_cases hc : at_ + i + 1 = c'
      case' pos =>
        have z1 : c' - (at_ + i + 1) = 0 := by omega
        obtain ⟨w4, hcp, R4, K4⟩ := CLAIM.out (some ⟨g, 0, none⟩) (fun h => absurd hc h)
        have R4H := Lib.hid R4
        have K4H := Lib.hid K4
        have hc := Lib.hid hc
        clear R4 K4 CLAIM HCL
        repeat still_step
        try refine wpStill_nil ?_
        change wpList _ _ _ _ _ w3.drew
        rw [z1, show n0 + n - (at_ + i + 1) = 0 from by omega] at hcp
        go_wp2
      case' neg =>
        have z1 : ¬ c' - (at_ + i + 1) = 0 := by omega
        have z2 : ¬ c' = at_ + i + 1 := by omega
        obtain ⟨w4, hcp, R4, K4⟩ := CLAIM.out (some ⟨g, (at_ + i + 1) * 3, none⟩) (fun _ => rfl)
        have R4H := Lib.hid R4
        have K4H := Lib.hid K4
        clear R4 K4 CLAIM HCL
        repeat still_step
        try refine wpStill_nil ?_
        change wpList _ _ _ _ _ w3.drew
        go_wp2
      all_goals
        have B4 := Lib.hid (show Kp (· = g) w3 w4 from (Kp.of (F := (· = g)) ((Below.refl w3.heap.size w3).drew)).trans K4H.out)
        have le3 := B3.out.size
        have y3' := (B4.out.cell (b := w.heap.size) (o := 0) (by show w.heap.size < w3.heap.size; omega) (GW.out _ (by omega) (by omega))).trans y3
        have y5' := (B4.out.cell (b := w.heap.size + 1) (o := 0) (by show w.heap.size + 1 < w3.heap.size; omega) (GW.out _ (by omega) (by omega))).trans y5
        have yq' := (B4.out.cell (b := p) (o := 0) (by show p < w3.heap.size; omega) (fun e => gp e.symm)).trans yq
        have bx := RXH.out.ne RGH.out (by decide)
        have yx0' := (B4.out.cell (b := Bx) (o := 0) (by show Bx < w3.heap.size; omega) bx).trans yx0
        have yx1' := (B4.out.cell (b := Bx) (o := 1) (by show Bx < w3.heap.size; omega) bx).trans yx1
        clear y3 y5 y6 yq yx0 yx1 hcp
        gi_wp2
        refine wpIn_still_tail 11 (by kernel_rfl) (by kernel_rfl) (fun ⟨_, _, h⟩ => h) (by kernel_rfl) ?_
        simp only [List.take_succ_cons, List.take_zero, List.drop_succ_cons, List.drop_zero]
        have u1 : at_ + i < n0 + n := by omega
        have u2 : (at_ : Int) + i < (n0 : Int) + n := by omega
        have u3 : ¬ (at_ : Int) + i < 0 := by omega
        have fz := R4H.out.frozen
        have fz' : ∀ j, w4.drew.frozen? ⟨g, j, none⟩ = false := fz
        obtain ⟨X4, hX4⟩ : ∃ X4, X4 = splice Xs (at_ + i + 1) ((Xs.take e).drop at_) := ⟨_, rfl⟩
        rw [← hX4] at R4H
        have XL4 : X4.length = n0 + n := by rw [hX4, length_splice _ _ _ (by rw [List.length_drop, List.length_take]; omega)]; exact XL
        have k0 : w4.cell? ⟨g, (at_ + i) * 3, none⟩ = some (.int .i64 (gt X4 (at_ + i)).1.1) := R4H.out.cell (cells_get (enc := encT) (k := 3) (fun _ => rfl) X4 (at_ + i) 0 (by omega) (by omega))
        have k1 : w4.cell? ⟨g, (at_ + i) * 3 + 1, none⟩ = some (.int .i64 (gt X4 (at_ + i)).1.2) := R4H.out.cell (cells_get (enc := encT) (k := 3) (fun _ => rfl) X4 (at_ + i) 1 (by omega) (by omega))
        have k2 : w4.cell? ⟨g, (at_ + i) * 3 + 2, none⟩ = some (.int .i64 (gt X4 (at_ + i)).2) := R4H.out.cell (cells_get (enc := encT) (k := 3) (fun _ => rfl) X4 (at_ + i) 2 (by omega) (by omega))
        have HX4 := Lib.hid hX4
        clear hX4
        repeat still_step
        try refine wpStill_nil ?_
        change wpList _ _ _ _ _ w4.drew
        go_wp2_with fail
        have S5 := R4H.out.setT (at_ + i) (by omega) (s, owner)
        dsimp only at S5
        generalize ((w4.setCell ⟨g, (at_ + i) * 3, none⟩ (.int .i64 s.1)).setCell ⟨g, (at_ + i) * 3 + 1, none⟩ (.int .i64 s.2)).setCell ⟨g, (at_ + i) * 3 + 2, none⟩ (.int .i64 owner) = w5 at S5 ⊢
        obtain ⟨R5, K5⟩ := S5
        have K5 := Lib.hid (B4.out.trans (K5.trans (Kp.of (F := (· = g)) ((Below.refl w5.heap.size w5).drew))))
        have R5 := Lib.hid (R5.below ((Below.refl w5.heap.size w5).drew))
        generalize w5.drew = w5 at *
        have n2 : w.heap.size + 1 + 1 ≠ g := GW.out _ (by omega) (by omega)
        have Q6 := Lib.hid ((R6H.out.below B3.out).kp K5.out n2)
        have q6 : w5.cell? ⟨w.heap.size + 1 + 1, 0, none⟩ = some (.int .i64 (e : Int)) := Q6.out.cell rfl
        have q6f : w5.frozen? ⟨w.heap.size + 1 + 1, 0, none⟩ = false := Q6.out.frozen 0
        clear k0 k1 k2 fz fz' y3' y5' yq' yx0' yx1'
        gi_wp2
        have K6 : Kp (fun j => j = g ∨ j = w.heap.size + 1 + 1) W (w5.setCell ⟨w.heap.size + 1 + 1, 0, none⟩ (.int .i64 (at_ : Int))) :=
          (Kp.of B3.out).trans ((K5.out.mono fun _ q => .inl q).trans (Kp.setCell _ _ (.inr rfl) _))
        have hC : ∀ j, j = g ∨ j = w.heap.size + 1 + 1 → ¬ (X j ∨ BackC b wc.heap.size j) := by
          rintro j (rfl | rfl) (q | q)
          · exact (HI.out.far _ q).2 rfl
          · rcases q with q | q
            · exact bg q.symm
            · exact gB q
          · have := (HI.out.far _ q).1
            omega
          · rcases q with q | q <;> omega
        refine ⟨⟨K6.os, K6.tape, K6.output, K6.size, fun j hj hl => K6.block j hl fun q => hC j q hj⟩, ?_⟩
        dsimp only
        rw [List.length_append, List.length_singleton, hkp]
        refine ⟨HI.out.box.kp K6 (by rintro (q | q) <;> omega), ⟨at_, _, PSH.out, ?_, ?_⟩, HI.out.b3.kp K6 (by have := GW.out w.heap.size (by omega) (by omega); rintro (q | q) <;> omega), HI.out.b5.kp K6 (by have := GW.out (w.heap.size + 1) (by omega) (by omega); rintro (q | q) <;> omega), HI.out.far, ?_, pl⟩
        · rw [putX_splice _ s1 s2, ← HX4.out]
          exact R5.out.kp (Kp.setCell (F := (· = w.heap.size + 1 + 1)) w5 _ rfl _) (fun q => n2 q.symm)
        · exact (Q6.out.setCell 0 (by simp) _).1
        · refine HI.out.kp.trans (K6.mono fun j q => ?_)
          rcases q with q | q
          · exact .inr (.inl q)
          · exact .inr (.inr (.inr (by omega)))
    case done =>
      rintro D W hD hI hK
      have hI : PutInv w p A g c' O all sp owner n (fun k => k = D) (upto (spIx sp n) n).length W := hI
      rw [upto_length] at hI
      have HI := Lib.hid hI
      clear hI
      go_wp2
      refine ⟨by simp, .inl ⟨_, _, rfl, run_takeDeferred hK, ?_⟩⟩
      refine ⟨.tuple #[], by simp [results, Try.f60, go_sem], rfl, g, c', ?_⟩
      obtain ⟨e, Xs, PI, RG, -⟩ := HI.out.ex
      have hsp := SPA.out.1
      rw [hsp] at PI
      have E := PI.done OK.out HN.out HF.out
      have L := PI.len
      have Dp : ¬ p = D := by omega
      have Dg : ¬ g = D := by omega
      rw [← E]
      refine ⟨?_, RG.on (World.putObj_heap_other Dg), by rw [L, ← hsp]; exact cap, ?_, ?_⟩
      · rw [L, ← hsp]; exact HI.out.box.on (World.putObj_heap_other Dp)
      · rcases WH.out with q | q
        · exact .inl q
        · exact .inr (by omega)
      · refine ⟨HI.out.kp.os, HI.out.kp.tape, HI.out.kp.output, by have := HI.out.kp.size; simpa using this, fun j hj hf => (World.putObj_heap_other (by omega)).trans (HI.out.kp.block j hj fun q => hf ?_)⟩
        rcases q with q | q | q | q
        · exact .inl q
        · rcases WH.out with z | z
          · exact .inr (by rw [q]; exact z)
          · omega
        · exact .inr q
        · omega
    case stop =>
      rintro D cc pre W hD hpre h
      exact h.elim
end Go.Proofs.Ytjodhfehfpmfaaa.Iv
