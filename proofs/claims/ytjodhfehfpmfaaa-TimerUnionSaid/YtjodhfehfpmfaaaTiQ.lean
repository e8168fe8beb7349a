/- The queue in memory; the heap's own Push and Pop. -/
import Derived.Test.YtjodhfehfpmfaaaTiDown
import Derived.Test.YtjodhfehfpmfaaaIvSet2
import Derived.Deep.AppendLies
set_option linter.unusedVariables false
namespace Go.Proofs.Ytjodhfehfpmfaaa.Ti
open Go.RowKit Iv

/-- the queue at block q, its items as they lie; all its blocks are of F -/
structure QF (F : Nat → Prop) (w : World) (q : Nat) (h : List It) (A : Option Addr) (c : Nat) : Prop where
  box : RowIs w q 108 1 1 [.slice A h.length c]
  foot : F q
  rows : RowF F w 70 2 A h.length c (cellsL Iv.encS h)
/-- the queue at block q holds the items L, in order -/
def QIn (F : Nat → Prop) (w : World) (q : Nat) (L : List It) : Prop := ∃ h A c, QF F w q h A c ∧ QH h L
section
variable {F G : Nat → Prop} {w w' : World} {q : Nat} {h L : List It} {A : Option Addr} {c : Nat}
theorem QF.c0 (H : QF F w q h A c) : w.cell? ⟨q, 0, none⟩ = some (.slice A h.length c) := H.box.cell rfl
theorem QF.on (H : QF F w q h A c) (hk : Kp G w w') (hg : ∀ k, F k → k < w.heap.size → ¬ G k) : QF F w' q h A c := ⟨H.box.kp hk (hg q H.foot H.box.lt), H.foot, H.rows.on hk hg⟩
theorem QF.below (H : QF F w q h A c) (hb : Below w.heap.size w w') : QF F w' q h A c := H.on (Kp.of' hb) fun _ _ _ p => p
theorem QF.mono (H : QF F w q h A c) (hg : ∀ k, F k → k < w.heap.size → G k) : QF G w q h A c := ⟨H.box, hg q H.foot H.box.lt, H.rows.mono hg⟩
theorem QIn.on (H : QIn F w q L) (hk : Kp G w w') (hg : ∀ k, F k → k < w.heap.size → ¬ G k) : QIn F w' q L := by
  obtain ⟨h, A, c, H, Q⟩ := H
  exact ⟨h, A, c, H.on hk hg, Q⟩
theorem QIn.below (H : QIn F w q L) (hb : Below w.heap.size w w') : QIn F w' q L := H.on (Kp.of' hb) fun _ _ _ p => p
theorem QIn.mono (H : QIn F w q L) (hg : ∀ k, F k → k < w.heap.size → G k) : QIn G w q L := by
  obtain ⟨h, A, c, H, Q⟩ := H
  exact ⟨h, A, c, H.mono hg, Q⟩
theorem QIn.srt (H : QIn F w q L) : Srt L := by
  obtain ⟨h, A, c, H, Q⟩ := H
  exact Q.srt
theorem QIn.lt (H : QIn F w q L) : q < w.heap.size := by
  obtain ⟨h, A, c, H, Q⟩ := H
  exact H.box.lt
/-- items that are there lie in a row -/
theorem QF.has (H : QF F w q h A c) (h0 : 0 < h.length) : ∃ g, A = some ⟨g, 0, none⟩ ∧ F g ∧ Its w g c h ∧ q ≠ g := by
  rcases H.rows.2.2 with ⟨-, e⟩ | ⟨g, e, f, r⟩
  · have := H.rows.2.1; omega
  · exact ⟨g, e, f, r, H.box.ne r (by decide)⟩
end
theorem info_it : (Try.prog.info? 70).map (fun i => (i.zero, i.size, i.bytes)) = some (some (.agg #[.int .i64 0, .int .i64 0]), 2, 16) := by kernel_rfl
theorem own_row {F : Nat → Prop} {w : World} {A : Option Addr} {c : Nat} {h : List It} (r : RowF F w 70 2 A h.length c (cellsL Iv.encS h)) : w.ownsRow 0 70 2 (.slice A h.length c) h.length (cellsL Iv.encS h) := by
  rcases r.2.2 with ⟨rfl, e⟩ | ⟨g, rfl, -, r2⟩
  · have e0 : h = [] := List.length_eq_zero_iff.1 (by have := r.2.1; omega)
    subst e e0
    exact World.ownsRow_nil _ _ _ _
  · exact own_of r2 r.1 r.2.1 (Nat.zero_le _)
theorem newcellsQ (W : World) (cs : Array Value) (T : TypeId) : ∀ j u, cs.toList[j]? = some u → (W.alloc (.cells cs T)).cell? ((⟨W.heap.size, 0, none⟩ : Addr).add j) = some u := by
  intro j u hj
  rw [addr_off, World.cell?_alloc_new, ← hj]
  simp
theorem assert_it (x : It) (w : World) : (Instr.typeAssert (.iface 70 (.agg #[.int .i64 x.1, .int .i64 x.2])) 20 70 false).run Try.prog w = .ok (.agg #[.int .i64 x.1, .int .i64 x.2]) w := by kernel_rfl
set_option maxRecDepth 100000 in
set_option maxHeartbeats 4000000 in
/-- the heap's Push -/
theorem push_m {F : Nat → Prop} (W : World) (q : Nat) (h : List It) (A : Option Addr) (c : Nat) (x : It) (H : QF F W q h A c) (hF : ∀ k, W.heap.size ≤ k → F k) (hl : h.length ≤ 900000) :
    Calls Try.prog 167 #[.pointer (some ⟨q, 0, none⟩), .iface 70 (.agg #[.int .i64 x.1, .int .i64 x.2])] W fun e w' => e = .returned (.tuple #[]) ∧ (∃ g c', QF F w' q (h ++ [x]) (some ⟨g, 0, none⟩) c') ∧ Kp F W w' := by
  have c0 := H.c0
  have HQ := Lib.hid H
  have ql := H.box.lt
  have y0 : ∀ o, W.frozen? ⟨q, o, none⟩ = false := H.box.frozen
  obtain ⟨i0, hi, hz0, hz1, hz2⟩ := info_parts info_it
  have as_it := assert_it x
  clear H
  go_enter Try.func167, Try.ntmps167
  go_upto_region 0 with fail
  have FI : Hid (∀ w1 w2 : World, Below W.heap.size W w1 → w1.heap.size = W.heap.size + 1 → ∀ g cap, w2.ownsRow 0 70 2 (.slice (some ⟨g, 0, none⟩) (h.length + 1) cap) (h.length + 1) (cellsL Iv.encS h ++ Iv.encS x) → w1.grownBy w2 (Value.ownBlock (.slice A h.length c)) → (Value.ownBlock (.slice A h.length c) = some g ∨ g = w1.heap.size) →
      (w2.cell? ⟨q, 0, none⟩ = some (.slice A h.length c) ∧ w2.frozen? ⟨q, 0, none⟩ = false) ∧ Hid ((∃ g' c', QF F (w2.setCell ⟨q, 0, none⟩ (.slice (some ⟨g, 0, none⟩) (h.length + 1) cap)) q (h ++ [x]) (some ⟨g', 0, none⟩) c') ∧ Kp F W (w2.setCell ⟨q, 0, none⟩ (.slice (some ⟨g, 0, none⟩) (h.length + 1) cap)))) := Lib.hid (fun w1 w2 b1 s1 g cap ho hg hb => by
    have K12 : Kp (fun k => Value.ownBlock (.slice A h.length c) = some k) w1 w2 := Kp.grown hg fun k hk => hk
    have qa : ¬ Value.ownBlock (.slice A h.length c) = some q := fun e => by
      rcases HQ.out.rows.2.2 with ⟨rfl, -⟩ | ⟨g', rfl, -, r⟩
      · simp [Value.ownBlock] at e
      · simp [Value.ownBlock] at e
        exact HQ.out.box.ne r (by decide) e.symm
    have fb : ∀ k, Value.ownBlock (.slice A h.length c) = some k → F k := fun k e => by
      rcases HQ.out.rows.2.2 with ⟨rfl, -⟩ | ⟨g', rfl, f, r⟩
      · simp [Value.ownBlock] at e
      · simp [Value.ownBlock] at e
        exact e ▸ f
    have q1 : q < w1.heap.size := by omega
    have box2 := (HQ.out.box.below b1).kp K12 qa
    obtain ⟨r2, hl2, hc2, -⟩ := row_of ho
    obtain ⟨box3, k3⟩ := box2.setCell 0 (by simp) (.slice (some ⟨g, 0, none⟩) (h.length + 1) cap)
    have gq : q ≠ g := box2.ne r2 (by decide)
    have r3 := r2.kp k3 (fun e => gq e.symm)
    have fg : F g := hb.elim (fb g) fun e => hF g (by omega)
    refine ⟨⟨box2.cell rfl, box2.frozen 0⟩, Lib.hid ⟨⟨g, cap, ?_, HQ.out.foot, ?_, ?_, .inr ⟨g, rfl, fg, ?_⟩⟩, ?_⟩⟩
    · rw [List.length_append, List.length_singleton]; exact box3
    · rw [cells_len (k := 2) (fun _ => rfl)]
    · rw [List.length_append, List.length_singleton]; exact hc2
    · rw [cells_app]
      have : cellsL Iv.encS [x] = Iv.encS x := by simp [cellsL]
      rw [this]; exact r3
    · exact ((Kp.of b1).trans (K12.mono fb)).trans (k3.mono fun k e => e ▸ HQ.out.foot))
  have OW := Lib.hid (own_row HQ.out.rows)
  have L1 := Lib.hid hl
  generalize h.length = n at *
  refine wp_region_late (fun k => k != 3 && k != 6) (fun v => Below W.heap.size W v) (by kernel_rfl) ?_
  have D0 : Below W.heap.size W W.drew := (Below.refl _ _).drew
  have Z := Lib.hid (show ∀ v, Below W.heap.size W v → v.cell? ⟨q, 0, none⟩ = some (.slice A n c) from fun v hv => (hv.cell (p := ⟨q, 0, none⟩) ql).trans c0)
  refine tkP 0 rfl (.pointer (some ⟨q, 0, none⟩)) (by rfl) (.inl ⟨by kernel_rfl, fun w' _ => ?_⟩) ?_
  · go_simp
  refine tkP 1 rfl (.pointer (some ⟨q, 0, none⟩)) (by rfl) (.inl ⟨by kernel_rfl, fun w' _ => ?_⟩) ?_
  · go_simp
  refine tkP 2 rfl (.pointer (some ⟨q, 0, none⟩)) (by rfl) (.inl ⟨by kernel_rfl, fun w' _ => ?_⟩) ?_
  · go_simp
  refine tkP 4 rfl (.iface 70 (.agg #[.int .i64 x.1, .int .i64 x.2])) (by rfl) (.inl ⟨by kernel_rfl, fun w' _ => ?_⟩) ?_
  · go_simp
  refine tkP 5 rfl (.agg #[.int .i64 x.1, .int .i64 x.2]) (by rfl) (.inl ⟨by kernel_rfl, fun w' _ => ?_⟩) ?_
  · go_simp
  refine tkL 3 rfl (.slice A n c) (.inl ⟨by kernel_rfl, fun w' hs => ?_⟩) D0 ?_
  · have z0 := Z.out _ hs
    go_simp
  refine Late.one 6 rfl (by kernel_rfl) rfl ?_
  go_simp
  have D1 := D0.alloc D0.size (.cells #[.int .i64 x.1, .int .i64 x.2] 70)
  refine ⟨D1, ?_⟩
  refine Late.one 7 rfl (by kernel_rfl) rfl ?_
  refine wp_append_lies _ (.tmp 7) (.tmp 10) 106 (by rfl) 0 70 i0 _ 2 16 Try.underlying106 hi hz0 hz1 hz2 rfl (by omega) (.slice A n c) n (cellsL Iv.encS h) (by rfl) (World.ownsRow.alloc (row_on OW.out D0) _) ⟨W.heap.size, 0, none⟩ 1 1 (Iv.encS x) (by rfl) (by rfl) (newcellsQ _ #[.int .i64 x.1, .int .i64 x.2] 70) (encS_one x) (by omega) (by unfold maxLen; omega) (by omega) (Nat.zero_le _) _ rfl ?_
  intro g cap w2 ho hg hb hl2
  obtain ⟨⟨sc, sf⟩, FN⟩ := FI.out _ w2 D1 (by simp) g cap ho hg hb
  refine ⟨.inl rfl, ?_⟩
  refine Late.one 8 rfl (by kernel_rfl) rfl ?_
  go_simp
  refine Late.one 9 rfl (by kernel_rfl) rfl ?_
  go_simp
  refine Late.done (by kernel_rfl) ?_
  clear ho hg hb
  go_wp2
  go_end0
  exact ⟨rfl, FN.out⟩
def itV (x : It) : Value := .agg #[.int .i64 x.1, .int .i64 x.2]
set_option maxRecDepth 100000 in
set_option maxHeartbeats 4000000 in
/-- the heap's Pop: the last goes -/
theorem pop_m {F : Nat → Prop} (W : World) (q : Nat) (h : List It) (A : Option Addr) (c : Nat) (H : QF F W q h A c) (h0 : 0 < h.length) (hl : h.length ≤ 900000) :
    Calls Try.prog 166 #[.pointer (some ⟨q, 0, none⟩)] W fun e w' => e = .returned (.iface 70 (.agg #[.int .i64 (gt h (h.length - 1)).1, .int .i64 (gt h (h.length - 1)).2])) ∧ QF F w' q (h.take (h.length - 1)) A c ∧ Kp F W w' := by
  obtain ⟨g, rfl, fg, r, qg⟩ := H.has h0
  have c0 := H.c0
  have ql := H.box.lt
  have y0 : ∀ o, W.frozen? ⟨q, o, none⟩ = false := H.box.frozen
  obtain ⟨m, hm⟩ : ∃ m, h.length = m + 1 := ⟨h.length - 1, by omega⟩
  obtain ⟨d0, d1⟩ := its_cell r (j := m) (by omega)
  have FN := Lib.hid (show ∀ w1 : World, Below W.heap.size W w1 → QF F (w1.setCell ⟨q, 0, none⟩ (.slice (some ⟨g, 0, none⟩) m c)) q (h.take (h.length - 1)) (some ⟨g, 0, none⟩) c ∧ Kp F W (w1.setCell ⟨q, 0, none⟩ (.slice (some ⟨g, 0, none⟩) m c)) from fun w1 b1 => by
    obtain ⟨box3, k3⟩ := (H.box.below b1).setCell 0 (by simp) (.slice (some ⟨g, 0, none⟩) m c)
    have cp := H.rows.2.1
    have el : (h.take (h.length - 1)).length = m := by rw [List.length_take]; omega
    have r3 := ((r.below b1).kp k3 (fun e => qg e.symm)).cut ((h.length - 1) * 2)
    rw [cells_take (k := 2) (fun _ => rfl)] at r3
    exact ⟨⟨by rw [el]; exact box3, H.foot, by rw [cells_len (k := 2) (fun _ => rfl)], by rw [el]; omega, .inr ⟨g, rfl, fg, r3⟩⟩, (Kp.of b1).trans (k3.mono fun k e => e ▸ H.foot)⟩)
  have cp := H.rows.2.1
  have i2 : (m : Int) ≤ c := by omega
  have i3 : m ≤ c := by omega
  have i4 : ¬ c = 0 := by omega
  rw [hm] at c0 ⊢
  clear H r
  have gl := qg
  rw [show m + 1 - 1 = m from rfl]
  generalize gt h m = x at *
  rw [hm, show m + 1 - 1 = m from rfl] at FN
  have W1 : IntKind.i64.wrap (((m + 1 : Nat) : Int) - 1) = (m : Int) := by rw [IntWalk.i64_in _ (by omega)]; omega
  have i1 : (m : Int) < ((m + 1 : Nat) : Int) := by omega
  have e1 : m < m + 1 := by omega
  obtain ⟨wb, hwb⟩ : ∃ wb : World, wb = W.alloc (.cells #[.int .i64 x.1, .int .i64 x.2] 70) := ⟨_, rfl⟩
  have BB := Lib.hid (show Below W.heap.size W wb from hwb ▸ below_alloc _ _)
  have x0 : wb.cell? ⟨W.heap.size, 0, none⟩ = some (.int .i64 x.1) := by rw [hwb]; simp
  have x1 : wb.cell? ⟨W.heap.size, 1, none⟩ = some (.int .i64 x.2) := by rw [hwb]; simp
  have b0 : wb.cell? ⟨q, 0, none⟩ = some (.slice (some ⟨g, 0, none⟩) (m + 1) c) := (BB.out.cell (p := ⟨q, 0, none⟩) ql).trans c0
  have b1 : wb.frozen? ⟨q, 0, none⟩ = false := by
    have := y0 0
    rw [hwb]
    simpa [World.frozen?_alloc_past _ _ _ ql] using this
  have F1 := Lib.hid (FN.out wb BB.out)
  have ne : ¬ W.heap.size = q := by omega
  go_enter Try.func166, Try.ntmps166
  go_upto_region 3 with fail
  rw [← hwb]
  clear hwb c0 d0 d1 y0 FN
  generalize W.heap.size = bx at *
  go_wp2
  go_ret
  exact ⟨rfl, F1.out⟩
end Go.Proofs.Ytjodhfehfpmfaaa.Ti
