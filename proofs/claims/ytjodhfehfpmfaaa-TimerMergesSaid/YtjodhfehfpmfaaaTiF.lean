/- The queue among other memory; voklaw11.first. -/
import Derived.Test.YtjodhfehfpmfaaaTiQb
import Derived.Test.YtjodhfehfpmfaaaTiMg
import Derived.Test.YtjodhfehfpmfaaaIvRT
set_option linter.unusedVariables false
namespace Go.Proofs.Ytjodhfehfpmfaaa.Ti
open Go.RowKit Iv

/-- the queue at q holds L; its blocks lie at or above B, none of them in X -/
def QB (w : World) (q : Nat) (L : List It) (B : Nat) (X : Nat → Prop) : Prop :=
  ∃ F : Nat → Prop, QIn F w q L ∧ (∀ k, F k → B ≤ k ∧ k < w.heap.size ∧ ¬ X k) ∧ (∀ k, X k → k < w.heap.size) ∧ B ≤ w.heap.size
/-- all but what lies at or above B and not in X stays -/
abbrev KX (B : Nat) (X : Nat → Prop) (w w' : World) : Prop := Kp (fun k => B ≤ k ∧ ¬ X k) w w'
section
variable {w w' : World} {q : Nat} {L : List It} {B : Nat} {X : Nat → Prop}
theorem QB.srt (h : QB w q L B X) : Srt L := by
  obtain ⟨F, H, -⟩ := h
  exact H.srt
theorem QB.is (h : QB w q L B X) : ∃ F, QIn F w q L := by
  obtain ⟨F, H, -⟩ := h
  exact ⟨F, H⟩
theorem QB.more (h : QB w q L B X) (hb : Below w.heap.size w w') (Y : Nat → Prop) (hY : ∀ k, Y k → k < w'.heap.size ∧ (X k ∨ w.heap.size ≤ k)) : QB w' q L B Y := by
  obtain ⟨F, H, a, b, z⟩ := h
  have sz := hb.size
  exact ⟨F, H.below hb, fun k hk => ⟨(a k hk).1, by have := (a k hk).2.1; omega, fun y => (hY k y).2.elim (a k hk).2.2 fun e => by have := (a k hk).2.1; omega⟩, fun k hk => (hY k hk).1, by omega⟩
theorem QB.below (h : QB w q L B X) (hb : Below w.heap.size w w') : QB w' q L B X := by
  have hx : ∀ k, X k → k < w.heap.size := by
    obtain ⟨F, H, a, b, z⟩ := h
    exact b
  exact h.more hb X fun k hk => ⟨Nat.lt_of_lt_of_le (hx k hk) hb.size, .inl hk⟩
theorem QB.box (h : QB w q L B X) (o : Obj) : QB (w.alloc o) q L B (fun k => X k ∨ k = w.heap.size) := by
  have hx : ∀ k, X k → k < w.heap.size := by
    obtain ⟨F, H, a, b, z⟩ := h
    exact b
  exact h.more (below_alloc w o) _ fun k hk => ⟨by rcases hk with hk | hk; have := hx k hk; simp; omega; simp; omega, hk.imp id fun e => by omega⟩
theorem QB.turn {F : Nat → Prop} {L' : List It} (a : ∀ k, F k → B ≤ k ∧ k < w.heap.size ∧ ¬ X k) (b : ∀ k, X k → k < w.heap.size) (z : B ≤ w.heap.size) (H' : QIn (fun k => F k ∨ w.heap.size ≤ k) w' q L') (K : Kp (fun k => F k ∨ w.heap.size ≤ k) w w') : QB w' q L' B X ∧ KX B X w w' := by
  have sz := K.size
  refine ⟨⟨fun k => (F k ∨ w.heap.size ≤ k) ∧ k < w'.heap.size, H'.mono fun k h1 h2 => ⟨h1, h2⟩, fun k hk => ⟨?_, hk.2, fun x => ?_⟩, fun k hk => by have := b k hk; omega, by omega⟩, ?_⟩
  · rcases hk.1 with h | h
    · exact (a k h).1
    · omega
  · rcases hk.1 with h | h
    · exact (a k h).2.2 x
    · have := b k x; omega
  · exact K.mono fun k h => by
      rcases h with h | h
      · exact ⟨(a k h).1, (a k h).2.2⟩
      · exact ⟨by omega, fun x => by have := b k x; omega⟩
theorem pushB (h : QB w q L B X) (x y : Int) (hl : L.length ≤ 700000) : Calls Try.prog 37 #[.pointer (some ⟨q, 0, none⟩), .int .i64 x, .int .i64 y] w fun e w' => e = .returned (.tuple #[]) ∧ QB w' q (insL (x, y) L) B X ∧ KX B X w w' := by
  obtain ⟨F, H, a, b, z⟩ := h
  refine (qpush_is (F := fun k => F k ∨ w.heap.size ≤ k) w q L x y (H.mono fun k h _ => .inl h) (fun k h => .inr h) hl).mono ?_
  rintro e w' ⟨he, H', K⟩
  exact ⟨he, QB.turn a b z H' K⟩
theorem popB (h : QB w q L B X) (now : Int) (hl : L.length ≤ 700000) : Calls Try.prog 39 #[.pointer (some ⟨q, 0, none⟩), .int .i64 now] w fun e w' => e = .returned (popV now L) ∧ QB w' q (popL now L) B X ∧ KX B X w w' := by
  obtain ⟨F, H, a, b, z⟩ := h
  refine (qpop_is (F := fun k => F k ∨ w.heap.size ≤ k) w q L now (H.mono fun k h _ => .inl h) hl).mono ?_
  rintro e w' ⟨he, H', K⟩
  exact ⟨he, QB.turn a b z H' K⟩
theorem dropB (h : QB w q L B X) (id : Int) (hl : L.length ≤ 700000) : Calls Try.prog 41 #[.pointer (some ⟨q, 0, none⟩), .int .i64 id] w fun e w' => e = .returned (.int .i64 ((L.length - (dropL id L).length : Nat) : Int)) ∧ QB w' q (dropL id L) B X ∧ KX B X w w' := by
  obtain ⟨F, H, a, b, z⟩ := h
  refine (qdrop_is (F := fun k => F k ∨ w.heap.size ≤ k) w q L id (H.mono fun k h _ => .inl h) hl).mono ?_
  rintro e w' ⟨he, H', K⟩
  exact ⟨he, QB.turn a b z H' K⟩
theorem nextB (h : QB w q L B X) : Calls Try.prog 50 #[.pointer (some ⟨q, 0, none⟩)] w fun e w' => e = .returned (headV L) ∧ Below w.heap.size w w' := by
  obtain ⟨F, H, a, b, z⟩ := h
  exact qnext_is w q L H
theorem lenB (h : QB w q L B X) : Calls Try.prog 49 #[.pointer (some ⟨q, 0, none⟩)] w fun e w' => e = .returned (.int .i64 (L.length : Nat)) ∧ w = w' := by
  obtain ⟨F, H, a, b, z⟩ := h
  exact qlen_is w q L H
theorem listB (h : QB w q L B X) (hl : L.length ≤ 700000) : Calls Try.prog 48 #[.pointer (some ⟨q, 0, none⟩)] w fun e w' => ∃ A c, e = .returned (.slice A L.length c) ∧ SpAt w' A L.length L ∧ (A = none → c = 0) ∧ (∀ g o, A = some ⟨g, o, none⟩ → w.heap.size ≤ g) ∧ Below w.heap.size w w' := by
  obtain ⟨F, H, a, b, z⟩ := h
  exact qlist_is w q L H hl
theorem copyB (h : QB w q L B X) (hl : L.length ≤ 700000) : Calls Try.prog 43 #[.pointer (some ⟨q, 0, none⟩)] w fun e w' => ∃ q', e = .returned (.pointer (some ⟨q', 0, none⟩)) ∧ QIn (fun k => w.heap.size ≤ k) w' q' L ∧ Below w.heap.size w w' := by
  obtain ⟨F, H, a, b, z⟩ := h
  exact qcopy_is w q L H hl
end
theorem newB (w : World) (B : Nat) (hB : B ≤ w.heap.size) : Calls Try.prog 36 #[] w fun e w' => e = .returned (.pointer (some ⟨w.heap.size, 0, none⟩)) ∧ QB w' w.heap.size [] B (fun _ => False) ∧ Below w.heap.size w w' := by
  refine (qnew_is (F := fun k => w.heap.size ≤ k) w fun k h => h).mono ?_
  rintro e w' ⟨he, H, b⟩
  have sz := b.size
  exact ⟨he, ⟨fun k => w.heap.size ≤ k ∧ k < w'.heap.size, H.mono fun k h1 h2 => ⟨h1, h2⟩, fun k hk => ⟨by omega, hk.2, fun x => x⟩, fun k hk => hk.elim, by omega⟩, b⟩
theorem KX.cell {B : Nat} {X : Nat → Prop} {w w' : World} (h : KX B X w w') {b o : Nat} (hb : b < w.heap.size) (hx : X b) : w'.cell? ⟨b, o, none⟩ = w.cell? ⟨b, o, none⟩ := Kp.cell h hb fun q => q.2 hx
theorem KX.below {B : Nat} {X : Nat → Prop} {w w' : World} (h : KX B X w w') (hB : B ≤ w.heap.size) : Below B w w' := Kp.below h hB fun k q => q.1
theorem is_new (w : World) (l : List Int) (T : TypeId) : IsAt (w.alloc (.cells (l.map (Value.int .i64)).toArray T)) (some ⟨w.heap.size, 0, none⟩) l.length l := by
  refine ⟨rfl, fun h0 => ⟨_, _, rfl, by simp, fun j hj => ?_⟩⟩
  rw [World.cell?_alloc_new, gt_lt hj]
  simp [hj]
theorem ls_new (w : World) (S : List SlR) (T : TypeId) (h : ∀ s ∈ S, IsAt w s.A s.k s.l ∧ s.k ≤ s.c) : LsAt (w.alloc (.cells (S.map fun s => Value.slice s.A s.k s.c).toArray T)) (some ⟨w.heap.size, 0, none⟩) S.length S := by
  refine ⟨rfl, fun h0 => ⟨_, _, rfl, by simp, fun j hj => ?_⟩⟩
  obtain ⟨h1, h2⟩ := h _ (gt_mem hj)
  refine ⟨?_, h1.below (below_alloc _ _), h2⟩
  rw [World.cell?_alloc_new, gt_lt hj]
  simp [hj]
set_option maxRecDepth 100000 in
set_option maxHeartbeats 4000000 in
theorem first11 (w : World) : Calls Try.prog 35 #[] w fun e w' => e = .returned (.bool true) ∧ Below w.heap.size w w' := by
  go_enter Try.func35, Try.ntmps35
  go_wp2_with fail
  refine (newB w w.heap.size (Nat.le_refl _)).mono ?_
  rintro e w1 ⟨rfl, q1, b1⟩
  have Q1 := Lib.hid q1
  have B1 := Lib.hid b1
  have z1 := b1.size
  clear q1 b1
  go_wp2_with fail
  refine (pushB Q1.out 5 1 (by simp)).mono ?_
  rintro e w2 ⟨rfl, q2, k2⟩
  have Q2 := Lib.hid (show QB w2 w.heap.size [(5, 1)] w.heap.size (fun _ => False) from q2)
  have B2 := Lib.hid (B1.out.trans (k2.below z1))
  have z2 := B2.out.size
  clear q2 k2
  go_wp2_with fail
  refine (pushB Q2.out 3 2 (by simp)).mono ?_
  rintro e w3 ⟨rfl, q3, k3⟩
  have Q3 := Lib.hid (show QB w3 w.heap.size [(3, 2), (5, 1)] w.heap.size (fun _ => False) from q3)
  have z3 := k3.size
  have B3 := Lib.hid (B2.out.trans (k3.below (by omega)))
  clear q3 k3
  go_wp2_with fail
  refine (pushB Q3.out 3 1 (by simp)).mono ?_
  rintro e w4 ⟨rfl, q4, k4⟩
  have Q4 := Lib.hid (show QB w4 w.heap.size [(3, 1), (3, 2), (5, 1)] w.heap.size (fun _ => False) from q4)
  have z4 := k4.size
  have B4 := Lib.hid (B3.out.trans (k4.below (by omega)))
  clear q4 k4
  go_wp2_with fail
  refine (popB Q4.out 4 (by simp)).mono ?_
  rintro e w5 ⟨rfl, q5, k5⟩
  have Q5 := Lib.hid (show QB w5 w.heap.size [(3, 2), (5, 1)] w.heap.size (fun _ => False) from q5)
  have z5 := k5.size
  have B5 := Lib.hid (B4.out.trans (k5.below (by omega)))
  clear q5 k5
  rw [show popV 4 [(3, 1), (3, 2), (5, 1)] = .tuple #[.agg #[.int .i64 3, .int .i64 1], .bool true] from rfl]
  go_upto_region 8 with fail
  obtain ⟨w6, hw6⟩ : ∃ w6 : World, w6 = w5.alloc (.cells #[.int .i64 3, .int .i64 1] 70) := ⟨_, rfl⟩
  have Q6 := Lib.hid (show QB w6 w.heap.size [(3, 2), (5, 1)] w.heap.size (fun k => False ∨ k = w5.heap.size) from hw6 ▸ Q5.out.box _)
  have b6 : Below w5.heap.size w5 w6 := hw6 ▸ below_alloc _ _
  have x0 : w6.cell? ⟨w5.heap.size, 0, none⟩ = some (.int .i64 3) := by rw [hw6]; simp
  have x1 : w6.cell? ⟨w5.heap.size, 1, none⟩ = some (.int .i64 1) := by rw [hw6]; simp
  have y5 : w5.heap.size < w6.heap.size := by rw [hw6]; simp
  rw [← hw6]
  clear hw6
  have z6 := b6.size
  have B6 := Lib.hid (B5.out.trans (b6.mono (by omega)))
  clear b6
  generalize w5.heap.size = p1 at *
  go_wp2_with fail
  refine (popB Q6.out 4 (by simp)).mono ?_
  rintro e w7 ⟨rfl, q7, k7⟩
  have Q7 := Lib.hid (show QB w7 w.heap.size [(5, 1)] w.heap.size (fun k => False ∨ k = p1) from q7)
  have z7 := k7.size
  have B7 := Lib.hid (B6.out.trans (k7.below (by omega)))
  replace x0 := (k7.cell (o := 0) y5 (.inr rfl)).trans x0
  replace x1 := (k7.cell (o := 1) y5 (.inr rfl)).trans x1
  clear q7 k7
  rw [show popV 4 [(3, 2), (5, 1)] = .tuple #[.agg #[.int .i64 3, .int .i64 2], .bool true] from rfl]
  go_upto_region 9 with fail
  obtain ⟨w8, hw8⟩ : ∃ w8 : World, w8 = w7.alloc (.cells #[.int .i64 3, .int .i64 2] 70) := ⟨_, rfl⟩
  have Q8 := Lib.hid (show QB w8 w.heap.size [(5, 1)] w.heap.size (fun k => (False ∨ k = p1) ∨ k = w7.heap.size) from hw8 ▸ Q7.out.box _)
  have b8 : Below w7.heap.size w7 w8 := hw8 ▸ below_alloc _ _
  have v0 : w8.cell? ⟨w7.heap.size, 0, none⟩ = some (.int .i64 3) := by rw [hw8]; simp
  have v1 : w8.cell? ⟨w7.heap.size, 1, none⟩ = some (.int .i64 2) := by rw [hw8]; simp
  have y7 : w7.heap.size < w8.heap.size := by rw [hw8]; simp
  replace x0 := (b8.cell (p := ⟨p1, 0, none⟩) (by show p1 < _; omega)).trans x0
  replace x1 := (b8.cell (p := ⟨p1, 1, none⟩) (by show p1 < _; omega)).trans x1
  rw [← hw8]
  clear hw8
  have z8 := b8.size
  have B8 := Lib.hid (B7.out.trans (b8.mono (by omega)))
  clear b8
  generalize w7.heap.size = p2 at *
  go_wp2_with fail
  refine (popB Q8.out 4 (by simp)).mono ?_
  rintro e w9 ⟨rfl, q9, k9⟩
  have z9 := k9.size
  have B9 := Lib.hid (B8.out.trans (k9.below (by omega)))
  replace x0 := (k9.cell (o := 0) (by omega) (.inl (.inr rfl))).trans x0
  replace x1 := (k9.cell (o := 1) (by omega) (.inl (.inr rfl))).trans x1
  replace v0 := (k9.cell (o := 0) y7 (.inr rfl)).trans v0
  replace v1 := (k9.cell (o := 1) y7 (.inr rfl)).trans v1
  clear q9 k9 Q8 Q7 Q6 Q5 Q4 Q3 Q2 Q1 B8 B7 B6 B5 B4 B3 B2 B1
  rw [show popV 4 [(5, 1)] = .tuple #[.agg #[.int .i64 0, .int .i64 0], .bool false] from rfl]
  go_upto_region 10 with fail
  obtain ⟨w10, hw10⟩ : ∃ w10 : World, w10 = w9.alloc (.cells #[.int .i64 0, .int .i64 0] 70) := ⟨_, rfl⟩
  have b10 : Below w9.heap.size w9 w10 := hw10 ▸ below_alloc _ _
  replace x0 := (b10.cell (p := ⟨p1, 0, none⟩) (by show p1 < _; omega)).trans x0
  replace x1 := (b10.cell (p := ⟨p1, 1, none⟩) (by show p1 < _; omega)).trans x1
  replace v0 := (b10.cell (p := ⟨p2, 0, none⟩) (by show p2 < _; omega)).trans v0
  replace v1 := (b10.cell (p := ⟨p2, 1, none⟩) (by show p2 < _; omega)).trans v1
  rw [← hw10]
  clear hw10
  have z10 := b10.size
  have B10 := Lib.hid (B9.out.trans (b10.mono (by omega)))
  clear b10 B9
  obtain ⟨w13, hw13⟩ : ∃ w13 : World, w13 = ((w10.alloc (.cells #[.int .i64 1, .int .i64 3] 3)).alloc (.cells #[.int .i64 2, .int .i64 3] 3)).alloc (.cells #[.slice (some ⟨w10.heap.size, 0, none⟩) 2 2, .slice (some ⟨w10.heap.size + 1, 0, none⟩) 2 2] 53) := ⟨_, rfl⟩
  have LS := Lib.hid (show LsAt w13 (some ⟨w10.heap.size + 2, 0, none⟩) 2 [⟨some ⟨w10.heap.size, 0, none⟩, 2, 2, [1, 3]⟩, ⟨some ⟨w10.heap.size + 1, 0, none⟩, 2, 2, [2, 3]⟩] from by
    rw [hw13]
    have i1 := is_new w10 [1, 3] 3
    have i2 := is_new (w10.alloc (.cells #[.int .i64 1, .int .i64 3] 3)) [2, 3] 3
    have i1' := i1.below (below_alloc _ (.cells #[.int .i64 2, .int .i64 3] 3))
    have sa : (w10.alloc (.cells #[.int .i64 1, .int .i64 3] 3)).heap.size = w10.heap.size + 1 := by simp
    rw [sa] at i2
    have := ls_new ((w10.alloc (.cells #[.int .i64 1, .int .i64 3] 3)).alloc (.cells #[.int .i64 2, .int .i64 3] 3)) [⟨some ⟨w10.heap.size, 0, none⟩, 2, 2, [1, 3]⟩, ⟨some ⟨w10.heap.size + 1, 0, none⟩, 2, 2, [2, 3]⟩] 53 (fun s hs => by
      rcases List.mem_cons.1 hs with rfl | hs
      · exact ⟨i1', Nat.le_refl _⟩
      · obtain rfl := List.mem_singleton.1 hs
        exact ⟨i2, Nat.le_refl _⟩)
    have sb : ((w10.alloc (.cells #[.int .i64 1, .int .i64 3] 3)).alloc (.cells #[.int .i64 2, .int .i64 3] 3)).heap.size = w10.heap.size + 2 := by simp
    rw [sb] at this
    exact this)
  have B13 := Lib.hid (show Below w10.heap.size w10 w13 from hw13 ▸ (((Below.refl _ _).alloc (Nat.le_refl _) _).alloc (by simp) _).alloc (by simp; omega) _)
  have M13 := Lib.hid (show Calls Try.prog 46 #[.slice (some ⟨w10.heap.size + 2, 0, none⟩) 2 2] w13 (IntsR w13 [1, 2, 3]) from merge_is w13 _ 2 2 _ LS.out (by omega) (by simp [flatS]))
  go_wp2_with fail
  rw [← hw13]
  refine M13.out.mono ?_
  rintro e w14 ⟨A, c14, rfl, i14, l14, b14⟩
  have I14 := Lib.hid i14
  have B14 := Lib.hid (B13.out.trans (b14.mono B13.out.size))
  have BW := Lib.hid (B10.out.trans (B14.out.mono B10.out.size))
  clear i14 b14 hw13 LS M13 x0 x1 v0 v1
  simp only [List.length_cons, List.length_nil, Nat.reduceAdd] at *
  go_wp2_with fail
  refine (ints_same _ A (some ⟨w14.heap.size, 0, none⟩) 3 c14 3 [1, 2, 3] (I14.out.below (below_alloc w14 _)) (is_new w14 [1, 2, 3] _) (by omega)).mono ?_
  rintro e w15 ⟨rfl, b15⟩
  have B15 := Lib.hid (BW.out.trans (((below_alloc w14 _).trans (b15.mono (below_alloc w14 _).size)).mono BW.out.size))
  clear b15
  go_wp2_with fail
  go_ret
  exact ⟨by simp, B15.out⟩
end Go.Proofs.Ytjodhfehfpmfaaa.Ti
