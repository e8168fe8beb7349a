/- The queue and the reference's queue side by side. -/
import Derived.Test.YtjodhfehfpmfaaaTiSa
set_option linter.unusedVariables false
namespace Go.Proofs.Ytjodhfehfpmfaaa.Ti
open Go.RowKit Iv

/-- the queue at q holds L1, the reference's at r holds L2, apart from each other -/
def TwoQ (w : World) (q r : Nat) (L1 L2 : List It) (B : Nat) : Prop := ∃ G : Nat → Prop, RQ G w r L2 ∧ QB w q L1 B G ∧ B ≤ r
theorem RQ.box {G : Nat → Prop} {w : World} {r : Nat} {L : List It} (h : RQ G w r L) : G r ∧ r < w.heap.size := by
  obtain ⟨A, c, H⟩ := h
  exact ⟨H.foot, H.box.lt⟩
section
variable {w w' : World} {q r : Nat} {L L1 L2 : List It} {B : Nat}
theorem TwoQ.lt (h : TwoQ w q r L1 L2 B) : r < w.heap.size := by
  obtain ⟨G, R, Q, b⟩ := h
  exact R.box.2
theorem TwoQ.below (h : TwoQ w q r L1 L2 B) (hb : Below w.heap.size w w') : TwoQ w' q r L1 L2 B := by
  obtain ⟨G, R, Q, b⟩ := h
  exact ⟨G, R.below hb, Q.below hb, b⟩
theorem QB.turn2 {X : Nat → Prop} (h : QB w q L B X) (hr : X r) (k : Kp (· = r) w w') (Y : Nat → Prop) (hY : ∀ j, Y j → j < w'.heap.size ∧ (X j ∨ w.heap.size ≤ j)) : QB w' q L B Y := by
  obtain ⟨F, H, a, b, z⟩ := h
  have sz := k.size
  refine ⟨F, H.on k fun j h1 h2 e => (a j h1).2.2 (e ▸ hr), fun j hj => ⟨(a j hj).1, by have := (a j hj).2.1; omega, fun y => (hY j y).2.elim (a j hj).2.2 fun e => by have := (a j hj).2.1; omega⟩, fun j hj => (hY j hj).1, by omega⟩
/-- the queue's turn -/
theorem TwoQ.left {G : Nat → Prop} (R : RQ G w r L2) (b : B ≤ r) (Q' : QB w' q L1 B G) (K : KX B G w w') (hB : B ≤ w.heap.size) : TwoQ w' q r L1 L2 B ∧ Below B w w' :=
  ⟨⟨G, R.on K fun j h1 _ h2 => h2.2 h1, Q', b⟩, K.below hB⟩
theorem QB.base {X : Nat → Prop} (h : QB w q L B X) : B ≤ w.heap.size := by
  obtain ⟨F, H, a, b, z⟩ := h
  exact z
/-- the reference's turn -/
theorem TwoQ.right {G : Nat → Prop} (R : RQ G w r L) (Q : QB w q L1 B G) (b : B ≤ r) (R' : RQ (fun k => G k ∨ w.heap.size ≤ k) w' r L2) (K : Kp (· = r) w w') : TwoQ w' q r L1 L2 B ∧ Below B w w' := by
  have hx : ∀ k, G k → k < w.heap.size := by
    obtain ⟨F, H, a, b, z⟩ := Q
    exact b
  have sz := K.size
  refine ⟨⟨fun k => (G k ∨ w.heap.size ≤ k) ∧ k < w'.heap.size, R'.mono fun k h1 h2 => ⟨h1, h2⟩, Q.turn2 R.box.1 K _ fun j hj => ⟨hj.2, hj.1⟩, b⟩, Kp.below K Q.base fun k e => e ▸ b⟩
theorem pushT (h : TwoQ w q r L1 L2 B) (x y : Int) (hl : L1.length ≤ 700000) : Calls Try.prog 37 #[.pointer (some ⟨q, 0, none⟩), .int .i64 x, .int .i64 y] w fun e w' => e = .returned (.tuple #[]) ∧ TwoQ w' q r (insL (x, y) L1) L2 B ∧ Below B w w' := by
  obtain ⟨G, R, Q, b⟩ := h
  refine (pushB Q x y hl).mono ?_
  rintro e w' ⟨he, Q', K⟩
  exact ⟨he, TwoQ.left R b Q' K Q.base⟩
theorem popT (h : TwoQ w q r L1 L2 B) (now : Int) (hl : L1.length ≤ 700000) : Calls Try.prog 39 #[.pointer (some ⟨q, 0, none⟩), .int .i64 now] w fun e w' => e = .returned (popV now L1) ∧ TwoQ w' q r (popL now L1) L2 B ∧ Below B w w' := by
  obtain ⟨G, R, Q, b⟩ := h
  refine (popB Q now hl).mono ?_
  rintro e w' ⟨he, Q', K⟩
  exact ⟨he, TwoQ.left R b Q' K Q.base⟩
theorem dropT (h : TwoQ w q r L1 L2 B) (id : Int) (hl : L1.length ≤ 700000) : Calls Try.prog 41 #[.pointer (some ⟨q, 0, none⟩), .int .i64 id] w fun e w' => e = .returned (.int .i64 ((L1.length - (dropL id L1).length : Nat) : Int)) ∧ TwoQ w' q r (dropL id L1) L2 B ∧ Below B w w' := by
  obtain ⟨G, R, Q, b⟩ := h
  refine (dropB Q id hl).mono ?_
  rintro e w' ⟨he, Q', K⟩
  exact ⟨he, TwoQ.left R b Q' K Q.base⟩
theorem rpushT (h : TwoQ w q r L1 L2 B) (x y : Int) (hl : L2.length ≤ 700000) : Calls Try.prog 38 #[.pointer (some ⟨r, 0, none⟩), .int .i64 x, .int .i64 y] w fun e w' => e = .returned (.tuple #[]) ∧ TwoQ w' q r L1 (insL (x, y) L2) B ∧ Below B w w' ∧ Kp (· = r) w w' := by
  obtain ⟨G, R, Q, b⟩ := h
  refine (rpush_is (G := fun k => G k ∨ w.heap.size ≤ k) w r L2 x y (R.mono fun k h _ => .inl h) (fun k h => .inr h) hl).mono ?_
  rintro e w' ⟨he, R', K⟩
  have := TwoQ.right R Q b R' K
  exact ⟨he, this.1, this.2, K⟩
theorem rpopT (h : TwoQ w q r L1 L2 B) (now : Int) (hl : L2.length ≤ 700000) : Calls Try.prog 40 #[.pointer (some ⟨r, 0, none⟩), .int .i64 now] w fun e w' => e = .returned (popV now L2) ∧ TwoQ w' q r L1 (popL now L2) B ∧ Below B w w' ∧ Kp (· = r) w w' := by
  obtain ⟨G, R, Q, b⟩ := h
  refine (rpop_is (G := fun k => G k ∨ w.heap.size ≤ k) w r L2 now (R.mono fun k h _ => .inl h) (fun k h => .inr h) hl).mono ?_
  rintro e w' ⟨he, R', K⟩
  have := TwoQ.right R Q b R' K
  exact ⟨he, this.1, this.2, K⟩
theorem rdropT (h : TwoQ w q r L1 L2 B) (id : Int) (hl : L2.length ≤ 700000) : Calls Try.prog 42 #[.pointer (some ⟨r, 0, none⟩), .int .i64 id] w fun e w' => e = .returned (.int .i64 ((L2.length - (dropL id L2).length : Nat) : Int)) ∧ TwoQ w' q r L1 (dropL id L2) B ∧ Below B w w' ∧ Kp (· = r) w w' := by
  obtain ⟨G, R, Q, b⟩ := h
  refine (rdrop_is (G := fun k => G k ∨ w.heap.size ≤ k) w r L2 id (R.mono fun k h _ => .inl h) (fun k h => .inr h) hl).mono ?_
  rintro e w' ⟨he, R', K⟩
  have := TwoQ.right R Q b R' K
  exact ⟨he, this.1, this.2, K⟩
theorem sameT (h : TwoQ w q r L L B) (hl : L.length ≤ 700000) : Calls Try.prog 44 #[.pointer (some ⟨q, 0, none⟩), .pointer (some ⟨r, 0, none⟩)] w fun e w' => e = .returned (.bool true) ∧ TwoQ w' q r L L B ∧ Below B w w' := by
  have h0 := h
  obtain ⟨G, R, Q, b⟩ := h
  refine (same_is w q r L Q R hl).mono ?_
  rintro e w' ⟨he, hb⟩
  exact ⟨he, h0.below hb, hb.mono Q.base⟩
/-- likewise, a copy of the queue at p beside them -/
def TwoC (w : World) (q p r : Nat) (L1 L : List It) (B : Nat) : Prop :=
  ∃ G C : Nat → Prop, RQ G w r L ∧ QIn C w p L ∧ QB w q L1 B (fun k => G k ∨ C k) ∧ (∀ k, C k → B ≤ k ∧ k < w.heap.size ∧ ¬ G k) ∧ B ≤ r
theorem copyT (h : TwoQ w q r L L B) (hl : L.length ≤ 700000) : Calls Try.prog 43 #[.pointer (some ⟨q, 0, none⟩)] w fun e w' => ∃ p, e = .returned (.pointer (some ⟨p, 0, none⟩)) ∧ TwoC w' q p r L L B ∧ Below B w w' := by
  obtain ⟨G, R, Q, b⟩ := h
  have hx : ∀ k, G k → k < w.heap.size := by
    obtain ⟨F, H, a, b, z⟩ := Q
    exact b
  have z := Q.base
  refine (copyB Q hl).mono ?_
  rintro e w' ⟨p, he, H, hb⟩
  have sz := hb.size
  refine ⟨p, he, ⟨G, fun k => w.heap.size ≤ k ∧ k < w'.heap.size, R.below hb, H.mono fun k h1 h2 => ⟨h1, h2⟩, Q.more hb _ fun k hk => ?_, fun k hk => ⟨by omega, hk.2, fun g => by have := hx k g; omega⟩, b⟩, hb.mono z⟩
  rcases hk with g | ⟨g1, g2⟩
  · exact ⟨by have := hx k g; omega, .inl g⟩
  · exact ⟨g2, .inr g1⟩
theorem TwoC.turn {p : Nat} {G C : Nat → Prop} (R : RQ G w r L) (P : QIn C w p L) (d : ∀ k, C k → B ≤ k ∧ k < w.heap.size ∧ ¬ G k) (b : B ≤ r) (Q' : QB w' q L1 B (fun k => G k ∨ C k)) (K : KX B (fun k => G k ∨ C k) w w') (hB : B ≤ w.heap.size) : TwoC w' q p r L1 L B ∧ Below B w w' := by
  have sz := K.size
  exact ⟨⟨G, C, R.on K fun j h1 _ h2 => h2.2 (.inl h1), P.on K fun j h1 _ h2 => h2.2 (.inr h1), Q', fun k hk => ⟨(d k hk).1, by have := (d k hk).2.1; omega, (d k hk).2.2⟩, b⟩, K.below hB⟩
theorem pushC {p : Nat} (h : TwoC w q p r L1 L B) (x y : Int) (hl : L1.length ≤ 700000) : Calls Try.prog 37 #[.pointer (some ⟨q, 0, none⟩), .int .i64 x, .int .i64 y] w fun e w' => e = .returned (.tuple #[]) ∧ TwoC w' q p r (insL (x, y) L1) L B ∧ Below B w w' := by
  obtain ⟨G, C, R, P, Q, d, b⟩ := h
  refine (pushB Q x y hl).mono ?_
  rintro e w' ⟨he, Q', K⟩
  exact ⟨he, TwoC.turn R P d b Q' K Q.base⟩
theorem dropC {p : Nat} (h : TwoC w q p r L1 L B) (id : Int) (hl : L1.length ≤ 700000) : Calls Try.prog 41 #[.pointer (some ⟨q, 0, none⟩), .int .i64 id] w fun e w' => e = .returned (.int .i64 ((L1.length - (dropL id L1).length : Nat) : Int)) ∧ TwoC w' q p r (dropL id L1) L B ∧ Below B w w' := by
  obtain ⟨G, C, R, P, Q, d, b⟩ := h
  refine (dropB Q id hl).mono ?_
  rintro e w' ⟨he, Q', K⟩
  exact ⟨he, TwoC.turn R P d b Q' K Q.base⟩
theorem TwoC.over {p : Nat} (h : TwoC w q p r L1 L B) : TwoQ w p r L L B := by
  obtain ⟨G, C, R, P, Q, d, b⟩ := h
  obtain ⟨F, H, a, x, z⟩ := Q
  exact ⟨G, R, ⟨C, P, d, fun k hk => x k (.inl hk), z⟩, b⟩
end
theorem pop_form (now : Int) (L : List It) : ∃ (xa xb : Int) (b : Bool), popV now L = .tuple #[.agg #[.int .i64 xa, .int .i64 xb], .bool b] := by
  unfold popV
  split
  · exact head_form L
  · exact head_form []
theorem popL_len (now : Int) (L : List It) : (popL now L).length ≤ L.length := by
  unfold popL
  split
  · rw [List.length_tail]; omega
  · exact Nat.le_refl _
theorem dropL_len (id : Int) (L : List It) : (dropL id L).length ≤ L.length := List.length_filter_le _ _
/-- an empty queue of the reference, new -/
theorem TwoQ.new {w : World} {q B : Nat} (h : QB w q [] B (fun _ => False)) : TwoQ (w.alloc (.cells #[.slice none 0 0] 65)) q w.heap.size [] [] B := by
  refine ⟨(· = w.heap.size), ⟨none, 0, ?_, rfl, ⟨rfl, Nat.le_refl _, .inl ⟨rfl, rfl⟩⟩⟩, h.more (below_alloc _ _) _ fun k hk => ⟨by simp; omega, .inr (by omega)⟩, h.base⟩
  exact new_row w 65 1 1 1 #[.slice none 0 0] #[] rfl (by unfold maxLen; decide)
end Go.Proofs.Ytjodhfehfpmfaaa.Ti
