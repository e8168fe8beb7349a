/- The set and the reference's, side by side. -/
import Derived.Test.YtjodhfehfpmfaaaIvRA
import Derived.Test.YtjodhfehfpmfaaaIvRT
import Derived.Test.YtjodhfehfpmfaaaIvRR
import Derived.Test.YtjodhfehfpmfaaaIvPlay
set_option linter.unusedVariables false
namespace Go.Proofs.Ytjodhfehfpmfaaa.Iv
open Go.RowKit

/-- the set at p, the reference's at r, their blocks apart, all at or above B; the box at bx holds the cells cs -/
def Two (w : World) (p r : Nat) (all : List Tg) (ow : List Int) (all2 : List Tg) (B bx : Nat) (cs : List Value) : Prop :=
  ∃ F G : Nat → Prop, SetIn F w p all ow ∧ RefIn G w r all2 ∧ (∀ k, F k → ¬ G k ∧ B ≤ k ∧ k < w.heap.size) ∧ (∀ k, G k → B ≤ k ∧ k < w.heap.size) ∧ B ≤ w.heap.size ∧ (cs = [] ∨ bx < w.heap.size ∧ ¬ F bx ∧ ¬ G bx) ∧ ∀ j v, cs[j]? = some v → w.cell? ⟨bx, j, none⟩ = some v
section
variable {w : World} {p r : Nat} {all : List Tg} {ow : List Int} {all2 : List Tg} {B bx : Nat} {cs : List Value}
theorem Two.ok (h : Two w p r all ow all2 B bx cs) : SetOk all ow := by
  obtain ⟨F, G, S, -⟩ := h
  exact S.ok
theorem Two.set (h : Two w p r all ow all2 B bx cs) : ∃ F, SetIn F w p all ow := by
  obtain ⟨F, G, S, -⟩ := h
  exact ⟨F, S⟩
theorem Two.ref (h : Two w p r all ow all2 B bx cs) : ∃ G, RefIn G w r all2 := by
  obtain ⟨F, G, S, R, -⟩ := h
  exact ⟨G, R⟩
theorem Two.cell (h : Two w p r all ow all2 B bx cs) {j : Nat} {v : Value} (hj : cs[j]? = some v) : w.cell? ⟨bx, j, none⟩ = some v := by
  obtain ⟨F, G, -, -, -, -, -, -, c⟩ := h
  exact c j v hj
theorem Two.below {w' : World} (h : Two w p r all ow all2 B bx cs) (hb : Below w.heap.size w w') : Two w' p r all ow all2 B bx cs := by
  obtain ⟨F, G, S, R, a, b, z, x, c⟩ := h
  have sz := hb.size
  refine ⟨F, G, S.below hb, R.below hb, fun k hk => ⟨(a k hk).1, (a k hk).2.1, by have := (a k hk).2.2; omega⟩, fun k hk => ⟨(b k hk).1, by have := (b k hk).2; omega⟩, by omega, x.imp id fun q => ⟨by omega, q.2⟩, fun j v hj => ?_⟩
  rcases x with e | x
  · rw [e] at hj; simp at hj
  · exact (hb.cell (p := ⟨bx, j, none⟩) x.1).trans (c j v hj)
theorem Two.fresh {w' : World} (h : Two w p r all ow all2 B bx cs) (hb : Below w.heap.size w w') (hl : w.heap.size < w'.heap.size) {cs' : List Value} (hc : ∀ j v, cs'[j]? = some v → w'.cell? ⟨w.heap.size, j, none⟩ = some v) : Two w' p r all ow all2 B w.heap.size cs' := by
  obtain ⟨F, G, S, R, a, b, z, x, c⟩ := h.below hb
  obtain ⟨F0, G0, S0, R0, a0, b0, -⟩ := h
  have sz := hb.size
  exact ⟨F0, G0, S0.below hb, R0.below hb, fun k hk => ⟨(a0 k hk).1, (a0 k hk).2.1, by have := (a0 k hk).2.2; omega⟩, fun k hk => ⟨(b0 k hk).1, by have := (b0 k hk).2; omega⟩, z, .inr ⟨hl, fun q => by have := (a0 _ q).2.2; omega, fun q => by have := (b0 _ q).2; omega⟩, hc⟩
theorem Two.nobox (h : Two w p r all ow all2 B bx cs) : Two w p r all ow all2 B 0 [] := by
  obtain ⟨F, G, S, R, a, b, z, x, c⟩ := h
  exact ⟨F, G, S, R, a, b, z, .inl rfl, fun j v hj => by simp at hj⟩
/-- a call that turns the set alone -/
theorem Two.turnS {w' : World} {all' : List Tg} {ow' : List Int} {F G : Nat → Prop} (R : RefIn G w r all2) (a : ∀ k, F k → ¬ G k ∧ B ≤ k ∧ k < w.heap.size) (b : ∀ k, G k → B ≤ k ∧ k < w.heap.size) (z : B ≤ w.heap.size) (x : cs = [] ∨ bx < w.heap.size ∧ ¬ F bx ∧ ¬ G bx) (c : ∀ j v, cs[j]? = some v → w.cell? ⟨bx, j, none⟩ = some v)
    (S' : SetIn (fun k => F k ∨ w.heap.size ≤ k) w' p all' ow') (K : Kp (fun k => F k ∨ w.heap.size ≤ k) w w') : Two w' p r all' ow' all2 B bx cs ∧ Below B w w' := by
  have sz := K.size
  refine ⟨⟨fun k => (F k ∨ w.heap.size ≤ k) ∧ k < w'.heap.size, G, S'.mono fun k h1 h2 => ⟨h1, h2⟩, R.on K fun k g _ h => ?_, fun k hk => ⟨fun g => ?_, ?_, hk.2⟩, fun k hk => ⟨(b k hk).1, by have := (b k hk).2; omega⟩, by omega, x.imp id fun q => ⟨by omega, fun h => ?_, q.2.2⟩, fun j v hj => ?_⟩, K.below z fun k h => ?_⟩
  · rcases h with h | h
    · exact (a k h).1 g
    · have := (b k g).2; omega
  · rcases hk.1 with h | h
    · exact (a k h).1 g
    · have := (b k g).2; omega
  · rcases hk.1 with h | h
    · exact (a k h).2.1
    · omega
  · rcases h.1 with h | h
    · exact q.2.1 h
    · omega
  · rcases x with e | x
    · rw [e] at hj; simp at hj
    · exact (K.cell (b := bx) (o := j) x.1 fun h => by rcases h with h | h; exact x.2.1 h; omega).trans (c j v hj)
  · rcases h with h | h
    · exact (a k h).2.1
    · omega
/-- a call that turns the reference's alone -/
theorem Two.turnR {w' : World} {all3 : List Tg} {F G : Nat → Prop} (S : SetIn F w p all ow) (a : ∀ k, F k → ¬ G k ∧ B ≤ k ∧ k < w.heap.size) (b : ∀ k, G k → B ≤ k ∧ k < w.heap.size) (z : B ≤ w.heap.size) (x : cs = [] ∨ bx < w.heap.size ∧ ¬ F bx ∧ ¬ G bx) (c : ∀ j v, cs[j]? = some v → w.cell? ⟨bx, j, none⟩ = some v)
    (R' : RefIn (fun k => G k ∨ w.heap.size ≤ k) w' r all3) (K : Kp (fun k => G k ∨ w.heap.size ≤ k) w w') : Two w' p r all ow all3 B bx cs ∧ Below B w w' := by
  have sz := K.size
  refine ⟨⟨F, fun k => (G k ∨ w.heap.size ≤ k) ∧ k < w'.heap.size, S.on K fun k g _ h => ?_, R'.mono fun k h1 h2 => ⟨h1, h2⟩, fun k hk => ⟨fun g => ?_, (a k hk).2.1, by have := (a k hk).2.2; omega⟩, fun k hk => ⟨?_, hk.2⟩, by omega, x.imp id fun q => ⟨by omega, q.2.1, fun h => ?_⟩, fun j v hj => ?_⟩, K.below z fun k h => ?_⟩
  · rcases h with h | h
    · exact (a k g).1 h
    · have := (a k g).2.2; omega
  · rcases g.1 with h | h
    · exact (a k hk).1 h
    · have := (a k hk).2.2; omega
  · rcases hk.1 with h | h
    · exact (b k h).1
    · omega
  · rcases h.1 with h | h
    · exact q.2.2 h
    · omega
  · rcases x with e | x
    · rw [e] at hj; simp at hj
    · exact (K.cell (b := bx) (o := j) x.1 fun h => by rcases h with h | h; exact x.2.2 h; omega).trans (c j v hj)
  · rcases h with h | h
    · exact (b k h).1
    · omega
theorem two_add (h : Two w p r all ow all2 B bx cs) {A : Option Addr} {n c : Nat} {l : List (Int × Int)} (owner : Int) (hB : SpAt w A n l) (hz : A = none → n = 0) (ha : all.length + n ≤ 90000) (ho : ow.length ≤ 90000) :
    Calls Try.prog 18 #[.pointer (some ⟨p, 0, none⟩), .slice A n c, .int .i64 owner] w fun e w' => e = .returned (.bool (addB (normL l) owner all ow)) ∧ Two w' p r (addR (normL l) owner all ow).1 (addR (normL l) owner all ow).2 all2 B bx cs ∧ Below B w w' := by
  obtain ⟨F, G, S, R, a, b, z, x, cc⟩ := h
  refine (add_is (F := fun k => F k ∨ w.heap.size ≤ k) w p all ow A n c l owner (S.mono fun k h _ => .inl h) (fun k h => .inr h) hB hz (by omega) (by omega)).mono ?_
  rintro e w' ⟨he, S', K⟩
  exact ⟨he, Two.turnS R a b z x cc S' K⟩
theorem two_rem (h : Two w p r all ow all2 B bx cs) (owner : Int) (ha : all.length ≤ 90000) (ho : ow.length ≤ 90000) :
    Calls Try.prog 20 #[.pointer (some ⟨p, 0, none⟩), .int .i64 owner] w fun e w' => e = .returned (.int .i64 (hadL owner all : Nat)) ∧ Two w' p r (remL owner all) (remO owner ow) all2 B bx cs ∧ Below B w w' := by
  obtain ⟨F, G, S, R, a, b, z, x, cc⟩ := h
  refine (rem_is (F := fun k => F k ∨ w.heap.size ≤ k) w p all ow owner (S.mono fun k h _ => .inl h) (fun k h => .inr h) (by omega) (by omega)).mono ?_
  rintro e w' ⟨he, S', K⟩
  exact ⟨he, Two.turnS R a b z x cc S' K⟩
theorem foot_in {G : Nat → Prop} (R : RefIn G w r all2) : G r := by
  obtain ⟨A, c, h⟩ := R
  exact h.foot
theorem two_radd (h : Two w p r all ow all2 B bx cs) {ow2 : List Int} (ok : SetOk all2 ow2) {A : Option Addr} {n c : Nat} {l : List (Int × Int)} (owner : Int) (hB : SpAt w A n l) (ha : all2.length + n ≤ 90000) :
    Calls Try.prog 19 #[.pointer (some ⟨r, 0, none⟩), .slice A n c, .int .i64 owner] w fun e w' => e = .returned (.bool (addB (normL l) owner all2 ow2)) ∧ Two w' p r all ow (addR (normL l) owner all2 ow2).1 B bx cs ∧ Below B w w' := by
  obtain ⟨F, G, S, R, a, b, z, x, cc⟩ := h
  have ft := foot_in R
  refine (radd_is (G := fun k => G k ∨ w.heap.size ≤ k) w r all2 ow2 A n c l owner (R.mono fun k h _ => .inl h) ok (fun k h => .inr h) hB ha).mono ?_
  rintro e w' ⟨he, R', K⟩
  exact ⟨he, Two.turnR S a b z x cc R' (K.mono fun k hk => .inl (hk ▸ ft))⟩
theorem two_rrem (h : Two w p r all ow all2 B bx cs) (owner : Int) (ha : all2.length ≤ 90000) :
    Calls Try.prog 21 #[.pointer (some ⟨r, 0, none⟩), .int .i64 owner] w fun e w' => e = .returned (.int .i64 (hadL owner all2 : Nat)) ∧ Two w' p r all ow (remL owner all2) B bx cs ∧ Below B w w' := by
  obtain ⟨F, G, S, R, a, b, z, x, cc⟩ := h
  have ft := foot_in R
  refine (rrem_is (G := fun k => G k ∨ w.heap.size ≤ k) w r all2 owner (R.mono fun k h _ => .inl h) (fun k h => .inr h) (by omega)).mono ?_
  rintro e w' ⟨he, R', K⟩
  exact ⟨he, Two.turnR S a b z x cc R' (K.mono fun k hk => .inl (hk ▸ ft))⟩
end
/-- an elder set at q beside both -/
def Three (w : World) (q : Nat) (a0 : List Tg) (o0 : List Int) (p r : Nat) (all : List Tg) (ow : List Int) (all2 : List Tg) (B : Nat) : Prop :=
  ∃ H F G : Nat → Prop, SetIn H w q a0 o0 ∧ SetIn F w p all ow ∧ RefIn G w r all2 ∧ (∀ k, H k → ¬ F k ∧ ¬ G k ∧ B ≤ k ∧ k < w.heap.size) ∧ (∀ k, F k → ¬ G k ∧ B ≤ k ∧ k < w.heap.size) ∧ (∀ k, G k → B ≤ k ∧ k < w.heap.size) ∧ B ≤ w.heap.size
section
variable {w : World} {q p r : Nat} {a0 all : List Tg} {o0 ow : List Int} {all2 : List Tg} {B bx : Nat} {cs : List Value}
theorem Three.two (h : Three w q a0 o0 p r all ow all2 B) : Two w p r all ow all2 B 0 [] := by
  obtain ⟨H, F, G, O, S, R, d, a, b, z⟩ := h
  exact ⟨F, G, S, R, a, b, z, .inl rfl, fun j v hj => by simp at hj⟩
theorem Three.below {w' : World} (h : Three w q a0 o0 p r all ow all2 B) (hb : Below w.heap.size w w') : Three w' q a0 o0 p r all ow all2 B := by
  obtain ⟨H, F, G, O, S, R, d, a, b, z⟩ := h
  have sz := hb.size
  exact ⟨H, F, G, O.below hb, S.below hb, R.below hb, fun k hk => ⟨(d k hk).1, (d k hk).2.1, (d k hk).2.2.1, by have := (d k hk).2.2.2; omega⟩, fun k hk => ⟨(a k hk).1, (a k hk).2.1, by have := (a k hk).2.2; omega⟩, fun k hk => ⟨(b k hk).1, by have := (b k hk).2; omega⟩, by omega⟩
theorem Two.three {w' : World} (h : Two w q r a0 o0 all2 B bx cs) (hb : Below w.heap.size w w') (S : SetIn (fun k => w.heap.size ≤ k) w' p all ow) : Three w' q a0 o0 p r all ow all2 B := by
  obtain ⟨F, G, O, R, a, b, z, -⟩ := h
  have sz := hb.size
  exact ⟨F, fun k => w.heap.size ≤ k ∧ k < w'.heap.size, G, O.below hb, S.mono fun k h1 h2 => ⟨h1, h2⟩, R.below hb, fun k hk => ⟨fun g => by have := (a k hk).2.2; omega, (a k hk).1, (a k hk).2.1, by have := (a k hk).2.2; omega⟩, fun k hk => ⟨fun g => by have := (b k g).2; omega, by omega, hk.2⟩, fun k hk => ⟨(b k hk).1, by have := (b k hk).2; omega⟩, by omega⟩
theorem Three.turn {w' : World} {a1 : List Tg} {o1 : List Int} {H F G : Nat → Prop} (S : SetIn F w p all ow) (R : RefIn G w r all2) (d : ∀ k, H k → ¬ F k ∧ ¬ G k ∧ B ≤ k ∧ k < w.heap.size) (a : ∀ k, F k → ¬ G k ∧ B ≤ k ∧ k < w.heap.size) (b : ∀ k, G k → B ≤ k ∧ k < w.heap.size) (z : B ≤ w.heap.size)
    (O' : SetIn (fun k => H k ∨ w.heap.size ≤ k) w' q a1 o1) (K : Kp (fun k => H k ∨ w.heap.size ≤ k) w w') : Three w' q a1 o1 p r all ow all2 B ∧ Below B w w' := by
  have sz := K.size
  refine ⟨⟨fun k => (H k ∨ w.heap.size ≤ k) ∧ k < w'.heap.size, F, G, O'.mono fun k h1 h2 => ⟨h1, h2⟩, S.on K fun k g _ h => ?_, R.on K fun k g _ h => ?_, fun k hk => ⟨fun g => ?_, fun g => ?_, ?_, hk.2⟩, fun k hk => ⟨(a k hk).1, (a k hk).2.1, by have := (a k hk).2.2; omega⟩, fun k hk => ⟨(b k hk).1, by have := (b k hk).2; omega⟩, by omega⟩, K.below z fun k h => ?_⟩
  · rcases h with h | h
    · exact (d k h).1 g
    · have := (a k g).2.2; omega
  · rcases h with h | h
    · exact (d k h).2.1 g
    · have := (b k g).2; omega
  · rcases hk.1 with h | h
    · exact (d k h).1 g
    · have := (a k g).2.2; omega
  · rcases hk.1 with h | h
    · exact (d k h).2.1 g
    · have := (b k g).2; omega
  · rcases hk.1 with h | h
    · exact (d k h).2.2.1
    · omega
  · rcases h with h | h
    · exact (d k h).2.2.1
    · omega
theorem three_add (h : Three w q a0 o0 p r all ow all2 B) {A : Option Addr} {n c : Nat} {l : List (Int × Int)} (owner : Int) (hB : SpAt w A n l) (hz : A = none → n = 0) (ha : a0.length + n ≤ 90000) (ho : o0.length ≤ 90000) :
    Calls Try.prog 18 #[.pointer (some ⟨q, 0, none⟩), .slice A n c, .int .i64 owner] w fun e w' => ∃ b a1 o1, e = .returned (.bool b) ∧ Three w' q a1 o1 p r all ow all2 B ∧ Below B w w' ∧ a1.length ≤ a0.length + n ∧ o1.length ≤ o0.length + 1 := by
  obtain ⟨H, F, G, O, S, R, d, a, b, z⟩ := h
  refine (add_is (F := fun k => H k ∨ w.heap.size ≤ k) w q a0 o0 A n c l owner (O.mono fun k h _ => .inl h) (fun k h => .inr h) hB hz (by omega) (by omega)).mono ?_
  rintro e w' ⟨he, O', K⟩
  have ln := addR_len (normL l) owner a0 o0
  have nl := norm_len l
  have e0 := hB.1
  obtain ⟨t1, t2⟩ := Three.turn S R d a b z O' K
  exact ⟨_, _, _, he, t1, t2, by omega, ln.2⟩
theorem three_rem (h : Three w q a0 o0 p r all ow all2 B) (owner : Int) (ha : a0.length ≤ 90000) (ho : o0.length ≤ 90000) :
    Calls Try.prog 20 #[.pointer (some ⟨q, 0, none⟩), .int .i64 owner] w fun e w' => (∃ v, e = .returned (.int .i64 v)) ∧ Two w' p r all ow all2 B 0 [] ∧ Below B w w' := by
  obtain ⟨H, F, G, O, S, R, d, a, b, z⟩ := h
  refine (rem_is (F := fun k => H k ∨ w.heap.size ≤ k) w q a0 o0 owner (O.mono fun k h _ => .inl h) (fun k h => .inr h) (by omega) (by omega)).mono ?_
  rintro e w' ⟨he, O', K⟩
  obtain ⟨t1, t2⟩ := Three.turn S R d a b z O' K
  exact ⟨⟨_, he⟩, t1.two, t2⟩
end
end Go.Proofs.Ytjodhfehfpmfaaa.Iv
