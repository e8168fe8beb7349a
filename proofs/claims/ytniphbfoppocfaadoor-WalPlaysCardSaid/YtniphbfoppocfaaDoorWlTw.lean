/- The program's log beside the document's, apart, among the law's own memory (for WalPlays). -/
import Derived.Test.YtniphbfoppocfaaDoorWlKM
set_option linter.unusedVariables false
namespace Go.Proofs.YtniphbfoppocfaaDoor.Wl
open Go.RowKit Fr Dk

structure TwoL (W w : World) (p q : Nat) (R Y : Int) (l : List UInt8) (dv v : Value) (S : List SlB) (x z : Nat) (R2 Y2 : Int) (l2 : List UInt8) (du u : Value) (U : List SlB) : Prop where
  a : LgV 67 62 w p q R Y l dv v S
  b : LgV 44 32 w x z R2 Y2 l2 du u U
  ha : ∀ k, Al p q dv v S k → W.heap.size ≤ k
  hb : ∀ k, Al x z du u U k → W.heap.size ≤ k
  ap : ∀ k, Al p q dv v S k → ¬ Al x z du u U k
  at_ : Below W.heap.size W w
section
variable {W w w' : World} {p q x z : Nat} {R Y R2 Y2 R' Y' : Int} {l l2 l' : List UInt8} {dv v du u dv' v' du' u' : Value} {S U S' U' : List SlB}
theorem TwoL.below (h : TwoL W w p q R Y l dv v S x z R2 Y2 l2 du u U) (b : Below w.heap.size w w') : TwoL W w' p q R Y l dv v S x z R2 Y2 l2 du u U :=
  ⟨h.a.below b, h.b.below b, h.ha, h.hb, h.ap, h.at_.trans (b.mono h.at_.size)⟩
/-- the program's log is worked on -/
theorem TwoL.nextA {p' : Nat} (h : TwoL W w p q R Y l dv v S x z R2 Y2 l2 du u U) (g : LgV 67 62 w' p' q R' Y' l' dv' v' S') (k : Kp (Al p q dv v S) w w') (n : ∀ k, Al p' q dv' v' S' k → Al p q dv v S k ∨ w.heap.size ≤ k) : TwoL W w' p' q R' Y' l' dv' v' S' x z R2 Y2 l2 du u U :=
  ⟨g, h.b.kp k fun g hg y => h.ap g y hg, fun i hi => (n i hi).elim (h.ha i) (Nat.le_trans h.at_.size), h.hb, fun i hi y => (n i hi).elim (fun c => h.ap i c y) (fun c => by have := h.b.all i y; omega), h.at_.trans (k.below h.at_.size h.ha)⟩
/-- the document's -/
theorem TwoL.nextB {x' : Nat} (h : TwoL W w p q R Y l dv v S x z R2 Y2 l2 du u U) (g : LgV 44 32 w' x' z R' Y' l' du' u' U') (k : Kp (Al x z du u U) w w') (n : ∀ k, Al x' z du' u' U' k → Al x z du u U k ∨ w.heap.size ≤ k) : TwoL W w' p q R Y l dv v S x' z R' Y' l' du' u' U' :=
  ⟨h.a.kp k fun g hg y => h.ap g hg y, g, h.ha, fun i hi => (n i hi).elim (h.hb i) (Nat.le_trans h.at_.size), fun i hi y => (n i y).elim (fun c => h.ap i hi c) (fun c => by have := h.a.all i hi; omega), h.at_.trans (k.below h.at_.size h.hb)⟩
/-- the program's disk by itself -/
theorem TwoL.diskA (h : TwoL W w p q R Y l dv v S x z R2 Y2 l2 du u U) (d : DkV 62 w' q R' Y' l' dv') (k : Kp (Ft q dv) w w') (n : New w dv dv') : TwoL W w' p q R' Y' l' dv' v S x z R2 Y2 l2 du u U := by
  refine h.nextA (h.a.disk d k n) (k.mono fun g _ hg => .inr (.inr hg)) fun g hg => ?_
  rcases hg with hg | hg | hg
  · exact .inl (.inl hg)
  · exact .inl (.inr (.inl hg))
  · exact (ft_of_new n g hg).elim (fun y => .inl (.inr (.inr y))) .inr
/-- the document's disk by itself -/
theorem TwoL.diskB (h : TwoL W w p q R Y l dv v S x z R2 Y2 l2 du u U) (d : DkV 32 w' z R' Y' l' du') (k : Kp (Ft z du) w w') (n : New w du du') : TwoL W w' p q R Y l dv v S x z R' Y' l' du' u U := by
  refine h.nextB (h.b.disk d k n) (k.mono fun g _ hg => .inr (.inr hg)) fun g hg => ?_
  rcases hg with hg | hg | hg
  · exact .inl (.inl hg)
  · exact .inl (.inr (.inl hg))
  · exact (ft_of_new n g hg).elim (fun y => .inl (.inr (.inr y))) .inr
/-- opened anew: the program's -/
theorem TwoL.openA {e : Ending} (h : TwoL W w p q R Y l dv v S x z R2 Y2 l2 du u U) (o : OpenR 67 62 w q R Y l dv e w') :
    ∃ p' v' S' dv', e = .returned (.tuple #[.pointer (some ⟨p', 0, none⟩), .int .i64 (l.length - openN l : Int)]) ∧ TwoL W w' p' q R (min Y (openN l : Int)) (l.take (openN l)) dv' v' S' x z R2 Y2 l2 du u U ∧ bytesS S' = (scanL l).1 := by
  obtain ⟨p', v', S', dv', he, g, hs, k, n⟩ := o
  exact ⟨p', v', S', dv', he, h.nextA g (k.mono fun i _ hi => .inr (.inr hi)) fun i hi => (n i hi).elim (fun y => .inl (.inr (.inr y))) .inr, hs⟩
/-- .. the document's -/
theorem TwoL.openB {e : Ending} (h : TwoL W w p q R Y l dv v S x z R2 Y2 l2 du u U) (o : OpenR 44 32 w z R2 Y2 l2 du e w') :
    ∃ x' u' U' du', e = .returned (.tuple #[.pointer (some ⟨x', 0, none⟩), .int .i64 (l2.length - openN l2 : Int)]) ∧ TwoL W w' p q R Y l dv v S x' z R2 (min Y2 (openN l2 : Int)) (l2.take (openN l2)) du' u' U' ∧ bytesS U' = (scanL l2).1 := by
  obtain ⟨x', u', U', du', he, g, hs, k, n⟩ := o
  exact ⟨x', u', U', du', he, h.nextB g (k.mono fun i _ hi => .inr (.inr hi)) fun i hi => (n i hi).elim (fun y => .inl (.inr (.inr y))) .inr, hs⟩
theorem TwoL.farA (h : TwoL W w p q R Y l dv v S x z R2 Y2 l2 du u U) {g : Nat} (hg : g < W.heap.size) : ¬ Al p q dv v S g := fun y => by have := h.ha g y; omega
theorem TwoL.farB (h : TwoL W w p q R Y l dv v S x z R2 Y2 l2 du u U) {g : Nat} (hg : g < W.heap.size) : ¬ Al x z du u U g := fun y => by have := h.hb g y; omega
end
end Go.Proofs.YtniphbfoppocfaaDoor.Wl
