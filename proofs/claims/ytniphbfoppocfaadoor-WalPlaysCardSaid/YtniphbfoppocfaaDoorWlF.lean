/- A log among a law's own memory; the walk of voklaw15.first. -/
import Derived.Test.YtniphbfoppocfaaDoorWlPr
set_option linter.unusedVariables false
namespace Go.Proofs.YtniphbfoppocfaaDoor.Wl
open Go.RowKit Fr Dk

/-- of what W held nothing has turned; the law's own log at p over the disk at q -/
structure Lsk (W w : World) (p q : Nat) (R Y : Int) (l : List UInt8) (dv v : Value) (S : List SlB) : Prop where
  g : LgV 67 62 w p q R Y l dv v S
  hi : ∀ k, Al p q dv v S k → W.heap.size ≤ k
  at_ : Below W.heap.size W w
section
variable {W w w' : World} {p q : Nat} {R Y R' Y' : Int} {l l' : List UInt8} {dv v dv' v' : Value} {S S' : List SlB}
theorem Lsk.below (h : Lsk W w p q R Y l dv v S) (b : Below w.heap.size w w') : Lsk W w' p q R Y l dv v S := ⟨h.g.below b, h.hi, h.at_.trans (b.mono h.at_.size)⟩
theorem Lsk.next (h : Lsk W w p q R Y l dv v S) (g : LgV 67 62 w' p q R' Y' l' dv' v' S') (k : Kp (Al p q dv v S) w w') (n : ∀ k, Al p q dv' v' S' k → Al p q dv v S k ∨ w.heap.size ≤ k) : Lsk W w' p q R' Y' l' dv' v' S' :=
  ⟨g, fun i hi => (n i hi).elim (h.hi i) (Nat.le_trans h.at_.size), h.at_.trans (k.below h.at_.size h.hi)⟩
/-- the disk is worked on by itself -/
theorem Lsk.disk (h : Lsk W w p q R Y l dv v S) (d : DkV 62 w' q R' Y' l' dv') (k : Kp (Ft q dv) w w') (n : New w dv dv') : Lsk W w' p q R' Y' l' dv' v S := by
  refine h.next (h.g.disk d k n) (k.mono fun g _ hg => .inr (.inr hg)) fun g hg => ?_
  rcases hg with hg | hg | hg
  · exact .inl (.inl hg)
  · exact .inl (.inr (.inl hg))
  · rcases hg with hg | hg
    · exact .inl (.inr (.inr (.inl hg)))
    · rcases n with n | n
      · exact .inl (.inr (.inr (.inr (n ▸ hg))))
      · exact .inr (n g hg)
/-- a log is opened over the law's own disk -/
theorem Lsk.open_ {e : Ending} (hd : DkV 62 w q R Y l dv) (hi : ∀ k, Ft q dv k → W.heap.size ≤ k) (at_ : Below W.heap.size W w) (o : OpenR 67 62 w q R Y l dv e w') :
    ∃ p v S dv', e = .returned (.tuple #[.pointer (some ⟨p, 0, none⟩), .int .i64 (l.length - openN l : Int)]) ∧ Lsk W w' p q R (min Y (openN l : Int)) (l.take (openN l)) dv' v S ∧ bytesS S = (scanL l).1 := by
  obtain ⟨p, v, S, dv', he, g, hs, k, n⟩ := o
  exact ⟨p, v, S, dv', he, ⟨g, fun i h => (n i h).elim (hi i) (Nat.le_trans at_.size), at_.trans (k.below at_.size hi)⟩, hs⟩
/-- .. or anew over a log's -/
theorem Lsk.again {e : Ending} (h : Lsk W w p q R Y l dv v S) (o : OpenR 67 62 w q R Y l dv e w') :
    ∃ p v S dv', e = .returned (.tuple #[.pointer (some ⟨p, 0, none⟩), .int .i64 (l.length - openN l : Int)]) ∧ Lsk W w' p q R (min Y (openN l : Int)) (l.take (openN l)) dv' v S ∧ bytesS S = (scanL l).1 :=
  Lsk.open_ h.g.d (fun k hk => h.hi k (.inr (.inr hk))) h.at_ o
/-- what was ahead of the law's memory is no part of it -/
theorem Lsk.far (h : Lsk W w p q R Y l dv v S) {g : Nat} (hg : g < W.heap.size) : ¬ Al p q dv v S g := fun z => by have := h.hi g z; omega
end
theorem few_far {w : World} {p q : Nat} {dv v : Value} {S : List SlB} (h : ∀ k, Al p q dv v S k → k < w.heap.size) {n : Nat} : 0 < n → ∀ g off, (some ⟨w.heap.size, 0, none⟩ : Option Addr) = some ⟨g, off, none⟩ → ¬ Al p q dv v S g := fun _ g off e z => by
  injection e with e
  injection e with e
  have := h g z
  omega
theorem few_at (w : World) (cs : Array Value) (T : TypeId) (l : List UInt8) (h : cs.toList = Lib.byteCells l) {n : Nat} (hn : l.length = n) : BsAt (w.alloc (.cells cs T)) (some ⟨w.heap.size, 0, none⟩) n l := by
  refine ⟨hn.symm, fun h0 => ⟨w.heap.size, 0, rfl, by simp, fun j hj => ?_⟩⟩
  rw [World.cell?_alloc_new, Nat.zero_add, ← byteCells_at l j (by omega), ← h]
  simp
theorem one_len : (frameL [1]).length = 7 := rfl
theorem first_cut : scanL ((frameL [1] ++ frameL [2]).take 10) = ([[1]], 7) := by
  have h : ∀ p ∈ [[(1 : UInt8)], [2]], p.length ≤ 8192 := by decide
  have := scan_cut (ps := [[1], [2]]) h (c := 10) (n := 1) (by decide) (.inr (by decide))
  exact this
set_option maxRecDepth 100000 in
set_option maxHeartbeats 4000000 in
theorem first_is (W : World) (T : Tab W) : Calls Tryd.prog 8 #[] W fun e w' => e = .returned (.bool true) ∧ Below W.heap.size W w' := by
  have TT := Lib.hid T
  have C0 := new_yes W 100 (by decide) (by decide)
  clear T
  go_enter Tryd.func8, Tryd.ntmps8
  go_wp2_with fail
  refine C0.mono ?_
  rintro e w1 ⟨q, v1, rfl, d1, b1, h1⟩
  clear C0
  have C1 := open_is w1 q 100 0 [] v1 (TT.out.on b1) d1 (by decide)
  have D1 := Lib.hid d1
  have H1 := Lib.hid h1
  have B1 := Lib.hid b1
  clear d1 b1 h1
  go_wp2_with fail
  refine C1.mono ?_
  intro e w2 o2
  obtain ⟨p, v2, S2, dv2, rfl, g2, s2⟩ := Lsk.open_ (W := W) D1.out H1.out B1.out o2
  clear C1 o2
  have G2 := Lib.hid (show Lsk W w2 p q 100 0 [] dv2 v2 S2 from g2)
  have E2 := Lib.hid (show bytesS S2 = [] from s2)
  clear g2 s2
  rw [show (([] : List UInt8).length : Int) - (openN [] : Nat) = 0 from rfl]
  have al := below_alloc w2 (.cells #[.int .u8 1] 5)
  have G3 := Lib.hid (G2.out.below al)
  have L2 := Lib.hid (show S2.length = 0 by have := congrArg List.length E2.out; rwa [bytesS_len] at this)
  have C3 := lput_is _ p q 100 0 [] dv2 v2 S2 _ 1 1 [1] (TT.out.on G3.out.at_) G3.out.g (few_at w2 #[.int .u8 1] 5 [1] rfl rfl) (fun z => by cases z) (by decide) (by decide) (by rw [L2.out]; decide) (by decide) (by decide) (few_far G2.out.g.all)
  rw [show wrY 100 0 [] [1] = 7 from rfl, show wlL 100 [] [1] = frameL [1] from rfl, show wlE 100 [] [1] = 0 from rfl, E2.out, show wlR 100 [] [1] [] = [[1]] from rfl] at C3
  clear al
  go_wp2_with fail
  refine C3.mono ?_
  rintro e w3 ⟨rfl, dv3, v3, S3, g3, s3, k3, n3⟩
  clear C3
  have G4 := Lib.hid (G3.out.next g3 k3 n3)
  have E4 := Lib.hid s3
  clear g3 s3 k3 n3
  have al := below_alloc w3 (.cells #[.int .u8 2] 5)
  have G5 := Lib.hid (G4.out.below al)
  have L4 := Lib.hid (show S3.length = 1 by have := congrArg List.length E4.out; rwa [bytesS_len] at this)
  have C5 := lapp_is _ p q 100 7 (frameL [1]) dv3 v3 S3 _ 1 1 [2] (TT.out.on G5.out.at_) G5.out.g (few_at w3 #[.int .u8 2] 5 [2] rfl rfl) (fun z => by cases z) (by decide) (by decide) (by rw [L4.out]; decide) (by decide) (by decide) (few_far G4.out.g.all)
  rw [show wlL 100 (frameL [1]) [2] = frameL [1] ++ frameL [2] from rfl, show wlE 100 (frameL [1]) [2] = 0 from rfl] at C5
  clear al
  go_wp2_with fail
  refine C5.mono ?_
  rintro e w5 ⟨rfl, dv5, v5, S5, g5, s5, k5, n5⟩
  clear C5
  have G6 := Lib.hid (G5.out.next g5 k5 n5)
  clear g5 s5 k5 n5
  have C6 := crash_is w5 q 100 7 (frameL [1] ++ frameL [2]) dv5 3 G6.out.g.d (by decide) (by decide) (by decide) (by decide) (by decide)
  rw [show crN 7 (frameL [1] ++ frameL [2]) 3 = 10 from rfl, show (10 : Int).toNat = 10 from rfl] at C6
  go_wp2_with fail
  refine C6.mono ?_
  rintro e w6 ⟨rfl, dv6, d6, k6, n6⟩
  clear C6
  have G7 := Lib.hid (G6.out.disk d6 k6 n6)
  clear d6 k6 n6
  have C7 := open_is w6 q 100 10 _ dv6 (TT.out.on G7.out.at_) G7.out.g.d (by decide)
  go_wp2_with fail
  refine C7.mono ?_
  intro e w7 o7
  obtain ⟨p7, v7, S7, dv7, rfl, g7, s7⟩ := G7.out.again o7
  clear C7 o7
  rw [show ((((frameL [1] ++ frameL [2]).take 10).length : Nat) : Int) - (openN ((frameL [1] ++ frameL [2]).take 10) : Nat) = 3 from by unfold openN; rw [first_cut]; rfl]
  rw [first_cut] at s7
  have G8 := Lib.hid g7
  have E8 := Lib.hid s7
  have L8 := Lib.hid (show S7.length = 1 by have := congrArg List.length s7; rwa [bytesS_len] at this)
  clear g7 s7
  have C8 := recs_is w7 p7 q _ _ _ dv7 v7 S7 G8.out.g (by rw [L8.out]; decide) (by rw [E8.out]; decide)
  go_wp2_with fail
  refine C8.mono ?_
  rintro e w8 ⟨u8, S8, rfl, o8, s8, b8⟩
  clear C8
  have hl : S8.length = 1 := by have := congrArg List.length (s8.trans E8.out); rwa [bytesS_len] at this
  obtain ⟨A8, c8, e8, -, -, -⟩ := o8.at_
  rw [hl] at e8
  subst e8
  have G9 := Lib.hid (G8.out.below b8).at_
  clear o8 s8 b8 hl
  go_wp2
  go_ret
  exact ⟨rfl, G9.out⟩
end Go.Proofs.YtniphbfoppocfaaDoor.Wl
