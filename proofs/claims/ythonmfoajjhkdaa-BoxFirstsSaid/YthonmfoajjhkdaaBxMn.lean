/- Boxes: a list of them among a law's own memory; append to a slice of boxes. -/
import Derived.Test.YthonmfoajjhkdaaBxT
import Derived.Test.YthonmfoajjhkdaaBxOpen
set_option linter.unusedVariables false
namespace Go.Proofs.Ythonmfoajjhkdaa.Bx
open Go.RowKit Iv

/-- of what W held nothing has turned; the boxes R, made since, hold f 0, f 1, .. -/
structure Many (W w : World) (R : List BxR) (f : Nat → List Int) : Prop where
  is : AllIn w R f
  ne : ∀ i j, i < R.length → j < R.length → i ≠ j → (gt R i).c ≠ (gt R j).c
  cs : ∀ j, j < R.length → W.heap.size ≤ (gt R j).c
  at_ : Below W.heap.size W w
section
variable {W w w' : World} {R : List BxR} {f : Nat → List Int} {p c n : Nat} {l : List Int}
theorem Many.nil (h : Below W.heap.size W w) (f : Nat → List Int) : Many W w [] f := ⟨fun j hj => absurd hj (Nat.not_lt_zero _), fun i j hi => absurd hi (Nat.not_lt_zero _), fun j hj => absurd hj (Nat.not_lt_zero _), h⟩
theorem Many.below (h : Many W w R f) (b : Below w.heap.size w w') : Many W w' R f := ⟨fun j hj => (h.is j hj).below b, h.ne, h.cs, h.at_.trans (b.mono h.at_.size)⟩
theorem Many.first (h : Many W w R f) : Calls Try.prog 9 #[] w fun e w' => e = .returned (.bool true) ∧ Many W w' R f := by
  refine (first12 w).mono ?_
  rintro e w' ⟨he, b⟩
  exact ⟨he, h.below b⟩
/-- one of them is turned -/
theorem Many.turn {g : Nat → List Int} (h : Many W w R f) {i : Nat} (hi : i < R.length) (q : BoxIn w' (gt R i).p (gt R i).c (gt R i).n (g i)) (k : Kp (· = (gt R i).c) w w') (hg : ∀ j, j ≠ i → g j = f j) : Many W w' R g := by
  refine ⟨fun j hj => ?_, h.ne, h.cs, h.at_.trans (k.below h.at_.size fun g e => by have := h.cs i hi; omega)⟩
  by_cases e : j = i
  · subst e; exact q
  · rw [hg j e]
    exact (h.is j hj).other k (h.is i hi) (h.ne j i hj hi e)
/-- a box more, apart yet -/
structure Plus (W w : World) (R : List BxR) (f : Nat → List Int) (p c n : Nat) (l : List Int) : Prop where
  r : Many W w R f
  o : One W w p c n l
  ne : ∀ j, j < R.length → (gt R j).c ≠ c
theorem Many.new (h : Many W w R f) (m : Nat) (h1 : 1 ≤ m) (h2 : m ≤ 1000) :
    Calls Try.prog 10 #[.int .i64 m] w fun e w' => ∃ q d, e = .returned (.tuple #[.pointer (some ⟨q, 0, none⟩), .int .i64 0]) ∧ Plus W w' R f q d m [] ∧ Below w.heap.size w w' := by
  refine (bnew_is w m h1 h2).mono ?_
  rintro e w' ⟨he, i, t⟩
  have sz := h.at_.size
  exact ⟨_, _, he, ⟨h.below t, ⟨i, by omega, by omega, (h.below t).at_⟩, fun j hj => by have := (h.is j hj).cl; omega⟩, t⟩
theorem Plus.put (h : Plus W w R f p c n l) (x : Int) : Calls Try.prog 11 #[.pointer (some ⟨p, 0, none⟩), .int .i64 x] w fun e w' => e = .returned (.int .i64 (putE n l)) ∧ Plus W w' R f p c n (putL n l x) ∧ Kp (· = c) w w' := by
  refine (put_is w p c n l x h.o.is).mono ?_
  rintro e w' ⟨he, i, t⟩
  exact ⟨he, ⟨⟨fun j hj => (h.r.is j hj).other t h.o.is (h.ne j hj), h.r.ne, h.r.cs, (h.o.turn i t).at_⟩, h.o.turn i t, h.ne⟩, t⟩
/-- .. is taken among them -/
theorem gt_app {α : Type} [Inhabited α] (l : List α) (x : α) (j : Nat) : gt (l ++ [x]) j = if j < l.length then gt l j else if j = l.length then x else default := by
  unfold gt
  split
  · rw [List.getElem?_append_left (by assumption)]
  · rename_i h
    rw [List.getElem?_append_right (by omega)]
    split
    · rename_i e; subst e; simp
    · rw [List.getElem?_eq_none (by simp; omega)]; rfl
theorem Plus.join (h : Plus W w R f p c n l) (hl : f R.length = l) : Many W w (R ++ [⟨p, c, n⟩]) f := by
  have hs : ∀ j, j < (R ++ [(⟨p, c, n⟩ : BxR)]).length → j < R.length ∨ j = R.length := fun j hj => by
    rw [List.length_append, List.length_cons, List.length_nil] at hj; omega
  refine ⟨fun j hj => ?_, fun i j hi hj hne => ?_, fun j hj => ?_, h.r.at_⟩
  · rw [gt_app]
    rcases hs j hj with h1 | h1
    · rw [if_pos h1]; exact h.r.is j h1
    · rw [if_neg (by omega), if_pos h1, h1, hl]; exact h.o.is
  · rw [gt_app, gt_app]
    rcases hs i hi with h1 | h1 <;> rcases hs j hj with h2 | h2
    · rw [if_pos h1, if_pos h2]; exact h.r.ne i j h1 h2 hne
    · rw [if_pos h1, if_neg (by omega), if_pos h2]; exact h.ne i h1
    · rw [if_pos h2, if_neg (by omega), if_pos h1]; exact fun e => h.ne j h2 e.symm
    · omega
  · rw [gt_app]
    rcases hs j hj with h1 | h1
    · rw [if_pos h1]; exact h.r.cs j h1
    · rw [if_neg (by omega), if_pos h1]; exact h.o.cs
/-- an own slice of boxes -/
def OwnX (B : Nat) (w : World) (v : Value) (R : List BxR) : Prop := w.ownsRow B 24 1 v R.length (R.map fun r => .pointer (some ⟨r.p, 0, none⟩))
theorem Many.own {B : Nat} {v : Value} {S : List BxR} (h : Many W w R f) (hB : W.heap.size ≤ B) (o : OwnX B w v S) (k : Kp (fun g => v.ownBlock = some g) w w') : Many W w' R f :=
  ⟨fun j hj => (h.is j hj).row o (by decide) k, h.ne, h.cs, h.at_.trans (k.below h.at_.size fun g e => Nat.le_trans hB (World.ownsRow.lt o g e).1)⟩
theorem OwnX.below {B : Nat} {v : Value} {S : List BxR} (o : OwnX B w v S) (b : Below w.heap.size w w') : OwnX B w' v S := row_on o b
theorem OwnX.turn {B : Nat} {v : Value} {S : List BxR} (o : OwnX B w v S) (h : BoxIn w p c n l) (k : Kp (· = c) w w') : OwnX B w' v S := by
  refine ⟨o.1, ?_⟩
  rcases o.2 with q | ⟨g, cap, cur, rfl, hb, hg, rest⟩
  · exact .inl q
  · exact .inr ⟨g, cap, cur, rfl, hb, (k.block g (World.ownsRow.lt o g rfl).2 (h.off hg)).trans hg, rest⟩
theorem OwnX.form {B : Nat} {v : Value} {S : List BxR} (h : OwnX B w v S) : ∃ A k, v = .slice A S.length k ∧ BsAt w A S.length S := by
  have cc := fun g (e : v.ownBlock = some g) => World.ownsRow.cells h (g := g) e
  have hb := fun g => World.ownsRow.lt h g
  rcases h.2 with ⟨rfl, e⟩ | ⟨g, cap, cur, rfl, hB, hg, hn, hm, hs, ht⟩
  · obtain rfl : S = [] := List.eq_nil_of_length_eq_zero e
    exact ⟨none, 0, rfl, rfl, fun h => absurd h (by simp)⟩
  · refine ⟨some ⟨g, 0, none⟩, cap, rfl, rfl, fun h0 => ⟨g, 0, rfl, (hb g rfl).2, fun j hj => ?_⟩⟩
    have := cc g rfl j (.pointer (some ⟨(gt S j).p, 0, none⟩)) (by rw [List.getElem?_map, List.getElem?_eq_getElem hj, gt_lt hj]; rfl)
    rwa [addr_off] at this
theorem BsAt.below {A : Option Addr} {k : Nat} {S : List BxR} (h : BsAt w A k S) (b : Below w.heap.size w w') : BsAt w' A k S := by
  refine ⟨h.1, fun h0 => ?_⟩
  obtain ⟨g, off, e, hl, hc⟩ := h.2 h0
  exact ⟨g, off, e, Nat.lt_of_lt_of_le hl b.size, fun j hj => (b.cell (p := ⟨g, _, none⟩) hl).trans (hc j hj)⟩
theorem BsAt.turn {A : Option Addr} {k : Nat} {S : List BxR} (h : BsAt w A k S) (q : BoxIn w p c n l) (t : Kp (· = c) w w') : BsAt w' A k S := by
  refine ⟨h.1, fun h0 => ?_⟩
  obtain ⟨g, off, e, hl, hc⟩ := h.2 h0
  exact ⟨g, off, e, Nat.lt_of_lt_of_le hl t.size, fun j hj => (t.cell hl (q.off' (hc j hj))).trans (hc j hj)⟩
end
theorem info_bx : (Try.prog.info? 24).map (fun i => (i.zero, i.size, i.bytes)) = some (some (.pointer none), 1, 8) := by kernel_rfl
theorem append_bx {ops : Array Oper} {rest : List Oper} {o : Oper} {a : Act} {Q : Exit → Act → World → Prop} {B : Nat} {w : World} (hgd : o.guard = none) (s x : Operand)
    (ho : o.op = .call { callee := .builtin .append, args := #[s, x], argTypes := #[43, 43] })
    (v : Value) (R : List BxR) (hs : a.eval s = v) (hown : OwnX B w v R) (hB : B ≤ w.heap.size) (r : BxR) (T : TypeId) (c : Nat)
    (hx : a.eval x = .slice (some ⟨w.heap.size, 0, none⟩) 1 c) (hl : R.length ≤ 1000000)
    (h : ∀ v' w', OwnX B w' v' (R ++ [r]) → Kp (fun k => v.ownBlock = some k) w w' → wpList Try.prog ops Q rest (a.put o.dst v') w') : wpList Try.prog ops Q (o :: rest) a (w.alloc (.cells #[.pointer (some ⟨r.p, 0, none⟩)] T)) := by
  obtain ⟨i0, hi, hz0, hz1, hz2⟩ := info_parts info_bx
  refine wpList_append_own _ hgd s x 43 ho B 24 i0 (.pointer none) 1 8 Try.underlying43 hi hz0 hz1 hz2 rfl (by decide) v R.length (R.map fun r => .pointer (some ⟨r.p, 0, none⟩)) hs (World.ownsRow.alloc hown _)
    ⟨w.heap.size, 0, none⟩ 1 c [.pointer (some ⟨r.p, 0, none⟩)] hx rfl ?_ (by intro u hu; obtain rfl : u = .pointer (some ⟨r.p, 0, none⟩) := by simpa using hu
                                                                              rfl) (by unfold maxLen; omega) (by omega) (by simp; omega) ?_
  · intro j u hj
    cases j with
    | zero => obtain rfl : Value.pointer (some ⟨r.p, 0, none⟩) = u := by simpa using hj
              show (w.alloc (.cells #[.pointer (some ⟨r.p, 0, none⟩)] T)).cell? ⟨w.heap.size, 0, none⟩ = _
              rw [World.cell?_alloc_new]; rfl
    | succ j => simp at hj
  · intro v' w' hown' hg _
    refine h v' w' ?_ ((Kp.of (below_alloc w (.cells #[.pointer (some ⟨r.p, 0, none⟩)] T))).trans (Kp.grown hg fun k hk => hk))
    unfold OwnX
    rw [List.length_append, List.map_append]
    exact hown'
end Go.Proofs.Ythonmfoajjhkdaa.Bx
