/- Boxes: memory: own slices of numbers, a channel's block, the box as one proposition; New, Put, Take, Len. -/
import Derived.Test.YthonmfoajjhkdaaBxC
import Derived.Test.YthonmfoajjhkdaaIvMem
set_option linter.unusedVariables false
namespace Go.Proofs.Ythonmfoajjhkdaa.Bx
open Go.Conc Go.RowKit Iv

/-- an own slice of numbers -/
def OwnN (B : Nat) (w : World) (v : Value) (l : List Int) : Prop := w.ownsRow B 3 1 v l.length (l.map (Value.int .i64))
theorem append_numB {ops : Array Oper} {rest : List Oper} {o : Oper} {a : Act} {Q : Exit → Act → World → Prop} {B : Nat} {w : World} (hgd : o.guard = none) (s x : Operand)
    (ho : o.op = .call { callee := .builtin .append, args := #[s, x], argTypes := #[29, 29] })
    (v : Value) (l : List Int) (hs : a.eval s = v) (hown : OwnN B w v l) (hB : B ≤ w.heap.size) (t : Int) (T : TypeId) (c : Nat)
    (hx : a.eval x = .slice (some ⟨w.heap.size, 0, none⟩) 1 c) (hl : l.length ≤ 1000000)
    (h : ∀ v' w', OwnN B w' v' (l ++ [t]) → Kp (fun k => v.ownBlock = some k) w w' → wpList Try.prog ops Q rest (a.put o.dst v') w') : wpList Try.prog ops Q (o :: rest) a (w.alloc (.cells #[.int .i64 t] T)) := by
  obtain ⟨i0, hi, hz0, hz1, hz2⟩ := info_parts info_int
  refine wpList_append_own _ hgd s x 29 ho B 3 i0 (.int .i64 0) 1 8 Try.underlying29 hi hz0 hz1 hz2 rfl (by decide) v l.length (l.map (Value.int .i64)) hs (World.ownsRow.alloc hown _)
    ⟨w.heap.size, 0, none⟩ 1 c [.int .i64 t] hx rfl ?_ (by intro u hu; obtain rfl : u = .int .i64 t := by simpa using hu
                                                           rfl) (by unfold maxLen; omega) (by omega) (by simp; omega) ?_
  · intro j u hj
    cases j with
    | zero => obtain rfl : Value.int .i64 t = u := by simpa using hj
              show (w.alloc (.cells #[.int .i64 t] T)).cell? ⟨w.heap.size, 0, none⟩ = _
              rw [World.cell?_alloc_new]; rfl
    | succ j => simp at hj
  · intro v' w' hown' hg _
    refine h v' w' ?_ ((Kp.of (below_alloc w (.cells #[.int .i64 t] T))).trans (Kp.grown hg fun k hk => hk))
    unfold OwnN
    rw [List.length_append, List.map_append]
    exact hown'
theorem kp_chan (w : World) (c cap : Nat) (buf : Array Value) (cl : Bool) (s r : Nat) (tm : Bool) : Kp (· = c) w (w.setChan c cap buf cl s r tm) :=
  ⟨rfl, rfl, rfl, by simp [World.setChan], fun k hk hf => by
    simp only [World.setChan]
    rw [Array.getElem?_setIfInBounds_ne (fun e => hf e.symm)]⟩
theorem OwnN.kp {F : Nat → Prop} {B : Nat} {w w' : World} {v : Value} {l : List Int} (h : OwnN B w v l) (k : Kp F w w') (hf : ∀ g, v.ownBlock = some g → ¬ F g) : OwnN B w' v l := by
  refine ⟨h.1, ?_⟩
  rcases h.2 with q | ⟨g, cap, cur, rfl, hb, hg, rest⟩
  · exact .inl q
  · have lt : g < w.heap.size := (World.ownsRow.lt h g rfl).2
    exact .inr ⟨g, cap, cur, rfl, hb, (k.block g lt (hf g rfl)).trans hg, rest⟩
/-- numbers as a channel's buffer -/
def bufL (l : List Int) : Array Value := (l.map (Value.int .i64)).toArray
theorem buf_size (l : List Int) : (bufL l).size = l.length := by simp [bufL]
theorem buf_head (x : Int) (l : List Int) : (bufL (x :: l)).getD 0 undef = .int .i64 x := rfl
theorem buf_tail (x : Int) (l : List Int) : (bufL (x :: l)).extract 1 (bufL (x :: l)).size = bufL l := by
  apply Array.ext'
  simp [bufL]
  exact List.take_of_length_le (by simp)
theorem buf_push (l : List Int) (x : Int) : (bufL l).push (.int .i64 x) = bufL (l ++ [x]) := by
  apply Array.ext'
  simp [bufL]
theorem buf_nil : bufL [] = #[] := rfl
/-- the box at p, its channel's block c, of size n, holds l -/
structure BoxIn (w : World) (p c n : Nat) (l : List Int) : Prop where
  blk : w.heap[p]? = some (.cells #[.chan (some c)] 53)
  chan : ∃ s r, w.heap[c]? = some (.chan n (bufL l) false s r false)
  n1 : 1 ≤ n
  n2 : n ≤ 1000
  len : l.length ≤ n
section
variable {w w' : World} {p c n : Nat} {l : List Int}
theorem BoxIn.pl (h : BoxIn w p c n l) : p < w.heap.size := (Array.getElem?_eq_some_iff.1 h.blk).1
theorem BoxIn.cl (h : BoxIn w p c n l) : c < w.heap.size := by
  obtain ⟨s, r, e⟩ := h.chan
  exact (Array.getElem?_eq_some_iff.1 e).1
theorem BoxIn.box (h : BoxIn w p c n l) : w.cell? ⟨p, 0, none⟩ = some (.chan (some c)) := by
  rw [cell_of_row w p 0 _ _ _ h.blk]; rfl
/-- what has a cell is not the channel's block -/
theorem BoxIn.off (h : BoxIn w p c n l) {b : Nat} {cur : Array Value} {e : TypeId} {m : Nat × Nat} (hb : w.heap[b]? = some (.cells cur e m)) : ¬ b = c := by
  rintro rfl
  obtain ⟨s, r, q⟩ := h.chan
  rw [hb] at q; cases q
theorem BoxIn.off' (h : BoxIn w p c n l) {b o : Nat} {u : Value} (hb : w.cell? ⟨b, o, none⟩ = some u) : ¬ b = c := by
  rintro rfl
  obtain ⟨s, r, q⟩ := h.chan
  simp [World.cell?, q] at hb
theorem BoxIn.ne (h : BoxIn w p c n l) : p ≠ c := h.off h.blk
theorem BoxIn.on {F : Nat → Prop} (h : BoxIn w p c n l) (k : Kp F w w') (f : ¬ F c) (g : ¬ F p) : BoxIn w' p c n l := by
  obtain ⟨s, r, e⟩ := h.chan
  exact ⟨(k.block p h.pl g).trans h.blk, ⟨s, r, (k.block c h.cl f).trans e⟩, h.n1, h.n2, h.len⟩
theorem BoxIn.below (h : BoxIn w p c n l) (k : Below w.heap.size w w') : BoxIn w' p c n l := h.on (Kp.of' k) id id
theorem BoxIn.turn (h : BoxIn w p c n l) {l' : List Int} (hl : l'.length ≤ n) (s r : Nat) : BoxIn (w.setChan c n (bufL l') false s r false) p c n l' ∧ Kp (· = c) w (w.setChan c n (bufL l') false s r false) := by
  have k := kp_chan w c n (bufL l') false s r false
  exact ⟨⟨(k.block p h.pl h.ne).trans h.blk, ⟨s, r, heap_setChan w c n (bufL l') false s r false h.cl⟩, h.n1, h.n2, hl⟩, k⟩
/-- another box, where this one alone is turned -/
theorem BoxIn.other {q d n' : Nat} {l' : List Int} (h : BoxIn w p c n l) (k : Kp (· = d) w w') (j : BoxIn w q d n' l') (hd : c ≠ d) : BoxIn w' p c n l := h.on k hd (j.off h.blk)
/-- an own slice grows (of other elements than boxes) -/
theorem BoxIn.row {B : Nat} {e : TypeId} {size m : Nat} {v : Value} {xs : List Value} (h : BoxIn w p c n l) (o : w.ownsRow B e size v m xs) (he : e ≠ 53) (k : Kp (fun g => v.ownBlock = some g) w w') : BoxIn w' p c n l := by
  rcases o.2 with ⟨rfl, -⟩ | ⟨g, cap, cur, rfl, -, hg, -⟩
  · exact h.on k (by simp [Value.ownBlock]) (by simp [Value.ownBlock])
  · refine h.on k (fun q => ?_) (fun q => ?_)
    · injection q with q
      exact h.off hg q
    · injection q with q
      subst q
      rw [h.blk] at hg
      injection hg with hg
      injection hg with h1 h2 h3
      exact he h2.symm
/-- numbers that are read, where the channel alone is turned -/
theorem BoxIn.ints (h : BoxIn w p c n l) (k : Kp (· = c) w w') {A : Option Addr} {m : Nat} {x : List Int} (hx : IsAt w A m x) : IsAt w' A m x := by
  refine hx.kp k fun h0 a e => ?_
  obtain ⟨b, off, rfl, hb, hc⟩ := hx.2 h0
  cases e
  exact h.off' (hc 0 h0)
end
/-- put behind the others, if there is room -/
def putL (n : Nat) (l : List Int) (x : Int) : List Int := if l.length < n then l ++ [x] else l
/-- what a put answers -/
def putE (n : Nat) (l : List Int) : Int := if l.length < n then 0 else 9
theorem putL_room {n : Nat} {l : List Int} (h : l.length < n) (x : Int) : putL n l x = l ++ [x] := if_pos h
theorem putE_room {n : Nat} {l : List Int} (h : l.length < n) : putE n l = 0 := if_pos h
theorem putL_full {n : Nat} {l : List Int} (h : ¬ l.length < n) (x : Int) : putL n l x = l := if_neg h
theorem putE_full {n : Nat} {l : List Int} (h : ¬ l.length < n) : putE n l = 9 := if_neg h
theorem put_is (w : World) (p c n : Nat) (l : List Int) (x : Int) (h : BoxIn w p c n l) :
    Calls Try.prog 11 #[.pointer (some ⟨p, 0, none⟩), .int .i64 x] w fun e w' => e = .returned (.int .i64 (putE n l)) ∧ BoxIn w' p c n (putL n l x) ∧ Kp (· = c) w w' := by
  obtain ⟨s, r, hc⟩ := h.chan
  by_cases hr : l.length < n
  · refine (put_room w p c n s r x (bufL l) h.box hc (by rw [buf_size]; exact hr)).mono ?_
    rintro e w' ⟨rfl, rfl⟩
    rw [putE_room hr, putL_room hr, buf_push]
    obtain ⟨a, b⟩ := h.turn (l' := l ++ [x]) (by simp; omega) (s + 1) r
    exact ⟨rfl, a, b⟩
  · refine (put_full w p c n s r x (bufL l) h.box hc (by rw [buf_size]; omega)).mono ?_
    rintro e w' ⟨rfl, rfl⟩
    rw [putE_full hr, putL_full hr]
    exact ⟨rfl, h, Kp.refl _ _⟩
/-- the one that lies longest; 0, if there is none -/
def headL (l : List Int) : Int := l.head?.getD 0
def someB (l : List Int) : Bool := !l.isEmpty
theorem take_is (w : World) (p c n : Nat) (l : List Int) (h : BoxIn w p c n l) :
    Calls Try.prog 13 #[.pointer (some ⟨p, 0, none⟩)] w fun e w' => e = .returned (.tuple #[.int .i64 (headL l), .bool (someB l)]) ∧ BoxIn w' p c n l.tail ∧ Kp (· = c) w w' := by
  obtain ⟨s, r, hc⟩ := h.chan
  cases l with
  | nil =>
    refine (take_none w p c n s r h.box hc).mono ?_
    rintro e w' ⟨rfl, rfl⟩
    exact ⟨rfl, h, Kp.refl _ _⟩
  | cons x l =>
    refine (take_some w p c n s r x (bufL (x :: l)) h.box hc (by rw [buf_size]; simp) (buf_head x l)).mono ?_
    rintro e w' ⟨rfl, rfl⟩
    rw [buf_tail]
    have hl := h.len
    rw [List.length_cons] at hl
    obtain ⟨a, b⟩ := h.turn (l' := l) (by omega) s (r + 1)
    exact ⟨rfl, a, b⟩
theorem take_empty (w : World) (p c n : Nat) (h : BoxIn w p c n []) :
    Calls Try.prog 13 #[.pointer (some ⟨p, 0, none⟩)] w fun e w' => e = .returned (.tuple #[.int .i64 0, .bool false]) ∧ w = w' := by
  obtain ⟨s, r, hc⟩ := h.chan
  exact take_none w p c n s r h.box hc
theorem blen_is (w : World) (p c n : Nat) (l : List Int) (h : BoxIn w p c n l) :
    Calls Try.prog 18 #[.pointer (some ⟨p, 0, none⟩)] w fun e w' => e = .returned (.int .i64 (l.length : Nat)) ∧ w = w' := by
  obtain ⟨s, r, hc⟩ := h.chan
  have := len_is w p c n s r (bufL l) h.box hc
  rw [buf_size] at this
  exact this
theorem new_box (w : World) (n : Nat) (h1 : 1 ≤ n) (h2 : n ≤ 1000) : BoxIn ((w.alloc (.chan n #[] false 0 0 false)).alloc (.cells #[.chan (some w.heap.size)] 53)) (w.heap.size + 1) w.heap.size n [] ∧ Below w.heap.size w ((w.alloc (.chan n #[] false 0 0 false)).alloc (.cells #[.chan (some w.heap.size)] 53)) := by
  refine ⟨⟨?_, ⟨0, 0, ?_⟩, h1, h2, Nat.zero_le _⟩, ?_⟩
  · have e : (w.alloc (.chan n #[] false 0 0 false)).heap.size = w.heap.size + 1 := by simp
    rw [← e]
    exact Array.getElem?_push_size
  · have := (below_alloc (w.alloc (.chan n #[] false 0 0 false)) (.cells #[.chan (some w.heap.size)] 53)).block w.heap.size (by simp)
    rw [this]
    exact Array.getElem?_push_size
  · exact ((Below.refl _ _).alloc (Nat.le_refl _) _).alloc (by simp) _
theorem bnew_is (w : World) (n : Nat) (h1 : 1 ≤ n) (h2 : n ≤ 1000) :
    Calls Try.prog 10 #[.int .i64 n] w fun e w' => e = .returned (.tuple #[.pointer (some ⟨w.heap.size + 1, 0, none⟩), .int .i64 0]) ∧ BoxIn w' (w.heap.size + 1) w.heap.size n [] ∧ Below w.heap.size w w' := by
  refine (new_is w n h1 h2).mono ?_
  rintro e w' ⟨rfl, rfl⟩
  exact ⟨rfl, new_box w n h1 h2⟩
end Go.Proofs.Ythonmfoajjhkdaa.Bx
