/- What a log holds behind operations, in plain words: the file is the records' frames; so many of them are safe. -/
import Derived.Test.YtniphbfoppocfaaDoorWlO
set_option linter.unusedVariables false
namespace Go.Proofs.YtniphbfoppocfaaDoor.Wl
open Go.RowKit Fr Dk

structure Kg (Y : Int) (l : List UInt8) (r : List (List UInt8)) (s : Nat) : Prop where
  is : l = framesL r
  ok : ∀ p ∈ r, p.length ≤ 8192
  le : s ≤ r.length
  y : Y = ((framesL (r.take s)).length : Nat)
theorem Kg.start : Kg 0 [] [] 0 := ⟨rfl, fun p h => (by cases h), Nat.le_refl _, rfl⟩
theorem wlE_ok {R : Int} {l b : List UInt8} (h : wlE R l b = 0) : b.length ≤ 8192 := by
  unfold wlE at h
  split at h
  · assumption
  · cases h
theorem ckE_ok {R : Int} {ps : List (List UInt8)} (h : ckE R ps = 0) : ∀ p ∈ ps, p.length ≤ 8192 := by
  unfold ckE okP at h
  split at h
  · rename_i q; exact of_decide_eq_true q
  · cases h
section
variable {Y : Int} {l : List UInt8} {r : List (List UInt8)} {s : Nat}
theorem Kg.y0 (h : Kg Y l r s) : 0 ≤ Y ∧ Y ≤ l.length := by
  have := frames_take_mono r h.le
  rw [List.take_length] at this
  rw [h.y, h.is]
  omega
theorem Kg.app (h : Kg Y l r s) (R : Int) (b : List UInt8) : Kg Y (wlL R l b) (wlR R l b r) s := by
  unfold wlL wlR
  by_cases e : wlE R l b = 0
  · rw [if_pos e, if_pos e]
    refine ⟨by rw [framesL_app, framesL_one, h.is], fun p hp => ?_, by rw [List.length_append]; have := h.le; omega, by rw [List.take_append_of_le_length h.le]; exact h.y⟩
    rcases List.mem_append.1 hp with hp | hp
    · exact h.ok p hp
    · rw [List.mem_singleton.1 hp]; exact wlE_ok e
  · rw [if_neg e, if_neg e]; exact h
theorem Kg.sync (h : Kg Y l r s) : Kg (l.length : Nat) l r r.length := ⟨h.is, h.ok, Nat.le_refl _, by rw [List.take_length, h.is]⟩
theorem Kg.put (h : Kg Y l r s) (R : Int) (b : List UInt8) : Kg (wrY R Y l b) (wlL R l b) (wlR R l b r) (if wlE R l b = 0 then (wlR R l b r).length else s) := by
  have a := h.app R b
  unfold wrY
  by_cases e : wlE R l b = 0
  · rw [if_pos e, if_pos e]; exact a.sync
  · rw [if_neg e, if_neg e]; exact a
theorem Kg.check (h : Kg Y l r s) (R : Int) (ps : List (List UInt8)) : Kg (ckY R Y ps) (ckL R l ps) (ckR R r ps) (if ckE R ps = 0 then (ckR R r ps).length else s) := by
  unfold ckY ckL ckR
  by_cases e : ckE R ps = 0
  · rw [if_pos e, if_pos e, if_pos e, if_pos e]
    exact ⟨rfl, ckE_ok e, Nat.le_refl _, by rw [List.take_length]⟩
  · rw [if_neg e, if_neg e, if_neg e, if_neg e]; exact h
theorem wlR_len (R : Int) (l b : List UInt8) (r : List (List UInt8)) : (wlR R l b r).length ≤ r.length + 1 := by
  unfold wlR
  split
  · rw [List.length_append]; exact Nat.le_refl _
  · omega
theorem ckL_len (R : Int) (l : List UInt8) (ps : List (List UInt8)) : (ckL R l ps).length ≤ l.length + (framesL ps).length := by
  unfold ckL
  split <;> omega
theorem ckL_max (R : Int) (l : List UInt8) (ps : List (List UInt8)) {c : Nat} (h1 : l.length ≤ c) (h2 : (framesL ps).length ≤ c) : (ckL R l ps).length ≤ c := by
  unfold ckL
  split <;> assumption
theorem ckR_max (R : Int) (r ps : List (List UInt8)) {c : Nat} (h1 : r.length ≤ c) (h2 : ps.length ≤ c) : (ckR R r ps).length ≤ c := by
  unfold ckR
  split <;> assumption
end
/-- sizes, where operations are few -/
theorem sumB_mono (S : List SlB) {a : Nat} : ∀ {b}, a ≤ b → sumB S a ≤ sumB S b
  | 0, h => by obtain rfl : a = 0 := by omega
               exact Nat.le_refl _
  | b + 1, h => by
    by_cases e : a = b + 1
    · subst e; exact Nat.le_refl _
    · have := sumB_mono S (a := a) (b := b) (by omega)
      show sumB S a ≤ sumB S b + min (gt S b).k 20001
      omega
theorem sumW_mono (S : List OpW) {a : Nat} : ∀ {b}, a ≤ b → sumW S a ≤ sumW S b
  | 0, h => by obtain rfl : a = 0 := by omega
               exact Nat.le_refl _
  | b + 1, h => by
    by_cases e : a = b + 1
    · subst e; exact Nat.le_refl _
    · have := sumW_mono S (a := a) (b := b) (by omega)
      show sumW S a ≤ sumW S b + min (gt S b).m 20001 + sumB (gt S b).P (min (gt S b).N 300)
      omega
theorem frames_sum {w : World} {A : Option Addr} {N : Nat} {P : List SlB} (h : LsAt w A N P) (hs : sumB P N ≤ 20000) : ∀ t, t ≤ N → (framesL ((bytesS P).take t)).length ≤ 6 * t + sumB P t
  | 0, _ => by simp [framesL]
  | t + 1, ht => by
    have ih := frames_sum h hs t (by omega)
    have hP : t < P.length := by have := h.1; omega
    obtain ⟨b, off, -, -, hc⟩ := h.2 (by omega)
    have e := (hc t (by omega)).2.1.1
    have m := sumB_mono P (a := t + 1) (b := N) ht
    have s1 : sumB P (t + 1) = sumB P t + min (gt P t).k 20001 := rfl
    rw [take_snocB hP, framesL_app, framesL_one, List.length_append, frameL_len, ← e]
    rcases Nat.le_total (gt P t).k 20001 with q | q
    · rw [Nat.min_eq_left q] at s1; omega
    · rw [Nat.min_eq_right q] at s1; omega
/-- of one operation -/
theorem few_op {w : World} {n t : Nat} {S : List OpW} (hf : fewW S n = true) (ht : t < n) (o : OpIn w (gt S t)) : n ≤ 100 ∧ sumW S t ≤ 20000 ∧ (gt S t).m ≤ 20000 ∧ (gt S t).N ≤ 300 ∧ (gt S t).m = (gt S t).b.length ∧ (bytesS (gt S t).P).length ≤ 300 ∧ sumW S t + (gt S t).m ≤ sumW S (t + 1) ∧ (framesL (bytesS (gt S t).P)).length ≤ 1800 + (sumW S (t + 1) - sumW S t) ∧ sumW S (t + 1) ≤ 20000 := by
  unfold fewW at hf
  rw [Bool.and_eq_true] at hf
  obtain ⟨h1, h2⟩ := hf
  have h1 := of_decide_eq_true h1
  obtain ⟨h2, h3⟩ := of_decide_eq_true h2
  rw [Nat.min_eq_left h2] at h1 h3
  have hN := h1 t ht
  have e : sumW S (t + 1) = sumW S t + min (gt S t).m 20001 + sumB (gt S t).P (min (gt S t).N 300) := rfl
  rw [Nat.min_eq_left hN] at e
  have m1 := sumW_mono S (a := t + 1) (b := n) ht
  have hm : (gt S t).m ≤ 20000 := by
    rcases Nat.le_total (gt S t).m 20001 with q | q
    · rw [Nat.min_eq_left q] at e; omega
    · rw [Nat.min_eq_right q] at e; omega
  rw [Nat.min_eq_left (by omega)] at e
  have fs := frames_sum o.2.2.2.2.1 (by omega) (gt S t).N (Nat.le_refl _)
  have lp := o.2.2.2.2.1.1
  rw [List.take_of_length_le (by rw [bytesS_len]; omega)] at fs
  exact ⟨h2, by omega, hm, hN, o.1.1, by rw [bytesS_len]; omega, by omega, by omega, by omega⟩
/-- behind a crash, opened: a beginning, at least what is safe -/
theorem Kg.crash {Y : Int} {l : List UInt8} {r : List (List UInt8)} {s : Nat} (h : Kg Y l r s) (keep : Int) : ∃ n, s ≤ n ∧ n ≤ r.length ∧ scanL (l.take (crN Y l keep).toNat) = (r.take n, (framesL (r.take n)).length) ∧ (framesL (r.take n)).length ≤ (crN Y l keep).toNat ∧ 0 ≤ crN Y l keep ∧ crN Y l keep ≤ l.length := by
  obtain ⟨y1, y2⟩ := h.y0
  have hy := h.y
  have c0 : Y ≤ crN Y l keep ∧ crN Y l keep ≤ l.length := by unfold crN; omega
  obtain ⟨n, h1, h2, h3, h4⟩ := open_cut h.ok h.le (c := (crN Y l keep).toNat) (by omega)
  rw [← h.is] at h3
  exact ⟨n, h1, h2, h3, h4, by omega, c0.2⟩
/-- the first n of a list that is read -/
theorem ls_take {W : World} {A : Option Addr} {n : Nat} {S : List SlB} (h : LsAt W A n S) {k : Nat} (hk : k ≤ n) : LsAt W A k (S.take k) := by
  refine ⟨by rw [List.length_take, ← h.1]; omega, fun h0 => ?_⟩
  obtain ⟨b, off, e, hlt, hc⟩ := h.2 (by omega)
  refine ⟨b, off, e, hlt, fun j hj => ?_⟩
  have g : gt (S.take k) j = gt S j := by unfold gt; rw [List.getElem?_take, if_pos hj]
  rw [g]; exact hc j (by omega)
theorem bytesS_take (S : List SlB) (k : Nat) : bytesS (S.take k) = (bytesS S).take k := by unfold bytesS; rw [List.map_take]
theorem few_all {S : List OpW} {n : Nat} (hf : fewW S n = true) : n ≤ 100 ∧ sumW S n ≤ 20000 := by
  unfold fewW at hf
  rw [Bool.and_eq_true] at hf
  obtain ⟨h2, h3⟩ := of_decide_eq_true hf.2
  rw [Nat.min_eq_left h2] at h3
  exact ⟨h2, h3⟩
/-- a list of the law's own that is no part of a disk -/
def AwayL (w : World) (u : Value) (S : List SlB) (q : Nat) (dv : Value) : Prop := ∀ g, Rs u S g → g < w.heap.size ∧ ¬ Ft q dv g
theorem AwayL.of {D : TypeId} {w w' : World} {u dv : Value} {S : List SlB} {q : Nat} {R Y : Int} {l : List UInt8} (d : DkV D w q R Y l dv) (o : OwnL w.heap.size w' u S) : AwayL w' u S q dv := fun g hg => by
  have h := ownl_lt o g hg
  refine ⟨h.2, fun z => ?_⟩
  rcases z with rfl | z
  · have := d.lt; omega
  · have := (World.ownsRow.lt d.own g z).2; omega
theorem AwayL.next {w w' : World} {u dv dv' : Value} {S : List SlB} {q : Nat} (h : AwayL w u S q dv) (k : Kp (Ft q dv) w w') (n : ∀ g, Ft q dv' g → Ft q dv g ∨ w.heap.size ≤ g) : AwayL w' u S q dv' := fun g hg => by
  obtain ⟨h1, h2⟩ := h g hg
  exact ⟨Nat.lt_of_lt_of_le h1 k.size, fun z => (n g z).elim h2 fun y => by omega⟩
theorem AwayL.below {w w' : World} {u dv : Value} {S : List SlB} {q : Nat} (h : AwayL w u S q dv) (b : Below w.heap.size w w') : AwayL w' u S q dv := fun g hg => ⟨Nat.lt_of_lt_of_le (h g hg).1 b.size, (h g hg).2⟩
theorem away_own {B : Nat} {w w' : World} {u dv : Value} {S : List SlB} {q : Nat} (h : AwayL w u S q dv) (o : OwnL B w u S) (k : Kp (Ft q dv) w w') : OwnL B w' u S := ownl_kp o k fun g hg => (h g hg).2
theorem ft_of_new {w : World} {q : Nat} {dv dv' : Value} (n : New w dv dv') : ∀ g, Ft q dv' g → Ft q dv g ∨ w.heap.size ≤ g := fun g hg => by
  rcases hg with hg | hg
  · exact .inl (.inl hg)
  · rcases n with n | n
    · exact .inl (.inr (n ▸ hg))
    · exact .inr (n g hg)
/-- opened anew over a log's disk, and what is kept -/
theorem Lsk.again2 {W w w' : World} {p q : Nat} {R Y : Int} {l : List UInt8} {dv v : Value} {S : List SlB} {e : Ending} (h : Lsk W w p q R Y l dv v S) (o : OpenR 67 62 w q R Y l dv e w') :
    ∃ p v S dv', e = .returned (.tuple #[.pointer (some ⟨p, 0, none⟩), .int .i64 (l.length - openN l : Int)]) ∧ Lsk W w' p q R (min Y (openN l : Int)) (l.take (openN l)) dv' v S ∧ bytesS S = (scanL l).1 ∧ Kp (Ft q dv) w w' ∧ ∀ g, Ft q dv' g → Ft q dv g ∨ w.heap.size ≤ g := by
  obtain ⟨p, v, S, dv', he, g, hs, k, n⟩ := o
  exact ⟨p, v, S, dv', he, ⟨g, fun i z => (n i z).elim (fun z => h.hi i (.inr (.inr z))) (Nat.le_trans h.at_.size), h.at_.trans (k.below h.at_.size fun k hk => h.hi k (.inr (.inr hk)))⟩, hs, k, fun g hg => n g (.inr (.inr hg))⟩
/-- an own list, where it lies, its length by a name -/
theorem ownl_at {B : Nat} {w : World} {v : Value} {S : List SlB} (h : OwnL B w v S) {n : Nat} (e : S.length = n) : ∃ A c, v = .slice A n c ∧ LsAt w A n S ∧ n ≤ c ∧ (A = none → c = 0) := by
  subst e; exact h.at_
theorem file_cut {r : List (List UInt8)} {n c : Nat} (h : (framesL (r.take n)).length ≤ c) : ((framesL r).take c).take (framesL (r.take n)).length = framesL (r.take n) := by
  rw [List.take_take, Nat.min_eq_left h, frames_take]
end Go.Proofs.YtniphbfoppocfaaDoor.Wl
