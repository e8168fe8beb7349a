/- A region that draws and makes memory: each of its operations by itself, in whatever order. -/
import Derived.Test.YtniphbfoppocfaaDoorDkC
import Derived.OrdersHeld
set_option linter.unusedVariables false
namespace Go.Proofs.YtniphbfoppocfaaDoor.Dk
open Go.RowKit

section
variable {P : Program} {ops : Array Oper} {Q : Exit → Act → World → Prop} {md : Region.Mode} {S : World → Prop} {late : Nat → Bool}
/-- In whatever order the rest comes up; behind what is not late the world meets S. -/
def Late (P : Program) (md : Region.Mode) (ops : Array Oper) (Q : Exit → Act → World → Prop) (S : World → Prop) (late : Nat → Bool) (g : Nat) (listed : Array Bool) (a : Act) (w : World) : Prop :=
  match g with
  | 0 => Region.ready md ops listed = [] ∧ Q .normal a w
  | g + 1 => (Region.ready md ops listed = [] → Q .normal a w) ∧
    ∀ k, k ∈ Region.ready md ops listed → wpOp P ops Q k (fun b v => (late k = true ∨ S v) ∧ Late P md ops Q S late g (listed.setIfInBounds k true) b v) a w
theorem Late.any : ∀ (g : Nat) {listed : Array Bool} {a : Act} {w : World}, Late P md ops Q S late g listed a w → wpAny P md ops Q g listed a w
  | 0, _, _, _, h => by unfold Late at h; exact h
  | g + 1, _, _, _, h => by
    unfold Late at h
    exact ⟨h.1, fun k hk => wpOp_mono (fun b v q => Late.any g q.2) (h.2 k hk)⟩
/-- every late operation waits for operation i -/
def waitsB (md : Region.Mode) (ops : Array Oper) (late : Nat → Bool) (i : Nat) : Bool :=
  (List.range ops.size).all fun j => !late j || ((ops[j]?).map fun o => o.after.any fun e => Region.binds md e && e.on == i).getD false
theorem waits_of {i j : Nat} {o : Oper} (h : waitsB md ops late i = true) (ho : ops[j]? = some o) (hl : late j = true) : ∃ e ∈ o.after, Region.binds md e = true ∧ e.on = i := by
  have hj : j < ops.size := (Array.getElem?_eq_some_iff.1 ho).1
  have := List.all_eq_true.1 h j (List.mem_range.2 hj)
  rw [hl, ho] at this
  simp only [Bool.not_true, Bool.false_or, Option.map_some, Option.getD_some, Array.any_eq_true'] at this
  obtain ⟨e, he, h2⟩ := this
  rw [Bool.and_eq_true] at h2
  exact ⟨e, he, h2.1, by simpa using h2.2⟩
/-- One that is ready, yields its value in each world that meets S and is apart from what does not wait for it, may be taken ahead of the others. -/
theorem Late.ahead {i : Nat} {o : Oper} {v : Value} (ho : ops[i]? = some o) (nosel : ∀ (j : Nat) (u : Oper) cs b, ops[j]? = some u → u.op ≠ .select cs b)
    (pan : ∀ c a w, Q (.panic c) (a.put o.dst v) w → Q (.panic c) a w) (wait : waitsB md ops late i = true) (g : Nat) :
    ∀ {listed : Array Bool} {a : Act} {w : World}, (∀ j u, ops[j]? = some u → j ≠ i → listed.getD j true = false → (∀ e ∈ u.after, Region.binds md e = true → e.on ≠ i) → o.apart ops u = true) →
      i ∈ Region.ready md ops listed → YieldsIf P ops S o v a → S w → Late P md ops Q S late g (listed.setIfInBounds i true) (a.put o.dst v) w → Late P md ops Q S late (g + 1) listed a w := by
  induction g with
  | zero =>
    intro listed a w free rd yi hS H
    unfold Late
    refine ⟨fun e => absurd rd (by rw [e]; simp), fun j hj => ?_⟩
    by_cases e : j = i
    · subst e; exact yi.wpOp ho hS ⟨.inr hS, H⟩
    · unfold Late at H
      have r := ready_mono hj e
      rw [H.1] at r; cases r
  | succ g ih =>
    intro listed a w free rd yi hS H
    unfold Late
    refine ⟨fun e => absurd rd (by rw [e]; simp), fun j hj => ?_⟩
    by_cases e : j = i
    · subst e; exact yi.wpOp ho hS ⟨.inr hS, H⟩
    · have H0 := H
      unfold Late at H0
      obtain ⟨open_, u, hu, met⟩ := mem_ready.1 hj
      -- j does not wait for i, which is still open
      have off : ∀ x ∈ u.after, Region.binds md x = true → x.on ≠ i := fun x hx hb q => by
        have m := met x hx hb
        rw [q] at m
        have op := (mem_ready.1 rd).1
        rcases Nat.lt_or_ge i listed.size with lt | ge
        · simp [lt] at m op; rw [m] at op; cases op
        · simp [Array.getElem?_eq_none ge] at m
      have early : late j = false := by
        cases q : late j
        · rfl
        · obtain ⟨x, hx, hb, z⟩ := waits_of wait hu q
          exact absurd z (off x hx hb)
      have step := wpOp_putIf hu (free j u hu e open_ off) (fun cs b => nosel i o cs b ho) (fun cs b => nosel j u cs b hu) pan yi (H0.2 j (ready_mono hj e))
      refine wpOp_mono (fun b v' q => ?_) step
      have hS2 : S v' := by
        rcases q.2.1 with z | z
        · rw [early] at z; cases z
        · exact z
      refine ⟨.inr hS2, ih (fun k x hx ki un no => free k x hx ki ?_ no) (ready_mono rd (Ne.symm e)) q.1 hS2 (by rw [Array.setIfInBounds_comm _ _ e]; exact q.2.2)⟩
      by_cases jk : j = k
      · subst jk; exact open_
      · rw [getD_set_ne true jk] at un; exact un
/-- operation i ahead, its side conditions as Bools -/
theorem Late.take (i : Nat) {o : Oper} (v : Value) {g : Nat} {listed : Array Bool} {a : Act} {w : World} (ho : ops[i]? = some o) (hs : Region.noSelect ops = true) (hf : Region.free md ops listed i = true) (hr : (Region.ready md ops listed).contains i = true)
    (hw : waitsB md ops late i = true) (pan : ∀ c a w, Q (.panic c) (a.put o.dst v) w → Q (.panic c) a w) (hy : YieldsIf P ops S o v a) (hS : S w) (h : Late P md ops Q S late g (listed.setIfInBounds i true) (a.put o.dst v) w) : Late P md ops Q S late (g + 1) listed a w :=
  Late.ahead ho (Region.noSelect_spec hs) pan hw g (Region.free_spec ho hf) (by simpa using hr) hy hS h
/-- operation i alone is ready -/
theorem Late.one (i : Nat) {o : Oper} {g : Nat} {listed : Array Bool} {a : Act} {w : World} (ho : ops[i]? = some o) (hr : Region.ready md ops listed = [i]) (hg : o.guard = none)
    (h : Oper.wp P o a w (fun b v => (late i = true ∨ S v) ∧ Late P md ops Q S late g (listed.setIfInBounds i true) b v) Q) : Late P md ops Q S late (g + 1) listed a w := by
  unfold Late
  refine ⟨fun e => absurd (hr ▸ e) (by simp), fun k hk => ?_⟩
  rw [hr] at hk
  obtain rfl := List.mem_singleton.1 hk
  unfold wpOp
  simp only [ho]
  rw [if_pos (by simp [Region.wanted, hg])]
  exact .inl h
theorem Late.done {g : Nat} {listed : Array Bool} {a : Act} {w : World} (hr : Region.ready md ops listed = []) (h : Q .normal a w) : Late P md ops Q S late g listed a w := by
  cases g with
  | zero => unfold Late; exact ⟨hr, h⟩
  | succ g => unfold Late; exact ⟨fun _ => h, by rw [hr]; simp⟩
theorem wp_region_late {id : Nat} {a : Act} {w : World} (late : Nat → Bool) (S : World → Prop) (hm : P.follows .mixedOrders = true) (h : Late P .any ops Q S late ops.size (Array.replicate ops.size false) a w.drew) : (Code.region id ops true).wp P Q a w :=
  wp_region_any hm (Late.any _ h)
/-- two are ready -/
theorem Late.two (i j : Nat) {oi oj : Oper} {g : Nat} {listed : Array Bool} {a : Act} {w : World} (hi : ops[i]? = some oi) (hj : ops[j]? = some oj) (hr : Region.ready md ops listed = [i, j]) (gi : oi.guard = none) (gj : oj.guard = none)
    (h1 : Oper.wp P oi a w (fun b v => (late i = true ∨ S v) ∧ Late P md ops Q S late g (listed.setIfInBounds i true) b v) Q)
    (h2 : Oper.wp P oj a w (fun b v => (late j = true ∨ S v) ∧ Late P md ops Q S late g (listed.setIfInBounds j true) b v) Q) : Late P md ops Q S late (g + 1) listed a w := by
  unfold Late
  refine ⟨fun e => absurd (hr ▸ e) (by simp), fun k hk => ?_⟩
  rw [hr] at hk
  rcases List.mem_cons.1 hk with rfl | hk
  · unfold wpOp
    simp only [hi]
    rw [if_pos (by simp [Region.wanted, gi])]
    exact .inl h1
  · obtain rfl := List.mem_singleton.1 hk
    unfold wpOp
    simp only [hj]
    rw [if_pos (by simp [Region.wanted, gj])]
    exact .inl h2
end
section
variable {P : Program} {ops : Array Oper} {Q : Exit → Act → World → Prop} {md : Region.Mode} {S : World → Prop} {late : Nat → Bool}
/-- operation i alone is ready, and its guard is met -/
theorem late_oneG (i : Nat) {o : Oper} {g : Nat} {listed : Array Bool} {a : Act} {w : World} (ho : ops[i]? = some o) (hr : Region.ready md ops listed = [i]) (hg : Region.wanted o (yielded ops a.tmps) = true)
    (h : Oper.wp P o a w (fun b v => (late i = true ∨ S v) ∧ Late P md ops Q S late g (listed.setIfInBounds i true) b v) Q) : Late P md ops Q S late (g + 1) listed a w := by
  unfold Late
  refine ⟨fun e => absurd (hr ▸ e) (by simp), fun k hk => ?_⟩
  rw [hr] at hk
  obtain rfl := List.mem_singleton.1 hk
  unfold wpOp
  simp only [ho]
  rw [if_pos hg]
  exact .inl h
/-- two are ready, their guards are met -/
theorem late_twoG (i j : Nat) {oi oj : Oper} {g : Nat} {listed : Array Bool} {a : Act} {w : World} (hi : ops[i]? = some oi) (hj : ops[j]? = some oj) (hr : Region.ready md ops listed = [i, j]) (gi : Region.wanted oi (yielded ops a.tmps) = true) (gj : Region.wanted oj (yielded ops a.tmps) = true)
    (h1 : Oper.wp P oi a w (fun b v => (late i = true ∨ S v) ∧ Late P md ops Q S late g (listed.setIfInBounds i true) b v) Q)
    (h2 : Oper.wp P oj a w (fun b v => (late j = true ∨ S v) ∧ Late P md ops Q S late g (listed.setIfInBounds j true) b v) Q) : Late P md ops Q S late (g + 1) listed a w := by
  unfold Late
  refine ⟨fun e => absurd (hr ▸ e) (by simp), fun k hk => ?_⟩
  rw [hr] at hk
  rcases List.mem_cons.1 hk with rfl | hk
  · unfold wpOp
    simp only [hi]
    rw [if_pos gi]
    exact .inl h1
  · obtain rfl := List.mem_singleton.1 hk
    unfold wpOp
    simp only [hj]
    rw [if_pos gj]
    exact .inl h2
theorem tk (i : Nat) {o : Oper} (ho : ops[i]? = some o) (v : Value) {g : Nat} {listed : Array Bool} {a : Act} {w : World} (hy : YieldsIf P ops S o v a) (hS : S w) (h : Late P md ops Q S late g (listed.setIfInBounds i true) (a.put o.dst v) w)
    (hs : Region.noSelect ops = true := by kernel_rfl) (hf : Region.free md ops listed i = true := by kernel_rfl) (hr : (Region.ready md ops listed).contains i = true := by kernel_rfl) (hw : waitsB md ops late i = true := by kernel_rfl)
    (pan : ∀ c a w, Q (.panic c) (a.put o.dst v) w → Q (.panic c) a w := by exact fun _ _ _ h => h) : Late P md ops Q S late (g + 1) listed a w :=
  Late.take i v ho hs hf hr hw pan hy hS h
end
end Go.Proofs.YtniphbfoppocfaaDoor.Dk
