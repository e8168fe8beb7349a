/- What TimerOrder wants: own slices of items, counts. -/
import Derived.Test.YtjodhfehfpmfaaaTiPu
set_option linter.unusedVariables false
namespace Go.Proofs.Ytjodhfehfpmfaaa.Ti
open Go.RowKit Iv

theorem own_kp {F : Nat → Prop} {w w' : World} {base : Nat} {e : TypeId} {size : Nat} {v : Value} {n : Nat} {xs : List Value} (h : w.ownsRow base e size v n xs) (k : Kp F w w') (hf : ∀ g, v.ownBlock = some g → ¬ F g) : w'.ownsRow base e size v n xs := by
  refine ⟨h.1, ?_⟩
  rcases h.2 with q | ⟨g, cap, cur, rfl, hb, hg, rest⟩
  · exact .inl q
  · have lt : g < w.heap.size := (World.ownsRow.lt h g rfl).2
    exact .inr ⟨g, cap, cur, rfl, hb, (k.block g lt (hf g rfl)).trans hg, rest⟩
/-- an own slice of items -/
def OwnQ (B : Nat) (w : World) (v : Value) (l : List It) : Prop := w.ownsRow B 70 2 v l.length (cellsL Iv.encS l)
theorem OwnQ.nil (B : Nat) (w : World) : OwnQ B w (.slice none 0 0) [] := World.ownsRow_nil _ _ _ _
theorem OwnQ.sp {B : Nat} {w : World} {v : Value} {l : List It} (h : OwnQ B w v l) : ∃ A c, v = .slice A l.length c ∧ SpAt w A l.length l ∧ l.length ≤ c := by
  rcases h.2 with ⟨rfl, h0⟩ | ⟨g, cap, cur, rfl, hb, hg, hnc, hcm, -⟩
  · have e : l = [] := List.length_eq_zero_iff.1 h0
    subst e
    exact ⟨none, 0, rfl, SpAt.nil _ _, Nat.le_refl _⟩
  · obtain ⟨r, -, -, -⟩ := row_of h
    refine ⟨some ⟨g, 0, none⟩, cap, rfl, ⟨rfl, fun h0 => ⟨g, 0, rfl, r.lt, fun j hj => ?_⟩⟩, hnc⟩
    rw [Nat.zero_add]
    exact its_cell r hj
theorem QB.app {w w' : World} {q : Nat} {L : List It} {B : Nat} {X : Nat → Prop} (h : QB w q L B X) (K : Kp X w w') (Y : Nat → Prop) (hY : ∀ k, Y k → k < w'.heap.size ∧ (X k ∨ w.heap.size ≤ k)) : QB w' q L B Y := by
  obtain ⟨F, H, a, b, z⟩ := h
  have sz := K.size
  exact ⟨F, H.on K fun k f _ => (a k f).2.2, fun k hk => ⟨(a k hk).1, by have := (a k hk).2.1; omega, fun y => (hY k y).2.elim (a k hk).2.2 fun e => by have := (a k hk).2.1; omega⟩, fun k hk => (hY k hk).1, by omega⟩
theorem sp_cellsQ {w : World} {ad : Addr} {m : Nat} {l : List It} (h : SpAt w (some ad) m l) : ∀ j u, (cellsL Iv.encS l)[j]? = some u → w.cell? (ad.add j) = some u := by
  intro j u hj
  have hj2 : j < l.length * 2 := by have := (List.getElem?_eq_some_iff.1 hj).1; rwa [cells_len (k := 2) (fun _ => rfl)] at this
  obtain ⟨b, off, ea, -, hc⟩ := h.2 (by rw [h.1]; omega)
  injection ea with ea
  subst ea
  rw [addr_off]
  have a := cells_get (enc := Iv.encS) (k := 2) (fun _ => rfl) l (j / 2) (j % 2) (by omega) (by omega)
  rw [show j / 2 * 2 + j % 2 = j by omega, hj] at a
  obtain ⟨c0, c1⟩ := hc (j / 2) (by rw [h.1]; omega)
  rcases (by omega : j % 2 = 0 ∨ j % 2 = 1) with q | q
  · rw [q] at a
    rw [show off + j = off + j / 2 * 2 by omega, c0]
    exact a.symm
  · rw [q] at a
    rw [show off + j = off + j / 2 * 2 + 1 by omega, c1]
    exact a.symm
/-- append of one item -/
theorem append_it {ops : Array Oper} {rest : List Oper} {o : Oper} {a : Act} {Q : Exit → Act → World → Prop} {B : Nat} {w : World} (hgd : o.guard = none) (s x : Operand)
    (ho : o.op = .call { callee := .builtin .append, args := #[s, x], argTypes := #[82, 82] })
    (v : Value) (l : List It) (hs : a.eval s = v) (hown : OwnQ B w v l) (hB : B ≤ w.heap.size) (y : It) (c : Nat) (hx : a.eval x = .slice (some ⟨w.heap.size, 0, none⟩) 1 c) (hl : l.length ≤ 100000)
    (h : ∀ v' w', OwnQ B w' v' (l ++ [y]) → Kp (fun k => v.ownBlock = some k) w w' → (∀ k, v'.ownBlock = some k → k < w'.heap.size ∧ (v.ownBlock = some k ∨ w.heap.size ≤ k)) → wpList Try.prog ops Q rest (a.put o.dst v') w') : wpList Try.prog ops Q (o :: rest) a (w.alloc (.cells #[.int .i64 y.1, .int .i64 y.2] 70)) := by
  obtain ⟨i0, hi, hz0, hz1, hz2⟩ := info_parts info_it
  have ba := below_alloc w (.cells #[.int .i64 y.1, .int .i64 y.2] 70)
  refine wpList_append_lies _ hgd s x 82 ho B 70 i0 _ 2 16 Try.underlying82 hi hz0 hz1 hz2 rfl (by decide) v l.length (cellsL Iv.encS l) hs (World.ownsRow.alloc hown _)
    ⟨w.heap.size, 0, none⟩ 1 c (Iv.encS y) hx rfl (newcellsQ w #[.int .i64 y.1, .int .i64 y.2] 70) (encS_one y) (by omega) (by unfold maxLen; omega) (by omega) (Nat.le_trans hB ba.size) _ rfl ?_
  intro g cap w2 ho2 hg2 hb2 hl2
  have K : Kp (fun k => v.ownBlock = some k) (w.alloc (.cells #[.int .i64 y.1, .int .i64 y.2] 70)) w2 := Kp.grown hg2 fun k hk => hk
  refine h _ w2 ?_ ((Kp.of ba).trans K) fun k hk => ?_
  · unfold OwnQ
    rw [List.length_append, cells_app]
    have : cellsL Iv.encS [y] = Iv.encS y := by simp [cellsL]
    rw [this]
    exact ho2
  · have e : g = k := by simpa [Value.ownBlock] using hk
    subst e
    refine ⟨hl2, hb2.imp id fun e => ?_⟩
    have : g = w.heap.size + 1 := by rw [e]; simp
    omega
/-- append of items that are read -/
theorem append_its {ops : Array Oper} {rest : List Oper} {o : Oper} {a : Act} {Q : Exit → Act → World → Prop} {B : Nat} {w : World} (hgd : o.guard = none) (s x : Operand)
    (ho : o.op = .call { callee := .builtin .append, args := #[s, x], argTypes := #[82, 82] })
    (v : Value) (l : List It) (hs : a.eval s = v) (hown : OwnQ B w v l) (hB : B ≤ w.heap.size) (ad : Addr) (m c : Nat) (l2 : List It) (h2 : SpAt w (some ad) m l2)
    (hx : a.eval x = .slice (some ad) m c) (hl : l.length + m ≤ 1000000)
    (h : ∀ v' w', OwnQ B w' v' (l ++ l2) → Below B w w' → wpList Try.prog ops Q rest (a.put o.dst v') w') : wpList Try.prog ops Q (o :: rest) a w := by
  obtain ⟨i0, hi, hz0, hz1, hz2⟩ := info_parts info_it
  have e2 := h2.1
  refine wpList_append_own _ hgd s x 82 ho B 70 i0 _ 2 16 Try.underlying82 hi hz0 hz1 hz2 rfl (by decide) v l.length (cellsL Iv.encS l) hs hown
    ad m c (cellsL Iv.encS l2) hx (by rw [cells_len (k := 2) (fun _ => rfl), e2]) (sp_cellsQ h2) (cells_one encS_one l2) (by unfold maxLen; omega) (by omega) hB ?_
  intro v' w' hown' hg _
  refine h v' w' ?_ ((Below.refl _ _).grown hg hB fun _ hk => (World.ownsRow.lt hown _ hk).1)
  unfold OwnQ
  rw [List.length_append, cells_app, ← e2]
  exact hown'
/-- append of nothing -/
theorem append_none {ops : Array Oper} {rest : List Oper} {o : Oper} {a : Act} {Q : Exit → Act → World → Prop} {w : World} (hgd : o.guard = none) (s x : Operand)
    (ho : o.op = .call { callee := .builtin .append, args := #[s, x], argTypes := #[82, 82] })
    (A : Option Addr) (n c c2 : Nat) (hs : a.eval s = .slice A n c) (hx : a.eval x = .slice none 0 c2) (hl : n ≤ c)
    (h : wpList Try.prog ops Q rest (a.put o.dst (.slice A n c)) w) : wpList Try.prog ops Q (o :: rest) a w := by
  obtain ⟨i0, hi, hz0, hz1, hz2⟩ := info_parts info_it
  have hr : ∀ ty, (Builtin.append_ #[82, 82] ty #[.slice A n c, .slice none 0 c2]).run Try.prog w = .ok (.slice A n c) w := by
    intro ty
    cases A <;> simp [Builtin.append_, run_underlying Try.underlying82, sizeOf, typeInfo, hi, Builtin.lenOf, hl, Builtin.firstCells, storeCells]
  refine wpList_plain hgd fun _ hK => ?_
  unfold Oper.wp execOp
  simp only [ho, resolve, invoke, builtin, Sem.run_bind, Sem.run_pure, Result.andThen_ok, List.map_toArray, List.map_cons, List.map_nil, hs, hx, hr]
  exact hK _ _ h
/-- of the first k, how many are x? -/
def cntG (f : Nat → It) (x : It) : Nat → Nat
  | 0 => 0
  | k + 1 => cntG f x k + (if f k = x then 1 else 0)
theorem cntG_le (f : Nat → It) (x : It) : ∀ k, cntG f x k ≤ k
  | 0 => Nat.le_refl _
  | k + 1 => by
    have := cntG_le f x k
    show cntG f x k + (if f k = x then 1 else 0) ≤ k + 1
    split <;> omega
theorem cntG_list (l : List It) (x : It) : ∀ k, k ≤ l.length → cntG (gt l) x k = ((l.take k).filter fun y => decide (y = x)).length
  | 0, _ => rfl
  | k + 1, h => by
    show cntG (gt l) x k + (if gt l k = x then 1 else 0) = _
    rw [cntG_list l x k (by omega), List.take_succ_eq_append_getElem h, List.filter_append, List.length_append, gt_lt h]
    by_cases e : l[k] = x <;> simp [e]
theorem cntG_map (ops : List Tg) (x : It) : ∀ k, k ≤ ops.length → cntG (fun j => itOf (gt ops j)) x k = cntG (gt (ops.map itOf)) x k
  | 0, _ => rfl
  | k + 1, h => by
    show cntG (fun j => itOf (gt ops j)) x k + (if itOf (gt ops k) = x then 1 else 0) = cntG (gt (ops.map itOf)) x k + (if gt (ops.map itOf) k = x then 1 else 0)
    rw [cntG_map ops x k (by omega)]
    have : gt (ops.map itOf) k = itOf (gt ops k) := by rw [gt_lt (by rw [List.length_map]; exact h), gt_lt h, List.getElem_map]
    rw [this]
theorem cntG_same {ops : List Tg} {L : List It} (hp : L.Perm (ops.map itOf)) (x : It) : cntG (fun j => itOf (gt ops j)) x ops.length = cntG (gt L) x ops.length := by
  have hl : L.length = ops.length := by rw [hp.length_eq, List.length_map]
  rw [cntG_map ops x _ (Nat.le_refl _), cntG_list _ x _ (by rw [List.length_map]; exact Nat.le_refl _), cntG_list L x _ (by omega), List.take_of_length_le (by rw [List.length_map]; exact Nat.le_refl _), List.take_of_length_le (by omega)]
  exact ((hp.filter _).length_eq).symm
/-- what is left is not due -/
theorem left_late {now : Int} {R : List It} (hs : Srt R) (hd : due now R = false) : ∀ j, j < R.length → now < (gt R j).1 := fun j hj => by
  cases R with
  | nil => simp at hj
  | cons a R =>
    have h1 : now < a.1 := by have := of_decide_eq_false hd; omega
    have h2 := srt_head hs (gt_mem hj)
    rw [ltB_f] at h2
    omega
end Go.Proofs.Ytjodhfehfpmfaaa.Ti
