/- slices.SortFunc at spans, by iv.Norm's closure; slices.Clone, DeleteFunc and SortFunc at a nil slice of spans. -/
import Derived.Test.YtjodhfehfpmfaaaIvA
import Derived.Test.YtjodhfehfpmfaaaIvDelS
import Derived.Shelf.SlSortCmp.NoneTotal
set_option linter.unusedVariables false
namespace Go.Proofs.Ytjodhfehfpmfaaa.Iv
open Go.RowKit Go.Sort

/-- iv.Norm's closure -/
theorem cmp_is (x y : Int × Int) (W : World) : Calls Try.prog 55 #[.agg #[.int .i64 x.1, .int .i64 x.2], .agg #[.int .i64 y.1, .int .i64 y.2]] W fun e w' => e = .returned (.int .i64 (Lib.compareInt x.1 y.1)) ∧ ∃ q os', w' = grow (W.drewN q) os' := by
  have hcon := fun W' => Try.cmp_Compare_int x.1 y.1 W'
  generalize Lib.compareInt x.1 y.1 = r at hcon ⊢
  go_enter Try.func55, Try.ntmps55
  go_wp2_with (go_at_call 56; refine (hcon _).mono ?_; rintro e w' ⟨rfl, rfl⟩)
  go_ret
  exact ⟨rfl, 0, _, by rw [alloc_eq_grow, alloc_eq_grow, grow_grow]; rfl⟩
theorem lt_lo (x y : Int × Int) : ltOf (fun x y : Int × Int => Lib.compareInt x.1 y.1) x y = decide (x.1 < y.1) := by
  unfold ltOf Lib.compareInt
  by_cases h1 : x.1 < y.1
  · simp [h1]
  · by_cases h2 : y.1 < x.1 <;> simp [h1, h2]
theorem swo_lo : SWO (ltOf fun x y : Int × Int => Lib.compareInt x.1 y.1) where
  irrefl x := by rw [lt_lo]; simp
  trans x y z h1 h2 := by rw [lt_lo] at *; simp at *; omega
  ntrans x y z h1 h2 := by rw [lt_lo] at *; simp at *; omega
theorem kp_sortWorld {α : Type} [Inhabited α] (enc : α → List Value) (k : Nat) (w : World) (g n : Nat) (d : Array α) (os : Array Obj) : Kp (· = g) w (sortWorldK enc k w g 0 n d os) := by
  refine ⟨rfl, rfl, rfl, ?_, fun j hj hf => ?_⟩
  · unfold sortWorldK grow putRowK putRow mapBlock Sort.ahead
    simp
  · unfold sortWorldK grow putRowK putRow mapBlock Sort.ahead
    simp only
    rw [Array.getElem?_append_left (by simpa using hj), Array.getElem?_modify, if_neg (fun e => hf e.symm)]
/-- the sort at one element or more, at none too, in a row -/
theorem sort_is (w : World) (g cap : Nat) (l : List (Int × Int)) (h : RowIs w g 40 2 cap (cellsL encS l)) (hl : l.length ≤ 1000000) :
    Calls Try.prog 54 #[.slice (some ⟨g, 0, none⟩) l.length cap, .func (.func 55) #[] #[]] w fun e w' => e = .returned (.tuple #[]) ∧ ∃ m : List (Int × Int), m.Perm l ∧ (m.Pairwise fun a b => a.1 ≤ b.1) ∧ SpAt w' (some ⟨g, 0, none⟩) m.length m ∧ Kp (· = g) w w' := by
  have eg : ∀ args w, (callFunc 55 args).run Try.prog w = .ok (.enter 55 args) w := enters_of Try.func55 (by kernel_rfl) rfl
  have hH : HoldsK encS 2 w g 0 l.toArray := by
    intro j hj
    rw [size_flatK] at hj
    have hj2 : j < l.length * 2 := by simpa using hj
    have e := get_flatK encS 2 l.toArray j (by simpa using hj)
    refine ⟨?_, by rw [Nat.zero_add]; exact h.frozen j⟩
    rw [Nat.zero_add]
    refine h.cell ?_
    have a := cells_get (enc := encS) (k := 2) (fun _ => rfl) l (j / 2) (j % 2) (by omega) (by omega)
    rw [show j / 2 * 2 + j % 2 = j by omega] at a
    rw [a, e]
    have b : (l.toArray)[j / 2]! = gt l (j / 2) := by rw [gt_lt (by omega), getElem!_pos _ _ (by simp; omega)]; simp
    rw [b]
    have c : j % 2 < (encS (gt l (j / 2))).length := by show j % 2 < 2; omega
    rw [getElem!_pos (encS (gt l (j / 2))) (j % 2) c, List.getElem?_eq_getElem c]
    rfl
  have := Try.slices_SortFunc_f54 2 Try.isAgg40 Try.sizeOf40 encS (fun _ => rfl) encS_one (fun x y => Lib.compareInt x.1 y.1) swo_lo 55 #[] g 0 cap l.toArray w eg (fun _ _ _ _ x y => cmp_is x y _) hH h.lt (by simp; omega)
  rw [List.size_toArray] at this
  refine this.mono ?_
  rintro e w' ⟨he, d', n, os, hp, hs, rfl⟩
  have hsz : d'.size = l.length := by have := hp.1; simpa using this
  refine ⟨he, d'.toList, ?_, ?_, ?_, kp_sortWorld encS 2 w g n d' os⟩
  · have := hp.2.2
    rw [← hsz] at this
    have a : d'.extract 0 d'.size = d' := Array.extract_size
    have b : l.toArray.extract 0 d'.size = l.toArray := by rw [hsz]; simp
    rw [a, b] at this
    simpa using this
  · rw [List.pairwise_iff_getElem]
    intro i j hi hj hij
    have := hs i j (Nat.zero_le _) hij (by simpa [hsz] using hj)
    rw [lt_lo] at this
    have c := of_decide_eq_false this
    rw [getElem!_pos d' j (by simpa using hj), getElem!_pos d' i (by simpa using hi)] at c
    simp only [Array.getElem_toList]
    omega
  · have hk : HoldsK encS 2 (sortWorldK encS 2 w g 0 n d' os) g 0 d' :=
      holdsK_grow encS 2 _ os g 0 d' (by unfold putRowK putRow mapBlock Sort.ahead; simpa using h.lt) (holdsK_putRowK encS 2 _ g 0 l.toArray d' (holdsK_ahead encS 2 w n g 0 _ hH) (by simpa using hsz))
    refine ⟨rfl, fun h0 => ⟨g, 0, rfl, Nat.lt_of_lt_of_le h.lt (kp_sortWorld encS 2 w g n d' os).size, fun j hj => ?_⟩⟩
    have hj2 : j < d'.size := by simpa using hj
    have a := (hk.cell (i := j) (c := 0) hj2 (by omega)).1
    have b := (hk.cell (i := j) (c := 1) hj2 (by omega)).1
    have e : d'[j]! = gt d'.toList j := by rw [gt_lt hj, getElem!_pos d' j hj2]; simp
    rw [e] at a b
    exact ⟨a, b⟩
theorem sort_nil (cap : Nat) (fv : Value) (w : World) : Calls Try.prog 54 #[.slice none 0 cap, fv] w fun e w' => e = .returned (.tuple #[]) ∧ w' = w := AnyF.slices_SortFunc_none Try.laysSlF06_f54 none cap fv w
theorem index_nil (fv : Value) (w : World) : Calls Try.prog 83 #[.slice none 0 0, fv] w fun e w' => e = .returned (.int .i64 (-1)) ∧ w = w' := by
  go_enter Try.func83, Try.ntmps83
  go_wp2
  refine wp_loop_rounds 1 ?_
  rw [rounds_succ]
  go_wp2
  go_ret
  exact ⟨rfl, rfl⟩
theorem del_nil (fv : Value) (w : World) : Calls Try.prog 51 #[.slice none 0 0, fv] w fun e w' => e = .returned (.slice none 0 0) ∧ w = w' := by
  go_enter Try.func51, Try.ntmps51
  go_wp2_with (go_at_call 83; refine (index_nil _ _).mono ?_; rintro e w' ⟨rfl, rfl⟩)
  go_ret
  exact ⟨rfl, rfl⟩
set_option maxRecDepth 100000 in
/-- slices.Clone at spans -/
theorem cloneS_is (w : World) (b off n c : Nat) (l : List (Int × Int)) (hA : SpAt w (some ⟨b, off, none⟩) n l) (hl : n ≤ 1000000) :
    Calls Try.prog 52 #[.slice (some ⟨b, off, none⟩) n c] w fun e w' => ∃ g cap, e = .returned (.slice (some ⟨g, 0, none⟩) l.length cap) ∧ RowIs w' g 40 2 cap (cellsL encS l) ∧ l.length ≤ cap ∧ w.heap.size ≤ g ∧ Below w.heap.size w w' := by
  obtain ⟨i0, hi, hz0, hz1, hz2⟩ := info_parts info_sp
  have e := hA.1
  refine (Try.slices_Clone_f52 i0 _ 2 16 hi hz0 hz1 hz2 rfl (by decide) Try.sizeOf40 b off n c (cellsL encS l) w (by rw [cells_len (k := 2) (fun _ => rfl), e]) (by unfold maxLen; omega) (by omega) (fun j u hj => ?_) (cells_one encS_one l)).mono ?_
  · have hj2 : j < l.length * 2 := by have := (List.getElem?_eq_some_iff.1 hj).1; rwa [cells_len (k := 2) (fun _ => rfl)] at this
    obtain ⟨b', o', ea, hb, hc⟩ := hA.2 (by omega)
    injection ea with ea
    injection ea with e1 e2
    subst e1 e2
    have a := cells_get (enc := encS) (k := 2) (fun _ => rfl) l (j / 2) (j % 2) (by omega) (by omega)
    rw [show j / 2 * 2 + j % 2 = j by omega, hj] at a
    obtain ⟨c0, c1⟩ := hc (j / 2) (by omega)
    rcases (by omega : j % 2 = 0 ∨ j % 2 = 1) with q | q
    · rw [q] at a
      rw [show off + j = off + j / 2 * 2 by omega, c0]
      exact a.symm
    · rw [q] at a
      rw [show off + j = off + j / 2 * 2 + 1 by omega, c1]
      exact a.symm
  · rintro e w' ⟨v', rfl, hown, hne, hb⟩
    rcases hown.2 with ⟨h', _⟩ | ⟨g, cap, cur, rfl, hbg, hg, hnc, hcm, hcs, htake⟩
    · exact absurd h' hne
    · obtain ⟨r, -, q, -⟩ := row_of hown
      exact ⟨g, cap, by rw [e], r, by omega, hbg, hb⟩
set_option maxRecDepth 100000 in
/-- .. at any address, if there are no elements -/
theorem cloneS_empty (w : World) (a : Addr) (c : Nat) :
    Calls Try.prog 52 #[.slice (some a) 0 c] w fun e w' => ∃ g cap, e = .returned (.slice (some ⟨g, 0, none⟩) 0 cap) ∧ RowIs w' g 40 2 cap [] ∧ w.heap.size ≤ g ∧ Below w.heap.size w w' := by
  have eq : ∀ w', (binOp .eql 22 (.slice (some a) 0 c) (.slice none 0 0)).run Try.prog w' = .ok (.bool false) w' := fun w' => run_eql_slice_nil (P := Try.prog) w' 22 40 (some a) 0 c Try.underlying22
  go_enter Try.func52, Try.ntmps52
  go_wp2
  go_ret
  exact ⟨_, 0, rfl, ⟨⟨#[], heap_alloc_new w _, rfl, rfl⟩, by unfold maxLen; decide⟩, Nat.le_refl _, below_alloc _ _⟩
/-- slices.Clone at spans, whatever the address of none -/
theorem cloneS_any (w : World) (a : Addr) (n c : Nat) (l : List (Int × Int)) (hA : SpAt w (some a) n l) (hl : n ≤ 1000000) :
    Calls Try.prog 52 #[.slice (some a) n c] w fun e w' => ∃ g cap, e = .returned (.slice (some ⟨g, 0, none⟩) l.length cap) ∧ RowIs w' g 40 2 cap (cellsL encS l) ∧ l.length ≤ cap ∧ w.heap.size ≤ g ∧ Below w.heap.size w w' := by
  by_cases h0 : 0 < n
  · obtain ⟨b, o, e, -, -⟩ := hA.2 h0
    injection e with e
    subst e
    exact cloneS_is w b o n c l hA hl
  · obtain rfl : n = 0 := by omega
    obtain rfl : l = [] := List.length_eq_zero_iff.1 hA.1.symm
    refine (cloneS_empty w a c).mono ?_
    rintro e w' ⟨g, cap, rfl, h1, h2, h3⟩
    exact ⟨g, cap, rfl, h1, Nat.zero_le _, h2, h3⟩
end Go.Proofs.Ytjodhfehfpmfaaa.Iv
