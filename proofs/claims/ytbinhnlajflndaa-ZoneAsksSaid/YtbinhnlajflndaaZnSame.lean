/- The walks of slices.Equal at shifts and yearly shifts, and of zone.Same. -/
import Derived.Test.YtbinhnlajflndaaZnPub
import Derived.Laws.StructEq
set_option linter.unusedVariables false
namespace Go.Proofs.Ytbinhnlajflndaa.Zn
open Go.RowKit Cv St

theorem sh_ext {l m : List Sh} (e : l.length = m.length) (h : ∀ j, j < l.length → at_ l j = at_ m j) : l = m := by
  refine List.ext_getElem e fun i h1 h2 => ?_
  have := h i h1
  rwa [at_get h1, at_get h2] at this
theorem yr_ext {l m : List Yr} (e : l.length = m.length) (h : ∀ j, j < l.length → yat l j = yat m j) : l = m := by
  refine List.ext_getElem e fun i h1 h2 => ?_
  have := h i h1
  rwa [yat_get h1, yat_get h2] at this
theorem neq_sh (a0 a1 b0 b1 : Int) (w : World) : (binOp .neq 29 (.agg #[.int .i64 a0, .int .i64 a1]) (.agg #[.int .i64 b0, .int .i64 b1])).run Try.prog w = .ok (.bool (!(a0 == b0 && a1 == b1))) w := by
  have u3 := Try.underlying3
  have a3 := Try.isAgg3
  have z3 := Try.sizeOf3
  have hS : Try.prog.underlying 29 = some (.struct (Try.prog.fieldsOf 29)) := by kernel_rfl
  have hp : Try.prog.stoodInHeld 29 = false := by kernel_rfl
  rw [run_neq_struct, show (10000 : Nat) = 9999 + 1 from rfl, run_equalIn_agg w 9999 29 _ _ hS hp]
  simp only [Program.fieldsOf, Try.underlying29]
  go_simp
  by_cases h0 : a0 = b0 <;> by_cases h1 : a1 = b1 <;> simp [h0, h1]
theorem guard_sh (op : BinOp) (p q : Operand) (a0 a1 b0 b1 : Int) (w : World) : (eqGuard op 29 p q (.agg #[.int .i64 a0, .int .i64 a1]) (.agg #[.int .i64 b0, .int .i64 b1])).run Try.prog w = .ok () w := run_eqGuard_agg w op 29 p q _ _ (by kernel_rfl)
def shTo (l m : List Sh) (k : Nat) : Prop := ∀ j, j < k → at_ l j = at_ m j
theorem shTo.succ {l m : List Sh} {k : Nat} (h : shTo l m k) (e : at_ l k = at_ m k) : shTo l m (k + 1) := fun j hj => by
  by_cases c : j = k
  · subst c; exact e
  · exact h j (by omega)
set_option maxHeartbeats 2000000 in
theorem shEqual_any (w : World) (A A2 : Option Addr) (n n2 c c2 : Nat) (l m : List Sh) (hl : ShAt w A n l) (hm : ShAt w A2 n2 m) (h1 : n ≤ 9223372036854775807) (h2 : n2 ≤ 9223372036854775807) :
    Calls Try.prog 49 #[.slice A n c, .slice A2 n2 c2] w fun e w' => e = .returned (.bool (decide (l = m))) ∧ Below w.heap.size w w' := by
  obtain ⟨en, hc⟩ := hl
  obtain ⟨en2, hc2⟩ := hm
  by_cases hn : n = n2
  · subst hn
    have EN := Lib.hid en
    have EN2 := Lib.hid en2
    clear en en2
    go_enter Try.func49, Try.ntmps49
    go_wp2
    go_loopw [13] (fun i wr => ∃ k : Nat, k ≤ n ∧ i = .int .i64 k ∧ Hid (shTo l m k) ∧ ∃ q : Nat, wr = w.drewN q) (fun i _ => n - (intOf i).toNat)
    case atStart => exact ⟨0, Nat.zero_le _, rfl, Lib.hid (fun j hj => absurd hj (by omega)), 0, rfl⟩
    case round =>
      obtain ⟨k, hk, rfl, D, q, rfl⟩ := hrel
      by_cases hlt : k < n
      · obtain ⟨b, off, rfl, hb, hcc⟩ := hc (by omega)
        obtain ⟨b2, off2, rfl, hb2, hcc2⟩ := hc2 (by omega)
        obtain ⟨c0, c1⟩ := hcc k hlt
        obtain ⟨d0, d1⟩ := hcc2 k hlt
        clear hc hc2 hcc hcc2
        have G := fun (op : BinOp) (p r : Operand) (w : World) => guard_sh op p r (at_ l k).t (at_ l k).o (at_ m k).t (at_ m k).o w
        have E := fun (w : World) => neq_sh (at_ l k).t (at_ l k).o (at_ m k).t (at_ m k).o w
        by_cases he : at_ l k = at_ m k
        · have X := Lib.hid (D.out.succ he)
          have E' : ∀ w : World, (binOp .neq 29 (.agg #[.int .i64 (at_ l k).t, .int .i64 (at_ l k).o]) (.agg #[.int .i64 (at_ m k).t, .int .i64 (at_ m k).o])).run Try.prog w = .ok (.bool false) w := fun w => by rw [E w, he]; simp
          clear E he
          go_wp2
          go_quiet (fail)
          go_wp2
          go_roundw
          case rel => exact ⟨k + 1, by omega, by go_num, X, _, rfl⟩
          case measure => simp [intOf]; omega
        · have F := Lib.hid (show decide (l = m) = false from decide_eq_false fun e => he (by rw [e]))
          have E' : ∀ w : World, (binOp .neq 29 (.agg #[.int .i64 (at_ l k).t, .int .i64 (at_ l k).o]) (.agg #[.int .i64 (at_ m k).t, .int .i64 (at_ m k).o])).run Try.prog w = .ok (.bool true) w := fun w => by
            rw [E w]
            have : ((at_ l k).t == (at_ m k).t && (at_ l k).o == (at_ m k).o) = false := by
              cases c : ((at_ l k).t == (at_ m k).t && (at_ l k).o == (at_ m k).o)
              · rfl
              · exact absurd (by simp only [Bool.and_eq_true, beq_iff_eq] at c; cases hx : at_ l k; cases hy : at_ m k; rw [hx, hy] at c; simp only at c; simp [c]) he
            rw [this]; rfl
          clear E he
          go_wp2
          go_quiet (fail)
          go_wp2
          go_ret
          exact ⟨ret_bool F.out.symm, (Below.drewN' _ _ _).trans (Below.drewN' _ _ _)⟩
      · obtain rfl : n = k := by omega
        have F := Lib.hid (show decide (l = m) = true from decide_eq_true (sh_ext (by rw [← EN.out, ← EN2.out]) (by rw [← EN.out]; exact D.out)))
        go_wp2
        go_ret
        exact ⟨ret_bool F.out.symm, Below.drewN' _ _ _⟩
  · have F := Lib.hid (show decide (l = m) = false from decide_eq_false fun e => hn (by rw [en, en2, e]))
    have t1 : ((n : Int) != n2) = true := by rw [bne_iff_ne]; omega
    clear en en2 hc hc2 hn
    go_enter Try.func49, Try.ntmps49
    go_wp2
    go_ret
    exact ⟨ret_bool F.out.symm, Below.refl _ _⟩
theorem neq_yr (x0 x1 x2 x3 x4 y0 y1 y2 y3 y4 : Int) (w : World) : (binOp .neq 60 (.agg #[.int .i64 x0, .int .i64 x1, .int .i64 x2, .int .i64 x3, .int .i64 x4]) (.agg #[.int .i64 y0, .int .i64 y1, .int .i64 y2, .int .i64 y3, .int .i64 y4])).run Try.prog w = .ok (.bool (!(x0 == y0 && x1 == y1 && x2 == y2 && x3 == y3 && x4 == y4))) w := by
  have u3 := Try.underlying3
  have a3 := Try.isAgg3
  have z3 := Try.sizeOf3
  have hS : Try.prog.underlying 60 = some (.struct (Try.prog.fieldsOf 60)) := by kernel_rfl
  have hp : Try.prog.stoodInHeld 60 = false := by kernel_rfl
  rw [run_neq_struct, show (10000 : Nat) = 9999 + 1 from rfl, run_equalIn_agg w 9999 60 _ _ hS hp]
  simp only [Program.fieldsOf, Try.underlying60]
  go_simp
  by_cases h0 : x0 = y0 <;> by_cases h1 : x1 = y1 <;> by_cases h2 : x2 = y2 <;> by_cases h3 : x3 = y3 <;> by_cases h4 : x4 = y4 <;> simp [h0, h1, h2, h3, h4]
theorem guard_yr (op : BinOp) (p q : Operand) (x0 x1 x2 x3 x4 y0 y1 y2 y3 y4 : Int) (w : World) : (eqGuard op 60 p q (.agg #[.int .i64 x0, .int .i64 x1, .int .i64 x2, .int .i64 x3, .int .i64 x4]) (.agg #[.int .i64 y0, .int .i64 y1, .int .i64 y2, .int .i64 y3, .int .i64 y4])).run Try.prog w = .ok () w := run_eqGuard_agg w op 60 p q _ _ (by kernel_rfl)
def yrTo (l m : List Yr) (k : Nat) : Prop := ∀ j, j < k → yat l j = yat m j
theorem yrTo.succ {l m : List Yr} {k : Nat} (h : yrTo l m k) (e : yat l k = yat m k) : yrTo l m (k + 1) := fun j hj => by
  by_cases c : j = k
  · subst c; exact e
  · exact h j (by omega)
set_option maxHeartbeats 2000000 in
theorem yrEqual_any (w : World) (A A2 : Option Addr) (n n2 c c2 : Nat) (l m : List Yr) (hl : YrAt w A n l) (hm : YrAt w A2 n2 m) (h1 : n ≤ 9223372036854775807) (h2 : n2 ≤ 9223372036854775807) :
    Calls Try.prog 50 #[.slice A n c, .slice A2 n2 c2] w fun e w' => e = .returned (.bool (decide (l = m))) ∧ Below w.heap.size w w' := by
  obtain ⟨en, hc⟩ := hl
  obtain ⟨en2, hc2⟩ := hm
  by_cases hn : n = n2
  · subst hn
    have EN := Lib.hid en
    have EN2 := Lib.hid en2
    clear en en2
    go_enter Try.func50, Try.ntmps50
    go_wp2
    go_loopw [13] (fun i wr => ∃ k : Nat, k ≤ n ∧ i = .int .i64 k ∧ Hid (yrTo l m k) ∧ ∃ q : Nat, wr = w.drewN q) (fun i _ => n - (intOf i).toNat)
    case atStart => exact ⟨0, Nat.zero_le _, rfl, Lib.hid (fun j hj => absurd hj (by omega)), 0, rfl⟩
    case round =>
      obtain ⟨k, hk, rfl, D, q, rfl⟩ := hrel
      by_cases hlt : k < n
      · obtain ⟨b, off, rfl, hb, hcc⟩ := hc (by omega)
        obtain ⟨b2, off2, rfl, hb2, hcc2⟩ := hc2 (by omega)
        obtain ⟨c0, c1, c2, c3, c4⟩ := hcc k hlt
        obtain ⟨d0, d1, d2, d3, d4⟩ := hcc2 k hlt
        clear hc hc2 hcc hcc2
        have G := fun (op : BinOp) (p r : Operand) (w : World) => guard_yr op p r (yat l k).m (yat l k).k (yat l k).d (yat l k).s (yat l k).o (yat m k).m (yat m k).k (yat m k).d (yat m k).s (yat m k).o w
        have E := fun (w : World) => neq_yr (yat l k).m (yat l k).k (yat l k).d (yat l k).s (yat l k).o (yat m k).m (yat m k).k (yat m k).d (yat m k).s (yat m k).o w
        by_cases he : yat l k = yat m k
        · have X := Lib.hid (D.out.succ he)
          have E' : ∀ w : World, (binOp .neq 60 (.agg #[.int .i64 (yat l k).m, .int .i64 (yat l k).k, .int .i64 (yat l k).d, .int .i64 (yat l k).s, .int .i64 (yat l k).o]) (.agg #[.int .i64 (yat m k).m, .int .i64 (yat m k).k, .int .i64 (yat m k).d, .int .i64 (yat m k).s, .int .i64 (yat m k).o])).run Try.prog w = .ok (.bool false) w := fun w => by rw [E w, he]; simp
          clear E he
          go_wp2
          go_quiet (fail)
          go_wp2
          go_roundw
          case rel => exact ⟨k + 1, by omega, by go_num, X, _, rfl⟩
          case measure => simp [intOf]; omega
        · have F := Lib.hid (show decide (l = m) = false from decide_eq_false fun e => he (by rw [e]))
          have E' : ∀ w : World, (binOp .neq 60 (.agg #[.int .i64 (yat l k).m, .int .i64 (yat l k).k, .int .i64 (yat l k).d, .int .i64 (yat l k).s, .int .i64 (yat l k).o]) (.agg #[.int .i64 (yat m k).m, .int .i64 (yat m k).k, .int .i64 (yat m k).d, .int .i64 (yat m k).s, .int .i64 (yat m k).o])).run Try.prog w = .ok (.bool true) w := fun w => by
            rw [E w]
            have : ((yat l k).m == (yat m k).m && (yat l k).k == (yat m k).k && (yat l k).d == (yat m k).d && (yat l k).s == (yat m k).s && (yat l k).o == (yat m k).o) = false := by
              cases c : ((yat l k).m == (yat m k).m && (yat l k).k == (yat m k).k && (yat l k).d == (yat m k).d && (yat l k).s == (yat m k).s && (yat l k).o == (yat m k).o)
              · rfl
              · exact absurd (by simp only [Bool.and_eq_true, beq_iff_eq] at c; cases hx : yat l k; cases hy : yat m k; rw [hx, hy] at c; simp only at c; simp [c]) he
            rw [this]; rfl
          clear E he
          go_wp2
          go_quiet (fail)
          go_wp2
          go_ret
          exact ⟨ret_bool F.out.symm, (Below.drewN' _ _ _).trans (Below.drewN' _ _ _)⟩
      · obtain rfl : n = k := by omega
        have F := Lib.hid (show decide (l = m) = true from decide_eq_true (yr_ext (by rw [← EN.out, ← EN2.out]) (by rw [← EN.out]; exact D.out)))
        go_wp2
        go_ret
        exact ⟨ret_bool F.out.symm, Below.drewN' _ _ _⟩
  · have F := Lib.hid (show decide (l = m) = false from decide_eq_false fun e => hn (by rw [en, en2, e]))
    have t1 : ((n : Int) != n2) = true := by rw [bne_iff_ne]; omega
    clear en en2 hc hc2 hn
    go_enter Try.func50, Try.ntmps50
    go_wp2
    go_ret
    exact ⟨ret_bool F.out.symm, Below.refl _ _⟩
-- SAME
theorem shEqual_is (w : World) (A A2 : Option Addr) (n n2 c c2 : Nat) (l m : List Sh) (x : Bool) (hx : decide (l = m) = x) (hl : ShAt w A n l) (hm : ShAt w A2 n2 m) (h1 : n ≤ 9223372036854775807) (h2 : n2 ≤ 9223372036854775807) :
    Calls Try.prog 49 #[.slice A n c, .slice A2 n2 c2] w fun e w' => e = .returned (.bool x) ∧ Below w.heap.size w w' := hx ▸ shEqual_any w A A2 n n2 c c2 l m hl hm h1 h2
theorem yrEqual_is (w : World) (A A2 : Option Addr) (n n2 c c2 : Nat) (l m : List Yr) (x : Bool) (hx : decide (l = m) = x) (hl : YrAt w A n l) (hm : YrAt w A2 n2 m) (h1 : n ≤ 9223372036854775807) (h2 : n2 ≤ 9223372036854775807) :
    Calls Try.prog 50 #[.slice A n c, .slice A2 n2 c2] w fun e w' => e = .returned (.bool x) ∧ Below w.heap.size w w' := hx ▸ yrEqual_any w A A2 n n2 c c2 l m hl hm h1 h2
def sameB (b f : Int) (l : List Sh) (ys : List Yr) (d g : Int) (k : List Sh) (xs : List Yr) : Bool := decide (b = d ∧ l = k ∧ ys = xs ∧ f = g)
/-- two values boxed, one behind the other -/
theorem two_new (w : World) (t t' : TypeId) (u v : Array Value) : Blk ((w.alloc (.cells u t)).alloc (.cells v t')) w.heap.size t u ∧ Blk ((w.alloc (.cells u t)).alloc (.cells v t')) (w.heap.size + 1) t' v := by
  have b2 := Blk.new (w.alloc (.cells u t)) t' v
  rw [World.size_alloc] at b2
  exact ⟨(Blk.new w t u).alloc _, b2⟩
set_option maxHeartbeats 2000000 in
theorem Same_own (w : World) (b f d g : Int) (A A' B B' : Option Addr) (n c n' c' m e m' e' : Nat) (l k : List Sh) (ys xs : List Yr) (hz : ZnAt w A n A' n' l ys) (hy : ZnAt w B m B' m' k xs) :
    Calls Try.prog 23 #[.agg #[.int .i64 b, .slice A n c, .slice A' n' c', .int .i64 f], .agg #[.int .i64 d, .slice B m e, .slice B' m' e', .int .i64 g]] w fun e w' => e = .returned (.bool (sameB b f l ys d g k xs)) ∧ Below w.heap.size w w' := by
  have ba : Below w.heap.size w ((w.alloc (.cells #[.int .i64 b, .slice A n c, .slice A' n' c', .int .i64 f] 25)).alloc (.cells #[.int .i64 d, .slice B m e, .slice B' m' e', .int .i64 g] 25)) := ((Below.refl _ _).alloc (Nat.le_refl _) _).alloc (by simp) _
  have hz1 := hz.below ba
  have hy1 := hy.below ba
  obtain ⟨Z1, Z2⟩ := two_new w 25 25 #[.int .i64 b, .slice A n c, .slice A' n' c', .int .i64 f] #[.int .i64 d, .slice B m e, .slice B' m' e', .int .i64 g]
  by_cases hb : b = d
  · have b1 : ((b : Int) == d) = true := by rw [beq_iff_eq]; exact hb
    have HB := Lib.hid hb
    clear hb
    cases h1 : decide (l = k)
    · have F := Lib.hid (show false = sameB b f l ys d g k xs from no_bool (fun h => of_decide_eq_false h1 h.2.1))
      have E1 := Lib.hid h1
      clear h1
      go_enter Try.func23, Try.ntmps23
      go_wp2_with fail
      refine (shEqual_is _ A B n m c e l k _ E1.out (hz1.sh) (hy1.sh) hz.sn hy.sn).mono ?_
      rintro e w1 ⟨rfl, hb1⟩
      have pz := Z1.below hb1 Z1.lt; have py := Z2.below hb1 Z2.lt
      have lz := pz.lt; have ly := py.lt
      have z0 := pz.cell 0; have z1 := pz.cell 1; have z2 := pz.cell 2; have z3 := pz.cell 3
      have y0 := py.cell 0; have y1 := py.cell 1; have y2 := py.cell 2; have y3 := py.cell 3
      simp at z0 z1 z2 z3 y0 y1 y2 y3
      go_wp2
      go_ret
      exact ⟨ret_bool F.out, ba.trans (hb1.mono (by simp; omega))⟩
    · cases h2 : decide (ys = xs)
      · have F := Lib.hid (show false = sameB b f l ys d g k xs from no_bool (fun h => of_decide_eq_false h2 h.2.2.1))
        have E1 := Lib.hid h1
        have E2 := Lib.hid h2
        clear h1 h2
        go_enter Try.func23, Try.ntmps23
        go_wp2_with fail
        refine (shEqual_is _ A B n m c e l k _ E1.out (hz1.sh) (hy1.sh) hz.sn hy.sn).mono ?_
        rintro e w1 ⟨rfl, hb1⟩
        have pz := Z1.below hb1 Z1.lt; have py := Z2.below hb1 Z2.lt
        have lz := pz.lt; have ly := py.lt
        have z0 := pz.cell 0; have z1 := pz.cell 1; have z2 := pz.cell 2; have z3 := pz.cell 3
        have y0 := py.cell 0; have y1 := py.cell 1; have y2 := py.cell 2; have y3 := py.cell 3
        simp at z0 z1 z2 z3 y0 y1 y2 y3
        go_wp2_with fail
        refine (yrEqual_is _ A' B' n' m' c' e' ys xs _ E2.out (hz1.yr.below hb1) (hy1.yr.below hb1) hz.yn hy.yn).mono ?_
        rintro e w2 ⟨rfl, hb2⟩
        have hb3 := hb1.trans (hb2.mono hb1.size)
        clear lz ly z0 z1 z2 z3 y0 y1 y2 y3
        have qz := Z1.below hb3 Z1.lt; have qy := Z2.below hb3 Z2.lt
        have lz := qz.lt; have ly := qy.lt
        have z0 := qz.cell 0; have z1 := qz.cell 1; have z2 := qz.cell 2; have z3 := qz.cell 3
        have y0 := qy.cell 0; have y1 := qy.cell 1; have y2 := qy.cell 2; have y3 := qy.cell 3
        simp at z0 z1 z2 z3 y0 y1 y2 y3
        go_wp2
        go_ret
        exact ⟨ret_bool F.out, ba.trans (hb3.mono (by simp; omega))⟩
      · have F := Lib.hid (show (f == g) = sameB b f l ys d g k xs from yr_bool (by unfold sameB; rw [beq_iff_eq, decide_eq_true_eq]; exact ⟨fun h => ⟨HB.out, of_decide_eq_true h1, of_decide_eq_true h2, h⟩, fun h => h.2.2.2⟩))
        have E1 := Lib.hid h1
        have E2 := Lib.hid h2
        clear h1 h2
        go_enter Try.func23, Try.ntmps23
        go_wp2_with fail
        refine (shEqual_is _ A B n m c e l k _ E1.out (hz1.sh) (hy1.sh) hz.sn hy.sn).mono ?_
        rintro e w1 ⟨rfl, hb1⟩
        have pz := Z1.below hb1 Z1.lt; have py := Z2.below hb1 Z2.lt
        have lz := pz.lt; have ly := py.lt
        have z0 := pz.cell 0; have z1 := pz.cell 1; have z2 := pz.cell 2; have z3 := pz.cell 3
        have y0 := py.cell 0; have y1 := py.cell 1; have y2 := py.cell 2; have y3 := py.cell 3
        simp at z0 z1 z2 z3 y0 y1 y2 y3
        go_wp2_with fail
        refine (yrEqual_is _ A' B' n' m' c' e' ys xs _ E2.out (hz1.yr.below hb1) (hy1.yr.below hb1) hz.yn hy.yn).mono ?_
        rintro e w2 ⟨rfl, hb2⟩
        have hb3 := hb1.trans (hb2.mono hb1.size)
        clear lz ly z0 z1 z2 z3 y0 y1 y2 y3
        have qz := Z1.below hb3 Z1.lt; have qy := Z2.below hb3 Z2.lt
        have lz := qz.lt; have ly := qy.lt
        have z0 := qz.cell 0; have z1 := qz.cell 1; have z2 := qz.cell 2; have z3 := qz.cell 3
        have y0 := qy.cell 0; have y1 := qy.cell 1; have y2 := qy.cell 2; have y3 := qy.cell 3
        simp at z0 z1 z2 z3 y0 y1 y2 y3
        go_wp2
        go_ret
        exact ⟨ret_bool F.out, ba.trans (hb3.mono (by simp; omega))⟩
  · have b1 : ((b : Int) == d) = false := by rw [beq_eq_false_iff_ne]; exact hb
    have F := Lib.hid (show false = sameB b f l ys d g k xs from no_bool (fun h => hb h.1))
    clear hb
    go_enter Try.func23, Try.ntmps23
    go_wp2
    go_ret
    exact ⟨ret_bool F.out, ba⟩
end Go.Proofs.Ytbinhnlajflndaa.Zn
