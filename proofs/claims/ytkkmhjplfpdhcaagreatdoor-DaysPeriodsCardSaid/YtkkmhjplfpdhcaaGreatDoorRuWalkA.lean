/- The walks of vokref4's within, numbered, dayList. -/
import Derived.Test.YtkkmhjplfpdhcaaGreatDoorRuMem
set_option linter.unusedVariables false
namespace Go.Proofs.YtkkmhjplfpdhcaaGreatDoor.Ru
open Go.RowKit Cv St

def inTo (l : List Int) (lo hi : Int) (z : Bool) (k : Nat) : Prop := ∀ j, j < k → lo ≤ iat l j ∧ iat l j ≤ hi ∧ (iat l j ≠ 0 ∨ z = true)
theorem inTo.succ {l : List Int} {lo hi : Int} {z : Bool} {k : Nat} (h : inTo l lo hi z k) (e : lo ≤ iat l k ∧ iat l k ≤ hi ∧ (iat l k ≠ 0 ∨ z = true)) : inTo l lo hi z (k + 1) := fun j hj => by
  by_cases c : j = k
  · subst c; exact e
  · exact h j (by omega)
theorem inB_no {l : List Int} {lo hi : Int} {z : Bool} {k : Nat} (hk : k < l.length) (h : ¬ (lo ≤ iat l k ∧ iat l k ≤ hi ∧ (iat l k ≠ 0 ∨ z = true))) : false = inB l lo hi z := by
  unfold inB
  rw [decide_eq_false (fun g => h (by have := g l[k] (List.getElem_mem hk); rwa [← iat_lt hk] at this))]; rfl
theorem inB_long {l : List Int} {lo hi : Int} {z : Bool} (h : 60 < l.length) : false = inB l lo hi z := by
  unfold inB; rw [decide_eq_false (show ¬ l.length ≤ 60 by omega)]; simp
theorem inB_yes {l : List Int} {lo hi : Int} {z : Bool} (h : inTo l lo hi z l.length) (g : l.length ≤ 60) : riseB l = inB l lo hi z := by
  unfold inB
  rw [decide_eq_true (fun x hx => by
    obtain ⟨j, hj, e⟩ := List.getElem_of_mem hx
    have := h j hj
    rwa [iat_lt hj, e] at this), decide_eq_true g]; rfl
theorem rises_is (w : World) (A : Option Addr) (n c : Nat) (l : List Int) (x : Bool) (hl : IsAt w A n l) (h1 : n ≤ 9223372036854775807) (hx : riseB l = x) :
    Calls Tryz.prog 26 #[.slice A n c] w fun e w' => e = .returned (.bool x) ∧ Below w.heap.size w w' := hx ▸ rises_any w A n c l hl h1
/-- vokref4.within -/
theorem within_any (w : World) (A : Option Addr) (n c : Nat) (l : List Int) (lo hi : Int) (z : Bool) (hl : IsAt w A n l) (h1 : n ≤ 9223372036854775807) :
    Calls Tryz.prog 78 #[.slice A n c, .int .i64 lo, .int .i64 hi, .bool z] w fun e w' => e = .returned (.bool (inB l lo hi z)) ∧ Below w.heap.size w w' := by
  have HL := Lib.hid hl
  obtain ⟨en, hc⟩ := hl
  have EN := Lib.hid en
  clear en
  obtain ⟨rb, hrb⟩ : ∃ x, riseB l = x := ⟨_, rfl⟩
  have RB := Lib.hid hrb
  clear hrb
  cases z
  all_goals
    go_enter Tryz.func78, Tryz.ntmps78
    go_wp2
  · go_loop [9] (fun i => ∃ t : Nat, t ≤ n ∧ i = .int .i64 t ∧ Hid (inTo l lo hi false t)) (fun i => n - (intOf i).toNat)
    case atStart => exact ⟨0, Nat.zero_le _, rfl, Lib.hid (fun j hj => absurd hj (by omega))⟩
    case round =>
      obtain ⟨t, ht, rfl, D⟩ := hrel
      by_cases hlt : t < n
      · obtain ⟨b, off, rfl, hb, hcc⟩ := hc (by omega)
        have c0 := hcc t hlt
        have X := Lib.hid (fun e => D.out.succ (k := t) e)
        have F := Lib.hid (fun e => inB_no (l := l) (lo := lo) (hi := hi) (z := false) (k := t) (by rw [← EN.out]; exact hlt) e)
        clear hc hcc D
        by_cases p1 : iat l t < lo
        · have G := Lib.hid (F.out (by omega))
          clear X F
          generalize iat l t = s at *
          go_wp2
          go_ret
          exact ⟨ret_bool G.out, Below.refl _ _⟩
        · by_cases p2 : hi < iat l t
          · have G := Lib.hid (F.out (by omega))
            have p1' : lo ≤ iat l t := by omega
            clear X F p1
            generalize iat l t = s at *
            go_wp2
            go_ret
            exact ⟨ret_bool G.out, Below.refl _ _⟩
          · by_cases p3 : iat l t = 0
            · have G := Lib.hid (F.out (by rintro ⟨_, _, h | h⟩; exact h p3; cases h))
              have p1' : lo ≤ iat l t := by omega
              have p2' : iat l t ≤ hi := by omega
              have t3 : ((iat l t : Int) == 0) = true := by rw [beq_iff_eq]; exact p3
              clear X F p1 p2 p3
              generalize iat l t = s at *
              go_wp2
              go_ret
              exact ⟨ret_bool G.out, Below.refl _ _⟩
            · have Y := Lib.hid (X.out ⟨by omega, by omega, .inl p3⟩)
              have p1' : lo ≤ iat l t := by omega
              have p2' : iat l t ≤ hi := by omega
              have t3 : ((iat l t : Int) == 0) = false := by rw [beq_eq_false_iff_ne]; exact p3
              clear X F p1 p2 p3
              generalize iat l t = s at *
              go_wp2
              go_round
              case rel => exact ⟨t + 1, by omega, by go_num, Y⟩
              case measure => simp [intOf]; omega
      · obtain rfl : n = t := by omega
        by_cases h60 : n ≤ 60
        · have G := Lib.hid (inB_yes (l := l) (lo := lo) (hi := hi) (z := false) (by rw [← EN.out]; exact D.out) (by rw [← EN.out]; exact h60))
          have i60 : (n : Int) ≤ 60 := by omega
          clear h60 D
          go_wp2_with fail
          refine (rises_is _ A n c l _ HL.out h1 RB.out).mono ?_
          rintro e w1 ⟨rfl, b1⟩
          go_wp2
          go_ret
          exact ⟨ret_bool (by rw [← G.out, RB.out]), b1⟩
        · have G := Lib.hid (inB_long (l := l) (lo := lo) (hi := hi) (z := false) (by rw [← EN.out]; omega))
          have i60 : (60 : Int) < (n : Int) := by omega
          clear h60 D
          go_wp2
          go_ret
          exact ⟨ret_bool G.out, Below.refl _ _⟩
  · go_loop [9] (fun i => ∃ t : Nat, t ≤ n ∧ i = .int .i64 t ∧ Hid (inTo l lo hi true t)) (fun i => n - (intOf i).toNat)
    case atStart => exact ⟨0, Nat.zero_le _, rfl, Lib.hid (fun j hj => absurd hj (by omega))⟩
    case round =>
      obtain ⟨t, ht, rfl, D⟩ := hrel
      by_cases hlt : t < n
      · obtain ⟨b, off, rfl, hb, hcc⟩ := hc (by omega)
        have c0 := hcc t hlt
        have X := Lib.hid (fun e => D.out.succ (k := t) e)
        have F := Lib.hid (fun e => inB_no (l := l) (lo := lo) (hi := hi) (z := true) (k := t) (by rw [← EN.out]; exact hlt) e)
        clear hc hcc D
        by_cases p1 : iat l t < lo
        · have G := Lib.hid (F.out (by omega))
          clear X F
          generalize iat l t = s at *
          go_wp2
          go_ret
          exact ⟨ret_bool G.out, Below.refl _ _⟩
        · by_cases p2 : hi < iat l t
          · have G := Lib.hid (F.out (by omega))
            have p1' : lo ≤ iat l t := by omega
            clear X F p1
            generalize iat l t = s at *
            go_wp2
            go_ret
            exact ⟨ret_bool G.out, Below.refl _ _⟩
          · have Y := Lib.hid (X.out ⟨by omega, by omega, .inr rfl⟩)
            have p1' : lo ≤ iat l t := by omega
            have p2' : iat l t ≤ hi := by omega
            clear X F p1 p2
            by_cases p3 : iat l t = 0
            · have t3 : ((iat l t : Int) == 0) = true := by rw [beq_iff_eq]; exact p3
              clear p3
              generalize iat l t = s at *
              go_wp2
              go_round
              case rel => exact ⟨t + 1, by omega, by go_num, Y⟩
              case measure => simp [intOf]; omega
            · have t3 : ((iat l t : Int) == 0) = false := by rw [beq_eq_false_iff_ne]; exact p3
              clear p3
              generalize iat l t = s at *
              go_wp2
              go_round
              case rel => exact ⟨t + 1, by omega, by go_num, Y⟩
              case measure => simp [intOf]; omega
      · obtain rfl : n = t := by omega
        by_cases h60 : n ≤ 60
        · have G := Lib.hid (inB_yes (l := l) (lo := lo) (hi := hi) (z := true) (by rw [← EN.out]; exact D.out) (by rw [← EN.out]; exact h60))
          have i60 : (n : Int) ≤ 60 := by omega
          clear h60 D
          go_wp2_with fail
          refine (rises_is _ A n c l _ HL.out h1 RB.out).mono ?_
          rintro e w1 ⟨rfl, b1⟩
          go_wp2
          go_ret
          exact ⟨ret_bool (by rw [← G.out, RB.out]), b1⟩
        · have G := Lib.hid (inB_long (l := l) (lo := lo) (hi := hi) (z := true) (by rw [← EN.out]; omega))
          have i60 : (60 : Int) < (n : Int) := by omega
          clear h60 D
          go_wp2
          go_ret
          exact ⟨ret_bool G.out, Below.refl _ _⟩
theorem numb_no {l : List Dy} (h : ∀ j, j < l.length → (dat l j).n = 0) : false = numbB l := by
  unfold numbB
  symm
  rw [List.any_eq_false]
  intro x hx
  obtain ⟨j, hj, e⟩ := List.getElem_of_mem hx
  have := h j hj
  rw [dat_lt hj, e] at this
  simp [this]
theorem numb_yes {l : List Dy} {j : Nat} (hj : j < l.length) (h : (dat l j).n ≠ 0) : true = numbB l := by
  unfold numbB
  symm
  rw [List.any_eq_true]
  exact ⟨l[j], List.getElem_mem hj, decide_eq_true (by rwa [dat_lt hj] at h)⟩
def zeroTo (l : List Dy) (k : Nat) : Prop := ∀ j, j < k → (dat l j).n = 0
theorem zeroTo.succ {l : List Dy} {k : Nat} (h : zeroTo l k) (e : (dat l k).n = 0) : zeroTo l (k + 1) := fun j hj => by
  by_cases c : j = k
  · subst c; exact e
  · exact h j (by omega)
/-- vokref4.numbered -/
theorem numbered_any (w : World) (A : Option Addr) (n c : Nat) (l : List Dy) (hl : DyAt w A n l) (h1 : n ≤ 9223372036854775807) :
    Calls Tryz.prog 80 #[.slice A n c] w fun e w' => e = .returned (.bool (numbB l)) ∧ Below w.heap.size w w' := by
  obtain ⟨en, hc⟩ := hl
  have EN := Lib.hid en
  clear en
  go_enter Tryz.func80, Tryz.ntmps80
  go_wp2
  go_loop [3] (fun i => ∃ t : Nat, t ≤ n ∧ i = .int .i64 t ∧ Hid (zeroTo l t)) (fun i => n - (intOf i).toNat)
  case atStart => exact ⟨0, Nat.zero_le _, rfl, Lib.hid (fun j hj => absurd hj (by omega))⟩
  case round =>
    obtain ⟨t, ht, rfl, D⟩ := hrel
    by_cases hlt : t < n
    · obtain ⟨b, off, rfl, hb, hcc⟩ := hc (by omega)
      have c0 := (hcc t hlt).1
      by_cases p : (dat l t).n = 0
      · have Y := Lib.hid (D.out.succ p)
        have t3 : (((dat l t).n : Int) != 0) = false := by rw [bne_eq_false_iff_eq]; exact p
        clear p hcc hc D
        generalize (dat l t).n = s at *
        go_wp2
        go_round
        case rel => exact ⟨t + 1, by omega, by go_num, Y⟩
        case measure => simp [intOf]; omega
      · have G := Lib.hid (numb_yes (l := l) (j := t) (by rw [← EN.out]; exact hlt) p)
        have t3 : (((dat l t).n : Int) != 0) = true := by rw [bne_iff_ne]; exact p
        clear p hcc hc D
        generalize (dat l t).n = s at *
        go_wp2
        go_ret
        exact ⟨ret_bool G.out, Below.refl _ _⟩
    · obtain rfl : n = t := by omega
      have G := Lib.hid (numb_no (l := l) (by rw [← EN.out]; exact D.out))
      go_wp2
      go_ret
      exact ⟨ret_bool G.out, Below.refl _ _⟩
def dayOk (l : List Dy) (j : Nat) : Prop := -53 ≤ (dat l j).n ∧ (dat l j).n ≤ 53 ∧ 0 ≤ (dat l j).w ∧ (dat l j).w ≤ 6 ∧ (0 < j → dlt (dat l (j - 1)) (dat l j))
def dayTo (l : List Dy) (k : Nat) : Prop := ∀ j, j < k → dayOk l j
theorem dayTo.succ {l : List Dy} {k : Nat} (h : dayTo l k) (e : dayOk l k) : dayTo l (k + 1) := fun j hj => by
  by_cases c : j = k
  · subst c; exact e
  · exact h j (by omega)
theorem dlt_trans {a b c : Dy} (h : dlt a b) (g : dlt b c) : dlt a c := by unfold dlt at *; omega
theorem dlt_adj : ∀ {l : List Dy}, (∀ j, j + 1 < l.length → dlt (dat l j) (dat l (j + 1))) → l.Pairwise dlt
  | [], _ => List.Pairwise.nil
  | [x], _ => by simp
  | x :: y :: l, h => by
    have ih := dlt_adj (l := y :: l) fun j hj => h (j + 1) (by simpa using hj)
    have h0 : dlt x y := h 0 (by simp)
    rw [List.pairwise_cons] at ih ⊢
    refine ⟨fun z hz => ?_, List.pairwise_cons.2 ih⟩
    rcases List.mem_cons.1 hz with rfl | hz
    · exact h0
    · exact dlt_trans h0 (ih.1 z hz)
theorem dayB_yes {l : List Dy} (h : dayTo l l.length) : decide (l.length ≤ 60) = dayB l := by
  unfold dayB
  rw [decide_eq_true (fun x hx => by
    obtain ⟨j, hj, e⟩ := List.getElem_of_mem hx
    obtain ⟨a, b, c, d, -⟩ := h j hj
    rw [dat_lt hj, e] at a b c d
    exact ⟨a, b, c, d⟩ : ∀ x ∈ l, -53 ≤ x.n ∧ x.n ≤ 53 ∧ 0 ≤ x.w ∧ x.w ≤ 6),
    decide_eq_true (dlt_adj fun j hj => by have := (h (j + 1) hj).2.2.2.2 (by omega); simpa using this : l.Pairwise dlt)]
  simp
theorem dayB_no {l : List Dy} {k : Nat} (hk : k < l.length) (h : ¬ dayOk l k) : false = dayB l := by
  cases g : dayB l
  · rfl
  · exfalso
    obtain ⟨a, -, c⟩ := dayB_of g
    refine h ?_
    have := a l[k] (List.getElem_mem hk)
    rw [← dat_lt hk] at this
    refine ⟨this.1, this.2.1, this.2.2.1, this.2.2.2, fun h0 => ?_⟩
    have := List.pairwise_iff_getElem.1 c (k - 1) k (by omega) hk (by omega)
    rwa [dat_lt (by omega), dat_lt hk]
set_option maxRecDepth 100000 in
set_option maxHeartbeats 4000000 in
/-- vokref4.dayList -/
theorem dayList_any (w : World) (A : Option Addr) (n c : Nat) (l : List Dy) (hl : DyAt w A n l) (h1 : n ≤ 9223372036854775807) :
    Calls Tryz.prog 79 #[.slice A n c] w fun e w' => e = .returned (.bool (dayB l)) ∧ Below w.heap.size w w' := by
  obtain ⟨en, hc⟩ := hl
  have EN := Lib.hid en
  clear en
  go_enter Tryz.func79, Tryz.ntmps79
  go_wp2
  go_loopw [3] (fun i wr => ∃ t : Nat, t ≤ n ∧ i = .int .i64 t ∧ Hid (dayTo l t) ∧ ∃ q : Nat, wr = w.drewN q) (fun i _ => n - (intOf i).toNat)
  case atStart => exact ⟨0, Nat.zero_le _, rfl, Lib.hid (fun j hj => absurd hj (by omega)), 0, rfl⟩
  case round =>
    obtain ⟨t, ht, rfl, D, q, rfl⟩ := hrel
    by_cases hlt : t < n
    · obtain ⟨b, off, rfl, hb, hcc⟩ := hc (by omega)
      obtain ⟨c0, c1⟩ := hcc t hlt
      obtain ⟨d0, d1⟩ := hcc (t - 1) (by omega)
      have X := Lib.hid (fun e => D.out.succ (k := t) e)
      have F := Lib.hid (fun e => dayB_no (l := l) (k := t) (by rw [← EN.out]; exact hlt) e)
      clear hc hcc D
      by_cases p1 : (dat l t).n < -53
      · have G := Lib.hid (F.out (fun e => by have := e.1; omega))
        have s1 : decide ((dat l t).n < -53) = true := decide_eq_true p1
        clear X F p1 d0 d1
        generalize (dat l t).n = x at *
        generalize (dat l t).w = y at *
        go_wp2
        refine wp_region_quiet_lit (by kernel_rfl) (by kernel_rfl) ?_
        simp only [List.append]
        repeat (go_big_quiet_step (fail))
        refine wpQuiet_nil ?_
        rintro _ ⟨nq, rfl⟩
        go_wp2
        go_ret
        exact ⟨ret_bool G.out, (Below.drewN' _ _ _).trans (Below.drewN' _ _ _)⟩
      have s1 : decide ((dat l t).n < -53) = false := decide_eq_false p1
      by_cases p2 : 53 < (dat l t).n
      · have G := Lib.hid (F.out (fun e => by have := e.2.1; omega))
        have s2 : decide (53 < (dat l t).n) = true := decide_eq_true p2
        clear X F p1 p2 d0 d1
        generalize (dat l t).n = x at *
        generalize (dat l t).w = y at *
        go_wp2
        refine wp_region_quiet_lit (by kernel_rfl) (by kernel_rfl) ?_
        simp only [List.append]
        repeat (go_big_quiet_step (fail))
        refine wpQuiet_nil ?_
        rintro _ ⟨nq, rfl⟩
        go_wp2
        go_ret
        exact ⟨ret_bool G.out, (Below.drewN' _ _ _).trans (Below.drewN' _ _ _)⟩
      have s2 : decide (53 < (dat l t).n) = false := decide_eq_false p2
      by_cases p3 : (dat l t).w < 0
      · have G := Lib.hid (F.out (fun e => by have := e.2.2.1; omega))
        have s3 : decide ((dat l t).w < 0) = true := decide_eq_true p3
        clear X F p1 p2 p3 d0 d1
        generalize (dat l t).n = x at *
        generalize (dat l t).w = y at *
        go_wp2
        refine wp_region_quiet_lit (by kernel_rfl) (by kernel_rfl) ?_
        simp only [List.append]
        repeat (go_big_quiet_step (fail))
        refine wpQuiet_nil ?_
        rintro _ ⟨nq, rfl⟩
        go_wp2
        go_ret
        exact ⟨ret_bool G.out, (Below.drewN' _ _ _).trans (Below.drewN' _ _ _)⟩
      have s3 : decide ((dat l t).w < 0) = false := decide_eq_false p3
      by_cases p4 : 6 < (dat l t).w
      · have G := Lib.hid (F.out (fun e => by have := e.2.2.2.1; omega))
        have s4 : decide (6 < (dat l t).w) = true := decide_eq_true p4
        clear X F p1 p2 p3 p4 d0 d1
        generalize (dat l t).n = x at *
        generalize (dat l t).w = y at *
        go_wp2
        refine wp_region_quiet_lit (by kernel_rfl) (by kernel_rfl) ?_
        simp only [List.append]
        repeat (go_big_quiet_step (fail))
        refine wpQuiet_nil ?_
        rintro _ ⟨nq, rfl⟩
        go_wp2
        go_ret
        exact ⟨ret_bool G.out, (Below.drewN' _ _ _).trans (Below.drewN' _ _ _)⟩
      have s4 : decide (6 < (dat l t).w) = false := decide_eq_false p4
      by_cases h0 : t = 0
      · have Y := Lib.hid (X.out ⟨by omega, by omega, by omega, by omega, fun g => by omega⟩)
        have s5 : decide (0 < t) = false := decide_eq_false (by omega)
        clear X F p1 p2 p3 p4 d0 d1 h0
        generalize (dat l t).n = x at *
        generalize (dat l t).w = y at *
        go_wp2
        refine wp_region_quiet_lit (by kernel_rfl) (by kernel_rfl) ?_
        simp only [List.append]
        repeat (go_big_quiet_step (fail))
        refine wpQuiet_nil ?_
        rintro _ ⟨nq, rfl⟩
        go_wp2
        go_roundw
        case rel => exact ⟨t + 1, by omega, by go_num, Y, _, rfl⟩
        case measure => simp [intOf]; omega
      have s5 : decide (0 < t) = true := decide_eq_true (by omega)
      have w1 : IntKind.i64.wrap ((t : Int) - 1) = (t : Int) - 1 := IntWalk.i64_in _ (by omega)
      have w2 : ((t : Int) - 1).toNat = t - 1 := by omega
      have w3 : (0 : Int) ≤ (t : Int) - 1 := by omega
      have w4 : (t : Int) - 1 < (n : Int) := by omega
      have w5 : (1 : Int) ≤ (t : Int) := by omega
      have X2 := Lib.hid (fun (e : dlt (dat l (t - 1)) (dat l t)) => X.out ⟨by omega, by omega, by omega, by omega, fun _ => e⟩)
      have F2 := Lib.hid (fun (e : ¬ dlt (dat l (t - 1)) (dat l t)) => F.out (fun g => e (g.2.2.2.2 (by omega))))
      clear X F p1 p2 p3 p4 h0
      by_cases q1 : (dat l t).n < (dat l (t - 1)).n
      · have G := Lib.hid (F2.out (by unfold dlt; omega))
        have s6 : decide ((dat l t).n < (dat l (t - 1)).n) = true := decide_eq_true q1
        clear X2 F2 q1
        generalize (dat l t).n = x at *
        generalize (dat l t).w = y at *
        generalize (dat l (t - 1)).n = u at *
        generalize (dat l (t - 1)).w = v at *
        go_wp2
        refine wp_region_quiet_lit (by kernel_rfl) (by kernel_rfl) ?_
        simp only [List.append]
        repeat (go_big_quiet_step (fail))
        refine wpQuiet_nil ?_
        rintro _ ⟨nq, rfl⟩
        go_wp2
        go_ret
        exact ⟨ret_bool G.out, (Below.drewN' _ _ _).trans (Below.drewN' _ _ _)⟩
      have s6 : decide ((dat l t).n < (dat l (t - 1)).n) = false := decide_eq_false q1
      by_cases q2 : (dat l t).n = (dat l (t - 1)).n
      · have s7 : (((dat l t).n : Int) == (dat l (t - 1)).n) = true := by rw [beq_iff_eq]; exact q2
        by_cases q3 : (dat l t).w ≤ (dat l (t - 1)).w
        · have G := Lib.hid (F2.out (by unfold dlt; omega))
          have s8 : decide ((dat l t).w ≤ (dat l (t - 1)).w) = true := decide_eq_true q3
          clear X2 F2 q1 q2 q3
          generalize (dat l t).n = x at *
          generalize (dat l t).w = y at *
          generalize (dat l (t - 1)).n = u at *
          generalize (dat l (t - 1)).w = v at *
          go_wp2
          refine wp_region_quiet_lit (by kernel_rfl) (by kernel_rfl) ?_
          simp only [List.append]
          repeat (go_big_quiet_step (fail))
          refine wpQuiet_nil ?_
          rintro _ ⟨nq, rfl⟩
          go_wp2
          go_ret
          exact ⟨ret_bool G.out, (Below.drewN' _ _ _).trans (Below.drewN' _ _ _)⟩
        · have Y := Lib.hid (X2.out (by unfold dlt; omega))
          have s8 : decide ((dat l t).w ≤ (dat l (t - 1)).w) = false := decide_eq_false q3
          clear X2 F2 q1 q2 q3
          generalize (dat l t).n = x at *
          generalize (dat l t).w = y at *
          generalize (dat l (t - 1)).n = u at *
          generalize (dat l (t - 1)).w = v at *
          go_wp2
          refine wp_region_quiet_lit (by kernel_rfl) (by kernel_rfl) ?_
          simp only [List.append]
          repeat (go_big_quiet_step (fail))
          refine wpQuiet_nil ?_
          rintro _ ⟨nq, rfl⟩
          go_wp2
          go_roundw
          case rel => exact ⟨t + 1, by omega, by go_num, Y, _, rfl⟩
          case measure => simp [intOf]; omega
      · have s7 : (((dat l t).n : Int) == (dat l (t - 1)).n) = false := by rw [beq_eq_false_iff_ne]; exact q2
        have Y := Lib.hid (X2.out (by unfold dlt; omega))
        clear X2 F2 q1 q2
        generalize (dat l t).n = x at *
        generalize (dat l t).w = y at *
        generalize (dat l (t - 1)).n = u at *
        generalize (dat l (t - 1)).w = v at *
        go_wp2
        refine wp_region_quiet_lit (by kernel_rfl) (by kernel_rfl) ?_
        simp only [List.append]
        repeat (go_big_quiet_step (fail))
        refine wpQuiet_nil ?_
        rintro _ ⟨nq, rfl⟩
        go_wp2
        go_roundw
        case rel => exact ⟨t + 1, by omega, by go_num, Y, _, rfl⟩
        case measure => simp [intOf]; omega
    · obtain rfl : n = t := by omega
      have E := dayB_yes (l := l) (by rw [← EN.out]; exact D.out)
      rw [← EN.out] at E
      by_cases h60 : n ≤ 60
      · have G := Lib.hid (show true = dayB l from by rw [← E]; exact yes_bool h60)
        have i60 : (n : Int) ≤ 60 := by omega
        clear h60 D E
        go_wp2
        go_ret
        exact ⟨ret_bool G.out, Below.drewN' _ _ _⟩
      · have G := Lib.hid (show decide ((n : Int) ≤ 60) = dayB l from by rw [← E, decide_eq_false h60, decide_eq_false (by omega)])
        have i60 : (60 : Int) < (n : Int) := by omega
        clear h60 D E
        go_wp2
        go_ret
        exact ⟨ret_bool G.out, Below.drewN' _ _ _⟩
end Go.Proofs.YtkkmhjplfpdhcaaGreatDoor.Ru
