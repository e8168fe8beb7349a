/- The walks of package rule's picks, timesOfDay, mayNumbers, mayLists. -/
import Derived.Test.YtkkmhjplfpdhcaaGreatDoorRpE
import Derived.Test.YtkkmhjplfpdhcaaGreatDoorStWalkA
set_option linter.unusedVariables false
namespace Go.Proofs.YtkkmhjplfpdhcaaGreatDoor.Ru
open Go.RowKit Cv St

theorem mul60 {a b : Nat} (h1 : a ≤ 60) (h2 : b ≤ 60) : 0 ≤ (a : Int) * (b : Int) ∧ (a : Int) * (b : Int) ≤ 3600 := by
  have : a * b ≤ 60 * 60 := Nat.mul_le_mul h1 h2
  rw [← Int.natCast_mul]; omega
theorem mul603 {a b c : Nat} (h1 : a ≤ 60) (h2 : b ≤ 60) (h3 : c ≤ 60) : 0 ≤ (a : Int) * (b : Int) * (c : Int) ∧ (a : Int) * (b : Int) * (c : Int) ≤ 216000 := by
  have : a * b * c ≤ 60 * 60 * 60 := Nat.mul_le_mul (Nat.mul_le_mul h1 h2) h3
  rw [← Int.natCast_mul, ← Int.natCast_mul]; omega
def picksB (r : Ru) : Bool := decide (0 < r.mon.length + r.week.length + r.yday.length + r.mday.length + r.day.length + r.hour.length + r.minu.length + r.sec.length)
def timesI (r : Ru) : Int := ((max r.hour.length 1 * max r.minu.length 1 * max r.sec.length 1 : Nat) : Int)

set_option maxRecDepth 100000 in
/-- rule.picks -/
theorem picks_any (w : World) (S : RS) (r : Ru) (x : Bool) (h : RuAt w S r) (hx : picksB r = x) :
    Calls Tryz.prog 107 #[S.val r] w fun e w' => e = .returned (.bool x) ∧ Below w.heap.size w w' := by
  obtain ⟨a6, n6, c6, a7, n7, c7, a8, n8, c8, a9, n9, c9, a10, n10, c10, a11, n11, c11, a12, n12, c12, a13, n13, c13, a14, n14, c14⟩ := S
  obtain ⟨freq, itv, cnt, til, wkst, ends, mon, week, yday, mday, day, hour, minu, sec, pos⟩ := r
  obtain ⟨h6, h7, h8, h9, h10, h11, h12, h13, h14, l6, l7, l8, l9, l10, l11, l12, l13, l14⟩ := h
  simp only at h6 h7 h8 h9 h10 h11 h12 h13 h14 l6 l7 l8 l9 l10 l11 l12 l13 l14
  have e6 := h6.1; have e7 := h7.1; have e8 := h8.1; have e9 := h9.1; have e10 := h10.1; have e11 := h11.1; have e12 := h12.1; have e13 := h13.1
  have G := Lib.hid (show decide ((0 : Int) < (n6 : Int) + (n7 : Int) + (n8 : Int) + (n9 : Int) + (n10 : Int) + (n11 : Int) + (n12 : Int) + (n13 : Int)) = x by
    rw [← hx]; unfold picksB; simp only; rw [← e6, ← e7, ← e8, ← e9, ← e10, ← e11, ← e12, ← e13]
    by_cases g : 0 < n6 + n7 + n8 + n9 + n10 + n11 + n12 + n13
    · rw [decide_eq_true g, decide_eq_true (by omega)]
    · rw [decide_eq_false g, decide_eq_false (by omega)])
  clear hx e6 e7 e8 e9 e10 e11 e12 e13 h6 h7 h8 h9 h10 h11 h12 h13 h14
  show Calls Tryz.prog 107 #[.agg #[.int .i64 freq, .int .i64 itv, .int .i64 cnt, .int .i64 til, .int .i64 wkst, .bool ends, .slice a6 n6 c6, .slice a7 n7 c7, .slice a8 n8 c8, .slice a9 n9 c9, .slice a10 n10 c10, .slice a11 n11 c11, .slice a12 n12 c12, .slice a13 n13 c13, .slice a14 n14 c14]] w _
  go_enter Tryz.func107, Tryz.ntmps107
  go_wp2
  go_ret
  exact ⟨ret_bool G.out, alloc_below _ _⟩
set_option maxRecDepth 100000 in
/-- rule.timesOfDay -/
theorem times_any (w : World) (S : RS) (r : Ru) (x : Int) (h : RuAt w S r) (h1 : r.hour.length ≤ 60) (h2 : r.minu.length ≤ 60) (h3 : r.sec.length ≤ 60) (hx : timesI r = x) :
    Calls Tryz.prog 108 #[S.val r] w fun e w' => e = .returned (.int .i64 x) ∧ Below w.heap.size w w' := by
  obtain ⟨a6, n6, c6, a7, n7, c7, a8, n8, c8, a9, n9, c9, a10, n10, c10, a11, n11, c11, a12, n12, c12, a13, n13, c13, a14, n14, c14⟩ := S
  obtain ⟨freq, itv, cnt, til, wkst, ends, mon, week, yday, mday, day, hour, minu, sec, pos⟩ := r
  obtain ⟨h6, h7, h8, h9, h10, h11, h12, h13, h14, l6, l7, l8, l9, l10, l11, l12, l13, l14⟩ := h
  simp only at h6 h7 h8 h9 h10 h11 h12 h13 h14 l6 l7 l8 l9 l10 l11 l12 l13 l14
  simp only at h1 h2 h3
  have e11 := h11.1; have e12 := h12.1; have e13 := h13.1
  obtain ⟨m1, hm1⟩ : ∃ m : Nat, max n11 1 = m := ⟨_, rfl⟩
  obtain ⟨m2, hm2⟩ : ∃ m : Nat, max n12 1 = m := ⟨_, rfl⟩
  obtain ⟨m3, hm3⟩ : ∃ m : Nat, max n13 1 = m := ⟨_, rfl⟩
  have k1 : n11 ≤ 60 := by omega
  have k2 : n12 ≤ 60 := by omega
  have k3 : n13 ≤ 60 := by omega
  have G := Lib.hid (show (m1 : Int) * (m2 : Int) * (m3 : Int) = x by
    rw [← hx]; unfold timesI; simp only; rw [← e11, ← e12, ← e13, hm1, hm2, hm3, Int.natCast_mul, Int.natCast_mul])
  have M1 := Lib.hid (show (n11 ≤ 1 ∧ m1 = 1) ∨ (1 < n11 ∧ m1 = n11) from by omega)
  have M2 := Lib.hid (show (n12 ≤ 1 ∧ m2 = 1) ∨ (1 < n12 ∧ m2 = n12) from by omega)
  have M3 := Lib.hid (show (n13 ≤ 1 ∧ m3 = 1) ∨ (1 < n13 ∧ m3 = n13) from by omega)
  clear hx e11 e12 e13 h6 h7 h8 h9 h10 h11 h12 h13 h14 hm1 hm2 hm3 h1 h2 h3
  show Calls Tryz.prog 108 #[.agg #[.int .i64 freq, .int .i64 itv, .int .i64 cnt, .int .i64 til, .int .i64 wkst, .bool ends, .slice a6 n6 c6, .slice a7 n7 c7, .slice a8 n8 c8, .slice a9 n9 c9, .slice a10 n10 c10, .slice a11 n11 c11, .slice a12 n12 c12, .slice a13 n13 c13, .slice a14 n14 c14]] w _
  go_enter Tryz.func108, Tryz.ntmps108
  go_wp2
  all_goals
    go_ret
    have i1 := M1.out; have i2 := M2.out; have i3 := M3.out
    refine ⟨ret_int ?_, alloc_below _ _⟩
    have g := G.out
    have p1 := mul60 k1 k2; have p2 := mul60 k1 k3; have p3 := mul60 k2 k3; have p4 := mul603 k1 k2 k3
    clear M1 M2 M3 G
    rcases i1 with ⟨j1, rfl⟩ | ⟨j1, rfl⟩ <;> rcases i2 with ⟨j2, rfl⟩ | ⟨j2, rfl⟩ <;> rcases i3 with ⟨j3, rfl⟩ | ⟨j3, rfl⟩
    all_goals
      first
        | (exfalso; omega)
        | (try simp only [Int.natCast_one, Int.one_mul, Int.mul_one] at g
           rw [← g]
           (repeat first | rw [IntWalk.wrap64_in (1 : Int) (by omega)] | rw [Int.one_mul] | rw [IntWalk.wrap64_in ((m1 : Int) * (m2 : Int)) (by omega)] | rw [IntWalk.wrap64_in ((m1 : Int) * (m3 : Int)) (by omega)] | rw [IntWalk.wrap64_in ((m2 : Int) * (m3 : Int)) (by omega)] | rw [IntWalk.wrap64_in ((m1 : Int) * (m2 : Int) * (m3 : Int)) (by omega)] | rw [IntWalk.wrap64_in (m1 : Int) (by omega)] | rw [IntWalk.wrap64_in (m2 : Int) (by omega)] | rw [IntWalk.wrap64_in (m3 : Int) (by omega)])
           try rfl)
/-- what mayNumbers tells -/
def numsB (r : Ru) : Bool := scalB r && endB r
theorem numsB_eq (r : Ru) : numsB r = (scalB r && endB r) := rfl
theorem scalB_eq (r : Ru) : scalB r = (inI r.freq 1 7 && inI r.itv 1 1000 && inI r.cnt 0 4096 && inI r.wkst 0 6) := by
  unfold scalB inI
  rw [← Bool.decide_and, ← Bool.decide_and, ← Bool.decide_and]
  exact decide_eq_decide.2 (by constructor <;> intro h <;> omega)

set_option maxRecDepth 100000 in
/-- rule.mayNumbers -/
theorem mayNums_any (w : World) (S : RS) (r : Ru) (x : Bool) (hx : numsB r = x) :
    Calls Tryz.prog 50 #[S.val r] w fun e w' => e = .returned (.bool x) ∧ Below w.heap.size w w' := by
  obtain ⟨a6, n6, c6, a7, n7, c7, a8, n8, c8, a9, n9, c9, a10, n10, c10, a11, n11, c11, a12, n12, c12, a13, n13, c13, a14, n14, c14⟩ := S
  obtain ⟨freq, itv, cnt, til, wkst, ends, mon, week, yday, mday, day, hour, minu, sec, pos⟩ := r
  rw [numsB_eq, scalB_eq] at hx
  unfold endB at hx
  simp only at hx
  cases ends
  · rw [if_neg (by decide)] at hx
    by_cases ht : til = 0
    · subst ht
      have E : (inI freq 1 7 && inI itv 1 1000 && inI cnt 0 4096 && inI wkst 0 6) = x := by rw [← hx]; simp
      clear hx
      obtain ⟨p1, hp1⟩ : ∃ p, inI freq 1 7 = p := ⟨_, rfl⟩
      obtain ⟨p2, hp2⟩ : ∃ p, inI itv 1 1000 = p := ⟨_, rfl⟩
      obtain ⟨p3, hp3⟩ : ∃ p, inI cnt 0 4096 = p := ⟨_, rfl⟩
      obtain ⟨p4, hp4⟩ : ∃ p, inI wkst 0 6 = p := ⟨_, rfl⟩
      rw [hp1, hp2, hp3, hp4] at E
      have HP1 := Lib.hid hp1; have HP2 := Lib.hid hp2; have HP3 := Lib.hid hp3; have HP4 := Lib.hid hp4
      clear hp1 hp2 hp3 hp4
      cases p1
      · have G := Lib.hid (show false = x by rw [← E]; rfl)
        clear E
        show Calls Tryz.prog 50 #[.agg #[.int .i64 freq, .int .i64 itv, .int .i64 cnt, .int .i64 0, .int .i64 wkst, .bool false, .slice a6 n6 c6, .slice a7 n7 c7, .slice a8 n8 c8, .slice a9 n9 c9, .slice a10 n10 c10, .slice a11 n11 c11, .slice a12 n12 c12, .slice a13 n13 c13, .slice a14 n14 c14]] w _
        go_enter Tryz.func50, Tryz.ntmps50
        go_wp2_with fail
        refine (pin_is freq 1 7 _ _ HP1.out).mono ?_
        rintro e w1 ⟨rfl, rfl⟩
        go_wp2
        go_ret
        exact ⟨ret_bool G.out, alloc_below _ _⟩
      ·
        cases p2
        · have G := Lib.hid (show false = x by rw [← E]; rfl)
          clear E
          show Calls Tryz.prog 50 #[.agg #[.int .i64 freq, .int .i64 itv, .int .i64 cnt, .int .i64 0, .int .i64 wkst, .bool false, .slice a6 n6 c6, .slice a7 n7 c7, .slice a8 n8 c8, .slice a9 n9 c9, .slice a10 n10 c10, .slice a11 n11 c11, .slice a12 n12 c12, .slice a13 n13 c13, .slice a14 n14 c14]] w _
          go_enter Tryz.func50, Tryz.ntmps50
          go_wp2_with fail
          refine (pin_is freq 1 7 _ _ HP1.out).mono ?_
          rintro e w1 ⟨rfl, rfl⟩
          go_wp2_with fail
          refine (pin_is itv 1 1000 _ _ HP2.out).mono ?_
          rintro e w1 ⟨rfl, rfl⟩
          go_wp2
          go_ret
          exact ⟨ret_bool G.out, alloc_below _ _⟩
        ·
          cases p3
          · have G := Lib.hid (show false = x by rw [← E]; rfl)
            clear E
            show Calls Tryz.prog 50 #[.agg #[.int .i64 freq, .int .i64 itv, .int .i64 cnt, .int .i64 0, .int .i64 wkst, .bool false, .slice a6 n6 c6, .slice a7 n7 c7, .slice a8 n8 c8, .slice a9 n9 c9, .slice a10 n10 c10, .slice a11 n11 c11, .slice a12 n12 c12, .slice a13 n13 c13, .slice a14 n14 c14]] w _
            go_enter Tryz.func50, Tryz.ntmps50
            go_wp2_with fail
            refine (pin_is freq 1 7 _ _ HP1.out).mono ?_
            rintro e w1 ⟨rfl, rfl⟩
            go_wp2_with fail
            refine (pin_is itv 1 1000 _ _ HP2.out).mono ?_
            rintro e w1 ⟨rfl, rfl⟩
            go_wp2_with fail
            refine (pin_is cnt 0 4096 _ _ HP3.out).mono ?_
            rintro e w1 ⟨rfl, rfl⟩
            go_wp2
            go_ret
            exact ⟨ret_bool G.out, alloc_below _ _⟩
          ·
            cases p4
            · have G := Lib.hid (show false = x by rw [← E]; rfl)
              clear E
              show Calls Tryz.prog 50 #[.agg #[.int .i64 freq, .int .i64 itv, .int .i64 cnt, .int .i64 0, .int .i64 wkst, .bool false, .slice a6 n6 c6, .slice a7 n7 c7, .slice a8 n8 c8, .slice a9 n9 c9, .slice a10 n10 c10, .slice a11 n11 c11, .slice a12 n12 c12, .slice a13 n13 c13, .slice a14 n14 c14]] w _
              go_enter Tryz.func50, Tryz.ntmps50
              go_wp2_with fail
              refine (pin_is freq 1 7 _ _ HP1.out).mono ?_
              rintro e w1 ⟨rfl, rfl⟩
              go_wp2_with fail
              refine (pin_is itv 1 1000 _ _ HP2.out).mono ?_
              rintro e w1 ⟨rfl, rfl⟩
              go_wp2_with fail
              refine (pin_is cnt 0 4096 _ _ HP3.out).mono ?_
              rintro e w1 ⟨rfl, rfl⟩
              go_wp2_with fail
              refine (pin_is wkst 0 6 _ _ HP4.out).mono ?_
              rintro e w1 ⟨rfl, rfl⟩
              go_wp2
              go_ret
              exact ⟨ret_bool G.out, alloc_below _ _⟩
            · have G := Lib.hid (show true = x by rw [← E]; rfl)
              clear E
              show Calls Tryz.prog 50 #[.agg #[.int .i64 freq, .int .i64 itv, .int .i64 cnt, .int .i64 0, .int .i64 wkst, .bool false, .slice a6 n6 c6, .slice a7 n7 c7, .slice a8 n8 c8, .slice a9 n9 c9, .slice a10 n10 c10, .slice a11 n11 c11, .slice a12 n12 c12, .slice a13 n13 c13, .slice a14 n14 c14]] w _
              go_enter Tryz.func50, Tryz.ntmps50
              go_wp2_with fail
              refine (pin_is freq 1 7 _ _ HP1.out).mono ?_
              rintro e w1 ⟨rfl, rfl⟩
              go_wp2_with fail
              refine (pin_is itv 1 1000 _ _ HP2.out).mono ?_
              rintro e w1 ⟨rfl, rfl⟩
              go_wp2_with fail
              refine (pin_is cnt 0 4096 _ _ HP3.out).mono ?_
              rintro e w1 ⟨rfl, rfl⟩
              go_wp2_with fail
              refine (pin_is wkst 0 6 _ _ HP4.out).mono ?_
              rintro e w1 ⟨rfl, rfl⟩
              go_wp2
              go_ret
              exact ⟨ret_bool G.out, alloc_below _ _⟩

    · have G := Lib.hid (show false = x by rw [← hx, decide_eq_false ht]; simp)
      have t1 : ((til : Int) != 0) = true := by rw [bne_iff_ne]; exact ht
      clear hx ht
      show Calls Tryz.prog 50 #[.agg #[.int .i64 freq, .int .i64 itv, .int .i64 cnt, .int .i64 til, .int .i64 wkst, .bool false, .slice a6 n6 c6, .slice a7 n7 c7, .slice a8 n8 c8, .slice a9 n9 c9, .slice a10 n10 c10, .slice a11 n11 c11, .slice a12 n12 c12, .slice a13 n13 c13, .slice a14 n14 c14]] w _
      go_enter Tryz.func50, Tryz.ntmps50
      go_wp2
      go_ret
      exact ⟨ret_bool G.out, alloc_below _ _⟩
  · rw [if_pos rfl] at hx
    by_cases hc : cnt = 0
    · subst hc
      obtain ⟨y, hy⟩ : ∃ y, mayT til = y := ⟨_, rfl⟩
      have HY := Lib.hid (show St.may til = y from hy)
      rw [hy] at hx
      clear hy
      cases y
      · have G := Lib.hid (show false = x by rw [← hx]; simp)
        clear hx
        show Calls Tryz.prog 50 #[.agg #[.int .i64 freq, .int .i64 itv, .int .i64 0, .int .i64 til, .int .i64 wkst, .bool true, .slice a6 n6 c6, .slice a7 n7 c7, .slice a8 n8 c8, .slice a9 n9 c9, .slice a10 n10 c10, .slice a11 n11 c11, .slice a12 n12 c12, .slice a13 n13 c13, .slice a14 n14 c14]] w _
        go_enter Tryz.func50, Tryz.ntmps50
        go_wp2_with fail
        refine (may_no til _ HY.out).mono ?_
        rintro e w1 ⟨rfl, rfl⟩
        go_wp2
        go_ret
        exact ⟨ret_bool G.out, alloc_below _ _⟩
      · have E : (inI freq 1 7 && inI itv 1 1000 && inI 0 0 4096 && inI wkst 0 6) = x := by rw [← hx]; simp
        clear hx
        obtain ⟨p1, hp1⟩ : ∃ p, inI freq 1 7 = p := ⟨_, rfl⟩
        obtain ⟨p2, hp2⟩ : ∃ p, inI itv 1 1000 = p := ⟨_, rfl⟩
        obtain ⟨p3, hp3⟩ : ∃ p, inI 0 0 4096 = p := ⟨_, rfl⟩
        obtain ⟨p4, hp4⟩ : ∃ p, inI wkst 0 6 = p := ⟨_, rfl⟩
        rw [hp1, hp2, hp3, hp4] at E
        have HP1 := Lib.hid hp1; have HP2 := Lib.hid hp2; have HP3 := Lib.hid hp3; have HP4 := Lib.hid hp4
        clear hp1 hp2 hp3 hp4
        cases p1
        · have G := Lib.hid (show false = x by rw [← E]; rfl)
          clear E
          show Calls Tryz.prog 50 #[.agg #[.int .i64 freq, .int .i64 itv, .int .i64 0, .int .i64 til, .int .i64 wkst, .bool true, .slice a6 n6 c6, .slice a7 n7 c7, .slice a8 n8 c8, .slice a9 n9 c9, .slice a10 n10 c10, .slice a11 n11 c11, .slice a12 n12 c12, .slice a13 n13 c13, .slice a14 n14 c14]] w _
          go_enter Tryz.func50, Tryz.ntmps50
          go_wp2_with fail
          refine (may_yes til _ HY.out).mono ?_
          rintro e w1 ⟨rfl, rfl⟩
          go_wp2_with fail
          refine (pin_is freq 1 7 _ _ HP1.out).mono ?_
          rintro e w1 ⟨rfl, rfl⟩
          go_wp2
          go_ret
          exact ⟨ret_bool G.out, alloc_below _ _⟩
        ·
          cases p2
          · have G := Lib.hid (show false = x by rw [← E]; rfl)
            clear E
            show Calls Tryz.prog 50 #[.agg #[.int .i64 freq, .int .i64 itv, .int .i64 0, .int .i64 til, .int .i64 wkst, .bool true, .slice a6 n6 c6, .slice a7 n7 c7, .slice a8 n8 c8, .slice a9 n9 c9, .slice a10 n10 c10, .slice a11 n11 c11, .slice a12 n12 c12, .slice a13 n13 c13, .slice a14 n14 c14]] w _
            go_enter Tryz.func50, Tryz.ntmps50
            go_wp2_with fail
            refine (may_yes til _ HY.out).mono ?_
            rintro e w1 ⟨rfl, rfl⟩
            go_wp2_with fail
            refine (pin_is freq 1 7 _ _ HP1.out).mono ?_
            rintro e w1 ⟨rfl, rfl⟩
            go_wp2_with fail
            refine (pin_is itv 1 1000 _ _ HP2.out).mono ?_
            rintro e w1 ⟨rfl, rfl⟩
            go_wp2
            go_ret
            exact ⟨ret_bool G.out, alloc_below _ _⟩
          ·
            cases p3
            · have G := Lib.hid (show false = x by rw [← E]; rfl)
              clear E
              show Calls Tryz.prog 50 #[.agg #[.int .i64 freq, .int .i64 itv, .int .i64 0, .int .i64 til, .int .i64 wkst, .bool true, .slice a6 n6 c6, .slice a7 n7 c7, .slice a8 n8 c8, .slice a9 n9 c9, .slice a10 n10 c10, .slice a11 n11 c11, .slice a12 n12 c12, .slice a13 n13 c13, .slice a14 n14 c14]] w _
              go_enter Tryz.func50, Tryz.ntmps50
              go_wp2_with fail
              refine (may_yes til _ HY.out).mono ?_
              rintro e w1 ⟨rfl, rfl⟩
              go_wp2_with fail
              refine (pin_is freq 1 7 _ _ HP1.out).mono ?_
              rintro e w1 ⟨rfl, rfl⟩
              go_wp2_with fail
              refine (pin_is itv 1 1000 _ _ HP2.out).mono ?_
              rintro e w1 ⟨rfl, rfl⟩
              go_wp2_with fail
              refine (pin_is 0 0 4096 _ _ HP3.out).mono ?_
              rintro e w1 ⟨rfl, rfl⟩
              go_wp2
              go_ret
              exact ⟨ret_bool G.out, alloc_below _ _⟩
            ·
              cases p4
              · have G := Lib.hid (show false = x by rw [← E]; rfl)
                clear E
                show Calls Tryz.prog 50 #[.agg #[.int .i64 freq, .int .i64 itv, .int .i64 0, .int .i64 til, .int .i64 wkst, .bool true, .slice a6 n6 c6, .slice a7 n7 c7, .slice a8 n8 c8, .slice a9 n9 c9, .slice a10 n10 c10, .slice a11 n11 c11, .slice a12 n12 c12, .slice a13 n13 c13, .slice a14 n14 c14]] w _
                go_enter Tryz.func50, Tryz.ntmps50
                go_wp2_with fail
                refine (may_yes til _ HY.out).mono ?_
                rintro e w1 ⟨rfl, rfl⟩
                go_wp2_with fail
                refine (pin_is freq 1 7 _ _ HP1.out).mono ?_
                rintro e w1 ⟨rfl, rfl⟩
                go_wp2_with fail
                refine (pin_is itv 1 1000 _ _ HP2.out).mono ?_
                rintro e w1 ⟨rfl, rfl⟩
                go_wp2_with fail
                refine (pin_is 0 0 4096 _ _ HP3.out).mono ?_
                rintro e w1 ⟨rfl, rfl⟩
                go_wp2_with fail
                refine (pin_is wkst 0 6 _ _ HP4.out).mono ?_
                rintro e w1 ⟨rfl, rfl⟩
                go_wp2
                go_ret
                exact ⟨ret_bool G.out, alloc_below _ _⟩
              · have G := Lib.hid (show true = x by rw [← E]; rfl)
                clear E
                show Calls Tryz.prog 50 #[.agg #[.int .i64 freq, .int .i64 itv, .int .i64 0, .int .i64 til, .int .i64 wkst, .bool true, .slice a6 n6 c6, .slice a7 n7 c7, .slice a8 n8 c8, .slice a9 n9 c9, .slice a10 n10 c10, .slice a11 n11 c11, .slice a12 n12 c12, .slice a13 n13 c13, .slice a14 n14 c14]] w _
                go_enter Tryz.func50, Tryz.ntmps50
                go_wp2_with fail
                refine (may_yes til _ HY.out).mono ?_
                rintro e w1 ⟨rfl, rfl⟩
                go_wp2_with fail
                refine (pin_is freq 1 7 _ _ HP1.out).mono ?_
                rintro e w1 ⟨rfl, rfl⟩
                go_wp2_with fail
                refine (pin_is itv 1 1000 _ _ HP2.out).mono ?_
                rintro e w1 ⟨rfl, rfl⟩
                go_wp2_with fail
                refine (pin_is 0 0 4096 _ _ HP3.out).mono ?_
                rintro e w1 ⟨rfl, rfl⟩
                go_wp2_with fail
                refine (pin_is wkst 0 6 _ _ HP4.out).mono ?_
                rintro e w1 ⟨rfl, rfl⟩
                go_wp2
                go_ret
                exact ⟨ret_bool G.out, alloc_below _ _⟩

    · have G := Lib.hid (show false = x by
        rw [← hx]
        by_cases g : 0 < cnt
        · rw [decide_eq_false (show ¬ cnt ≤ 0 by omega)]; simp
        · rw [inI_no (n := cnt) (lo := 0) (hi := 4096) (by omega)]; simp)
      have t1 : ((cnt : Int) != 0) = true := by rw [bne_iff_ne]; exact hc
      clear hx hc
      show Calls Tryz.prog 50 #[.agg #[.int .i64 freq, .int .i64 itv, .int .i64 cnt, .int .i64 til, .int .i64 wkst, .bool true, .slice a6 n6 c6, .slice a7 n7 c7, .slice a8 n8 c8, .slice a9 n9 c9, .slice a10 n10 c10, .slice a11 n11 c11, .slice a12 n12 c12, .slice a13 n13 c13, .slice a14 n14 c14]] w _
      go_enter Tryz.func50, Tryz.ntmps50
      go_wp2
      go_ret
      exact ⟨ret_bool G.out, alloc_below _ _⟩
theorem listB_eq (r : Ru) : listB r = (inB r.mon 1 12 true && inB r.week (-53) 53 false && inB r.yday (-366) 366 false && inB r.mday (-31) 31 false && dayB r.day && inB r.hour 0 23 true && inB r.minu 0 59 true && inB r.sec 0 59 true && inB r.pos (-366) 366 false) := by
  unfold listB
  cases inB r.mon 1 12 true <;> cases inB r.week (-53) 53 false <;> cases inB r.yday (-366) 366 false <;> cases inB r.mday (-31) 31 false <;> cases dayB r.day <;> cases inB r.pos (-366) 366 false <;> simp
set_option maxRecDepth 100000 in
set_option maxHeartbeats 4000000 in
/-- rule.mayLists -/
theorem mayLists_any (w : World) (S : RS) (r : Ru) (x : Bool) (h : RuAt w S r) (hx : listB r = x) :
    Calls Tryz.prog 51 #[S.val r] w fun e w' => e = .returned (.bool x) ∧ Below w.heap.size w w' := by
  obtain ⟨a6, n6, c6, a7, n7, c7, a8, n8, c8, a9, n9, c9, a10, n10, c10, a11, n11, c11, a12, n12, c12, a13, n13, c13, a14, n14, c14⟩ := S
  obtain ⟨freq, itv, cnt, til, wkst, ends, mon, week, yday, mday, day, hour, minu, sec, pos⟩ := r
  obtain ⟨h6, h7, h8, h9, h10, h11, h12, h13, h14, l6, l7, l8, l9, l10, l11, l12, l13, l14⟩ := h
  simp only at h6 h7 h8 h9 h10 h11 h12 h13 h14 l6 l7 l8 l9 l10 l11 l12 l13 l14
  rw [listB_eq] at hx
  simp only at hx
  obtain ⟨p0, hp0⟩ : ∃ p, inB mon 1 12 true = p := ⟨_, rfl⟩
  obtain ⟨p1, hp1⟩ : ∃ p, inB week (-53) 53 false = p := ⟨_, rfl⟩
  obtain ⟨p2, hp2⟩ : ∃ p, inB yday (-366) 366 false = p := ⟨_, rfl⟩
  obtain ⟨p3, hp3⟩ : ∃ p, inB mday (-31) 31 false = p := ⟨_, rfl⟩
  obtain ⟨p4, hp4⟩ : ∃ p, dayB day = p := ⟨_, rfl⟩
  obtain ⟨p5, hp5⟩ : ∃ p, inB hour 0 23 true = p := ⟨_, rfl⟩
  obtain ⟨p6, hp6⟩ : ∃ p, inB minu 0 59 true = p := ⟨_, rfl⟩
  obtain ⟨p7, hp7⟩ : ∃ p, inB sec 0 59 true = p := ⟨_, rfl⟩
  obtain ⟨p8, hp8⟩ : ∃ p, inB pos (-366) 366 false = p := ⟨_, rfl⟩
  rw [hp0, hp1, hp2, hp3, hp4, hp5, hp6, hp7, hp8] at hx
  have HP0 := Lib.hid hp0
  have HP1 := Lib.hid hp1
  have HP2 := Lib.hid hp2
  have HP3 := Lib.hid hp3
  have HP4 := Lib.hid hp4
  have HP5 := Lib.hid hp5
  have HP6 := Lib.hid hp6
  have HP7 := Lib.hid hp7
  have HP8 := Lib.hid hp8
  clear hp0 hp1 hp2 hp3 hp4 hp5 hp6 hp7 hp8
  have H6 := Lib.hid (h6.below (alloc_below w (.cells #[.int .i64 freq, .int .i64 itv, .int .i64 cnt, .int .i64 til, .int .i64 wkst, .bool ends, .slice a6 n6 c6, .slice a7 n7 c7, .slice a8 n8 c8, .slice a9 n9 c9, .slice a10 n10 c10, .slice a11 n11 c11, .slice a12 n12 c12, .slice a13 n13 c13, .slice a14 n14 c14] 25)))
  have H7 := Lib.hid (h7.below (alloc_below w (.cells #[.int .i64 freq, .int .i64 itv, .int .i64 cnt, .int .i64 til, .int .i64 wkst, .bool ends, .slice a6 n6 c6, .slice a7 n7 c7, .slice a8 n8 c8, .slice a9 n9 c9, .slice a10 n10 c10, .slice a11 n11 c11, .slice a12 n12 c12, .slice a13 n13 c13, .slice a14 n14 c14] 25)))
  have H8 := Lib.hid (h8.below (alloc_below w (.cells #[.int .i64 freq, .int .i64 itv, .int .i64 cnt, .int .i64 til, .int .i64 wkst, .bool ends, .slice a6 n6 c6, .slice a7 n7 c7, .slice a8 n8 c8, .slice a9 n9 c9, .slice a10 n10 c10, .slice a11 n11 c11, .slice a12 n12 c12, .slice a13 n13 c13, .slice a14 n14 c14] 25)))
  have H9 := Lib.hid (h9.below (alloc_below w (.cells #[.int .i64 freq, .int .i64 itv, .int .i64 cnt, .int .i64 til, .int .i64 wkst, .bool ends, .slice a6 n6 c6, .slice a7 n7 c7, .slice a8 n8 c8, .slice a9 n9 c9, .slice a10 n10 c10, .slice a11 n11 c11, .slice a12 n12 c12, .slice a13 n13 c13, .slice a14 n14 c14] 25)))
  have H10 := Lib.hid (h10.below (alloc_below w (.cells #[.int .i64 freq, .int .i64 itv, .int .i64 cnt, .int .i64 til, .int .i64 wkst, .bool ends, .slice a6 n6 c6, .slice a7 n7 c7, .slice a8 n8 c8, .slice a9 n9 c9, .slice a10 n10 c10, .slice a11 n11 c11, .slice a12 n12 c12, .slice a13 n13 c13, .slice a14 n14 c14] 25)))
  have H11 := Lib.hid (h11.below (alloc_below w (.cells #[.int .i64 freq, .int .i64 itv, .int .i64 cnt, .int .i64 til, .int .i64 wkst, .bool ends, .slice a6 n6 c6, .slice a7 n7 c7, .slice a8 n8 c8, .slice a9 n9 c9, .slice a10 n10 c10, .slice a11 n11 c11, .slice a12 n12 c12, .slice a13 n13 c13, .slice a14 n14 c14] 25)))
  have H12 := Lib.hid (h12.below (alloc_below w (.cells #[.int .i64 freq, .int .i64 itv, .int .i64 cnt, .int .i64 til, .int .i64 wkst, .bool ends, .slice a6 n6 c6, .slice a7 n7 c7, .slice a8 n8 c8, .slice a9 n9 c9, .slice a10 n10 c10, .slice a11 n11 c11, .slice a12 n12 c12, .slice a13 n13 c13, .slice a14 n14 c14] 25)))
  have H13 := Lib.hid (h13.below (alloc_below w (.cells #[.int .i64 freq, .int .i64 itv, .int .i64 cnt, .int .i64 til, .int .i64 wkst, .bool ends, .slice a6 n6 c6, .slice a7 n7 c7, .slice a8 n8 c8, .slice a9 n9 c9, .slice a10 n10 c10, .slice a11 n11 c11, .slice a12 n12 c12, .slice a13 n13 c13, .slice a14 n14 c14] 25)))
  have H14 := Lib.hid (h14.below (alloc_below w (.cells #[.int .i64 freq, .int .i64 itv, .int .i64 cnt, .int .i64 til, .int .i64 wkst, .bool ends, .slice a6 n6 c6, .slice a7 n7 c7, .slice a8 n8 c8, .slice a9 n9 c9, .slice a10 n10 c10, .slice a11 n11 c11, .slice a12 n12 c12, .slice a13 n13 c13, .slice a14 n14 c14] 25)))
  clear h6 h7 h8 h9 h10 h11 h12 h13 h14
  cases p0
  · have G := Lib.hid (show false = x by rw [← hx]; rfl)
    clear hx
    show Calls Tryz.prog 51 #[.agg #[.int .i64 freq, .int .i64 itv, .int .i64 cnt, .int .i64 til, .int .i64 wkst, .bool ends, .slice a6 n6 c6, .slice a7 n7 c7, .slice a8 n8 c8, .slice a9 n9 c9, .slice a10 n10 c10, .slice a11 n11 c11, .slice a12 n12 c12, .slice a13 n13 c13, .slice a14 n14 c14]] w _
    go_enter Tryz.func51, Tryz.ntmps51
    go_wp2_with fail
    refine (mayList_is _ a6 n6 c6 mon 1 12 _ H6.out (by omega) HP0.out).mono ?_
    rintro e w1 ⟨rfl, rfl⟩
    go_wp2
    go_ret
    exact ⟨ret_bool G.out, alloc_below _ _⟩
  ·
    cases p1
    · have G := Lib.hid (show false = x by rw [← hx]; rfl)
      clear hx
      show Calls Tryz.prog 51 #[.agg #[.int .i64 freq, .int .i64 itv, .int .i64 cnt, .int .i64 til, .int .i64 wkst, .bool ends, .slice a6 n6 c6, .slice a7 n7 c7, .slice a8 n8 c8, .slice a9 n9 c9, .slice a10 n10 c10, .slice a11 n11 c11, .slice a12 n12 c12, .slice a13 n13 c13, .slice a14 n14 c14]] w _
      go_enter Tryz.func51, Tryz.ntmps51
      go_wp2_with fail
      refine (mayList_is _ a6 n6 c6 mon 1 12 _ H6.out (by omega) HP0.out).mono ?_
      rintro e w1 ⟨rfl, rfl⟩
      go_wp2_with fail
      refine (mayPlaces_is _ a7 n7 c7 week 53 (-53) _ H7.out (by omega) (by omega) (by omega) (by omega) HP1.out).mono ?_
      rintro e w1 ⟨rfl, rfl⟩
      go_wp2
      go_ret
      exact ⟨ret_bool G.out, alloc_below _ _⟩
    ·
      cases p2
      · have G := Lib.hid (show false = x by rw [← hx]; rfl)
        clear hx
        show Calls Tryz.prog 51 #[.agg #[.int .i64 freq, .int .i64 itv, .int .i64 cnt, .int .i64 til, .int .i64 wkst, .bool ends, .slice a6 n6 c6, .slice a7 n7 c7, .slice a8 n8 c8, .slice a9 n9 c9, .slice a10 n10 c10, .slice a11 n11 c11, .slice a12 n12 c12, .slice a13 n13 c13, .slice a14 n14 c14]] w _
        go_enter Tryz.func51, Tryz.ntmps51
        go_wp2_with fail
        refine (mayList_is _ a6 n6 c6 mon 1 12 _ H6.out (by omega) HP0.out).mono ?_
        rintro e w1 ⟨rfl, rfl⟩
        go_wp2_with fail
        refine (mayPlaces_is _ a7 n7 c7 week 53 (-53) _ H7.out (by omega) (by omega) (by omega) (by omega) HP1.out).mono ?_
        rintro e w1 ⟨rfl, rfl⟩
        go_wp2_with fail
        refine (mayPlaces_is _ a8 n8 c8 yday 366 (-366) _ H8.out (by omega) (by omega) (by omega) (by omega) HP2.out).mono ?_
        rintro e w1 ⟨rfl, rfl⟩
        go_wp2
        go_ret
        exact ⟨ret_bool G.out, alloc_below _ _⟩
      ·
        cases p3
        · have G := Lib.hid (show false = x by rw [← hx]; rfl)
          clear hx
          show Calls Tryz.prog 51 #[.agg #[.int .i64 freq, .int .i64 itv, .int .i64 cnt, .int .i64 til, .int .i64 wkst, .bool ends, .slice a6 n6 c6, .slice a7 n7 c7, .slice a8 n8 c8, .slice a9 n9 c9, .slice a10 n10 c10, .slice a11 n11 c11, .slice a12 n12 c12, .slice a13 n13 c13, .slice a14 n14 c14]] w _
          go_enter Tryz.func51, Tryz.ntmps51
          go_wp2_with fail
          refine (mayList_is _ a6 n6 c6 mon 1 12 _ H6.out (by omega) HP0.out).mono ?_
          rintro e w1 ⟨rfl, rfl⟩
          go_wp2_with fail
          refine (mayPlaces_is _ a7 n7 c7 week 53 (-53) _ H7.out (by omega) (by omega) (by omega) (by omega) HP1.out).mono ?_
          rintro e w1 ⟨rfl, rfl⟩
          go_wp2_with fail
          refine (mayPlaces_is _ a8 n8 c8 yday 366 (-366) _ H8.out (by omega) (by omega) (by omega) (by omega) HP2.out).mono ?_
          rintro e w1 ⟨rfl, rfl⟩
          go_wp2_with fail
          refine (mayPlaces_is _ a9 n9 c9 mday 31 (-31) _ H9.out (by omega) (by omega) (by omega) (by omega) HP3.out).mono ?_
          rintro e w1 ⟨rfl, rfl⟩
          go_wp2
          go_ret
          exact ⟨ret_bool G.out, alloc_below _ _⟩
        ·
          cases p4
          · have G := Lib.hid (show false = x by rw [← hx]; rfl)
            clear hx
            show Calls Tryz.prog 51 #[.agg #[.int .i64 freq, .int .i64 itv, .int .i64 cnt, .int .i64 til, .int .i64 wkst, .bool ends, .slice a6 n6 c6, .slice a7 n7 c7, .slice a8 n8 c8, .slice a9 n9 c9, .slice a10 n10 c10, .slice a11 n11 c11, .slice a12 n12 c12, .slice a13 n13 c13, .slice a14 n14 c14]] w _
            go_enter Tryz.func51, Tryz.ntmps51
            go_wp2_with fail
            refine (mayList_is _ a6 n6 c6 mon 1 12 _ H6.out (by omega) HP0.out).mono ?_
            rintro e w1 ⟨rfl, rfl⟩
            go_wp2_with fail
            refine (mayPlaces_is _ a7 n7 c7 week 53 (-53) _ H7.out (by omega) (by omega) (by omega) (by omega) HP1.out).mono ?_
            rintro e w1 ⟨rfl, rfl⟩
            go_wp2_with fail
            refine (mayPlaces_is _ a8 n8 c8 yday 366 (-366) _ H8.out (by omega) (by omega) (by omega) (by omega) HP2.out).mono ?_
            rintro e w1 ⟨rfl, rfl⟩
            go_wp2_with fail
            refine (mayPlaces_is _ a9 n9 c9 mday 31 (-31) _ H9.out (by omega) (by omega) (by omega) (by omega) HP3.out).mono ?_
            rintro e w1 ⟨rfl, rfl⟩
            go_wp2_with fail
            refine (mayDays_is _ a10 n10 c10 day _ H10.out (by omega) HP4.out).mono ?_
            rintro e w5 ⟨rfl, b5⟩
            have bx := (Box.new w _ _).below b5
            have z11 := bx.at_ 11 _ rfl
            have z12 := bx.at_ 12 _ rfl
            have z13 := bx.at_ 13 _ rfl
            have z14 := bx.at_ 14 _ rfl
            have b6 := (alloc_below w _).trans (b5.mono (by simp))
            clear bx
            go_wp2
            go_ret
            exact ⟨ret_bool G.out, b6⟩
          ·
            cases p5
            · have G := Lib.hid (show false = x by rw [← hx]; rfl)
              clear hx
              show Calls Tryz.prog 51 #[.agg #[.int .i64 freq, .int .i64 itv, .int .i64 cnt, .int .i64 til, .int .i64 wkst, .bool ends, .slice a6 n6 c6, .slice a7 n7 c7, .slice a8 n8 c8, .slice a9 n9 c9, .slice a10 n10 c10, .slice a11 n11 c11, .slice a12 n12 c12, .slice a13 n13 c13, .slice a14 n14 c14]] w _
              go_enter Tryz.func51, Tryz.ntmps51
              go_wp2_with fail
              refine (mayList_is _ a6 n6 c6 mon 1 12 _ H6.out (by omega) HP0.out).mono ?_
              rintro e w1 ⟨rfl, rfl⟩
              go_wp2_with fail
              refine (mayPlaces_is _ a7 n7 c7 week 53 (-53) _ H7.out (by omega) (by omega) (by omega) (by omega) HP1.out).mono ?_
              rintro e w1 ⟨rfl, rfl⟩
              go_wp2_with fail
              refine (mayPlaces_is _ a8 n8 c8 yday 366 (-366) _ H8.out (by omega) (by omega) (by omega) (by omega) HP2.out).mono ?_
              rintro e w1 ⟨rfl, rfl⟩
              go_wp2_with fail
              refine (mayPlaces_is _ a9 n9 c9 mday 31 (-31) _ H9.out (by omega) (by omega) (by omega) (by omega) HP3.out).mono ?_
              rintro e w1 ⟨rfl, rfl⟩
              go_wp2_with fail
              refine (mayDays_is _ a10 n10 c10 day _ H10.out (by omega) HP4.out).mono ?_
              rintro e w5 ⟨rfl, b5⟩
              have bx := (Box.new w _ _).below b5
              have z11 := bx.at_ 11 _ rfl
              have z12 := bx.at_ 12 _ rfl
              have z13 := bx.at_ 13 _ rfl
              have z14 := bx.at_ 14 _ rfl
              have b6 := (alloc_below w _).trans (b5.mono (by simp))
              clear bx
              go_wp2_with fail
              refine (mayList_is _ a11 n11 c11 hour 0 23 _ (H11.out.below b5) (by omega) HP5.out).mono ?_
              rintro e w1 ⟨rfl, rfl⟩
              go_wp2
              go_ret
              exact ⟨ret_bool G.out, b6⟩
            ·
              cases p6
              · have G := Lib.hid (show false = x by rw [← hx]; rfl)
                clear hx
                show Calls Tryz.prog 51 #[.agg #[.int .i64 freq, .int .i64 itv, .int .i64 cnt, .int .i64 til, .int .i64 wkst, .bool ends, .slice a6 n6 c6, .slice a7 n7 c7, .slice a8 n8 c8, .slice a9 n9 c9, .slice a10 n10 c10, .slice a11 n11 c11, .slice a12 n12 c12, .slice a13 n13 c13, .slice a14 n14 c14]] w _
                go_enter Tryz.func51, Tryz.ntmps51
                go_wp2_with fail
                refine (mayList_is _ a6 n6 c6 mon 1 12 _ H6.out (by omega) HP0.out).mono ?_
                rintro e w1 ⟨rfl, rfl⟩
                go_wp2_with fail
                refine (mayPlaces_is _ a7 n7 c7 week 53 (-53) _ H7.out (by omega) (by omega) (by omega) (by omega) HP1.out).mono ?_
                rintro e w1 ⟨rfl, rfl⟩
                go_wp2_with fail
                refine (mayPlaces_is _ a8 n8 c8 yday 366 (-366) _ H8.out (by omega) (by omega) (by omega) (by omega) HP2.out).mono ?_
                rintro e w1 ⟨rfl, rfl⟩
                go_wp2_with fail
                refine (mayPlaces_is _ a9 n9 c9 mday 31 (-31) _ H9.out (by omega) (by omega) (by omega) (by omega) HP3.out).mono ?_
                rintro e w1 ⟨rfl, rfl⟩
                go_wp2_with fail
                refine (mayDays_is _ a10 n10 c10 day _ H10.out (by omega) HP4.out).mono ?_
                rintro e w5 ⟨rfl, b5⟩
                have bx := (Box.new w _ _).below b5
                have z11 := bx.at_ 11 _ rfl
                have z12 := bx.at_ 12 _ rfl
                have z13 := bx.at_ 13 _ rfl
                have z14 := bx.at_ 14 _ rfl
                have b6 := (alloc_below w _).trans (b5.mono (by simp))
                clear bx
                go_wp2_with fail
                refine (mayList_is _ a11 n11 c11 hour 0 23 _ (H11.out.below b5) (by omega) HP5.out).mono ?_
                rintro e w1 ⟨rfl, rfl⟩
                go_wp2_with fail
                refine (mayList_is _ a12 n12 c12 minu 0 59 _ (H12.out.below b5) (by omega) HP6.out).mono ?_
                rintro e w1 ⟨rfl, rfl⟩
                go_wp2
                go_ret
                exact ⟨ret_bool G.out, b6⟩
              ·
                cases p7
                · have G := Lib.hid (show false = x by rw [← hx]; rfl)
                  clear hx
                  show Calls Tryz.prog 51 #[.agg #[.int .i64 freq, .int .i64 itv, .int .i64 cnt, .int .i64 til, .int .i64 wkst, .bool ends, .slice a6 n6 c6, .slice a7 n7 c7, .slice a8 n8 c8, .slice a9 n9 c9, .slice a10 n10 c10, .slice a11 n11 c11, .slice a12 n12 c12, .slice a13 n13 c13, .slice a14 n14 c14]] w _
                  go_enter Tryz.func51, Tryz.ntmps51
                  go_wp2_with fail
                  refine (mayList_is _ a6 n6 c6 mon 1 12 _ H6.out (by omega) HP0.out).mono ?_
                  rintro e w1 ⟨rfl, rfl⟩
                  go_wp2_with fail
                  refine (mayPlaces_is _ a7 n7 c7 week 53 (-53) _ H7.out (by omega) (by omega) (by omega) (by omega) HP1.out).mono ?_
                  rintro e w1 ⟨rfl, rfl⟩
                  go_wp2_with fail
                  refine (mayPlaces_is _ a8 n8 c8 yday 366 (-366) _ H8.out (by omega) (by omega) (by omega) (by omega) HP2.out).mono ?_
                  rintro e w1 ⟨rfl, rfl⟩
                  go_wp2_with fail
                  refine (mayPlaces_is _ a9 n9 c9 mday 31 (-31) _ H9.out (by omega) (by omega) (by omega) (by omega) HP3.out).mono ?_
                  rintro e w1 ⟨rfl, rfl⟩
                  go_wp2_with fail
                  refine (mayDays_is _ a10 n10 c10 day _ H10.out (by omega) HP4.out).mono ?_
                  rintro e w5 ⟨rfl, b5⟩
                  have bx := (Box.new w _ _).below b5
                  have z11 := bx.at_ 11 _ rfl
                  have z12 := bx.at_ 12 _ rfl
                  have z13 := bx.at_ 13 _ rfl
                  have z14 := bx.at_ 14 _ rfl
                  have b6 := (alloc_below w _).trans (b5.mono (by simp))
                  clear bx
                  go_wp2_with fail
                  refine (mayList_is _ a11 n11 c11 hour 0 23 _ (H11.out.below b5) (by omega) HP5.out).mono ?_
                  rintro e w1 ⟨rfl, rfl⟩
                  go_wp2_with fail
                  refine (mayList_is _ a12 n12 c12 minu 0 59 _ (H12.out.below b5) (by omega) HP6.out).mono ?_
                  rintro e w1 ⟨rfl, rfl⟩
                  go_wp2_with fail
                  refine (mayList_is _ a13 n13 c13 sec 0 59 _ (H13.out.below b5) (by omega) HP7.out).mono ?_
                  rintro e w1 ⟨rfl, rfl⟩
                  go_wp2
                  go_ret
                  exact ⟨ret_bool G.out, b6⟩
                ·
                  cases p8
                  · have G := Lib.hid (show false = x by rw [← hx]; rfl)
                    clear hx
                    show Calls Tryz.prog 51 #[.agg #[.int .i64 freq, .int .i64 itv, .int .i64 cnt, .int .i64 til, .int .i64 wkst, .bool ends, .slice a6 n6 c6, .slice a7 n7 c7, .slice a8 n8 c8, .slice a9 n9 c9, .slice a10 n10 c10, .slice a11 n11 c11, .slice a12 n12 c12, .slice a13 n13 c13, .slice a14 n14 c14]] w _
                    go_enter Tryz.func51, Tryz.ntmps51
                    go_wp2_with fail
                    refine (mayList_is _ a6 n6 c6 mon 1 12 _ H6.out (by omega) HP0.out).mono ?_
                    rintro e w1 ⟨rfl, rfl⟩
                    go_wp2_with fail
                    refine (mayPlaces_is _ a7 n7 c7 week 53 (-53) _ H7.out (by omega) (by omega) (by omega) (by omega) HP1.out).mono ?_
                    rintro e w1 ⟨rfl, rfl⟩
                    go_wp2_with fail
                    refine (mayPlaces_is _ a8 n8 c8 yday 366 (-366) _ H8.out (by omega) (by omega) (by omega) (by omega) HP2.out).mono ?_
                    rintro e w1 ⟨rfl, rfl⟩
                    go_wp2_with fail
                    refine (mayPlaces_is _ a9 n9 c9 mday 31 (-31) _ H9.out (by omega) (by omega) (by omega) (by omega) HP3.out).mono ?_
                    rintro e w1 ⟨rfl, rfl⟩
                    go_wp2_with fail
                    refine (mayDays_is _ a10 n10 c10 day _ H10.out (by omega) HP4.out).mono ?_
                    rintro e w5 ⟨rfl, b5⟩
                    have bx := (Box.new w _ _).below b5
                    have z11 := bx.at_ 11 _ rfl
                    have z12 := bx.at_ 12 _ rfl
                    have z13 := bx.at_ 13 _ rfl
                    have z14 := bx.at_ 14 _ rfl
                    have b6 := (alloc_below w _).trans (b5.mono (by simp))
                    clear bx
                    go_wp2_with fail
                    refine (mayList_is _ a11 n11 c11 hour 0 23 _ (H11.out.below b5) (by omega) HP5.out).mono ?_
                    rintro e w1 ⟨rfl, rfl⟩
                    go_wp2_with fail
                    refine (mayList_is _ a12 n12 c12 minu 0 59 _ (H12.out.below b5) (by omega) HP6.out).mono ?_
                    rintro e w1 ⟨rfl, rfl⟩
                    go_wp2_with fail
                    refine (mayList_is _ a13 n13 c13 sec 0 59 _ (H13.out.below b5) (by omega) HP7.out).mono ?_
                    rintro e w1 ⟨rfl, rfl⟩
                    go_wp2_with fail
                    refine (mayPlaces_is _ a14 n14 c14 pos 366 (-366) _ (H14.out.below b5) (by omega) (by omega) (by omega) (by omega) HP8.out).mono ?_
                    rintro e w1 ⟨rfl, rfl⟩
                    go_wp2
                    go_ret
                    exact ⟨ret_bool G.out, b6⟩
                  · have G := Lib.hid (show true = x by rw [← hx]; rfl)
                    clear hx
                    show Calls Tryz.prog 51 #[.agg #[.int .i64 freq, .int .i64 itv, .int .i64 cnt, .int .i64 til, .int .i64 wkst, .bool ends, .slice a6 n6 c6, .slice a7 n7 c7, .slice a8 n8 c8, .slice a9 n9 c9, .slice a10 n10 c10, .slice a11 n11 c11, .slice a12 n12 c12, .slice a13 n13 c13, .slice a14 n14 c14]] w _
                    go_enter Tryz.func51, Tryz.ntmps51
                    go_wp2_with fail
                    refine (mayList_is _ a6 n6 c6 mon 1 12 _ H6.out (by omega) HP0.out).mono ?_
                    rintro e w1 ⟨rfl, rfl⟩
                    go_wp2_with fail
                    refine (mayPlaces_is _ a7 n7 c7 week 53 (-53) _ H7.out (by omega) (by omega) (by omega) (by omega) HP1.out).mono ?_
                    rintro e w1 ⟨rfl, rfl⟩
                    go_wp2_with fail
                    refine (mayPlaces_is _ a8 n8 c8 yday 366 (-366) _ H8.out (by omega) (by omega) (by omega) (by omega) HP2.out).mono ?_
                    rintro e w1 ⟨rfl, rfl⟩
                    go_wp2_with fail
                    refine (mayPlaces_is _ a9 n9 c9 mday 31 (-31) _ H9.out (by omega) (by omega) (by omega) (by omega) HP3.out).mono ?_
                    rintro e w1 ⟨rfl, rfl⟩
                    go_wp2_with fail
                    refine (mayDays_is _ a10 n10 c10 day _ H10.out (by omega) HP4.out).mono ?_
                    rintro e w5 ⟨rfl, b5⟩
                    have bx := (Box.new w _ _).below b5
                    have z11 := bx.at_ 11 _ rfl
                    have z12 := bx.at_ 12 _ rfl
                    have z13 := bx.at_ 13 _ rfl
                    have z14 := bx.at_ 14 _ rfl
                    have b6 := (alloc_below w _).trans (b5.mono (by simp))
                    clear bx
                    go_wp2_with fail
                    refine (mayList_is _ a11 n11 c11 hour 0 23 _ (H11.out.below b5) (by omega) HP5.out).mono ?_
                    rintro e w1 ⟨rfl, rfl⟩
                    go_wp2_with fail
                    refine (mayList_is _ a12 n12 c12 minu 0 59 _ (H12.out.below b5) (by omega) HP6.out).mono ?_
                    rintro e w1 ⟨rfl, rfl⟩
                    go_wp2_with fail
                    refine (mayList_is _ a13 n13 c13 sec 0 59 _ (H13.out.below b5) (by omega) HP7.out).mono ?_
                    rintro e w1 ⟨rfl, rfl⟩
                    go_wp2_with fail
                    refine (mayPlaces_is _ a14 n14 c14 pos 366 (-366) _ (H14.out.below b5) (by omega) (by omega) (by omega) (by omega) HP8.out).mono ?_
                    rintro e w1 ⟨rfl, rfl⟩
                    go_wp2
                    go_ret
                    exact ⟨ret_bool G.out, b6⟩
end Go.Proofs.YtkkmhjplfpdhcaaGreatDoor.Ru
