/- ExpandEvery answers true: a rule by weeks, days or hours and nothing else is just its start and every so many beyond. -/
import Derived.Test.YtnfcchimkfnmkaaGreatDoorExMathB
import Derived.Test.YtnfcchimkfnmkaaGreatDoorExFst
set_option linter.unusedVariables false
namespace Go.Proofs.YtnfcchimkfnmkaaGreatDoor.Ex
open Cv St Ru Dd Mb

end Go.Proofs.YtnfcchimkfnmkaaGreatDoor.Ex
namespace Go.Proofs.YtnfcchimkfnmkaaGreatDoor.Ex
open Cv St Ru Dd Mb

theorem mayE_mk {r : Ru} {start end_ most : Int} (h1 : mayR r = true) (h2 : St.may start = true) (h3 : St.may end_ = true) (h4 : end_ - start ≤ 316224000) (h5 : 1 ≤ most) (h6 : most ≤ 4096) : mayE r start end_ most = true := by
  unfold mayE
  rw [h1, h2, h3, decide_eq_true h4, decide_eq_true (show 1 ≤ most ∧ most ≤ 4096 from ⟨h5, h6⟩)]
  rfl
theorem list_mk {r : Ru} {start end_ most : Int} {l : List Int} (h : mayE r start end_ most = true) (e : momL r start start end_ = l) (d : (l.length : Int) ≤ most) : listR r start end_ most = (l, 0) := by
  unfold listR
  rw [if_neg (by rw [h]; decide), e, if_neg (by omega)]
end Go.Proofs.YtnfcchimkfnmkaaGreatDoor.Ex
namespace Go.Proofs.YtnfcchimkfnmkaaGreatDoor.Ex
open Cv St Ru Dd Mb

-- ExpandEvery
def everyR (f b : Int) : Ru := ⟨f, b, 0, 0, 0, false, [], [], [], [], [], [], [], [], []⟩
def stepE (f : Int) : Int := if f = 3 then 604800 else if f = 4 then 86400 else 3600
theorem every_may {f b : Int} (hf : f = 3 ∨ f = 4 ∨ f = 5) (h1 : 1 ≤ b) (h2 : b ≤ 1000) : mayR (everyR f b) = true := by
  have e : ∀ lo hi z, inB [] lo hi z = true := fun lo hi z => by unfold inB riseB; simp
  have d : dayB [] = true := by unfold dayB; simp
  unfold mayR scalB endB listB besideB nthB posB oftenB everyR
  simp only [e, d]
  simp [numbB]
  omega
theorem every_fits {f b start n : Int} (hf : f = 3 ∨ f = 4 ∨ f = 5) (h1 : 1 ≤ b) (h2 : b ≤ 1000) (hs : St.may start = true) (hn : isday n = true) :
    fitsB (everyR f b) start n = (decide (f = 3 → wd n = wd (start / 86400))) := by
  unfold fitsB
  rw [every_may hf h1 h2, hs, hn]
  unfold fitB weekB Dd.placeB dayFB startB everyR
  rcases hf with rfl | rfl | rfl <;> simp [hasB, dhasB]
theorem every_raw {f b start t : Int} (hf : f = 3 ∨ f = 4 ∨ f = 5) (h1 : 1 ≤ b) (h2 : b ≤ 1000) (hs : St.may start = true) (ht : St.may t = true) :
    rawB (everyR f b) start t = true ↔ (t - start) % (stepE f * b) = 0 := by
  have key : ∀ x y : Int, 0 < y → ((x - start) % (y * b) = 0 ↔ (∃ k, x - start = y * k ∧ k % b = 0)) := fun x y hy => by
    constructor
    · intro h
      obtain ⟨c, hc⟩ := Int.dvd_of_emod_eq_zero h
      exact ⟨b * c, by rw [hc, Int.mul_assoc], Int.mul_emod_right _ _⟩
    · rintro ⟨k, h, g⟩
      obtain ⟨c, hc⟩ := Int.dvd_of_emod_eq_zero g
      rw [h, hc, ← Int.mul_assoc]
      exact Int.mul_emod_right _ _
  have fits := every_fits (n := t / 86400) hf h1 h2 hs (may_isday ht)
  have it : (everyR f b).itv = b := rfl
  have ts : timS (everyR f b) start = [start % 86400 % 60] := by rcases hf with rfl | rfl | rfl <;> rfl
  have tm : timM (everyR f b) start = [start % 86400 % 3600 / 60] := by rcases hf with rfl | rfl | rfl <;> rfl
  unfold rawB inPer
  rw [every_may hf h1 h2, hs, ht, fits, tm, ts, it]
  unfold ownM ownS
  simp only [List.mem_singleton, Bool.and_eq_true, Bool.true_and, decide_eq_true_eq]
  rcases hf with rfl | rfl | rfl
  · have p : ∀ u, per (everyR 3 b) u = (u / 86400 + 3) / 7 := fun u => by unfold per perD everyR; simp
    have th : timH (everyR 3 b) start = [start % 86400 / 3600] := rfl
    rw [p, p, th, show stepE 3 = 604800 from rfl, key t _ (by decide)]
    unfold ownH
    simp only [List.mem_singleton]
    unfold wd
    constructor
    · intro h
      have hw := h.1.1.1.2 (by first | trivial | rfl)
      exact ⟨(t / 86400 + 3) / 7 - (start / 86400 + 3) / 7, by omega, h.1.1.1.1⟩
    · rintro ⟨k, h, g⟩
      have : (t / 86400 + 3) / 7 - (start / 86400 + 3) / 7 = k := by omega
      rw [this]
      omega
  · have p : ∀ u, per (everyR 4 b) u = u / 86400 := fun u => by unfold per perD everyR; simp
    have th : timH (everyR 4 b) start = [start % 86400 / 3600] := rfl
    rw [p, p, th, show stepE 4 = 86400 from rfl, key t _ (by decide)]
    unfold ownH
    simp only [List.mem_singleton]
    constructor
    · intro h
      exact ⟨t / 86400 - start / 86400, by omega, by omega⟩
    · rintro ⟨k, h, g⟩
      have : t / 86400 - start / 86400 = k := by omega
      rw [this]
      omega
  · have p : ∀ u, per (everyR 5 b) u = u / 3600 := fun u => by unfold per everyR; simp
    have th : ownH t ∈ timH (everyR 5 b) start := by
      have : 0 ≤ ownH t ∧ ownH t ≤ 23 := by unfold ownH; omega
      show ownH t ∈ (List.range 24).map Int.ofNat
      rw [List.mem_map]
      exact ⟨(ownH t).toNat, List.mem_range.2 (by omega), by simp; omega⟩
    rw [p, p, show stepE 5 = 3600 from rfl, key t _ (by decide)]
    simp only [th, and_true]
    constructor
    · intro h
      exact ⟨t / 3600 - start / 3600, by omega, by omega⟩
    · rintro ⟨k, h, g⟩
      have : t / 3600 - start / 3600 = k := by omega
      rw [this]
      omega
def everyL (start d : Int) (n : Nat) : List Int := (List.range n).map fun (i : Nat) => start + i * d
theorem every_at {start d : Int} {n i : Nat} (h : i < n) : iat (everyL start d n) i = start + i * d := by
  rw [iat_lt (by simpa [everyL] using h)]
  simp [everyL]
theorem every_len (start d : Int) (n : Nat) : (everyL start d n).length = n := by simp [everyL]
theorem every_ok {f b start : Int} {n : Nat} (hf : f = 3 ∨ f = 4 ∨ f = 5) (h1 : 1 ≤ b) (h2 : b ≤ 1000) (hn : n ≤ 2000) (s0 : 0 ≤ start) (s1 : start ≤ 200000000000) (hd : stepE f * b * n ≤ 316224000) :
    listR (everyR f b) start (start + stepE f * b * n) 4096 = (everyL start (stepE f * b) n, 0) := by
  have hp : 0 < stepE f := by unfold stepE; split; decide; split <;> decide
  have dp : 0 < stepE f * b := Int.mul_pos hp (by omega)
  have np : 0 ≤ stepE f * b * n := Int.mul_nonneg (Int.le_of_lt dp) (by omega)
  have ms : St.may start = true := decide_eq_true (by omega)
  have me : St.may (start + stepE f * b * n) = true := decide_eq_true (by omega)
  refine list_mk (mayE_mk (every_may hf h1 h2) ms me (by omega) (by decide) (by decide)) ?_ (by rw [every_len]; omega)
  have e : momL (everyR f b) start start (start + stepE f * b * n) = selL (hasM (everyR f b) start) start (start + stepE f * b * n) := rfl
  rw [e]
  refine (sel_eq ?_ fun x => ?_).symm
  · unfold everyL
    rw [List.pairwise_map]
    refine List.pairwise_lt_range.imp fun {i j} h => ?_
    have := Int.mul_lt_mul_of_pos_right (show (i : Int) < (j : Int) by omega) dp
    omega
  · have hx : hasM (everyR f b) start x = (decide (start ≤ x) && rawB (everyR f b) start x) := by
      unfold hasM everyR
      simp
    rw [hx]
    simp only [Bool.and_eq_true, decide_eq_true_eq]
    generalize hD : stepE f * b = d at *
    have raw := fun (hm : St.may x = true) => hD ▸ every_raw (t := x) hf h1 h2 ms hm
    unfold everyL
    rw [List.mem_map]
    constructor
    · rintro ⟨i, hi, rfl⟩
      have hi := List.mem_range.1 hi
      have p1 : 0 ≤ (i : Int) * d := Int.mul_nonneg (by omega) (by omega)
      have p2 : (i : Int) * d < d * n := by
        rw [Int.mul_comm]
        exact Int.mul_lt_mul_of_pos_left (by omega) dp
      refine ⟨by omega, by omega, by omega, (raw (decide_eq_true (by omega))).2 ?_⟩
      rw [show start + (i : Int) * d - start = i * d by omega]
      exact Int.mul_emod_left _ _
    · rintro ⟨a, c, -, g⟩
      have g := (raw (decide_eq_true (by omega))).1 g
      obtain ⟨k, hk⟩ := Int.dvd_of_emod_eq_zero g
      have k0 : 0 ≤ k := by
        by_cases q : 0 ≤ k
        · exact q
        · have := Int.mul_le_mul_of_nonneg_left (show k ≤ -1 by omega) (show 0 ≤ d by omega)
          omega
      have k1 : k < n := by
        by_cases q : k < n
        · exact q
        · have := Int.mul_le_mul_of_nonneg_left (show (n : Int) ≤ k by omega) (show 0 ≤ d by omega)
          omega
      refine ⟨k.toNat, List.mem_range.2 (by omega), ?_⟩
      rw [show ((k.toNat : Nat) : Int) = k by omega, Int.mul_comm]
      omega
-- ExpandLater
end Go.Proofs.YtnfcchimkfnmkaaGreatDoor.Ex
namespace Go.Proofs.YtnfcchimkfnmkaaGreatDoor.Ex
open Go.RowKit Cv St Ru Dd Mb

def noS : RS := ⟨none, 0, 0, none, 0, 0, none, 0, 0, none, 0, 0, none, 0, 0, none, 0, 0, none, 0, 0, none, 0, 0, none, 0, 0⟩
theorem nil_at (w : World) (f b : Int) : RuAt w noS (everyR f b) :=
  ⟨IsAt.nil _ _, IsAt.nil _ _, IsAt.nil _ _, IsAt.nil _ _, DyAt.nil _ _, IsAt.nil _ _, IsAt.nil _ _, IsAt.nil _ _, IsAt.nil _ _, Nat.zero_le _, Nat.zero_le _, Nat.zero_le _, Nat.zero_le _, Nat.zero_le _, Nat.zero_le _, Nat.zero_le _, Nat.zero_le _, Nat.zero_le _⟩
theorem every_bd {K b n : Int} (hK : 0 ≤ K) (hK2 : K ≤ 604800) (h1 : 1 ≤ b) (h2 : b ≤ 1000) (h3 : 0 ≤ n) (h4 : n ≤ 2000) : 0 ≤ K * b ∧ K * b ≤ 604800000 ∧ 0 ≤ K * b * n ∧ K * b * n ≤ 1209600000000 := by
  have a : 0 ≤ K * b := Int.mul_nonneg hK (by omega)
  have c : K * b ≤ 604800 * 1000 := Int.mul_le_mul hK2 h2 (by omega) (by omega)
  have d : 0 ≤ K * b * n := Int.mul_nonneg a h3
  have e : K * b * n ≤ 604800000 * 2000 := Int.mul_le_mul (by omega) h4 h3 (by omega)
  exact ⟨a, by omega, d, by omega⟩
theorem every_in {d : Int} {t k : Nat} (hd : 0 ≤ d) (h : t < k) : 0 ≤ (t : Int) * d ∧ (t : Int) * d ≤ d * k := by
  refine ⟨Int.mul_nonneg (by omega) hd, ?_⟩
  rw [Int.mul_comm]
  exact Int.mul_le_mul_of_nonneg_left (by omega) hd
set_option maxRecDepth 100000 in
set_option maxHeartbeats 16000000 in
theorem every_3 (w : World) (T : Tabs w) (b start n : Int) :
    Calls Tryz.prog 7 #[.int .i64 3, .int .i64 b, .int .i64 start, .int .i64 n] w fun e w' => e = .returned (.bool true) ∧ Below w.heap.size w w' := by
  have TT := Lib.hid T
  clear T
  show Calls Tryz.prog 7 #[.int .i64 3, .int .i64 b, .int .i64 start, .int .i64 n] w _
  go_enter Tryz.func7, Tryz.ntmps7
  have B0 := Below.refl w.heap.size w
  go_wp2_with fail
  refine (first8_is _ (TT.out.on B0)).mono ?_
  rintro e w1 ⟨rfl, b1⟩
  have B1 := B0.trans (b1.mono B0.size)
  clear B0
  clear b1
  by_cases h0 : b < 1
  · have t0 : decide (b < 1) = true := decide_eq_true h0
    clear h0
    go_wp2_with fail
    refine (first8_is _ (TT.out.on B1)).mono ?_
    rintro e w2 ⟨rfl, b2⟩
    have B2 := B1.trans (b2.mono B1.size)
    clear B1
    clear b2
    go_wp2
    go_ret
    exact ⟨rfl, B2⟩
  · have t0 : decide (b < 1) = false := decide_eq_false h0
    by_cases h1 : 1000 < b
    · have t1 : decide (1000 < b) = true := decide_eq_true h1
      clear h1
      go_wp2_with fail
      refine (first8_is _ (TT.out.on B1)).mono ?_
      rintro e w2 ⟨rfl, b2⟩
      have B2 := B1.trans (b2.mono B1.size)
      clear B1
      clear b2
      go_wp2
      go_ret
      exact ⟨rfl, B2⟩
    · have t1 : decide (1000 < b) = false := decide_eq_false h1
      by_cases h2 : n < 0
      · have t2 : decide (n < 0) = true := decide_eq_true h2
        clear h2
        go_wp2_with fail
        refine (first8_is _ (TT.out.on B1)).mono ?_
        rintro e w2 ⟨rfl, b2⟩
        have B2 := B1.trans (b2.mono B1.size)
        clear B1
        clear b2
        go_wp2
        go_ret
        exact ⟨rfl, B2⟩
      · have t2 : decide (n < 0) = false := decide_eq_false h2
        by_cases h3 : 2000 < n
        · have t3 : decide (2000 < n) = true := decide_eq_true h3
          clear h3
          go_wp2_with fail
          refine (first8_is _ (TT.out.on B1)).mono ?_
          rintro e w2 ⟨rfl, b2⟩
          have B2 := B1.trans (b2.mono B1.size)
          clear B1
          clear b2
          go_wp2
          go_ret
          exact ⟨rfl, B2⟩
        · have t3 : decide (2000 < n) = false := decide_eq_false h3
          by_cases h4 : start < 0
          · have t4 : decide (start < 0) = true := decide_eq_true h4
            clear h4
            go_wp2_with fail
            refine (first8_is _ (TT.out.on B1)).mono ?_
            rintro e w2 ⟨rfl, b2⟩
            have B2 := B1.trans (b2.mono B1.size)
            clear B1
            clear b2
            go_wp2
            go_ret
            exact ⟨rfl, B2⟩
          · have t4 : decide (start < 0) = false := decide_eq_false h4
            by_cases h5 : 200000000000 < start
            · have t5 : decide (200000000000 < start) = true := decide_eq_true h5
              clear h5
              go_wp2_with fail
              refine (first8_is _ (TT.out.on B1)).mono ?_
              rintro e w2 ⟨rfl, b2⟩
              have B2 := B1.trans (b2.mono B1.size)
              clear B1
              clear b2
              go_wp2
              go_ret
              exact ⟨rfl, B2⟩
            · have t5 : decide (200000000000 < start) = false := decide_eq_false h5
              obtain ⟨k, rfl⟩ : ∃ k : Nat, n = k := ⟨n.toNat, by omega⟩
              obtain ⟨q1, q2, q3, q4⟩ := every_bd (K := 604800) (b := b) (n := k) (by decide) (by decide) (by omega) (by omega) (by omega) (by omega)
              have se : stepE 3 = 604800 := by decide
              have EO := Lib.hid (fun (hd : 604800 * b * (k : Int) ≤ 316224000) => show listR (everyR 3 b) start (start + 604800 * b * k) 4096 = (everyL start (604800 * b) k, 0) from se ▸ every_ok (f := 3) (b := b) (start := start) (n := k) (by decide) (by omega) (by omega) (by omega) (by omega) (by omega) (by rw [se]; exact hd))
              clear se
              have AS := Lib.hid (fun (t : Int) => show t * 604800 * b = t * (604800 * b) from Int.mul_assoc _ _ _)
              obtain ⟨d, hd⟩ : ∃ d, 604800 * b = d := ⟨_, rfl⟩
              have W1 : IntKind.i64.wrap (604800 * b) = d := by rw [← hd]; exact IntWalk.i64_in _ (by omega)
              rw [hd] at q1 q2 q3 q4 EO AS
              obtain ⟨p, hp⟩ : ∃ p, d * (k : Int) = p := ⟨_, rfl⟩
              have W2 : IntKind.i64.wrap (d * (k : Int)) = p := by rw [hp]; exact IntWalk.i64_in _ (by omega)
              have HP := Lib.hid hp
              rw [hp] at q3 q4 EO
              clear hd hp
              by_cases h6 : 316224000 < p
              · have t6 : decide (316224000 < p) = true := decide_eq_true h6
                clear h6 EO AS
                go_wp2_with fail
                refine (first8_is _ (TT.out.on B1)).mono ?_
                rintro e w2 ⟨rfl, b2⟩
                have B2 := B1.trans (b2.mono B1.size)
                clear B1
                clear b2
                go_wp2
                go_ret
                exact ⟨rfl, B2⟩
              · have t6 : decide (316224000 < p) = false := decide_eq_false h6
                have HE := Lib.hid (EO.out (by omega))
                have W3 : IntKind.i64.wrap (start + p) = start + p := IntWalk.i64_in _ (by omega)
                clear EO
                go_upto_region 14 with fail
                have b2 := alloc_below w1 (.cells #[.int .i64 3, .int .i64 b, .int .i64 0, .int .i64 0, .int .i64 0, .bool false, .slice none 0 0, .slice none 0 0, .slice none 0 0, .slice none 0 0, .slice none 0 0, .slice none 0 0, .slice none 0 0, .slice none 0 0, .slice none 0 0] 25)
                have Xp2 := Box.new w1 #[.int .i64 3, .int .i64 b, .int .i64 0, .int .i64 0, .int .i64 0, .bool false, .slice none 0 0, .slice none 0 0, .slice none 0 0, .slice none 0 0, .slice none 0 0, .slice none 0 0, .slice none 0 0, .slice none 0 0, .slice none 0 0] 25
                generalize w1.alloc (.cells #[.int .i64 3, .int .i64 b, .int .i64 0, .int .i64 0, .int .i64 0, .bool false, .slice none 0 0, .slice none 0 0, .slice none 0 0, .slice none 0 0, .slice none 0 0, .slice none 0 0, .slice none 0 0, .slice none 0 0, .slice none 0 0] 25) = w2 at *
                have B2 := B1.trans (b2.mono B1.size)
                clear B1
                clear b2
                have pz0 : w2.cell? ⟨w1.heap.size, 0, none⟩ = some (.int .i64 3) := Xp2.at_ 0 _ rfl
                have pz1 : w2.cell? ⟨w1.heap.size, 1, none⟩ = some (.int .i64 b) := Xp2.at_ 1 _ rfl
                have pz2 : w2.cell? ⟨w1.heap.size, 2, none⟩ = some (.int .i64 0) := Xp2.at_ 2 _ rfl
                have pz3 : w2.cell? ⟨w1.heap.size, 3, none⟩ = some (.int .i64 0) := Xp2.at_ 3 _ rfl
                have pz4 : w2.cell? ⟨w1.heap.size, 4, none⟩ = some (.int .i64 0) := Xp2.at_ 4 _ rfl
                have pz5 : w2.cell? ⟨w1.heap.size, 5, none⟩ = some (.bool false) := Xp2.at_ 5 _ rfl
                have pz6 : w2.cell? ⟨w1.heap.size, 6, none⟩ = some (.slice none 0 0) := Xp2.at_ 6 _ rfl
                have pz7 : w2.cell? ⟨w1.heap.size, 7, none⟩ = some (.slice none 0 0) := Xp2.at_ 7 _ rfl
                have pz8 : w2.cell? ⟨w1.heap.size, 8, none⟩ = some (.slice none 0 0) := Xp2.at_ 8 _ rfl
                have pz9 : w2.cell? ⟨w1.heap.size, 9, none⟩ = some (.slice none 0 0) := Xp2.at_ 9 _ rfl
                have pz10 : w2.cell? ⟨w1.heap.size, 10, none⟩ = some (.slice none 0 0) := Xp2.at_ 10 _ rfl
                have pz11 : w2.cell? ⟨w1.heap.size, 11, none⟩ = some (.slice none 0 0) := Xp2.at_ 11 _ rfl
                have pz12 : w2.cell? ⟨w1.heap.size, 12, none⟩ = some (.slice none 0 0) := Xp2.at_ 12 _ rfl
                have pz13 : w2.cell? ⟨w1.heap.size, 13, none⟩ = some (.slice none 0 0) := Xp2.at_ 13 _ rfl
                have pz14 : w2.cell? ⟨w1.heap.size, 14, none⟩ = some (.slice none 0 0) := Xp2.at_ 14 _ rfl
                go_wp2_with fail
                refine (list_is _ noS (everyR 3 b) (start) (start + p) (4096) ((everyL start d k), 0) (nil_at _ _ _) HE.out).mono ?_
                rintro e w3 ⟨A1, c1, he, i3, b3⟩
                replace he : e = .returned (.tuple #[.slice A1 ((everyL start d k) : List Int).length c1, .int .i64 0]) := he
                replace i3 : IsAt w3 A1 ((everyL start d k) : List Int).length (everyL start d k) := i3
                subst he
                clear pz0 pz1 pz2 pz3 pz4 pz5 pz6 pz7 pz8 pz9 pz10 pz11 pz12 pz13 pz14
                have B3 := B2.trans (b3.mono B2.size)
                have Xp3 := Xp2.below b3
                clear B2 Xp2
                clear b3
                have K1 := Lib.hid i3
                clear i3
                rw [every_len] at K1 ⊢
                clear Xp3
                have s9 : ((k : Int) != (k : Int)) = false := by simp
                go_wp2
                go_loopw [13] (fun i wr => ∃ t : Nat, t ≤ k ∧ i = .int .i64 t ∧ wr = w3) (fun i _ => k - (intOf i).toNat)
                case atStart => exact ⟨0, Nat.zero_le _, rfl, rfl⟩
                case round =>
                  obtain ⟨t, ht, rfl, rfl⟩ := hrel
                  by_cases hlt : t < k
                  · obtain ⟨bl, of, ea, hl, hc⟩ := K1.out.2 (by omega)
                    subst ea
                    have cc := hc t hlt
                    rw [every_at hlt] at cc
                    obtain ⟨p1, p2⟩ := every_in (d := d) (by omega) hlt
                    rw [HP.out] at p2
                    have as_ := AS.out t
                    obtain ⟨e, he⟩ : ∃ e, (t : Int) * d = e := ⟨_, rfl⟩
                    rw [he] at p1 p2 cc as_
                    have W4 : IntKind.i64.wrap ((t : Int) * 604800) = (t : Int) * 604800 := IntWalk.i64_in _ (by omega)
                    have W5 : IntKind.i64.wrap ((t : Int) * 604800 * b) = e := by rw [as_]; exact IntWalk.i64_in _ (by omega)
                    have W6 : IntKind.i64.wrap (start + e) = start + e := IntWalk.i64_in _ (by omega)
                    have s1 : ((start + e) != (start + e)) = false := by simp
                    have s0 : decide ((t : Int) < k) = true := decide_eq_true (by omega)
                    have s00 : decide (t < k) = true := decide_eq_true hlt
                    clear hc he as_
                    go_wp2
                    go_roundw
                    case rel => exact ⟨t + 1, by omega, by go_num, by first | rfl | trivial⟩
                    case measure => simp [intOf]; omega
                  · obtain rfl : k = t := by omega
                    have s0 : decide ((k : Int) < k) = false := decide_eq_false (by omega)
                    have s00 : decide (k < k) = false := decide_eq_false (by omega)
                    go_wp2_with fail
                    refine (first8_is _ (TT.out.on B3)).mono ?_
                    rintro e w4 ⟨rfl, b4⟩
                    have B4 := B3.trans (b4.mono B3.size)
                    clear B3
                    have K1 := Lib.hid (K1.out.below b4)
                    clear b4
                    go_wp2
                    go_ret
                    exact ⟨rfl, B4⟩
set_option maxRecDepth 100000 in
set_option maxHeartbeats 16000000 in
theorem every_4 (w : World) (T : Tabs w) (b start n : Int) :
    Calls Tryz.prog 7 #[.int .i64 4, .int .i64 b, .int .i64 start, .int .i64 n] w fun e w' => e = .returned (.bool true) ∧ Below w.heap.size w w' := by
  have TT := Lib.hid T
  clear T
  show Calls Tryz.prog 7 #[.int .i64 4, .int .i64 b, .int .i64 start, .int .i64 n] w _
  go_enter Tryz.func7, Tryz.ntmps7
  have B0 := Below.refl w.heap.size w
  go_wp2_with fail
  refine (first8_is _ (TT.out.on B0)).mono ?_
  rintro e w1 ⟨rfl, b1⟩
  have B1 := B0.trans (b1.mono B0.size)
  clear B0
  clear b1
  by_cases h0 : b < 1
  · have t0 : decide (b < 1) = true := decide_eq_true h0
    clear h0
    go_wp2_with fail
    refine (first8_is _ (TT.out.on B1)).mono ?_
    rintro e w2 ⟨rfl, b2⟩
    have B2 := B1.trans (b2.mono B1.size)
    clear B1
    clear b2
    go_wp2
    go_ret
    exact ⟨rfl, B2⟩
  · have t0 : decide (b < 1) = false := decide_eq_false h0
    by_cases h1 : 1000 < b
    · have t1 : decide (1000 < b) = true := decide_eq_true h1
      clear h1
      go_wp2_with fail
      refine (first8_is _ (TT.out.on B1)).mono ?_
      rintro e w2 ⟨rfl, b2⟩
      have B2 := B1.trans (b2.mono B1.size)
      clear B1
      clear b2
      go_wp2
      go_ret
      exact ⟨rfl, B2⟩
    · have t1 : decide (1000 < b) = false := decide_eq_false h1
      by_cases h2 : n < 0
      · have t2 : decide (n < 0) = true := decide_eq_true h2
        clear h2
        go_wp2_with fail
        refine (first8_is _ (TT.out.on B1)).mono ?_
        rintro e w2 ⟨rfl, b2⟩
        have B2 := B1.trans (b2.mono B1.size)
        clear B1
        clear b2
        go_wp2
        go_ret
        exact ⟨rfl, B2⟩
      · have t2 : decide (n < 0) = false := decide_eq_false h2
        by_cases h3 : 2000 < n
        · have t3 : decide (2000 < n) = true := decide_eq_true h3
          clear h3
          go_wp2_with fail
          refine (first8_is _ (TT.out.on B1)).mono ?_
          rintro e w2 ⟨rfl, b2⟩
          have B2 := B1.trans (b2.mono B1.size)
          clear B1
          clear b2
          go_wp2
          go_ret
          exact ⟨rfl, B2⟩
        · have t3 : decide (2000 < n) = false := decide_eq_false h3
          by_cases h4 : start < 0
          · have t4 : decide (start < 0) = true := decide_eq_true h4
            clear h4
            go_wp2_with fail
            refine (first8_is _ (TT.out.on B1)).mono ?_
            rintro e w2 ⟨rfl, b2⟩
            have B2 := B1.trans (b2.mono B1.size)
            clear B1
            clear b2
            go_wp2
            go_ret
            exact ⟨rfl, B2⟩
          · have t4 : decide (start < 0) = false := decide_eq_false h4
            by_cases h5 : 200000000000 < start
            · have t5 : decide (200000000000 < start) = true := decide_eq_true h5
              clear h5
              go_wp2_with fail
              refine (first8_is _ (TT.out.on B1)).mono ?_
              rintro e w2 ⟨rfl, b2⟩
              have B2 := B1.trans (b2.mono B1.size)
              clear B1
              clear b2
              go_wp2
              go_ret
              exact ⟨rfl, B2⟩
            · have t5 : decide (200000000000 < start) = false := decide_eq_false h5
              obtain ⟨k, rfl⟩ : ∃ k : Nat, n = k := ⟨n.toNat, by omega⟩
              obtain ⟨q1, q2, q3, q4⟩ := every_bd (K := 86400) (b := b) (n := k) (by decide) (by decide) (by omega) (by omega) (by omega) (by omega)
              have se : stepE 4 = 86400 := by decide
              have EO := Lib.hid (fun (hd : 86400 * b * (k : Int) ≤ 316224000) => show listR (everyR 4 b) start (start + 86400 * b * k) 4096 = (everyL start (86400 * b) k, 0) from se ▸ every_ok (f := 4) (b := b) (start := start) (n := k) (by decide) (by omega) (by omega) (by omega) (by omega) (by omega) (by rw [se]; exact hd))
              clear se
              have AS := Lib.hid (fun (t : Int) => show t * 86400 * b = t * (86400 * b) from Int.mul_assoc _ _ _)
              obtain ⟨d, hd⟩ : ∃ d, 86400 * b = d := ⟨_, rfl⟩
              have W1 : IntKind.i64.wrap (86400 * b) = d := by rw [← hd]; exact IntWalk.i64_in _ (by omega)
              rw [hd] at q1 q2 q3 q4 EO AS
              obtain ⟨p, hp⟩ : ∃ p, d * (k : Int) = p := ⟨_, rfl⟩
              have W2 : IntKind.i64.wrap (d * (k : Int)) = p := by rw [hp]; exact IntWalk.i64_in _ (by omega)
              have HP := Lib.hid hp
              rw [hp] at q3 q4 EO
              clear hd hp
              by_cases h6 : 316224000 < p
              · have t6 : decide (316224000 < p) = true := decide_eq_true h6
                clear h6 EO AS
                go_wp2_with fail
                refine (first8_is _ (TT.out.on B1)).mono ?_
                rintro e w2 ⟨rfl, b2⟩
                have B2 := B1.trans (b2.mono B1.size)
                clear B1
                clear b2
                go_wp2
                go_ret
                exact ⟨rfl, B2⟩
              · have t6 : decide (316224000 < p) = false := decide_eq_false h6
                have HE := Lib.hid (EO.out (by omega))
                have W3 : IntKind.i64.wrap (start + p) = start + p := IntWalk.i64_in _ (by omega)
                clear EO
                go_upto_region 14 with fail
                have b2 := alloc_below w1 (.cells #[.int .i64 4, .int .i64 b, .int .i64 0, .int .i64 0, .int .i64 0, .bool false, .slice none 0 0, .slice none 0 0, .slice none 0 0, .slice none 0 0, .slice none 0 0, .slice none 0 0, .slice none 0 0, .slice none 0 0, .slice none 0 0] 25)
                have Xp2 := Box.new w1 #[.int .i64 4, .int .i64 b, .int .i64 0, .int .i64 0, .int .i64 0, .bool false, .slice none 0 0, .slice none 0 0, .slice none 0 0, .slice none 0 0, .slice none 0 0, .slice none 0 0, .slice none 0 0, .slice none 0 0, .slice none 0 0] 25
                generalize w1.alloc (.cells #[.int .i64 4, .int .i64 b, .int .i64 0, .int .i64 0, .int .i64 0, .bool false, .slice none 0 0, .slice none 0 0, .slice none 0 0, .slice none 0 0, .slice none 0 0, .slice none 0 0, .slice none 0 0, .slice none 0 0, .slice none 0 0] 25) = w2 at *
                have B2 := B1.trans (b2.mono B1.size)
                clear B1
                clear b2
                have pz0 : w2.cell? ⟨w1.heap.size, 0, none⟩ = some (.int .i64 4) := Xp2.at_ 0 _ rfl
                have pz1 : w2.cell? ⟨w1.heap.size, 1, none⟩ = some (.int .i64 b) := Xp2.at_ 1 _ rfl
                have pz2 : w2.cell? ⟨w1.heap.size, 2, none⟩ = some (.int .i64 0) := Xp2.at_ 2 _ rfl
                have pz3 : w2.cell? ⟨w1.heap.size, 3, none⟩ = some (.int .i64 0) := Xp2.at_ 3 _ rfl
                have pz4 : w2.cell? ⟨w1.heap.size, 4, none⟩ = some (.int .i64 0) := Xp2.at_ 4 _ rfl
                have pz5 : w2.cell? ⟨w1.heap.size, 5, none⟩ = some (.bool false) := Xp2.at_ 5 _ rfl
                have pz6 : w2.cell? ⟨w1.heap.size, 6, none⟩ = some (.slice none 0 0) := Xp2.at_ 6 _ rfl
                have pz7 : w2.cell? ⟨w1.heap.size, 7, none⟩ = some (.slice none 0 0) := Xp2.at_ 7 _ rfl
                have pz8 : w2.cell? ⟨w1.heap.size, 8, none⟩ = some (.slice none 0 0) := Xp2.at_ 8 _ rfl
                have pz9 : w2.cell? ⟨w1.heap.size, 9, none⟩ = some (.slice none 0 0) := Xp2.at_ 9 _ rfl
                have pz10 : w2.cell? ⟨w1.heap.size, 10, none⟩ = some (.slice none 0 0) := Xp2.at_ 10 _ rfl
                have pz11 : w2.cell? ⟨w1.heap.size, 11, none⟩ = some (.slice none 0 0) := Xp2.at_ 11 _ rfl
                have pz12 : w2.cell? ⟨w1.heap.size, 12, none⟩ = some (.slice none 0 0) := Xp2.at_ 12 _ rfl
                have pz13 : w2.cell? ⟨w1.heap.size, 13, none⟩ = some (.slice none 0 0) := Xp2.at_ 13 _ rfl
                have pz14 : w2.cell? ⟨w1.heap.size, 14, none⟩ = some (.slice none 0 0) := Xp2.at_ 14 _ rfl
                go_wp2_with fail
                refine (list_is _ noS (everyR 4 b) (start) (start + p) (4096) ((everyL start d k), 0) (nil_at _ _ _) HE.out).mono ?_
                rintro e w3 ⟨A1, c1, he, i3, b3⟩
                replace he : e = .returned (.tuple #[.slice A1 ((everyL start d k) : List Int).length c1, .int .i64 0]) := he
                replace i3 : IsAt w3 A1 ((everyL start d k) : List Int).length (everyL start d k) := i3
                subst he
                clear pz0 pz1 pz2 pz3 pz4 pz5 pz6 pz7 pz8 pz9 pz10 pz11 pz12 pz13 pz14
                have B3 := B2.trans (b3.mono B2.size)
                have Xp3 := Xp2.below b3
                clear B2 Xp2
                clear b3
                have K1 := Lib.hid i3
                clear i3
                rw [every_len] at K1 ⊢
                clear Xp3
                have s9 : ((k : Int) != (k : Int)) = false := by simp
                go_wp2
                go_loopw [13] (fun i wr => ∃ t : Nat, t ≤ k ∧ i = .int .i64 t ∧ wr = w3) (fun i _ => k - (intOf i).toNat)
                case atStart => exact ⟨0, Nat.zero_le _, rfl, rfl⟩
                case round =>
                  obtain ⟨t, ht, rfl, rfl⟩ := hrel
                  by_cases hlt : t < k
                  · obtain ⟨bl, of, ea, hl, hc⟩ := K1.out.2 (by omega)
                    subst ea
                    have cc := hc t hlt
                    rw [every_at hlt] at cc
                    obtain ⟨p1, p2⟩ := every_in (d := d) (by omega) hlt
                    rw [HP.out] at p2
                    have as_ := AS.out t
                    obtain ⟨e, he⟩ : ∃ e, (t : Int) * d = e := ⟨_, rfl⟩
                    rw [he] at p1 p2 cc as_
                    have W4 : IntKind.i64.wrap ((t : Int) * 86400) = (t : Int) * 86400 := IntWalk.i64_in _ (by omega)
                    have W5 : IntKind.i64.wrap ((t : Int) * 86400 * b) = e := by rw [as_]; exact IntWalk.i64_in _ (by omega)
                    have W6 : IntKind.i64.wrap (start + e) = start + e := IntWalk.i64_in _ (by omega)
                    have s1 : ((start + e) != (start + e)) = false := by simp
                    have s0 : decide ((t : Int) < k) = true := decide_eq_true (by omega)
                    have s00 : decide (t < k) = true := decide_eq_true hlt
                    clear hc he as_
                    go_wp2
                    go_roundw
                    case rel => exact ⟨t + 1, by omega, by go_num, by first | rfl | trivial⟩
                    case measure => simp [intOf]; omega
                  · obtain rfl : k = t := by omega
                    have s0 : decide ((k : Int) < k) = false := decide_eq_false (by omega)
                    have s00 : decide (k < k) = false := decide_eq_false (by omega)
                    go_wp2_with fail
                    refine (first8_is _ (TT.out.on B3)).mono ?_
                    rintro e w4 ⟨rfl, b4⟩
                    have B4 := B3.trans (b4.mono B3.size)
                    clear B3
                    have K1 := Lib.hid (K1.out.below b4)
                    clear b4
                    go_wp2
                    go_ret
                    exact ⟨rfl, B4⟩
set_option maxRecDepth 100000 in
set_option maxHeartbeats 16000000 in
theorem every_5 (w : World) (T : Tabs w) (b start n : Int) :
    Calls Tryz.prog 7 #[.int .i64 5, .int .i64 b, .int .i64 start, .int .i64 n] w fun e w' => e = .returned (.bool true) ∧ Below w.heap.size w w' := by
  have TT := Lib.hid T
  clear T
  show Calls Tryz.prog 7 #[.int .i64 5, .int .i64 b, .int .i64 start, .int .i64 n] w _
  go_enter Tryz.func7, Tryz.ntmps7
  have B0 := Below.refl w.heap.size w
  go_wp2_with fail
  refine (first8_is _ (TT.out.on B0)).mono ?_
  rintro e w1 ⟨rfl, b1⟩
  have B1 := B0.trans (b1.mono B0.size)
  clear B0
  clear b1
  by_cases h0 : b < 1
  · have t0 : decide (b < 1) = true := decide_eq_true h0
    clear h0
    go_wp2_with fail
    refine (first8_is _ (TT.out.on B1)).mono ?_
    rintro e w2 ⟨rfl, b2⟩
    have B2 := B1.trans (b2.mono B1.size)
    clear B1
    clear b2
    go_wp2
    go_ret
    exact ⟨rfl, B2⟩
  · have t0 : decide (b < 1) = false := decide_eq_false h0
    by_cases h1 : 1000 < b
    · have t1 : decide (1000 < b) = true := decide_eq_true h1
      clear h1
      go_wp2_with fail
      refine (first8_is _ (TT.out.on B1)).mono ?_
      rintro e w2 ⟨rfl, b2⟩
      have B2 := B1.trans (b2.mono B1.size)
      clear B1
      clear b2
      go_wp2
      go_ret
      exact ⟨rfl, B2⟩
    · have t1 : decide (1000 < b) = false := decide_eq_false h1
      by_cases h2 : n < 0
      · have t2 : decide (n < 0) = true := decide_eq_true h2
        clear h2
        go_wp2_with fail
        refine (first8_is _ (TT.out.on B1)).mono ?_
        rintro e w2 ⟨rfl, b2⟩
        have B2 := B1.trans (b2.mono B1.size)
        clear B1
        clear b2
        go_wp2
        go_ret
        exact ⟨rfl, B2⟩
      · have t2 : decide (n < 0) = false := decide_eq_false h2
        by_cases h3 : 2000 < n
        · have t3 : decide (2000 < n) = true := decide_eq_true h3
          clear h3
          go_wp2_with fail
          refine (first8_is _ (TT.out.on B1)).mono ?_
          rintro e w2 ⟨rfl, b2⟩
          have B2 := B1.trans (b2.mono B1.size)
          clear B1
          clear b2
          go_wp2
          go_ret
          exact ⟨rfl, B2⟩
        · have t3 : decide (2000 < n) = false := decide_eq_false h3
          by_cases h4 : start < 0
          · have t4 : decide (start < 0) = true := decide_eq_true h4
            clear h4
            go_wp2_with fail
            refine (first8_is _ (TT.out.on B1)).mono ?_
            rintro e w2 ⟨rfl, b2⟩
            have B2 := B1.trans (b2.mono B1.size)
            clear B1
            clear b2
            go_wp2
            go_ret
            exact ⟨rfl, B2⟩
          · have t4 : decide (start < 0) = false := decide_eq_false h4
            by_cases h5 : 200000000000 < start
            · have t5 : decide (200000000000 < start) = true := decide_eq_true h5
              clear h5
              go_wp2_with fail
              refine (first8_is _ (TT.out.on B1)).mono ?_
              rintro e w2 ⟨rfl, b2⟩
              have B2 := B1.trans (b2.mono B1.size)
              clear B1
              clear b2
              go_wp2
              go_ret
              exact ⟨rfl, B2⟩
            · have t5 : decide (200000000000 < start) = false := decide_eq_false h5
              obtain ⟨k, rfl⟩ : ∃ k : Nat, n = k := ⟨n.toNat, by omega⟩
              obtain ⟨q1, q2, q3, q4⟩ := every_bd (K := 3600) (b := b) (n := k) (by decide) (by decide) (by omega) (by omega) (by omega) (by omega)
              have se : stepE 5 = 3600 := by decide
              have EO := Lib.hid (fun (hd : 3600 * b * (k : Int) ≤ 316224000) => show listR (everyR 5 b) start (start + 3600 * b * k) 4096 = (everyL start (3600 * b) k, 0) from se ▸ every_ok (f := 5) (b := b) (start := start) (n := k) (by decide) (by omega) (by omega) (by omega) (by omega) (by omega) (by rw [se]; exact hd))
              clear se
              have AS := Lib.hid (fun (t : Int) => show t * 3600 * b = t * (3600 * b) from Int.mul_assoc _ _ _)
              obtain ⟨d, hd⟩ : ∃ d, 3600 * b = d := ⟨_, rfl⟩
              have W1 : IntKind.i64.wrap (3600 * b) = d := by rw [← hd]; exact IntWalk.i64_in _ (by omega)
              rw [hd] at q1 q2 q3 q4 EO AS
              obtain ⟨p, hp⟩ : ∃ p, d * (k : Int) = p := ⟨_, rfl⟩
              have W2 : IntKind.i64.wrap (d * (k : Int)) = p := by rw [hp]; exact IntWalk.i64_in _ (by omega)
              have HP := Lib.hid hp
              rw [hp] at q3 q4 EO
              clear hd hp
              by_cases h6 : 316224000 < p
              · have t6 : decide (316224000 < p) = true := decide_eq_true h6
                clear h6 EO AS
                go_wp2_with fail
                refine (first8_is _ (TT.out.on B1)).mono ?_
                rintro e w2 ⟨rfl, b2⟩
                have B2 := B1.trans (b2.mono B1.size)
                clear B1
                clear b2
                go_wp2
                go_ret
                exact ⟨rfl, B2⟩
              · have t6 : decide (316224000 < p) = false := decide_eq_false h6
                have HE := Lib.hid (EO.out (by omega))
                have W3 : IntKind.i64.wrap (start + p) = start + p := IntWalk.i64_in _ (by omega)
                clear EO
                go_upto_region 14 with fail
                have b2 := alloc_below w1 (.cells #[.int .i64 5, .int .i64 b, .int .i64 0, .int .i64 0, .int .i64 0, .bool false, .slice none 0 0, .slice none 0 0, .slice none 0 0, .slice none 0 0, .slice none 0 0, .slice none 0 0, .slice none 0 0, .slice none 0 0, .slice none 0 0] 25)
                have Xp2 := Box.new w1 #[.int .i64 5, .int .i64 b, .int .i64 0, .int .i64 0, .int .i64 0, .bool false, .slice none 0 0, .slice none 0 0, .slice none 0 0, .slice none 0 0, .slice none 0 0, .slice none 0 0, .slice none 0 0, .slice none 0 0, .slice none 0 0] 25
                generalize w1.alloc (.cells #[.int .i64 5, .int .i64 b, .int .i64 0, .int .i64 0, .int .i64 0, .bool false, .slice none 0 0, .slice none 0 0, .slice none 0 0, .slice none 0 0, .slice none 0 0, .slice none 0 0, .slice none 0 0, .slice none 0 0, .slice none 0 0] 25) = w2 at *
                have B2 := B1.trans (b2.mono B1.size)
                clear B1
                clear b2
                have pz0 : w2.cell? ⟨w1.heap.size, 0, none⟩ = some (.int .i64 5) := Xp2.at_ 0 _ rfl
                have pz1 : w2.cell? ⟨w1.heap.size, 1, none⟩ = some (.int .i64 b) := Xp2.at_ 1 _ rfl
                have pz2 : w2.cell? ⟨w1.heap.size, 2, none⟩ = some (.int .i64 0) := Xp2.at_ 2 _ rfl
                have pz3 : w2.cell? ⟨w1.heap.size, 3, none⟩ = some (.int .i64 0) := Xp2.at_ 3 _ rfl
                have pz4 : w2.cell? ⟨w1.heap.size, 4, none⟩ = some (.int .i64 0) := Xp2.at_ 4 _ rfl
                have pz5 : w2.cell? ⟨w1.heap.size, 5, none⟩ = some (.bool false) := Xp2.at_ 5 _ rfl
                have pz6 : w2.cell? ⟨w1.heap.size, 6, none⟩ = some (.slice none 0 0) := Xp2.at_ 6 _ rfl
                have pz7 : w2.cell? ⟨w1.heap.size, 7, none⟩ = some (.slice none 0 0) := Xp2.at_ 7 _ rfl
                have pz8 : w2.cell? ⟨w1.heap.size, 8, none⟩ = some (.slice none 0 0) := Xp2.at_ 8 _ rfl
                have pz9 : w2.cell? ⟨w1.heap.size, 9, none⟩ = some (.slice none 0 0) := Xp2.at_ 9 _ rfl
                have pz10 : w2.cell? ⟨w1.heap.size, 10, none⟩ = some (.slice none 0 0) := Xp2.at_ 10 _ rfl
                have pz11 : w2.cell? ⟨w1.heap.size, 11, none⟩ = some (.slice none 0 0) := Xp2.at_ 11 _ rfl
                have pz12 : w2.cell? ⟨w1.heap.size, 12, none⟩ = some (.slice none 0 0) := Xp2.at_ 12 _ rfl
                have pz13 : w2.cell? ⟨w1.heap.size, 13, none⟩ = some (.slice none 0 0) := Xp2.at_ 13 _ rfl
                have pz14 : w2.cell? ⟨w1.heap.size, 14, none⟩ = some (.slice none 0 0) := Xp2.at_ 14 _ rfl
                go_wp2_with fail
                refine (list_is _ noS (everyR 5 b) (start) (start + p) (4096) ((everyL start d k), 0) (nil_at _ _ _) HE.out).mono ?_
                rintro e w3 ⟨A1, c1, he, i3, b3⟩
                replace he : e = .returned (.tuple #[.slice A1 ((everyL start d k) : List Int).length c1, .int .i64 0]) := he
                replace i3 : IsAt w3 A1 ((everyL start d k) : List Int).length (everyL start d k) := i3
                subst he
                clear pz0 pz1 pz2 pz3 pz4 pz5 pz6 pz7 pz8 pz9 pz10 pz11 pz12 pz13 pz14
                have B3 := B2.trans (b3.mono B2.size)
                have Xp3 := Xp2.below b3
                clear B2 Xp2
                clear b3
                have K1 := Lib.hid i3
                clear i3
                rw [every_len] at K1 ⊢
                clear Xp3
                have s9 : ((k : Int) != (k : Int)) = false := by simp
                go_wp2
                go_loopw [13] (fun i wr => ∃ t : Nat, t ≤ k ∧ i = .int .i64 t ∧ wr = w3) (fun i _ => k - (intOf i).toNat)
                case atStart => exact ⟨0, Nat.zero_le _, rfl, rfl⟩
                case round =>
                  obtain ⟨t, ht, rfl, rfl⟩ := hrel
                  by_cases hlt : t < k
                  · obtain ⟨bl, of, ea, hl, hc⟩ := K1.out.2 (by omega)
                    subst ea
                    have cc := hc t hlt
                    rw [every_at hlt] at cc
                    obtain ⟨p1, p2⟩ := every_in (d := d) (by omega) hlt
                    rw [HP.out] at p2
                    have as_ := AS.out t
                    obtain ⟨e, he⟩ : ∃ e, (t : Int) * d = e := ⟨_, rfl⟩
                    rw [he] at p1 p2 cc as_
                    have W4 : IntKind.i64.wrap ((t : Int) * 3600) = (t : Int) * 3600 := IntWalk.i64_in _ (by omega)
                    have W5 : IntKind.i64.wrap ((t : Int) * 3600 * b) = e := by rw [as_]; exact IntWalk.i64_in _ (by omega)
                    have W6 : IntKind.i64.wrap (start + e) = start + e := IntWalk.i64_in _ (by omega)
                    have s1 : ((start + e) != (start + e)) = false := by simp
                    have s0 : decide ((t : Int) < k) = true := decide_eq_true (by omega)
                    have s00 : decide (t < k) = true := decide_eq_true hlt
                    clear hc he as_
                    go_wp2
                    go_roundw
                    case rel => exact ⟨t + 1, by omega, by go_num, by first | rfl | trivial⟩
                    case measure => simp [intOf]; omega
                  · obtain rfl : k = t := by omega
                    have s0 : decide ((k : Int) < k) = false := decide_eq_false (by omega)
                    have s00 : decide (k < k) = false := decide_eq_false (by omega)
                    go_wp2_with fail
                    refine (first8_is _ (TT.out.on B3)).mono ?_
                    rintro e w4 ⟨rfl, b4⟩
                    have B4 := B3.trans (b4.mono B3.size)
                    clear B3
                    have K1 := Lib.hid (K1.out.below b4)
                    clear b4
                    go_wp2
                    go_ret
                    exact ⟨rfl, B4⟩
set_option maxRecDepth 100000 in
set_option maxHeartbeats 16000000 in
theorem every_walk (w : World) (T : Tabs w) (f b start n : Int) (l0 : -9223372036854775808 ≤ f) (u0 : f ≤ 9223372036854775807) :
    Calls Tryz.prog 7 #[.int .i64 f, .int .i64 b, .int .i64 start, .int .i64 n] w fun e w' => e = .returned (.bool true) ∧ Below w.heap.size w w' := by
  by_cases f3 : f = 3
  · subst f3; exact every_3 w T b start n
  by_cases f4 : f = 4
  · subst f4; exact every_4 w T b start n
  by_cases f5 : f = 5
  · subst f5; exact every_5 w T b start n
  have TT := Lib.hid T
  have e3 : (f == 3) = false := by rw [beq_eq_false_iff_ne]; exact f3
  have e4 : (f == 4) = false := by rw [beq_eq_false_iff_ne]; exact f4
  have e5 : (f == 5) = false := by rw [beq_eq_false_iff_ne]; exact f5
  clear T f3 f4 f5
  show Calls Tryz.prog 7 #[.int .i64 f, .int .i64 b, .int .i64 start, .int .i64 n] w _
  go_enter Tryz.func7, Tryz.ntmps7
  have B0 := Below.refl w.heap.size w
  go_wp2_with fail
  refine (first8_is _ (TT.out.on B0)).mono ?_
  rintro e w1 ⟨rfl, b1⟩
  have B1 := B0.trans (b1.mono B0.size)
  clear B0
  clear b1
  go_wp2_with fail
  refine (first8_is _ (TT.out.on B1)).mono ?_
  rintro e w2 ⟨rfl, b2⟩
  have B2 := B1.trans (b2.mono B1.size)
  clear B1
  clear b2
  go_wp2
  go_ret
  exact ⟨rfl, B2⟩
end Go.Proofs.YtnfcchimkfnmkaaGreatDoor.Ex
