/- The walk of vokref.Dec, of every number. -/
import Derived.Test.YtkkmhjplfpdhcaaGreatDoorStDec
import Derived.Test.YtkkmhjplfpdhcaaGreatDoorRuNum
set_option linter.unusedVariables false
namespace Go.Proofs.YtkkmhjplfpdhcaaGreatDoor.Ru
open Go.RowKit Cv St

theorem itoa_nat {n : Int} (h : 0 ≤ n) : Lib.itoa n = Lib.decDigits n.toNat := by rw [Lib.itoa, if_neg (by omega)]
theorem itoa_neg {m : Int} (h : 0 < m) : Lib.itoa (-m) = 45 :: Lib.decDigits m.toNat := by rw [Lib.itoa, if_pos (by omega), show (-m).natAbs = m.toNat from by omega]
theorem digs_le {n : Int} (h : n ≤ 9223372036854775808) : (Lib.decDigits n.toNat).length ≤ 19 := by
  refine dec_len (k := 19) (by decide) ?_
  have e : (10 : Nat) ^ 19 = 10000000000000000000 := by decide
  omega
/-- what Dec answers -/
def DecN (n : Int) (w : World) (e : Ending) (w' : World) : Prop := ∃ s : ByteArray, e = .returned (.string s) ∧ s = ⟨(Lib.decDigits n.toNat).toArray⟩ ∧ s.size ≤ 19 ∧ Below w.heap.size w w'
def DecI (n : Int) (w : World) (e : Ending) (w' : World) : Prop := ∃ s : ByteArray, e = .returned (.string s) ∧ s = ⟨(Lib.itoa n).toArray⟩ ∧ s.size ≤ 20 ∧ Below w.heap.size w w'
theorem decN_size {n : Int} (h : n ≤ 9223372036854775807) : (⟨(Lib.decDigits n.toNat).toArray⟩ : ByteArray).size ≤ 19 := by
  show (Lib.decDigits n.toNat).toArray.size ≤ 19
  rw [List.size_toArray]
  exact digs_le (by omega)
set_option maxHeartbeats 2000000 in
theorem decN_step (n : Int) (w : World) (h0 : 10 ≤ n) (h1 : n ≤ 9223372036854775807) (ih : ∀ w, Calls Tryz.prog 74 #[.int .i64 (n / 10)] w (DecN (n / 10) w)) :
    Calls Tryz.prog 74 #[.int .i64 n] w (DecN n w) := by
  have IH := Lib.hid ih
  have cv := fun (w : World) (b : Nat) h => one_string (48 + n % 10) (by omega) (by omega) w b h
  clear ih
  go_enter Tryz.func74, Tryz.ntmps74
  go_wp2_with fail
  have q := Int.tdiv_eq_ediv_of_nonneg (a := n) (b := 10) (by omega)
  have r := Int.tmod_eq_emod_of_nonneg (a := n) (b := 10) (by omega)
  have e1 : IntKind.i64.wrap (n.tdiv 10) = n / 10 := by rw [q]; exact IntWalk.i64_in _ ⟨by omega, by omega⟩
  have e2 : IntKind.i64.wrap (48 + n.tmod 10) = 48 + n % 10 := by rw [r]; exact IntWalk.i64_in _ ⟨by omega, by omega⟩
  have e3 : IntKind.u8.wrap (48 + n % 10) = 48 + n % 10 := IntWalk.u8_in _ ⟨by omega, by omega⟩
  clear q r
  go_region_with (go_at_call 74; refine (IH.out _).mono ?_; rintro e w5 ⟨s, rfl, hs, hz, hb⟩; have HS := Lib.hid hs; clear hs; have hc := cells_below hb)
  all_goals
    go_wp2
    go_ret
    refine ⟨_, rfl, dec_next h0 HS.out, ?_, ?_⟩
    · rw [dec_next h0 HS.out]; exact decN_size h1
    · first | exact dec_fin1 hb | exact dec_fin2 hb
/-- Dec of any number from 0 on -/
theorem decN_any : ∀ (k : Nat) (n : Int), n.toNat = k → 0 ≤ n → n ≤ 9223372036854775807 → ∀ w : World, Calls Tryz.prog 74 #[.int .i64 n] w (DecN n w) := by
  intro k
  induction k using Nat.strongRecOn with
  | ind k ih =>
    intro n hk h0 h1 w
    by_cases h : n < 10
    · refine (dec_small n w h0 h).mono ?_
      rintro e w' ⟨rfl, hb⟩
      have e : (⟨#[u8 (48 + n)]⟩ : ByteArray) = ⟨(Lib.decDigits n.toNat).toArray⟩ := by
        rw [Lib.decDigits_one (by omega)]; unfold u8
        rw [show (48 + n).toNat = 48 + n.toNat by omega]
      exact ⟨_, rfl, e, by rw [e]; exact decN_size h1, hb⟩
    · exact decN_step n w (by omega) h1 fun w => ih (n / 10).toNat (by omega) (n / 10) rfl (by omega) (by omega) w
theorem decM_size {m : Int} (h0 : 0 < m) (h : m ≤ 9223372036854775808) : (⟨(Lib.itoa (-m)).toArray⟩ : ByteArray).size ≤ 20 := by
  show (Lib.itoa (-m)).toArray.size ≤ 20
  rw [itoa_neg h0, List.size_toArray, List.length_cons]
  have := digs_le h
  omega
theorem decM_next {m : Int} {s : ByteArray} (h : 10 ≤ m) (hs : s = ⟨(Lib.decDigits (m / 10).toNat).toArray⟩) : (⟨#[45]⟩ ++ s) ++ (⟨#[u8 (48 + m % 10)]⟩ : ByteArray) = ⟨(Lib.itoa (-m)).toArray⟩ := by
  rw [ByteArray.append_assoc, dec_next h hs, ByteArray.mk_append_mk, itoa_neg (by omega)]
  rfl
theorem decM_small (m : Int) (w : World) (h0 : 0 < m) (h1 : m < 10) :
    Calls Tryz.prog 74 #[.int .i64 (-m)] w fun e w' => e = .returned (.string (⟨#[45]⟩ ++ ⟨#[u8 (48 + m)]⟩)) ∧ Below w.heap.size w w' := by
  have em : m % 10 = m := by omega
  have cv := one_back (48 + m) (by omega) (by omega)
  have q : -m.tdiv 10 = 0 := by rw [Int.tdiv_eq_ediv_of_nonneg (by omega)]; omega
  have e1 : (wrap64 (-m.tdiv 10) == 0) = true := by rw [q, IntWalk.wrap64_in 0 (by omega)]; rfl
  have n0 : -m < 0 := by omega
  clear q
  go_enter Tryz.func74, Tryz.ntmps74
  go_wp2
  go_ret
  exact ⟨rfl, (Below.refl _ _).alloc (Nat.le_refl _) _⟩
set_option maxHeartbeats 2000000 in
theorem decM_step (m : Int) (w : World) (h0 : 10 ≤ m) (h1 : m ≤ 9223372036854775808) (ih : ∀ w, Calls Tryz.prog 74 #[.int .i64 (m / 10)] w (DecN (m / 10) w)) :
    Calls Tryz.prog 74 #[.int .i64 (-m)] w (DecI (-m) w) := by
  have IH := Lib.hid ih
  have cv := fun (w : World) (b : Nat) h => one_string (48 + m % 10) (by omega) (by omega) w b h
  clear ih
  have q : -m.tdiv 10 = -(m / 10) := by rw [Int.tdiv_eq_ediv_of_nonneg (by omega)]
  have w1 : wrap64 (-(m / 10)) = -(m / 10) := IntWalk.wrap64_in _ ⟨by omega, by omega⟩
  have e1 : (wrap64 (-m.tdiv 10) == 0) = false := by rw [q, w1, beq_eq_false_iff_ne]; omega
  have n0 : -m < 0 := by omega
  go_enter Tryz.func74, Tryz.ntmps74
  go_wp2_with fail
  have nd : (-m).tdiv 10 = -(m.tdiv 10) := Int.neg_tdiv ..
  have nm : (-m).tmod 10 = -(m.tmod 10) := Int.neg_tmod ..
  have qd : m.tdiv 10 = m / 10 := Int.tdiv_eq_ediv_of_nonneg (by omega)
  have qm : m.tmod 10 = m % 10 := Int.tmod_eq_emod_of_nonneg (by omega)
  have f1 : IntKind.i64.wrap (-(m / 10)) = -(m / 10) := IntWalk.i64_in _ ⟨by omega, by omega⟩
  have f2 : IntKind.i64.wrap (m / 10) = m / 10 := IntWalk.i64_in _ ⟨by omega, by omega⟩
  have f5 : IntKind.i64.wrap (- -(m / 10)) = m / 10 := (IntWalk.i64_in _ ⟨by omega, by omega⟩).trans (by omega)
  have f3 : IntKind.i64.wrap (48 - -(m % 10)) = 48 + m % 10 := (IntWalk.i64_in _ ⟨by omega, by omega⟩).trans (by omega)
  have f6 : IntKind.i64.wrap (48 + m % 10) = 48 + m % 10 := IntWalk.i64_in _ ⟨by omega, by omega⟩
  have f4 : IntKind.u8.wrap (48 + m % 10) = 48 + m % 10 := IntWalk.u8_in _ ⟨by omega, by omega⟩
  clear q w1 e1
  go_region_with (go_at_call 74; refine (IH.out _).mono ?_; rintro e w5 ⟨s, rfl, hs, hz, hb⟩; have HS := Lib.hid hs; clear hs; have hc := cells_below hb)
  all_goals
    go_wp2
    go_ret
    refine ⟨_, rfl, decM_next h0 HS.out, ?_, ?_⟩
    · rw [decM_next h0 HS.out]; exact decM_size (by omega) h1
    · first | exact dec_fin1 hb | exact dec_fin2 hb
/-- Dec of any number -/
theorem decI_any (n : Int) (w : World) (h0 : -9223372036854775808 ≤ n) (h1 : n ≤ 9223372036854775807) : Calls Tryz.prog 74 #[.int .i64 n] w (DecI n w) := by
  by_cases h : 0 ≤ n
  · refine (decN_any _ n rfl h h1 w).mono ?_
    rintro e w' ⟨s, rfl, hs, hz, hb⟩
    exact ⟨s, rfl, by rw [itoa_nat h]; exact hs, by omega, hb⟩
  · obtain ⟨m, rfl⟩ : ∃ m, n = -m := ⟨-n, by omega⟩
    by_cases h2 : m < 10
    · refine (decM_small m w (by omega) h2).mono ?_
      rintro e w' ⟨rfl, hb⟩
      have e : (⟨#[45]⟩ ++ ⟨#[u8 (48 + m)]⟩ : ByteArray) = ⟨(Lib.itoa (-m)).toArray⟩ := by
        rw [ByteArray.mk_append_mk, itoa_neg (by omega), Lib.decDigits_one (by omega)]; unfold u8
        rw [show (48 + m).toNat = 48 + m.toNat by omega]
        rfl
      exact ⟨_, rfl, e, by rw [e]; exact decM_size (by omega) (by omega), hb⟩
    · exact decM_step m w (by omega) (by omega) fun w => decN_any _ (m / 10) rfl (by omega) (by omega) w
/-- Dec of any number, the text by its name -/
theorem decI_is (n : Int) (w : World) (h0 : -9223372036854775808 ≤ n) (h1 : n ≤ 9223372036854775807) (s : ByteArray) (hs : ⟨(Lib.itoa n).toArray⟩ = s) :
    Calls Tryz.prog 74 #[.int .i64 n] w fun e w' => e = .returned (.string s) ∧ Below w.heap.size w w' := by
  refine (decI_any n w h0 h1).mono ?_
  rintro e w' ⟨t, rfl, ht, -, hb⟩
  exact ⟨by rw [ht, hs], hb⟩
end Go.Proofs.YtkkmhjplfpdhcaaGreatDoor.Ru
