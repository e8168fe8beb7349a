/- The walks of package stamp's functions that read texts: isDigit, digits, number, Parse, seconds, sum. -/
import Derived.Test.YtkkmhjplfpdhcaaGreatDoorStWalkA
import Derived.Outline
import Derived.LoopTactic
import Derived.Deep.QuietTactic
import Derived.BigQuiet
namespace Go.Proofs.YtkkmhjplfpdhcaaGreatDoor.St
open Go.RowKit Cv

theorem isDigit_yes (c : Int) (w : World) (h1 : 48 ≤ c) (h2 : c ≤ 57) :
    Calls Tryz.prog 196 #[.int .u8 c] w fun e w' => e = .returned (.bool true) ∧ w = w' := by
  go_enter Tryz.func196, Tryz.ntmps196
  go_wp2
  go_ret
  exact ⟨rfl, rfl⟩
theorem isDigit_no (c : Int) (w : World) (h : ¬ (48 ≤ c ∧ c ≤ 57)) :
    Calls Tryz.prog 196 #[.int .u8 c] w fun e w' => e = .returned (.bool false) ∧ w = w' := by
  by_cases h1 : c < 48
  · clear h
    go_enter Tryz.func196, Tryz.ntmps196
    go_wp2
    go_ret
    exact ⟨rfl, rfl⟩
  · have h2 : 57 < c := by omega
    clear h
    go_enter Tryz.func196, Tryz.ntmps196
    go_wp2
    go_ret
    exact ⟨ret_bool (decide_eq_false (by omega)), rfl⟩
set_option maxHeartbeats 400000 in
theorem digits_any (s : ByteArray) (w : World) (hs : s.size ≤ maxLen) :
    Calls Tryz.prog 172 #[.string s] w fun e w' => e = .returned (.bool (digs s.data.toList)) ∧ w = w' := by
  unfold maxLen at hs
  go_enter Tryz.func172, Tryz.ntmps172
  go_wp2
  go_loop [3, 6] (fun _ i => ∃ k : Nat, k ≤ s.size ∧ i = .int .i64 k ∧ digs (s.data.toList.take k) = true) (fun _ i => s.size - (intOf i).toNat)
  case atStart => exact ⟨0, Nat.zero_le _, rfl, rfl⟩
  case round =>
    obtain ⟨k, hk, rfl, hd⟩ := hrel
    have D := Lib.hid hd; clear hd
    by_cases hlt : k < s.size
    · by_cases hc : isd s[k] = true
      · obtain ⟨c1, c2⟩ := of_decide_eq_true hc
        have C := Lib.hid hc; clear hc
        go_wp2_with (go_at_call 196; refine (isDigit_yes _ _ c1 c2).mono ?_; rintro e w' ⟨rfl, rfl⟩)
        go_round
        case rel => exact ⟨k + 1, by omega, by go_num, by rw [take_snoc s k hlt]; exact digs_snoc D.out C.out⟩
        case measure => simp [intOf]; omega
      · have hc' := of_decide_eq_false (Bool.not_eq_true _ ▸ hc)
        have C := Lib.hid (digs_bad (l := s.data.toList) (k := k) (by simpa using hlt) (Bool.not_eq_true _ ▸ hc)); clear hc
        have C' := Lib.hid hc'; clear hc'
        go_wp2_with (go_at_call 196; refine (isDigit_no _ _ C'.out).mono ?_; rintro e w' ⟨rfl, rfl⟩)
        go_ret
        exact ⟨ret_bool C.out.symm, rfl⟩
    · go_wp2
      go_ret
      exact ⟨ret_bool (by rw [← D.out, List.take_of_length_le (by simp; omega)]), rfl⟩
theorem digits_yes (s : ByteArray) (w : World) (hs : s.size ≤ maxLen) (h : digs s.data.toList = true) :
    Calls Tryz.prog 172 #[.string s] w fun e w' => e = .returned (.bool true) ∧ w = w' := by
  have := digits_any s w hs; rwa [h] at this
theorem digits_no (s : ByteArray) (w : World) (hs : s.size ≤ maxLen) (h : digs s.data.toList = false) :
    Calls Tryz.prog 172 #[.string s] w fun e w' => e = .returned (.bool false) ∧ w = w' := by
  have := digits_any s w hs; rwa [h] at this
set_option maxHeartbeats 400000 in
theorem number_any (s : ByteArray) (w : World) (hs : s.size ≤ 15) (hd : digs s.data.toList = true) :
    Calls Tryz.prog 173 #[.string s] w fun e w' => e = .returned (.int .i64 (nmb s.data.toList)) ∧ w = w' := by
  have D := Lib.hid hd; clear hd
  go_enter Tryz.func173, Tryz.ntmps173
  go_wp2
  go_loop [3, 4, 7] (fun n _ i => ∃ k : Nat, k ≤ s.size ∧ i = .int .i64 k ∧ n = .int .i64 (nmb (s.data.toList.take k))) (fun _ _ i => s.size - (intOf i).toNat)
  case atStart => exact ⟨0, Nat.zero_le _, rfl, rfl⟩
  case round =>
    obtain ⟨k, hk, rfl, rfl⟩ := hrel
    by_cases hlt : k < s.size
    · obtain ⟨c1, c2⟩ := of_decide_eq_true (digs_at D.out (k := k) (by simpa using hlt))
      change 48 ≤ (s[k].toNat : Int) at c1
      change (s[k].toNat : Int) ≤ 57 at c2
      obtain ⟨b1, b2⟩ := nmb_small s k hlt (by omega) D.out
      have E := Lib.hid (nmb_snoc (s.data.toList.take k) s[k])
      go_wp2
      go_round
      case rel => exact ⟨k + 1, by omega, by go_num, by rw [take_snoc s k hlt, E.out]⟩
      case measure => simp [intOf]; omega
    · go_wp2
      go_ret
      exact ⟨ret_int (by rw [List.take_of_length_le (by simp; omega)]), rfl⟩
theorem number_quiet (s : ByteArray) (w : World) (hs : s.size ≤ 15) (hd : digs s.data.toList = true) :
    Calls Tryz.prog 173 #[.string s] w fun e w' => e = .returned (.int .i64 (nmb s.data.toList)) ∧ w' = w :=
  (number_any s w hs hd).mono fun _ _ h => ⟨h.1, h.2.symm⟩
theorem make_quiet (y mo d h mi s a b : Int) (w : World) (hr : makeR y mo d h mi s = (a, b)) :
    Calls Tryz.prog 40 #[.int .i64 y, .int .i64 mo, .int .i64 d, .int .i64 h, .int .i64 mi, .int .i64 s] w fun e w' => e = .returned (.tuple #[.int .i64 a, .int .i64 b]) ∧ w' = w :=
  (make_any y mo d h mi s a b w hr).mono fun _ _ h => ⟨h.1, h.2.symm⟩
end Go.Proofs.YtkkmhjplfpdhcaaGreatDoor.St
