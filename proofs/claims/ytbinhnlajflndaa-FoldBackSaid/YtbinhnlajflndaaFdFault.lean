/- The walk of package fold's fault. -/
import Derived.Test.YtbinhnlajflndaaFdWalkA
import Derived.Test.YtbinhnlajflndaaShelf
import Derived.Lib.SlBytesConst
set_option linter.unusedVariables false
namespace Go.Proofs.Ytbinhnlajflndaa.Fd
open Go.RowKit Cv St

def lineEnd : List UInt8 := [13, 10]
theorem hasPrefix_is (w : World) (A B : Option Addr) (n c d : Nat) (l k : List UInt8) (m : Nat) (x : Bool) (hl : BsAt w A n l) (hk : BsAt w B m k) (hnc : n ≤ c) (hx : Lib.hasPrefix l k = x) :
    Calls Try.prog 71 #[.slice A n c, .slice B m d] w fun e w' => e = .returned (.bool x) ∧ w = w' := by
  have := Try.bytes_HasPrefix_all A B n c m d (xs l) (xs k) w (by rw [xs_len, hl.1]) (by rw [xs_len, hk.1]) hnc hl.shelf hk.shelf
  rw [xs_bytes, xs_bytes, hx] at this
  exact this.mono fun e w' h => ⟨h.1, h.2.symm⟩
/-- a slice of bytes written out, marked as a constant -/
theorem lit_at (w : World) (l : List UInt8) (cs : Array Value) (T : TypeId) (fr : Nat × Nat) (h : cs.toList = Lib.byteCells l) : BsAt (w.alloc (.cells cs T fr)) (some ⟨w.heap.size, 0, none⟩) l.length l :=
  ⟨rfl, fun h0 => ⟨w.heap.size, 0, rfl, by simp, fun j hj => by
    rw [World.cell?_alloc_mark, Nat.zero_add, bat_lt hj, ← Array.getElem?_toList, h]; simp [Lib.byteCells, hj]⟩⟩
theorem const_bytes (w : World) (C : Array Value) (n c : Nat) : (convert 38 38 (.slice (some ⟨w.heap.size, 0, none⟩) n c)).run Try.prog (w.alloc (.cells C 5)) = .ok (.slice (some ⟨w.heap.size, 0, none⟩) n c) (w.alloc (.cells C 5 (C.size, C.size + 1))) :=
  Lib.run_convert_bytes_const w 38 5 C n c Try.underlying38 Try.underlying5
theorem ret_two {a b : Int} {x y : Bool} (h : a = b ∧ x = y) : Ending.returned (.tuple #[.int .i64 a, .bool x]) = .returned (.tuple #[.int .i64 b, .bool y]) := by rw [h.1, h.2]
set_option maxRecDepth 100000 in
set_option maxHeartbeats 2000000 in
theorem fault_any (w : World) (A : Option Addr) (n c : Nat) (l : List UInt8) (h : BsAt w A n l) (hnc : n ≤ c) (hn : n ≤ 9223372036854775807) :
    Calls Try.prog 53 #[.slice A n c] w fun e w' => e = .returned (.tuple #[.int .i64 (faultN l), .bool (faultB l)]) ∧ Below w.heap.size w w' := by
  obtain ⟨en, hc⟩ := h
  have EN := Lib.hid en
  clear en
  go_enter Try.func53, Try.ntmps53
  go_wp2
  go_loopw [8] (fun i wr => ∃ t : Nat, t ≤ n ∧ i = .int .i64 t ∧ Hid (goodTo l t) ∧ Below w.heap.size w wr) (fun i _ => n - (intOf i).toNat)
  case atStart => exact ⟨0, Nat.zero_le _, rfl, Lib.hid (fun j hj => absurd hj (by omega)), Below.refl _ _⟩
  case round =>
    rename_i wr
    obtain ⟨t, ht, rfl, D, hB⟩ := hrel
    by_cases hlt : t < n
    · obtain ⟨b, off, rfl, hb, hcc⟩ := hc (by omega)
      have c0 := (hB.cell (p := ⟨b, off + t, none⟩) hb).trans (hcc t hlt)
      have hbw := Nat.lt_of_lt_of_le hb hB.size
      cases hm : mayI (bat l t)
      · have M := Lib.hid hm
        by_cases h10 : bat l t = 10
        · have e10 : ((bat l t : Int) != 10) = false := by rw [bne_eq_false_iff_eq]; exact h10
          have X := Lib.hid (D.out.succ (ok_ten h10))
          clear hm h10 hcc hc
          go_wp2_with (go_at_call 70; refine (mayByte_is _ _ _ M.out).mono ?_; rintro e w' ⟨rfl, rfl⟩)
          go_roundw
          case rel => exact ⟨t + 1, by omega, by go_num, X, hB⟩
          case measure => simp [intOf]; omega
        · have e10 : ((bat l t : Int) != 10) = true := by rw [bne_iff_ne]; exact h10
          have hBs : BsAt wr (some ⟨b, off, none⟩) n l := ⟨EN.out, fun _ => ⟨b, off, rfl, hbw, fun j hj => (hB.cell (p := ⟨b, off + j, none⟩) hb).trans (hcc j hj)⟩⟩
          have hDr := hBs.drop (k := t) (by omega)
          have hct : ¬ c = t := by omega
          have kc := const_bytes
          have hE := lit_at wr lineEnd #[.int .u8 13, .int .u8 10] 5 (2, 3) rfl
          have hA := ((Below.refl wr.heap.size wr).alloc (Nat.le_refl _) (.cells #[.int .u8 13, .int .u8 10] 5 (2, 3)))
          have hD2 := hDr.below hA
          have hBA := hB.trans (hA.mono hB.size)
          cases hx : Lib.hasPrefix (l.drop t) lineEnd
          · have hpre := hx
            rw [lineEnd, pre_end] at hpre
            have K := Lib.hid (faultN_some (faultF_some (by rw [← EN.out]; exact hlt) D.out (ok_no hm h10 (of_decide_eq_false hpre))))
            have HX := Lib.hid hx
            clear hm h10 hcc hc hx hpre hBs hDr
            go_wp2_with (first
              | (go_at_call 70; refine (mayByte_is _ _ _ M.out).mono ?_; rintro e w' ⟨rfl, rfl⟩)
              | (go_at_call 71; refine (hasPrefix_is _ _ _ _ _ _ _ lineEnd _ _ hD2 hE (by omega) HX.out).mono ?_; rintro e w' ⟨rfl, rfl⟩))
            go_ret2
            exact ⟨ret_two K.out, hBA⟩
          · have hpre := hx
            rw [lineEnd, pre_end] at hpre
            have hp := of_decide_eq_true hpre
            have X := Lib.hid (D.out.succ (ok_end hp.1 hp.2))
            have HX := Lib.hid hx
            clear hm h10 hcc hc hx hpre hBs hDr hp
            go_wp2_with (first
              | (go_at_call 70; refine (mayByte_is _ _ _ M.out).mono ?_; rintro e w' ⟨rfl, rfl⟩)
              | (go_at_call 71; refine (hasPrefix_is _ _ _ _ _ _ _ lineEnd _ _ hD2 hE (by omega) HX.out).mono ?_; rintro e w' ⟨rfl, rfl⟩))
            go_roundw
            case rel => exact ⟨t + 1, by omega, by go_num, X, hBA⟩
            case measure => simp [intOf]; omega
      · have M := Lib.hid hm
        have X := Lib.hid (D.out.succ (ok_may hm))
        clear hm hcc hc
        go_wp2_with (go_at_call 70; refine (mayByte_is _ _ _ M.out).mono ?_; rintro e w' ⟨rfl, rfl⟩)
        go_roundw
        case rel => exact ⟨t + 1, by omega, by go_num, X, hB⟩
        case measure => simp [intOf]; omega
    · obtain rfl : n = t := by omega
      have hN := Lib.hid (faultN_none (faultF_none (by rw [← EN.out]; exact D.out)))
      by_cases h0 : 0 < n
      · obtain ⟨b, off, rfl, hb, hcc⟩ := hc h0
        have c0 := (hB.cell (p := ⟨b, off + 0, none⟩) hb).trans (hcc 0 h0)
        rw [Nat.add_zero] at c0
        have hbw := Nat.lt_of_lt_of_le hb hB.size
        have K := Lib.hid (blank_at (l := l) (by rw [← EN.out]; exact h0))
        have g0 : (0 : Int) < (n : Int) := by omega
        clear hcc hc
        by_cases h32 : bat l 0 = 32
        · have e32 : ((bat l 0 : Int) == 32) = true := by rw [beq_iff_eq]; exact h32
          have F := Lib.hid (show 0 = faultN l ∧ true = faultB l from ⟨hN.out.1, by rw [← hN.out.2, K.out]; exact yes_bool h32⟩)
          clear h32
          go_wp2
          go_big_quiet (fail)
          go_wp2
          go_ret2
          exact ⟨ret_two F.out, hB.trans ((Below.drewN' _ _ _).mono hB.size)⟩
        · have e32 : ((bat l 0 : Int) == 32) = false := by rw [beq_eq_false_iff_ne]; exact h32
          have F := Lib.hid (show 0 = faultN l ∧ false = faultB l from ⟨hN.out.1, by rw [← hN.out.2, K.out]; exact no_bool h32⟩)
          clear h32
          go_wp2
          go_big_quiet (fail)
          go_wp2
          go_ret2
          exact ⟨ret_two F.out, hB.trans ((Below.drewN' _ _ _).mono hB.size)⟩
      · obtain rfl : n = 0 := by omega
        have F := Lib.hid (show 0 = faultN l ∧ false = faultB l from ⟨hN.out.1, by
          obtain rfl : l = [] := List.length_eq_zero_iff.1 EN.out.symm
          rw [← hN.out.2]; rfl⟩)
        clear hc
        go_wp2
        go_big_quiet (fail)
        go_wp2
        go_ret2
        exact ⟨ret_two F.out, hB.trans ((Below.drewN' _ _ _).mono hB.size)⟩
end Go.Proofs.Ytbinhnlajflndaa.Fd
