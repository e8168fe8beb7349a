/- The walks of package fold's Join and of voklaw4's few. -/
import Derived.Test.YtbinhnlajflndaaFdJoin
set_option linter.unusedVariables false
namespace Go.Proofs.Ytbinhnlajflndaa.Fd
open Go.RowKit Cv St

/-- the lines as lists of bytes -/
def tl (l : List ByteArray) : List (List UInt8) := l.map fun s => s.data.toList
theorem tl_len (l : List ByteArray) : (tl l).length = l.length := by simp [tl]
theorem tl_at {l : List ByteArray} {t : Nat} (h : t < l.length) : (tl l)[t]'(by rw [tl_len]; exact h) = (sat l t).data.toList := by
  rw [sat_lt h]; simp [tl]
def mayTo (l : List ByteArray) (k : Nat) : Prop := ∀ j, j < k → mayLn (sat l j).data.toList = true
theorem mayTo.succ {l : List ByteArray} {k : Nat} (h : mayTo l k) (e : mayLn (sat l k).data.toList = true) : mayTo l (k + 1) := fun j hj => by
  by_cases g : j = k
  · subst g; exact e
  · exact h j (by omega)
theorem mayTo.all {l : List ByteArray} (h : mayTo l l.length) : (tl l).all mayLn = true := by
  rw [List.all_eq_true]
  intro z hz
  obtain ⟨j, hj, e⟩ := List.getElem_of_mem hz
  rw [tl_len] at hj
  rw [← e, tl_at hj]
  exact h j hj
theorem may_none {l : List ByteArray} {k : Nat} (hk : k < l.length) (h : mayLn (sat l k).data.toList = false) : (tl l).all mayLn = false := by
  cases g : (tl l).all mayLn
  · rfl
  · have := all_take g (t := k) (by rw [tl_len]; exact hk)
    rw [tl_at hk, h] at this; cases this
def JoinPost (W : World) (l : List ByteArray) (e : Ending) (w' : World) : Prop :=
  ∃ v, e = .returned (.tuple #[v, .int .i64 (joinE (tl l))]) ∧ Own W w' v (joinB (tl l)) ∧ Below W.heap.size W w'
theorem ret_j {v : Value} {a b : Int} (h : a = b) : Ending.returned (.tuple #[v, .int .i64 a]) = .returned (.tuple #[v, .int .i64 b]) := by rw [h]
theorem join_4 {W w : World} {l : List ByteArray} (h : (tl l).all mayLn = false) (hb : Below W.heap.size W w) : JoinPost W l (.returned (.tuple #[.slice none 0 0, .int .i64 4])) w :=
  ⟨_, ret_j (joinE_4 h).1.symm, by rw [(joinE_4 h).2]; exact Own.nil _ _, hb⟩
theorem join_3 {W w : World} {l : List ByteArray} (h : (tl l).all mayLn = true) (g : 4096 < (joinL (tl l)).length) (hb : Below W.heap.size W w) : JoinPost W l (.returned (.tuple #[.slice none 0 0, .int .i64 3])) w :=
  ⟨_, ret_j (joinE_3 h g).1.symm, by rw [(joinE_3 h g).2]; exact Own.nil _ _, hb⟩
theorem join_0 {W w : World} {l : List ByteArray} {v : Value} (h : (tl l).all mayLn = true) (g : (joinL (tl l)).length ≤ 4096) (ho : Own W w v (joinL (tl l))) (hb : Below W.heap.size W w) : JoinPost W l (.returned (.tuple #[v, .int .i64 0])) w :=
  ⟨v, ret_j (joinE_0 h g).1.symm, by rw [(joinE_0 h g).2]; exact ho, hb⟩
set_option maxRecDepth 100000 in
set_option maxHeartbeats 4000000 in
theorem join_any (w : World) (A : Option Addr) (n c : Nat) (l : List ByteArray) (h : SsAt w A n l) (hn : n ≤ 300) (hz : ∀ j, (sat l j).size ≤ 6000) :
    Calls Try.prog 29 #[.slice A n c] w (JoinPost w l) := by
  have HH := Lib.hid h
  have EN := Lib.hid h.1
  have HZ := Lib.hid hz
  have hc := h.2
  have HC := Lib.hid hc
  clear h hz hc
  go_enter Try.func29, Try.ntmps29
  go_wp2
  go_loopw [11] (fun i wr => ∃ t : Nat, t ≤ n ∧ i = .int .i64 t ∧ Hid (mayTo l t) ∧ Below w.heap.size w wr) (fun i _ => n - (intOf i).toNat)
  case atStart => exact ⟨0, Nat.zero_le _, rfl, Lib.hid (fun j hj => absurd hj (by omega)), Below.refl _ _⟩
  case round =>
    rename_i wr
    obtain ⟨t, ht, rfl, D, hB⟩ := hrel
    by_cases hlt : t < n
    · obtain ⟨b, off, rfl, hb, hcc⟩ := HC.out (by omega)
      have c0 := (hB.cell (p := ⟨b, off + t, none⟩) hb).trans (hcc t hlt)
      have zs := HZ.out t
      clear hcc
      cases hm : mayLn (sat l t).data.toList
      · have F := Lib.hid (may_none (by rw [← EN.out]; exact hlt) hm)
        have M := Lib.hid hm
        clear hm
        generalize sat l t = s at *
        go_wp2_with fail
        refine (mayLine_is _ s _ (by unfold maxLen; omega) M.out).mono ?_
        rintro e w1 ⟨rfl, h1⟩
        go_wp2
        go_ret2
        exact join_4 F.out (hB.trans (h1.mono hB.size))
      · have D2 := Lib.hid (D.out.succ hm)
        have M := Lib.hid hm
        clear hm
        generalize sat l t = s at *
        go_wp2_with fail
        refine (mayLine_is _ s _ (by unfold maxLen; omega) M.out).mono ?_
        rintro e w1 ⟨rfl, h1⟩
        go_wp2
        go_roundw
        case rel => exact ⟨t + 1, by omega, by go_num, D2, hB.trans (h1.mono hB.size)⟩
        case measure => simp [intOf]; omega
    · obtain rfl : n = t := by omega
      have ALL := Lib.hid (show (tl l).all mayLn = true from mayTo.all (by rw [← EN.out]; exact D.out))
      clear D hlt ht
      go_wp2
      go_loopw [6, 21] (fun o i wr => ∃ (t : Nat) (v' : Value) (L : List UInt8), t ≤ n ∧ v' = o ∧ i = .int .i64 t ∧ Hid (joinL ((tl l).take t) = L) ∧ Own w wr v' L ∧ Below w.heap.size w wr ∧ L.length ≤ 30000) (fun _ i _ => n - (intOf i).toNat)
      case atStart => exact ⟨0, _, [], Nat.zero_le _, rfl, rfl, Lib.hid rfl, Own.nil _ _, hB, by simp⟩
      case round =>
        rename_i wr2
        clear hB
        obtain ⟨t, v', L, ht, rfl, rfl, E, hO, hB, hL⟩ := hrel
        obtain ⟨A', c', rfl, hs', -, -, -⟩ := Own.at_ hO
        by_cases hlt : t < n
        · obtain ⟨b, off, rfl, hb, hcc⟩ := HC.out (by omega)
          have c0 := (hB.cell (p := ⟨b, off + t, none⟩) hb).trans (hcc t hlt)
          have zs := HZ.out t
          have tn : t < (tl l).length := by rw [tl_len, ← EN.out]; exact hlt
          have hsz : (sat l t).data.toList.length = (sat l t).size := by simp
          have st := joinL_take tn
          rw [tl_at (by rw [← EN.out]; exact hlt), E.out] at st
          have fl := fold1_len (sat l t).data.toList
          have pre := joinL_pre (tl l) (t + 1)
          rw [st, List.length_append] at pre
          have ST := Lib.hid st
          have HO := Lib.hid hO
          by_cases hbig : 4096 < L.length + (sat l t).size
          · have F := Lib.hid (show 4096 < (joinL (tl l)).length from by omega)
            have d1 : (4096 : Int) < (L.length : Int) + ((sat l t).size : Int) := by omega
            clear hcc tn hsz st fl pre hbig hO hs'
            generalize sat l t = s at *
            go_wp2
            go_ret2
            exact join_3 ALL.out F.out hB
          · have d1 : (L.length : Int) + ((sat l t).size : Int) ≤ 4096 := by omega
            have L2 : (L ++ fold1 (sat l t).data.toList).length ≤ 30000 := by rw [List.length_append]; omega
            have LL := Lib.hid L2
            clear hcc tn hsz st fl pre hbig L2 hO hs'
            generalize sat l t = s at *
            go_wp2_with fail
            refine (write_any w _ _ L s HO.out hB (by omega) (by omega)).mono ?_
            rintro e w3 ⟨v3, rfl, hO3, hB3⟩
            go_wp2
            go_roundw
            case rel => exact ⟨t + 1, v3, _, by omega, rfl, by go_num, ST, hO3, hB3, LL.out⟩
            case measure => simp [intOf]; omega
        · obtain rfl : n = t := by omega
          have E1 := Lib.hid (show L = joinL (tl l) from by rw [← E.out, List.take_of_length_le (by rw [tl_len, EN.out]; omega)])
          have HO := Lib.hid hO
          clear hlt ht hO hs'
          by_cases hbig : 4096 < L.length
          · have F := Lib.hid (show 4096 < (joinL (tl l)).length from by rw [← E1.out]; exact hbig)
            go_wp2
            go_ret2
            exact join_3 ALL.out F.out hB
          · have hbig' : L.length ≤ 4096 := by omega
            have F := Lib.hid (show (joinL (tl l)).length ≤ 4096 from by rw [← E1.out]; exact hbig')
            clear hbig
            go_wp2
            go_ret2
            exact join_0 ALL.out F.out (by rw [← E1.out]; exact HO.out) hB
end Go.Proofs.Ytbinhnlajflndaa.Fd
