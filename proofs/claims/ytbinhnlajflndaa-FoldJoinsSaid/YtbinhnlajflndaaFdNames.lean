/- The walk of voklaw4's law FoldNames. -/
import Derived.Test.YtbinhnlajflndaaFdFirst
set_option linter.unusedVariables false
namespace Go.Proofs.Ytbinhnlajflndaa.Fd
open Go.RowKit Cv St

theorem bef1_app {c : UInt8} {a r : List UInt8} (h : c ∉ a) : bef1 c (a ++ c :: r) = a ∧ aft1 c (a ++ c :: r) = r := by
  induction a with
  | nil => exact ⟨by simp [bef1], by simp [aft1]⟩
  | cons x a ih =>
    simp only [List.mem_cons, not_or] at h
    obtain ⟨h1, h2⟩ := ih h.2
    have hx : x ≠ c := fun e => h.1 e.symm
    refine ⟨?_, ?_⟩
    · rw [List.cons_append]; unfold bef1 at *; rw [List.takeWhile_cons]; simp [hx]; simpa using h1
    · rw [List.cons_append]; unfold aft1 at *; rw [List.dropWhile_cons]; simp [hx]; simpa using h2
theorem bef1_no {c : UInt8} {a : List UInt8} (h : c ∉ a) : bef1 c a = a ∧ aft1 c a = [] := by
  rcases index_of c a with ⟨-, h1, h2, -⟩ | ⟨j, -, -, -, -, h2⟩
  · exact ⟨h1, h2⟩
  · exact absurd h2 h
theorem name_of (s a p v : ByteArray) (x : Bool) (w : World) (hs : s.size ≤ 1000000) (ha : nmN s.data.toList = a.data.toList) (hp : nmP s.data.toList = p.data.toList) (hv : nmV s.data.toList = v.data.toList) (hx : nmB s.data.toList = x) :
    Calls Try.prog 34 #[.string s] w fun e w' => e = .returned (.tuple #[.string a, .string p, .string v, .bool x]) ∧ Below w.heap.size w w' := by
  have := name_is s _ _ _ x w hs ha hp hv hx
  rwa [str_list, str_list, str_list] at this
theorem list_app (a b : ByteArray) : (a ++ b).data.toList = a.data.toList ++ b.data.toList := by simp
theorem nm_full {n p v : List UInt8} (h1 : (58 : UInt8) ∉ n) (h2 : (59 : UInt8) ∉ n) (h3 : (58 : UInt8) ∉ p) :
    nmN (n ++ [59] ++ p ++ [58] ++ v) = n ∧ nmP (n ++ [59] ++ p ++ [58] ++ v) = p ∧ nmV (n ++ [59] ++ p ++ [58] ++ v) = v ∧ nmB (n ++ [59] ++ p ++ [58] ++ v) = true := by
  have e : n ++ [59] ++ p ++ [58] ++ v = (n ++ 59 :: p) ++ 58 :: v := by simp
  have hm : (58 : UInt8) ∈ (n ++ 59 :: p) ++ 58 :: v := by simp
  have hh : (58 : UInt8) ∉ n ++ 59 :: p := by simp [h1, h3]
  have b := bef1_app (r := v) hh
  have g := bef1_app (r := p) h2
  rw [e]
  unfold nmN nmP nmV nmB
  rw [if_pos hm, if_pos hm, if_pos hm, b.1, b.2, g.1, g.2]
  exact ⟨rfl, rfl, rfl, decide_eq_true hm⟩
theorem nm_less {n v : List UInt8} (h1 : (58 : UInt8) ∉ n) (h2 : (59 : UInt8) ∉ n) :
    nmN (n ++ [58] ++ v) = n ∧ nmP (n ++ [58] ++ v) = [] ∧ nmV (n ++ [58] ++ v) = v ∧ nmB (n ++ [58] ++ v) = true := by
  have e : n ++ [58] ++ v = n ++ 58 :: v := by simp
  have hm : (58 : UInt8) ∈ n ++ 58 :: v := by simp
  have b := bef1_app (r := v) h1
  have g := bef1_no h2
  rw [e]
  unfold nmN nmP nmV nmB
  rw [if_pos hm, if_pos hm, if_pos hm, b.1, b.2, g.1, g.2]
  exact ⟨rfl, rfl, rfl, decide_eq_true hm⟩
theorem nm_none {n p : List UInt8} (h1 : (58 : UInt8) ∉ n) (h3 : (58 : UInt8) ∉ p) : nmN (n ++ p) = [] ∧ nmP (n ++ p) = [] ∧ nmV (n ++ p) = [] ∧ nmB (n ++ p) = false := by
  have hm : (58 : UInt8) ∉ n ++ p := by simp [h1, h3]
  unfold nmN nmP nmV nmB
  rw [if_neg hm, if_neg hm, if_neg hm]
  exact ⟨rfl, rfl, rfl, decide_eq_false hm⟩
/-- no byte of s ahead of place k is c -/
def clearOf (c : Int) (s : ByteArray) (k : Nat) : Prop := ∀ j, j < k → bat s.data.toList j ≠ c
theorem clearOf.succ {c : Int} {s : ByteArray} {k : Nat} (h : clearOf c s k) (e : bat s.data.toList k ≠ c) : clearOf c s (k + 1) := fun j hj => by
  by_cases g : j = k
  · subst g; exact e
  · exact h j (by omega)
theorem clearOf.all {c : UInt8} {s : ByteArray} (h : clearOf (c.toNat : Int) s s.size) : c ∉ s.data.toList := fun hm => by
  obtain ⟨j, hj, e⟩ := List.getElem_of_mem hm
  have hl : s.data.toList.length = s.size := by simp
  exact h j (by omega) (by rw [bat_lt hj, e])
theorem bat_str {s : ByteArray} {k : Nat} (h : k < s.size) : bat s.data.toList k = (s[k].toNat : Int) := by
  have hl : s.data.toList.length = s.size := by simp
  rw [bat_lt (by omega)]; rfl
set_option maxRecDepth 100000 in
set_option maxHeartbeats 4000000 in
theorem foldNames_walk (W : World) (n p v : ByteArray) (hn : n.size ≤ maxLen) (hp : p.size ≤ maxLen) (hv : v.size ≤ maxLen) :
    Calls Try.prog 8 #[.string n, .string p, .string v] W fun e w' => e = .returned (.bool true) ∧ Below W.heap.size W w' := by
  unfold maxLen at hn hp hv
  have b0 := Below.refl W.heap.size W
  by_cases k1 : 1000 < n.size
  · go_enter Try.func8, Try.ntmps8
    go_wp2_with fail
    refine (first4_any _).mono ?_
    rintro e b1w ⟨rfl, b1h⟩
    have b1 := b0.trans (b1h.mono b0.size)
    go_wp2_with fail
    refine (first4_any _).mono ?_
    rintro e b2w ⟨rfl, b2h⟩
    have b2 := b1.trans (b2h.mono b1.size)
    go_wp2
    go_ret
    exact ⟨rfl, b2⟩
  have k1' : n.size ≤ 1000 := by omega
  clear k1 hn
  by_cases k2 : 1000 < p.size
  · go_enter Try.func8, Try.ntmps8
    go_wp2_with fail
    refine (first4_any _).mono ?_
    rintro e b1w ⟨rfl, b1h⟩
    have b1 := b0.trans (b1h.mono b0.size)
    go_wp2_with fail
    refine (first4_any _).mono ?_
    rintro e b2w ⟨rfl, b2h⟩
    have b2 := b1.trans (b2h.mono b1.size)
    go_wp2
    go_ret
    exact ⟨rfl, b2⟩
  have k2' : p.size ≤ 1000 := by omega
  clear k2 hp
  by_cases k3 : 1000 < v.size
  · go_enter Try.func8, Try.ntmps8
    go_wp2_with fail
    refine (first4_any _).mono ?_
    rintro e b1w ⟨rfl, b1h⟩
    have b1 := b0.trans (b1h.mono b0.size)
    go_wp2_with fail
    refine (first4_any _).mono ?_
    rintro e b2w ⟨rfl, b2h⟩
    have b2 := b1.trans (b2h.mono b1.size)
    go_wp2
    go_ret
    exact ⟨rfl, b2⟩
  have k3' : v.size ≤ 1000 := by omega
  clear k3 hv
  go_enter Try.func8, Try.ntmps8
  go_wp2_with fail
  refine (first4_any _).mono ?_
  rintro e b1w ⟨rfl, b1h⟩
  have b1 := b0.trans (b1h.mono b0.size)
  go_wp2
  go_loopw [7] (fun i wr => ∃ t : Nat, t ≤ n.size ∧ i = .int .i64 t ∧ Hid (clearOf 58 n t) ∧ Hid (clearOf 59 n t) ∧ Below W.heap.size W wr) (fun i _ => n.size - (intOf i).toNat)
  case atStart => exact ⟨0, Nat.zero_le _, rfl, Lib.hid (fun j hj => absurd hj (by omega)), Lib.hid (fun j hj => absurd hj (by omega)), b1⟩
  case round =>
    rename_i wr
    obtain ⟨t, ht, rfl, D, G, hB⟩ := hrel
    by_cases hlt : t < n.size
    · have eb := bat_str hlt
      by_cases h58 : (n[t].toNat : Int) = 58
      · have t1 : ((n[t].toNat : Int) == 58) = true := by rw [beq_iff_eq]; exact h58
        clear eb h58
        go_wp2_with fail
        refine (first4_any _).mono ?_
        rintro e b2w ⟨rfl, b2h⟩
        have b2 := hB.trans (b2h.mono hB.size)
        go_wp2
        go_ret
        exact ⟨rfl, b2⟩
      · have t1 : ((n[t].toNat : Int) == 58) = false := by rw [beq_eq_false_iff_ne]; exact h58
        by_cases h59 : (n[t].toNat : Int) = 59
        · have t2 : ((n[t].toNat : Int) == 59) = true := by rw [beq_iff_eq]; exact h59
          clear eb h58 h59
          go_wp2_with fail
          refine (first4_any _).mono ?_
          rintro e b2w ⟨rfl, b2h⟩
          have b2 := hB.trans (b2h.mono hB.size)
          go_wp2
          go_ret
          exact ⟨rfl, b2⟩
        · have t2 : ((n[t].toNat : Int) == 59) = false := by rw [beq_eq_false_iff_ne]; exact h59
          have D2 := Lib.hid (D.out.succ (by rw [eb]; exact h58))
          have G2 := Lib.hid (G.out.succ (by rw [eb]; exact h59))
          clear eb h58 h59
          go_wp2
          go_roundw
          case rel => exact ⟨t + 1, by omega, by go_num, D2, G2, hB⟩
          case measure => simp [intOf]; omega
    · obtain rfl : n.size = t := by omega
      have m58 := Lib.hid (D.out.all (c := 58))
      have m59 := Lib.hid (G.out.all (c := 59))
      clear D G hlt ht
      go_wp2
      go_loopw [8] (fun i wr => ∃ t : Nat, t ≤ p.size ∧ i = .int .i64 t ∧ Hid (clearOf 58 p t) ∧ Below W.heap.size W wr) (fun i _ => p.size - (intOf i).toNat)
      case atStart => exact ⟨0, Nat.zero_le _, rfl, Lib.hid (fun j hj => absurd hj (by omega)), hB⟩
      case round =>
        rename_i wr2
        clear hB
        obtain ⟨t, ht, rfl, D, hB⟩ := hrel
        by_cases hlt : t < p.size
        · have eb := bat_str hlt
          by_cases h58 : (p[t].toNat : Int) = 58
          · have t1 : ((p[t].toNat : Int) == 58) = true := by rw [beq_iff_eq]; exact h58
            clear eb h58
            go_wp2_with fail
            refine (first4_any _).mono ?_
            rintro e b2w ⟨rfl, b2h⟩
            have b2 := hB.trans (b2h.mono hB.size)
            go_wp2
            go_ret
            exact ⟨rfl, b2⟩
          · have t1 : ((p[t].toNat : Int) == 58) = false := by rw [beq_eq_false_iff_ne]; exact h58
            have D2 := Lib.hid (D.out.succ (by rw [eb]; exact h58))
            clear eb h58
            go_wp2
            go_roundw
            case rel => exact ⟨t + 1, by omega, by go_num, D2, hB⟩
            case measure => simp [intOf]; omega
        · obtain rfl : p.size = t := by omega
          have mp := Lib.hid (D.out.all (c := 58))
          clear D hlt ht
          have A1 := Lib.hid (nm_full (v := v.data.toList) m58.out m59.out mp.out)
          have A2 := Lib.hid (nm_less (v := v.data.toList) m58.out m59.out)
          have A3 := Lib.hid (nm_none m58.out mp.out)
          have S1 := Lib.hid (fun w => name_of (n ++ ⟨#[59]⟩ ++ p ++ ⟨#[58]⟩ ++ v) n p v true w (by simp only [ByteArray.size_append]; show n.size + 1 + p.size + 1 + v.size ≤ _; omega) (by simp only [list_app]; exact A1.out.1) (by simp only [list_app]; exact A1.out.2.1) (by simp only [list_app]; exact A1.out.2.2.1) (by simp only [list_app]; exact A1.out.2.2.2))
          have S2 := Lib.hid (fun w => name_of (n ++ ⟨#[58]⟩ ++ v) n ⟨#[]⟩ v true w (by simp only [ByteArray.size_append]; show n.size + 1 + v.size ≤ _; omega) (by simp only [list_app]; exact A2.out.1) (by simp only [list_app]; exact A2.out.2.1) (by simp only [list_app]; exact A2.out.2.2.1) (by simp only [list_app]; exact A2.out.2.2.2))
          have S3 := Lib.hid (fun w => name_of (n ++ p) ⟨#[]⟩ ⟨#[]⟩ ⟨#[]⟩ false w (by simp only [ByteArray.size_append]; omega) (by simp only [list_app]; exact A3.out.1) (by simp only [list_app]; exact A3.out.2.1) (by simp only [list_app]; exact A3.out.2.2.1) (by simp only [list_app]; exact A3.out.2.2.2))
          clear A1 A2 A3 m58 m59 mp
          go_wp2_with fail
          refine (S1.out _).mono ?_
          rintro e w5 ⟨rfl, h5⟩
          have c5 := hB.trans (h5.mono hB.size)
          go_wp2_with fail
          refine (S2.out _).mono ?_
          rintro e w6 ⟨rfl, h6⟩
          have c6 := c5.trans (h6.mono c5.size)
          go_wp2_with fail
          refine (S3.out _).mono ?_
          rintro e w7 ⟨rfl, h7⟩
          have c7 := c6.trans (h7.mono c6.size)
          go_wp2_with fail
          refine (first4_any _).mono ?_
          rintro e bzw ⟨rfl, bzh⟩
          have bz := c7.trans (bzh.mono c7.size)
          go_wp2
          go_ret
          exact ⟨rfl, bz⟩
end Go.Proofs.Ytbinhnlajflndaa.Fd
