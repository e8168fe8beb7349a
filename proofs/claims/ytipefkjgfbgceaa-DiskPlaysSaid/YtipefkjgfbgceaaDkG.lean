/- The walks of vokref.Bytes, of voklaw14.first and played. -/
import Derived.Test.YtipefkjgfbgceaaDkF
set_option linter.unusedVariables false
namespace Go.Proofs.Ytipefkjgfbgceaa.Dk
open Go.RowKit Fr

theorem str_ne {a b : List UInt8} (h : ¬ a = b) : ((str a).toList == (str b).toList) = false := by
  rw [ByteArray.toList_eq, ByteArray.toList_eq, beq_eq_false_iff_ne]
  intro e
  exact h (by simpa [str] using e)
set_option maxRecDepth 100000 in
theorem vb_is (w : World) (A B : Option Addr) (n c m d : Nat) (l k : List UInt8) (hl : BsAt w A n l) (hk : BsAt w B m k) :
    Calls Try.prog 18 #[.slice A n c, .slice B m d] w fun e w' => e = .returned (.bool (decide (l = k))) ∧ w' = w := by
  have e1 := hl.text c
  have e2 := hk.text d
  by_cases h : l = k
  · subst h
    generalize str l = s at e1 e2
    clear hl hk
    have G := Lib.hid (ret_bool (show true = decide (l = l) from (decide_eq_true rfl).symm))
    go_enter Try.func18, Try.ntmps18
    go_wp2
    go_ret
    exact ⟨by first | exact G.out | simp, rfl⟩
  · have e0 := str_ne h
    generalize str l = s at e0 e1
    generalize str k = t at e0 e2
    have G := Lib.hid (ret_bool (show false = decide (l = k) from (decide_eq_false h).symm))
    clear hl hk h
    go_enter Try.func18, Try.ntmps18
    go_wp2
    go_ret
    exact ⟨by first | exact G.out | simp, rfl⟩
/-- bytes written out -/
theorem few_at (w : World) (cs : Array Value) (T : TypeId) (l : List UInt8) (h : cs.toList = Lib.byteCells l) {n : Nat} (hn : l.length = n) : BsAt (w.alloc (.cells cs T)) (some ⟨w.heap.size, 0, none⟩) n l := by
  refine ⟨hn.symm, fun h0 => ⟨w.heap.size, 0, rfl, by simp, fun j hj => ?_⟩⟩
  rw [World.cell?_alloc_new, Nat.zero_add, ← byteCells_at l j (by omega), ← h]
  simp
set_option maxRecDepth 100000 in
set_option maxHeartbeats 4000000 in
theorem first_is (w : World) : Calls Try.prog 8 #[] w fun e w' => e = .returned (.bool true) ∧ Below w.heap.size w w' := by
  have C0 := new_yes w 5 (by decide) (by decide)
  go_enter Try.func8, Try.ntmps8
  go_wp2_with fail
  refine C0.mono ?_
  rintro e w1 ⟨p, v1, rfl, d1, b1, h1⟩
  clear C0
  have D1 := Lib.hid (show Dsk w w1 p 5 0 [] v1 from ⟨d1, h1, b1⟩)
  clear d1 b1 h1
  have al := below_alloc w1 (.cells #[.int .u8 1, .int .u8 2] 5)
  have E1 := Lib.hid (D1.out.below al)
  have C1 := app_is _ p 5 0 [] v1 _ 2 2 [1, 2] E1.out.d (few_at w1 #[.int .u8 1, .int .u8 2] 5 [1, 2] rfl rfl) (fun q => by cases q) (by decide) (by decide) (by decide) (by decide)
  rw [show appL 5 [] [1, 2] = [1, 2] from rfl, show appE 5 [] [1, 2] = 0 from rfl] at C1
  clear al
  go_wp2_with fail
  refine C1.mono ?_
  rintro e w2 ⟨rfl, v2, d2, k2, n2⟩
  clear C1
  have D2 := Lib.hid (E1.out.next d2 k2 n2)
  clear d2 k2 n2
  have C2 := sync_is w2 p 5 0 [1, 2] v2 D2.out.d (by decide)
  go_wp2_with fail
  refine C2.mono ?_
  rintro e w3 ⟨rfl, v3, d3, k3, n3⟩
  clear C2
  have D3 := Lib.hid (D2.out.next d3 k3 n3)
  clear d3 k3 n3
  have al := below_alloc w3 (.cells #[.int .u8 3, .int .u8 4] 5)
  have E3 := Lib.hid (D3.out.below al)
  have C3 := app_is _ p 5 _ [1, 2] v3 _ 2 2 [3, 4] E3.out.d (few_at w3 #[.int .u8 3, .int .u8 4] 5 [3, 4] rfl rfl) (fun q => by cases q) (by decide) (by decide) (by decide) (by decide)
  rw [show appL 5 [1, 2] [3, 4] = [1, 2, 3, 4] from rfl, show appE 5 [1, 2] [3, 4] = 0 from rfl] at C3
  clear al
  go_wp2_with fail
  refine C3.mono ?_
  rintro e w4 ⟨rfl, v4, d4, k4, n4⟩
  clear C3
  have D4 := Lib.hid (E3.out.next d4 k4 n4)
  clear d4 k4 n4
  have al := below_alloc w4 (.cells #[.int .u8 5, .int .u8 6] 5)
  have E4 := Lib.hid (D4.out.below al)
  have C4 := app_is _ p 5 _ [1, 2, 3, 4] v4 _ 2 2 [5, 6] E4.out.d (few_at w4 #[.int .u8 5, .int .u8 6] 5 [5, 6] rfl rfl) (fun q => by cases q) (by decide) (by decide) (by decide) (by decide)
  rw [show appL 5 [1, 2, 3, 4] [5, 6] = [1, 2, 3, 4] from rfl, show appE 5 [1, 2, 3, 4] [5, 6] = 9 from rfl] at C4
  clear al
  go_wp2_with fail
  refine C4.mono ?_
  rintro e w5 ⟨rfl, v5, d5, k5, n5⟩
  clear C4
  have D5 := Lib.hid (E4.out.next d5 k5 n5)
  clear d5 k5 n5
  have C5 := crash_is w5 p 5 _ [1, 2, 3, 4] v5 1 D5.out.d (by decide) (by decide) (by decide) (by decide) (by decide)
  rw [show [1, 2, 3, 4].take (crN (([1, 2] : List UInt8).length : Nat) [1, 2, 3, 4] 1).toNat = ([1, 2, 3] : List UInt8) from rfl] at C5
  go_wp2_with fail
  refine C5.mono ?_
  rintro e w6 ⟨rfl, v6, d6, k6, n6⟩
  clear C5
  have D6 := Lib.hid (D5.out.next d6 k6 n6)
  clear d6 k6 n6
  have C6 := bytes_is w6 p 5 _ [1, 2, 3] v6 D6.out.d (by decide)
  go_wp2_with fail
  refine C6.mono ?_
  rintro e w7 ⟨u7, rfl, o7, b7⟩
  clear C6
  obtain ⟨A7, c7, rfl, a7, -, -⟩ := own_atN o7 (n := 3) rfl
  have al := below_alloc w7 (.cells #[.int .u8 1, .int .u8 2, .int .u8 3] 5)
  have C7 := vb_is _ A7 _ 3 c7 3 3 [1, 2, 3] [1, 2, 3] (a7.below al) (few_at w7 #[.int .u8 1, .int .u8 2, .int .u8 3] 5 [1, 2, 3] rfl rfl)
  have G := Lib.hid ((D6.out.below b7).below al).at_
  clear a7 o7 b7 al
  go_wp2_with fail
  refine C7.mono ?_
  rintro e w8 ⟨rfl, h8⟩
  have G2 := G.out
  rw [← h8] at G2
  have G3 := Lib.hid G2
  clear C7 G G2 h8
  go_wp2
  go_ret
  exact ⟨rfl, G3.out⟩
end Go.Proofs.Ytipefkjgfbgceaa.Dk
