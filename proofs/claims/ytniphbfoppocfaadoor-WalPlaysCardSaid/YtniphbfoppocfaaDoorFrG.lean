/- The walks of vokref.Lists and of voklaw13.first. -/
import Derived.Test.YtniphbfoppocfaaDoorFrF
import Derived.Lib.SlBytesConst
set_option linter.unusedVariables false
namespace Go.Proofs.YtniphbfoppocfaaDoor.Fr
open Go.RowKit

/-- an own list of slices, read -/
theorem OwnL.at_ {B : Nat} {w : World} {v : Value} {S : List SlB} (h : OwnL B w v S) : ∃ A c, v = .slice A S.length c ∧ LsAt w A S.length S ∧ S.length ≤ c ∧ (A = none → c = 0) := by
  have hb := fun g => World.ownsRow.lt h.row g
  have cc := fun g (e : v.ownBlock = some g) => World.ownsRow.cells h.row (g := g) e
  rcases h.row.2 with ⟨rfl, e⟩ | ⟨g, cap, cur, rfl, hB, hg, hn, hm, hs, ht⟩
  · obtain rfl : S = [] := List.eq_nil_of_length_eq_zero e
    exact ⟨none, 0, rfl, LsAt.nil _ _, Nat.le_refl _, fun _ => rfl⟩
  · refine ⟨some ⟨g, 0, none⟩, cap, rfl, ⟨rfl, fun h0 => ⟨g, 0, rfl, (hb g rfl).2, fun j hj => ?_⟩⟩, hn, fun q => by cases q⟩
    have c0 := cc g rfl j (gt S j).val (by rw [List.getElem?_map, List.getElem?_eq_getElem hj, gt_lt hj]; rfl)
    rw [addr_off] at c0
    obtain ⟨A, c, e, a, k, z⟩ := (h.each j hj).at_
    unfold SlB.val at e
    injection e with e1 e2 e3
    refine ⟨c0, ?_, by rw [e2, e3]; exact k, by rw [e1, e3]; exact z⟩
    rw [e1, e2]; exact a
theorem bytesS_len (S : List SlB) : (bytesS S).length = S.length := by unfold bytesS; simp
theorem bytesS_at {S : List SlB} {j : Nat} (h : j < S.length) : (bytesS S)[j]? = some (gt S j).l := by
  unfold bytesS; rw [List.getElem?_map, List.getElem?_eq_getElem h, gt_lt h]; rfl
/-- the first t are alike -/
def alike (S R : List SlB) (t : Nat) : Prop := ∀ j, j < t → (gt S j).l = (gt R j).l
theorem alike_all {S R : List SlB} (hl : S.length = R.length) (h : alike S R S.length) : bytesS S = bytesS R := by
  refine List.ext_getElem? fun j => ?_
  by_cases hj : j < S.length
  · rw [bytesS_at hj, bytesS_at (by omega), h j hj]
  · rw [List.getElem?_eq_none (by rw [bytesS_len]; omega), List.getElem?_eq_none (by rw [bytesS_len]; omega)]
theorem alike_not {S R : List SlB} {j : Nat} (hS : j < S.length) (hR : j < R.length) (h : ¬ (gt S j).l = (gt R j).l) : ¬ bytesS S = bytesS R := fun e => by
  have := bytesS_at hS
  rw [e, bytesS_at hR] at this
  injection this with q
  exact h q.symm
set_option maxRecDepth 100000 in
set_option maxHeartbeats 4000000 in
theorem lists_is (w : World) (A B : Option Addr) (n c m d : Nat) (S R : List SlB) (hS : LsAt w A n S) (hR : LsAt w B m R) (hn : n ≤ 9223372036854775807) (hm : m ≤ 9223372036854775807) :
    Calls Tryd.prog 28 #[.slice A n c, .slice B m d] w fun e w' => e = .returned (.bool (decide (bytesS S = bytesS R))) ∧ Below w.heap.size w w' := by
  have e1 := hS.1
  have e2 := hR.1
  by_cases hnm : n = m
  · subst hnm
    have HS := Lib.hid hS
    have HR := Lib.hid hR
    have E1 := Lib.hid e1
    have E2 := Lib.hid e2
    clear hS hR e1 e2
    go_enter Tryd.func28, Tryd.ntmps28
    go_wp2
    go_loopw [5] (fun i wr => ∃ t : Nat, t ≤ n ∧ i = .int .i64 t ∧ Hid (alike S R t) ∧ Below w.heap.size w wr) (fun i _ => n - (intOf i).toNat)
    case atStart => exact ⟨0, Nat.zero_le _, rfl, Lib.hid (fun j hj => by omega), Below.refl _ _⟩
    case round =>
      obtain ⟨t, ht, rfl, D, hB⟩ := hrel
      have HB := Lib.hid hB
      clear hB
      by_cases hlt : t < n
      · obtain ⟨b1, o1, rfl, h1, c1⟩ := HS.out.2 (by omega)
        obtain ⟨b2, o2, rfl, h2, c2⟩ := HR.out.2 (by omega)
        have d1 := (HB.out.cell (p := ⟨b1, o1 + t, none⟩) h1).trans (c1 t hlt).1
        have d2 := (HB.out.cell (p := ⟨b2, o2 + t, none⟩) h2).trans (c2 t hlt).1
        have x1 := Lib.hid ((c1 t hlt).2.1.below HB.out)
        have x2 := Lib.hid ((c2 t hlt).2.1.below HB.out)
        clear c1 c2
        have NO := Lib.hid (fun h => alike_not (S := S) (R := R) (j := t) (by rw [← E1.out]; exact hlt) (by rw [← E2.out]; exact hlt) h)
        have YES := Lib.hid (fun h j (hj : j < t + 1) => show (gt S j).l = (gt R j).l from (Nat.lt_succ_iff_lt_or_eq.1 hj).elim (D.out j) (fun q => q ▸ h))
        generalize hs : gt S t = s at d1 x1 NO YES
        generalize hr : gt R t = r at d2 x2 NO YES
        obtain ⟨sA, sk, sc, sl⟩ := s
        obtain ⟨rA, rk, rc, rl⟩ := r
        simp only [SlB.val] at d1 d2
        have C1 := fun u (hb : Below wr.heap.size wr u) => bytes_is u sA rA sk sc rk rc sl rl (x1.out.below hb) (x2.out.below hb)
        by_cases hq : sl = rl
        · have q1 : decide (sl = rl) = true := decide_eq_true hq
          have Y := Lib.hid (YES.out hq)
          rw [q1] at C1
          clear hq q1 hs hr
          go_wp2
          go_quiet ((go_at_call 30; exact Calls.quiet_of_same (C1 _ (below_drewN _ _ _))))
          go_wp2
          go_roundw
          case rel => exact ⟨t + 1, by omega, by go_num, Lib.hid Y.out, HB.out.trans (below_drewN _ _ _)⟩
          case measure => simp [intOf]; omega
        · have q1 : decide (sl = rl) = false := decide_eq_false hq
          have G := Lib.hid (ret_bool (show false = decide (bytesS S = bytesS R) from (decide_eq_false (NO.out hq)).symm))
          rw [q1] at C1
          clear hq q1 hs hr
          go_wp2
          go_quiet ((go_at_call 30; exact Calls.quiet_of_same (C1 _ (below_drewN _ _ _))))
          go_wp2
          go_ret
          exact ⟨G.out, HB.out.trans (below_drewN _ _ _)⟩
      · obtain rfl : t = n := by omega
        have G := Lib.hid (ret_bool (show true = decide (bytesS S = bytesS R) from (decide_eq_true (alike_all (E1.out.symm.trans E2.out) (E1.out ▸ D.out))).symm))
        go_wp2
        go_ret
        exact ⟨G.out, HB.out⟩
  · have q1 : ((n : Int) != m) = true := by rw [bne_iff_ne]; omega
    have G := Lib.hid (ret_bool (show false = decide (bytesS S = bytesS R) from (decide_eq_false (fun e => hnm (by rw [e1, e2, ← bytesS_len S, e, bytesS_len]))).symm))
    clear hS hR e1 e2
    go_enter Tryd.func28, Tryd.ntmps28
    go_wp2
    go_ret
    exact ⟨G.out, Below.refl _ _⟩
def nine : List UInt8 := [49, 50, 51, 52, 53, 54, 55, 56, 57]
theorem sum_nine : sumL nine = 3421780262 := by decide +kernel
theorem lit_at (w : World) (l : List UInt8) (cs : Array Value) (T : TypeId) (fr : Nat × Nat) (h : cs.toList = Lib.byteCells l) : BsAt (w.alloc (.cells cs T fr)) (some ⟨w.heap.size, 0, none⟩) l.length l :=
  ⟨rfl, fun h0 => ⟨w.heap.size, 0, rfl, by simp, fun j hj => by
    rw [World.cell?_alloc_mark, Nat.zero_add, ← byteCells_at l j hj, ← Array.getElem?_toList, h]⟩⟩
theorem const_bytes (w : World) (C : Array Value) (n c : Nat) : (convert 22 22 (.slice (some ⟨w.heap.size, 0, none⟩) n c)).run Tryd.prog (w.alloc (.cells C 5)) = .ok (.slice (some ⟨w.heap.size, 0, none⟩) n c) (w.alloc (.cells C 5 (C.size, C.size + 1))) :=
  Lib.run_convert_bytes_const w 22 5 C n c Tryd.underlying22 Tryd.underlying5
end Go.Proofs.YtniphbfoppocfaaDoor.Fr
