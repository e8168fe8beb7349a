/- Lists of slices of the call's own whose elements are turned one after another; the walk of voklaw13.front. -/
import Derived.Test.YtdaabjoiokgjlaaDoorFrBw
set_option linter.unusedVariables false
namespace Go.Proofs.YtdaabjoiokgjlaaDoor.Fr
open Go.RowKit

/-- from t on each is a slice of the call's own, in a block for itself -/
structure OwnF (t B : Nat) (w : World) (v : Value) (S : List SlB) : Prop where
  row : w.ownsRow B 22 1 v S.length (S.map SlB.val)
  each : ∀ j, t ≤ j → j < S.length → OwnB B w (gt S j).val (gt S j).l
  ne : ∀ i j, t ≤ i → t ≤ j → i < S.length → j < S.length → i ≠ j → (gt S i).val.ownBlock = none ∨ (gt S i).val.ownBlock ≠ (gt S j).val.ownBlock
theorem OwnL.from {B : Nat} {w : World} {v : Value} {S : List SlB} (h : OwnL B w v S) : OwnF 0 B w v S := ⟨h.row, fun j _ hj => h.each j hj, fun i j _ _ hi hj => h.ne i j hi hj⟩
theorem gt_set {S : List SlB} {t : Nat} (h : t < S.length) (s : SlB) (j : Nat) : gt (S.set t s) j = if j = t then s else gt S j := by
  unfold gt
  rw [List.getElem?_set]
  by_cases e : t = j
  · subst e; rw [if_pos rfl, if_pos h, if_pos rfl]; rfl
  · rw [if_neg e, if_neg (fun q => e q.symm)]
theorem gt_same {S : List SlB} {t : Nat} (h : t < S.length) (s : SlB) : gt (S.set t s) t = s := by rw [gt_set h, if_pos rfl]
theorem gt_other {S : List SlB} {t j : Nat} (h : t < S.length) (s : SlB) (e : j ≠ t) : gt (S.set t s) j = gt S j := by rw [gt_set h, if_neg e]
theorem map_set_same {S : List SlB} {t : Nat} (h : t < S.length) {s : SlB} (hv : s.val = (gt S t).val) : (S.set t s).map SlB.val = S.map SlB.val := by
  rw [List.map_set, hv]
  refine List.ext_getElem? fun j => ?_
  rw [List.getElem?_set]
  by_cases e : t = j
  · subst e; rw [if_pos rfl, if_pos (by rw [List.length_map]; exact h), List.getElem?_map, List.getElem?_eq_getElem h, gt_lt h]; rfl
  · rw [if_neg e]
/-- the t-th is written into -/
theorem OwnF.poke {t B : Nat} {w w' : World} {v : Value} {S : List SlB} (h : OwnF t B w v S) (ht : t < S.length) {l' : List UInt8} (ho : OwnB B w' (gt S t).val l') (hg : w.grownBy w' (gt S t).val.ownBlock) : OwnF t B w' v (S.set t { gt S t with l := l' }) := by
  have ot := h.each t (Nat.le_refl _) ht
  have hv : SlB.val { gt S t with l := l' } = (gt S t).val := rfl
  refine ⟨?_, fun j tj hj => ?_, fun i j ti tj hi hj hij => ?_⟩
  · rw [map_set_same ht hv, List.length_set]
    exact World.ownsRow.kept h.row hg (row_ne h.row ot (by decide))
  · rw [List.length_set] at hj
    by_cases e : j = t
    · subst e; rw [gt_same ht]; exact ho
    · rw [gt_other ht _ e]
      exact (h.each j tj hj).grown hg (h.ne j t tj (Nat.le_refl _) hj ht e)
  · rw [List.length_set] at hi hj
    have k := h.ne i j ti tj hi hj hij
    by_cases e : i = t
    · subst e
      rw [gt_same ht, gt_other ht _ (fun q => hij q.symm), hv]; exact k
    · by_cases e2 : j = t
      · subst e2
        rw [gt_same ht, gt_other ht _ e, hv]; exact k
      · rw [gt_other ht _ e, gt_other ht _ e2]; exact k
/-- the t-th is put anew: the others behind it stay -/
theorem OwnF.next {t B : Nat} {w w1 : World} {g cap : Nat} {S : List SlB} (h : OwnF t B w (.slice (some ⟨g, 0, none⟩) S.length cap) S) (ht : t < S.length) (hg : w.grownBy w1 (gt S t).val.ownBlock) (s : SlB) :
    OwnF (t + 1) B (w1.setCell ⟨g, t, none⟩ s.val) (.slice (some ⟨g, 0, none⟩) S.length cap) (S.set t s) ∧ w1.grownBy (w1.setCell ⟨g, t, none⟩ s.val) (some g) ∧ (∃ u, w1.cell? ⟨g, t, none⟩ = some u) ∧ w1.frozen? ⟨g, t, none⟩ = false ∧ B ≤ g := by
  have ot := h.each t (Nat.le_refl _) ht
  have r1 := World.ownsRow.kept h.row hg (row_ne h.row ot (by decide))
  obtain ⟨r2, g2⟩ := World.ownsRow.stored r1 t s.val
  refine ⟨⟨?_, fun j tj hj => ?_, fun i j ti tj hi hj hij => ?_⟩, g2, ?_⟩
  · rw [List.length_set, List.map_set]; exact r2
  · rw [List.length_set] at hj
    rw [gt_other ht _ (by omega)]
    have o1 := (h.each j (by omega) hj).grown hg (h.ne j t (by omega) (Nat.le_refl _) hj ht (by omega))
    exact o1.grown g2 (row_ne o1 r1 (by decide))
  · rw [List.length_set] at hi hj
    rw [gt_other ht _ (by omega), gt_other ht _ (by omega)]
    exact h.ne i j (by omega) (by omega) hi hj hij
  · have := World.ownsRow.cells r1 (g := g) rfl t (gt S t).val (by rw [List.getElem?_map, List.getElem?_eq_getElem ht, gt_lt ht]; rfl)
    rw [addr_off, Nat.zero_add] at this
    exact ⟨⟨_, this⟩, World.ownsRow.frozenAt r1 t, (World.ownsRow.lt r1 g rfl).1⟩
theorem OwnF.on {t B : Nat} {w w' : World} {v : Value} {S : List SlB} (h : OwnF t B w v S) (hb : Below w.heap.size w w') : OwnF t B w' v S := ⟨row_on h.row hb, fun j tj hj => (h.each j tj hj).on hb, h.ne⟩
/-- a cell of the list -/
theorem OwnF.cell {t B : Nat} {w : World} {v : Value} {S : List SlB} (h : OwnF t B w v S) {j : Nat} (hj : j < S.length) : ∃ g cap, v = .slice (some ⟨g, 0, none⟩) S.length cap ∧ B ≤ g ∧ g < w.heap.size ∧ w.cell? ⟨g, j, none⟩ = some (gt S j).val ∧ w.frozen? ⟨g, j, none⟩ = false := by
  rcases h.row.2 with ⟨-, e⟩ | ⟨g, cap, cur, hv, hB, hg, hn, hm, hs, hq⟩
  · omega
  · have r := h.row
    rw [hv] at r
    have lt := World.ownsRow.lt r g rfl
    refine ⟨g, cap, hv, hB, lt.2, ?_, World.ownsRow.frozenAt r j⟩
    have := World.ownsRow.cells r (g := g) rfl j (gt S j).val (by rw [List.getElem?_map, List.getElem?_eq_getElem hj, gt_lt hj]; rfl)
    rwa [addr_off, Nat.zero_add] at this
/-- the first that is short enough -/
def frontL (S : List SlB) (n : Nat) : List UInt8 := ((bytesS (keepS S n))[0]?).getD []
theorem keepS_more (S : List SlB) : ∀ {a b : Nat}, a ≤ b → ∃ R, keepS S b = keepS S a ++ R := by
  intro a b h
  unfold keepS
  obtain ⟨d, rfl⟩ : ∃ d, b = a + d := ⟨b - a, by omega⟩
  rw [List.take_add, List.filter_append]
  exact ⟨_, rfl⟩
def FrontV (w : World) (v : Value) (l : List UInt8) : Prop := ∃ A k c, v = .slice A k c ∧ BsAt w A k l
set_option maxRecDepth 100000 in
set_option maxHeartbeats 4000000 in
theorem front_is (w : World) (A : Option Addr) (n c : Nat) (S : List SlB) (h : LsAt w A n S) (hn : n ≤ 9223372036854775807) (hS : ∀ s ∈ S, s.c ≤ 9223372036854775807) :
    Calls Tryd.prog 23 #[.slice A n c] w fun e w' => ∃ v, e = .returned v ∧ FrontV w v (frontL S n) ∧ w' = w := by
  have SL := Lib.hid h.1
  have HA := Lib.hid h
  have SM := Lib.hid (fun t (ht : t < n) => hS (gt S t) (gt_mem (by rw [← h.1]; exact ht)))
  clear h hS
  go_enter Tryd.func23, Tryd.ntmps23
  go_wp2
  go_loop [3] (fun i => ∃ t : Nat, t ≤ n ∧ i = .int .i64 t ∧ Hid (keepS S t = [])) (fun i => n - (intOf i).toNat)
  case atStart => exact ⟨0, Nat.zero_le _, rfl, Lib.hid (by simp [keepS])⟩
  case round =>
    obtain ⟨t, ht, rfl, E⟩ := hrel
    by_cases hlt : t < n
    · have i5 : (t : Int) < n := by omega
      have htS : t < S.length := by rw [← SL.out]; exact hlt
      obtain ⟨b, off, rfl, hc⟩ := ls_cell HA.out hlt
      obtain ⟨x0, x1, kk, -⟩ := hc w (Below.refl _ _)
      have kz := Nat.le_trans kk (SM.out t hlt)
      have YES := Lib.hid (fun q => keepS_yes htS q)
      have NO := Lib.hid (fun q => keepS_no htS q)
      have X1 := Lib.hid x1
      clear hc kk x1
      by_cases h8 : (gt S t).k ≤ 8192
      · have q8 : ((gt S t).k : Int) ≤ 8192 := by omega
        have hl8 : (gt S t).l.length ≤ 8192 := by rw [← X1.out.1]; exact h8
        have FR := Lib.hid (show frontL S n = (gt S t).l by
          obtain ⟨R, hR⟩ := keepS_more S (a := t + 1) (b := n) (by omega)
          unfold frontL
          rw [hR, YES.out hl8, E.out, bytesS_app]
          rfl)
        generalize gt S t = s at *
        obtain ⟨sA, sk, sc, sl⟩ := s
        simp only at x0 q8
        go_wp2
        go_ret
        exact ⟨_, rfl, by rw [FR.out]; exact ⟨sA, sk, sc, rfl, X1.out⟩, rfl⟩
      · have q8 : ¬ ((gt S t).k : Int) ≤ 8192 := by omega
        have K := Lib.hid ((NO.out (by rw [← X1.out.1]; exact h8)).trans E.out)
        generalize gt S t = s at *
        obtain ⟨sA, sk, sc, sl⟩ := s
        simp only at x0 q8
        go_wp2
        go_round
        case rel => exact ⟨t + 1, by omega, by go_num, K⟩
        case measure => simp [intOf]; omega
    · obtain rfl : t = n := by omega
      have FR := Lib.hid (show frontL S t = [] by unfold frontL; rw [E.out]; rfl)
      go_wp2
      go_ret
      exact ⟨_, rfl, by rw [FR.out]; exact ⟨none, 0, 0, rfl, BsAt.nil _ _⟩, rfl⟩
end Go.Proofs.YtdaabjoiokgjlaaDoor.Fr
