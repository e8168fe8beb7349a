/- vokref.Spans. -/
import Derived.Test.YtjodhfehfpmfaaaIvMem
set_option linter.unusedVariables false
namespace Go.Proofs.Ytjodhfehfpmfaaa.Iv
open Go.RowKit

def spTo (l m : List (Int × Int)) (k : Nat) : Prop := ∀ j, j < k → gt l j = gt m j
theorem spTo.succ {l m : List (Int × Int)} {k : Nat} (h : spTo l m k) (e : gt l k = gt m k) : spTo l m (k + 1) := fun j hj => by
  by_cases c : j = k
  · subst c; exact e
  · exact h j (by omega)
theorem sp_ext {l m : List (Int × Int)} (e : l.length = m.length) (h : ∀ j, j < l.length → gt l j = gt m j) : l = m := by
  refine List.ext_getElem e fun j h1 h2 => ?_
  have := h j h1
  rwa [gt_lt h1, gt_lt h2] at this
set_option maxRecDepth 100000 in
set_option maxHeartbeats 4000000 in
theorem spans_any (w : World) (A B : Option Addr) (n c m d : Nat) (l k : List (Int × Int)) (hl : SpAt w A n l) (hk : SpAt w B m k) (h1 : n ≤ 9223372036854775807) (h2 : m ≤ 9223372036854775807) :
    Calls Try.prog 13 #[.slice A n c, .slice B m d] w fun e w' => e = .returned (.bool (decide (l = k))) ∧ Below w.heap.size w w' := by
  obtain ⟨en, hc⟩ := hl
  obtain ⟨en2, hc2⟩ := hk
  by_cases hn : n = m
  · subst hn
    have EN := Lib.hid en
    have EN2 := Lib.hid en2
    clear en en2
    go_enter Try.func13, Try.ntmps13
    go_wp2
    go_loopw [5] (fun i wr => ∃ t : Nat, t ≤ n ∧ i = .int .i64 t ∧ Hid (spTo l k t) ∧ ∃ q : Nat, wr = w.drewN q) (fun i _ => n - (intOf i).toNat)
    case atStart => exact ⟨0, Nat.zero_le _, rfl, Lib.hid (fun j hj => absurd hj (by omega)), 0, rfl⟩
    case round =>
      obtain ⟨t, ht, rfl, D, q, rfl⟩ := hrel
      by_cases hlt : t < n
      · obtain ⟨b, off, rfl, hb, hcc⟩ := hc (by omega)
        obtain ⟨b2, off2, rfl, hb2, hcc2⟩ := hc2 (by omega)
        obtain ⟨c0, c1⟩ := hcc t hlt
        obtain ⟨d0, d1⟩ := hcc2 t hlt
        clear hc hc2 hcc hcc2
        have X := Lib.hid (fun (e1 : (gt l t).1 = (gt k t).1) (e2 : (gt l t).2 = (gt k t).2) => D.out.succ (Prod.ext e1 e2))
        have F1 := Lib.hid (fun (h : (gt l t).1 ≠ (gt k t).1) => show false = decide (l = k) from no_bool (fun e => h (by rw [e])))
        have F2 := Lib.hid (fun (h : (gt l t).2 ≠ (gt k t).2) => show false = decide (l = k) from no_bool (fun e => h (by rw [e])))
        clear D
        by_cases p1 : (gt l t).1 = (gt k t).1
        · have s1 : (((gt l t).1 : Int) != (gt k t).1) = false := by rw [bne_eq_false_iff_eq]; exact p1
          by_cases p2 : (gt l t).2 = (gt k t).2
          · have s2 : (((gt l t).2 : Int) != (gt k t).2) = false := by rw [bne_eq_false_iff_eq]; exact p2
            have Y := Lib.hid (X.out p1 p2)
            clear p1 p2 X F1 F2
            go_wp2
            go_big_quiet (fail)
            go_wp2
            go_roundw
            case rel => exact ⟨t + 1, by omega, by go_num, Y, _, rfl⟩
            case measure => simp [intOf]; omega
          · have s2 : (((gt l t).2 : Int) != (gt k t).2) = true := by rw [bne_iff_ne]; exact p2
            have F := Lib.hid (F2.out p2)
            clear p1 p2 X F1 F2
            go_wp2
            go_big_quiet (fail)
            go_wp2
            go_ret
            exact ⟨ret_bool F.out, (below_drewN _ _ _).trans (below_drewN _ _ _)⟩
        · have s1 : (((gt l t).1 : Int) != (gt k t).1) = true := by rw [bne_iff_ne]; exact p1
          have F := Lib.hid (F1.out p1)
          clear p1 X F1 F2
          go_wp2
          go_big_quiet (fail)
          go_wp2
          go_ret
          exact ⟨ret_bool F.out, (below_drewN _ _ _).trans (below_drewN _ _ _)⟩
      · obtain rfl : n = t := by omega
        have F := Lib.hid (show true = decide (l = k) from yes_bool (sp_ext (by rw [← EN.out, ← EN2.out]) (by rw [← EN.out]; exact D.out)))
        go_wp2
        go_ret
        exact ⟨ret_bool F.out, below_drewN _ _ _⟩
  · have F := Lib.hid (show false = decide (l = k) from no_bool (fun e => hn (by rw [en, en2, e])))
    have t1 : ((n : Int) != m) = true := by rw [bne_iff_ne]; omega
    clear en en2 hc hc2 hn
    go_enter Try.func13, Try.ntmps13
    go_wp2
    go_ret
    exact ⟨ret_bool F.out, Below.refl _ _⟩
end Go.Proofs.Ytjodhfehfpmfaaa.Iv
