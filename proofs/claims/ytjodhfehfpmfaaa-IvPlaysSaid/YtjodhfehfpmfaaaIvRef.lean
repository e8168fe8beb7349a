/- The set of the reference (vokref10.Set): its memory; has, overlap, Clash. -/
import Derived.Test.YtjodhfehfpmfaaaIvRN
import Derived.Test.YtjodhfehfpmfaaaIvAddM
import Derived.Test.YtjodhfehfpmfaaaIvFirst
set_option linter.unusedVariables false
namespace Go.Proofs.Ytjodhfehfpmfaaa.Iv
open Go.RowKit

/-- the set at block r: spans with owners; all its blocks are of G -/
structure RefF (G : Nat → Prop) (w : World) (r : Nat) (all : List Tg) (A : Option Addr) (c : Nat) : Prop where
  box : RowIs w r 34 1 1 [.slice A all.length c]
  foot : G r
  tags : RowF G w 45 3 A all.length c (cellsL encT all)
def RefIn (G : Nat → Prop) (w : World) (r : Nat) (all : List Tg) : Prop := ∃ A c, RefF G w r all A c
theorem tgOf {w : World} {g c : Nat} {e : TypeId} {l : List Tg} (h : RowIs w g e 3 c (cellsL encT l)) : TgAt w (some ⟨g, 0, none⟩) l.length l := by
  refine ⟨rfl, fun h0 => ⟨g, 0, rfl, h.lt, fun j hj => ?_⟩⟩
  rw [Nat.zero_add]
  exact ⟨h.cell (cells_get (enc := encT) (k := 3) (fun _ => rfl) l j 0 hj (by omega)), h.cell (cells_get (enc := encT) (k := 3) (fun _ => rfl) l j 1 hj (by omega)), h.cell (cells_get (enc := encT) (k := 3) (fun _ => rfl) l j 2 hj (by omega))⟩
theorem RefF.tg {G : Nat → Prop} {w : World} {r : Nat} {all : List Tg} {A : Option Addr} {c : Nat} (h : RefF G w r all A c) : TgAt w A all.length all := by
  rcases h.tags.2.2 with ⟨rfl, e⟩ | ⟨g, rfl, f, q⟩
  · have := h.tags.2.1
    have e0 : all = [] := List.length_eq_zero_iff.1 (by omega)
    rw [e0]; exact TgAt.nil _ _
  · exact tgOf q
theorem RefF.c0 {G : Nat → Prop} {w : World} {r : Nat} {all : List Tg} {A : Option Addr} {c : Nat} (h : RefF G w r all A c) : w.cell? ⟨r, 0, none⟩ = some (.slice A all.length c) := h.box.cell rfl
theorem RefF.on {F G : Nat → Prop} {w w' : World} {r : Nat} {all : List Tg} {A : Option Addr} {c : Nat} (h : RefF G w r all A c) (hk : Kp F w w') (hg : ∀ k, G k → k < w.heap.size → ¬ F k) : RefF G w' r all A c :=
  ⟨h.box.kp hk (hg r h.foot h.box.lt), h.foot, h.tags.on hk hg⟩
theorem RefF.below {G : Nat → Prop} {w w' : World} {r : Nat} {all : List Tg} {A : Option Addr} {c : Nat} (h : RefF G w r all A c) (hb : Below w.heap.size w w') : RefF G w' r all A c := h.on (Kp.of' hb) fun _ _ _ q => q
theorem RefIn.on {F G : Nat → Prop} {w w' : World} {r : Nat} {all : List Tg} (h : RefIn G w r all) (hk : Kp F w w') (hg : ∀ k, G k → k < w.heap.size → ¬ F k) : RefIn G w' r all := by
  obtain ⟨A, c, h⟩ := h
  exact ⟨A, c, h.on hk hg⟩
theorem RefIn.below {G : Nat → Prop} {w w' : World} {r : Nat} {all : List Tg} (h : RefIn G w r all) (hb : Below w.heap.size w w') : RefIn G w' r all := h.on (Kp.of' hb) fun _ _ _ q => q
theorem RefIn.mono {G G' : Nat → Prop} {w : World} {r : Nat} {all : List Tg} (h : RefIn G w r all) (hg : ∀ k, G k → k < w.heap.size → G' k) : RefIn G' w r all := by
  obtain ⟨A, c, h⟩ := h
  exact ⟨A, c, h.box, hg r h.foot h.box.lt, h.tags.mono hg⟩
def hasB (owner : Int) (all : List Tg) : Bool := all.any fun t => decide (t.2 = owner)
theorem has_ow {owner : Int} {all : List Tg} {ow : List Int} (h : SetOk all ow) : hasB owner all = decide (owner ∈ ow) := by
  rw [Bool.eq_iff_iff, decide_eq_true_eq, h.own]
  unfold hasB
  rw [List.any_eq_true]
  constructor
  · rintro ⟨t, ht, e⟩; exact ⟨t, ht, of_decide_eq_true e⟩
  · rintro ⟨t, ht, e⟩; exact ⟨t, ht, decide_eq_true e⟩
set_option maxRecDepth 100000 in
set_option maxHeartbeats 4000000 in
/-- has -/
theorem rhas_is {G : Nat → Prop} (w : World) (r : Nat) (all : List Tg) (owner : Int) (R : RefIn G w r all) (hn : all.length ≤ 1000000) :
    Calls Try.prog 61 #[.pointer (some ⟨r, 0, none⟩), .int .i64 owner] w fun e w' => e = .returned (.bool (hasB owner all)) ∧ Below w.heap.size w w' := by
  obtain ⟨A, c, H⟩ := R
  have p0 := H.c0
  have rl := H.box.lt
  have TA := Lib.hid H.tg
  clear H
  have HB := Lib.hid (show hasB owner all = all.any fun t => decide (t.2 = owner) from rfl)
  generalize hk : all.length = n at *
  have LN := Lib.hid hk
  clear hk
  go_enter Try.func61, Try.ntmps61
  go_wp2
  go_loopw [5] (fun i wr => ∃ t : Nat, i = .int .i64 t ∧ t ≤ n ∧ Hid (∀ j, j < t → (gt all j).2 ≠ owner) ∧ Below w.heap.size w wr) (fun i _ => n - (intOf i).toNat)
  case atStart => exact ⟨0, rfl, Nat.zero_le _, Lib.hid fun j hj => absurd hj (by omega), Below.refl _ _⟩
  case round =>
    obtain ⟨wo, rfl⟩ : ∃ wo : World, wo = wr := ⟨_, rfl⟩
    obtain ⟨t, rfl, ht, D, hB⟩ := hrel
    have q0 := (hB.cell (p := ⟨r, 0, none⟩) rl).trans p0
    by_cases hlt : t < n
    · have s0 : decide ((t : Int) < n) = true := decide_eq_true (by omega)
      have s00 : decide (t < n) = true := decide_eq_true hlt
      have i5 : (t : Int) < n := by omega
      have W1 : IntKind.i64.wrap ((t : Int) + 1) = (t : Int) + 1 := IntWalk.i64_in _ (by omega)
      obtain ⟨b1, o1, rfl, hl1, hc1⟩ := TA.out.2 (by omega)
      obtain ⟨-, -, c2⟩ := hc1 t hlt
      replace c2 := (hB.cell (p := ⟨b1, _, none⟩) hl1).trans c2
      have GM := Lib.hid (show gt all t ∈ all from gt_mem (by rw [LN.out]; exact hlt))
      have ST := Lib.hid (fun (h : (gt all t).2 ≠ owner) => show ∀ j, j < t + 1 → (gt all j).2 ≠ owner from fun j hj => by
        by_cases e : j = t
        · subst e; exact h
        · exact D.out j (by omega))
      clear hc1 D
      generalize gt all t = y at *
      by_cases hy : y.2 = owner
      · have s1 : ((y.2 : Int) == owner) = true := by rw [beq_iff_eq]; exact hy
        have F := Lib.hid (show true = hasB owner all by rw [HB.out]; exact (List.any_eq_true.2 ⟨y, GM.out, decide_eq_true hy⟩).symm)
        clear hy ST
        go_wp2
        go_ret
        exact ⟨ret_bool F.out, hB⟩
      · have s1 : ((y.2 : Int) == owner) = false := by rw [beq_eq_false_iff_ne]; exact hy
        have S2 := Lib.hid (ST.out hy)
        clear hy ST
        go_wp2
        go_roundw
        case rel => exact ⟨t + 1, by go_num, by omega, S2, hB⟩
        case measure => simp [intOf]; omega
    · obtain rfl : n = t := by omega
      have s0 : decide ((n : Int) < n) = false := decide_eq_false (by omega)
      have s00 : decide (n < n) = false := decide_eq_false (by omega)
      have F := Lib.hid (show false = hasB owner all by
        rw [HB.out]
        refine (Bool.eq_false_iff.2 fun h => ?_).symm
        obtain ⟨x, hx, ex⟩ := List.any_eq_true.1 h
        obtain ⟨j, hj, ej⟩ := List.getElem_of_mem hx
        exact D.out j (by rw [← LN.out]; exact hj) (by rw [gt_lt hj, ej]; exact of_decide_eq_true ex))
      go_wp2
      go_ret
      exact ⟨ret_bool F.out, hB⟩
set_option maxRecDepth 100000 in
/-- overlap -/
theorem roverlap_is (W : World) (a b : Int × Int) : Calls Try.prog 66 #[.agg #[.int .i64 a.1, .int .i64 a.2], .agg #[.int .i64 b.1, .int .i64 b.2]] W fun e w' => e = .returned (.bool (ovB a b)) ∧ Below W.heap.size W w' := by
  have bb : Below W.heap.size W ((W.alloc (.cells #[.int .i64 a.1, .int .i64 a.2] 40)).alloc (.cells #[.int .i64 b.1, .int .i64 b.2] 40)) := ((Below.refl _ _).alloc (Nat.le_refl _) _).alloc (by simp) _
  have BB := Lib.hid bb
  clear bb
  by_cases h1 : a.1 < b.2
  · have s1 : decide (a.1 < b.2) = true := decide_eq_true h1
    by_cases h2 : b.1 < a.2
    · have s2 : decide (b.1 < a.2) = true := decide_eq_true h2
      have F := Lib.hid (show true = ovB a b from (ov_iff.2 ⟨h1, h2⟩).symm)
      clear h1 h2
      go_enter Try.func66, Try.ntmps66
      go_wp2
      go_ret
      exact ⟨ret_bool F.out, BB.out⟩
    · have s2 : decide (b.1 < a.2) = false := decide_eq_false h2
      have F := Lib.hid (show false = ovB a b by unfold ovB; exact (decide_eq_false fun h => h2 h.2).symm)
      clear h1 h2
      go_enter Try.func66, Try.ntmps66
      go_wp2
      go_ret
      exact ⟨ret_bool F.out, BB.out⟩
  · have s1 : decide (a.1 < b.2) = false := decide_eq_false h1
    have F := Lib.hid (show false = ovB a b by unfold ovB; exact (decide_eq_false fun h => h1 h.1).symm)
    clear h1
    go_enter Try.func66, Try.ntmps66
    go_wp2
    go_ret
    exact ⟨ret_bool F.out, BB.out⟩
end Go.Proofs.Ytjodhfehfpmfaaa.Iv
