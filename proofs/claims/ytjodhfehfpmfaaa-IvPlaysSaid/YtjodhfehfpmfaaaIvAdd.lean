/- The walk of (*Set).Add. -/
import Derived.Test.YtjodhfehfpmfaaaIvAddM
import Derived.Test.YtjodhfehfpmfaaaIvOps
import Derived.Test.YtjodhfehfpmfaaaIvPut
set_option linter.unusedVariables false
namespace Go.Proofs.Ytjodhfehfpmfaaa.Iv
open Go.RowKit

/-- what Add leaves -/
def AddIs (F : Nat → Prop) (w : World) (p : Nat) (sp : List (Int × Int)) (owner : Int) (all : List Tg) (ow : List Int) (e : Ending) (w' : World) : Prop :=
  e = .returned (.bool (addB sp owner all ow)) ∧ SetIn F w' p (addR sp owner all ow).1 (addR sp owner all ow).2 ∧ Kp F w w'
theorem RowF.stay {F G : Nat → Prop} {w w' : World} {e : TypeId} {size : Nat} {A : Option Addr} {n c : Nat} {xs : List Value} (h : RowF F w e size A n c xs) (hk : Kp G w w') (hg : ∀ g, A = some ⟨g, 0, none⟩ → ¬ G g) : RowF F w' e size A n c xs := by
  refine ⟨h.1, h.2.1, ?_⟩
  rcases h.2.2 with q | ⟨g, e, f, r⟩
  · exact .inl q
  · exact .inr ⟨g, e, f, r.kp hk (hg g e)⟩
theorem RowF.has {F : Nat → Prop} {w : World} {e : TypeId} {size : Nat} {A : Option Addr} {n c : Nat} {xs : List Value} (h : RowF F w e size A n c xs) {g : Nat} (hg : A = some ⟨g, 0, none⟩) : F g ∧ RowIs w g e size c xs := by
  rcases h.2.2 with ⟨q, -⟩ | ⟨g', q, f, r⟩
  · rw [q] at hg; cases hg
  · rw [q] at hg; injection hg with hg; injection hg with hg; subst hg; exact ⟨f, r⟩
theorem RowF.form {F : Nat → Prop} {w : World} {e : TypeId} {size : Nat} {A : Option Addr} {n c : Nat} {xs : List Value} (h : RowF F w e size A n c xs) {a : Addr} (ha : A = some a) : a = ⟨a.block, 0, none⟩ := by
  rcases h.2.2 with ⟨q, -⟩ | ⟨g', q, f, r⟩
  · rw [q] at ha; cases ha
  · rw [q] at ha; injection ha with ha; rw [← ha]
set_option maxRecDepth 100000 in
set_option maxHeartbeats 4000000 in
theorem add_is {F : Nat → Prop} (w : World) (p : Nat) (all : List Tg) (ow : List Int) (B : Option Addr) (n c : Nat) (l : List (Int × Int)) (owner : Int) (S : SetIn F w p all ow) (hF : ∀ k, w.heap.size ≤ k → F k) (hB : SpAt w B n l) (hz : B = none → n = 0) (ha : all.length + n ≤ 900000) (ho : ow.length ≤ 900000) :
    Calls Try.prog 18 #[.pointer (some ⟨p, 0, none⟩), .slice B n c, .int .i64 owner] w (AddIs F w p (normL l) owner all ow) := by
  obtain ⟨A, cA, O, d, H⟩ := S
  have c1 := H.c1
  have ok := H.ok
  have hlen := norm_len l
  have pl := H.box.lt
  have LN := Lib.hid (show (normL l).length ≤ n from by have := hB.1; omega)
  have NS := Lib.hid (norm_is l).norms
  have FND := Lib.hid (find_is w O d ow owner H.nums ok.rise (by omega))
  have NORM := Lib.hid (fun (w1 : World) (hb : Below w.heap.size w w1) => norm_any w1 B n c l (hB.below hb) hz (by omega))
  have SS := Lib.hid H
  have OK := Lib.hid ok
  have HF := Lib.hid hF
  clear H hB hz hlen ok hF
  go_enter Try.func18, Try.ntmps18
  go_wp2_with fail
  refine FND.out.mono ?_
  rintro e w1 ⟨rfl, b1⟩
  have B1 := Lib.hid b1
  have KL := Lib.hid (show ow.countP (· < owner) ≤ ow.length from List.countP_le_length)
  have HK := Lib.hid (show addO (normL l) owner ow = if normL l = [] then ow else insI ow (ow.countP (· < owner)) owner from rfl)
  generalize ow.countP (· < owner) = k at *
  clear b1 FND
  have fin : ∀ (e : Ending) (w2 : World), addB (normL l) owner all ow = false → e = .returned (.bool false) → Below w.heap.size w w2 → AddIs F w p (normL l) owner all ow e w2 := by
    intro e w2 h he hb
    refine ⟨by rw [he, h], ?_, Kp.of hb⟩
    rw [addR_no h]
    exact (SS.out.below hb).in_
  have FIN := Lib.hid fin
  clear fin
  cases hcon : ow.contains owner
  case true =>
    have hin : owner ∈ ow := List.contains_iff_mem.1 hcon
    have NO := Lib.hid (addB_low (sp := normL l) (all := all) (.inr hin))
    by_cases h1 : owner < 1
    · have s1 : decide (owner < 1) = true := decide_eq_true h1
      go_wp2_with fail
      go_ret
      exact FIN.out _ _ NO.out rfl B1.out
    · have s1 : decide (owner < 1) = false := decide_eq_false h1
      go_wp2_with fail
      go_ret
      exact FIN.out _ _ NO.out rfl B1.out
  case false =>
    have hin : owner ∉ ow := fun q => by rw [List.contains_iff_mem.2 q] at hcon; cases hcon
    by_cases h1 : owner < 1
    · have NO := Lib.hid (addB_low (sp := normL l) (all := all) (ow := ow) (owner := owner) (.inl (by omega)))
      have s1 : decide (owner < 1) = true := decide_eq_true h1
      go_wp2_with fail
      go_ret
      exact FIN.out _ _ NO.out rfl B1.out
    · have s1 : decide (owner < 1) = false := decide_eq_false h1
      have IN := Lib.hid hin
      clear hcon hin
      go_wp2_with fail
      refine (NORM.out w1 B1.out).mono ?_
      rintro e w2 ⟨A', c', rfl, hsp, hnew, hcap, b2⟩
      have sz1 := B1.out.size
      have B2 := Lib.hid (B1.out.trans (b2.mono B1.out.size))
      have SP := Lib.hid hsp
      have NEW := Lib.hid hnew
      clear hsp hnew b2 NORM
      generalize normL l = sp at *
      generalize hns : sp.length = ns at *
      have HNS := Lib.hid hns
      have ln := LN.out
      clear hns
      go_wp2_with fail
      refine (first_is w2 p all ow A' ns c' sp owner _ (SS.out.below B2.out).in_ SP.out (by omega) (by omega) rfl).mono ?_
      rintro e w3 ⟨rfl, b3⟩
      have B3 := Lib.hid (B2.out.trans (b3.mono B2.out.size))
      have SP3 := Lib.hid (SP.out.below b3)
      rw [first_clash OK.out NS.out]
      clear b3 SP B1 B2
      cases hcl : clashL owner sp all with
      | some t =>
        have NO := Lib.hid (addB_some OK.out IN.out hcl)
        clear hcl
        unfold tgV
        go_wp2_with fail
        go_ret
        exact FIN.out _ _ NO.out rfl (B3.out.alloc B3.out.size _)
      | none =>
        have YES := Lib.hid (addB_yes OK.out (by omega) IN.out hcl)
        have HCL := Lib.hid hcl
        clear hcl
        unfold tgV
        by_cases h0 : 0 < ns
        · have s2 : decide (0 < ns) = true := decide_eq_true h0
          have s3 : decide ((0 : Int) < ns) = true := decide_eq_true (by omega)
          have sz3 := B3.out.size
          have pl3 : p < w3.heap.size := by omega
          have ne1 : p ≠ w3.heap.size := by omega
          have q1 : w3.cell? ⟨p, 1, none⟩ = some (.slice O ow.length d) := (B3.out.cell (p := ⟨p, 1, none⟩) pl).trans c1
          go_wp2_with fail
          obtain ⟨w5, hw5⟩ : ∃ w5 : World, w5 = (w3.alloc (.cells #[.int .i64 0, .int .i64 0, .int .i64 0] 42)).alloc (.cells #[.int .i64 owner] 3) := ⟨_, rfl⟩
          have b5 : Below w3.heap.size w3 w5 := hw5 ▸ ((Below.refl _ _).alloc (Nat.le_refl _) _).alloc (by simp) _
          have HV : RowIs w5 (w3.heap.size + 1) 3 1 1 [.int .i64 owner] := by
            rw [hw5]
            have := one_row (w3.alloc (.cells #[.int .i64 0, .int .i64 0, .int .i64 0] 42)) 3 (.int .i64 owner)
            rwa [World.size_alloc] at this
          have S5 := SS.out.below (B3.out.trans (b5.mono B3.out.size))
          have B5 := Lib.hid (B3.out.trans (b5.mono B3.out.size))
          have nl : ∀ g, O = some ⟨g, 0, none⟩ → g < w.heap.size := fun g e => (SS.out.nums.has e).2.lt
          have al : ∀ g, A = some ⟨g, 0, none⟩ → g < w.heap.size := fun g e => (SS.out.tags.has e).2.lt
          have SP5 := Lib.hid (SP3.out.below b5)
          have S5H := Lib.hid S5
          have NL := Lib.hid nl
          have AL := Lib.hid al
          have sz5 := b5.size
          rw [← hw5]
          clear hw5 b5 q1
          refine (ins_is w5 O d ow k owner (w3.heap.size + 1) 1 S5.nums HV (fun g e => by have := nl g e; omega) KL.out ho).mono ?_
          clear S5 HV nl al
          rintro e w6 ⟨g, d', I⟩
          obtain rfl := I.end_
          have np : ∀ j, O = some ⟨j, 0, none⟩ → j ≠ p := fun j e => (S5H.out.nums.has e).2.ne S5H.out.box (by decide)
          have R6 := S5H.out.box.kp I.kp (fun e => np p e rfl)
          have T6 := S5H.out.tags.stay I.kp (fun j e q => (S5H.out.tags.has e).2.ne (S5H.out.nums.has q).2 (by decide) rfl)
          have gp : g ≠ p := I.row.ne R6 (by decide)
          have q1 : w6.cell? ⟨p, 1, none⟩ = some (.slice O ow.length d) := R6.cell rfl
          have q2 : w6.frozen? ⟨p, 1, none⟩ = false := R6.frozen 1
          obtain ⟨R7, K7⟩ := R6.setCell 1 (by simp) (.slice (some ⟨g, 0, none⟩) (ow.length + 1) d')
          have T7 := T6.stay K7 (fun j e q => (T6.has e).2.ne R6 (by decide) q)
          have I7 := I.row.kp K7 gp
          have W57 : Kp (fun j => O = some ⟨j, 0, none⟩ ∨ j = p) w5 (w6.setCell ⟨p, 1, none⟩ (.slice (some ⟨g, 0, none⟩) (ow.length + 1) d')) := (I.kp.mono fun _ q => .inl q).trans (K7.mono fun _ q => .inr q)
          obtain ⟨gs, rfl, hgs⟩ := NEW.out h0
          have SP7 := Lib.hid (SP5.out.kp W57 (fun _ a ea q => by
            injection ea with ea; subst ea
            rcases q with q | q
            · have := NL.out _ q; simp at this; omega
            · simp at q; omega))
          have IH := Lib.hid I
          have R7H := Lib.hid R7
          have T7H := Lib.hid T7
          have I7H := Lib.hid I7
          have WH := Lib.hid W57
          have NP := Lib.hid np
          clear I R6 T6 R7 K7 T7 I7 W57 np
          go_wp2_with fail
          generalize w6.setCell ⟨p, 1, none⟩ (.slice (some ⟨g, 0, none⟩) (ow.length + 1) d') = w7 at *
          refine (put_is (F := F) w7 p A cA (.slice (some ⟨g, 0, none⟩) (ow.length + 1) d') all ow sp owner gs 0 ns c' R7H.out T7H.out OK.out SP7.out NS.out (free_of OK.out (by rw [← clash_owner OK.out IN.out]; exact HCL.out)) h0 (by omega) (by omega) (fun a e q => by
            have := AL.out a.block (by rw [e, ← T7H.out.form e]); omega)).mono ?_
          rintro e w8 ⟨rfl, g2, c2, PUT⟩
          have PH := Lib.hid PUT
          clear PUT
          go_wp2_with fail
          go_ret
          have ab : ∀ j, A = some ⟨j, 0, none⟩ → g ≠ j := fun j e => (I7H.out.ne (T7H.out.has e).2 (by decide))
          have Kall : Kp F w w8 := (Kp.of B5.out).trans ((WH.out.mono fun j q => by
            rcases q with q | q
            · exact (SS.out.nums.has q).1
            · exact q ▸ SS.out.foot).trans (PH.out.kp.mono fun j q => by
            rcases q with q | q
            · exact q ▸ SS.out.foot
            · exact (SS.out.tags.has q).1))
          refine ⟨by rw [YES.out]; rfl, ?_, Kall⟩
          have se : sp ≠ [] := fun q => by rw [q] at HNS; have := HNS.out; simp at this; omega
          have oe : addO sp owner ow = insI ow k owner := by rw [HK.out, if_neg se]
          have OKN := addO_ok OK.out NS.out (by omega : (1 : Int) ≤ owner) IN.out HCL.out
          rw [addR_yes YES.out]
          dsimp only
          rw [oe] at OKN ⊢
          have il := insI_len ow k owner
          refine ⟨some ⟨g2, 0, none⟩, c2, some ⟨g, 0, none⟩, d', by rw [il]; exact PH.out.box, SS.out.foot, ⟨by rw [cells_len (k := 3) (fun _ => rfl)], PH.out.cap, .inr ⟨g2, rfl, ?_, PH.out.row⟩⟩, ⟨by rw [cells_len (k := 1) (fun _ => rfl)], by rw [il]; exact IH.out.cap, .inr ⟨g, rfl, ?_, I7H.out.kp PH.out.kp ?_⟩⟩, OKN⟩
          · rcases PH.out.whose with q | q
            · exact (SS.out.tags.has q).1
            · exact HF.out _ (by have := WH.out.size; omega)
          · rcases IH.out.whose with q | q
            · exact (SS.out.nums.has q).1
            · exact HF.out _ (by omega)
          · rintro (q | q)
            · exact gp q
            · exact ab g q rfl
        · have s2 : decide (0 < ns) = false := decide_eq_false h0
          have s3 : decide ((0 : Int) < ns) = false := decide_eq_false (by omega)
          have e0 : sp = [] := List.length_eq_zero_iff.1 (by have := HNS.out; omega)
          subst e0
          go_wp2_with fail
          go_ret
          refine ⟨by rw [YES.out]; rfl, ?_, Kp.of (B3.out.alloc B3.out.size _)⟩
          rw [addR_yes YES.out, add_nil OK.out]
          exact (SS.out.below (B3.out.alloc B3.out.size _)).in_
end Go.Proofs.Ytjodhfehfpmfaaa.Iv
