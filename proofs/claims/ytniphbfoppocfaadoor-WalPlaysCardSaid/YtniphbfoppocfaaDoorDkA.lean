/- The walks of the document's disk (vokref10.Disk), and of bytes: CopyBytes, Bytes, Clone. -/
import Derived.Test.YtniphbfoppocfaaDoorDkMem
set_option linter.unusedVariables false
namespace Go.Proofs.YtniphbfoppocfaaDoor.Dk
open Go.RowKit Fr

/-- where the disk's bytes lie now: where they lay, or in new memory -/
def New (w : World) (v v' : Value) : Prop := v'.ownBlock = v.ownBlock ∨ ∀ k, v'.ownBlock = some k → w.heap.size ≤ k
/-- what an operation leaves -/
def DkT (T : TypeId) (w : World) (p : Nat) (v : Value) (R Y : Int) (l : List UInt8) (ans : Value) (e : Ending) (w' : World) : Prop :=
  e = .returned ans ∧ ∃ v', DkV T w' p R Y l v' ∧ Kp (Ft p v) w w' ∧ New w v v'
theorem same_T {T : TypeId} {w w' : World} {p : Nat} {v : Value} {R Y : Int} {l : List UInt8} (h : DkV T w p R Y l v) (b : Below w.heap.size w w') (ans : Value) : DkT T w p v R Y l ans (.returned ans) w' :=
  ⟨rfl, v, h.below b, Kp.of b, .inl rfl⟩
def appE (R : Int) (l b : List UInt8) : Nat := if (l.length : Int) + b.length ≤ R then 0 else 9
def appL (R : Int) (l b : List UInt8) : List UInt8 := if (l.length : Int) + b.length ≤ R then l ++ b else l
set_option maxRecDepth 100000 in
theorem copy_is (w : World) (A : Option Addr) (n c : Nat) (l : List UInt8) (h : BsAt w A n l) (hA : A = none → c = 0) (hn : n ≤ 1000000) :
    Calls Tryd.prog 35 #[.slice A n c] w fun e w' => ∃ v, e = .returned v ∧ OwnB w.heap.size w' v l ∧ Below w.heap.size w w' := by
  have o0 := lit_own (B := w.heap.size) w [] #[] (Nat.le_refl _) rfl (by decide)
  have b0 := below_alloc w (.cells #[] 5)
  have HO := Lib.hid o0
  have H := Lib.hid (h.below b0)
  have BB := Lib.hid b0
  have HA := Lib.hid hA
  clear o0 b0 h hA
  go_enter Tryd.func35, Tryd.ntmps35
  go_wp2_with (at_builtin; refine append_bs rfl _ _ rfl _ [] rfl HO.out (by simp) _ _ _ _ rfl H.out HA.out (by simpa using hn) ?_)
  intro v1 w1 o1 b1
  go_wp2
  go_ret
  exact ⟨v1, rfl, by simpa using o1, BB.out.trans (grown_below HO.out b1 (by simp))⟩
theorem own_low {B C : Nat} {w : World} {v : Value} {l : List UInt8} (h : OwnB B w v l) (hb : C ≤ B) : OwnB C w v l := row_low h hb
/-- .. whose length has a name -/
theorem own_atN {B : Nat} {w : World} {v : Value} {l : List UInt8} (h : OwnB B w v l) {n : Nat} (e : l.length = n) : ∃ A c, v = .slice A n c ∧ BsAt w A n l ∧ n ≤ c ∧ (A = none → c = 0) := by
  subst e; exact h.at_
/-- one operation behind another -/
theorem DkT.next {T : TypeId} {w w1 w2 : World} {p : Nat} {v v1 : Value} {R R1 Y Y1 : Int} {l l1 : List UInt8} {ans : Value} {e : Ending} (h : DkV T w1 p R1 Y1 l1 v1) (k : Kp (Ft p v) w w1) (n : New w v v1) (t : DkT T w1 p v1 R Y l ans e w2) : DkT T w p v R Y l ans e w2 := by
  obtain ⟨he, v2, d, k2, n2⟩ := t
  refine ⟨he, v2, d, ⟨k2.os.trans k.os, k2.tape.trans k.tape, k2.output.trans k.output, Nat.le_trans k.size k2.size, fun i hi hf => (k2.block i (Nat.lt_of_lt_of_le hi k.size) fun q => ?_).trans (k.block i hi hf)⟩, ?_⟩
  · rcases q with q | q
    · exact hf (.inl q)
    · rcases n with n | n
      · exact hf (.inr (n ▸ q))
      · exact absurd (n i q) (by omega)
  · rcases n2 with n2 | n2
    · rcases n with n | n
      · exact .inl (n2.trans n)
      · exact .inr fun i hi => n i (n2 ▸ hi)
    · exact .inr fun i hi => Nat.le_trans k.size (n2 i hi)
/-- the disk's bytes are put anew -/
theorem put_new {w w1 : World} {p : Nat} {v u : Value} {R Y : Int} {l m : List UInt8} (h : DkV 32 w p R Y l v) (b : Below w.heap.size w w1) (o : OwnB w.heap.size w1 u m) :
    (w1.cell? ⟨p, 2, none⟩ = some v ∧ w1.frozen? ⟨p, 2, none⟩ = false) ∧ Hid (DkV 32 (w1.setCell ⟨p, 2, none⟩ u) p R Y m u ∧ Kp (Ft p v) w (w1.setCell ⟨p, 2, none⟩ u) ∧ New w v u) := by
  have h1 := h.below b
  refine ⟨⟨h1.c2, h1.fz 2⟩, Lib.hid ⟨DkV.set2 h1.blk (own_low o (Nat.zero_le _)), (Kp.of b).trans (Kp.setCell w1 ⟨p, 2, none⟩ (.inl rfl) u), .inr fun k hk => (World.ownsRow.lt o k hk).1⟩⟩
set_option maxRecDepth 100000 in
set_option maxHeartbeats 4000000 in
theorem rapp_is (w : World) (p : Nat) (R Y : Int) (l : List UInt8) (v : Value) (A : Option Addr) (n c : Nat) (b : List UInt8) (h : DkV 32 w p R Y l v) (hb : BsAt w A n b) (hA : A = none → c = 0) (hl : l.length ≤ 100000) (hn : n ≤ 100000) (hR0 : 0 ≤ R) (hR : R ≤ 2000000000) :
    Calls Tryd.prog 12 #[.pointer (some ⟨p, 0, none⟩), .slice A n c] w (DkT 32 w p v R Y (appL R l b) (.int .i64 (appE R l b : Nat))) := by
  obtain rfl : n = b.length := hb.1
  obtain ⟨n, hN⟩ : ∃ n, b.length = n := ⟨_, rfl⟩
  rw [hN] at hb hn ⊢
  obtain ⟨L, hL⟩ : ∃ L, l.length = L := ⟨_, rfl⟩
  rw [hL] at hl
  have HD := Lib.hid h
  have HBB := Lib.hid hb
  have HA := Lib.hid hA
  obtain ⟨V, k, rfl, av, kv, zv⟩ := h.own.at_
  rw [hL] at av kv h HD ⊢
  have AV := Lib.hid av
  have c0 := h.c0
  have c2 := h.c2
  have hp := h.lt
  clear h hb hA av
  have W1 : IntKind.i64.wrap (R - (L : Int)) = R - L := IntWalk.i64_in _ (by omega)
  by_cases h1 : (R : Int) < L
  · have G := Lib.hid (fun b1 => same_T (w' := w.drewN b1) HD.out (below_drewN _ _ _) (.int .i64 9))
    have e1 : appE R l b = 9 := by unfold appE; rw [if_neg (by omega)]
    have e2 : appL R l b = l := by unfold appL; rw [if_neg (by omega)]
    rw [e1, e2]
    clear e1 e2
    go_enter Tryd.func12, Tryd.ntmps12
    go_wp2
    go_quiet (fail)
    go_wp2
    go_ret
    exact G.out _
  · by_cases h2 : (R : Int) - L < n
    · have G := Lib.hid (fun b1 => same_T (w' := w.drewN b1) HD.out (below_drewN _ _ _) (.int .i64 9))
      have e1 : appE R l b = 9 := by unfold appE; rw [if_neg (by omega)]
      have e2 : appL R l b = l := by unfold appL; rw [if_neg (by omega)]
      rw [e1, e2]
      clear e1 e2
      go_enter Tryd.func12, Tryd.ntmps12
      go_wp2
      go_quiet (fail)
      go_wp2
      go_ret
      exact G.out _
    · have e1 : appE R l b = 0 := by unfold appE; rw [if_pos (by omega)]
      have e2 : appL R l b = l ++ b := by unfold appL; rw [if_pos (by omega)]
      rw [e1, e2]
      clear e1 e2
      have C1 := fun q => copy_is (w.drewN q) V L k l (AV.out.below (below_drewN _ _ _)) zv (by omega)
      go_enter Tryd.func12, Tryd.ntmps12
      go_wp2
      go_quiet (fail)
      go_wp2_with fail
      refine (C1 nq).mono ?_
      rintro e w1 ⟨v1, rfl, o1, b1⟩
      clear C1
      have B1 := Lib.hid ((below_drewN w.heap.size w nq).trans b1)
      have O1 := Lib.hid o1
      have HB1 := Lib.hid (HBB.out.below B1.out)
      clear o1 b1
      go_wp2_with (at_builtin; refine append_bs rfl _ _ rfl _ l rfl O1.out B1.out.size _ _ _ _ rfl HB1.out HA.out (by omega) ?_)
      intro v2 w2 o2 g2
      have b2 := B1.out.trans (grown_below O1.out g2 B1.out.size)
      obtain ⟨m2, hm2⟩ : ∃ m, (l ++ b).length = m := ⟨_, rfl⟩
      obtain ⟨A2, k2, rfl, -, -, -⟩ := own_atN o2 hm2
      obtain ⟨⟨z1, z2⟩, FIN⟩ := put_new HD.out b2 o2
      clear o2 g2 b2
      go_wp2
      go_ret
      exact ⟨rfl, _, FIN.out⟩
set_option maxRecDepth 100000 in
theorem rsync_is (w : World) (p : Nat) (R Y : Int) (l : List UInt8) (v : Value) (h : DkV 32 w p R Y l v) (hl : l.length ≤ 100000) :
    Calls Tryd.prog 18 #[.pointer (some ⟨p, 0, none⟩)] w (DkT 32 w p v R l.length l (.tuple #[])) := by
  obtain ⟨L, hL⟩ : ∃ L, l.length = L := ⟨_, rfl⟩
  rw [hL] at hl ⊢
  have HD := Lib.hid h
  obtain ⟨V, k, rfl, av, kv, zv⟩ := h.own.at_
  rw [hL] at av kv h HD ⊢
  have c1 := h.c1
  have c2 := h.c2
  have f1 := h.fz 1
  have G := Lib.hid (show ∃ v', DkV 32 (w.setCell ⟨p, 1, none⟩ (.int .i64 (L : Int))) p R L l v' ∧ Kp (Ft p (.slice V L k)) w (w.setCell ⟨p, 1, none⟩ (.int .i64 (L : Int))) ∧ New w (.slice V L k) v' from ⟨_, h.set1 L, Kp.setCell w ⟨p, 1, none⟩ (.inl rfl) _, .inl rfl⟩)
  clear h av
  go_enter Tryd.func18, Tryd.ntmps18
  go_wp2
  exact bodyPost_ret (v := .tuple #[]) (by simp [results, Tryd.results18, go_sem]) rfl ⟨rfl, G.out⟩
def swE (R : Int) (b : List UInt8) : Nat := if (b.length : Int) ≤ R then 0 else 9
def swL (R : Int) (l b : List UInt8) : List UInt8 := if (b.length : Int) ≤ R then b else l
def swY (R Y : Int) (b : List UInt8) : Int := if (b.length : Int) ≤ R then b.length else Y
set_option maxRecDepth 100000 in
set_option maxHeartbeats 4000000 in
theorem rswap_is (w : World) (p : Nat) (R Y : Int) (l : List UInt8) (v : Value) (A : Option Addr) (n c : Nat) (b : List UInt8) (h : DkV 32 w p R Y l v) (hb : BsAt w A n b) (hA : A = none → c = 0) (hn : n ≤ 100000) :
    Calls Tryd.prog 46 #[.pointer (some ⟨p, 0, none⟩), .slice A n c] w (DkT 32 w p v R (swY R Y b) (swL R l b) (.int .i64 (swE R b : Nat))) := by
  obtain rfl : n = b.length := hb.1
  obtain ⟨n, hN⟩ : ∃ n, b.length = n := ⟨_, rfl⟩
  rw [hN] at hb hn ⊢
  have HD := Lib.hid h
  have HBB := Lib.hid hb
  have HA := Lib.hid hA
  obtain ⟨L, hL⟩ : ∃ L, l.length = L := ⟨_, rfl⟩
  obtain ⟨V, k, rfl, -, -, -⟩ := own_atN h.own hL
  have c0 := h.c0
  clear h hb hA
  by_cases h1 : (R : Int) < n
  · have G := Lib.hid (same_T HD.out (Below.refl _ _) (.int .i64 9))
    have e1 : swE R b = 9 := by unfold swE; rw [if_neg (by omega)]
    have e2 : swL R l b = l := by unfold swL; rw [if_neg (by omega)]
    have e3 : swY R Y b = Y := by unfold swY; rw [if_neg (by omega)]
    rw [e1, e2, e3]
    clear e1 e2 e3
    go_enter Tryd.func46, Tryd.ntmps46
    go_wp2
    go_ret
    exact G.out
  · have e1 : swE R b = 0 := by unfold swE; rw [if_pos (by omega)]
    have e2 : swL R l b = b := by unfold swL; rw [if_pos (by omega)]
    have e3 : swY R Y b = (b.length : Nat) := by unfold swY; rw [if_pos (by omega)]
    rw [e1, e2, e3]
    clear e1 e2 e3
    have C1 := copy_is w A n c b HBB.out HA.out (by omega)
    go_enter Tryd.func46, Tryd.ntmps46
    go_wp2_with fail
    refine C1.mono ?_
    rintro e w1 ⟨v1, rfl, o1, b1⟩
    clear C1
    obtain ⟨A2, k2, rfl, -, -, -⟩ := own_atN o1 hN
    obtain ⟨⟨z1, z2⟩, FIN⟩ := put_new HD.out b1 o1
    clear o1 b1
    go_wp2_with fail
    generalize hw2 : w1.setCell ⟨p, 2, none⟩ (.slice A2 n k2) = w2 at FIN ⊢
    obtain ⟨d2, k3, n3⟩ := FIN.out
    have D2 := Lib.hid d2
    have K3 := Lib.hid k3
    have N3 := Lib.hid n3
    have C2 := rsync_is w2 p R Y b (.slice A2 n k2) d2 (by omega)
    clear d2 k3 n3 FIN hw2 z1 z2
    refine C2.mono ?_
    intro e w3 t
    have t2 := DkT.next D2.out K3.out N3.out t
    obtain ⟨rfl, F3⟩ := t2
    have F4 := Lib.hid F3
    clear C2 F3 t
    go_wp2
    go_ret
    exact ⟨rfl, F4.out⟩
end Go.Proofs.YtniphbfoppocfaaDoor.Dk
