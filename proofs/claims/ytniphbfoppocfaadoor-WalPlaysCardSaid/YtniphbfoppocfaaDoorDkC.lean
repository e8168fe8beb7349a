/- The walks of the document's disk: Resize; voklaw14.want. -/
import Derived.Test.YtniphbfoppocfaaDoorDkB
set_option linter.unusedVariables false
namespace Go.Proofs.YtniphbfoppocfaaDoor.Dk
open Go.RowKit Fr

def resB (n : Int) : Bool := decide (0 ≤ n ∧ n ≤ 1073741824)
def resR (R n : Int) : Int := if 0 ≤ n ∧ n ≤ 1073741824 then n else R
set_option maxRecDepth 100000 in
set_option maxHeartbeats 4000000 in
theorem rres_is (w : World) (p : Nat) (R Y : Int) (l : List UInt8) (v : Value) (n : Int) (h : DkV 32 w p R Y l v) (l1 : -9223372036854775808 ≤ n) (u1 : n ≤ 9223372036854775807) :
    Calls Tryd.prog 26 #[.pointer (some ⟨p, 0, none⟩), .int .i64 n] w (DkT 32 w p v (resR R n) Y l (.bool (resB n))) := by
  have HD := Lib.hid h
  have c0 := h.c0
  have f0 := h.fz 0
  clear h
  by_cases hn : 0 ≤ n ∧ n ≤ 1073741824
  · have e1 : resB n = true := by unfold resB; exact decide_eq_true hn
    have e2 : resR R n = n := by unfold resR; rw [if_pos hn]
    rw [e1, e2]
    clear e1 e2
    have q0 : ¬ n < 0 := by omega
    have q1 : ¬ 1073741824 < n := by omega
    have F2 := Lib.hid (show ∃ v', DkV 32 (w.setCell ⟨p, 0, none⟩ (.int .i64 n)) p n Y l v' ∧ Kp (Ft p v) w (w.setCell ⟨p, 0, none⟩ (.int .i64 n)) ∧ New w v v' from ⟨v, HD.out.set0 n, Kp.setCell w ⟨p, 0, none⟩ (.inl rfl) _, .inl rfl⟩)
    go_enter Tryd.func26, Tryd.ntmps26
    go_wp2
    go_ret
    exact ⟨rfl, F2.out⟩
  · have e1 : resB n = false := by unfold resB; exact decide_eq_false hn
    have e2 : resR R n = R := by unfold resR; rw [if_neg hn]
    rw [e1, e2]
    clear e1 e2
    have G := Lib.hid (same_T HD.out (Below.refl _ _) (.bool false))
    by_cases h0 : n < 0
    · go_enter Tryd.func26, Tryd.ntmps26
      go_wp2
      go_ret
      exact G.out
    · have q1 : 1073741824 < n := by omega
      go_enter Tryd.func26, Tryd.ntmps26
      go_wp2
      go_ret
      exact G.out
/-- the disk in plain words: an operation: whether it did, room, synced, bytes -/
def doB (R : Int) (l b : List UInt8) (k n : Int) : Bool :=
  if k = 0 then appE R l b == 0 else if k = 2 then swE R b == 0 else if k = 3 then cutB l n else if k = 5 then resB n else true
def doR (R : Int) (k n : Int) : Int := if k = 5 then resR R n else R
def doY (R Y : Int) (l b : List UInt8) (k n : Int) : Int :=
  if k = 1 then l.length else if k = 2 then swY R Y b else if k = 3 then cutY Y l n else if k = 4 then crN Y l n else Y
def doL (R Y : Int) (l b : List UInt8) (k n : Int) : List UInt8 :=
  if k = 0 then appL R l b else if k = 2 then swL R l b else if k = 3 then cutL l n else if k = 4 then l.take (crN Y l n).toNat else l
end Go.Proofs.YtniphbfoppocfaaDoor.Dk
