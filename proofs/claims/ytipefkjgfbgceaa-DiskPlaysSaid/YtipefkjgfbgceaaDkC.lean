/- The walks of the document's disk: Resize; voklaw14.want. -/
import Derived.Test.YtipefkjgfbgceaaDkB
set_option linter.unusedVariables false
namespace Go.Proofs.Ytipefkjgfbgceaa.Dk
open Go.RowKit Fr

def resB (n : Int) : Bool := decide (0 ≤ n ∧ n ≤ 1073741824)
def resR (R n : Int) : Int := if 0 ≤ n ∧ n ≤ 1073741824 then n else R
set_option maxRecDepth 100000 in
set_option maxHeartbeats 4000000 in
theorem rres_is (w : World) (p : Nat) (R Y : Int) (l : List UInt8) (v : Value) (n : Int) (h : DkV 32 w p R Y l v) (l1 : -9223372036854775808 ≤ n) (u1 : n ≤ 9223372036854775807) :
    Calls Try.prog 33 #[.pointer (some ⟨p, 0, none⟩), .int .i64 n] w (DkT 32 w p v (resR R n) Y l (.bool (resB n))) := by
  have HD := Lib.hid h
  have c0 := h.c0
  have f0 := h.fz 0
  clear h
  by_cases hn : 0 ≤ n ∧ n ≤ 1073741824
  · have e1 : resB n = true := by unfold resB; exact decide_eq_true hn
    have e2 : resR R n = n := by unfold resR; rw [if_pos hn]
    rw [e1, e2]
    clear e1 e2
    have q0 : ¬ n < 0 := by omega
    have q1 : ¬ 1073741824 < n := by omega
    have F2 := Lib.hid (show ∃ v', DkV 32 (w.setCell ⟨p, 0, none⟩ (.int .i64 n)) p n Y l v' ∧ Kp (Ft p v) w (w.setCell ⟨p, 0, none⟩ (.int .i64 n)) ∧ New w v v' from ⟨v, HD.out.set0 n, Kp.setCell w ⟨p, 0, none⟩ (.inl rfl) _, .inl rfl⟩)
    go_enter Try.func33, Try.ntmps33
    go_wp2
    go_ret
    exact ⟨rfl, F2.out⟩
  · have e1 : resB n = false := by unfold resB; exact decide_eq_false hn
    have e2 : resR R n = R := by unfold resR; rw [if_neg hn]
    rw [e1, e2]
    clear e1 e2
    have G := Lib.hid (same_T HD.out (Below.refl _ _) (.bool false))
    by_cases h0 : n < 0
    · go_enter Try.func33, Try.ntmps33
      go_wp2
      go_ret
      exact G.out
    · have q1 : 1073741824 < n := by omega
      go_enter Try.func33, Try.ntmps33
      go_wp2
      go_ret
      exact G.out
/-- the disk in plain words: an operation: whether it did, room, synced, bytes -/
def doB (R : Int) (l b : List UInt8) (k n : Int) : Bool :=
  if k = 0 then appE R l b == 0 else if k = 2 then swE R b == 0 else if k = 3 then cutB l n else if k = 5 then resB n else true
def doR (R : Int) (k n : Int) : Int := if k = 5 then resR R n else R
def doY (R Y : Int) (l b : List UInt8) (k n : Int) : Int :=
  if k = 1 then l.length else if k = 2 then swY R Y b else if k = 3 then cutY Y l n else if k = 4 then crN Y l n else Y
def doL (R Y : Int) (l b : List UInt8) (k n : Int) : List UInt8 :=
  if k = 0 then appL R l b else if k = 2 then swL R l b else if k = 3 then cutL l n else if k = 4 then l.take (crN Y l n).toNat else l
set_option maxRecDepth 100000 in
set_option maxHeartbeats 4000000 in
theorem want_is (w : World) (p : Nat) (R Y : Int) (l : List UInt8) (v : Value) (k n : Int) (A : Option Addr) (m c : Nat) (b : List UInt8) (h : DkV 32 w p R Y l v) (hb : BsAt w A m b) (hA : A = none → c = 0) (hl : l.length ≤ 100000) (hm : m ≤ 100000) (hR0 : 0 ≤ R) (hR : R ≤ 2000000000) (hY0 : 0 ≤ Y) (hY : Y ≤ l.length) (l1 : -9223372036854775808 ≤ n) (u1 : n ≤ 9223372036854775807) :
    Calls Try.prog 17 #[.pointer (some ⟨p, 0, none⟩), .agg #[.int .i64 k, .int .i64 n, .slice A m c]] w (DkT 32 w p v (doR R k n) (doY R Y l b k n) (doL R Y l b k n) (.bool (doB R l b k n))) := by
  have al := below_alloc w (.cells #[.int .i64 k, .int .i64 n, .slice A m c] 34)
  have HD := Lib.hid (h.below al)
  have HB := Lib.hid (hb.below al)
  have HA := Lib.hid hA
  have KA := Lib.hid (Kp.of (F := Ft p v) al)
  have NA := Lib.hid (show New w v v from .inl rfl)
  clear hb hA h al
  by_cases h0 : k = 0
  · subst h0
    rw [show doB R l b 0 n = (appE R l b == 0) from rfl, show doR R 0 n = R from rfl, show doY R Y l b 0 n = Y from rfl, show doL R Y l b 0 n = appL R l b from rfl]
    have C := Lib.hid (rapp_is (w.alloc (.cells #[.int .i64 0, .int .i64 n, .slice A m c] 34)) p R Y l v A m c b HD.out HB.out HA.out hl hm hR0 hR)
    go_enter Try.func17, Try.ntmps17
    go_wp2_with fail
    refine C.out.mono ?_
    intro e w1 t
    obtain ⟨rfl, F⟩ := DkT.next HD.out KA.out NA.out t
    have F2 := Lib.hid F
    clear F t
    obtain ⟨q, hq⟩ : ∃ q, appE R l b = q := ⟨_, rfl⟩
    rw [hq]
    have eq0 : ((q : Int) == 0) = (q == 0) := by
      by_cases h : q = 0
      · subst h; rfl
      · rw [beq_eq_false_iff_ne.2 h, beq_eq_false_iff_ne]; omega
    have HQ := Lib.hid hq
    clear hq
    go_wp2
    go_ret
    exact ⟨ret_bool (by rw [HQ.out]), F2.out⟩
  by_cases h1 : k = 1
  · subst h1
    rw [show doB R l b 1 n = true from rfl, show doR R 1 n = R from rfl, show doY R Y l b 1 n = (l.length : Nat) from rfl, show doL R Y l b 1 n = l from rfl]
    have C := Lib.hid (rsync_is (w.alloc (.cells #[.int .i64 1, .int .i64 n, .slice A m c] 34)) p R Y l v HD.out hl)
    go_enter Try.func17, Try.ntmps17
    go_wp2_with fail
    refine C.out.mono ?_
    intro e w1 t
    obtain ⟨rfl, F⟩ := DkT.next HD.out KA.out NA.out t
    have F2 := Lib.hid F
    clear F t
    go_wp2
    go_ret
    exact ⟨rfl, F2.out⟩
  by_cases h2 : k = 2
  · subst h2
    rw [show doB R l b 2 n = (swE R b == 0) from rfl, show doR R 2 n = R from rfl, show doY R Y l b 2 n = swY R Y b from rfl, show doL R Y l b 2 n = swL R l b from rfl]
    have C := Lib.hid (rswap_is (w.alloc (.cells #[.int .i64 2, .int .i64 n, .slice A m c] 34)) p R Y l v A m c b HD.out HB.out HA.out hm)
    go_enter Try.func17, Try.ntmps17
    go_wp2_with fail
    refine C.out.mono ?_
    intro e w1 t
    obtain ⟨rfl, F⟩ := DkT.next HD.out KA.out NA.out t
    have F2 := Lib.hid F
    clear F t
    obtain ⟨q, hq⟩ : ∃ q, swE R b = q := ⟨_, rfl⟩
    rw [hq]
    have eq0 : ((q : Int) == 0) = (q == 0) := by
      by_cases h : q = 0
      · subst h; rfl
      · rw [beq_eq_false_iff_ne.2 h, beq_eq_false_iff_ne]; omega
    have HQ := Lib.hid hq
    clear hq
    go_wp2
    go_ret
    exact ⟨ret_bool (by rw [HQ.out]), F2.out⟩
  by_cases h3 : k = 3
  · subst h3
    rw [show doB R l b 3 n = cutB l n from rfl, show doR R 3 n = R from rfl, show doY R Y l b 3 n = cutY Y l n from rfl, show doL R Y l b 3 n = cutL l n from rfl]
    have C := Lib.hid (rcut_is (w.alloc (.cells #[.int .i64 3, .int .i64 n, .slice A m c] 34)) p R Y l v n HD.out hl l1 u1)
    go_enter Try.func17, Try.ntmps17
    go_wp2_with fail
    refine C.out.mono ?_
    intro e w1 t
    obtain ⟨rfl, F⟩ := DkT.next HD.out KA.out NA.out t
    have F2 := Lib.hid F
    clear F t
    go_wp2
    go_ret
    exact ⟨rfl, F2.out⟩
  by_cases h4 : k = 4
  · subst h4
    rw [show doB R l b 4 n = true from rfl, show doR R 4 n = R from rfl, show doY R Y l b 4 n = crN Y l n from rfl, show doL R Y l b 4 n = l.take (crN Y l n).toNat from rfl]
    have C := Lib.hid (rcrash_is (w.alloc (.cells #[.int .i64 4, .int .i64 n, .slice A m c] 34)) p R Y l v n HD.out hl hY0 hY l1 u1)
    go_enter Try.func17, Try.ntmps17
    go_wp2_with fail
    refine C.out.mono ?_
    intro e w1 t
    obtain ⟨rfl, F⟩ := DkT.next HD.out KA.out NA.out t
    have F2 := Lib.hid F
    clear F t
    go_wp2
    go_ret
    exact ⟨rfl, F2.out⟩
  by_cases h5 : k = 5
  · subst h5
    rw [show doB R l b 5 n = resB n from rfl, show doR R 5 n = resR R n from rfl, show doY R Y l b 5 n = Y from rfl, show doL R Y l b 5 n = l from rfl]
    have C := Lib.hid (rres_is (w.alloc (.cells #[.int .i64 5, .int .i64 n, .slice A m c] 34)) p R Y l v n HD.out l1 u1)
    go_enter Try.func17, Try.ntmps17
    go_wp2_with fail
    refine C.out.mono ?_
    intro e w1 t
    obtain ⟨rfl, F⟩ := DkT.next HD.out KA.out NA.out t
    have F2 := Lib.hid F
    clear F t
    go_wp2
    go_ret
    exact ⟨rfl, F2.out⟩
  have e1 : doB R l b k n = true := by unfold doB; rw [if_neg h0, if_neg h2, if_neg h3, if_neg h5]
  have e2 : doR R k n = R := by unfold doR; rw [if_neg h5]
  have e3 : doY R Y l b k n = Y := by unfold doY; rw [if_neg h1, if_neg h2, if_neg h3, if_neg h4]
  have e4 : doL R Y l b k n = l := by unfold doL; rw [if_neg h0, if_neg h2, if_neg h3, if_neg h4]
  rw [e1, e2, e3, e4]
  clear e1 e2 e3 e4
  have s0 : (k == 0) = false := by rw [beq_eq_false_iff_ne]; exact h0
  have s1 : (k == 1) = false := by rw [beq_eq_false_iff_ne]; exact h1
  have s2 : (k == 2) = false := by rw [beq_eq_false_iff_ne]; exact h2
  have s3 : (k == 3) = false := by rw [beq_eq_false_iff_ne]; exact h3
  have s4 : (k == 4) = false := by rw [beq_eq_false_iff_ne]; exact h4
  have s5 : (k == 5) = false := by rw [beq_eq_false_iff_ne]; exact h5
  have F2 := Lib.hid (show ∃ v', DkV 32 (w.alloc (.cells #[.int .i64 k, .int .i64 n, .slice A m c] 34)) p R Y l v' ∧ Kp (Ft p v) w (w.alloc (.cells #[.int .i64 k, .int .i64 n, .slice A m c] 34)) ∧ New w v v' from ⟨v, HD.out, KA.out, NA.out⟩)
  go_enter Try.func17, Try.ntmps17
  go_wp2
  go_ret
  exact ⟨rfl, F2.out⟩
end Go.Proofs.Ytipefkjgfbgceaa.Dk
