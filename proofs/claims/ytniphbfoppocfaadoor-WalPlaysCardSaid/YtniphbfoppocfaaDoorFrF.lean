/- Lists of slices of bytes of the call's own; Scan, the program's and the document's. -/
import Derived.Test.YtniphbfoppocfaaDoorFrE
set_option linter.unusedVariables false
namespace Go.Proofs.YtniphbfoppocfaaDoor.Fr
open Go.RowKit

theorem row_ne {B C : Nat} {w : World} {e f : TypeId} {i j : Nat} {v u : Value} {n m : Nat} {xs ys : List Value} (h : w.ownsRow B e i v n xs) (k : w.ownsRow C f j u m ys) (hef : e ≠ f) : v.ownBlock = none ∨ v.ownBlock ≠ u.ownBlock := by
  rcases h.2 with ⟨rfl, -⟩ | ⟨g, cap, cur, rfl, -, hg, -⟩
  · exact .inl rfl
  · rcases k.2 with ⟨rfl, -⟩ | ⟨g', cap', cur', rfl, -, hg', -⟩
    · exact .inr (fun q => by cases q)
    · refine .inr (fun q => ?_)
      simp only [Value.ownBlock, Option.some.injEq] at q
      subst q
      rw [hg] at hg'
      injection hg' with q
      injection q with q1 q2
      exact hef q2
theorem gt_app {α : Type} [Inhabited α] (l : List α) (x : α) (j : Nat) : gt (l ++ [x]) j = if j < l.length then gt l j else if j = l.length then x else default := by
  unfold gt
  split
  · rw [List.getElem?_append_left (by assumption)]
  · rename_i h
    rw [List.getElem?_append_right (by omega)]
    split
    · rename_i e; subst e; simp
    · rw [List.getElem?_eq_none (by simp; omega)]; rfl
theorem gt_lo {α : Type} [Inhabited α] {l : List α} {x : α} {j : Nat} (h : j < l.length) : gt (l ++ [x]) j = gt l j := by rw [gt_app, if_pos h]
theorem gt_hi {α : Type} [Inhabited α] (l : List α) (x : α) : gt (l ++ [x]) l.length = x := by rw [gt_app, if_neg (by omega), if_pos rfl]
theorem OwnL.nil (B : Nat) (w : World) : OwnL B w (.slice none 0 0) [] := ⟨World.ownsRow_nil _ _ _ _, fun j h => by simp at h, fun i j h => by simp at h⟩
theorem OwnL.on {B : Nat} {w w' : World} {v : Value} {S : List SlB} (h : OwnL B w v S) (hb : Below w.heap.size w w') : OwnL B w' v S := ⟨row_on h.row hb, fun j hj => (h.each j hj).on hb, h.ne⟩
theorem OwnL.low {B C : Nat} {w : World} {v : Value} {S : List SlB} (h : OwnL B w v S) (hb : C ≤ B) : OwnL C w v S := ⟨row_low h.row hb, fun j hj => (h.each j hj).low hb, h.ne⟩
theorem OwnL.blk {B : Nat} {w : World} {v : Value} {S : List SlB} (h : OwnL B w v S) {j : Nat} (hj : j < S.length) {k : Nat} (hk : (gt S j).val.ownBlock = some k) : k < w.heap.size := (World.ownsRow.lt (h.each j hj) k hk).2
theorem OwnB.grown {B : Nat} {w w' : World} {v : Value} {l : List UInt8} (h : OwnB B w v l) {r : Option Nat} (hg : w.grownBy w' r) (hne : v.ownBlock = none ∨ v.ownBlock ≠ r) : OwnB B w' v l := World.ownsRow.kept h hg hne
/-- append of one slice of the call's own -/
theorem append_sl {ops : Array Oper} {rest : List Oper} {o : Oper} {a : Act} {Q : Exit → Act → World → Prop} {B : Nat} {w : World} (hgd : o.guard = none) (s x : Operand)
    (ho : o.op = .call { callee := .builtin .append, args := #[s, x], argTypes := #[40, 40] })
    (v : Value) (S : List SlB) (hs : a.eval s = v) (hown : OwnL B w v S) (hB : B ≤ w.heap.size) (s1 : SlB) (h1 : OwnB B w s1.val s1.l) (hne : ∀ j, j < S.length → (gt S j).val.ownBlock = none ∨ (gt S j).val.ownBlock ≠ s1.val.ownBlock) (T : TypeId) (c : Nat)
    (hx : a.eval x = .slice (some ⟨w.heap.size, 0, none⟩) 1 c) (hl : S.length ≤ 1000000)
    (h : ∀ v' w', OwnL B w' v' (S ++ [s1]) → Below B w w' → wpList Tryd.prog ops Q rest (a.put o.dst v') w') : wpList Tryd.prog ops Q (o :: rest) a (w.alloc (.cells #[.slice s1.A s1.k s1.c] T)) := by
  obtain ⟨i0, hi, hz0, hz1, hz2⟩ := info_parts info_bs
  have b0 := below_alloc w (.cells #[.slice s1.A s1.k s1.c] T)
  refine wpList_append_own _ hgd s x 40 ho B 22 i0 (.slice none 0 0) 1 24 Tryd.underlying40 hi hz0 hz1 hz2 rfl (by decide) v S.length (S.map SlB.val) hs (World.ownsRow.alloc hown.row _)
    ⟨w.heap.size, 0, none⟩ 1 c [s1.val] hx rfl ?_ (by intro u hu; obtain rfl : u = s1.val := by simpa using hu
                                                      rfl) (by unfold maxLen; omega) (by omega) (by simp; omega) ?_
  · intro j u hj
    cases j with
    | zero => obtain rfl : s1.val = u := by simpa using hj
              show (w.alloc (.cells #[.slice s1.A s1.k s1.c] T)).cell? ⟨w.heap.size, 0, none⟩ = _
              rw [World.cell?_alloc_new]; rfl
    | succ j => simp at hj
  · intro v' w' hown' hg _
    have o0 := hown.on b0
    have e0 := h1.on b0
    have hk : ∀ {u : Value} {l : List UInt8}, OwnB B (w.alloc (.cells #[.slice s1.A s1.k s1.c] T)) u l → OwnB B w' u l := fun q => q.grown hg (row_ne q o0.row (by decide))
    refine h v' w' ⟨?_, fun j hj => ?_, fun i j hi hj hij => ?_⟩ ((b0.mono hB).trans (grown_below o0.row hg (by simp; omega)))
    · rw [List.length_append, List.map_append]
      exact hown'
    · rw [List.length_append, List.length_cons, List.length_nil] at hj
      rcases Nat.lt_or_ge j S.length with q | q
      · rw [gt_lo q]; exact hk (o0.each j q)
      · obtain rfl : j = S.length := by omega
        rw [gt_hi]; exact hk e0
    · rw [List.length_append, List.length_cons, List.length_nil] at hi hj
      rcases Nat.lt_or_ge i S.length with q | q <;> rcases Nat.lt_or_ge j S.length with r | r
      · rw [gt_lo q, gt_lo r]; exact hown.ne i j q r hij
      · obtain rfl : j = S.length := by omega
        rw [gt_lo q, gt_hi]; exact hne i q
      · obtain rfl : i = S.length := by omega
        rw [gt_lo r, gt_hi]
        rcases hz : s1.val.ownBlock with _ | k
        · exact .inl rfl
        · refine .inr fun z => ?_
          rcases hne j r with y | y
          · rw [y] at z; cases z
          · exact y (by rw [hz, ← z])
      · omega
/-- what Scan answers -/
def ScanR (w : World) (l : List UInt8) (e : Ending) (w' : World) : Prop :=
  ∃ v S, e = .returned (.tuple #[v, .int .i64 ((scanL l).2 : Nat)]) ∧ OwnL w.heap.size w' v S ∧ bytesS S = (scanL l).1 ∧ Below w.heap.size w w'
/-- behind t bytes, the list v of records -/
structure ScanI (w : World) (l : List UInt8) (wr : World) (v : Value) (S : List SlB) (t : Nat) : Prop where
  own : OwnL w.heap.size wr v S
  at_ : Below w.heap.size w wr
  le : t ≤ l.length
  few : 6 * S.length ≤ t
  is : scanL l = (bytesS S ++ (scanL (l.drop t)).1, t + (scanL (l.drop t)).2)
theorem ScanI.start (w : World) (l : List UInt8) : ScanI w l w (.slice none 0 0) [] 0 :=
  ⟨OwnL.nil _ _, Below.refl _ _, Nat.zero_le _, Nat.zero_le _, by simp [bytesS]⟩
theorem ScanI.stop {w wr w' : World} {l : List UInt8} {v : Value} {S : List SlB} {t : Nat} (h : ScanI w l wr v S t) (e : getE l t ≠ 0) (b : Below wr.heap.size wr w') : ScanR w l (.returned (.tuple #[v, .int .i64 t])) w' := by
  have e1 : getE l t = get1 (l.drop t) := by unfold getE; rw [if_pos ⟨by omega, by have := h.le; omega⟩]; rfl
  have hs := h.is
  rw [scan_stop (show get1 (l.drop t) ≠ 0 by rw [← e1]; exact e)] at hs
  refine ⟨v, S, by rw [hs]; rfl, h.own.on b, by rw [hs]; simp, h.at_.trans (b.mono h.at_.size)⟩
theorem getE_at {l : List UInt8} {t : Nat} (h : t ≤ l.length) : getE l t = get1 (l.drop t) := by unfold getE; rw [if_pos ⟨by omega, by omega⟩]; rfl
/-- .. one record more -/
theorem ScanI.next {w wr w' : World} {l : List UInt8} {v v' : Value} {S : List SlB} {s1 : SlB} {t : Nat} (h : ScanI w l wr v S t) (e : getE l t = 0) (hs : s1.l = pay (l.drop t)) (b : Below w.heap.size wr w') (o : OwnL w.heap.size w' v' (S ++ [s1])) :
    ScanI w l w' v' (S ++ [s1]) (t + 6 + (pay (l.drop t)).length) := by
  rw [getE_at h.le] at e
  have k := get1_ok e
  have hl := h.le
  have hf := h.few
  rw [List.length_drop] at k
  refine ⟨o, h.at_.trans b, by omega, by rw [List.length_append, List.length_cons, List.length_nil]; omega, ?_⟩
  rw [h.is, scan_step e, List.drop_drop, show t + (6 + (pay (l.drop t)).length) = t + 6 + (pay (l.drop t)).length by omega]
  unfold bytesS
  rw [List.map_append, List.map_cons, List.map_nil, hs]
  simp [Nat.add_assoc]
set_option maxRecDepth 100000 in
set_option maxHeartbeats 4000000 in
theorem scan_is (w : World) (A : Option Addr) (n c : Nat) (l : List UInt8) (T : Tab w) (h : BsAt w A n l) (hnc : n ≤ c) (hc63 : c ≤ 9223372036854775807) (hn : n ≤ 1000000) :
    Calls Tryd.prog 36 #[.slice A n c] w (ScanR w l) := by
  have en := h.1
  have EN := Lib.hid en
  have H := Lib.hid h
  clear h en
  go_enter Tryd.func36, Tryd.ntmps36
  go_wp2
  go_loopw [4, 5] (fun v i wr => ∃ S t, i = .int .i64 (t : Nat) ∧ ScanI w l wr v S t) (fun _ i _ => n - (intOf i).toNat)
  case atStart => exact ⟨[], 0, rfl, ScanI.start w l⟩
  case round =>
    obtain ⟨S, t, rfl, hI⟩ := hrel
    have htl := hI.le
    rw [← EN.out] at htl
    have HI := Lib.hid hI
    clear hI
    have C1 := get_is wr A n c l t (T.on HI.out.at_) (H.out.below HI.out.at_) hnc hc63 hn (by omega) (by omega)
    unfold GetR at C1
    rcases Nat.eq_zero_or_pos (getE l t) with e0 | e0
    · have hN : getN l t = t + 6 + (pay (l.drop t)).length := by unfold getN; rw [if_pos e0]; rfl
      have hP : getP l t = pay (l.drop t) := by unfold getP; rw [if_pos e0]; rfl
      rw [hN, hP, e0] at C1
      have E0 := Lib.hid e0
      have hk := get1_ok ((getE_at HI.out.le).symm.trans e0)
      have hm : t + 6 + (pay (l.drop t)).length ≤ n := by rw [List.length_drop] at hk; have := EN.out; omega
      have hm6 : (pay (l.drop t)).length ≤ 1000000 := by omega
      clear hN hP e0 hk
      obtain ⟨m, em⟩ : ∃ m, (pay (l.drop t)).length = m := ⟨_, rfl⟩
      rw [em] at C1 hm hm6
      have EM := Lib.hid em
      clear em
      go_wp2_with fail
      refine C1.mono ?_
      rintro e w1 ⟨v1, rfl, o1, b1⟩
      clear C1
      obtain ⟨A1, c1, rfl, a1, k1, z1⟩ := o1.atN EM.out
      have hB := HI.out.at_.size
      have B1 := Lib.hid b1
      have hne : ∀ j, j < S.length → (gt S j).val.ownBlock = none ∨ (gt S j).val.ownBlock ≠ (SlB.mk A1 m c1 (pay (l.drop t))).val.ownBlock := fun j hj => by
        rcases hz : (gt S j).val.ownBlock with _ | k
        · exact .inl rfl
        · refine .inr fun q => ?_
          have h1 := HI.out.own.blk hj hz
          have h2 := (World.ownsRow.lt o1 k q.symm).1
          omega
      have NE := Lib.hid hne
      have O1 := Lib.hid (show OwnB w.heap.size w1 (SlB.mk A1 m c1 (pay (l.drop t))).val (pay (l.drop t)) from o1.low hB)
      have OL := Lib.hid (HI.out.own.on b1)
      have hs6 := HI.out.few
      have sz1 : w.heap.size ≤ w1.heap.size := Nat.le_trans hB b1.size
      clear o1 a1 b1 hne
      go_wp2_with (at_builtin; refine append_sl rfl _ _ rfl _ S rfl OL.out sz1 ⟨A1, m, c1, pay (l.drop t)⟩ O1.out NE.out _ 1 rfl (by omega) ?_)
      intro v2 w2 o2 b2
      have I2 := HI.out.next (s1 := ⟨A1, m, c1, pay (l.drop t)⟩) E0.out rfl ((B1.out.mono hB).trans b2) o2
      rw [EM.out] at I2
      clear o2 b2
      go_wp2
      go_roundw
      case rel => exact ⟨_, _, by go_num, I2⟩
      case measure => simp [intOf]; omega
    · have q1 : ((getE l t : Int) != 0) = true := by rw [bne_iff_ne]; omega
      generalize hg : getE l t = g at *
      have G := Lib.hid (fun w' (b : Below wr.heap.size wr w') => HI.out.stop (by omega) b)
      generalize getN l t = N at *
      generalize getP l t = P at *
      clear hg
      go_wp2_with fail
      refine C1.mono ?_
      rintro e w1 ⟨v1, rfl, o1, b1⟩
      clear C1
      have G1 := Lib.hid (G.out w1 b1)
      clear o1 b1
      go_wp2
      exact bodyPost_ret (v := .tuple #[_, .int .i64 t]) (by simp [results, Tryd.results36, go_sem]) rfl G1.out
set_option maxRecDepth 100000 in
set_option maxHeartbeats 4000000 in
theorem rscan_is (w : World) (A : Option Addr) (n c : Nat) (l : List UInt8) (h : BsAt w A n l) (hnc : n ≤ c) (hc63 : c ≤ 9223372036854775807) (hn : n ≤ 1000000) :
    Calls Tryd.prog 38 #[.slice A n c] w (ScanR w l) := by
  have en := h.1
  have EN := Lib.hid en
  have H := Lib.hid h
  clear h en
  go_enter Tryd.func38, Tryd.ntmps38
  go_wp2
  go_loopw [4, 5] (fun v i wr => ∃ S t, i = .int .i64 (t : Nat) ∧ ScanI w l wr v S t) (fun _ i _ => n - (intOf i).toNat)
  case atStart => exact ⟨[], 0, rfl, ScanI.start w l⟩
  case round =>
    obtain ⟨S, t, rfl, hI⟩ := hrel
    have htl := hI.le
    rw [← EN.out] at htl
    have HI := Lib.hid hI
    clear hI
    have C1 := rget_is wr A n c l t (H.out.below HI.out.at_) hnc hc63 hn (by omega) (by omega)
    unfold GetR at C1
    rcases Nat.eq_zero_or_pos (getE l t) with e0 | e0
    · have hN : getN l t = t + 6 + (pay (l.drop t)).length := by unfold getN; rw [if_pos e0]; rfl
      have hP : getP l t = pay (l.drop t) := by unfold getP; rw [if_pos e0]; rfl
      rw [hN, hP, e0] at C1
      have E0 := Lib.hid e0
      have hk := get1_ok ((getE_at HI.out.le).symm.trans e0)
      have hm : t + 6 + (pay (l.drop t)).length ≤ n := by rw [List.length_drop] at hk; have := EN.out; omega
      have hm6 : (pay (l.drop t)).length ≤ 1000000 := by omega
      clear hN hP e0 hk
      obtain ⟨m, em⟩ : ∃ m, (pay (l.drop t)).length = m := ⟨_, rfl⟩
      rw [em] at C1 hm hm6
      have EM := Lib.hid em
      clear em
      go_wp2_with fail
      refine C1.mono ?_
      rintro e w1 ⟨v1, rfl, o1, b1⟩
      clear C1
      obtain ⟨A1, c1, rfl, a1, k1, z1⟩ := o1.atN EM.out
      have hB := HI.out.at_.size
      have B1 := Lib.hid b1
      have hne : ∀ j, j < S.length → (gt S j).val.ownBlock = none ∨ (gt S j).val.ownBlock ≠ (SlB.mk A1 m c1 (pay (l.drop t))).val.ownBlock := fun j hj => by
        rcases hz : (gt S j).val.ownBlock with _ | k
        · exact .inl rfl
        · refine .inr fun q => ?_
          have h1 := HI.out.own.blk hj hz
          have h2 := (World.ownsRow.lt o1 k q.symm).1
          omega
      have NE := Lib.hid hne
      have O1 := Lib.hid (show OwnB w.heap.size w1 (SlB.mk A1 m c1 (pay (l.drop t))).val (pay (l.drop t)) from o1.low hB)
      have OL := Lib.hid (HI.out.own.on b1)
      have hs6 := HI.out.few
      have sz1 : w.heap.size ≤ w1.heap.size := Nat.le_trans hB b1.size
      clear o1 a1 b1 hne
      go_wp2_with (at_builtin; refine append_sl rfl _ _ rfl _ S rfl OL.out sz1 ⟨A1, m, c1, pay (l.drop t)⟩ O1.out NE.out _ 1 rfl (by omega) ?_)
      intro v2 w2 o2 b2
      have I2 := HI.out.next (s1 := ⟨A1, m, c1, pay (l.drop t)⟩) E0.out rfl ((B1.out.mono hB).trans b2) o2
      rw [EM.out] at I2
      clear o2 b2
      go_wp2
      go_roundw
      case rel => exact ⟨_, _, by go_num, I2⟩
      case measure => simp [intOf]; omega
    · have q1 : ((getE l t : Int) != 0) = true := by rw [bne_iff_ne]; omega
      generalize hg : getE l t = g at *
      have G := Lib.hid (fun w' (b : Below wr.heap.size wr w') => HI.out.stop (by omega) b)
      generalize getN l t = N at *
      generalize getP l t = P at *
      clear hg
      go_wp2_with fail
      refine C1.mono ?_
      rintro e w1 ⟨v1, rfl, o1, b1⟩
      clear C1
      have G1 := Lib.hid (G.out w1 b1)
      clear o1 b1
      go_wp2
      exact bodyPost_ret (v := .tuple #[_, .int .i64 t]) (by simp [results, Tryd.results38, go_sem]) rfl G1.out
end Go.Proofs.YtniphbfoppocfaaDoor.Fr
