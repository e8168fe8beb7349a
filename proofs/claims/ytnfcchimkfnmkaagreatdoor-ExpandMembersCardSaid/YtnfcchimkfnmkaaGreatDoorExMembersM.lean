/- ExpandMembers answers true: a list rises, each of it belongs, and a moment below the end that belongs is in it, or Count is used up ahead of it. -/
import Derived.Test.YtnfcchimkfnmkaaGreatDoorExMathB
import Derived.Test.YtnfcchimkfnmkaaGreatDoorExFst
set_option linter.unusedVariables false
namespace Go.Proofs.YtnfcchimkfnmkaaGreatDoor.Ex
open Cv St Ru Dd Mb

theorem mom_sub {r : Ru} {start from_ end_ x : Int} (h : x ∈ momL r start from_ end_) : from_ ≤ x ∧ x < hiR r end_ ∧ hasM r start x = true := by
  unfold momL cutL at h
  split at h
  · exact mem_sel.1 h
  · exact mem_sel.1 (List.mem_of_mem_take h)
theorem mom_rise (r : Ru) (start from_ end_ : Int) : (momL r start from_ end_).Pairwise (· < ·) := by
  unfold momL cutL
  split
  · exact sel_rise _ _ _
  · exact (sel_rise _ _ _).sublist (List.take_sublist _ _)
end Go.Proofs.YtnfcchimkfnmkaaGreatDoor.Ex
namespace Go.Proofs.YtnfcchimkfnmkaaGreatDoor.Ex
open Cv St Ru Dd Mb

theorem mayE_of {r : Ru} {start end_ most : Int} (h : mayE r start end_ most = true) : mayR r = true ∧ St.may start = true ∧ St.may end_ = true ∧ end_ - start ≤ 316224000 ∧ 1 ≤ most ∧ most ≤ 4096 := by
  unfold mayE at h
  simp only [Bool.and_eq_true, decide_eq_true_eq] at h
  exact ⟨h.1.1.1.1, h.1.1.1.2, h.1.1.2, h.1.2, h.2⟩
/-- a list that is told: what it is -/
theorem list_ok {r : Ru} {start end_ most : Int} {l : List Int} (h : listR r start end_ most = (l, 0)) : mayE r start end_ most = true ∧ momL r start start end_ = l ∧ (l.length : Int) ≤ most := by
  unfold listR at h
  split at h
  · have := (Prod.mk.inj h).2; omega
  · rename_i c
    split at h
    · have := (Prod.mk.inj h).2; omega
    · rename_i d
      have e := (Prod.mk.inj h).1
      exact ⟨by simpa using c, e, by rw [e] at d; omega⟩
theorem list_rise {r : Ru} {start end_ most : Int} {l : List Int} (h : listR r start end_ most = (l, 0)) : l.Pairwise (· < ·) := by
  rw [← (list_ok h).2.1]
  exact mom_rise _ _ _ _
theorem members_in {r : Ru} {start end_ x : Int} {l : List Int} (h : listR r start end_ 4096 = (l, 0)) (hx : x ∈ l) : start ≤ x ∧ x < end_ ∧ hasM r start x = true := by
  rw [← (list_ok h).2.1] at hx
  obtain ⟨a, b, c⟩ := mom_sub hx
  refine ⟨a, ?_, c⟩
  unfold hiR at b
  split at b <;> omega
theorem members_all {r : Ru} {start end_ x : Int} {l : List Int} (h : listR r start end_ 4096 = (l, 0)) (hx : x < end_) (hh : hasM r start x = true) : x ∈ l ∨ (0 < r.cnt ∧ (l.length : Int) = r.cnt ∧ ∀ y ∈ l, y < x) := by
  obtain ⟨a1, a2, -⟩ := list_ok h
  have c0 := (freq_may (mayE_of a1).1).2.2.2.1
  have hs := hh
  rw [has_inA] at hs
  simp only [Bool.and_eq_true, Bool.or_eq_true, decide_eq_true_eq] at hs
  have m : x ∈ selL (hasM r start) start (hiR r end_) := by
    refine mem_sel.2 ⟨hs.1.1, ?_, hh⟩
    unfold hiR
    split
    · rename_i e
      rcases hs.1.2 with q | q
      · rw [e] at q; cases q
      · omega
    · exact hx
  rw [← a2]
  unfold momL cutL
  split
  · exact .inl m
  · rename_i c
    by_cases g : x ∈ (selL (hasM r start) start (hiR r end_)).take r.cnt.toNat
    · exact .inl g
    · right
      have sp : x ∈ (selL (hasM r start) start (hiR r end_)).drop r.cnt.toNat := by
        have e := List.take_append_drop r.cnt.toNat (selL (hasM r start) start (hiR r end_))
        rw [← e] at m
        rcases List.mem_append.1 m with q | q
        · exact absurd q g
        · exact q
      have len : r.cnt.toNat < (selL (hasM r start) start (hiR r end_)).length := by
        by_cases k : r.cnt.toNat < (selL (hasM r start) start (hiR r end_)).length
        · exact k
        · rw [List.drop_eq_nil_of_le (by omega)] at sp; cases sp
      refine ⟨by omega, by rw [List.length_take]; omega, fun y hy => ?_⟩
      have rs := sel_rise (hasM r start) start (hiR r end_)
      rw [← List.take_append_drop r.cnt.toNat (selL (hasM r start) start (hiR r end_))] at rs
      exact (List.pairwise_append.1 rs).2.2 y hy x sp
theorem members_cnt {r : Ru} {start end_ : Int} {l : List Int} (h : listR r start end_ 4096 = (l, 0)) (hc : r.cnt ≠ 0) : (l.length : Int) ≤ r.cnt := by
  obtain ⟨a1, a2, -⟩ := list_ok h
  have c0 := (freq_may (mayE_of a1).1).2.2.2.1
  rw [← a2]
  unfold momL cutL
  rw [if_neg hc, List.length_take]
  omega
-- ExpandNext
end Go.Proofs.YtnfcchimkfnmkaaGreatDoor.Ex
namespace Go.Proofs.YtnfcchimkfnmkaaGreatDoor.Ex
open Go.RowKit Cv St Ru Dd Mb

def hasN8 (l : List Int) (x : Int) (k : Nat) : Prop := ∀ j, j < k → iat l j ≠ x
theorem hasN8.succ {l : List Int} {x : Int} {k : Nat} (h : hasN8 l x k) (e : iat l k ≠ x) : hasN8 l x (k + 1) := fun j hj => by
  by_cases c : j = k
  · subst c; exact e
  · exact h j (by omega)
set_option maxHeartbeats 2000000 in
/-- vokref.Has -/
theorem vhas8_is (w : World) (A : Option Addr) (n c : Nat) (l : List Int) (x : Int) (hl : IsAt w A n l) (h1 : n ≤ 9223372036854775807) (p : Bool) (hp : decide (x ∈ l) = p) :
    Calls Tryz.prog 22 #[.slice A n c, .int .i64 x] w fun e w' => e = .returned (.bool p) ∧ Below w.heap.size w w' := by
  obtain ⟨en, hc⟩ := hl
  have EN := Lib.hid en
  have HP := Lib.hid hp
  clear en hp
  go_enter Tryz.func22, Tryz.ntmps22
  go_wp2
  go_loopw [5] (fun i wr => ∃ t : Nat, t ≤ n ∧ i = .int .i64 t ∧ Hid (hasN8 l x t) ∧ ∃ q : Nat, wr = w.drewN q) (fun i _ => n - (intOf i).toNat)
  case atStart => exact ⟨0, Nat.zero_le _, rfl, Lib.hid (fun j hj => absurd hj (by omega)), 0, rfl⟩
  case round =>
    obtain ⟨t, ht, rfl, D, q, rfl⟩ := hrel
    by_cases hlt : t < n
    · obtain ⟨bl, off, rfl, hb, hcc⟩ := hc (by omega)
      have c0 := hcc t hlt
      have Y := Lib.hid (fun (h : iat l t = x) => show true = p by
        rw [← HP.out]
        have hk : t < l.length := by rw [← EN.out]; exact hlt
        rw [iat_lt hk] at h
        exact (decide_eq_true (h ▸ List.getElem_mem hk)).symm)
      have X := Lib.hid (fun (e1 : iat l t ≠ x) => D.out.succ e1)
      clear hc hcc D
      by_cases p1 : iat l t = x
      · have e1 : ((iat l t : Int) == x) = true := by rw [beq_iff_eq]; exact p1
        have F := Lib.hid (Y.out p1)
        clear p1 X Y
        generalize iat l t = s at *
        go_wp2
        go_ret
        exact ⟨ret_bool F.out, Below.drewN' _ _ _⟩
      · have e1 : ((iat l t : Int) == x) = false := by rw [beq_eq_false_iff_ne]; exact p1
        have F := Lib.hid (X.out p1)
        clear p1 X Y
        generalize iat l t = s at *
        go_wp2
        go_roundw
        case rel => exact ⟨t + 1, by omega, by go_num, F, _, rfl⟩
        case measure => simp [intOf]; omega
    · obtain rfl : n = t := by omega
      have F := Lib.hid (show false = p by
        rw [← HP.out]
        refine (decide_eq_false fun g => ?_).symm
        obtain ⟨j, hj, e⟩ := List.getElem_of_mem g
        exact D.out j (by rw [EN.out]; exact hj) (by rw [iat_lt hj]; exact e))
      go_wp2
      go_ret
      exact ⟨ret_bool F.out, Below.drewN' _ _ _⟩
end Go.Proofs.YtnfcchimkfnmkaaGreatDoor.Ex
namespace Go.Proofs.YtnfcchimkfnmkaaGreatDoor.Ex
open Go.RowKit Cv St Ru Dd Mb

theorem list_max {r : Ru} {start end_ : Int} {l : List Int} {x : Int} (hp : listR r start end_ 4096 = (l, x)) : (l.length : Int) ≤ 4096 := by
  unfold listR at hp
  split at hp
  · rw [← (Prod.mk.inj hp).1]; simp
  · split at hp
    · rw [← (Prod.mk.inj hp).1]; simp
    · rename_i d
      rw [← (Prod.mk.inj hp).1]; omega
theorem list_no {r : Ru} {start end_ most : Int} {l : List Int} {x : Int} (hp : listR r start end_ most = (l, x)) (h : x ≠ 0) : l.length = 0 := by
  unfold listR at hp
  split at hp
  · rw [← (Prod.mk.inj hp).1]; rfl
  · split at hp
    · rw [← (Prod.mk.inj hp).1]; rfl
    · exact absurd (Prod.mk.inj hp).2.symm h
/-- the cells of a list that is read -/
structure CellsAt (w : World) (bl off m : Nat) (l : List Int) : Prop where
  lt : bl < w.heap.size
  at_ : ∀ j, j < m → w.cell? ⟨bl, off + j, none⟩ = some (.int .i64 (iat l j))
theorem CellsAt.below {w w' : World} {bl off m : Nat} {l : List Int} (h : CellsAt w bl off m l) (hb : Below w.heap.size w w') : CellsAt w' bl off m l :=
  ⟨Nat.lt_of_lt_of_le h.lt hb.size, fun j hj => (hb.cell (p := ⟨bl, _, none⟩) h.lt).trans (h.at_ j hj)⟩
theorem cells_of {w : World} {A : Option Addr} {m : Nat} {l : List Int} (h : IsAt w A m l) (h0 : 0 < m) : ∃ bl off, A = some ⟨bl, off, none⟩ ∧ CellsAt w bl off m l := by
  obtain ⟨bl, off, e, lt, hc⟩ := h.2 h0
  exact ⟨bl, off, e, lt, hc⟩
section
variable {P : Program} {ops : Array Oper} {Q : Exit → Act → World → Prop} {md : Region.Mode} {S : World → Prop} {late : Nat → Bool}
/-- operation i alone is ready, and its guard is met -/
theorem late_oneG (i : Nat) {o : Oper} {g : Nat} {listed : Array Bool} {a : Act} {w : World} (ho : ops[i]? = some o) (hr : Region.ready md ops listed = [i]) (hg : Region.wanted o (yielded ops a.tmps) = true)
    (h : Oper.wp P o a w (fun b v => (late i = true ∨ S v) ∧ Late P md ops Q S late g (listed.setIfInBounds i true) b v) Q) : Late P md ops Q S late (g + 1) listed a w := by
  unfold Late
  refine ⟨fun e => absurd (hr ▸ e) (by simp), fun k hk => ?_⟩
  rw [hr] at hk
  obtain rfl := List.mem_singleton.1 hk
  unfold wpOp
  simp only [ho]
  rw [if_pos hg]
  exact .inl h
theorem tk (i : Nat) {o : Oper} (ho : ops[i]? = some o) (v : Value) {g : Nat} {listed : Array Bool} {a : Act} {w : World} (hy : YieldsIf P ops S o v a) (hS : S w) (h : Late P md ops Q S late g (listed.setIfInBounds i true) (a.put o.dst v) w)
    (hs : Region.noSelect ops = true := by kernel_rfl) (hf : Region.free md ops listed i = true := by kernel_rfl) (hr : (Region.ready md ops listed).contains i = true := by kernel_rfl) (hw : waitsB md ops late i = true := by kernel_rfl)
    (pan : ∀ c a w, Q (.panic c) (a.put o.dst v) w → Q (.panic c) a w := by exact fun _ _ _ h => h) : Late P md ops Q S late (g + 1) listed a w :=
  Late.take i v ho hs hf hr hw pan hy hS h
end
structure MemOk (r : Ru) (start end_ t : Int) (l : List Int) (m : Nat) : Prop where
  at_ : ∀ j, j < m → start ≤ iat l j ∧ iat l j < end_ ∧ hasM r start (iat l j) = true
  rise : ∀ j, j + 1 < m → iat l j < iat l (j + 1)
  in_ : decide (t ∈ l) = true → t < end_ ∧ hasM r start t = true
  out_ : t < end_ → hasM r start t = true → decide (t ∈ l) = false → 0 < r.cnt ∧ (m : Int) = r.cnt ∧ (m = 0 ∨ iat l (m - 1) < t)
  cnt : r.cnt ≠ 0 → (m : Int) ≤ r.cnt
  pos : 0 ≤ r.cnt
theorem mem_ok {r : Ru} {start end_ t : Int} {l : List Int} (h : listR r start end_ 4096 = (l, 0)) : MemOk r start end_ t l l.length := by
  have rl := list_rise h
  refine ⟨fun j hj => members_in h (by rw [iat_lt hj]; exact List.getElem_mem _), fun j hj => ?_, fun e => ?_, fun e g f => ?_, members_cnt h, (freq_may (mayE_of (list_ok h).1).1).2.2.2.1⟩
  · rw [iat_lt (by omega), iat_lt hj]
    exact List.pairwise_iff_getElem.1 rl j (j + 1) (by omega) hj (by omega)
  · exact (members_in h (of_decide_eq_true e)).2
  · rcases members_all h e g with q | ⟨a, b, c⟩
    · exact absurd q (of_decide_eq_false f)
    · refine ⟨a, b, ?_⟩
      by_cases k : l.length = 0
      · exact .inl k
      · right
        rw [iat_lt (by omega)]
        exact c _ (List.getElem_mem _)
set_option maxRecDepth 100000 in
set_option maxHeartbeats 16000000 in
theorem members_walk (w : World) (T : Tabs w) (S : RS) (r : Ru) (start end_ tm : Int) (h : RuIn w S r) :
    Calls Tryz.prog 4 #[S.val r, .int .i64 start, .int .i64 end_, .int .i64 tm] w fun e w' => e = .returned (.bool true) ∧ Below w.heap.size w w' := by
  have TT := Lib.hid T
  have HK := Lib.hid h
  have FEW := Lib.hid (fun (e : fewB S = true) => h.few e)
  obtain ⟨⟨l, x⟩, hp⟩ : ∃ p, listR r start end_ 4096 = p := ⟨_, rfl⟩
  have HP := Lib.hid hp
  have LB4 := Lib.hid (list_max hp)
  have LNO := Lib.hid (fun (e : x ≠ 0) => list_no hp e)
  have MK := Lib.hid (fun (e : x = 0) => mem_ok (r := r) (start := start) (end_ := end_) (t := tm) (l := l) (by rw [hp, e]))
  clear hp
  clear h T
  obtain ⟨ra6, rn6, rc6, ra7, rn7, rc7, ra8, rn8, rc8, ra9, rn9, rc9, ra10, rn10, rc10, ra11, rn11, rc11, ra12, rn12, rc12, ra13, rn13, rc13, ra14, rn14, rc14⟩ := S
  obtain ⟨rfreq, ritv, rcnt, rtil, rwkst, rends, rmon, rweek, ryday, rmday, rday, rhour, rminu, rsec, rpos⟩ := r
  show Calls Tryz.prog 4 #[.agg #[.int .i64 rfreq, .int .i64 ritv, .int .i64 rcnt, .int .i64 rtil, .int .i64 rwkst, .bool rends, .slice ra6 rn6 rc6, .slice ra7 rn7 rc7, .slice ra8 rn8 rc8, .slice ra9 rn9 rc9, .slice ra10 rn10 rc10, .slice ra11 rn11 rc11, .slice ra12 rn12 rc12, .slice ra13 rn13 rc13, .slice ra14 rn14 rc14], .int .i64 start, .int .i64 end_, .int .i64 tm] w _
  go_enter Tryz.func4, Tryz.ntmps4
  go_upto_region 1 with fail
  have B0 := alloc_below w (.cells #[.int .i64 rfreq, .int .i64 ritv, .int .i64 rcnt, .int .i64 rtil, .int .i64 rwkst, .bool rends, .slice ra6 rn6 rc6, .slice ra7 rn7 rc7, .slice ra8 rn8 rc8, .slice ra9 rn9 rc9, .slice ra10 rn10 rc10, .slice ra11 rn11 rc11, .slice ra12 rn12 rc12, .slice ra13 rn13 rc13, .slice ra14 rn14 rc14] 25)
  have Xr0 := Box.new w #[.int .i64 rfreq, .int .i64 ritv, .int .i64 rcnt, .int .i64 rtil, .int .i64 rwkst, .bool rends, .slice ra6 rn6 rc6, .slice ra7 rn7 rc7, .slice ra8 rn8 rc8, .slice ra9 rn9 rc9, .slice ra10 rn10 rc10, .slice ra11 rn11 rc11, .slice ra12 rn12 rc12, .slice ra13 rn13 rc13, .slice ra14 rn14 rc14] 25
  generalize w.alloc (.cells #[.int .i64 rfreq, .int .i64 ritv, .int .i64 rcnt, .int .i64 rtil, .int .i64 rwkst, .bool rends, .slice ra6 rn6 rc6, .slice ra7 rn7 rc7, .slice ra8 rn8 rc8, .slice ra9 rn9 rc9, .slice ra10 rn10 rc10, .slice ra11 rn11 rc11, .slice ra12 rn12 rc12, .slice ra13 rn13 rc13, .slice ra14 rn14 rc14] 25) = w0 at *
  go_wp2_with fail
  refine (first8_is _ (TT.out.on B0)).mono ?_
  rintro e w1 ⟨rfl, b1⟩
  have B1 := B0.trans (b1.mono B0.size)
  have Xr1 := Xr0.below b1
  clear B0 Xr0
  clear b1
  have MK := Lib.hid (show x = 0 → MemOk ⟨rfreq, ritv, rcnt, rtil, rwkst, rends, rmon, rweek, ryday, rmday, rday, rhour, rminu, rsec, rpos⟩ start end_ tm l l.length from MK.out)
  have rz0 : w1.cell? ⟨w.heap.size, 0, none⟩ = some (.int .i64 rfreq) := Xr1.at_ 0 _ rfl
  have rz1 : w1.cell? ⟨w.heap.size, 1, none⟩ = some (.int .i64 ritv) := Xr1.at_ 1 _ rfl
  have rz2 : w1.cell? ⟨w.heap.size, 2, none⟩ = some (.int .i64 rcnt) := Xr1.at_ 2 _ rfl
  have rz3 : w1.cell? ⟨w.heap.size, 3, none⟩ = some (.int .i64 rtil) := Xr1.at_ 3 _ rfl
  have rz4 : w1.cell? ⟨w.heap.size, 4, none⟩ = some (.int .i64 rwkst) := Xr1.at_ 4 _ rfl
  have rz5 : w1.cell? ⟨w.heap.size, 5, none⟩ = some (.bool rends) := Xr1.at_ 5 _ rfl
  have rz6 : w1.cell? ⟨w.heap.size, 6, none⟩ = some (.slice ra6 rn6 rc6) := Xr1.at_ 6 _ rfl
  have rz7 : w1.cell? ⟨w.heap.size, 7, none⟩ = some (.slice ra7 rn7 rc7) := Xr1.at_ 7 _ rfl
  have rz8 : w1.cell? ⟨w.heap.size, 8, none⟩ = some (.slice ra8 rn8 rc8) := Xr1.at_ 8 _ rfl
  have rz9 : w1.cell? ⟨w.heap.size, 9, none⟩ = some (.slice ra9 rn9 rc9) := Xr1.at_ 9 _ rfl
  have rz10 : w1.cell? ⟨w.heap.size, 10, none⟩ = some (.slice ra10 rn10 rc10) := Xr1.at_ 10 _ rfl
  have rz11 : w1.cell? ⟨w.heap.size, 11, none⟩ = some (.slice ra11 rn11 rc11) := Xr1.at_ 11 _ rfl
  have rz12 : w1.cell? ⟨w.heap.size, 12, none⟩ = some (.slice ra12 rn12 rc12) := Xr1.at_ 12 _ rfl
  have rz13 : w1.cell? ⟨w.heap.size, 13, none⟩ = some (.slice ra13 rn13 rc13) := Xr1.at_ 13 _ rfl
  have rz14 : w1.cell? ⟨w.heap.size, 14, none⟩ = some (.slice ra14 rn14 rc14) := Xr1.at_ 14 _ rfl
  go_wp2_with fail
  refine (light8_is _ ⟨ra6, rn6, rc6, ra7, rn7, rc7, ra8, rn8, rc8, ra9, rn9, rc9, ra10, rn10, rc10, ra11, rn11, rc11, ra12, rn12, rc12, ra13, rn13, rc13, ra14, rn14, rc14⟩ ⟨rfreq, ritv, rcnt, rtil, rwkst, rends, rmon, rweek, ryday, rmday, rday, rhour, rminu, rsec, rpos⟩ start end_ (in_below HK.out B1)).mono ?_
  rintro e w2 ⟨⟨lb, rfl, HB⟩, b2⟩
  clear rz0 rz1 rz2 rz3 rz4 rz5 rz6 rz7 rz8 rz9 rz10 rz11 rz12 rz13 rz14
  have B2 := B1.trans (b2.mono B1.size)
  have Xr2 := Xr1.below b2
  clear B1 Xr1
  clear b2
  have LB := Lib.hid HB
  clear HB
  cases lb
  · go_wp2_with fail
    refine (first8_is _ (TT.out.on B2)).mono ?_
    rintro e w3 ⟨rfl, b3⟩
    have B3 := B2.trans (b3.mono B2.size)
    have Xr3 := Xr2.below b3
    clear B2 Xr2
    clear b3
    go_wp2
    go_ret
    exact ⟨rfl, B3⟩
  · have X1 := Lib.hid (LB.out rfl)
    clear LB
    have RA := Lib.hid (FEW.out X1.out)
    have rz0 : w2.cell? ⟨w.heap.size, 0, none⟩ = some (.int .i64 rfreq) := Xr2.at_ 0 _ rfl
    have rz1 : w2.cell? ⟨w.heap.size, 1, none⟩ = some (.int .i64 ritv) := Xr2.at_ 1 _ rfl
    have rz2 : w2.cell? ⟨w.heap.size, 2, none⟩ = some (.int .i64 rcnt) := Xr2.at_ 2 _ rfl
    have rz3 : w2.cell? ⟨w.heap.size, 3, none⟩ = some (.int .i64 rtil) := Xr2.at_ 3 _ rfl
    have rz4 : w2.cell? ⟨w.heap.size, 4, none⟩ = some (.int .i64 rwkst) := Xr2.at_ 4 _ rfl
    have rz5 : w2.cell? ⟨w.heap.size, 5, none⟩ = some (.bool rends) := Xr2.at_ 5 _ rfl
    have rz6 : w2.cell? ⟨w.heap.size, 6, none⟩ = some (.slice ra6 rn6 rc6) := Xr2.at_ 6 _ rfl
    have rz7 : w2.cell? ⟨w.heap.size, 7, none⟩ = some (.slice ra7 rn7 rc7) := Xr2.at_ 7 _ rfl
    have rz8 : w2.cell? ⟨w.heap.size, 8, none⟩ = some (.slice ra8 rn8 rc8) := Xr2.at_ 8 _ rfl
    have rz9 : w2.cell? ⟨w.heap.size, 9, none⟩ = some (.slice ra9 rn9 rc9) := Xr2.at_ 9 _ rfl
    have rz10 : w2.cell? ⟨w.heap.size, 10, none⟩ = some (.slice ra10 rn10 rc10) := Xr2.at_ 10 _ rfl
    have rz11 : w2.cell? ⟨w.heap.size, 11, none⟩ = some (.slice ra11 rn11 rc11) := Xr2.at_ 11 _ rfl
    have rz12 : w2.cell? ⟨w.heap.size, 12, none⟩ = some (.slice ra12 rn12 rc12) := Xr2.at_ 12 _ rfl
    have rz13 : w2.cell? ⟨w.heap.size, 13, none⟩ = some (.slice ra13 rn13 rc13) := Xr2.at_ 13 _ rfl
    have rz14 : w2.cell? ⟨w.heap.size, 14, none⟩ = some (.slice ra14 rn14 rc14) := Xr2.at_ 14 _ rfl
    go_wp2_with fail
    refine (list_is _ ⟨ra6, rn6, rc6, ra7, rn7, rc7, ra8, rn8, rc8, ra9, rn9, rc9, ra10, rn10, rc10, ra11, rn11, rc11, ra12, rn12, rc12, ra13, rn13, rc13, ra14, rn14, rc14⟩ ⟨rfreq, ritv, rcnt, rtil, rwkst, rends, rmon, rweek, ryday, rmday, rday, rhour, rminu, rsec, rpos⟩ (start) (end_) (4096) (l, x) (RA.out.below B2) HP.out).mono ?_
    rintro e w3 ⟨A1, c1, he, i3, b3⟩
    replace he : e = .returned (.tuple #[.slice A1 (l : List Int).length c1, .int .i64 x]) := he
    replace i3 : IsAt w3 A1 (l : List Int).length l := i3
    subst he
    clear rz0 rz1 rz2 rz3 rz4 rz5 rz6 rz7 rz8 rz9 rz10 rz11 rz12 rz13 rz14
    have B3 := B2.trans (b3.mono B2.size)
    have Xr3 := Xr2.below b3
    clear B2 Xr2
    clear b3
    have K1 := Lib.hid i3
    clear i3
    obtain ⟨m, hm⟩ : ∃ m, l.length = m := ⟨_, rfl⟩
    have LM := Lib.hid hm
    have lm : (m : Int) ≤ 4096 := by rw [← hm]; exact LB4.out
    rw [hm] at K1 MK LNO ⊢
    clear hm LB4
    by_cases x0 : x = 0
    rotate_left
    · have t0 : (x != 0) = true := by rw [bne_iff_ne]; exact x0
      have m0 : m = 0 := LNO.out x0
      have m1 : ((m : Int) == 0) = true := by rw [beq_iff_eq]; omega
      clear x0 LNO MK m0
      go_wp2_with fail
      refine (first8_is _ (TT.out.on B3)).mono ?_
      rintro e w4 ⟨rfl, b4⟩
      have B4 := B3.trans (b4.mono B3.size)
      have Xr4 := Xr3.below b4
      clear B3 Xr3
      have K1 := Lib.hid (K1.out.below b4)
      clear b4
      go_wp2
      go_ret
      exact ⟨rfl, B4⟩
    have t0 : (x != 0) = false := by rw [bne_eq_false_iff_eq]; exact x0
    have MK := Lib.hid (MK.out x0)
    clear x0 LNO
    go_wp2
    go_loopw [11] (fun i wr => ∃ t : Nat, t ≤ m ∧ i = .int .i64 t ∧ Below w3.heap.size w3 wr) (fun i _ => m - (intOf i).toNat)
    case atStart => exact ⟨0, Nat.zero_le _, rfl, Below.refl _ _⟩
    case round =>
      obtain ⟨t, ht, rfl, b4⟩ := hrel
      rename World => w4
      have B4 := B3.trans (b4.mono B3.size)
      have Xr4 := Xr3.below b4
      clear B3 Xr3
      have K1 := Lib.hid (K1.out.below b4)
      by_cases hlt : t < m
      · obtain ⟨bl, off, ea, ca⟩ := cells_of K1.out (show 0 < m by omega)
        subst ea
        have CA := Lib.hid ca
        have HT := Lib.hid hlt
        obtain ⟨me1, me2, me3⟩ := MK.out.at_ t hlt
        have HH := Lib.hid me3
        have RI := Lib.hid (fun (j : Nat) (e : t = j + 1) => show iat l j < iat l t by subst e; exact MK.out.rise j hlt)
        obtain ⟨g, hg⟩ : ∃ g, iat l t = g := ⟨_, rfl⟩
        have GG := Lib.hid hg
        rw [hg] at me1 me2 HH RI
        have u0 : decide ((t : Int) < m) = true := decide_eq_true (by omega)
        have u00 : decide (t < m) = true := decide_eq_true hlt
        have u1 : decide (m ≤ t) = false := decide_eq_false (by omega)
        have u2 : decide (g < start) = false := decide_eq_false (by omega)
        have u3 : decide (end_ ≤ g) = false := decide_eq_false (by omega)
        have u4 : (t : Int) < m := by omega
        have RA4 := RA.out.below B4
        clear me3 hg ca MK me1 me2
        by_cases c0 : t = 0
        · have v0 : decide ((0 : Int) < (t : Int)) = false := decide_eq_false (by omega)
          have v00 : decide (0 < t) = false := decide_eq_false (by omega)
          have v5 : decide ((t : Int) < 30) = true := decide_eq_true (by omega)
          have v6 : decide (t < 30) = true := decide_eq_true (by omega)
          clear RI c0
          go_upto_region 11 with fail
          refine wp_region_late (fun _ => false) (fun v => Below w4.heap.size w4 v) (by kernel_rfl) ?_
          have D0 : Below w4.heap.size w4 w4.drew := (Below.refl _ _).drew
          refine tk 0 rfl (.int .i64 (t : Int)) (.inl ⟨by kernel_rfl, fun w' hs => ?_⟩) D0 ?_
          · go_simp
          refine tk 1 rfl (.bool false) (.inl ⟨by kernel_rfl, fun w' hs => ?_⟩) D0 ?_
          · go_simp
          refine tk 2 rfl (.bool false) (.inl ⟨by kernel_rfl, fun w' hs => ?_⟩) D0 ?_
          · go_simp
          refine tk 3 rfl (undef) (.inr ⟨by kernel_rfl, rfl⟩) D0 ?_
          refine tk 4 rfl (undef) (.inr ⟨by kernel_rfl, rfl⟩) D0 ?_
          refine tk 5 rfl (undef) (.inr ⟨by kernel_rfl, rfl⟩) D0 ?_
          refine tk 6 rfl (undef) (.inr ⟨by kernel_rfl, rfl⟩) D0 ?_
          refine tk 7 rfl (undef) (.inr ⟨by kernel_rfl, rfl⟩) D0 ?_
          refine tk 8 rfl (undef) (.inr ⟨by kernel_rfl, rfl⟩) D0 ?_
          refine tk 9 rfl (undef) (.inr ⟨by kernel_rfl, rfl⟩) D0 ?_
          refine tk 10 rfl (undef) (.inr ⟨by kernel_rfl, rfl⟩) D0 ?_
          refine tk 11 rfl (undef) (.inr ⟨by kernel_rfl, rfl⟩) D0 ?_
          refine tk 12 rfl (undef) (.inr ⟨by kernel_rfl, rfl⟩) D0 ?_
          refine tk 13 rfl (.bool false) (.inl ⟨by kernel_rfl, fun w' hs => ?_⟩) D0 ?_
          · go_simp
          refine tk 14 rfl (.bool false) (.inl ⟨by kernel_rfl, fun w' hs => ?_⟩) D0 ?_
          · go_simp
          refine tk 15 rfl (.slice (some ⟨bl, off, none⟩) m c1) (.inl ⟨by kernel_rfl, fun w' hs => ?_⟩) D0 ?_
          · go_simp
          refine tk 16 rfl (.int .i64 (t : Int)) (.inl ⟨by kernel_rfl, fun w' hs => ?_⟩) D0 ?_
          · go_simp
          refine tk 17 rfl (.pointer (some ⟨bl, off + t, none⟩)) (.inl ⟨by kernel_rfl, fun w' hs => ?_⟩) D0 ?_
          · go_simp
          refine tk 18 rfl (.int .i64 g) (.inl ⟨by kernel_rfl, fun w' hs => ?_⟩) D0 ?_
          · have zz : w'.cell? ⟨bl, off + t, none⟩ = some (.int .i64 g) := by rw [← GG.out]; exact (CA.out.below hs).at_ t HT.out
            go_simp
          refine tk 19 rfl (.int .i64 start) (.inl ⟨by kernel_rfl, fun w' hs => ?_⟩) D0 ?_
          · go_simp
          refine tk 20 rfl (.bool false) (.inl ⟨by kernel_rfl, fun w' hs => ?_⟩) D0 ?_
          · go_simp
          refine tk 21 rfl (.bool false) (.inl ⟨by kernel_rfl, fun w' hs => ?_⟩) D0 ?_
          · go_simp
          refine tk 22 rfl (.bool false) (.inl ⟨by kernel_rfl, fun w' hs => ?_⟩) D0 ?_
          · go_simp
          refine tk 23 rfl (.slice (some ⟨bl, off, none⟩) m c1) (.inl ⟨by kernel_rfl, fun w' hs => ?_⟩) D0 ?_
          · go_simp
          refine tk 24 rfl (.int .i64 (t : Int)) (.inl ⟨by kernel_rfl, fun w' hs => ?_⟩) D0 ?_
          · go_simp
          refine tk 25 rfl (.pointer (some ⟨bl, off + t, none⟩)) (.inl ⟨by kernel_rfl, fun w' hs => ?_⟩) D0 ?_
          · go_simp
          refine tk 26 rfl (.int .i64 g) (.inl ⟨by kernel_rfl, fun w' hs => ?_⟩) D0 ?_
          · have zz : w'.cell? ⟨bl, off + t, none⟩ = some (.int .i64 g) := by rw [← GG.out]; exact (CA.out.below hs).at_ t HT.out
            go_simp
          refine tk 27 rfl (.int .i64 end_) (.inl ⟨by kernel_rfl, fun w' hs => ?_⟩) D0 ?_
          · go_simp
          refine tk 28 rfl (.bool false) (.inl ⟨by kernel_rfl, fun w' hs => ?_⟩) D0 ?_
          · go_simp
          refine tk 29 rfl (.bool false) (.inl ⟨by kernel_rfl, fun w' hs => ?_⟩) D0 ?_
          · go_simp
          refine tk 30 rfl (.bool false) (.inl ⟨by kernel_rfl, fun w' hs => ?_⟩) D0 ?_
          · go_simp
          refine tk 31 rfl (.int .i64 (t : Int)) (.inl ⟨by kernel_rfl, fun w' hs => ?_⟩) D0 ?_
          · go_simp
          refine tk 32 rfl (.bool true) (.inl ⟨by kernel_rfl, fun w' hs => ?_⟩) D0 ?_
          · go_simp
          refine tk 33 rfl (.bool true) (.inl ⟨by kernel_rfl, fun w' hs => ?_⟩) D0 ?_
          · go_simp
          refine tk 34 rfl (.agg #[.int .i64 rfreq, .int .i64 ritv, .int .i64 rcnt, .int .i64 rtil, .int .i64 rwkst, .bool rends, .slice ra6 rn6 rc6, .slice ra7 rn7 rc7, .slice ra8 rn8 rc8, .slice ra9 rn9 rc9, .slice ra10 rn10 rc10, .slice ra11 rn11 rc11, .slice ra12 rn12 rc12, .slice ra13 rn13 rc13, .slice ra14 rn14 rc14]) (.inl ⟨by kernel_rfl, fun w' hs => ?_⟩) D0 ?_
          · have XQ := Xr4.below hs
            have z0 : w'.cell? ⟨w.heap.size, 0, none⟩ = some (.int .i64 rfreq) := XQ.at_ 0 _ rfl
            have z1 : w'.cell? ⟨w.heap.size, 1, none⟩ = some (.int .i64 ritv) := XQ.at_ 1 _ rfl
            have z2 : w'.cell? ⟨w.heap.size, 2, none⟩ = some (.int .i64 rcnt) := XQ.at_ 2 _ rfl
            have z3 : w'.cell? ⟨w.heap.size, 3, none⟩ = some (.int .i64 rtil) := XQ.at_ 3 _ rfl
            have z4 : w'.cell? ⟨w.heap.size, 4, none⟩ = some (.int .i64 rwkst) := XQ.at_ 4 _ rfl
            have z5 : w'.cell? ⟨w.heap.size, 5, none⟩ = some (.bool rends) := XQ.at_ 5 _ rfl
            have z6 : w'.cell? ⟨w.heap.size, 6, none⟩ = some (.slice ra6 rn6 rc6) := XQ.at_ 6 _ rfl
            have z7 : w'.cell? ⟨w.heap.size, 7, none⟩ = some (.slice ra7 rn7 rc7) := XQ.at_ 7 _ rfl
            have z8 : w'.cell? ⟨w.heap.size, 8, none⟩ = some (.slice ra8 rn8 rc8) := XQ.at_ 8 _ rfl
            have z9 : w'.cell? ⟨w.heap.size, 9, none⟩ = some (.slice ra9 rn9 rc9) := XQ.at_ 9 _ rfl
            have z10 : w'.cell? ⟨w.heap.size, 10, none⟩ = some (.slice ra10 rn10 rc10) := XQ.at_ 10 _ rfl
            have z11 : w'.cell? ⟨w.heap.size, 11, none⟩ = some (.slice ra11 rn11 rc11) := XQ.at_ 11 _ rfl
            have z12 : w'.cell? ⟨w.heap.size, 12, none⟩ = some (.slice ra12 rn12 rc12) := XQ.at_ 12 _ rfl
            have z13 : w'.cell? ⟨w.heap.size, 13, none⟩ = some (.slice ra13 rn13 rc13) := XQ.at_ 13 _ rfl
            have z14 : w'.cell? ⟨w.heap.size, 14, none⟩ = some (.slice ra14 rn14 rc14) := XQ.at_ 14 _ rfl
            clear XQ
            go_simp
          refine tk 35 rfl (.int .i64 start) (.inl ⟨by kernel_rfl, fun w' hs => ?_⟩) D0 ?_
          · go_simp
          refine tk 36 rfl (.slice (some ⟨bl, off, none⟩) m c1) (.inl ⟨by kernel_rfl, fun w' hs => ?_⟩) D0 ?_
          · go_simp
          refine tk 37 rfl (.int .i64 (t : Int)) (.inl ⟨by kernel_rfl, fun w' hs => ?_⟩) D0 ?_
          · go_simp
          refine tk 38 rfl (.pointer (some ⟨bl, off + t, none⟩)) (.inl ⟨by kernel_rfl, fun w' hs => ?_⟩) D0 ?_
          · go_simp
          refine tk 39 rfl (.int .i64 g) (.inl ⟨by kernel_rfl, fun w' hs => ?_⟩) D0 ?_
          · have zz : w'.cell? ⟨bl, off + t, none⟩ = some (.int .i64 g) := by rw [← GG.out]; exact (CA.out.below hs).at_ t HT.out
            go_simp
          refine late_oneG 40 rfl (by kernel_rfl) (by kernel_rfl) ?_
          go_simp
          refine (has_is _ ⟨ra6, rn6, rc6, ra7, rn7, rc7, ra8, rn8, rc8, ra9, rn9, rc9, ra10, rn10, rc10, ra11, rn11, rc11, ra12, rn12, rc12, ra13, rn13, rc13, ra14, rn14, rc14⟩ ⟨rfreq, ritv, rcnt, rtil, rwkst, rends, rmon, rweek, ryday, rmday, rday, rhour, rminu, rsec, rpos⟩ start g true (RA4.below D0) HH.out).mono ?_
          rintro e w5 ⟨rfl, y5⟩
          have b5 := D0.trans (y5.mono D0.size)
          refine ⟨by first | exact b5 | exact .inr b5, ?_⟩
          refine tk 41 rfl (.bool false) (.inl ⟨by kernel_rfl, fun w' hs => ?_⟩) b5 ?_
          · go_simp
          refine tk 42 rfl (.bool false) (.inl ⟨by kernel_rfl, fun w' hs => ?_⟩) b5 ?_
          · go_simp
          refine tk 43 rfl (.bool false) (.inl ⟨by kernel_rfl, fun w' hs => ?_⟩) b5 ?_
          · go_simp
          refine Late.done (by kernel_rfl) ?_
          have bz := b4.trans (b5.mono b4.size)
          go_wp2
          go_roundw
          case rel => exact ⟨t + 1, by omega, by go_num, bz⟩
          case measure => simp [intOf]; omega
        · obtain ⟨j, ej⟩ : ∃ j, t = j + 1 := ⟨t - 1, by omega⟩
          have EJ := Lib.hid ej
          have rj := RI.out j ej
          obtain ⟨h, hh⟩ : ∃ h, iat l j = h := ⟨_, rfl⟩
          have HJ := Lib.hid hh
          rw [hh] at rj
          have v0 : decide ((0 : Int) < (t : Int)) = true := decide_eq_true (by omega)
          have v00 : decide (0 < t) = true := decide_eq_true (by omega)
          have v1 : decide (m ≤ j) = false := decide_eq_false (by omega)
          have v2 : decide (g ≤ h) = false := decide_eq_false (by omega)
          have v3 : IntKind.i64.wrap ((t : Int) - 1) = (j : Int) := by rw [IntWalk.i64_in _ (by omega)]; omega
          have v4 : (j : Int) < m := by omega
          clear ej hh rj RI c0
          by_cases c3 : t < 30
          · have v5 : decide ((t : Int) < 30) = true := decide_eq_true (by omega)
            have v6 : decide (t < 30) = true := decide_eq_true c3
            clear c3
            go_upto_region 11 with fail
            refine wp_region_late (fun _ => false) (fun v => Below w4.heap.size w4 v) (by kernel_rfl) ?_
            have D0 : Below w4.heap.size w4 w4.drew := (Below.refl _ _).drew
            refine tk 0 rfl (.int .i64 (t : Int)) (.inl ⟨by kernel_rfl, fun w' hs => ?_⟩) D0 ?_
            · go_simp
            refine tk 1 rfl (.bool true) (.inl ⟨by kernel_rfl, fun w' hs => ?_⟩) D0 ?_
            · go_simp
            refine tk 2 rfl (.bool true) (.inl ⟨by kernel_rfl, fun w' hs => ?_⟩) D0 ?_
            · go_simp
            refine tk 3 rfl (.slice (some ⟨bl, off, none⟩) m c1) (.inl ⟨by kernel_rfl, fun w' hs => ?_⟩) D0 ?_
            · go_simp
            refine tk 4 rfl (.int .i64 (t : Int)) (.inl ⟨by kernel_rfl, fun w' hs => ?_⟩) D0 ?_
            · go_simp
            refine tk 5 rfl (.pointer (some ⟨bl, off + t, none⟩)) (.inl ⟨by kernel_rfl, fun w' hs => ?_⟩) D0 ?_
            · go_simp
            refine tk 6 rfl (.int .i64 g) (.inl ⟨by kernel_rfl, fun w' hs => ?_⟩) D0 ?_
            · have zz : w'.cell? ⟨bl, off + t, none⟩ = some (.int .i64 g) := by rw [← GG.out]; exact (CA.out.below hs).at_ t HT.out
              go_simp
            refine tk 7 rfl (.slice (some ⟨bl, off, none⟩) m c1) (.inl ⟨by kernel_rfl, fun w' hs => ?_⟩) D0 ?_
            · go_simp
            refine tk 8 rfl (.int .i64 (t : Int)) (.inl ⟨by kernel_rfl, fun w' hs => ?_⟩) D0 ?_
            · go_simp
            refine tk 9 rfl (.int .i64 (j : Int)) (.inl ⟨by kernel_rfl, fun w' hs => ?_⟩) D0 ?_
            · go_simp
            refine tk 10 rfl (.pointer (some ⟨bl, off + j, none⟩)) (.inl ⟨by kernel_rfl, fun w' hs => ?_⟩) D0 ?_
            · go_simp
            refine tk 11 rfl (.int .i64 h) (.inl ⟨by kernel_rfl, fun w' hs => ?_⟩) D0 ?_
            · have zz : w'.cell? ⟨bl, off + j, none⟩ = some (.int .i64 h) := by rw [← HJ.out]; exact (CA.out.below hs).at_ j (by have := HT.out; have := EJ.out; omega)
              go_simp
            refine tk 12 rfl (.bool false) (.inl ⟨by kernel_rfl, fun w' hs => ?_⟩) D0 ?_
            · go_simp
            refine tk 13 rfl (.bool false) (.inl ⟨by kernel_rfl, fun w' hs => ?_⟩) D0 ?_
            · go_simp
            refine tk 14 rfl (.bool false) (.inl ⟨by kernel_rfl, fun w' hs => ?_⟩) D0 ?_
            · go_simp
            refine tk 15 rfl (.slice (some ⟨bl, off, none⟩) m c1) (.inl ⟨by kernel_rfl, fun w' hs => ?_⟩) D0 ?_
            · go_simp
            refine tk 16 rfl (.int .i64 (t : Int)) (.inl ⟨by kernel_rfl, fun w' hs => ?_⟩) D0 ?_
            · go_simp
            refine tk 17 rfl (.pointer (some ⟨bl, off + t, none⟩)) (.inl ⟨by kernel_rfl, fun w' hs => ?_⟩) D0 ?_
            · go_simp
            refine tk 18 rfl (.int .i64 g) (.inl ⟨by kernel_rfl, fun w' hs => ?_⟩) D0 ?_
            · have zz : w'.cell? ⟨bl, off + t, none⟩ = some (.int .i64 g) := by rw [← GG.out]; exact (CA.out.below hs).at_ t HT.out
              go_simp
            refine tk 19 rfl (.int .i64 start) (.inl ⟨by kernel_rfl, fun w' hs => ?_⟩) D0 ?_
            · go_simp
            refine tk 20 rfl (.bool false) (.inl ⟨by kernel_rfl, fun w' hs => ?_⟩) D0 ?_
            · go_simp
            refine tk 21 rfl (.bool false) (.inl ⟨by kernel_rfl, fun w' hs => ?_⟩) D0 ?_
            · go_simp
            refine tk 22 rfl (.bool false) (.inl ⟨by kernel_rfl, fun w' hs => ?_⟩) D0 ?_
            · go_simp
            refine tk 23 rfl (.slice (some ⟨bl, off, none⟩) m c1) (.inl ⟨by kernel_rfl, fun w' hs => ?_⟩) D0 ?_
            · go_simp
            refine tk 24 rfl (.int .i64 (t : Int)) (.inl ⟨by kernel_rfl, fun w' hs => ?_⟩) D0 ?_
            · go_simp
            refine tk 25 rfl (.pointer (some ⟨bl, off + t, none⟩)) (.inl ⟨by kernel_rfl, fun w' hs => ?_⟩) D0 ?_
            · go_simp
            refine tk 26 rfl (.int .i64 g) (.inl ⟨by kernel_rfl, fun w' hs => ?_⟩) D0 ?_
            · have zz : w'.cell? ⟨bl, off + t, none⟩ = some (.int .i64 g) := by rw [← GG.out]; exact (CA.out.below hs).at_ t HT.out
              go_simp
            refine tk 27 rfl (.int .i64 end_) (.inl ⟨by kernel_rfl, fun w' hs => ?_⟩) D0 ?_
            · go_simp
            refine tk 28 rfl (.bool false) (.inl ⟨by kernel_rfl, fun w' hs => ?_⟩) D0 ?_
            · go_simp
            refine tk 29 rfl (.bool false) (.inl ⟨by kernel_rfl, fun w' hs => ?_⟩) D0 ?_
            · go_simp
            refine tk 30 rfl (.bool false) (.inl ⟨by kernel_rfl, fun w' hs => ?_⟩) D0 ?_
            · go_simp
            refine tk 31 rfl (.int .i64 (t : Int)) (.inl ⟨by kernel_rfl, fun w' hs => ?_⟩) D0 ?_
            · go_simp
            refine tk 32 rfl (.bool true) (.inl ⟨by kernel_rfl, fun w' hs => ?_⟩) D0 ?_
            · go_simp
            refine tk 33 rfl (.bool true) (.inl ⟨by kernel_rfl, fun w' hs => ?_⟩) D0 ?_
            · go_simp
            refine tk 34 rfl (.agg #[.int .i64 rfreq, .int .i64 ritv, .int .i64 rcnt, .int .i64 rtil, .int .i64 rwkst, .bool rends, .slice ra6 rn6 rc6, .slice ra7 rn7 rc7, .slice ra8 rn8 rc8, .slice ra9 rn9 rc9, .slice ra10 rn10 rc10, .slice ra11 rn11 rc11, .slice ra12 rn12 rc12, .slice ra13 rn13 rc13, .slice ra14 rn14 rc14]) (.inl ⟨by kernel_rfl, fun w' hs => ?_⟩) D0 ?_
            · have XQ := Xr4.below hs
              have z0 : w'.cell? ⟨w.heap.size, 0, none⟩ = some (.int .i64 rfreq) := XQ.at_ 0 _ rfl
              have z1 : w'.cell? ⟨w.heap.size, 1, none⟩ = some (.int .i64 ritv) := XQ.at_ 1 _ rfl
              have z2 : w'.cell? ⟨w.heap.size, 2, none⟩ = some (.int .i64 rcnt) := XQ.at_ 2 _ rfl
              have z3 : w'.cell? ⟨w.heap.size, 3, none⟩ = some (.int .i64 rtil) := XQ.at_ 3 _ rfl
              have z4 : w'.cell? ⟨w.heap.size, 4, none⟩ = some (.int .i64 rwkst) := XQ.at_ 4 _ rfl
              have z5 : w'.cell? ⟨w.heap.size, 5, none⟩ = some (.bool rends) := XQ.at_ 5 _ rfl
              have z6 : w'.cell? ⟨w.heap.size, 6, none⟩ = some (.slice ra6 rn6 rc6) := XQ.at_ 6 _ rfl
              have z7 : w'.cell? ⟨w.heap.size, 7, none⟩ = some (.slice ra7 rn7 rc7) := XQ.at_ 7 _ rfl
              have z8 : w'.cell? ⟨w.heap.size, 8, none⟩ = some (.slice ra8 rn8 rc8) := XQ.at_ 8 _ rfl
              have z9 : w'.cell? ⟨w.heap.size, 9, none⟩ = some (.slice ra9 rn9 rc9) := XQ.at_ 9 _ rfl
              have z10 : w'.cell? ⟨w.heap.size, 10, none⟩ = some (.slice ra10 rn10 rc10) := XQ.at_ 10 _ rfl
              have z11 : w'.cell? ⟨w.heap.size, 11, none⟩ = some (.slice ra11 rn11 rc11) := XQ.at_ 11 _ rfl
              have z12 : w'.cell? ⟨w.heap.size, 12, none⟩ = some (.slice ra12 rn12 rc12) := XQ.at_ 12 _ rfl
              have z13 : w'.cell? ⟨w.heap.size, 13, none⟩ = some (.slice ra13 rn13 rc13) := XQ.at_ 13 _ rfl
              have z14 : w'.cell? ⟨w.heap.size, 14, none⟩ = some (.slice ra14 rn14 rc14) := XQ.at_ 14 _ rfl
              clear XQ
              go_simp
            refine tk 35 rfl (.int .i64 start) (.inl ⟨by kernel_rfl, fun w' hs => ?_⟩) D0 ?_
            · go_simp
            refine tk 36 rfl (.slice (some ⟨bl, off, none⟩) m c1) (.inl ⟨by kernel_rfl, fun w' hs => ?_⟩) D0 ?_
            · go_simp
            refine tk 37 rfl (.int .i64 (t : Int)) (.inl ⟨by kernel_rfl, fun w' hs => ?_⟩) D0 ?_
            · go_simp
            refine tk 38 rfl (.pointer (some ⟨bl, off + t, none⟩)) (.inl ⟨by kernel_rfl, fun w' hs => ?_⟩) D0 ?_
            · go_simp
            refine tk 39 rfl (.int .i64 g) (.inl ⟨by kernel_rfl, fun w' hs => ?_⟩) D0 ?_
            · have zz : w'.cell? ⟨bl, off + t, none⟩ = some (.int .i64 g) := by rw [← GG.out]; exact (CA.out.below hs).at_ t HT.out
              go_simp
            refine late_oneG 40 rfl (by kernel_rfl) (by kernel_rfl) ?_
            go_simp
            refine (has_is _ ⟨ra6, rn6, rc6, ra7, rn7, rc7, ra8, rn8, rc8, ra9, rn9, rc9, ra10, rn10, rc10, ra11, rn11, rc11, ra12, rn12, rc12, ra13, rn13, rc13, ra14, rn14, rc14⟩ ⟨rfreq, ritv, rcnt, rtil, rwkst, rends, rmon, rweek, ryday, rmday, rday, rhour, rminu, rsec, rpos⟩ start g true (RA4.below D0) HH.out).mono ?_
            rintro e w5 ⟨rfl, y5⟩
            have b5 := D0.trans (y5.mono D0.size)
            refine ⟨by first | exact b5 | exact .inr b5, ?_⟩
            refine tk 41 rfl (.bool false) (.inl ⟨by kernel_rfl, fun w' hs => ?_⟩) b5 ?_
            · go_simp
            refine tk 42 rfl (.bool false) (.inl ⟨by kernel_rfl, fun w' hs => ?_⟩) b5 ?_
            · go_simp
            refine tk 43 rfl (.bool false) (.inl ⟨by kernel_rfl, fun w' hs => ?_⟩) b5 ?_
            · go_simp
            refine Late.done (by kernel_rfl) ?_
            have bz := b4.trans (b5.mono b4.size)
            go_wp2
            go_roundw
            case rel => exact ⟨t + 1, by omega, by go_num, bz⟩
            case measure => simp [intOf]; omega
          · have v5 : decide ((t : Int) < 30) = false := decide_eq_false (by omega)
            have v6 : decide (t < 30) = false := decide_eq_false c3
            clear c3
            go_upto_region 11 with fail
            refine wp_region_late (fun _ => false) (fun v => Below w4.heap.size w4 v) (by kernel_rfl) ?_
            have D0 : Below w4.heap.size w4 w4.drew := (Below.refl _ _).drew
            refine tk 0 rfl (.int .i64 (t : Int)) (.inl ⟨by kernel_rfl, fun w' hs => ?_⟩) D0 ?_
            · go_simp
            refine tk 1 rfl (.bool true) (.inl ⟨by kernel_rfl, fun w' hs => ?_⟩) D0 ?_
            · go_simp
            refine tk 2 rfl (.bool true) (.inl ⟨by kernel_rfl, fun w' hs => ?_⟩) D0 ?_
            · go_simp
            refine tk 3 rfl (.slice (some ⟨bl, off, none⟩) m c1) (.inl ⟨by kernel_rfl, fun w' hs => ?_⟩) D0 ?_
            · go_simp
            refine tk 4 rfl (.int .i64 (t : Int)) (.inl ⟨by kernel_rfl, fun w' hs => ?_⟩) D0 ?_
            · go_simp
            refine tk 5 rfl (.pointer (some ⟨bl, off + t, none⟩)) (.inl ⟨by kernel_rfl, fun w' hs => ?_⟩) D0 ?_
            · go_simp
            refine tk 6 rfl (.int .i64 g) (.inl ⟨by kernel_rfl, fun w' hs => ?_⟩) D0 ?_
            · have zz : w'.cell? ⟨bl, off + t, none⟩ = some (.int .i64 g) := by rw [← GG.out]; exact (CA.out.below hs).at_ t HT.out
              go_simp
            refine tk 7 rfl (.slice (some ⟨bl, off, none⟩) m c1) (.inl ⟨by kernel_rfl, fun w' hs => ?_⟩) D0 ?_
            · go_simp
            refine tk 8 rfl (.int .i64 (t : Int)) (.inl ⟨by kernel_rfl, fun w' hs => ?_⟩) D0 ?_
            · go_simp
            refine tk 9 rfl (.int .i64 (j : Int)) (.inl ⟨by kernel_rfl, fun w' hs => ?_⟩) D0 ?_
            · go_simp
            refine tk 10 rfl (.pointer (some ⟨bl, off + j, none⟩)) (.inl ⟨by kernel_rfl, fun w' hs => ?_⟩) D0 ?_
            · go_simp
            refine tk 11 rfl (.int .i64 h) (.inl ⟨by kernel_rfl, fun w' hs => ?_⟩) D0 ?_
            · have zz : w'.cell? ⟨bl, off + j, none⟩ = some (.int .i64 h) := by rw [← HJ.out]; exact (CA.out.below hs).at_ j (by have := HT.out; have := EJ.out; omega)
              go_simp
            refine tk 12 rfl (.bool false) (.inl ⟨by kernel_rfl, fun w' hs => ?_⟩) D0 ?_
            · go_simp
            refine tk 13 rfl (.bool false) (.inl ⟨by kernel_rfl, fun w' hs => ?_⟩) D0 ?_
            · go_simp
            refine tk 14 rfl (.bool false) (.inl ⟨by kernel_rfl, fun w' hs => ?_⟩) D0 ?_
            · go_simp
            refine tk 15 rfl (.slice (some ⟨bl, off, none⟩) m c1) (.inl ⟨by kernel_rfl, fun w' hs => ?_⟩) D0 ?_
            · go_simp
            refine tk 16 rfl (.int .i64 (t : Int)) (.inl ⟨by kernel_rfl, fun w' hs => ?_⟩) D0 ?_
            · go_simp
            refine tk 17 rfl (.pointer (some ⟨bl, off + t, none⟩)) (.inl ⟨by kernel_rfl, fun w' hs => ?_⟩) D0 ?_
            · go_simp
            refine tk 18 rfl (.int .i64 g) (.inl ⟨by kernel_rfl, fun w' hs => ?_⟩) D0 ?_
            · have zz : w'.cell? ⟨bl, off + t, none⟩ = some (.int .i64 g) := by rw [← GG.out]; exact (CA.out.below hs).at_ t HT.out
              go_simp
            refine tk 19 rfl (.int .i64 start) (.inl ⟨by kernel_rfl, fun w' hs => ?_⟩) D0 ?_
            · go_simp
            refine tk 20 rfl (.bool false) (.inl ⟨by kernel_rfl, fun w' hs => ?_⟩) D0 ?_
            · go_simp
            refine tk 21 rfl (.bool false) (.inl ⟨by kernel_rfl, fun w' hs => ?_⟩) D0 ?_
            · go_simp
            refine tk 22 rfl (.bool false) (.inl ⟨by kernel_rfl, fun w' hs => ?_⟩) D0 ?_
            · go_simp
            refine tk 23 rfl (.slice (some ⟨bl, off, none⟩) m c1) (.inl ⟨by kernel_rfl, fun w' hs => ?_⟩) D0 ?_
            · go_simp
            refine tk 24 rfl (.int .i64 (t : Int)) (.inl ⟨by kernel_rfl, fun w' hs => ?_⟩) D0 ?_
            · go_simp
            refine tk 25 rfl (.pointer (some ⟨bl, off + t, none⟩)) (.inl ⟨by kernel_rfl, fun w' hs => ?_⟩) D0 ?_
            · go_simp
            refine tk 26 rfl (.int .i64 g) (.inl ⟨by kernel_rfl, fun w' hs => ?_⟩) D0 ?_
            · have zz : w'.cell? ⟨bl, off + t, none⟩ = some (.int .i64 g) := by rw [← GG.out]; exact (CA.out.below hs).at_ t HT.out
              go_simp
            refine tk 27 rfl (.int .i64 end_) (.inl ⟨by kernel_rfl, fun w' hs => ?_⟩) D0 ?_
            · go_simp
            refine tk 28 rfl (.bool false) (.inl ⟨by kernel_rfl, fun w' hs => ?_⟩) D0 ?_
            · go_simp
            refine tk 29 rfl (.bool false) (.inl ⟨by kernel_rfl, fun w' hs => ?_⟩) D0 ?_
            · go_simp
            refine tk 30 rfl (.bool false) (.inl ⟨by kernel_rfl, fun w' hs => ?_⟩) D0 ?_
            · go_simp
            refine tk 31 rfl (.int .i64 (t : Int)) (.inl ⟨by kernel_rfl, fun w' hs => ?_⟩) D0 ?_
            · go_simp
            refine tk 32 rfl (.bool false) (.inl ⟨by kernel_rfl, fun w' hs => ?_⟩) D0 ?_
            · go_simp
            refine tk 33 rfl (.bool false) (.inl ⟨by kernel_rfl, fun w' hs => ?_⟩) D0 ?_
            · go_simp
            refine tk 34 rfl (undef) (.inr ⟨by kernel_rfl, rfl⟩) D0 ?_
            refine tk 35 rfl (undef) (.inr ⟨by kernel_rfl, rfl⟩) D0 ?_
            refine tk 36 rfl (undef) (.inr ⟨by kernel_rfl, rfl⟩) D0 ?_
            refine tk 37 rfl (undef) (.inr ⟨by kernel_rfl, rfl⟩) D0 ?_
            refine tk 38 rfl (undef) (.inr ⟨by kernel_rfl, rfl⟩) D0 ?_
            refine tk 39 rfl (undef) (.inr ⟨by kernel_rfl, rfl⟩) D0 ?_
            refine tk 40 rfl (undef) (.inr ⟨by kernel_rfl, rfl⟩) D0 ?_
            refine tk 41 rfl (undef) (.inr ⟨by kernel_rfl, rfl⟩) D0 ?_
            refine tk 42 rfl (.bool false) (.inl ⟨by kernel_rfl, fun w' hs => ?_⟩) D0 ?_
            · go_simp
            refine tk 43 rfl (.bool false) (.inl ⟨by kernel_rfl, fun w' hs => ?_⟩) D0 ?_
            · go_simp
            go_simp
            refine Late.done (by kernel_rfl) ?_
            generalize w4.drew = w5 at *
            have bz := b4.trans (D0.mono b4.size)
            go_wp2
            go_roundw
            case rel => exact ⟨t + 1, by omega, by go_num, bz⟩
            case measure => simp [intOf]; omega
      · obtain rfl : m = t := by omega
        have u0 : decide ((m : Int) < m) = false := decide_eq_false (by omega)
        clear b4
        obtain ⟨q, hq⟩ : ∃ q, decide (tm ∈ l) = q := ⟨_, rfl⟩
        have HQ := Lib.hid hq
        obtain ⟨b, hb⟩ : ∃ b, hasM ⟨rfreq, ritv, rcnt, rtil, rwkst, rends, rmon, rweek, ryday, rmday, rday, rhour, rminu, rsec, rpos⟩ start tm = b := ⟨_, rfl⟩
        have HBM := Lib.hid hb
        have i1 := MK.out.in_
        have i2 := MK.out.out_
        have i3 := MK.out.cnt
        have i4 := MK.out.pos
        rw [hq, hb] at i1 i2
        simp only at i2 i3 i4
        have I1 := Lib.hid i1
        have I2 := Lib.hid i2
        have I3 := Lib.hid i3
        have I4 := Lib.hid i4
        clear i1 i2 i3 i4 hq hb MK
        go_wp2_with fail
        refine (vhas8_is _ A1 m c1 l tm K1.out (by omega) q HQ.out).mono ?_
        rintro e w5 ⟨rfl, b5⟩
        have B5 := B4.trans (b5.mono B4.size)
        have Xr5 := Xr4.below b5
        clear B4 Xr4
        have K1 := Lib.hid (K1.out.below b5)
        clear b5
        obtain ⟨bb, hbb⟩ : ∃ c, (decide (tm < end_) && b) = c := ⟨_, rfl⟩
        have HBB := Lib.hid hbb
        have J1 := Lib.hid (fun (e : q = true) => show bb = true by
          rw [← hbb, decide_eq_true (I1.out e).1, (I1.out e).2]
          rfl)
        have J2 := Lib.hid (fun (e : bb = true) (f : q = false) => show 0 < rcnt ∧ (m : Int) = rcnt ∧ (m = 0 ∨ iat l (m - 1) < tm) by
          rw [← hbb, Bool.and_eq_true] at e
          exact I2.out (of_decide_eq_true e.1) e.2 f)
        clear I1 I2 hbb
        go_upto_region 14 with fail
        go_cut [13] from 91 to 99 (fun s wx => s = .bool bb ∧ Below w5.heap.size w5 wx)
        case first =>
          by_cases te : tm < end_
          · have e1 : decide (tm < end_) = true := decide_eq_true te
            have e2 := HBB.out
            rw [e1, Bool.true_and] at e2
            clear te
            have rz0 : w5.cell? ⟨w.heap.size, 0, none⟩ = some (.int .i64 rfreq) := Xr5.at_ 0 _ rfl
            have rz1 : w5.cell? ⟨w.heap.size, 1, none⟩ = some (.int .i64 ritv) := Xr5.at_ 1 _ rfl
            have rz2 : w5.cell? ⟨w.heap.size, 2, none⟩ = some (.int .i64 rcnt) := Xr5.at_ 2 _ rfl
            have rz3 : w5.cell? ⟨w.heap.size, 3, none⟩ = some (.int .i64 rtil) := Xr5.at_ 3 _ rfl
            have rz4 : w5.cell? ⟨w.heap.size, 4, none⟩ = some (.int .i64 rwkst) := Xr5.at_ 4 _ rfl
            have rz5 : w5.cell? ⟨w.heap.size, 5, none⟩ = some (.bool rends) := Xr5.at_ 5 _ rfl
            have rz6 : w5.cell? ⟨w.heap.size, 6, none⟩ = some (.slice ra6 rn6 rc6) := Xr5.at_ 6 _ rfl
            have rz7 : w5.cell? ⟨w.heap.size, 7, none⟩ = some (.slice ra7 rn7 rc7) := Xr5.at_ 7 _ rfl
            have rz8 : w5.cell? ⟨w.heap.size, 8, none⟩ = some (.slice ra8 rn8 rc8) := Xr5.at_ 8 _ rfl
            have rz9 : w5.cell? ⟨w.heap.size, 9, none⟩ = some (.slice ra9 rn9 rc9) := Xr5.at_ 9 _ rfl
            have rz10 : w5.cell? ⟨w.heap.size, 10, none⟩ = some (.slice ra10 rn10 rc10) := Xr5.at_ 10 _ rfl
            have rz11 : w5.cell? ⟨w.heap.size, 11, none⟩ = some (.slice ra11 rn11 rc11) := Xr5.at_ 11 _ rfl
            have rz12 : w5.cell? ⟨w.heap.size, 12, none⟩ = some (.slice ra12 rn12 rc12) := Xr5.at_ 12 _ rfl
            have rz13 : w5.cell? ⟨w.heap.size, 13, none⟩ = some (.slice ra13 rn13 rc13) := Xr5.at_ 13 _ rfl
            have rz14 : w5.cell? ⟨w.heap.size, 14, none⟩ = some (.slice ra14 rn14 rc14) := Xr5.at_ 14 _ rfl
            go_wp2_with fail
            refine (has_is _ ⟨ra6, rn6, rc6, ra7, rn7, rc7, ra8, rn8, rc8, ra9, rn9, rc9, ra10, rn10, rc10, ra11, rn11, rc11, ra12, rn12, rc12, ra13, rn13, rc13, ra14, rn14, rc14⟩ ⟨rfreq, ritv, rcnt, rtil, rwkst, rends, rmon, rweek, ryday, rmday, rday, rhour, rminu, rsec, rpos⟩ start tm b (RA.out.below B5) HBM.out).mono ?_
            rintro e w6 ⟨rfl, b6⟩
            subst e2
            go_wp2
            go_meet
            exact ⟨rfl, b6⟩
          · have e1 : decide (tm < end_) = false := decide_eq_false te
            have e2 := HBB.out
            rw [e1, Bool.false_and] at e2
            clear te
            subst e2
            go_wp2
            go_meet
            exact ⟨rfl, Below.refl _ _⟩
        case rest =>
          obtain ⟨rfl, b6⟩ := hcut
          rename World => w6
          have B6 := B5.trans (b6.mono B5.size)
          have Xr6 := Xr5.below b6
          clear B5 Xr5
          have K1 := Lib.hid (K1.out.below b6)
          clear b6 HBM HBB HQ
          go_upto_region 15 with fail
          go_cut [14] from 100 to 124 (fun s wx => ∃ c : Bool, s = .bool c ∧ wx = w6 ∧ Hid (0 < rcnt ∧ (m : Int) = rcnt ∧ (m = 0 ∨ iat l (m - 1) < tm) → c = true))
          case first =>
            have rz2 : w6.cell? ⟨w.heap.size, 2, none⟩ = some (.int .i64 rcnt) := Xr6.at_ 2 _ rfl
            by_cases c0 : 0 < rcnt
            rotate_left
            · have f1 : decide ((0 : Int) < rcnt) = false := decide_eq_false c0
              have G := Lib.hid c0
              clear c0
              go_wp2
              go_meet
              exact ⟨false, rfl, rfl, Lib.hid (fun h => absurd h.1 (by have := G.out; omega))⟩
            have f1 : decide ((0 : Int) < rcnt) = true := decide_eq_true c0
            clear c0
            by_cases c1 : (m : Int) = rcnt
            rotate_left
            · have f2 : ((m : Int) == rcnt) = false := by rw [beq_eq_false_iff_ne]; exact c1
              have G := Lib.hid c1
              clear c1
              go_wp2
              go_meet
              exact ⟨false, rfl, rfl, Lib.hid (fun h => absurd h.2.1 (by have := G.out; omega))⟩
            have f2 : ((m : Int) == rcnt) = true := by rw [beq_iff_eq]; exact c1
            clear c1
            by_cases m0 : m = 0
            · have f5 : ((m : Int) == 0) = true := by rw [beq_iff_eq]; omega
              clear m0
              go_wp2
              go_meet
              exact ⟨true, rfl, rfl, Lib.hid (fun _ => rfl)⟩
            have f5 : ((m : Int) == 0) = false := by rw [beq_eq_false_iff_ne]; omega
            obtain ⟨k, hk⟩ : ∃ k, m = k + 1 := ⟨m - 1, by omega⟩
            obtain ⟨bl, off, ea, ca⟩ := cells_of K1.out (show 0 < m by omega)
            subst ea
            have cc := ca.at_ k (by omega)
            have s3 : IntKind.i64.wrap ((m : Int) - 1) = (k : Int) := by rw [IntWalk.i64_in _ (by omega)]; omega
            have s4 : decide (m ≤ k) = false := decide_eq_false (by omega)
            have s5 : (k : Int) < m := by omega
            have s6 : iat l (m - 1) = iat l k := by rw [hk]; rfl
            have S6 := Lib.hid s6
            have M0 := Lib.hid m0
            generalize iat l k = g at *
            clear ca hk m0 s6
            by_cases c2 : g < tm
            · have f6 : decide (g < tm) = true := decide_eq_true c2
              clear c2
              go_wp2
              go_meet
              exact ⟨true, rfl, rfl, Lib.hid (fun _ => rfl)⟩
            · have f6 : decide (g < tm) = false := decide_eq_false c2
              have G := Lib.hid c2
              clear c2
              go_wp2
              go_meet
              exact ⟨false, rfl, rfl, Lib.hid (fun h => by rcases h.2.2 with z | z; exact absurd z M0.out; rw [S6.out] at z; exact absurd z (by have := G.out; omega))⟩
          case rest =>
            obtain ⟨c, rfl, rfl, J3⟩ := hcut
            rename World => w6
            go_wp2_with fail
            refine (first8_is _ (TT.out.on B6)).mono ?_
            rintro e w7 ⟨rfl, b7⟩
            have B7 := B6.trans (b7.mono B6.size)
            have Xr7 := Xr6.below b7
            clear B6 Xr6
            have K1 := Lib.hid (K1.out.below b7)
            clear b7
            have rz2 : w7.cell? ⟨w.heap.size, 2, none⟩ = some (.int .i64 rcnt) := Xr7.at_ 2 _ rfl
            by_cases c0 : rcnt = 0
            · have f3 : (rcnt == 0) = true := by rw [beq_iff_eq]; exact c0
              clear c0
              cases q <;> cases bb
              · go_wp2
                go_ret
                exact ⟨rfl, B7⟩
              · obtain rfl := J3.out (J2.out rfl rfl)
                go_wp2
                go_ret
                exact ⟨rfl, B7⟩
              · exact absurd (J1.out rfl) (by decide)
              · go_wp2
                go_ret
                exact ⟨rfl, B7⟩
            · have f3 : (rcnt == 0) = false := by rw [beq_eq_false_iff_ne]; exact c0
              have f4 : decide ((m : Int) ≤ rcnt) = true := decide_eq_true (I3.out c0)
              clear c0
              cases q <;> cases bb
              · go_wp2
                go_ret
                exact ⟨rfl, B7⟩
              · obtain rfl := J3.out (J2.out rfl rfl)
                go_wp2
                go_ret
                exact ⟨rfl, B7⟩
              · exact absurd (J1.out rfl) (by decide)
              · go_wp2
                go_ret
                exact ⟨rfl, B7⟩
end Go.Proofs.YtnfcchimkfnmkaaGreatDoor.Ex
