/- The walks of the document's log: Open, Append, Write. -/
import Derived.Test.YtniphbfoppocfaaDoorWlMem
set_option linter.unusedVariables false
namespace Go.Proofs.YtniphbfoppocfaaDoor.Wl
open Go.RowKit Fr Dk

theorem own_atC {B : Nat} {w : World} {v : Value} {l : List UInt8} (h : OwnB B w v l) {n : Nat} (e : l.length = n) : ∃ A c, v = .slice A n c ∧ BsAt w A n l ∧ n ≤ c ∧ c ≤ 9223372036854775807 ∧ (A = none → c = 0) := by
  subst e
  have hc : ∀ A k c, v = .slice A k c → c ≤ 9223372036854775807 := fun A k c e => by
    rcases h.2 with ⟨rfl, -⟩ | ⟨g, cap, cur, rfl, -, -, -, hm, -⟩
    · injection e with _ _ e; omega
    · injection e with _ _ e; unfold maxLen at hm; omega
  obtain ⟨A, c, rfl, a, k, z⟩ := h.at_
  exact ⟨A, c, rfl, a, k, hc _ _ _ rfl, z⟩
/-- append of one slice of the call's own to a list of them: the operation alone, and where the new list lies -/
theorem wp_sl {o : Oper} {a : Act} {K : Act → World → Prop} {Q : Exit → Act → World → Prop} {B : Nat} {w : World} (s x : Operand)
    (ho : o.op = .call { callee := .builtin .append, args := #[s, x], argTypes := #[40, 40] })
    (v : Value) (S : List SlB) (hs : a.eval s = v) (hown : OwnL B w v S) (hB : B ≤ w.heap.size) (s1 : SlB) (h1 : OwnB B w s1.val s1.l) (hne : ∀ j, j < S.length → (gt S j).val.ownBlock = none ∨ (gt S j).val.ownBlock ≠ s1.val.ownBlock) (g c : Nat)
    (hx : a.eval x = .slice (some ⟨g, 0, none⟩) 1 c) (hk : w.cell? ⟨g, 0, none⟩ = some s1.val) (hl : S.length ≤ 1000000)
    (h : ∀ v' w', OwnL B w' v' (S ++ [s1]) → w.grownBy w' v.ownBlock → (v'.ownBlock = v.ownBlock ∨ v'.ownBlock = some w.heap.size) → K (a.put o.dst v') w') : o.wp Tryd.prog a w K Q := by
  obtain ⟨i0, hi, hz0, hz1, hz2⟩ := info_parts info_bs
  obtain ⟨v', w', hr, h2, h3, h4, h5⟩ := run_append_own_at (P := Tryd.prog) w B 40 o.type 22 i0 (.slice none 0 0) 1 24 Tryd.underlying40 hi hz0 hz1 hz2 rfl (by decide) v S.length (S.map SlB.val) hown.row
    ⟨g, 0, none⟩ 1 c [s1.val] rfl (fun j u hj => by
      cases j with
      | zero => obtain rfl : s1.val = u := by simpa using hj
                exact hk
      | succ j => simp at hj) (by intro u hu; obtain rfl : u = s1.val := by simpa using hu
                                  rfl) (by unfold maxLen; omega) (by omega) hB
  unfold Oper.wp execOp
  simp only [ho, resolve, invoke, builtin, Sem.run_bind, Sem.run_pure, Result.andThen_ok, List.map_toArray, List.map_cons, List.map_nil, hs, hx, hr]
  have kp : ∀ {u : Value} {l : List UInt8}, OwnB B w u l → OwnB B w' u l := fun q => q.grown h3 (row_ne q hown.row (by decide))
  refine h v' w' ⟨?_, fun j hj => ?_, fun i j hi hj hij => ?_⟩ h3 h5
  · rw [List.length_append, List.map_append]
    exact h2
  · rw [List.length_append, List.length_cons, List.length_nil] at hj
    rcases Nat.lt_or_ge j S.length with q | q
    · rw [gt_lo q]; exact kp (hown.each j q)
    · obtain rfl : j = S.length := by omega
      rw [gt_hi]; exact kp h1
  · rw [List.length_append, List.length_cons, List.length_nil] at hi hj
    rcases Nat.lt_or_ge i S.length with q | q <;> rcases Nat.lt_or_ge j S.length with r | r
    · rw [gt_lo q, gt_lo r]; exact hown.ne i j q r hij
    · obtain rfl : j = S.length := by omega
      rw [gt_lo q, gt_hi]; exact hne i q
    · obtain rfl : i = S.length := by omega
      rw [gt_lo r, gt_hi]
      rcases hz : s1.val.ownBlock with _ | k
      · exact .inl rfl
      · refine .inr fun z => ?_
        rcases hne j r with y | y
        · rw [y] at z; cases z
        · exact y (by rw [hz, ← z])
    · omega
/-- its blocks: old ones, the new row's, and where the list lies -/
theorem rs_snoc {v v' : Value} {S : List SlB} {s1 : SlB} {k : Nat} (h : Rs v' (S ++ [s1]) k) : v'.ownBlock = some k ∨ Rs v S k ∨ s1.val.ownBlock = some k := by
  rcases h with h | ⟨j, hj, h⟩
  · exact .inl h
  · rw [List.length_append, List.length_cons, List.length_nil] at hj
    rcases Nat.lt_or_ge j S.length with q | q
    · rw [gt_lo q] at h; exact .inr (.inl (.inr ⟨j, q, h⟩))
    · obtain rfl : j = S.length := by omega
      rw [gt_hi] at h; exact .inr (.inr h)
section
variable {T D : TypeId} {w w1 w2 : World} {p q : Nat} {R Y R' Y' : Int} {l l' : List UInt8} {dv dv' v v' : Value} {S S' : List SlB}
/-- a log is made over a disk -/
theorem open_mk (hd : DkV D w q R Y l dv) (o : OwnL w.heap.size w1 v S) (b : Below w.heap.size w w1) (d2 : DkV D w2 q R' Y' l' dv') (k : Kp (Ft q dv) w1 w2) (n : New w1 dv dv') :
    Hid (LgV T D (w2.alloc (.cells #[.pointer (some ⟨q, 0, none⟩), v] T)) w2.heap.size q R' Y' l' dv' v S ∧ Kp (Ft q dv) w (w2.alloc (.cells #[.pointer (some ⟨q, 0, none⟩), v] T)) ∧ ∀ g, Al w2.heap.size q dv' v S g → Ft q dv g ∨ w.heap.size ≤ g) := by
  have al := below_alloc w2 (.cells #[.pointer (some ⟨q, 0, none⟩), v] T)
  have lo : ∀ g, Ft q dv g → g < w.heap.size := fun g hg => by
    rcases hg with rfl | hg
    · exact hd.lt
    · exact (World.ownsRow.lt hd.own g hg).2
  have hi : ∀ g, Ft q dv' g → g < w2.heap.size := fun g hg => by
    rcases hg with rfl | hg
    · exact d2.lt
    · exact (World.ownsRow.lt d2.own g hg).2
  have fn : ∀ g, Ft q dv' g → Ft q dv g ∨ w1.heap.size ≤ g := fun g hg => by
    rcases hg with hg | hg
    · exact .inl (.inl hg)
    · rcases n with n | n
      · exact .inl (.inr (n ▸ hg))
      · exact .inr (n g hg)
  have o2 : OwnL w.heap.size w2 v S := ownl_kp o k fun g hg z => by have := (ownl_lt o g hg).1; have := lo g z; omega
  refine Lib.hid ⟨⟨Array.getElem?_push_size, d2.below al, (o2.on al).low (Nat.zero_le _), fun g hg => ⟨by have := hi g hg; omega, fun z => ?_⟩⟩, ((Kp.of b).trans k).trans (Kp.of al), fun g hg => ?_⟩
  · have := ownl_lt o g z
    rcases fn g hg with y | y
    · have := lo g y; omega
    · omega
  · rcases hg with rfl | hg | hg
    · exact .inr (Nat.le_trans b.size k.size)
    · exact .inr (ownl_lt o g hg).1
    · rcases fn g hg with y | y
      · exact .inl y
      · exact .inr (Nat.le_trans b.size y)
/-- its records are put anew -/
theorem LgV.put (h : LgV T D w p q R Y l dv v S) (h1 : T ≠ 5) (h2 : T ≠ 22) (k : Kp (Rs v S) w w1) (o : OwnL 0 w1 v' S') (n : ∀ g, Rs v' S' g → Rs v S g ∨ w.heap.size ≤ g) :
    (w1.cell? ⟨p, 1, none⟩ = some v ∧ w1.frozen? ⟨p, 1, none⟩ = false) ∧ Hid (LgV T D (w1.setCell ⟨p, 1, none⟩ v') p q R Y l dv v' S' ∧ Kp (Al p q dv v S) w (w1.setCell ⟨p, 1, none⟩ v') ∧ ∀ g, Al p q dv v' S' g → Al p q dv v S g ∨ w.heap.size ≤ g) := by
  have hb : w1.heap[p]? = some (.cells #[.pointer (some ⟨q, 0, none⟩), v] T) := (k.block p h.lt fun z => free_l h.blk h1 h2 h.own p z rfl).trans h.blk
  have d1 : DkV D w1 q R Y l dv := h.d.kp k fun g hg => (h.ap g hg).2
  have st := Kp.setCell (F := (· = p)) w1 ⟨p, 1, none⟩ rfl v'
  have fr : ∀ g, Rs v' S' g → ¬ g = p := fun g hg e => free_l hb h1 h2 o g hg e.symm
  refine ⟨⟨by rw [cell_of_row w1 p 1 _ _ _ hb]; rfl, by simp [World.frozen?, hb]⟩, Lib.hid ⟨⟨?_, d1.kp st fun g hg z => (h.ap g hg).1 z, ownl_kp o st fr, fun g hg => ⟨(h.ap g hg).1, fun z => ?_⟩⟩, (k.mono fun g _ hg => .inr (.inl hg)).trans (Kp.setCell w1 ⟨p, 1, none⟩ (.inl rfl) v'), fun g hg => ?_⟩⟩
  · have := heap_setCell_same w1 p 1 _ _ v' hb
    simpa using this
  · rcases n g z with y | y
    · exact (h.ap g hg).2 y
    · have := h.all g (.inr (.inr hg)); omega
  · rcases hg with hg | hg | hg
    · exact .inl (.inl hg)
    · rcases n g hg with y | y
      · exact .inl (.inr (.inl y))
      · exact .inr y
    · exact .inl (.inr (.inr hg))
end
def openN (l : List UInt8) : Nat := (scanL l).2
/-- what Open answers -/
def OpenR (T D : TypeId) (w : World) (q : Nat) (R Y : Int) (l : List UInt8) (dv : Value) (e : Ending) (w' : World) : Prop :=
  ∃ p v S dv', e = .returned (.tuple #[.pointer (some ⟨p, 0, none⟩), .int .i64 (l.length - openN l : Int)]) ∧ LgV T D w' p q R (min Y (openN l : Int)) (l.take (openN l)) dv' v S ∧ bytesS S = (scanL l).1 ∧ Kp (Ft q dv) w w' ∧ ∀ g, Al p q dv' v S g → Ft q dv g ∨ w.heap.size ≤ g
set_option maxRecDepth 100000 in
set_option maxHeartbeats 4000000 in
theorem ropen_is (w : World) (q : Nat) (R Y : Int) (l : List UInt8) (dv : Value) (h : DkV 32 w q R Y l dv) (hl : l.length ≤ 100000) : Calls Tryd.prog 14 #[.pointer (some ⟨q, 0, none⟩)] w (OpenR 44 32 w q R Y l dv) := by
  obtain ⟨L, hL⟩ : ∃ L, l.length = L := ⟨_, rfl⟩
  have HD := Lib.hid h
  have HL := Lib.hid hL
  obtain ⟨V, c, rfl, av, kv, cv, zv⟩ := own_atC h.own hL
  have n0 : openN l ≤ L := by rw [← hL]; exact scan_le _ _ (Nat.le_refl _)
  have c2 := h.c2
  have C1 := Lib.hid (rscan_is w V L c l av kv cv (by omega))
  clear h av
  rw [hL] at hl
  have cc : (0 : Int) ≤ (openN l : Nat) ∧ ((openN l : Nat) : Int) ≤ l.length := by rw [hL]; omega
  have C2 := Lib.hid (fun w1 (b : Below w.heap.size w w1) => show Calls Tryd.prog 39 #[.pointer (some ⟨q, 0, none⟩), .int .i64 (openN l : Nat)] w1 (DkT 32 w1 q (.slice V L c) R (min Y (openN l : Int)) (l.take (openN l)) (.bool true)) by
    have := rcut_is w1 q R Y l (.slice V L c) (openN l : Nat) (HD.out.below b) (by rw [HL.out]; exact hl) (by omega) (by omega)
    rwa [show cutY Y l (openN l : Nat) = min Y (openN l : Int) from if_pos cc, show cutL l (openN l : Nat) = l.take (openN l) from by unfold cutL; rw [if_pos cc, Int.toNat_natCast], show cutB l (openN l : Nat) = true from decide_eq_true cc] at this)
  have W1 : IntKind.i64.wrap ((L : Int) - (openN l : Nat)) = L - (openN l : Nat) := IntWalk.i64_in _ (by omega)
  clear cc
  go_enter Tryd.func14, Tryd.ntmps14
  go_wp2_with fail
  refine C1.out.mono ?_
  rintro e w1 ⟨v1, S1, rfl, o1, s1, b1⟩
  obtain ⟨NS, hNS⟩ : ∃ NS, S1.length = NS := ⟨_, rfl⟩
  obtain ⟨A1, c1, e1, -, -, -⟩ := o1.at_
  rw [hNS] at e1
  subst e1
  have HO := Lib.hid o1
  have HS := Lib.hid s1
  have B1 := Lib.hid b1
  have c3 := (HD.out.below b1).c2
  clear o1 s1 b1 C1 hNS
  rw [show (scanL l).2 = openN l from rfl]
  generalize hn : openN l = n at *
  have HN := Lib.hid hn
  clear hn
  go_wp2_with fail
  refine (C2.out w1 B1.out).mono ?_
  rintro e w2 ⟨rfl, v2, d2, k2, n2⟩
  have F := open_mk (T := 44) HD.out HO.out B1.out d2 k2 n2
  clear d2 k2 n2
  go_wp2
  exact bodyPost_ret (v := .tuple #[.pointer (some ⟨w2.heap.size, 0, none⟩), .int .i64 ((L : Int) - (n : Nat))]) (by simp [results, Tryd.results14, go_sem]) rfl ⟨_, _, S1, v2, by rw [HN.out, HL.out], by rw [HN.out]; exact F.out.1, HS.out, F.out.2⟩
/-- what Append does, in plain words -/
def wlE (R : Int) (l b : List UInt8) : Nat := if b.length ≤ 8192 then appE R l (frameL b) else 3
def wlL (R : Int) (l b : List UInt8) : List UInt8 := if wlE R l b = 0 then l ++ frameL b else l
def wlR (R : Int) (l b : List UInt8) (r : List (List UInt8)) : List (List UInt8) := if wlE R l b = 0 then r ++ [b] else r
theorem lgt_same {T D : TypeId} {w w' : World} {p q : Nat} {R Y : Int} {l : List UInt8} {dv v : Value} {S : List SlB} (h : LgV T D w p q R Y l dv v S) (b : Below w.heap.size w w') (ans : Value) : LgT T D w p q dv v S R Y l (bytesS S) ans (.returned ans) w' :=
  ⟨rfl, dv, v, S, h.below b, rfl, Kp.of b, fun _ hk => .inl hk⟩
theorem bytesS_snoc (S : List SlB) (s : SlB) : bytesS (S ++ [s]) = bytesS S ++ [s.l] := by unfold bytesS; rw [List.map_append]; rfl
set_option maxRecDepth 100000 in
set_option maxHeartbeats 4000000 in
theorem rlapp_is (w : World) (p q : Nat) (R Y : Int) (l : List UInt8) (dv v : Value) (S : List SlB) (A : Option Addr) (n c : Nat) (b : List UInt8) (h : LgV 44 32 w p q R Y l dv v S) (hb : BsAt w A n b) (hA : A = none → c = 0) (hl : l.length ≤ 90000) (hn : n ≤ 1000000) (hS : S.length ≤ 100000) (hR0 : 0 ≤ R) (hR : R ≤ 2000000000) (hX : 0 < n → ∀ g off, A = some ⟨g, off, none⟩ → ¬ Al p q dv v S g) :
    Calls Tryd.prog 16 #[.pointer (some ⟨p, 0, none⟩), .slice A n c] w (LgT 44 32 w p q dv v S R Y (wlL R l b) (wlR R l b (bytesS S)) (.int .i64 (wlE R l b : Nat))) := by
  obtain rfl : n = b.length := hb.1
  obtain ⟨n, hN⟩ : ∃ n, b.length = n := ⟨_, rfl⟩
  rw [hN] at hb hn hX ⊢
  have HG := Lib.hid h
  have HB := Lib.hid hb
  have HA := Lib.hid hA
  have HN := Lib.hid hN
  have HSL := Lib.hid hS
  have XB := Lib.hid hX
  have C1 := Lib.hid (rput_is w A n c b hb hA hn)
  clear h hb hA hX
  by_cases h8 : n ≤ 8192
  · have e1 : putE b = 0 := by unfold putE; rw [if_pos (by rw [hN]; exact h8)]
    have e2 : putV b = frameL b := by unfold putV; rw [if_pos (by rw [hN]; exact h8)]
    have fl : (frameL b).length = 6 + n := by rw [frameL_len, hN]
    have C2 := Lib.hid (fun w1 (b1 : Below w.heap.size w w1) A1 c1 (a1 : BsAt w1 A1 (6 + n) (frameL b)) (z1 : A1 = none → c1 = 0) => rapp_is w1 q R Y l dv A1 (6 + n) c1 (frameL b) (HG.out.d.below b1) a1 z1 (by omega) (by omega) hR0 hR)
    have E3 := Lib.hid (show wlE R l b = appE R l (frameL b) from by unfold wlE; rw [if_pos (by rw [HN.out]; exact h8)])
    clear hN
    go_enter Tryd.func16, Tryd.ntmps16
    go_wp2_with fail
    refine C1.out.mono ?_
    rintro e w1 ⟨v1, rfl, o1, b1⟩
    rw [e1]
    rw [e2] at o1
    obtain ⟨A1, c1, rfl, a1, -, z1⟩ := own_atN o1 fl
    have B1 := Lib.hid b1
    have c0 := (HG.out.below b1).c0
    have D2 := C2.out w1 b1 A1 c1 a1 z1
    clear o1 a1 b1 C1 C2
    by_cases hf : (l.length : Int) + (6 + n : Nat) ≤ R
    · have x1 : appE R l (frameL b) = 0 := by unfold appE; rw [fl]; exact if_pos hf
      have x2 : appL R l (frameL b) = l ++ frameL b := by unfold appL; rw [fl]; exact if_pos hf
      have EE := Lib.hid (show wlE R l b = 0 by rw [E3.out, x1])
      rw [x1, x2] at D2
      go_wp2_with fail
      refine D2.mono ?_
      rintro e w2 ⟨rfl, v2, d2, k2, n2⟩
      clear D2
      have G2 := Lib.hid ((HG.out.below B1.out).disk d2 k2 n2)
      have K2 := Lib.hid (show Kp (Al p q dv v S) w w2 from (Kp.of B1.out).trans (k2.mono fun g _ hg => .inr (.inr hg)))
      have N2 := Lib.hid (show ∀ g, Al p q v2 v S g → Al p q dv v S g ∨ w.heap.size ≤ g from fun g hg => by
        rcases hg with hg | hg | hg | hg
        · exact .inl (.inl hg)
        · exact .inl (.inr (.inl hg))
        · exact .inl (.inr (.inr (.inl hg)))
        · rcases n2 with n2 | n2
          · exact .inl (.inr (.inr (.inr (n2 ▸ hg))))
          · exact .inr (Nat.le_trans B1.out.size (n2 g hg)))
      have HB2 := Lib.hid (show BsAt w2 A n b from bs_kp (HB.out.below B1.out) k2 fun h0 a ea => by
        obtain ⟨bb, off, e, hlt, -⟩ := HB.out.2 h0
        rw [ea] at e
        injection e with e
        subst e
        exact fun z => XB.out h0 bb off ea (.inr (.inr z)))
      clear d2 k2 n2
      go_wp2
      obtain ⟨NV, hNV⟩ : ∃ NV, S.length = NV := ⟨_, rfl⟩
      obtain ⟨Av, cv, ev, -, -, -⟩ := G2.out.own.at_
      rw [hNV] at ev
      subst ev
      clear hNV
      refine wp_region_late (fun k => k == 11) (fun y => y.cell? ⟨p, 1, none⟩ = some (.slice Av NV cv)) (by kernel_rfl) ?_
      have D0 : Below w2.heap.size w2 w2.drew := (Below.refl _ _).drew
      have S0 := (G2.out.below D0).c1
      refine tk 0 rfl (.pointer (some ⟨p, 0, none⟩)) (.inl ⟨by kernel_rfl, fun w' hs => ?_⟩) S0 ?_
      · go_simp
      refine tk 1 rfl (.pointer (some ⟨p, 0, none⟩)) (.inl ⟨by kernel_rfl, fun w' hs => ?_⟩) S0 ?_
      · go_simp
      refine tk 2 rfl (.pointer (some ⟨p, 0, none⟩)) (.inl ⟨by kernel_rfl, fun w' hs => ?_⟩) S0 ?_
      · go_simp
      refine tk 3 rfl (.pointer (some ⟨p, 1, none⟩)) (.inl ⟨by kernel_rfl, fun w' hs => ?_⟩) S0 ?_
      · go_simp
      refine tk 4 rfl (.slice Av NV cv) (.inl ⟨by kernel_rfl, fun w' hs => ?_⟩) S0 ?_
      · go_simp
      refine tk 5 rfl (.slice A n c) (.inl ⟨by kernel_rfl, fun w' hs => ?_⟩) S0 ?_
      · go_simp
      refine late_oneG 6 rfl (by kernel_rfl) (by kernel_rfl) ?_
      go_simp
      refine (Dk.copy_is w2.drew A n c b (HB2.out.below D0) HA.out hn).mono ?_
      rintro e w3 ⟨v3, rfl, o3, b3⟩
      obtain ⟨A3, c3, rfl, -, -, -⟩ := own_atN o3 HN.out
      have B3 : Below w2.heap.size w2 w3 := D0.trans b3
      have S3 := (G2.out.below B3).c1
      have O3 := Lib.hid (show OwnB w2.heap.size w3 (.slice A3 n c3) b from o3)
      clear o3 b3
      (first | refine ⟨S3, ?_⟩ | refine ⟨.inr S3, ?_⟩ | skip)
      refine late_oneG 7 rfl (by kernel_rfl) (by kernel_rfl) ?_
      go_simp
      have al := below_alloc w3 (.cells #[.slice A3 n c3] 22)
      have B4 := B3.trans (al.mono B3.size)
      have S4 := (G2.out.below B4).c1
      have O4 := Lib.hid (O3.out.on al)
      (first | refine ⟨S4, ?_⟩ | refine ⟨.inr S4, ?_⟩ | skip)
      refine late_oneG 8 rfl (by kernel_rfl) (by kernel_rfl) ?_
      refine wp_sl _ _ rfl (.slice Av NV cv) S (by go_simp) (G2.out.below B4).own (Nat.zero_le _) ⟨A3, n, c3, b⟩ (own_low O4.out (Nat.zero_le _)) (fun j hj => ?_) w3.heap.size 1 (by go_simp) (by rw [World.cell?_alloc_new]; rfl) (by have := HSL.out; omega) ?_
      · rcases hz : (gt S j).val.ownBlock with _ | k
        · exact .inl rfl
        · refine .inr fun z => ?_
          have h1 := (ownl_lt G2.out.own k (.inr ⟨j, hj, hz⟩)).2
          have h2 := (World.ownsRow.lt O3.out k z.symm).1
          omega
      intro v5 w5 o5 g5 q5
      obtain ⟨⟨z1, z2⟩, FIN⟩ := G2.out.put (by decide) (by decide) ((Kp.of B4).trans (Kp.grown g5 fun k e => .inl e)) o5 (fun g hg => by
        rcases rs_snoc hg with hg | hg | hg
        · rcases q5 with q5 | q5
          · exact .inl (.inl (q5 ▸ hg))
          · rw [q5] at hg
            injection hg with hg
            have := B4.size
            exact .inr (by omega)
        · exact .inl hg
        · exact .inr (World.ownsRow.lt O3.out g hg).1)
      obtain ⟨N5, hN5⟩ : ∃ N5, (S ++ [(⟨A3, n, c3, b⟩ : SlB)]).length = N5 := ⟨_, rfl⟩
      obtain ⟨A5, c5, e5, -, -, -⟩ := o5.at_
      rw [hN5] at e5
      subst e5
      have FIN2 := Lib.hid (LgT.next K2.out N2.out ⟨rfl, v2, _, _, FIN.out.1, bytesS_snoc S _, FIN.out.2.1, FIN.out.2.2⟩ : LgT 44 32 w p q dv (.slice Av NV cv) S R Y (l ++ frameL b) (bytesS S ++ [b]) (.int .i64 0) (.returned (.int .i64 0)) (w5.setCell ⟨p, 1, none⟩ (.slice A5 N5 c5)))
      clear FIN o5 g5 q5 hN5 al
      (first | refine ⟨z1, ?_⟩ | refine ⟨.inr z1, ?_⟩ | skip)
      refine late_oneG 9 rfl (by kernel_rfl) (by kernel_rfl) ?_
      go_simp
      (first | refine ⟨z1, ?_⟩ | refine ⟨.inr z1, ?_⟩ | skip)
      refine tk 10 rfl (.pointer (some ⟨p, 1, none⟩)) (.inl ⟨by kernel_rfl, fun w' hs => ?_⟩) z1 ?_
      · go_simp
      refine late_oneG 11 rfl (by kernel_rfl) (by kernel_rfl) ?_
      go_simp
      (first | refine ⟨.inl rfl, ?_⟩ | refine ⟨by kernel_rfl, ?_⟩ | skip)
      (first | refine Late.done (by kernel_rfl) ?_ | skip)
      go_wp2
      go_ret
      have F := FIN2.out
      unfold wlL wlR
      rw [EE.out, if_pos rfl, if_pos rfl]
      exact F
    · have x1 : appE R l (frameL b) = 9 := by unfold appE; rw [fl]; exact if_neg hf
      have x2 : appL R l (frameL b) = l := by unfold appL; rw [fl]; exact if_neg hf
      have EE := Lib.hid (show wlE R l b = 9 by rw [E3.out, x1])
      rw [x1, x2] at D2
      go_wp2_with fail
      refine D2.mono ?_
      intro e w2 t2
      obtain ⟨rfl, t3⟩ := LgT.disk (ans := .int .i64 9) (HG.out.below B1.out) t2
      have t4 := LgT.next (S := S) (Kp.of B1.out) (fun _ hk => .inl hk) t3
      have F := Lib.hid (show LgT 44 32 w p q dv v S R Y (wlL R l b) (wlR R l b (bytesS S)) (.int .i64 (wlE R l b : Nat)) (.returned (.int .i64 9)) w2 by
        unfold wlL wlR
        rw [EE.out, if_neg (by decide), if_neg (by decide)]
        exact t4)
      clear t2 t3 t4 D2
      go_wp2
      go_ret
      exact F.out
  · have e1 : putE b = 3 := by unfold putE; rw [if_neg (by rw [hN]; exact h8)]
    have e2 : putV b = [] := by unfold putV; rw [if_neg (by rw [hN]; exact h8)]
    have EE := Lib.hid (show wlE R l b = 3 from by unfold wlE; rw [if_neg (by rw [hN]; exact h8)])
    clear hN
    go_enter Tryd.func16, Tryd.ntmps16
    go_wp2_with fail
    refine C1.out.mono ?_
    rintro e w1 ⟨v1, rfl, o1, b1⟩
    rw [e1]
    rw [e2] at o1
    obtain ⟨A1, c1, rfl, -, -, -⟩ := own_atN o1 (n := 0) rfl
    have F := Lib.hid (show LgT 44 32 w p q dv v S R Y (wlL R l b) (wlR R l b (bytesS S)) (.int .i64 (wlE R l b : Nat)) (.returned (.int .i64 3)) w1 by
      unfold wlL wlR
      rw [EE.out, if_neg (by decide), if_neg (by decide)]
      exact lgt_same HG.out b1 _)
    clear o1 b1 C1
    go_wp2
    go_ret
    exact F.out
end Go.Proofs.YtniphbfoppocfaaDoor.Wl
