/- The walks of the document's log: Write, Checkpoint. -/
import Derived.Test.YtniphbfoppocfaaDoorWlA
set_option linter.unusedVariables false
namespace Go.Proofs.YtniphbfoppocfaaDoor.Wl
open Go.RowKit Fr Dk

def wrY (R Y : Int) (l b : List UInt8) : Int := if wlE R l b = 0 then (((wlL R l b).length : Nat) : Int) else Y
theorem wlL_len (R : Int) (l b : List UInt8) : (wlL R l b).length ≤ l.length + 6 + b.length := by
  unfold wlL
  split
  · rw [List.length_append, frameL_len]; omega
  · omega
theorem wrap_e (E : Nat) (h : E ≠ 0) : (((E : Nat) : Int) == 0) = false := by rw [beq_eq_false_iff_ne]; omega
set_option maxRecDepth 100000 in
set_option maxHeartbeats 4000000 in
theorem rwrite_is (w : World) (p q : Nat) (R Y : Int) (l : List UInt8) (dv v : Value) (S : List SlB) (A : Option Addr) (n c : Nat) (b : List UInt8) (h : LgV 44 32 w p q R Y l dv v S) (hb : BsAt w A n b) (hA : A = none → c = 0) (hl : l.length ≤ 90000) (hn : n ≤ 1000000) (hS : S.length ≤ 100000) (hR0 : 0 ≤ R) (hR : R ≤ 2000000000) (hX : 0 < n → ∀ g off, A = some ⟨g, off, none⟩ → ¬ Al p q dv v S g) :
    Calls Tryd.prog 20 #[.pointer (some ⟨p, 0, none⟩), .slice A n c] w (LgT 44 32 w p q dv v S R (wrY R Y l b) (wlL R l b) (wlR R l b (bytesS S)) (.int .i64 (wlE R l b : Nat))) := by
  have C1 := Lib.hid (rlapp_is w p q R Y l dv v S A n c b h hb hA hl hn hS hR0 hR hX)
  have LL := Lib.hid (show 0 < wlE R l b ∨ (wlL R l b).length ≤ 100000 from by
    by_cases e : wlE R l b = 0
    · right
      have h8 : b.length ≤ 8192 := by
        unfold wlE at e
        split at e
        · assumption
        · cases e
      have := wlL_len R l b
      omega
    · left; omega)
  clear h hb hA hX
  generalize hL : wlL R l b = l' at *
  generalize hR' : wlR R l b (bytesS S) = r' at *
  have HY := Lib.hid (show wrY R Y l b = if wlE R l b = 0 then ((l'.length : Nat) : Int) else Y by unfold wrY; rw [hL])
  generalize wlE R l b = E at *
  rw [HY.out]
  clear hL hR'
  by_cases hE : E = 0
  · subst hE
    rw [if_pos rfl]
    have ll : l'.length ≤ 100000 := by rcases LL.out with h | h <;> omega
    go_enter Tryd.func20, Tryd.ntmps20
    go_wp2_with fail
    refine C1.out.mono ?_
    rintro e w1 ⟨rfl, dv1, v1, S1, g1, hr, k1, n1⟩
    have G1 := Lib.hid g1
    have K1 := Lib.hid k1
    have N1 := Lib.hid n1
    have HR := Lib.hid hr
    clear g1 k1 n1 hr C1
    have C2 := rsync_is w1 q R Y l' dv1 G1.out.d ll
    have c0 := G1.out.c0
    go_wp2_with fail
    refine C2.mono ?_
    intro e w2 t2
    obtain ⟨rfl, t3⟩ := LgT.disk (ans := .int .i64 0) G1.out t2
    have t4 := LgT.next K1.out N1.out t3
    rw [HR.out] at t4
    have F := Lib.hid t4
    clear t2 t3 t4 C2
    go_wp2
    go_ret
    exact F.out
  · rw [if_neg hE]
    have e0 := wrap_e E hE
    have e1 : (E == 0) = false := by rw [beq_eq_false_iff_ne]; exact hE
    go_enter Tryd.func20, Tryd.ntmps20
    go_wp2_with fail
    refine C1.out.mono ?_
    rintro e w1 ⟨rfl, dv1, v1, S1, g1, hr, k1, n1⟩
    have F := Lib.hid (LgT.next k1 n1 (hr ▸ lgt_same g1 (Below.refl _ _) (.int .i64 (E : Nat))))
    clear g1 k1 n1 hr C1
    go_wp2
    go_ret
    exact F.out
/-- what Checkpoint does, in plain words -/
def okP (ps : List (List UInt8)) : Bool := decide (∀ p ∈ ps, p.length ≤ 8192)
def ckE (R : Int) (ps : List (List UInt8)) : Nat := if okP ps then swE R (framesL ps) else 3
def ckL (R : Int) (l : List UInt8) (ps : List (List UInt8)) : List UInt8 := if ckE R ps = 0 then framesL ps else l
def ckY (R Y : Int) (ps : List (List UInt8)) : Int := if ckE R ps = 0 then (((framesL ps).length : Nat) : Int) else Y
def ckR (R : Int) (r ps : List (List UInt8)) : List (List UInt8) := if ckE R ps = 0 then ps else r
/-- the first t of the records handed in are put -/
structure CkI (w : World) (P : List SlB) (wr : World) (va vr : Value) (t : Nat) (S : List SlB) : Prop where
  all : OwnB w.heap.size wr va (framesL ((bytesS P).take t))
  row : OwnL w.heap.size wr vr S
  is : bytesS S = (bytesS P).take t
  ne : ∀ j, j < S.length → (gt S j).val.ownBlock = none ∨ (gt S j).val.ownBlock ≠ va.ownBlock
  ok : ∀ p ∈ (bytesS P).take t, p.length ≤ 8192
  at_ : Below w.heap.size w wr
theorem CkI.start (w : World) (P : List SlB) : CkI w P w (.slice none 0 0) (.slice none 0 0) 0 [] :=
  ⟨OwnB.nil _ _, OwnL.nil _ _, rfl, fun j h => by simp at h, fun p h => by simp at h, Below.refl _ _⟩
theorem CkI.on {w wr w' : World} {P S : List SlB} {va vr : Value} {t : Nat} (h : CkI w P wr va vr t S) (b : Below wr.heap.size wr w') : CkI w P w' va vr t S :=
  ⟨h.all.on b, h.row.on b, h.is, h.ne, h.ok, h.at_.trans (b.mono h.at_.size)⟩
theorem take_snocB {P : List SlB} {t : Nat} (h : t < P.length) : (bytesS P).take (t + 1) = (bytesS P).take t ++ [(gt P t).l] := by
  have e := bytesS_at h
  have ht : t < (bytesS P).length := by rw [bytesS_len]; exact h
  rw [List.getElem?_eq_getElem ht] at e
  injection e with e
  rw [List.take_succ_eq_append_getElem ht, e]
/-- the frame is put behind the others: what has turned is that slice alone -/
structure CkA (w : World) (P : List SlB) (wr : World) (va vr : Value) (t : Nat) (S : List SlB) : Prop where
  all : OwnB w.heap.size wr va (framesL ((bytesS P).take (t + 1)))
  row : OwnL w.heap.size wr vr S
  is : bytesS S = (bytesS P).take t
  ne : ∀ j, j < S.length → (gt S j).val.ownBlock = none ∨ (gt S j).val.ownBlock ≠ va.ownBlock
  at_ : Below w.heap.size w wr
theorem CkI.more {w wr w' : World} {P S : List SlB} {va va' vr : Value} {t : Nat} (h : CkI w P wr va vr t S) (ht : t < P.length) (o : OwnB w.heap.size w' va' (framesL ((bytesS P).take t) ++ frameL (gt P t).l)) (g : wr.grownBy w' va.ownBlock) (q : va'.ownBlock = va.ownBlock ∨ va'.ownBlock = some wr.heap.size) : CkA w P w' va' vr t S := by
  refine ⟨?_, ⟨row_kp h.row.row (Kp.grown (F := fun k => va.ownBlock = some k) g fun k e => e) ?_, fun j hj => (h.row.each j hj).grown g (h.ne j hj), h.row.ne⟩, h.is, fun j hj => ?_, h.at_.trans (grown_below h.all g h.at_.size)⟩
  · rw [take_snocB ht, framesL_app, framesL_one]; exact o
  · intro k e z
    rcases row_ne h.row.row h.all (by decide) with y | y
    · rw [y] at e; cases e
    · exact y (e.trans z.symm)
  · rcases q with q | q
    · rw [q]; exact h.ne j hj
    · rcases hz : (gt S j).val.ownBlock with _ | k
      · exact .inl rfl
      · refine .inr fun z => ?_
        rw [q] at z
        injection z with z
        have := (World.ownsRow.lt (h.row.each j hj) k hz).2
        omega
theorem CkA.done {w wr w' : World} {P S : List SlB} {va vr vr' : Value} {t : Nat} {s1 : SlB} (h : CkA w P wr va vr t S) (ht : t < P.length) (hs : s1.l = (gt P t).l) (h8 : (gt P t).l.length ≤ 8192) (ok : ∀ p ∈ (bytesS P).take t, p.length ≤ 8192) (o : OwnL w.heap.size w' vr' (S ++ [s1])) (g : wr.grownBy w' vr.ownBlock) (n1 : s1.val.ownBlock = none ∨ s1.val.ownBlock ≠ va.ownBlock) : CkI w P w' va vr' (t + 1) (S ++ [s1]) := by
  refine ⟨h.all.grown g (row_ne h.all h.row.row (by decide)), o, by rw [bytesS_snoc, h.is, hs, take_snocB ht], fun j hj => ?_, fun p hp => ?_, h.at_.trans (grown_below h.row.row g h.at_.size)⟩
  · rw [List.length_append, List.length_cons, List.length_nil] at hj
    rcases Nat.lt_or_ge j S.length with q | q
    · rw [gt_lo q]; exact h.ne j q
    · obtain rfl : j = S.length := by omega
      rw [gt_hi]; exact n1
  · rw [take_snocB ht] at hp
    rcases List.mem_append.1 hp with hp | hp
    · exact ok p hp
    · rw [List.mem_singleton.1 hp]; exact h8
theorem LgV.put2 {T D : TypeId} {w1 : World} {p q : Nat} {R Y : Int} {l : List UInt8} {dv v v' : Value} {S S' : List SlB} (h : LgV T D w1 p q R Y l dv v S) (h1 : T ≠ 5) (h2 : T ≠ 22) (o : OwnL 0 w1 v' S') (na : ∀ g, Rs v' S' g → ¬ Ft q dv g) :
    (w1.cell? ⟨p, 1, none⟩ = some v ∧ w1.frozen? ⟨p, 1, none⟩ = false) ∧ Hid (LgV T D (w1.setCell ⟨p, 1, none⟩ v') p q R Y l dv v' S' ∧ Kp (· = p) w1 (w1.setCell ⟨p, 1, none⟩ v')) := by
  have st := Kp.setCell (F := (· = p)) w1 ⟨p, 1, none⟩ rfl v'
  refine ⟨⟨h.c1, h.fz 1⟩, Lib.hid ⟨⟨?_, h.d.kp st fun g hg z => (h.ap g hg).1 z, ownl_kp o st fun g hg e => free_l h.blk h1 h2 o g hg e.symm, fun g hg => ⟨(h.ap g hg).1, fun z => na g z hg⟩⟩, st⟩⟩
  have := heap_setCell_same w1 p 1 _ _ v' h.blk
  simpa using this
/-- append to a slice of bytes of the call's own: the operation alone, and where the new one lies -/
theorem wp_ba {o : Oper} {a : Act} {K : Act → World → Prop} {Q : Exit → Act → World → Prop} {B : Nat} {w : World} (s x : Operand)
    (ho : o.op = .call { callee := .builtin .append, args := #[s, x], argTypes := #[22, 22] })
    (v : Value) (l : List UInt8) (hs : a.eval s = v) (hown : OwnB B w v l) (hB : B ≤ w.heap.size) (A : Option Addr) (m c : Nat) (k : List UInt8) (hx : a.eval x = .slice A m c) (hk : BsAt w A m k) (h0 : 0 < m) (hl : l.length + m ≤ 1000000)
    (h : ∀ v' w', OwnB B w' v' (l ++ k) → w.grownBy w' v.ownBlock → (v'.ownBlock = v.ownBlock ∨ v'.ownBlock = some w.heap.size) → K (a.put o.dst v') w') : o.wp Tryd.prog a w K Q := by
  obtain ⟨i0, hi, hz0, hz1, hz2⟩ := info_parts info_u8
  obtain ⟨ek, hc2⟩ := hk
  obtain ⟨b, off, rfl, hlt, hcc⟩ := hc2 h0
  obtain ⟨v', w', hr, h2, h3, h4, h5⟩ := run_append_own_at (P := Tryd.prog) w B 22 o.type 5 i0 (.int .u8 0) 1 1 Tryd.underlying22 hi hz0 hz1 hz2 rfl (by decide) v l.length (Lib.byteCells l) hown
    ⟨b, off, none⟩ m c (Lib.byteCells k) (by simp [Lib.byteCells, ek]) (fun j u hj => by
      have hjk : j < k.length := by
        rcases Nat.lt_or_ge j k.length with g | g
        · exact g
        · rw [List.getElem?_eq_none (by simpa [Lib.byteCells] using g)] at hj; cases hj
      rw [addr_off, hcc j (by omega), ← byteCells_at k j hjk, hj]) (byteCells_one k) (by unfold maxLen; omega) (by omega) hB
  unfold Oper.wp execOp
  simp only [ho, resolve, invoke, builtin, Sem.run_bind, Sem.run_pure, Result.andThen_ok, List.map_toArray, List.map_cons, List.map_nil, hs, hx, hr]
  refine h v' w' ?_ h3 h5
  unfold OwnB
  rw [List.length_append, byteCells_append, ← ek]
  exact h2
theorem frames_pre (ps : List (List UInt8)) (t : Nat) : (framesL (ps.take t)).length ≤ (framesL ps).length := by
  have e : framesL ps = framesL (ps.take t) ++ framesL (ps.drop t) := by rw [← framesL_app, List.take_append_drop]
  rw [e, List.length_append]; omega
theorem bytesS_k {w : World} {A : Option Addr} {N : Nat} {P : List SlB} (h : LsAt w A N P) : N = P.length := h.1
set_option maxRecDepth 100000 in
set_option maxHeartbeats 8000000 in
theorem rcheck_is (w : World) (p q : Nat) (R Y : Int) (l : List UInt8) (dv v : Value) (S0 : List SlB) (A : Option Addr) (N c : Nat) (P : List SlB) (h : LgV 44 32 w p q R Y l dv v S0) (hP : LsAt w A N P) (hN : N ≤ 1000) (hF : (framesL (bytesS P)).length ≤ 90000) :
    Calls Tryd.prog 22 #[.pointer (some ⟨p, 0, none⟩), .slice A N c] w (LgT 44 32 w p q dv v S0 R (ckY R Y (bytesS P)) (ckL R l (bytesS P)) (ckR R (bytesS S0) (bytesS P)) (.int .i64 (ckE R (bytesS P) : Nat))) := by
  have HG := Lib.hid h
  have HP := Lib.hid hP
  have NP := Lib.hid (bytesS_k hP)
  have LN := Lib.hid (fun t => show (framesL ((bytesS P).take t)).length ≤ 90000 from Nat.le_trans (frames_pre _ _) hF)
  clear h hP
  go_enter Tryd.func22, Tryd.ntmps22
  go_wp2
  go_loopw [5, 6, 7] (fun va vr i wr => ∃ (t : Nat) (S : List SlB) , t ≤ N ∧ i = .int .i64 (t : Nat) ∧ CkI w P wr va vr t S) (fun _ _ i _ => N - (intOf i).toNat)
  case atStart => exact ⟨0, [], Nat.zero_le _, rfl, CkI.start w P⟩
  case round =>
    obtain ⟨t, S, ht, rfl, hC⟩ := hrel
    obtain ⟨na, hna⟩ : ∃ na, (framesL ((bytesS P).take t)).length = na := ⟨_, rfl⟩
    obtain ⟨Aa, ca, rfl, aa, -, za⟩ := own_atN hC.all hna
    obtain ⟨nr, hnr⟩ : ∃ nr, S.length = nr := ⟨_, rfl⟩
    obtain ⟨Ar, cr, er, -, -, -⟩ := hC.row.at_
    rw [hnr] at er
    subst er
    have CK := Lib.hid hC
    have NA := Lib.hid hna
    have nal : na ≤ 90000 := by rw [← hna]; exact LN.out t
    have AA := Lib.hid aa
    have NR := Lib.hid (show S.length ≤ 1000 from by
      have e := congrArg List.length hC.is
      rw [bytesS_len, List.length_take] at e
      omega)
    clear hC hna hnr aa
    by_cases hlt : t < N
    · obtain ⟨bb, off, rfl, hlt2, hcc⟩ := HP.out.2 (by omega)
      obtain ⟨x0, x1, x2, x3⟩ := hcc t hlt
      have TP := Lib.hid (show t < P.length by rw [← NP.out]; exact hlt)
      have i5 : (t : Int) < N := by omega
      unfold SlB.val at x0
      generalize hgt : gt P t = o at *
      obtain ⟨am, km, cm, lm⟩ := o
      simp only at x0 x1 x2 x3
      have GL := Lib.hid (show (gt P t).l = lm by rw [hgt])
      have KM := Lib.hid (show lm.length = km from x1.1.symm)
      have ZM := Lib.hid x3
      have HL2 := Lib.hid (fun w' (hb : Below w.heap.size w w') => x1.below hb)
      have CC := Lib.hid x0
      have hlt := hlt2
      have cw := (CK.out.at_.cell (p := ⟨bb, _, none⟩) hlt2).trans x0
      have fe := LN.out (t + 1)
      rw [take_snocB TP.out, framesL_app, framesL_one, List.length_append, GL.out, frameL_len, KM.out, NA.out] at fe
      have C3 := Lib.hid (rput_is wr am km cm lm (x1.below CK.out.at_) x3 (by omega))
      clear hcc x0 x1 x3 hgt hlt2
      by_cases h8 : km ≤ 8192
      · have e1 : putE lm = 0 := by unfold putE; rw [if_pos (by rw [KM.out]; exact h8)]
        have e2 : putV lm = frameL lm := by unfold putV; rw [if_pos (by rw [KM.out]; exact h8)]
        go_wp2_with fail
        refine C3.out.mono ?_
        rintro e w4 ⟨v4, rfl, o4, b4⟩
        rw [e1]
        rw [e2] at o4
        obtain ⟨Af, cf, rfl, af, -, -⟩ := own_atN o4 (n := 6 + km) (by rw [frameL_len, KM.out])
        have FA := Lib.hid af
        have CK4 := Lib.hid (CK.out.on b4)
        clear o4 af b4 C3 e1 e2
        go_wp2
        refine wp_region_late (fun _ => false) (fun y => Below w.heap.size w y) (by kernel_rfl) ?_
        have S0 : Below w.heap.size w w4.drew := CK4.out.at_.drew
        have D0 : Below w4.heap.size w4 w4.drew := (Below.refl _ _).drew
        refine tk 0 rfl (.slice Aa na ca) (.inl ⟨by kernel_rfl, fun w' hs => ?_⟩) S0 ?_
        · go_simp
        refine tk 1 rfl (.slice Af (6 + km) cf) (.inl ⟨by kernel_rfl, fun w' hs => ?_⟩) S0 ?_
        · go_simp
        refine tk 3 rfl (.slice Ar nr cr) (.inl ⟨by kernel_rfl, fun w' hs => ?_⟩) S0 ?_
        · go_simp
        refine tk 4 rfl (.slice (some ⟨bb, off, none⟩) N c) (.inl ⟨by kernel_rfl, fun w' hs => ?_⟩) S0 ?_
        · go_simp
        refine tk 5 rfl (.int .i64 (t : Nat)) (.inl ⟨by kernel_rfl, fun w' hs => ?_⟩) S0 ?_
        · go_simp
        refine tk 6 rfl (.pointer (some ⟨bb, off + t, none⟩)) (.inl ⟨by kernel_rfl, fun w' hs => ?_⟩) S0 ?_
        · go_simp
        refine tk 7 rfl (.slice am km cm) (.inl ⟨by kernel_rfl, fun w' hs => ?_⟩) S0 ?_
        · have q := (hs.cell (p := ⟨bb, _, none⟩) hlt).trans CC.out
          go_simp
        refine late_oneG 2 rfl (by kernel_rfl) (by kernel_rfl) ?_
        refine wp_ba _ _ rfl (.slice Aa na ca) _ (by go_simp) (CK4.out.on D0).all (Nat.le_trans CK4.out.at_.size D0.size) Af (6 + km) cf (frameL lm) (by go_simp) (FA.out.below D0) (by omega) (by rw [NA.out]; omega) ?_
        intro v5 w5 o5 g5 q5
        have CA := Lib.hid ((CK4.out.on D0).more TP.out (by rw [GL.out]; exact o5) g5 q5)
        have S5 : Below w.heap.size w w5 := CA.out.at_
        obtain ⟨n5, hn5⟩ : ∃ n5, (framesL ((bytesS P).take t) ++ frameL lm).length = n5 := ⟨_, rfl⟩
        obtain ⟨A5, c5, rfl, -, -, -⟩ := own_atN o5 hn5
        clear o5 g5 q5 hn5
        (first | refine ⟨S5, ?_⟩ | refine ⟨.inr S5, ?_⟩ | skip)
        refine late_oneG 8 rfl (by kernel_rfl) (by kernel_rfl) ?_
        go_simp
        refine (Dk.copy_is w5 am km cm lm (((HL2.out w5 S5))) ZM.out (by omega)).mono ?_
        rintro e w6 ⟨v6, rfl, o6, b6⟩
        obtain ⟨A6, c6, rfl, -, -, -⟩ := own_atN o6 KM.out
        have S6 : Below w.heap.size w w6 := S5.trans (b6.mono S5.size)
        have B6 := Lib.hid b6
        have O6 := Lib.hid (show OwnB w5.heap.size w6 (.slice A6 km c6) lm from o6)
        clear o6 b6
        (first | refine ⟨S6, ?_⟩ | refine ⟨.inr S6, ?_⟩ | skip)
        refine late_oneG 9 rfl (by kernel_rfl) (by kernel_rfl) ?_
        go_simp
        have al := below_alloc w6 (.cells #[.slice A6 km c6] 22)
        have S7 := S6.trans (al.mono S6.size)
        have CB := Lib.hid (show CkA w P (w6.alloc (.cells #[.slice A6 km c6] 22)) (.slice A5 n5 c5) (.slice Ar nr cr) t S from by
          have x := CA.out
          have y : Below w5.heap.size w5 (w6.alloc (.cells #[.slice A6 km c6] 22)) := B6.out.trans (al.mono B6.out.size)
          exact ⟨x.all.on y, x.row.on y, x.is, x.ne, S7⟩)
        (first | refine ⟨S7, ?_⟩ | refine ⟨.inr S7, ?_⟩ | skip)
        refine late_oneG 10 rfl (by kernel_rfl) (by kernel_rfl) ?_
        refine wp_sl _ _ rfl (.slice Ar nr cr) S (by go_simp) CB.out.row S7.size ⟨A6, km, c6, lm⟩ (own_low (O6.out.on al) S5.size) (fun j hj => ?_) w6.heap.size 1 (by go_simp) (by rw [World.cell?_alloc_new]; rfl) (by have := NR.out; omega) ?_
        · rcases hz : (gt S j).val.ownBlock with _ | k
          · exact .inl rfl
          · refine .inr fun z => ?_
            have h1 := (ownl_lt CA.out.row k (.inr ⟨j, hj, hz⟩)).2
            have h2 := (World.ownsRow.lt O6.out k z.symm).1
            omega
        intro v8 w8 o8 g8 _
        have CK8 := Lib.hid (CB.out.done TP.out (GL.out.symm) (by rw [GL.out, KM.out]; exact h8) CK4.out.ok o8 g8 (by
          rcases hz : (SlB.val ⟨A6, km, c6, lm⟩).ownBlock with _ | k
          · exact .inl rfl
          · refine .inr fun z => ?_
            have h1 := (World.ownsRow.lt CA.out.all k z.symm).2
            have h2 := (World.ownsRow.lt O6.out k hz).1
            omega))
        obtain ⟨n8, hn8⟩ : ∃ n8, (S ++ [(⟨A6, km, c6, lm⟩ : SlB)]).length = n8 := ⟨_, rfl⟩
        obtain ⟨A8, c8, e8, -, -, -⟩ := o8.at_
        rw [hn8] at e8
        subst e8
        have S8 : Below w.heap.size w w8 := CK8.out.at_
        clear o8 g8 hn8 al
        (first | refine ⟨S8, ?_⟩ | refine ⟨.inr S8, ?_⟩ | skip)
        refine tk 11 rfl (.slice A5 n5 c5) (.inl ⟨by kernel_rfl, fun w' hs => ?_⟩) S8 ?_
        · go_simp
        refine tk 12 rfl (.slice A8 n8 c8) (.inl ⟨by kernel_rfl, fun w' hs => ?_⟩) S8 ?_
        · go_simp
        (first | refine Late.done (by kernel_rfl) ?_ | skip)
        go_simp
        go_wp2
        go_roundw
        case rel => exact ⟨t + 1, _, by omega, by go_num, CK8.out⟩
        case measure => simp [intOf]; omega
      · have e1 : putE lm = 3 := by unfold putE; rw [if_neg (by rw [KM.out]; exact h8)]
        have e2 : putV lm = [] := by unfold putV; rw [if_neg (by rw [KM.out]; exact h8)]
        go_wp2_with fail
        refine C3.out.mono ?_
        rintro e w4 ⟨v4, rfl, o4, b4⟩
        rw [e1]
        rw [e2] at o4
        obtain ⟨Af, cf, rfl, -, -, -⟩ := own_atN o4 (n := 0) rfl
        have EE : ckE R (bytesS P) = 3 := by
          unfold ckE
          rw [if_neg]
          unfold okP
          rw [decide_eq_true_eq]
          intro hh
          have hm : lm ∈ bytesS P := by
            have := List.mem_of_getElem? (bytesS_at TP.out)
            rwa [GL.out] at this
          have := hh lm hm
          rw [KM.out] at this
          exact h8 this
        have F := Lib.hid (show LgT 44 32 w p q dv v S0 R (ckY R Y (bytesS P)) (ckL R l (bytesS P)) (ckR R (bytesS S0) (bytesS P)) (.int .i64 (ckE R (bytesS P) : Nat)) (.returned (.int .i64 3)) w4 by
          unfold ckY ckL ckR
          rw [EE, if_neg (by decide), if_neg (by decide), if_neg (by decide)]
          exact lgt_same HG.out (CK.out.on b4).at_ _)
        clear o4 b4 C3 e1 e2 EE
        go_wp2
        go_ret
        exact F.out
    · obtain rfl : t = N := by omega
      have OK : okP (bytesS P) = true := decide_eq_true (by
        have := CK.out.ok
        rwa [List.take_of_length_le (by rw [bytesS_len, NP.out]; exact Nat.le_refl _)] at this)
      have AL := Lib.hid (show framesL ((bytesS P).take t) = framesL (bytesS P) by rw [List.take_of_length_le (by rw [bytesS_len, NP.out]; exact Nat.le_refl _)])
      have IS := Lib.hid (show bytesS S = bytesS P by rw [CK.out.is, List.take_of_length_le (by rw [bytesS_len, NP.out]; exact Nat.le_refl _)])
      have B1 := Lib.hid CK.out.at_
      have G1 := Lib.hid (HG.out.below B1.out)
      have c0 := G1.out.c0
      have EQ := Lib.hid (show ckE R (bytesS P) = swE R (framesL (bytesS P)) by unfold ckE; rw [if_pos OK])
      have C4 := rswap_is wr q R Y l dv Aa na ca (framesL (bytesS P)) G1.out.d (by rw [← AL.out]; exact AA.out) za (by omega)
      have FL := Lib.hid (show (framesL (bytesS P)).length = na by rw [← AL.out]; exact NA.out)
      clear OK
      by_cases hR : (na : Int) ≤ R
      · have y1 : swE R (framesL (bytesS P)) = 0 := by unfold swE; rw [FL.out]; exact if_pos hR
        have y2 : swL R l (framesL (bytesS P)) = framesL (bytesS P) := by unfold swL; rw [FL.out]; exact if_pos hR
        have y3 : swY R Y (framesL (bytesS P)) = (na : Nat) := by unfold swY; rw [FL.out]; exact if_pos hR
        rw [y1, y2, y3] at C4
        have EE := Lib.hid (EQ.out.trans y1)
        clear y1 y2 y3
        go_wp2_with fail
        refine C4.mono ?_
        rintro e w2 ⟨rfl, v2, d2, k2, n2⟩
        clear C4
        have G2 := Lib.hid (G1.out.disk d2 k2 n2)
        have lo := HG.out.all
        have R2 : OwnL w.heap.size w2 (.slice Ar nr cr) S := ownl_kp CK.out.row k2 fun g hg z => by have := (ownl_lt CK.out.row g hg).1; have := lo g (.inr (.inr z)); omega
        obtain ⟨⟨z1, z2⟩, FIN⟩ := G2.out.put2 (by decide) (by decide) (R2.low (Nat.zero_le _)) (fun g hg z => by
          have h1 := ownl_lt CK.out.row g hg
          rcases z with z | z
          · have := lo g (.inr (.inr (.inl z))); omega
          · rcases n2 with n2 | n2
            · have := lo g (.inr (.inr (.inr (n2 ▸ z)))); omega
            · have := n2 g z; omega)
        have F := Lib.hid (show LgT 44 32 w p q dv v S0 R (ckY R Y (bytesS P)) (ckL R l (bytesS P)) (ckR R (bytesS S0) (bytesS P)) (.int .i64 (ckE R (bytesS P) : Nat)) (.returned (.int .i64 0)) (w2.setCell ⟨p, 1, none⟩ (.slice Ar nr cr)) by
          unfold ckY ckL ckR
          rw [EE.out, if_pos rfl, if_pos rfl, if_pos rfl]
          refine ⟨rfl, v2, .slice Ar nr cr, S, ?_, IS.out, ((Kp.of B1.out).trans (k2.mono fun g _ hg => .inr (.inr hg))).trans (FIN.out.2.mono fun g _ hg => .inl hg), fun g hg => ?_⟩
          · rw [FL.out]; exact FIN.out.1
          · rcases hg with hg | hg | hg | hg
            · exact .inl (.inl hg)
            · exact .inr (ownl_lt CK.out.row g hg).1
            · exact .inl (.inr (.inr (.inl hg)))
            · rcases n2 with n2 | n2
              · exact .inl (.inr (.inr (.inr (n2 ▸ hg))))
              · exact .inr (Nat.le_trans B1.out.size (n2 g hg)))
        clear FIN R2 lo d2 k2 n2
        go_wp2
        go_ret
        exact F.out
      · have y1 : swE R (framesL (bytesS P)) = 9 := by unfold swE; rw [FL.out]; exact if_neg hR
        have y2 : swL R l (framesL (bytesS P)) = l := by unfold swL; rw [FL.out]; exact if_neg hR
        have y3 : swY R Y (framesL (bytesS P)) = Y := by unfold swY; rw [FL.out]; exact if_neg hR
        rw [y1, y2, y3] at C4
        have EE := Lib.hid (EQ.out.trans y1)
        clear y1 y2 y3
        go_wp2_with fail
        refine C4.mono ?_
        intro e w2 t2
        obtain ⟨rfl, t3⟩ := LgT.disk (ans := .int .i64 9) G1.out t2
        have t4 := LgT.next (S := S0) (Kp.of B1.out) (fun _ hk => .inl hk) t3
        have F := Lib.hid (show LgT 44 32 w p q dv v S0 R (ckY R Y (bytesS P)) (ckL R l (bytesS P)) (ckR R (bytesS S0) (bytesS P)) (.int .i64 (ckE R (bytesS P) : Nat)) (.returned (.int .i64 9)) w2 by
          unfold ckY ckL ckR
          rw [EE.out, if_neg (by decide), if_neg (by decide), if_neg (by decide)]
          exact t4)
        clear t2 t3 t4 C4
        go_wp2
        go_ret
        exact F.out
end Go.Proofs.YtniphbfoppocfaaDoor.Wl
