/- The walk of the document's own list of the shifts around a moment: vokref1.near. -/
import Derived.Test.YtbinhnlajflndaaZnRef1
import Derived.Deep.RegionHeld3
set_option linter.unusedVariables false
namespace Go.Proofs.Ytbinhnlajflndaa.Zn
open Go.RowKit Cv St

/-- append of one shift, in a region that draws its order -/
theorem step_append_sh {ops : Array Oper} {o : Oper} {a : Act} {K : Act → World → Prop} {Q : Exit → Act → World → Prop} {E : Prop} {B : Nat} {w : World} (hgd : o.guard = none) (s x : Operand)
    (ho : o.op = .call { callee := .builtin .append, args := #[s, x], argTypes := #[22, 22] })
    (v : Value) (l : List Sh) (hs : a.eval s = v) (hown : OwnS B w v l) (hB : B ≤ w.heap.size) (g c : Nat) (k : Sh) (hx : a.eval x = .slice (some ⟨g, 0, none⟩) 1 c) (hk : ShAt w (some ⟨g, 0, none⟩) 1 [k]) (hl : l.length ≤ 1000000)
    (h : ∀ v' w', OwnS B w' v' (l ++ [k]) → Below B w w' → (∀ g t cs, Blk w g t cs → t ≠ 29 → Blk w' g t cs) → K (a.put o.dst v') w') :
    if Region.wanted o (yielded ops a.tmps) = true then Oper.wp Try.prog o a w K Q else E := by
  have hw : Region.wanted o (yielded ops a.tmps) = true := by simp [Region.wanted, hgd]
  rw [if_pos hw]
  obtain ⟨i0, hi, hz0, hz1, hz2⟩ := info_parts info_sh
  obtain ⟨b', off', e', _, hcc⟩ := hk.2 (by omega)
  cases e'
  obtain ⟨c0, c1⟩ := hcc 0 (by omega)
  refine wp_append_own w s x 22 ho B 29 i0 _ 2 16 Try.underlying22 hi hz0 hz1 hz2 rfl (by decide) v l.length (shCells l) hs hown ⟨g, 0, none⟩ 1 c (shCells [k]) hx rfl ?_ (shCells_one _) (by unfold maxLen; omega) (by omega) hB
    fun v' w' h1 hg _ => h v' w' ?_ ((Below.refl B w).grown hg hB fun g hk => (World.ownsRow.lt hown g hk).1) fun g t cs hb ht => (hg.block g hb.lt (hown.far hb ht)).trans hb
  · intro j u hj
    obtain ⟨i, hi', hh⟩ := shCells_at hj
    obtain rfl : i = 0 := by simpa using hi'
    rcases hh with ⟨rfl, rfl⟩ | ⟨rfl, rfl⟩
    · exact c0
    · exact c1
  · unfold OwnS; rw [List.length_append, shCells_app]; exact h1
def NearPost (w : World) (L : List Sh) (e : Ending) (w' : World) : Prop := ∃ v, e = .returned v ∧ OwnS w.heap.size w' v L ∧ Below w.heap.size w w'
theorem cols_two {ys : List Yr} (e : 2 = ys.length) (q : Int) : cols ys q = [inY (yat ys 0) q, inY (yat ys 1) q] := by rw [two_of e]; rfl
theorem run_len {ys : List Yr} (e : 2 = ys.length) : ∀ (j : Nat) (a : Int), (run ys a j).length = 2 * j
  | 0, _ => rfl
  | j + 1, a => by show (cols ys a ++ run ys (a + 1) j).length = _; rw [List.length_append, run_len e j, cols_two e]; simp; omega
theorem OwnS.alloc {B : Nat} {w : World} {v : Value} {l : List Sh} (h : OwnS B w v l) (o : Obj) : OwnS B (w.alloc o) v l := World.ownsRow.alloc h o
theorem OwnS.below {B : Nat} {w w' : World} {v : Value} {l : List Sh} (h : OwnS B w v l) (hb : Below w.heap.size w w') : OwnS B w' v l := by
  refine ⟨h.1, ?_⟩
  rcases h.2 with h0 | ⟨g', cap, cur, rfl, hB, hh, hr⟩
  · exact .inl h0
  · exact .inr ⟨g', cap, cur, rfl, hB, (hb.block g' (Array.getElem?_eq_some_iff.1 hh).1).trans hh, hr⟩
theorem OwnS.drew {B : Nat} {w : World} {v : Value} {l : List Sh} (h : OwnS B w v l) : OwnS B w.drew v l := h.below ((Below.refl _ _).drew)
set_option maxRecDepth 100000 in
set_option maxHeartbeats 8000000 in
theorem near_own (w : World) (b f u : Int) (A A' : Option Addr) (n c n' c' : Nat) (l : List Sh) (ys : List Yr) (h : mayB b l ys f = true) (hu : mayT u = true) (hz : ZnAt w A n A' n' l ys) (hcn : A = none → c = 0) :
    Calls Try.prog 41 #[.agg #[.int .i64 b, .slice A n c, .slice A' n' c', .int .i64 f], .int .i64 u] w (NearPost w (near l ys f u)) := by
  obtain ⟨y1, y2, _, _⟩ := year_may hu
  obtain ⟨f1, f2⟩ := frm_bd h
  obtain ⟨u1, u2⟩ := mayT_of hu
  have h64 : n ≤ 64 := by rw [hz.sh.1]; exact (may_of h).2.1
  have hyr := (may_of h).2.2.2
  have hr : ∀ j, j < n' → yrB (yat ys j) = true := fun j hj => by
    have hj' : j < ys.length := by rw [← hz.yr.1]; exact hj
    rw [yat_get hj']; exact yrs_ok h (List.getElem_mem hj')
  have HR := Lib.hid hr
  have hll : l.length ≤ 64 := (may_of h).2.1
  clear h hu hr
  have Z := Blk.new w 25 #[.int .i64 b, .slice A n c, .slice A' n' c', .int .i64 f]
  have za := (Below.refl _ _).alloc (Nat.le_refl _) (.cells #[.int .i64 b, .slice A n c, .slice A' n' c', .int .i64 f] 25) (w := w)
  have zb := za.alloc (by simp) (.cells #[] 29)
  have Z1 := Z.alloc (.cells #[] 29)
  have hz1 := hz.below zb
  have o0 := OwnS.nilLit (B := w.heap.size) (w.alloc (.cells #[.int .i64 b, .slice A n c, .slice A' n' c', .int .i64 f] 25)) (by simp)
  simp only [World.size_alloc] at o0
  go_enter Try.func41, Try.ntmps41
  go_wp2_with (at_builtin; refine append_sh rfl _ _ rfl _ [] rfl o0 (by simp; omega) A n c l rfl hz1.sh hcn (by simp; omega) ?_)
  intro v1 w1 o1 k1 t1
  have Z2 := t1 _ _ _ Z1 (by decide)
  have hB1 := zb.trans k1
  try rw [List.nil_append] at o1
  clear t1 k1 Z1 o0 zb za Z
  have lz := Z2.lt
  have z1 := Z2.cell 1; have z2 := Z2.cell 2; have z3 := Z2.cell 3
  simp at z1 z2 z3
  by_cases e0 : n' = 0
  · have ey : ys = [] := List.eq_nil_of_length_eq_zero (by rw [← hz.yr.1]; exact e0)
    have L := Lib.hid (show l = near l ys f u from by unfold near; rw [ey, run_nil, List.append_nil])
    have t0 : ((n' : Int) == 0) = true := by rw [beq_iff_eq]; omega
    clear e0 ey hyr
    go_wp2
    go_ret
    exact ⟨v1, rfl, L.out ▸ o1, hB1⟩
  · have t0 : ((n' : Int) == 0) = false := by rw [beq_eq_false_iff_ne]; omega
    have e2 : 2 = ys.length := by
      rcases hyr with ⟨e, _⟩ | ⟨r, q, e, _⟩
      · have := hz.yr.1; rw [e] at this; simp at this; omega
      · rw [e]; rfl
    have fy : 1 ≤ f := by
      rcases hyr with ⟨e, _⟩ | ⟨r, q, e, _, _, _, _, h5, _⟩
      · rw [e] at e2; simp at e2
      · exact h5
    obtain ⟨en', hc'⟩ := hz.yr
    obtain ⟨b2, off, rfl, hb2, hcc⟩ := hc' (by omega)
    have E2 := Lib.hid e2
    have n2 : n' ≤ 2 := by omega
    have n2' : 2 ≤ n' := by omega
    clear e0 hyr e2 en' hc'
    obtain ⟨Y, hY⟩ : ∃ Y, yr (u / 86400) = Y := ⟨_, rfl⟩
    have hYy : year u = Y := hY
    rw [hYy] at y1 y2
    have RD := rdate_yes (u / 86400) w1 (by omega) (by omega)
    rw [hY] at RD
    have RDH := Lib.hid RD
    have NY := Lib.hid (show near l ys f u = l ++ run ys (max f (Y - 1)) (min (max f Y + 1) 9999 + 1 - max f (Y - 1)).toNat from by unfold near; rw [hYy])
    clear RD hY hYy
    go_wp2_with fail
    refine (rday_any u _ (by omega) (by omega)).mono ?_
    rintro e w' ⟨rfl, rfl⟩
    go_wp2_with fail
    refine RDH.out.mono ?_
    rintro e w' ⟨rfl, rfl⟩
    clear RDH
    by_cases g1 : f < Y - 1
    · have g2 : f < Y := by omega
      go_wp2
      go_loopw [5, 12] (fun v k wr => ∃ (j : Nat) (q : Int), k = .int .i64 q ∧ Hid (q = Y - 1 + j) ∧ Y - 1 ≤ q ∧ q ≤ Y + 2 ∧ q ≤ 10000 ∧ OwnS w.heap.size wr v (l ++ run ys (Y - 1) j) ∧ Blk wr w.heap.size 25 #[.int .i64 b, .slice A n c, .slice (some ⟨b2, off, none⟩) n' c', .int .i64 f] ∧ Below w.heap.size w wr) (fun _ k _ => (10001 - intOf k).toNat)
      case atStart => exact ⟨0, _, rfl, Lib.hid (by simp), by omega, by omega, by omega, by simpa [run] using o1, Z2, hB1⟩
      case round =>
        obtain ⟨j, q, rfl, hq, m1, m2, m3, ov, Z3, hB3⟩ := hrel
        clear z1 z2 z3 lz
        have lz := Z3.lt
        have z1 := Z3.cell 1; have z2 := Z3.cell 2; have z3 := Z3.cell 3
        simp at z1 z2 z3
        obtain ⟨wm, rfl⟩ : ∃ wm : World, wm = wr := ⟨_, rfl⟩
        by_cases hy : q ≤ Y + 1 ∧ q ≤ 9999
        · obtain ⟨hy1, hy2⟩ := hy
          have hj : j ≤ 10000 := by have := hq.out; omega
          go_wp2
          all_goals
            go_loopw [5, 13] (fun v i wr => ∃ t : Nat, t ≤ 2 ∧ i = .int .i64 t ∧ OwnS w.heap.size wr v ((l ++ run ys (Y - 1) j) ++ (cols ys q).take t) ∧ Blk wr w.heap.size 25 #[.int .i64 b, .slice A n c, .slice (some ⟨b2, off, none⟩) n' c', .int .i64 f] ∧ Below w.heap.size w wr) (fun _ i _ => 2 - (intOf i).toNat)
            case atStart => exact ⟨0, by omega, rfl, by simpa using ov, Z3, hB3⟩
            case round =>
              obtain ⟨t, ht2, rfl, ov2, Z4, hB4⟩ := hrel
              clear z1 z2 z3 lz
              have lz := Z4.lt
              have z2 := Z4.cell 2
              simp at z2
              by_cases hlt : t < 2
              · have htn : t < n' := by omega
                have htI : (t : Int) < (n' : Int) := by omega
                have ht0 : (0 : Int) ≤ (t : Int) := by omega
                have hbw := Nat.lt_of_lt_of_le hb2 hB4.size
                obtain ⟨e0, e1, e2, e3, e4⟩ := hcc t htn
                replace e0 := (hB4.cell (p := ⟨b2, _, none⟩) hb2).trans e0
                replace e1 := (hB4.cell (p := ⟨b2, _, none⟩) hb2).trans e1
                replace e2 := (hB4.cell (p := ⟨b2, _, none⟩) hb2).trans e2
                replace e3 := (hB4.cell (p := ⟨b2, _, none⟩) hb2).trans e3
                replace e4 := (hB4.cell (p := ⟨b2, _, none⟩) hb2).trans e4
                have RY := Lib.hid (HR.out t htn)
                have ct : (cols ys q).take (t + 1) = (cols ys q).take t ++ [inY (yat ys t) q] := by
                  rw [cols_two E2.out]
                  have : t = 0 ∨ t = 1 := by omega
                  rcases this with rfl | rfl <;> rfl
                have CT := Lib.hid ct
                have len1 : ((l ++ run ys (Y - 1) j) ++ (cols ys q).take t).length ≤ 1000000 := by
                  rw [List.length_append, List.length_append, run_len E2.out, List.length_take]; omega
                have LEN := Lib.hid len1
                have q1 : 1 ≤ q := by omega
                clear ct len1 hcc
                have HS := Lib.hid (show ∀ v v' : World, ((v.cell? ⟨w.heap.size, 2, none⟩ = some (.slice (some ⟨b2, off, none⟩) n' c') ∧ v.cell? ⟨b2, off + t * 5, none⟩ = some (.int .i64 (yat ys t).m) ∧ v.cell? ⟨b2, off + t * 5 + 1, none⟩ = some (.int .i64 (yat ys t).k) ∧ v.cell? ⟨b2, off + t * 5 + 2, none⟩ = some (.int .i64 (yat ys t).d) ∧ v.cell? ⟨b2, off + t * 5 + 3, none⟩ = some (.int .i64 (yat ys t).s) ∧ v.cell? ⟨b2, off + t * 5 + 4, none⟩ = some (.int .i64 (yat ys t).o)) ∧ Blk v w.heap.size 25 #[.int .i64 b, .slice A n c, .slice (some ⟨b2, off, none⟩) n' c', .int .i64 f] ∧ Below w.heap.size w v) → Below w.heap.size v v' → Blk v' w.heap.size 25 #[.int .i64 b, .slice A n c, .slice (some ⟨b2, off, none⟩) n' c', .int .i64 f] → ((v'.cell? ⟨w.heap.size, 2, none⟩ = some (.slice (some ⟨b2, off, none⟩) n' c') ∧ v'.cell? ⟨b2, off + t * 5, none⟩ = some (.int .i64 (yat ys t).m) ∧ v'.cell? ⟨b2, off + t * 5 + 1, none⟩ = some (.int .i64 (yat ys t).k) ∧ v'.cell? ⟨b2, off + t * 5 + 2, none⟩ = some (.int .i64 (yat ys t).d) ∧ v'.cell? ⟨b2, off + t * 5 + 3, none⟩ = some (.int .i64 (yat ys t).s) ∧ v'.cell? ⟨b2, off + t * 5 + 4, none⟩ = some (.int .i64 (yat ys t).o)) ∧ Blk v' w.heap.size 25 #[.int .i64 b, .slice A n c, .slice (some ⟨b2, off, none⟩) n' c', .int .i64 f] ∧ Below w.heap.size w v') from fun v v' h hb hz => by
                  refine ⟨?_, hz, h.2.2.trans hb⟩
                  have hlt := Nat.lt_of_lt_of_le hb2 h.2.2.size
                  have hq := hz.cell 2
                  simp at hq
                  exact ⟨hq, (hb.cell (p := ⟨_, _, none⟩) hb2).trans h.1.2.1, (hb.cell (p := ⟨_, _, none⟩) hb2).trans h.1.2.2.1, (hb.cell (p := ⟨_, _, none⟩) hb2).trans h.1.2.2.2.1, (hb.cell (p := ⟨_, _, none⟩) hb2).trans h.1.2.2.2.2.1, (hb.cell (p := ⟨_, _, none⟩) hb2).trans h.1.2.2.2.2.2⟩)
                have HB := Lib.hid (show ∀ v v' : World, ((v.cell? ⟨w.heap.size, 2, none⟩ = some (.slice (some ⟨b2, off, none⟩) n' c') ∧ v.cell? ⟨b2, off + t * 5, none⟩ = some (.int .i64 (yat ys t).m) ∧ v.cell? ⟨b2, off + t * 5 + 1, none⟩ = some (.int .i64 (yat ys t).k) ∧ v.cell? ⟨b2, off + t * 5 + 2, none⟩ = some (.int .i64 (yat ys t).d) ∧ v.cell? ⟨b2, off + t * 5 + 3, none⟩ = some (.int .i64 (yat ys t).s) ∧ v.cell? ⟨b2, off + t * 5 + 4, none⟩ = some (.int .i64 (yat ys t).o)) ∧ Blk v w.heap.size 25 #[.int .i64 b, .slice A n c, .slice (some ⟨b2, off, none⟩) n' c', .int .i64 f] ∧ Below w.heap.size w v) → Below v.heap.size v v' → ((v'.cell? ⟨w.heap.size, 2, none⟩ = some (.slice (some ⟨b2, off, none⟩) n' c') ∧ v'.cell? ⟨b2, off + t * 5, none⟩ = some (.int .i64 (yat ys t).m) ∧ v'.cell? ⟨b2, off + t * 5 + 1, none⟩ = some (.int .i64 (yat ys t).k) ∧ v'.cell? ⟨b2, off + t * 5 + 2, none⟩ = some (.int .i64 (yat ys t).d) ∧ v'.cell? ⟨b2, off + t * 5 + 3, none⟩ = some (.int .i64 (yat ys t).s) ∧ v'.cell? ⟨b2, off + t * 5 + 4, none⟩ = some (.int .i64 (yat ys t).o)) ∧ Blk v' w.heap.size 25 #[.int .i64 b, .slice A n c, .slice (some ⟨b2, off, none⟩) n' c', .int .i64 f] ∧ Below w.heap.size w v') from fun v v' h hb => HS.out v v' h (hb.mono h.2.2.size) (h.2.1.below hb h.2.1.lt))
                have HX := Lib.hid (show ∀ v v' : World, ((v.cell? ⟨w.heap.size, 2, none⟩ = some (.slice (some ⟨b2, off, none⟩) n' c') ∧ v.cell? ⟨b2, off + t * 5, none⟩ = some (.int .i64 (yat ys t).m) ∧ v.cell? ⟨b2, off + t * 5 + 1, none⟩ = some (.int .i64 (yat ys t).k) ∧ v.cell? ⟨b2, off + t * 5 + 2, none⟩ = some (.int .i64 (yat ys t).d) ∧ v.cell? ⟨b2, off + t * 5 + 3, none⟩ = some (.int .i64 (yat ys t).s) ∧ v.cell? ⟨b2, off + t * 5 + 4, none⟩ = some (.int .i64 (yat ys t).o)) ∧ Blk v w.heap.size 25 #[.int .i64 b, .slice A n c, .slice (some ⟨b2, off, none⟩) n' c', .int .i64 f] ∧ Below w.heap.size w v) → Below w.heap.size v v' → (∀ g t cs, Blk v g t cs → t ≠ 29 → Blk v' g t cs) → ((v'.cell? ⟨w.heap.size, 2, none⟩ = some (.slice (some ⟨b2, off, none⟩) n' c') ∧ v'.cell? ⟨b2, off + t * 5, none⟩ = some (.int .i64 (yat ys t).m) ∧ v'.cell? ⟨b2, off + t * 5 + 1, none⟩ = some (.int .i64 (yat ys t).k) ∧ v'.cell? ⟨b2, off + t * 5 + 2, none⟩ = some (.int .i64 (yat ys t).d) ∧ v'.cell? ⟨b2, off + t * 5 + 3, none⟩ = some (.int .i64 (yat ys t).s) ∧ v'.cell? ⟨b2, off + t * 5 + 4, none⟩ = some (.int .i64 (yat ys t).o)) ∧ Blk v' w.heap.size 25 #[.int .i64 b, .slice A n c, .slice (some ⟨b2, off, none⟩) n' c', .int .i64 f] ∧ Below w.heap.size w v') from fun v v' h hb hz => HS.out v v' h hb (hz _ _ _ h.2.1 (by decide)))
                have HL := Lib.hid (show ∀ v : World, ((v.cell? ⟨w.heap.size, 2, none⟩ = some (.slice (some ⟨b2, off, none⟩) n' c') ∧ v.cell? ⟨b2, off + t * 5, none⟩ = some (.int .i64 (yat ys t).m) ∧ v.cell? ⟨b2, off + t * 5 + 1, none⟩ = some (.int .i64 (yat ys t).k) ∧ v.cell? ⟨b2, off + t * 5 + 2, none⟩ = some (.int .i64 (yat ys t).d) ∧ v.cell? ⟨b2, off + t * 5 + 3, none⟩ = some (.int .i64 (yat ys t).s) ∧ v.cell? ⟨b2, off + t * 5 + 4, none⟩ = some (.int .i64 (yat ys t).o)) ∧ Blk v w.heap.size 25 #[.int .i64 b, .slice A n c, .slice (some ⟨b2, off, none⟩) n' c', .int .i64 f] ∧ Below w.heap.size w v) → w.heap.size ≤ v.heap.size from fun v h => h.2.2.size)
                have HE := Lib.hid (show ∀ v : World, ((v.cell? ⟨w.heap.size, 2, none⟩ = some (.slice (some ⟨b2, off, none⟩) n' c') ∧ v.cell? ⟨b2, off + t * 5, none⟩ = some (.int .i64 (yat ys t).m) ∧ v.cell? ⟨b2, off + t * 5 + 1, none⟩ = some (.int .i64 (yat ys t).k) ∧ v.cell? ⟨b2, off + t * 5 + 2, none⟩ = some (.int .i64 (yat ys t).d) ∧ v.cell? ⟨b2, off + t * 5 + 3, none⟩ = some (.int .i64 (yat ys t).s) ∧ v.cell? ⟨b2, off + t * 5 + 4, none⟩ = some (.int .i64 (yat ys t).o)) ∧ Blk v w.heap.size 25 #[.int .i64 b, .slice A n c, .slice (some ⟨b2, off, none⟩) n' c', .int .i64 f] ∧ Below w.heap.size w v) → Blk v w.heap.size 25 #[.int .i64 b, .slice A n c, .slice (some ⟨b2, off, none⟩) n' c', .int .i64 f] ∧ Below w.heap.size w v from fun v h => h.2)
                have hS0 : ((wr.cell? ⟨w.heap.size, 2, none⟩ = some (.slice (some ⟨b2, off, none⟩) n' c') ∧ wr.cell? ⟨b2, off + t * 5, none⟩ = some (.int .i64 (yat ys t).m) ∧ wr.cell? ⟨b2, off + t * 5 + 1, none⟩ = some (.int .i64 (yat ys t).k) ∧ wr.cell? ⟨b2, off + t * 5 + 2, none⟩ = some (.int .i64 (yat ys t).d) ∧ wr.cell? ⟨b2, off + t * 5 + 3, none⟩ = some (.int .i64 (yat ys t).s) ∧ wr.cell? ⟨b2, off + t * 5 + 4, none⟩ = some (.int .i64 (yat ys t).o)) ∧ Blk wr w.heap.size 25 #[.int .i64 b, .slice A n c, .slice (some ⟨b2, off, none⟩) n' c', .int .i64 f] ∧ Below w.heap.size w wr) := ⟨⟨z2, e0, e1, e2, e3, e4⟩, Z4, hB4⟩
                have hq1 : (l ++ run ys (Y - 1) j ++ (cols ys q).take (t + 1)) = (l ++ run ys (Y - 1) j ++ (cols ys q).take t) ++ [inY (yat ys t) q] := by rw [CT.out, ← List.append_assoc]
                have HQ := Lib.hid hq1
                clear z2 e0 e1 e2 e3 e4 hq1 lz
                go_wp2_with fail
                go_region_held3 (fun v => ((v.cell? ⟨w.heap.size, 2, none⟩ = some (.slice (some ⟨b2, off, none⟩) n' c') ∧ v.cell? ⟨b2, off + t * 5, none⟩ = some (.int .i64 (yat ys t).m) ∧ v.cell? ⟨b2, off + t * 5 + 1, none⟩ = some (.int .i64 (yat ys t).k) ∧ v.cell? ⟨b2, off + t * 5 + 2, none⟩ = some (.int .i64 (yat ys t).d) ∧ v.cell? ⟨b2, off + t * 5 + 3, none⟩ = some (.int .i64 (yat ys t).s) ∧ v.cell? ⟨b2, off + t * 5 + 4, none⟩ = some (.int .i64 (yat ys t).o)) ∧ Blk v w.heap.size 25 #[.int .i64 b, .slice A n c, .slice (some ⟨b2, off, none⟩) n' c', .int .i64 f] ∧ Below w.heap.size w v))
                  ((first | assumption | exact HB.out _ _ (by assumption) ((Below.refl _ _).drew) | exact HB.out _ _ (by assumption) ((Below.refl _ _).alloc (Nat.le_refl _) _)))
                  (first
                    | (go_at_call 67; refine (ryearly_any (yat ys t) q _ RY.out q1 hy2).mono ?_; rintro e w' ⟨rfl, hb⟩; (first | have ov3 := ov2.below hb | have ov3 := ov2.drew.below hb); have hS1 := HB.out _ _ (by assumption) hb)
                    | (refine step_append_sh (by rfl) _ _ (by rfl) u5 (l ++ run ys (Y - 1) j ++ (cols ys q).take t) (by rfl) (ov3.alloc _) (HL.out _ (by assumption)) _ _ (inY (yat ys t) q) rfl (one_at _ (inY (yat ys t) q)) LEN.out ?_; intro v5 w5 o5 k5 t5; have hS5 := HX.out _ _ (by assumption) k5 t5))
                all_goals
                  go_wp2
                  go_roundw
                  case rel => exact ⟨t + 1, by omega, by go_num, by rw [HQ.out]; assumption, (HE.out _ (by assumption)).1, (HE.out _ (by assumption)).2⟩
                  case measure => simp [intOf]; omega
              · obtain rfl : t = 2 := by omega
                have R := Lib.hid (show (l ++ run ys (Y - 1) j) ++ (cols ys q).take 2 = l ++ run ys (Y - 1) (j + 1) from by
                  rw [run_snoc, ← hq.out, cols_two E2.out, List.append_assoc]; rfl)
                go_wp2
                go_roundw
                case rel => exact ⟨j + 1, q + 1, rfl, Lib.hid (by have := hq.out; omega), by omega, by omega, by omega, R.out ▸ ov2, Z4, hB4⟩
                case measure => simp [intOf]; omega
        · have L := Lib.hid (show l ++ run ys (Y - 1) j = near l ys f u from by
            rw [NY.out, show max f (Y - 1) = Y - 1 from by omega, show (min (max f Y + 1) 9999 + 1 - (Y - 1)).toNat = j from by have := hq.out; omega])
          go_wp2
          all_goals
            first
              | (exfalso; omega)
              | (go_ret; exact ⟨_, rfl, L.out ▸ ov, hB3⟩)
    · have g1' : Y - 1 ≤ f := by omega
      clear g1
      by_cases g2 : f < Y
      · go_wp2
        go_loopw [5, 12] (fun v k wr => ∃ (j : Nat) (q : Int), k = .int .i64 q ∧ Hid (q = f + j) ∧ f ≤ q ∧ q ≤ Y + 2 ∧ q ≤ 10000 ∧ OwnS w.heap.size wr v (l ++ run ys (f) j) ∧ Blk wr w.heap.size 25 #[.int .i64 b, .slice A n c, .slice (some ⟨b2, off, none⟩) n' c', .int .i64 f] ∧ Below w.heap.size w wr) (fun _ k _ => (10001 - intOf k).toNat)
        case atStart => exact ⟨0, _, rfl, Lib.hid (by simp), by omega, by omega, by omega, by simpa [run] using o1, Z2, hB1⟩
        case round =>
          obtain ⟨j, q, rfl, hq, m1, m2, m3, ov, Z3, hB3⟩ := hrel
          clear z1 z2 z3 lz
          have lz := Z3.lt
          have z1 := Z3.cell 1; have z2 := Z3.cell 2; have z3 := Z3.cell 3
          simp at z1 z2 z3
          obtain ⟨wm, rfl⟩ : ∃ wm : World, wm = wr := ⟨_, rfl⟩
          by_cases hy : q ≤ Y + 1 ∧ q ≤ 9999
          · obtain ⟨hy1, hy2⟩ := hy
            have hj : j ≤ 10000 := by have := hq.out; omega
            go_wp2
            all_goals
              go_loopw [5, 13] (fun v i wr => ∃ t : Nat, t ≤ 2 ∧ i = .int .i64 t ∧ OwnS w.heap.size wr v ((l ++ run ys (f) j) ++ (cols ys q).take t) ∧ Blk wr w.heap.size 25 #[.int .i64 b, .slice A n c, .slice (some ⟨b2, off, none⟩) n' c', .int .i64 f] ∧ Below w.heap.size w wr) (fun _ i _ => 2 - (intOf i).toNat)
              case atStart => exact ⟨0, by omega, rfl, by simpa using ov, Z3, hB3⟩
              case round =>
                obtain ⟨t, ht2, rfl, ov2, Z4, hB4⟩ := hrel
                clear z1 z2 z3 lz
                have lz := Z4.lt
                have z2 := Z4.cell 2
                simp at z2
                by_cases hlt : t < 2
                · have htn : t < n' := by omega
                  have htI : (t : Int) < (n' : Int) := by omega
                  have ht0 : (0 : Int) ≤ (t : Int) := by omega
                  have hbw := Nat.lt_of_lt_of_le hb2 hB4.size
                  obtain ⟨e0, e1, e2, e3, e4⟩ := hcc t htn
                  replace e0 := (hB4.cell (p := ⟨b2, _, none⟩) hb2).trans e0
                  replace e1 := (hB4.cell (p := ⟨b2, _, none⟩) hb2).trans e1
                  replace e2 := (hB4.cell (p := ⟨b2, _, none⟩) hb2).trans e2
                  replace e3 := (hB4.cell (p := ⟨b2, _, none⟩) hb2).trans e3
                  replace e4 := (hB4.cell (p := ⟨b2, _, none⟩) hb2).trans e4
                  have RY := Lib.hid (HR.out t htn)
                  have ct : (cols ys q).take (t + 1) = (cols ys q).take t ++ [inY (yat ys t) q] := by
                    rw [cols_two E2.out]
                    have : t = 0 ∨ t = 1 := by omega
                    rcases this with rfl | rfl <;> rfl
                  have CT := Lib.hid ct
                  have len1 : ((l ++ run ys (f) j) ++ (cols ys q).take t).length ≤ 1000000 := by
                    rw [List.length_append, List.length_append, run_len E2.out, List.length_take]; omega
                  have LEN := Lib.hid len1
                  have q1 : 1 ≤ q := by omega
                  clear ct len1 hcc
                  have HS := Lib.hid (show ∀ v v' : World, ((v.cell? ⟨w.heap.size, 2, none⟩ = some (.slice (some ⟨b2, off, none⟩) n' c') ∧ v.cell? ⟨b2, off + t * 5, none⟩ = some (.int .i64 (yat ys t).m) ∧ v.cell? ⟨b2, off + t * 5 + 1, none⟩ = some (.int .i64 (yat ys t).k) ∧ v.cell? ⟨b2, off + t * 5 + 2, none⟩ = some (.int .i64 (yat ys t).d) ∧ v.cell? ⟨b2, off + t * 5 + 3, none⟩ = some (.int .i64 (yat ys t).s) ∧ v.cell? ⟨b2, off + t * 5 + 4, none⟩ = some (.int .i64 (yat ys t).o)) ∧ Blk v w.heap.size 25 #[.int .i64 b, .slice A n c, .slice (some ⟨b2, off, none⟩) n' c', .int .i64 f] ∧ Below w.heap.size w v) → Below w.heap.size v v' → Blk v' w.heap.size 25 #[.int .i64 b, .slice A n c, .slice (some ⟨b2, off, none⟩) n' c', .int .i64 f] → ((v'.cell? ⟨w.heap.size, 2, none⟩ = some (.slice (some ⟨b2, off, none⟩) n' c') ∧ v'.cell? ⟨b2, off + t * 5, none⟩ = some (.int .i64 (yat ys t).m) ∧ v'.cell? ⟨b2, off + t * 5 + 1, none⟩ = some (.int .i64 (yat ys t).k) ∧ v'.cell? ⟨b2, off + t * 5 + 2, none⟩ = some (.int .i64 (yat ys t).d) ∧ v'.cell? ⟨b2, off + t * 5 + 3, none⟩ = some (.int .i64 (yat ys t).s) ∧ v'.cell? ⟨b2, off + t * 5 + 4, none⟩ = some (.int .i64 (yat ys t).o)) ∧ Blk v' w.heap.size 25 #[.int .i64 b, .slice A n c, .slice (some ⟨b2, off, none⟩) n' c', .int .i64 f] ∧ Below w.heap.size w v') from fun v v' h hb hz => by
                    refine ⟨?_, hz, h.2.2.trans hb⟩
                    have hlt := Nat.lt_of_lt_of_le hb2 h.2.2.size
                    have hq := hz.cell 2
                    simp at hq
                    exact ⟨hq, (hb.cell (p := ⟨_, _, none⟩) hb2).trans h.1.2.1, (hb.cell (p := ⟨_, _, none⟩) hb2).trans h.1.2.2.1, (hb.cell (p := ⟨_, _, none⟩) hb2).trans h.1.2.2.2.1, (hb.cell (p := ⟨_, _, none⟩) hb2).trans h.1.2.2.2.2.1, (hb.cell (p := ⟨_, _, none⟩) hb2).trans h.1.2.2.2.2.2⟩)
                  have HB := Lib.hid (show ∀ v v' : World, ((v.cell? ⟨w.heap.size, 2, none⟩ = some (.slice (some ⟨b2, off, none⟩) n' c') ∧ v.cell? ⟨b2, off + t * 5, none⟩ = some (.int .i64 (yat ys t).m) ∧ v.cell? ⟨b2, off + t * 5 + 1, none⟩ = some (.int .i64 (yat ys t).k) ∧ v.cell? ⟨b2, off + t * 5 + 2, none⟩ = some (.int .i64 (yat ys t).d) ∧ v.cell? ⟨b2, off + t * 5 + 3, none⟩ = some (.int .i64 (yat ys t).s) ∧ v.cell? ⟨b2, off + t * 5 + 4, none⟩ = some (.int .i64 (yat ys t).o)) ∧ Blk v w.heap.size 25 #[.int .i64 b, .slice A n c, .slice (some ⟨b2, off, none⟩) n' c', .int .i64 f] ∧ Below w.heap.size w v) → Below v.heap.size v v' → ((v'.cell? ⟨w.heap.size, 2, none⟩ = some (.slice (some ⟨b2, off, none⟩) n' c') ∧ v'.cell? ⟨b2, off + t * 5, none⟩ = some (.int .i64 (yat ys t).m) ∧ v'.cell? ⟨b2, off + t * 5 + 1, none⟩ = some (.int .i64 (yat ys t).k) ∧ v'.cell? ⟨b2, off + t * 5 + 2, none⟩ = some (.int .i64 (yat ys t).d) ∧ v'.cell? ⟨b2, off + t * 5 + 3, none⟩ = some (.int .i64 (yat ys t).s) ∧ v'.cell? ⟨b2, off + t * 5 + 4, none⟩ = some (.int .i64 (yat ys t).o)) ∧ Blk v' w.heap.size 25 #[.int .i64 b, .slice A n c, .slice (some ⟨b2, off, none⟩) n' c', .int .i64 f] ∧ Below w.heap.size w v') from fun v v' h hb => HS.out v v' h (hb.mono h.2.2.size) (h.2.1.below hb h.2.1.lt))
                  have HX := Lib.hid (show ∀ v v' : World, ((v.cell? ⟨w.heap.size, 2, none⟩ = some (.slice (some ⟨b2, off, none⟩) n' c') ∧ v.cell? ⟨b2, off + t * 5, none⟩ = some (.int .i64 (yat ys t).m) ∧ v.cell? ⟨b2, off + t * 5 + 1, none⟩ = some (.int .i64 (yat ys t).k) ∧ v.cell? ⟨b2, off + t * 5 + 2, none⟩ = some (.int .i64 (yat ys t).d) ∧ v.cell? ⟨b2, off + t * 5 + 3, none⟩ = some (.int .i64 (yat ys t).s) ∧ v.cell? ⟨b2, off + t * 5 + 4, none⟩ = some (.int .i64 (yat ys t).o)) ∧ Blk v w.heap.size 25 #[.int .i64 b, .slice A n c, .slice (some ⟨b2, off, none⟩) n' c', .int .i64 f] ∧ Below w.heap.size w v) → Below w.heap.size v v' → (∀ g t cs, Blk v g t cs → t ≠ 29 → Blk v' g t cs) → ((v'.cell? ⟨w.heap.size, 2, none⟩ = some (.slice (some ⟨b2, off, none⟩) n' c') ∧ v'.cell? ⟨b2, off + t * 5, none⟩ = some (.int .i64 (yat ys t).m) ∧ v'.cell? ⟨b2, off + t * 5 + 1, none⟩ = some (.int .i64 (yat ys t).k) ∧ v'.cell? ⟨b2, off + t * 5 + 2, none⟩ = some (.int .i64 (yat ys t).d) ∧ v'.cell? ⟨b2, off + t * 5 + 3, none⟩ = some (.int .i64 (yat ys t).s) ∧ v'.cell? ⟨b2, off + t * 5 + 4, none⟩ = some (.int .i64 (yat ys t).o)) ∧ Blk v' w.heap.size 25 #[.int .i64 b, .slice A n c, .slice (some ⟨b2, off, none⟩) n' c', .int .i64 f] ∧ Below w.heap.size w v') from fun v v' h hb hz => HS.out v v' h hb (hz _ _ _ h.2.1 (by decide)))
                  have HL := Lib.hid (show ∀ v : World, ((v.cell? ⟨w.heap.size, 2, none⟩ = some (.slice (some ⟨b2, off, none⟩) n' c') ∧ v.cell? ⟨b2, off + t * 5, none⟩ = some (.int .i64 (yat ys t).m) ∧ v.cell? ⟨b2, off + t * 5 + 1, none⟩ = some (.int .i64 (yat ys t).k) ∧ v.cell? ⟨b2, off + t * 5 + 2, none⟩ = some (.int .i64 (yat ys t).d) ∧ v.cell? ⟨b2, off + t * 5 + 3, none⟩ = some (.int .i64 (yat ys t).s) ∧ v.cell? ⟨b2, off + t * 5 + 4, none⟩ = some (.int .i64 (yat ys t).o)) ∧ Blk v w.heap.size 25 #[.int .i64 b, .slice A n c, .slice (some ⟨b2, off, none⟩) n' c', .int .i64 f] ∧ Below w.heap.size w v) → w.heap.size ≤ v.heap.size from fun v h => h.2.2.size)
                  have HE := Lib.hid (show ∀ v : World, ((v.cell? ⟨w.heap.size, 2, none⟩ = some (.slice (some ⟨b2, off, none⟩) n' c') ∧ v.cell? ⟨b2, off + t * 5, none⟩ = some (.int .i64 (yat ys t).m) ∧ v.cell? ⟨b2, off + t * 5 + 1, none⟩ = some (.int .i64 (yat ys t).k) ∧ v.cell? ⟨b2, off + t * 5 + 2, none⟩ = some (.int .i64 (yat ys t).d) ∧ v.cell? ⟨b2, off + t * 5 + 3, none⟩ = some (.int .i64 (yat ys t).s) ∧ v.cell? ⟨b2, off + t * 5 + 4, none⟩ = some (.int .i64 (yat ys t).o)) ∧ Blk v w.heap.size 25 #[.int .i64 b, .slice A n c, .slice (some ⟨b2, off, none⟩) n' c', .int .i64 f] ∧ Below w.heap.size w v) → Blk v w.heap.size 25 #[.int .i64 b, .slice A n c, .slice (some ⟨b2, off, none⟩) n' c', .int .i64 f] ∧ Below w.heap.size w v from fun v h => h.2)
                  have hS0 : ((wr.cell? ⟨w.heap.size, 2, none⟩ = some (.slice (some ⟨b2, off, none⟩) n' c') ∧ wr.cell? ⟨b2, off + t * 5, none⟩ = some (.int .i64 (yat ys t).m) ∧ wr.cell? ⟨b2, off + t * 5 + 1, none⟩ = some (.int .i64 (yat ys t).k) ∧ wr.cell? ⟨b2, off + t * 5 + 2, none⟩ = some (.int .i64 (yat ys t).d) ∧ wr.cell? ⟨b2, off + t * 5 + 3, none⟩ = some (.int .i64 (yat ys t).s) ∧ wr.cell? ⟨b2, off + t * 5 + 4, none⟩ = some (.int .i64 (yat ys t).o)) ∧ Blk wr w.heap.size 25 #[.int .i64 b, .slice A n c, .slice (some ⟨b2, off, none⟩) n' c', .int .i64 f] ∧ Below w.heap.size w wr) := ⟨⟨z2, e0, e1, e2, e3, e4⟩, Z4, hB4⟩
                  have hq1 : (l ++ run ys (f) j ++ (cols ys q).take (t + 1)) = (l ++ run ys (f) j ++ (cols ys q).take t) ++ [inY (yat ys t) q] := by rw [CT.out, ← List.append_assoc]
                  have HQ := Lib.hid hq1
                  clear z2 e0 e1 e2 e3 e4 hq1 lz
                  go_wp2_with fail
                  go_region_held3 (fun v => ((v.cell? ⟨w.heap.size, 2, none⟩ = some (.slice (some ⟨b2, off, none⟩) n' c') ∧ v.cell? ⟨b2, off + t * 5, none⟩ = some (.int .i64 (yat ys t).m) ∧ v.cell? ⟨b2, off + t * 5 + 1, none⟩ = some (.int .i64 (yat ys t).k) ∧ v.cell? ⟨b2, off + t * 5 + 2, none⟩ = some (.int .i64 (yat ys t).d) ∧ v.cell? ⟨b2, off + t * 5 + 3, none⟩ = some (.int .i64 (yat ys t).s) ∧ v.cell? ⟨b2, off + t * 5 + 4, none⟩ = some (.int .i64 (yat ys t).o)) ∧ Blk v w.heap.size 25 #[.int .i64 b, .slice A n c, .slice (some ⟨b2, off, none⟩) n' c', .int .i64 f] ∧ Below w.heap.size w v))
                    ((first | assumption | exact HB.out _ _ (by assumption) ((Below.refl _ _).drew) | exact HB.out _ _ (by assumption) ((Below.refl _ _).alloc (Nat.le_refl _) _)))
                    (first
                      | (go_at_call 67; refine (ryearly_any (yat ys t) q _ RY.out q1 hy2).mono ?_; rintro e w' ⟨rfl, hb⟩; (first | have ov3 := ov2.below hb | have ov3 := ov2.drew.below hb); have hS1 := HB.out _ _ (by assumption) hb)
                      | (refine step_append_sh (by rfl) _ _ (by rfl) u5 (l ++ run ys (f) j ++ (cols ys q).take t) (by rfl) (ov3.alloc _) (HL.out _ (by assumption)) _ _ (inY (yat ys t) q) rfl (one_at _ (inY (yat ys t) q)) LEN.out ?_; intro v5 w5 o5 k5 t5; have hS5 := HX.out _ _ (by assumption) k5 t5))
                  all_goals
                    go_wp2
                    go_roundw
                    case rel => exact ⟨t + 1, by omega, by go_num, by rw [HQ.out]; assumption, (HE.out _ (by assumption)).1, (HE.out _ (by assumption)).2⟩
                    case measure => simp [intOf]; omega
                · obtain rfl : t = 2 := by omega
                  have R := Lib.hid (show (l ++ run ys (f) j) ++ (cols ys q).take 2 = l ++ run ys (f) (j + 1) from by
                    rw [run_snoc, ← hq.out, cols_two E2.out, List.append_assoc]; rfl)
                  go_wp2
                  go_roundw
                  case rel => exact ⟨j + 1, q + 1, rfl, Lib.hid (by have := hq.out; omega), by omega, by omega, by omega, R.out ▸ ov2, Z4, hB4⟩
                  case measure => simp [intOf]; omega
          · have L := Lib.hid (show l ++ run ys (f) j = near l ys f u from by
              rw [NY.out, show max f (Y - 1) = f from by omega, show (min (max f Y + 1) 9999 + 1 - (f)).toNat = j from by have := hq.out; omega])
            go_wp2
            all_goals
              first
                | (exfalso; omega)
                | (go_ret; exact ⟨_, rfl, L.out ▸ ov, hB3⟩)
      · have g2' : Y ≤ f := by omega
        clear g2
        go_wp2
        go_loopw [5, 12] (fun v k wr => ∃ (j : Nat) (q : Int), k = .int .i64 q ∧ Hid (q = f + j) ∧ f ≤ q ∧ q ≤ f + 2 ∧ q ≤ 10000 ∧ OwnS w.heap.size wr v (l ++ run ys (f) j) ∧ Blk wr w.heap.size 25 #[.int .i64 b, .slice A n c, .slice (some ⟨b2, off, none⟩) n' c', .int .i64 f] ∧ Below w.heap.size w wr) (fun _ k _ => (10001 - intOf k).toNat)
        case atStart => exact ⟨0, _, rfl, Lib.hid (by simp), by omega, by omega, by omega, by simpa [run] using o1, Z2, hB1⟩
        case round =>
          obtain ⟨j, q, rfl, hq, m1, m2, m3, ov, Z3, hB3⟩ := hrel
          clear z1 z2 z3 lz
          have lz := Z3.lt
          have z1 := Z3.cell 1; have z2 := Z3.cell 2; have z3 := Z3.cell 3
          simp at z1 z2 z3
          obtain ⟨wm, rfl⟩ : ∃ wm : World, wm = wr := ⟨_, rfl⟩
          by_cases hy : q ≤ f + 1 ∧ q ≤ 9999
          · obtain ⟨hy1, hy2⟩ := hy
            have hj : j ≤ 10000 := by have := hq.out; omega
            go_wp2
            all_goals
              go_loopw [5, 13] (fun v i wr => ∃ t : Nat, t ≤ 2 ∧ i = .int .i64 t ∧ OwnS w.heap.size wr v ((l ++ run ys (f) j) ++ (cols ys q).take t) ∧ Blk wr w.heap.size 25 #[.int .i64 b, .slice A n c, .slice (some ⟨b2, off, none⟩) n' c', .int .i64 f] ∧ Below w.heap.size w wr) (fun _ i _ => 2 - (intOf i).toNat)
              case atStart => exact ⟨0, by omega, rfl, by simpa using ov, Z3, hB3⟩
              case round =>
                obtain ⟨t, ht2, rfl, ov2, Z4, hB4⟩ := hrel
                clear z1 z2 z3 lz
                have lz := Z4.lt
                have z2 := Z4.cell 2
                simp at z2
                by_cases hlt : t < 2
                · have htn : t < n' := by omega
                  have htI : (t : Int) < (n' : Int) := by omega
                  have ht0 : (0 : Int) ≤ (t : Int) := by omega
                  have hbw := Nat.lt_of_lt_of_le hb2 hB4.size
                  obtain ⟨e0, e1, e2, e3, e4⟩ := hcc t htn
                  replace e0 := (hB4.cell (p := ⟨b2, _, none⟩) hb2).trans e0
                  replace e1 := (hB4.cell (p := ⟨b2, _, none⟩) hb2).trans e1
                  replace e2 := (hB4.cell (p := ⟨b2, _, none⟩) hb2).trans e2
                  replace e3 := (hB4.cell (p := ⟨b2, _, none⟩) hb2).trans e3
                  replace e4 := (hB4.cell (p := ⟨b2, _, none⟩) hb2).trans e4
                  have RY := Lib.hid (HR.out t htn)
                  have ct : (cols ys q).take (t + 1) = (cols ys q).take t ++ [inY (yat ys t) q] := by
                    rw [cols_two E2.out]
                    have : t = 0 ∨ t = 1 := by omega
                    rcases this with rfl | rfl <;> rfl
                  have CT := Lib.hid ct
                  have len1 : ((l ++ run ys (f) j) ++ (cols ys q).take t).length ≤ 1000000 := by
                    rw [List.length_append, List.length_append, run_len E2.out, List.length_take]; omega
                  have LEN := Lib.hid len1
                  have q1 : 1 ≤ q := by omega
                  clear ct len1 hcc
                  have HS := Lib.hid (show ∀ v v' : World, ((v.cell? ⟨w.heap.size, 2, none⟩ = some (.slice (some ⟨b2, off, none⟩) n' c') ∧ v.cell? ⟨b2, off + t * 5, none⟩ = some (.int .i64 (yat ys t).m) ∧ v.cell? ⟨b2, off + t * 5 + 1, none⟩ = some (.int .i64 (yat ys t).k) ∧ v.cell? ⟨b2, off + t * 5 + 2, none⟩ = some (.int .i64 (yat ys t).d) ∧ v.cell? ⟨b2, off + t * 5 + 3, none⟩ = some (.int .i64 (yat ys t).s) ∧ v.cell? ⟨b2, off + t * 5 + 4, none⟩ = some (.int .i64 (yat ys t).o)) ∧ Blk v w.heap.size 25 #[.int .i64 b, .slice A n c, .slice (some ⟨b2, off, none⟩) n' c', .int .i64 f] ∧ Below w.heap.size w v) → Below w.heap.size v v' → Blk v' w.heap.size 25 #[.int .i64 b, .slice A n c, .slice (some ⟨b2, off, none⟩) n' c', .int .i64 f] → ((v'.cell? ⟨w.heap.size, 2, none⟩ = some (.slice (some ⟨b2, off, none⟩) n' c') ∧ v'.cell? ⟨b2, off + t * 5, none⟩ = some (.int .i64 (yat ys t).m) ∧ v'.cell? ⟨b2, off + t * 5 + 1, none⟩ = some (.int .i64 (yat ys t).k) ∧ v'.cell? ⟨b2, off + t * 5 + 2, none⟩ = some (.int .i64 (yat ys t).d) ∧ v'.cell? ⟨b2, off + t * 5 + 3, none⟩ = some (.int .i64 (yat ys t).s) ∧ v'.cell? ⟨b2, off + t * 5 + 4, none⟩ = some (.int .i64 (yat ys t).o)) ∧ Blk v' w.heap.size 25 #[.int .i64 b, .slice A n c, .slice (some ⟨b2, off, none⟩) n' c', .int .i64 f] ∧ Below w.heap.size w v') from fun v v' h hb hz => by
                    refine ⟨?_, hz, h.2.2.trans hb⟩
                    have hlt := Nat.lt_of_lt_of_le hb2 h.2.2.size
                    have hq := hz.cell 2
                    simp at hq
                    exact ⟨hq, (hb.cell (p := ⟨_, _, none⟩) hb2).trans h.1.2.1, (hb.cell (p := ⟨_, _, none⟩) hb2).trans h.1.2.2.1, (hb.cell (p := ⟨_, _, none⟩) hb2).trans h.1.2.2.2.1, (hb.cell (p := ⟨_, _, none⟩) hb2).trans h.1.2.2.2.2.1, (hb.cell (p := ⟨_, _, none⟩) hb2).trans h.1.2.2.2.2.2⟩)
                  have HB := Lib.hid (show ∀ v v' : World, ((v.cell? ⟨w.heap.size, 2, none⟩ = some (.slice (some ⟨b2, off, none⟩) n' c') ∧ v.cell? ⟨b2, off + t * 5, none⟩ = some (.int .i64 (yat ys t).m) ∧ v.cell? ⟨b2, off + t * 5 + 1, none⟩ = some (.int .i64 (yat ys t).k) ∧ v.cell? ⟨b2, off + t * 5 + 2, none⟩ = some (.int .i64 (yat ys t).d) ∧ v.cell? ⟨b2, off + t * 5 + 3, none⟩ = some (.int .i64 (yat ys t).s) ∧ v.cell? ⟨b2, off + t * 5 + 4, none⟩ = some (.int .i64 (yat ys t).o)) ∧ Blk v w.heap.size 25 #[.int .i64 b, .slice A n c, .slice (some ⟨b2, off, none⟩) n' c', .int .i64 f] ∧ Below w.heap.size w v) → Below v.heap.size v v' → ((v'.cell? ⟨w.heap.size, 2, none⟩ = some (.slice (some ⟨b2, off, none⟩) n' c') ∧ v'.cell? ⟨b2, off + t * 5, none⟩ = some (.int .i64 (yat ys t).m) ∧ v'.cell? ⟨b2, off + t * 5 + 1, none⟩ = some (.int .i64 (yat ys t).k) ∧ v'.cell? ⟨b2, off + t * 5 + 2, none⟩ = some (.int .i64 (yat ys t).d) ∧ v'.cell? ⟨b2, off + t * 5 + 3, none⟩ = some (.int .i64 (yat ys t).s) ∧ v'.cell? ⟨b2, off + t * 5 + 4, none⟩ = some (.int .i64 (yat ys t).o)) ∧ Blk v' w.heap.size 25 #[.int .i64 b, .slice A n c, .slice (some ⟨b2, off, none⟩) n' c', .int .i64 f] ∧ Below w.heap.size w v') from fun v v' h hb => HS.out v v' h (hb.mono h.2.2.size) (h.2.1.below hb h.2.1.lt))
                  have HX := Lib.hid (show ∀ v v' : World, ((v.cell? ⟨w.heap.size, 2, none⟩ = some (.slice (some ⟨b2, off, none⟩) n' c') ∧ v.cell? ⟨b2, off + t * 5, none⟩ = some (.int .i64 (yat ys t).m) ∧ v.cell? ⟨b2, off + t * 5 + 1, none⟩ = some (.int .i64 (yat ys t).k) ∧ v.cell? ⟨b2, off + t * 5 + 2, none⟩ = some (.int .i64 (yat ys t).d) ∧ v.cell? ⟨b2, off + t * 5 + 3, none⟩ = some (.int .i64 (yat ys t).s) ∧ v.cell? ⟨b2, off + t * 5 + 4, none⟩ = some (.int .i64 (yat ys t).o)) ∧ Blk v w.heap.size 25 #[.int .i64 b, .slice A n c, .slice (some ⟨b2, off, none⟩) n' c', .int .i64 f] ∧ Below w.heap.size w v) → Below w.heap.size v v' → (∀ g t cs, Blk v g t cs → t ≠ 29 → Blk v' g t cs) → ((v'.cell? ⟨w.heap.size, 2, none⟩ = some (.slice (some ⟨b2, off, none⟩) n' c') ∧ v'.cell? ⟨b2, off + t * 5, none⟩ = some (.int .i64 (yat ys t).m) ∧ v'.cell? ⟨b2, off + t * 5 + 1, none⟩ = some (.int .i64 (yat ys t).k) ∧ v'.cell? ⟨b2, off + t * 5 + 2, none⟩ = some (.int .i64 (yat ys t).d) ∧ v'.cell? ⟨b2, off + t * 5 + 3, none⟩ = some (.int .i64 (yat ys t).s) ∧ v'.cell? ⟨b2, off + t * 5 + 4, none⟩ = some (.int .i64 (yat ys t).o)) ∧ Blk v' w.heap.size 25 #[.int .i64 b, .slice A n c, .slice (some ⟨b2, off, none⟩) n' c', .int .i64 f] ∧ Below w.heap.size w v') from fun v v' h hb hz => HS.out v v' h hb (hz _ _ _ h.2.1 (by decide)))
                  have HL := Lib.hid (show ∀ v : World, ((v.cell? ⟨w.heap.size, 2, none⟩ = some (.slice (some ⟨b2, off, none⟩) n' c') ∧ v.cell? ⟨b2, off + t * 5, none⟩ = some (.int .i64 (yat ys t).m) ∧ v.cell? ⟨b2, off + t * 5 + 1, none⟩ = some (.int .i64 (yat ys t).k) ∧ v.cell? ⟨b2, off + t * 5 + 2, none⟩ = some (.int .i64 (yat ys t).d) ∧ v.cell? ⟨b2, off + t * 5 + 3, none⟩ = some (.int .i64 (yat ys t).s) ∧ v.cell? ⟨b2, off + t * 5 + 4, none⟩ = some (.int .i64 (yat ys t).o)) ∧ Blk v w.heap.size 25 #[.int .i64 b, .slice A n c, .slice (some ⟨b2, off, none⟩) n' c', .int .i64 f] ∧ Below w.heap.size w v) → w.heap.size ≤ v.heap.size from fun v h => h.2.2.size)
                  have HE := Lib.hid (show ∀ v : World, ((v.cell? ⟨w.heap.size, 2, none⟩ = some (.slice (some ⟨b2, off, none⟩) n' c') ∧ v.cell? ⟨b2, off + t * 5, none⟩ = some (.int .i64 (yat ys t).m) ∧ v.cell? ⟨b2, off + t * 5 + 1, none⟩ = some (.int .i64 (yat ys t).k) ∧ v.cell? ⟨b2, off + t * 5 + 2, none⟩ = some (.int .i64 (yat ys t).d) ∧ v.cell? ⟨b2, off + t * 5 + 3, none⟩ = some (.int .i64 (yat ys t).s) ∧ v.cell? ⟨b2, off + t * 5 + 4, none⟩ = some (.int .i64 (yat ys t).o)) ∧ Blk v w.heap.size 25 #[.int .i64 b, .slice A n c, .slice (some ⟨b2, off, none⟩) n' c', .int .i64 f] ∧ Below w.heap.size w v) → Blk v w.heap.size 25 #[.int .i64 b, .slice A n c, .slice (some ⟨b2, off, none⟩) n' c', .int .i64 f] ∧ Below w.heap.size w v from fun v h => h.2)
                  have hS0 : ((wr.cell? ⟨w.heap.size, 2, none⟩ = some (.slice (some ⟨b2, off, none⟩) n' c') ∧ wr.cell? ⟨b2, off + t * 5, none⟩ = some (.int .i64 (yat ys t).m) ∧ wr.cell? ⟨b2, off + t * 5 + 1, none⟩ = some (.int .i64 (yat ys t).k) ∧ wr.cell? ⟨b2, off + t * 5 + 2, none⟩ = some (.int .i64 (yat ys t).d) ∧ wr.cell? ⟨b2, off + t * 5 + 3, none⟩ = some (.int .i64 (yat ys t).s) ∧ wr.cell? ⟨b2, off + t * 5 + 4, none⟩ = some (.int .i64 (yat ys t).o)) ∧ Blk wr w.heap.size 25 #[.int .i64 b, .slice A n c, .slice (some ⟨b2, off, none⟩) n' c', .int .i64 f] ∧ Below w.heap.size w wr) := ⟨⟨z2, e0, e1, e2, e3, e4⟩, Z4, hB4⟩
                  have hq1 : (l ++ run ys (f) j ++ (cols ys q).take (t + 1)) = (l ++ run ys (f) j ++ (cols ys q).take t) ++ [inY (yat ys t) q] := by rw [CT.out, ← List.append_assoc]
                  have HQ := Lib.hid hq1
                  clear z2 e0 e1 e2 e3 e4 hq1 lz
                  go_wp2_with fail
                  go_region_held3 (fun v => ((v.cell? ⟨w.heap.size, 2, none⟩ = some (.slice (some ⟨b2, off, none⟩) n' c') ∧ v.cell? ⟨b2, off + t * 5, none⟩ = some (.int .i64 (yat ys t).m) ∧ v.cell? ⟨b2, off + t * 5 + 1, none⟩ = some (.int .i64 (yat ys t).k) ∧ v.cell? ⟨b2, off + t * 5 + 2, none⟩ = some (.int .i64 (yat ys t).d) ∧ v.cell? ⟨b2, off + t * 5 + 3, none⟩ = some (.int .i64 (yat ys t).s) ∧ v.cell? ⟨b2, off + t * 5 + 4, none⟩ = some (.int .i64 (yat ys t).o)) ∧ Blk v w.heap.size 25 #[.int .i64 b, .slice A n c, .slice (some ⟨b2, off, none⟩) n' c', .int .i64 f] ∧ Below w.heap.size w v))
                    ((first | assumption | exact HB.out _ _ (by assumption) ((Below.refl _ _).drew) | exact HB.out _ _ (by assumption) ((Below.refl _ _).alloc (Nat.le_refl _) _)))
                    (first
                      | (go_at_call 67; refine (ryearly_any (yat ys t) q _ RY.out q1 hy2).mono ?_; rintro e w' ⟨rfl, hb⟩; (first | have ov3 := ov2.below hb | have ov3 := ov2.drew.below hb); have hS1 := HB.out _ _ (by assumption) hb)
                      | (refine step_append_sh (by rfl) _ _ (by rfl) u5 (l ++ run ys (f) j ++ (cols ys q).take t) (by rfl) (ov3.alloc _) (HL.out _ (by assumption)) _ _ (inY (yat ys t) q) rfl (one_at _ (inY (yat ys t) q)) LEN.out ?_; intro v5 w5 o5 k5 t5; have hS5 := HX.out _ _ (by assumption) k5 t5))
                  all_goals
                    go_wp2
                    go_roundw
                    case rel => exact ⟨t + 1, by omega, by go_num, by rw [HQ.out]; assumption, (HE.out _ (by assumption)).1, (HE.out _ (by assumption)).2⟩
                    case measure => simp [intOf]; omega
                · obtain rfl : t = 2 := by omega
                  have R := Lib.hid (show (l ++ run ys (f) j) ++ (cols ys q).take 2 = l ++ run ys (f) (j + 1) from by
                    rw [run_snoc, ← hq.out, cols_two E2.out, List.append_assoc]; rfl)
                  go_wp2
                  go_roundw
                  case rel => exact ⟨j + 1, q + 1, rfl, Lib.hid (by have := hq.out; omega), by omega, by omega, by omega, R.out ▸ ov2, Z4, hB4⟩
                  case measure => simp [intOf]; omega
          · have L := Lib.hid (show l ++ run ys (f) j = near l ys f u from by
              rw [NY.out, show max f (Y - 1) = f from by omega, show (min (max f Y + 1) 9999 + 1 - (f)).toNat = j from by have := hq.out; omega])
            go_wp2
            all_goals
              first
                | (exfalso; omega)
                | (go_ret; exact ⟨_, rfl, L.out ▸ ov, hB3⟩)
end Go.Proofs.Ytbinhnlajflndaa.Zn
