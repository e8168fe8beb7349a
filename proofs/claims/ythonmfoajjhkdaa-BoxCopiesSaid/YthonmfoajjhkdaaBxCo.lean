/- The walk of voklaw12.BoxCopies. -/
import Derived.Test.YthonmfoajjhkdaaBxT
set_option linter.unusedVariables false
namespace Go.Proofs.Ythonmfoajjhkdaa.Bx
open Go.RowKit Iv

theorem wpList_met {P : Program} {ops : Array Oper} {Q : Exit → Act → World → Prop} {a : Act} {w : World} {rest : List Oper} {o : Oper} (hg : Region.wanted o (yielded ops a.tmps) = true)
    (h : ∀ K : Act → World → Prop, (∀ a w, wpList P ops Q rest a w → K a w) → o.wp P a w K Q) : wpList P ops Q (o :: rest) a w :=
  wpList_step fun K hK => by rw [if_pos hg]; exact h K hK
/-- append of a number to an own slice, where the operation has a guard -/
theorem append_numG {ops : Array Oper} {rest : List Oper} {o : Oper} {a : Act} {Q : Exit → Act → World → Prop} {B : Nat} {w : World} (hgd : Region.wanted o (yielded ops a.tmps) = true) (s x : Operand)
    (ho : o.op = .call { callee := .builtin .append, args := #[s, x], argTypes := #[29, 29] })
    (v : Value) (l : List Int) (hs : a.eval s = v) (hown : OwnN B w v l) (hB : B ≤ w.heap.size) (t : Int) (T : TypeId) (c : Nat)
    (hx : a.eval x = .slice (some ⟨w.heap.size, 0, none⟩) 1 c) (hl : l.length ≤ 1000000)
    (h : ∀ v' w', OwnN B w' v' (l ++ [t]) → Kp (fun k => v.ownBlock = some k) w w' → wpList Try.prog ops Q rest (a.put o.dst v') w') : wpList Try.prog ops Q (o :: rest) a (w.alloc (.cells #[.int .i64 t] T)) := by
  obtain ⟨i0, hi, hz0, hz1, hz2⟩ := info_parts info_int
  refine wpList_met hgd fun K hK => wp_append_own (K := K) _ s x 29 ho B 3 i0 (.int .i64 0) 1 8 Try.underlying29 hi hz0 hz1 hz2 rfl (by decide) v l.length (l.map (Value.int .i64)) hs (World.ownsRow.alloc hown _)
    ⟨w.heap.size, 0, none⟩ 1 c [.int .i64 t] hx rfl ?_ (by intro u hu; obtain rfl : u = .int .i64 t := by simpa using hu
                                                           rfl) (by unfold maxLen; omega) (by omega) (by simp; omega) ?_
  · intro j u hj
    cases j with
    | zero => obtain rfl : Value.int .i64 t = u := by simpa using hj
              show (w.alloc (.cells #[.int .i64 t] T)).cell? ⟨w.heap.size, 0, none⟩ = _
              rw [World.cell?_alloc_new]; rfl
    | succ j => simp at hj
  · intro v' w' hown' hg _
    refine hK _ _ (h v' w' ?_ ((Kp.of (below_alloc w (.cells #[.int .i64 t] T))).trans (Kp.grown hg fun k hk => hk)))
    unfold OwnN
    rw [List.length_append, List.map_append]
    exact hown'
theorem is_own {W w w' : World} {A : Option Addr} {m : Nat} {x : List Int} {v : Value} {l : List Int} (h : IsAt W A m x) (b : Below W.heap.size W w) (o : OwnN W.heap.size w v l) (k : Kp (fun g => v.ownBlock = some g) w w') : IsAt w' A m x :=
  h.kp (kp_own (F := fun _ => False) o (Kp.of' b) k) (off_none _ _)
theorem put_len (n : Nat) (u : List Int) (x : Int) (h : u.length ≤ n) : (putL n u x).length = min (u.length + 1) n := by
  unfold putL
  split
  · rw [List.length_append, List.length_cons, List.length_nil]; omega
  · omega
theorem One.own {W w w' : World} {p c n B : Nat} {l m : List Int} {v : Value} (h : One W w p c n l) (hB : W.heap.size ≤ B) (o : OwnN B w v m) (k : Kp (fun g => v.ownBlock = some g) w w') : One W w' p c n l :=
  ⟨h.is.own o k, h.ps, h.cs, h.at_.trans (k.below h.at_.size fun g e => Nat.le_trans hB (World.ownsRow.lt o g e).1)⟩
theorem Two.own {W w w' : World} {p c n q d n' B : Nat} {l l' m : List Int} {v : Value} (h : Two W w p c n l q d n' l') (hB : W.heap.size ≤ B) (o : OwnN B w v m) (k : Kp (fun g => v.ownBlock = some g) w w') : Two W w' p c n l q d n' l' :=
  ⟨h.a.own hB o k, h.b.own hB o k, h.ne⟩
/-- how many numbers lie in a channel -/
def lies (c : Nat) (w : World) : Nat := match w.heap[c]? with
  | some (.chan _ buf _ _ _ _) => buf.size
  | _ => 0
theorem BoxIn.lies {w : World} {p c n : Nat} {l : List Int} (h : BoxIn w p c n l) : lies c w = l.length := by
  obtain ⟨s, r, e⟩ := h.chan
  unfold Bx.lies
  rw [e]
  exact buf_size l
set_option maxRecDepth 100000 in
set_option maxHeartbeats 8000000 in
theorem copies_walk (w : World) (a0 : Int) (A : Option Addr) (k d0 : Nat) (l : List Int) (x : Int) (hA : IsAt w A k l) (hk : k ≤ 9223372036854775807) :
    Calls Try.prog 7 #[.int .i64 a0, .slice A k d0, .int .i64 x] w fun e w' => e = .returned (.bool true) ∧ Below w.heap.size w w' := by
  have HA := Lib.hid hA
  have LK := Lib.hid hA.1
  clear hA
  go_enter Try.func7, Try.ntmps7
  go_wp2_with fail
  refine (first12 w).mono ?_
  rintro e w0 ⟨rfl, b0⟩
  have B0 := Lib.hid b0
  clear b0
  by_cases hs : ¬ (1 ≤ a0 ∧ a0 ≤ 1000)
  · (go_wp2_with fail
     refine (new_no w0 a0 hs).mono ?_
     rintro e w1 ⟨rfl, rfl⟩
     go_wp2_with fail
     refine (first12 w0).mono ?_
     rintro e w1 ⟨rfl, b1⟩
     have B1 := Lib.hid (B0.out.trans (b1.mono B0.out.size))
     clear b1
     go_wp2
     go_ret
     exact ⟨rfl, B1.out⟩)
  obtain ⟨n, rfl⟩ : ∃ n : Nat, a0 = n := ⟨a0.toNat, by omega⟩
  have n1 : 1 ≤ n := by omega
  have n2 : n ≤ 1000 := by omega
  go_wp2_with fail
  refine (one_new B0.out n n1 n2).mono ?_
  rintro e w1 ⟨p, c, rfl, q1⟩
  have O1 := Lib.hid q1
  clear q1 B0
  by_cases hb : 300 < k
  · have s1 : decide (300 < k) = true := decide_eq_true hb
    have s2 : decide ((300 : Int) < k) = true := decide_eq_true (by omega)
    go_wp2_with fail
    refine O1.out.first.mono ?_
    rintro e w2 ⟨rfl, q2⟩
    have B2 := Lib.hid q2.at_
    clear q2
    go_wp2
    go_ret
    exact ⟨rfl, B2.out⟩
  have k2 : k ≤ 300 := by omega
  have s1 : decide (300 < k) = false := decide_eq_false (by omega)
  have s2 : decide ((300 : Int) < k) = false := decide_eq_false (by omega)
  clear hb hs hk
  have O2 := Lib.hid (show One w w1 p c n (l.take (min 0 n)) by rw [Nat.zero_min, List.take_zero]; exact O1.out)
  clear O1
  go_wp2_with fail
  go_loopw [9] (fun i wr => ∃ t : Nat, i = .int .i64 t ∧ t ≤ k ∧ One w wr p c n (l.take (min t n))) (fun i _ => k - (intOf i).toNat)
  case atStart => exact ⟨0, rfl, Nat.zero_le _, O2.out⟩
  case round =>
    obtain ⟨wo, rfl⟩ : ∃ wo : World, wo = wr := ⟨_, rfl⟩
    clear O2 s1 s2
    obtain ⟨t, rfl, ht, hO⟩ := hrel
    have OO := Lib.hid hO
    clear hO
    by_cases hlt : t < k
    · have s0 : decide ((t : Int) < k) = true := decide_eq_true (by omega)
      have s00 : decide (t < k) = true := decide_eq_true hlt
      have i5 : (t : Int) < k := by omega
      have W1 : IntKind.i64.wrap ((t : Int) + 1) = (t : Int) + 1 := IntWalk.i64_in _ (by omega)
      obtain ⟨b, off, rfl, hc⟩ := is_cell HA.out hlt
      have x0 := hc wo OO.out.at_
      have PL := Lib.hid (show putL n (l.take (min t n)) (gt l t) = l.take (min (t + 1) n) by
        have tl : t < l.length := by have := LK.out; omega
        by_cases hn : t < n
        · rw [Nat.min_eq_left (by omega), Nat.min_eq_left (by omega)]
          exact (put_take hn tl).2
        · rw [Nat.min_eq_right (by omega), Nat.min_eq_right (by omega)]
          exact (put_over hn tl _).2)
      clear hc
      generalize gt l t = x at *
      go_wp2_with fail
      refine (OO.out.put x).mono ?_
      rintro e w2 ⟨rfl, q2⟩
      rw [PL.out] at q2
      have O2 := Lib.hid q2
      clear q2 PL OO
      generalize putE n (l.take (min t n)) = pe at *
      go_wp2
      go_roundw
      case rel => exact ⟨t + 1, by go_num, by omega, O2.out⟩
      case measure => simp [intOf]; omega
    · obtain rfl : t = k := by omega
      have s0 : decide ((t : Int) < t) = false := decide_eq_false (by omega)
      have s00 : decide (t < t) = false := decide_eq_false (by omega)
      obtain ⟨u, hu⟩ : ∃ u : List Int, u = l.take (min t n) := ⟨_, rfl⟩
      have ul : u.length ≤ n := by rw [hu, List.length_take]; omega
      have O1 := Lib.hid (show One w wo p c n u by rw [hu]; exact OO.out)
      clear OO hu
      go_wp2_with fail
      refine O1.out.copy.mono ?_
      rintro e w1 ⟨q, d, rfl, q1⟩
      have T1 := Lib.hid q1
      clear q1 O1
      go_wp2_with fail
      refine T1.out.list.mono ?_
      rintro e w2 ⟨A1, r1, rfl, L1, q2, -⟩
      have T2 := Lib.hid q2
      have I2 := Lib.hid L1.at_
      have Z1 := Lib.hid L1.nil
      clear q2 L1 T1
      obtain ⟨y, hy⟩ : ∃ y : List Int, y = putL n u x := ⟨_, rfl⟩
      have YL := Lib.hid (show y.length = min (u.length + 1) n by rw [hy]; exact put_len n u x ul)
      have YE := Lib.hid hy
      clear hy
      generalize hpe : putE n u = pe at *
      go_wp2_with fail
      refine (T2.out.put x).mono ?_
      rintro e w3 ⟨rfl, q3, k3⟩
      rw [← YE.out] at q3
      have T3 := Lib.hid q3
      have I3 := Lib.hid (T2.out.a.is.ints k3 I2.out)
      rw [hpe]
      clear q3 k3 I2 T2
      go_wp2_with fail
      refine (T3.out.swap.put x).mono ?_
      rintro e w4 ⟨rfl, q4, k4⟩
      rw [← YE.out] at q4
      have T4 := Lib.hid q4.swap
      have I4 := Lib.hid (T3.out.b.is.ints k4 I3.out)
      rw [hpe]
      clear q4 k4 I3 T3 hpe
      go_wp2_with fail
      refine T4.out.take.mono ?_
      rintro e w5 ⟨rfl, q5, k5⟩
      obtain ⟨yt, hyt⟩ : ∃ yt : List Int, yt = y.tail := ⟨_, rfl⟩
      rw [← hyt] at q5
      have YT := Lib.hid hyt
      have YTL := Lib.hid (show yt.length = min (u.length + 1) n - 1 by rw [hyt, List.length_tail, YL.out])
      have T5 := Lib.hid q5
      have I5 := Lib.hid (T4.out.a.is.ints k5 I4.out)
      clear q5 k5 I4 T4 hyt
      generalize headL y = hx0 at *
      generalize someB y = hy0 at *
      by_cases hz : u.length < n
      · have s1 : decide ((u.length : Int) < n) = true := decide_eq_true (by omega)
        have s11 : decide (u.length < n) = true := decide_eq_true hz
        have YU := Lib.hid (show u ++ [x] = y by rw [YE.out]; exact (putL_room hz x).symm)
        go_wp2_with fail
        refine (T5.out.swap.list).mono ?_
        rintro e w6 ⟨A2, r2, rfl, L2, q6, k6⟩
        have T6 := Lib.hid q6.swap
        have I6 := Lib.hid (T5.out.b.is.ints k6 I5.out)
        have J6 := Lib.hid L2.at_
        have T6s := q6.b.at_.size
        clear q6 k6 L2 T5 I5
        go_wp2_with fail
        refine (copyI_is w6 A1 u.length r1 u I6.out (by omega) Z1.out).mono ?_
        rintro e w7 ⟨v, rfl, o7, b7⟩
        have T7 := Lib.hid (T6.out.below b7)
        have B7 := Lib.hid b7
        have O7 := Lib.hid o7
        have sz7 := b7.size
        clear o7 b7 T6 I6
        go_wp2_with (at_builtin; refine append_numG (by kernel_rfl) _ _ rfl v u rfl O7.out sz7 x _ 1 rfl (by omega) ?_)
        intro v8 w8 o8 k8
        rw [YU.out] at o8
        have J8 := Lib.hid (is_own J6.out B7.out O7.out k8)
        have T8 := Lib.hid (T7.out.own T6s O7.out k8)
        obtain ⟨A3, r3, rfl, -, f8, -, -⟩ := o8.form
        have F8 := Lib.hid f8
        clear o8 k8 f8 T7 B7 O7 J6 sz7
        go_wp2_with fail
        refine (ints_same w8 A2 A3 y.length r2 r3 y J8.out F8.out (by have := YL.out; omega)).mono ?_
        rintro e w9 ⟨rfl, b9⟩
        have T9 := Lib.hid (T8.out.below b9)
        clear b9 T8 J8 F8
        have T5 := T9
        clear T9
        (go_wp2_with fail
         refine (T5.out.swap.take).mono ?_
         rintro e w6 ⟨rfl, q6, -⟩
         rw [← YT.out] at q6
         have T6 := Lib.hid q6.swap
         clear q6 T5
         generalize headL y = hx at *
         generalize someB y = hy at *
         go_wp2_with fail
         refine (T6.out.list).mono ?_
         rintro e w7 ⟨A4, r4, rfl, L4, q7, k7⟩
         have T7 := Lib.hid q7
         have I4 := Lib.hid L4.at_
         clear L4 q7 k7 T6
         go_wp2_with fail
         refine (T7.out.swap.list).mono ?_
         rintro e w8 ⟨A5, r5, rfl, L5, q8, k8⟩
         have T8 := Lib.hid q8.swap
         have I5 := Lib.hid L5.at_
         have I4' := Lib.hid (T7.out.b.is.ints k8 I4.out)
         clear L5 q8 k8 T7 I4
         go_wp2_with fail
         refine (ints_same w8 A4 A5 _ r4 r5 yt I4'.out I5.out (by have := YTL.out; omega)).mono ?_
         rintro e w9 ⟨rfl, b9⟩
         have T9 := Lib.hid (show Two w w9 p c n (yt.drop 0) q d n yt from T8.out.below b9)
         clear b9 T8 I4' I5
         go_wp2_with fail
         go_loopw [96] (fun s wr => ∃ v : Nat, v ≤ yt.length ∧ Two w wr p c n (yt.drop v) q d n yt) (fun s wr => lies c wr)
         case atStart => exact ⟨0, Nat.zero_le _, T9.out⟩
         case round =>
           obtain ⟨wo, rfl⟩ : ∃ wo : World, wo = wr := ⟨_, rfl⟩
           clear T9
           obtain ⟨v, hv, hO⟩ := hrel
           have TO := Lib.hid hO
           clear hO
           have ll := TO.out.a.is.lies
           rw [List.length_drop] at ll
           have YV := Lib.hid hv
           have LE := Lib.hid ll
           have HL := Lib.hid (show (yt.drop v).length = yt.length - v by rw [List.length_drop])
           clear ll hv
           by_cases hlt : v < yt.length
           · go_wp2_with fail
             refine TO.out.len.mono ?_
             rintro e w1 ⟨rfl, rfl⟩
             have s0 : decide ((0 : Int) < (((yt.drop v).length : Nat) : Int)) = true := decide_eq_true (by have := HL.out; omega)
             have s00 : decide (0 < (yt.drop v).length) = true := decide_eq_true (by have := HL.out; omega)
             have s000 : 0 < (yt.drop v).length := by have := HL.out; omega
             generalize (yt.drop v).length = zz at *
             go_wp2_with fail
             refine TO.out.take.mono ?_
             rintro e w1 ⟨rfl, q1, -⟩
             have T1 := Lib.hid (show Two w w1 p c n (yt.drop (v + 1)) q d n yt by
               have := q1
               rwa [List.tail_drop] at this)
             have ll := T1.out.a.is.lies
             rw [List.length_drop] at ll
             have LL := Lib.hid ll
             clear q1 ll
             go_wp2
             go_roundw
             case rel => exact ⟨v + 1, by omega, T1.out⟩
             case measure => have := LL.out; have := LE.out; omega
           · have hz : (yt.drop v).length = 0 := by have := HL.out; omega
             have YE := Lib.hid (show yt.length = min (u.length + 1) n - 1 from YTL.out)
             go_wp2_with fail
             refine TO.out.len.mono ?_
             rintro e w1 ⟨rfl, rfl⟩
             rw [hz]
             go_wp2_with fail
             refine TO.out.first.mono ?_
             rintro e w1 ⟨rfl, q1, -⟩
             have T1 := Lib.hid q1.swap
             clear q1 TO
             go_wp2_with fail
             refine T1.out.len.mono ?_
             rintro e w2 ⟨rfl, rfl⟩
             rw [YE.out]
             have B2 := Lib.hid T1.out.a.at_
             have UL := Lib.hid ul
             clear T1 hz
             generalize u.length = z at *
             have W1 : IntKind.i64.wrap ((z : Int) + 1) = (z : Int) + 1 := IntWalk.i64_in _ (by have := UL.out; omega)
             have W2 : IntKind.i64.wrap (z : Int) = (z : Int) := IntWalk.i64_in _ (by have := UL.out; omega)
             have W3 : IntKind.i64.wrap ((n : Int) - 1) = (n : Int) - 1 := IntWalk.i64_in _ (by omega)
             generalize hm : min (z + 1) n - 1 = mm at *
             have ME := Lib.hid hm
             clear hm
             go_wp2
             all_goals (go_ret; exact ⟨ret_bool (by have := ME.out; have := UL.out; rw [beq_iff_eq]; omega), B2.out⟩))
      · have s1 : decide ((u.length : Int) < n) = false := decide_eq_false (by omega)
        have s11 : decide (u.length < n) = false := decide_eq_false hz
        (go_wp2_with fail
         refine (T5.out.swap.take).mono ?_
         rintro e w6 ⟨rfl, q6, -⟩
         rw [← YT.out] at q6
         have T6 := Lib.hid q6.swap
         clear q6 T5
         generalize headL y = hx at *
         generalize someB y = hy at *
         go_wp2_with fail
         refine (T6.out.list).mono ?_
         rintro e w7 ⟨A4, r4, rfl, L4, q7, k7⟩
         have T7 := Lib.hid q7
         have I4 := Lib.hid L4.at_
         clear L4 q7 k7 T6
         go_wp2_with fail
         refine (T7.out.swap.list).mono ?_
         rintro e w8 ⟨A5, r5, rfl, L5, q8, k8⟩
         have T8 := Lib.hid q8.swap
         have I5 := Lib.hid L5.at_
         have I4' := Lib.hid (T7.out.b.is.ints k8 I4.out)
         clear L5 q8 k8 T7 I4
         go_wp2_with fail
         refine (ints_same w8 A4 A5 _ r4 r5 yt I4'.out I5.out (by have := YTL.out; omega)).mono ?_
         rintro e w9 ⟨rfl, b9⟩
         have T9 := Lib.hid (show Two w w9 p c n (yt.drop 0) q d n yt from T8.out.below b9)
         clear b9 T8 I4' I5
         go_wp2_with fail
         go_loopw [96] (fun s wr => ∃ v : Nat, v ≤ yt.length ∧ Two w wr p c n (yt.drop v) q d n yt) (fun s wr => lies c wr)
         case atStart => exact ⟨0, Nat.zero_le _, T9.out⟩
         case round =>
           obtain ⟨wo, rfl⟩ : ∃ wo : World, wo = wr := ⟨_, rfl⟩
           clear T9
           obtain ⟨v, hv, hO⟩ := hrel
           have TO := Lib.hid hO
           clear hO
           have ll := TO.out.a.is.lies
           rw [List.length_drop] at ll
           have YV := Lib.hid hv
           have LE := Lib.hid ll
           have HL := Lib.hid (show (yt.drop v).length = yt.length - v by rw [List.length_drop])
           clear ll hv
           by_cases hlt : v < yt.length
           · go_wp2_with fail
             refine TO.out.len.mono ?_
             rintro e w1 ⟨rfl, rfl⟩
             have s0 : decide ((0 : Int) < (((yt.drop v).length : Nat) : Int)) = true := decide_eq_true (by have := HL.out; omega)
             have s00 : decide (0 < (yt.drop v).length) = true := decide_eq_true (by have := HL.out; omega)
             have s000 : 0 < (yt.drop v).length := by have := HL.out; omega
             generalize (yt.drop v).length = zz at *
             go_wp2_with fail
             refine TO.out.take.mono ?_
             rintro e w1 ⟨rfl, q1, -⟩
             have T1 := Lib.hid (show Two w w1 p c n (yt.drop (v + 1)) q d n yt by
               have := q1
               rwa [List.tail_drop] at this)
             have ll := T1.out.a.is.lies
             rw [List.length_drop] at ll
             have LL := Lib.hid ll
             clear q1 ll
             go_wp2
             go_roundw
             case rel => exact ⟨v + 1, by omega, T1.out⟩
             case measure => have := LL.out; have := LE.out; omega
           · have hz : (yt.drop v).length = 0 := by have := HL.out; omega
             have YE := Lib.hid (show yt.length = min (u.length + 1) n - 1 from YTL.out)
             go_wp2_with fail
             refine TO.out.len.mono ?_
             rintro e w1 ⟨rfl, rfl⟩
             rw [hz]
             go_wp2_with fail
             refine TO.out.first.mono ?_
             rintro e w1 ⟨rfl, q1, -⟩
             have T1 := Lib.hid q1.swap
             clear q1 TO
             go_wp2_with fail
             refine T1.out.len.mono ?_
             rintro e w2 ⟨rfl, rfl⟩
             rw [YE.out]
             have B2 := Lib.hid T1.out.a.at_
             have UL := Lib.hid ul
             clear T1 hz
             generalize u.length = z at *
             have W1 : IntKind.i64.wrap ((z : Int) + 1) = (z : Int) + 1 := IntWalk.i64_in _ (by have := UL.out; omega)
             have W2 : IntKind.i64.wrap (z : Int) = (z : Int) := IntWalk.i64_in _ (by have := UL.out; omega)
             have W3 : IntKind.i64.wrap ((n : Int) - 1) = (n : Int) - 1 := IntWalk.i64_in _ (by omega)
             generalize hm : min (z + 1) n - 1 = mm at *
             have ME := Lib.hid hm
             clear hm
             go_wp2
             all_goals (go_ret; exact ⟨ret_bool (by have := ME.out; have := UL.out; rw [beq_iff_eq]; omega), B2.out⟩))
end Go.Proofs.Ythonmfoajjhkdaa.Bx
