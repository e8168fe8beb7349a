/- The walk of voklaw14.DiskPlays: the program's disk beside the document's. -/
import Derived.Test.YtipefkjgfbgceaaDkSy
import Derived.Test.YtipefkjgfbgceaaDkLt
set_option linter.unusedVariables false
namespace Go.Proofs.Ytipefkjgfbgceaa.Dk
open Go.RowKit Fr

theorem byte_up (c : UInt8) : (((c.toNat : Int) + 1) % 256) = ((c + 1).toNat : Nat) := by
  rw [UInt8.toNat_add]
  have := u8_lt c
  show ((c.toNat : Int) + 1) % 256 = (((c.toNat + 1) % 256 : Nat) : Int)
  omega
/-- the program's disk at p, the document's at x, apart, among the law's own memory -/
structure Two (W w : World) (p : Nat) (R Y : Int) (l : List UInt8) (v : Value) (x : Nat) (R2 Y2 : Int) (l2 : List UInt8) (u : Value) : Prop where
  d : DkV 52 w p R Y l v
  e : DkV 32 w x R2 Y2 l2 u
  hp : ∀ k, Ft p v k → W.heap.size ≤ k
  hx : ∀ k, Ft x u k → W.heap.size ≤ k
  ap : ∀ k, Ft p v k → ¬ Ft x u k
  at_ : Below W.heap.size W w
section
variable {W w w' : World} {p : Nat} {R Y : Int} {l : List UInt8} {v : Value} {x : Nat} {R2 Y2 : Int} {l2 : List UInt8} {u : Value}
theorem Two.below (h : Two W w p R Y l v x R2 Y2 l2 u) (b : Below w.heap.size w w') : Two W w' p R Y l v x R2 Y2 l2 u :=
  ⟨h.d.below b, h.e.below b, h.hp, h.hx, h.ap, h.at_.trans (b.mono h.at_.size)⟩
/-- what lies new, or where it lay -/
theorem ft_new {v' : Value} (n : New w v v') {g : Nat} (hg : Ft p v' g) : Ft p v g ∨ w.heap.size ≤ g := by
  rcases hg with hg | hg
  · exact .inl (.inl hg)
  · rcases n with n | n
    · exact .inl (.inr (n ▸ hg))
    · exact .inr (n g hg)
theorem Two.nextP {R' Y' : Int} {l' : List UInt8} {v' : Value} (h : Two W w p R Y l v x R2 Y2 l2 u) (d : DkV 52 w' p R' Y' l' v') (k : Kp (Ft p v) w w') (n : New w v v') : Two W w' p R' Y' l' v' x R2 Y2 l2 u :=
  ⟨d, h.e.kp k fun g hg z => h.ap g z hg, fun g hg => (ft_new n hg).elim (h.hp g) (Nat.le_trans h.at_.size), h.hx,
    fun g hg z => (ft_new n hg).elim (fun q => h.ap g q z) (fun q => by have := h.e.all g z; omega), h.at_.trans (k.below h.at_.size h.hp)⟩
theorem Two.nextX {R' Y' : Int} {l' : List UInt8} {u' : Value} (h : Two W w p R Y l v x R2 Y2 l2 u) (d : DkV 32 w' x R' Y' l' u') (k : Kp (Ft x u) w w') (n : New w u u') : Two W w' p R Y l v x R' Y' l' u' :=
  ⟨h.d.kp k fun g hg z => h.ap g hg z, d, h.hp, fun g hg => (ft_new n hg).elim (h.hx g) (Nat.le_trans h.at_.size),
    fun g hg z => (ft_new n z).elim (fun q => h.ap g hg q) (fun q => by have := h.d.all g hg; omega), h.at_.trans (k.below h.at_.size h.hx)⟩
/-- other memory of the law's is written -/
theorem Two.keep {F : Nat → Prop} (h : Two W w p R Y l v x R2 Y2 l2 u) (k : Kp F w w') (f0 : ∀ g, F g → W.heap.size ≤ g) (f1 : ∀ g, F g → ¬ Ft p v g) (f2 : ∀ g, F g → ¬ Ft x u g) : Two W w' p R Y l v x R2 Y2 l2 u :=
  ⟨h.d.kp k fun g hg z => f1 g z hg, h.e.kp k fun g hg z => f2 g z hg, h.hp, h.hx, h.ap, h.at_.trans (k.below h.at_.size f0)⟩
end
/-- .. and a third disk, of which a copy was made -/
structure Thr (W w : World) (p : Nat) (R Y : Int) (l : List UInt8) (v : Value) (q : Nat) (R1 Y1 : Int) (l1 : List UInt8) (z : Value) (x : Nat) (R2 Y2 : Int) (l2 : List UInt8) (u : Value) : Prop where
  t : Two W w q R1 Y1 l1 z x R2 Y2 l2 u
  d : DkV 52 w p R Y l v
  hi : ∀ k, Ft p v k → W.heap.size ≤ k
  o1 : OutD w p v q z
  o2 : OutD w p v x u
section
variable {W w w' : World} {p : Nat} {R Y : Int} {l : List UInt8} {v : Value} {q : Nat} {R1 Y1 : Int} {l1 : List UInt8} {z : Value} {x : Nat} {R2 Y2 : Int} {l2 : List UInt8} {u : Value}
theorem Thr.of (h : Two W w p R Y l v x R2 Y2 l2 u) (b : Below w.heap.size w w') (d : DkV 52 w' q R1 Y1 l1 z) (n : ∀ k, Ft q z k → w.heap.size ≤ k) : Thr W w' p R Y l v q R1 Y1 l1 z x R2 Y2 l2 u :=
  have h' := h.below b
  ⟨⟨d, h'.e, fun k hk => Nat.le_trans h.at_.size (n k hk), h.hx, fun k hk y => by have := n k hk; have := h.e.all k y; omega, h'.at_⟩, h'.d, h.hp,
    OutD.of h.d.all n d.all, fun g hg => ⟨h'.e.all g hg, fun y => h.ap g y hg⟩⟩
theorem Thr.below (h : Thr W w p R Y l v q R1 Y1 l1 z x R2 Y2 l2 u) (b : Below w.heap.size w w') : Thr W w' p R Y l v q R1 Y1 l1 z x R2 Y2 l2 u :=
  ⟨h.t.below b, h.d.below b, h.hi, h.o1.below b, h.o2.below b⟩
theorem Thr.next {R' Y' : Int} {l' : List UInt8} {v' : Value} (h : Thr W w p R Y l v q R1 Y1 l1 z x R2 Y2 l2 u) (d : DkV 52 w' p R' Y' l' v') (k : Kp (Ft p v) w w') (n : New w v v') : Thr W w' p R' Y' l' v' q R1 Y1 l1 z x R2 Y2 l2 u :=
  ⟨h.t.keep k h.hi (fun g hg y => (h.o1 g y).2 hg) (fun g hg y => (h.o2 g y).2 hg), d, fun g hg => (ft_new n hg).elim (h.hi g) (Nat.le_trans h.t.at_.size), h.o1.next k n, h.o2.next k n⟩
end
/-- a slice of the law's own that no disk has -/
def Free (W : World) (p : Nat) (v : Value) (x : Nat) (u : Value) (z : Value) : Prop := ∀ g, z.ownBlock = some g → W.heap.size ≤ g ∧ ¬ Ft p v g ∧ ¬ Ft x u g
theorem Free.of {W w w' : World} {p : Nat} {R Y : Int} {l : List UInt8} {v : Value} {x : Nat} {R2 Y2 : Int} {l2 m : List UInt8} {u z : Value} (h : Two W w p R Y l v x R2 Y2 l2 u) (o : OwnB w.heap.size w' z m) : Free W p v x u z := fun g hg => by
  have q := (World.ownsRow.lt o g hg).1
  have := h.at_.size
  exact ⟨by omega, fun y => by have := h.d.all g y; omega, fun y => by have := h.e.all g y; omega⟩
theorem Free.nextP {W w w' : World} {p : Nat} {v v' : Value} {x B : Nat} {m : List UInt8} {u z : Value} (h : Free W p v x u z) (n : New w v v') (o : OwnB B w z m) : Free W p v' x u z := fun g hg => by
  obtain ⟨h1, h2, h3⟩ := h g hg
  exact ⟨h1, fun y => (ft_new n y).elim h2 fun q => by have := (World.ownsRow.lt o g hg).2; omega, h3⟩
theorem Free.nextX {W w w' : World} {p : Nat} {v u' : Value} {x B : Nat} {m : List UInt8} {u z : Value} (h : Free W p v x u z) (n : New w u u') (o : OwnB B w z m) : Free W p v x u' z := fun g hg => by
  obtain ⟨h1, h2, h3⟩ := h g hg
  exact ⟨h1, h2, fun y => (ft_new n y).elim h3 fun q => by have := (World.ownsRow.lt o g hg).2; omega⟩
set_option maxRecDepth 100000 in
set_option maxHeartbeats 8000000 in
theorem plays_walk (W : World) (size : Int) (A : Option Addr) (n cc : Nat) (S : List OpS) (h : OsAt W A n S) (hn : n ≤ 9223372036854775807) (l1 : -9223372036854775808 ≤ size) (u1 : size ≤ 9223372036854775807) :
    Calls Try.prog 3 #[.int .i64 size, .slice A n cc] W fun e w' => e = .returned (.bool true) ∧ Below W.heap.size W w' := by
  have H := Lib.hid h
  clear h
  by_cases hs : 0 ≤ size ∧ size ≤ 1073741824
  · obtain ⟨h0, h1⟩ := hs
    go_enter Try.func3, Try.ntmps3
    go_wp2_with fail
    refine (first_is W).mono ?_
    rintro e w0 ⟨rfl, b0⟩
    have B0 := Lib.hid b0
    clear b0
    have C1 := new_yes w0 size h0 h1
    go_wp2_with fail
    refine C1.mono ?_
    rintro e w1 ⟨p0, v1, rfl, d1, b1, g1⟩
    clear C1
    have B1 := Lib.hid (B0.out.trans (b1.mono B0.out.size))
    have DD := Lib.hid d1
    have G1 := Lib.hid (show ∀ k, Ft p0 v1 k → W.heap.size ≤ k from fun k hk => Nat.le_trans B0.out.size (g1 k hk))
    have C2 := fewo_is w1 A n cc S (H.out.below B1.out) hn
    clear d1 b1 g1
    go_wp2_with fail
    all_goals try (exfalso; omega)
    refine C2.mono ?_
    rintro e w2 ⟨rfl, rfl⟩
    clear C2
    cases hf : fewO S n with
    | false =>
      clear hf
      go_wp2_with fail
      refine (first_is w2).mono ?_
      rintro e w3 ⟨rfl, b3⟩
      have G := Lib.hid (B1.out.trans (b3.mono B1.out.size))
      clear b3
      go_wp2
      go_ret
      exact ⟨rfl, G.out⟩
    | true =>
      have hf2 := of_decide_eq_true (show decide (n ≤ 200 ∧ sumO S (min n 200) ≤ 20000) = true from hf)
      obtain ⟨hn2, hs2⟩ := hf2
      rw [Nat.min_eq_left hn2] at hs2
      have HS := Lib.hid hs2
      clear hf hs2
      have al := below_alloc w2 (.cells #[.int .i64 size, .int .i64 0, .slice none 0 0] 32)
      obtain ⟨x, hx⟩ : ∃ x, w2.heap.size = x := ⟨_, rfl⟩
      have T0 := Lib.hid (show Two W (w2.alloc (.cells #[.int .i64 size, .int .i64 0, .slice none 0 0] 32)) p0 size 0 [] v1 x size 0 [] (.slice none 0 0) from
        ⟨DD.out.below al, ⟨by rw [← hx]; exact Array.getElem?_push_size, OwnB.nil _ _⟩, G1.out, fun k hk => by
          rcases hk with rfl | hk
          · rw [← hx]; exact B1.out.size
          · simp [Value.ownBlock] at hk, fun k hk hk2 => by
          rcases hk2 with rfl | hk2
          · have := DD.out.all _ hk; omega
          · simp [Value.ownBlock] at hk2, B1.out.trans (al.mono B1.out.size)⟩)
      clear al
      go_wp2
      go_loopw [5, 8] (fun d i wr => ∃ t p v u, t ≤ n ∧ i = .int .i64 (t : Nat) ∧ d = .pointer (some ⟨p, 0, none⟩) ∧ Two W wr p (playD size S t).R (playD size S t).Y (playD size S t).l v x (playD size S t).R (playD size S t).Y (playD size S t).l u) (fun _ i _ => n - (intOf i).toNat)
      case atStart => exact ⟨0, p0, v1, _, Nat.zero_le _, rfl, rfl, T0.out⟩
      case round =>
        obtain ⟨t, p, v, u, ht, rfl, rfl, hT⟩ := hrel
        have D1 := Lib.hid hT
        clear hT T0 DD G1
        by_cases hlt : t < n
        · have i5 : (t : Int) < n := by omega
          have ok := playD_ok h0 h1 S t
          have mlen : ∀ j, j < n → (gt S j).m = (gt S j).b.length := fun j hj => by obtain ⟨b', off', e, -, q⟩ := os_cell H.out hj; exact (q W (Below.refl _ _)).2.2.2.1
          have len := playD_len h0 h1 (S := S) (n := n) mlen HS.out t (by omega)
          have len2 := sumO_mono S (a := t) (b := n) (by omega)
          have LEN2 := Lib.hid (show (playD size S (t + 1)).l.length ≤ 20000 from Nat.le_trans (playD_len h0 h1 (S := S) (n := n) mlen HS.out (t + 1) (by omega)) (Nat.le_trans (sumO_mono S (a := t + 1) (b := n) (by omega)) HS.out))
          have len4 : (playD size S t).l.length ≤ 20000 := by have := HS.out; omega
          have hm2 := (sumO_has S hlt HS.out).1
          have HM := Lib.hid (mlen t hlt).symm
          obtain ⟨b, off, rfl, ⟨k1, kz, k3, n1, n2⟩, hc⟩ := os_cell H.out hlt
          have HC := Lib.hid hc
          have NX := Lib.hid (show playD size S (t + 1) = stepD (playD size S t) (gt S t) from rfl)
          obtain ⟨c0, c1, c2, -⟩ := hc wr D1.out.at_
          clear hc len len2 mlen
          unfold stepD at NX
          generalize hq : playD size S (t + 1) = s' at NX LEN2
          have HS1 := Lib.hid hq
          clear hq
          generalize playD size S t = s at *
          generalize gt S t = o at *
          obtain ⟨kd, nd, az, mz, cz, bz⟩ := o
          simp only at HC HM NX c0 c1 c2 k1 kz k3 n1 n2 hm2
          obtain ⟨ans, hans⟩ : ∃ ans, doB s.R s.l bz kd nd = ans := ⟨_, rfl⟩
          by_cases hk0 : kd < 0
          · have C2 := copyd_is wr p s.R s.Y s.l v D1.out.d (by omega)
            go_wp2_with fail
            refine C2.mono ?_
            rintro e y2 ⟨q, z, rfl, d2, b2, g2⟩
            clear C2
            have T2 := Lib.hid (Thr.of D1.out b2 d2 g2)
            clear d2 b2 g2 D1
            have al := below_alloc y2 (.cells #[.int .u8 9] 5)
            have T3 := Lib.hid (T2.out.below al)
            have C3 := app_is _ p s.R s.Y s.l v _ 1 1 [9] T3.out.d (few_at y2 #[.int .u8 9] 5 [9] rfl rfl) (fun q => by cases q) (by omega) (by decide) ok.r0 (by have := ok.r1; omega)
            have al2 : (appL s.R s.l [9]).length ≤ 100000 ∧ s.Y ≤ (appL s.R s.l [9]).length := by
              have := ok.y1
              unfold appL
              split
              · rw [List.length_append]; simp only [List.length_cons, List.length_nil]; omega
              · omega
            clear al
            generalize appL s.R s.l [9] = la at *
            generalize appE s.R s.l [9] = ea at *
            go_wp2_with fail
            refine C3.mono ?_
            rintro e y3 ⟨rfl, v3, d3, k3, j3⟩
            clear C3
            have T4 := Lib.hid (T3.out.next d3 k3 j3)
            clear d3 k3 j3 T3 T2
            have C4 := crash_is y3 p s.R s.Y la v3 0 T4.out.d al2.1 ok.y0 al2.2 (by decide) (by decide)
            generalize crN s.Y la 0 = ya at *
            generalize la.take ya.toNat = lb at *
            go_wp2_with fail
            refine C4.mono ?_
            rintro e y4 ⟨rfl, v4, d4, k4, j4⟩
            clear C4
            have T5 := Lib.hid (T4.out.next d4 k4 j4)
            clear d4 k4 j4 T4
            have C5 := swap_is y4 p s.R ya lb v4 none 0 0 [] T5.out.d (BsAt.nil _ _) (fun _ => rfl) (by decide)
            generalize swY s.R ya [] = yb at *
            generalize swL s.R lb [] = lc at *
            generalize swE s.R [] = ec at *
            go_wp2_with fail
            refine C5.mono ?_
            rintro e y5 ⟨rfl, v5, d5, k5, j5⟩
            clear C5
            have T6 := Lib.hid (T5.out.next d5 k5 j5).t
            clear d5 k5 j5 T5 al2
            have cz2 := (HC.out y5 T6.out.at_).2.2.1
            have C5 := copy_is y5 az mz cz bz ((HC.out y5 T6.out.at_).2.2.2) kz (by omega)
            go_wp2_with fail
            refine C5.mono ?_
            rintro e w5 ⟨v5, rfl, o5, b5⟩
            clear C5
            obtain ⟨Ai, ci, rfl, -, -, zi⟩ := own_atN o5 HM.out
            have D5 := Lib.hid (T6.out.below b5)
            have O5 := Lib.hid o5
            have F5 := Lib.hid (Free.of T6.out o5)
            clear o5 b5
            go_wp2
            refine wp_region_late (fun _ => false) (fun v => Below W.heap.size W v) (by kernel_rfl) ?_
            have S5 : Below W.heap.size W w5.drew := D5.out.at_.drew
            refine tk 0 rfl (.pointer (some ⟨q, 0, none⟩)) (.inl ⟨by kernel_rfl, fun w' hs => ?_⟩) S5 ?_
            · go_simp
            refine tk 1 rfl (.slice (some ⟨b, off, none⟩) n cc) (.inl ⟨by kernel_rfl, fun w' hs => ?_⟩) S5 ?_
            · go_simp
            refine tk 2 rfl (.int .i64 (t : Nat)) (.inl ⟨by kernel_rfl, fun w' hs => ?_⟩) S5 ?_
            · go_simp
            refine tk 3 rfl (.pointer (some ⟨b, off + t * 3, none⟩)) (.inl ⟨by kernel_rfl, fun w' hs => ?_⟩) S5 ?_
            · go_simp
            refine tk 4 rfl (.pointer (some ⟨b, off + t * 3, none⟩)) (.inl ⟨by kernel_rfl, fun w' hs => ?_⟩) S5 ?_
            · go_simp
            refine tk 5 rfl (.int .i64 kd) (.inl ⟨by kernel_rfl, fun w' hs => ?_⟩) S5 ?_
            · have qq := HC.out _ hs
              have q0 := qq.1
              have q1 := qq.2.1
              have q2 := qq.2.2.1
              clear qq
              go_simp
            refine tk 6 rfl (.slice (some ⟨b, off, none⟩) n cc) (.inl ⟨by kernel_rfl, fun w' hs => ?_⟩) S5 ?_
            · go_simp
            refine tk 7 rfl (.int .i64 (t : Nat)) (.inl ⟨by kernel_rfl, fun w' hs => ?_⟩) S5 ?_
            · go_simp
            refine tk 8 rfl (.pointer (some ⟨b, off + t * 3, none⟩)) (.inl ⟨by kernel_rfl, fun w' hs => ?_⟩) S5 ?_
            · go_simp
            refine tk 9 rfl (.pointer (some ⟨b, off + t * 3 + 1, none⟩)) (.inl ⟨by kernel_rfl, fun w' hs => ?_⟩) S5 ?_
            · go_simp
            refine tk 10 rfl (.int .i64 nd) (.inl ⟨by kernel_rfl, fun w' hs => ?_⟩) S5 ?_
            · have qq := HC.out _ hs
              have q0 := qq.1
              have q1 := qq.2.1
              have q2 := qq.2.2.1
              clear qq
              go_simp
            refine tk 11 rfl (.slice Ai mz ci) (.inl ⟨by kernel_rfl, fun w' hs => ?_⟩) S5 ?_
            · go_simp
            refine tk 12 rfl (.agg #[.int .i64 kd, .int .i64 nd, .slice Ai mz ci]) (.inl ⟨by kernel_rfl, fun w' hs => ?_⟩) S5 ?_
            · go_simp
            refine tk 14 rfl (.pointer (some ⟨x, 0, none⟩)) (.inl ⟨by kernel_rfl, fun w' hs => ?_⟩) S5 ?_
            · go_simp
            refine tk 15 rfl (.slice (some ⟨b, off, none⟩) n cc) (.inl ⟨by kernel_rfl, fun w' hs => ?_⟩) S5 ?_
            · go_simp
            refine tk 16 rfl (.int .i64 (t : Nat)) (.inl ⟨by kernel_rfl, fun w' hs => ?_⟩) S5 ?_
            · go_simp
            refine tk 17 rfl (.pointer (some ⟨b, off + t * 3, none⟩)) (.inl ⟨by kernel_rfl, fun w' hs => ?_⟩) S5 ?_
            · go_simp
            refine tk 18 rfl (.agg #[.int .i64 kd, .int .i64 nd, .slice az mz cz]) (.inl ⟨by kernel_rfl, fun w' hs => ?_⟩) S5 ?_
            · have qq := HC.out _ hs
              have q0 := qq.1
              have q1 := qq.2.1
              have q2 := qq.2.2.1
              clear qq
              go_simp
            have D5d := D5.out.below (Below.refl w5.heap.size w5).drew
            have O5d := O5.out.on (Below.refl w5.heap.size w5).drew
            have A5d : BsAt w5.drew Ai mz bz := by
              obtain ⟨A', c', e', a', -, -⟩ := own_atN O5d HM.out
              injection e' with e1 e2 e3
              subst e1
              exact a'
            have C6 := does_is w5.drew q s.R s.Y s.l z kd nd Ai mz ci bz D5d.d A5d zi (by omega) (by omega) ok.r0 (by have := ok.r1; omega) ok.y0 ok.y1 n1 n2
            clear A5d
            refine late_oneG 13 rfl (by kernel_rfl) (by kernel_rfl) ?_
            go_simp
            refine C6.mono ?_
            rintro e w6 ⟨rfl, v6, d6, k6, j6⟩
            clear C6
            have D6 := Lib.hid (D5d.nextP d6 k6 j6)
            have O6 := Lib.hid (own_kp O5d k6 fun g hg y => (F5.out g hg).2.1 y)
            have F6 := Lib.hid (F5.out.nextP (w' := w6) j6 O5d)
            have S6 : Below W.heap.size W w6 := D6.out.at_
            clear d6 k6 j6 D5d O5d
            (first | refine ⟨S6, ?_⟩ | refine ⟨.inr S6, ?_⟩)
            have C7 := want_is w6 x s.R s.Y s.l u kd nd az mz cz bz D6.out.e ((HC.out w6 S6).2.2.2) kz (by omega) (by omega) ok.r0 (by have := ok.r1; omega) ok.y0 ok.y1 n1 n2
            refine late_oneG 19 rfl (by kernel_rfl) (by kernel_rfl) ?_
            go_simp
            refine C7.mono ?_
            rintro e w7 ⟨rfl, u7, d7, k7, j7⟩
            clear C7
            have D7 := Lib.hid (D6.out.nextX d7 k7 j7)
            have O7 := Lib.hid (own_kp O6.out k7 fun g hg y => (F6.out g hg).2.2 y)
            have F7 := Lib.hid (F6.out.nextX (w' := w7) j7 O6.out)
            have S7 : Below W.heap.size W w7 := D7.out.at_
            clear d7 k7 j7
            (first | refine ⟨S7, ?_⟩ | refine ⟨.inr S7, ?_⟩)
            refine tk 20 rfl (.bool false) (.inl ⟨by kernel_rfl, fun w' hs => ?_⟩) S7 ?_
            · go_simp
            refine tk 21 rfl (.bool false) (.inl ⟨by kernel_rfl, fun w' hs => ?_⟩) S7 ?_
            · go_simp
            refine tk 22 rfl (.slice Ai mz ci) (.inl ⟨by kernel_rfl, fun w' hs => ?_⟩) S7 ?_
            · go_simp
            refine tk 23 rfl (.slice (some ⟨b, off, none⟩) n cc) (.inl ⟨by kernel_rfl, fun w' hs => ?_⟩) S7 ?_
            · go_simp
            refine tk 24 rfl (.int .i64 (t : Nat)) (.inl ⟨by kernel_rfl, fun w' hs => ?_⟩) S7 ?_
            · go_simp
            refine tk 25 rfl (.pointer (some ⟨b, off + t * 3, none⟩)) (.inl ⟨by kernel_rfl, fun w' hs => ?_⟩) S7 ?_
            · go_simp
            refine tk 26 rfl (.pointer (some ⟨b, off + t * 3 + 2, none⟩)) (.inl ⟨by kernel_rfl, fun w' hs => ?_⟩) S7 ?_
            · go_simp
            refine tk 27 rfl (.slice az mz cz) (.inl ⟨by kernel_rfl, fun w' hs => ?_⟩) S7 ?_
            · have qq := HC.out _ hs
              have q0 := qq.1
              have q1 := qq.2.1
              have q2 := qq.2.2.1
              clear qq
              go_simp
            obtain ⟨A', c', e', a', -, -⟩ := own_atN O7.out HM.out
            injection e' with e1 e2 e3
            subst e1
            have VB := vb_is w7 Ai az mz ci mz cz bz bz a' ((HC.out w7 S7).2.2.2)
            clear a' e2 e3
            rw [show decide (bz = bz) = true from decide_eq_true rfl] at VB
            refine late_oneG 28 rfl (by kernel_rfl) (by kernel_rfl) ?_
            go_simp
            refine VB.mono ?_
            rintro e w8 ⟨rfl, rfl⟩
            clear VB
            (first | refine ⟨S7, ?_⟩ | refine ⟨.inr S7, ?_⟩)
            refine tk 29 rfl (.bool false) (.inl ⟨by kernel_rfl, fun w' hs => ?_⟩) S7 ?_
            · go_simp
            refine tk 30 rfl (.bool false) (.inl ⟨by kernel_rfl, fun w' hs => ?_⟩) S7 ?_
            · go_simp
            refine Late.done (by kernel_rfl) ?_
            go_simp
            go_wp2
            go_loopw [11] (fun k wq => ∃ (kk : Nat) (Z : List UInt8), kk ≤ mz ∧ k = .int .i64 kk ∧ Z.length = mz ∧ OwnB 0 wq (.slice Ai mz ci) Z ∧ Two W wq q (doR s.R kd nd) (doY s.R s.Y s.l bz kd nd) (doL s.R s.Y s.l bz kd nd) v6 x (doR s.R kd nd) (doY s.R s.Y s.l bz kd nd) (doL s.R s.Y s.l bz kd nd) u7) (fun k _ => mz - (intOf k).toNat)
            case atStart => exact ⟨0, bz, Nat.zero_le _, rfl, HM.out, own_low O7.out (Nat.zero_le _), D7.out⟩
            case round =>
              obtain ⟨kk, Z, hkk, rfl, hZ, hO, hT⟩ := hrel
              have HO := Lib.hid hO
              have HT := Lib.hid hT
              clear hO hT
              by_cases hk : kk < mz
              · rcases HO.out.form with ⟨-, e⟩ | ⟨gg, cg, hval, a5, hBg5, hgw5, hcc5⟩
                · rw [e] at hZ; simp at hZ; omega
                · have c0 : wr.cell? ⟨gg, kk, none⟩ = some (.int .u8 (bv Z kk : Nat)) := by
                    obtain ⟨b', off', e, hlt', z⟩ := a5.2 (by omega)
                    injection e with e; injection e with e1 e2; subst e1; subst e2
                    have := z kk (by omega)
                    rwa [Nat.zero_add] at this
                  have h256 := bv_256 Z kk
                  rw [hZ] at hval hcc5
                  injection hval with h1 h2 h3
                  subst h1; subst h3
                  have hbu : ((bv Z kk : Nat) + 1 : Int) % 256 = ((Z[kk]'(by omega) + 1 : UInt8).toNat : Nat) := by rw [bv_lt (by omega)]; exact byte_up _
                  have oz : OwnB 0 wr (.slice (some ⟨gg, 0, none⟩) Z.length ci) Z := by rw [hZ]; exact HO.out
                  have fz := World.ownsRow.frozenAt oz kk
                  obtain ⟨S1, S2⟩ := oz.store kk (Z[kk]'(by omega) + 1) _ hbu
                  obtain ⟨l', hl'⟩ : ∃ l', Z.set kk (Z[kk]'(by omega) + 1) = l' := ⟨_, rfl⟩
                  have hl2 : l'.length = mz := by rw [← hl', List.length_set, hZ]
                  rw [hl', hZ] at S1
                  have PO := Lib.hid S1
                  have PT := Lib.hid (HT.out.keep (Kp.grown (F := (· = gg)) S2 fun k e => by injection e with e; exact e.symm) (fun g e => by subst e; exact (F7.out _ rfl).1) (fun g e => by subst e; exact (F7.out _ rfl).2.1) (fun g e => by subst e; exact (F7.out _ rfl).2.2))
                  have PL := Lib.hid hl2
                  have i5 : (kk : Int) < mz := by omega
                  clear oz S1 S2 hbu a5 hl' hl2 hZ h2
                  generalize bv Z kk = vv at *
                  go_wp2
                  go_roundw
                  case rel => exact ⟨kk + 1, l', by omega, by go_num, PL.out, PO.out, PT.out⟩
                  case measure => simp [intOf]; omega
              · obtain rfl : kk = mz := by omega
                clear hZ
                have DN : (⟨doR s.R kd nd, doY s.R s.Y s.l bz kd nd, doL s.R s.Y s.l bz kd nd⟩ : Ds) = s' := NX.out.symm
                have E1 : doR s.R kd nd = s'.R := congrArg Ds.R DN
                have E2 : doY s.R s.Y s.l bz kd nd = s'.Y := congrArg Ds.Y DN
                have E3 : doL s.R s.Y s.l bz kd nd = s'.l := congrArg Ds.l DN
                rw [E1, E2, E3] at HT
                clear DN E1 E2 E3
                obtain ⟨LN, hLN⟩ : ∃ LN, s'.l.length = LN := ⟨_, rfl⟩
                have HLN := Lib.hid hLN
                obtain ⟨Au, cu, rfl, -, -, -⟩ := own_atN HT.out.e.own hLN
                have len3 : LN ≤ 20000 := by have := LEN2.out; omega
                clear hLN
                go_wp2
                refine wp_region_late (fun _ => false) (fun v => Below wr.heap.size wr v) (by kernel_rfl) ?_
                have S9 : Below wr.heap.size wr wr.drew := (Below.refl _ _).drew
                refine tk 0 rfl (.pointer (some ⟨q, 0, none⟩)) (.inl ⟨by kernel_rfl, fun w' hs => ?_⟩) S9 ?_
                · go_simp
                refine tk 2 rfl (.pointer (some ⟨x, 0, none⟩)) (.inl ⟨by kernel_rfl, fun w' hs => ?_⟩) S9 ?_
                · go_simp
                refine tk 3 rfl (.pointer (some ⟨x, 0, none⟩)) (.inl ⟨by kernel_rfl, fun w' hs => ?_⟩) S9 ?_
                · go_simp
                refine tk 4 rfl (.pointer (some ⟨x, 2, none⟩)) (.inl ⟨by kernel_rfl, fun w' hs => ?_⟩) S9 ?_
                · go_simp
                refine tk 5 rfl (.slice Au LN cu) (.inl ⟨by kernel_rfl, fun w' hs => ?_⟩) S9 ?_
                · have qq := HT.out.e.below hs
                  have q0 := qq.c0
                  have q1 := qq.c1
                  have q2 := qq.c2
                  clear qq
                  go_simp
                have C9 := bytes_is wr.drew q s'.R s'.Y s'.l v6 (HT.out.d.below S9) (by have := HLN.out; omega)
                refine late_oneG 1 rfl (by kernel_rfl) (by kernel_rfl) ?_
                go_simp
                refine C9.mono ?_
                rintro e wa ⟨ua, rfl, oa, ba⟩
                clear C9
                obtain ⟨Aa, ca, rfl, aa, -, -⟩ := own_atN oa HLN.out
                have Sa : Below wr.heap.size wr wa := S9.trans ba
                obtain ⟨A', c', e', a', -, -⟩ := own_atN (HT.out.e.below Sa).own HLN.out
                injection e' with e1 e2 e3
                subst e1; subst e3
                have VC := vb_is wa Aa Au LN ca LN cu s'.l s'.l aa a'
                rw [show decide (s'.l = s'.l) = true from decide_eq_true rfl] at VC
                clear oa ba aa a' e2
                (first | refine ⟨Sa, ?_⟩ | refine ⟨.inr Sa, ?_⟩)
                refine late_oneG 6 rfl (by kernel_rfl) (by kernel_rfl) ?_
                go_simp
                refine VC.mono ?_
                rintro e wb ⟨rfl, rfl⟩
                clear VC
                (first | refine ⟨Sa, ?_⟩ | refine ⟨.inr Sa, ?_⟩)
                refine tk 7 rfl (.bool false) (.inl ⟨by kernel_rfl, fun w' hs => ?_⟩) Sa ?_
                · go_simp
                refine tk 8 rfl (.bool false) (.inl ⟨by kernel_rfl, fun w' hs => ?_⟩) Sa ?_
                · go_simp
                refine tk 9 rfl (.pointer (some ⟨q, 0, none⟩)) (.inl ⟨by kernel_rfl, fun w' hs => ?_⟩) Sa ?_
                · go_simp
                refine tk 11 rfl (.pointer (some ⟨x, 0, none⟩)) (.inl ⟨by kernel_rfl, fun w' hs => ?_⟩) Sa ?_
                · go_simp
                refine tk 12 rfl (.pointer (some ⟨x, 0, none⟩)) (.inl ⟨by kernel_rfl, fun w' hs => ?_⟩) Sa ?_
                · go_simp
                refine tk 13 rfl (.pointer (some ⟨x, 1, none⟩)) (.inl ⟨by kernel_rfl, fun w' hs => ?_⟩) Sa ?_
                · go_simp
                refine tk 14 rfl (.int .i64 s'.Y) (.inl ⟨by kernel_rfl, fun w' hs => ?_⟩) Sa ?_
                · have qq := HT.out.e.below hs
                  have q0 := qq.c0
                  have q1 := qq.c1
                  have q2 := qq.c2
                  clear qq
                  go_simp
                refine late_oneG 10 rfl (by kernel_rfl) (by kernel_rfl) ?_
                go_simp
                refine (synced_is _ q s'.R s'.Y s'.l v6 (HT.out.d.below Sa)).mono ?_
                rintro e wc ⟨rfl, bc⟩
                have Sc : Below wr.heap.size wr wc := Sa.trans (bc.mono Sa.size)
                clear bc
                (first | refine ⟨Sc, ?_⟩ | refine ⟨.inr Sc, ?_⟩)
                refine tk 15 rfl (.bool false) (.inl ⟨by kernel_rfl, fun w' hs => ?_⟩) Sc ?_
                · go_simp
                refine tk 16 rfl (.bool false) (.inl ⟨by kernel_rfl, fun w' hs => ?_⟩) Sc ?_
                · go_simp
                refine tk 17 rfl (.bool false) (.inl ⟨by kernel_rfl, fun w' hs => ?_⟩) Sc ?_
                · go_simp
                refine tk 18 rfl (.pointer (some ⟨q, 0, none⟩)) (.inl ⟨by kernel_rfl, fun w' hs => ?_⟩) Sc ?_
                · go_simp
                refine tk 20 rfl (.pointer (some ⟨x, 0, none⟩)) (.inl ⟨by kernel_rfl, fun w' hs => ?_⟩) Sc ?_
                · go_simp
                refine tk 21 rfl (.pointer (some ⟨x, 0, none⟩)) (.inl ⟨by kernel_rfl, fun w' hs => ?_⟩) Sc ?_
                · go_simp
                refine tk 22 rfl (.pointer (some ⟨x, 0, none⟩)) (.inl ⟨by kernel_rfl, fun w' hs => ?_⟩) Sc ?_
                · go_simp
                refine tk 23 rfl (.int .i64 s'.R) (.inl ⟨by kernel_rfl, fun w' hs => ?_⟩) Sc ?_
                · have qq := HT.out.e.below hs
                  have q0 := qq.c0
                  have q1 := qq.c1
                  have q2 := qq.c2
                  clear qq
                  go_simp
                refine late_oneG 19 rfl (by kernel_rfl) (by kernel_rfl) ?_
                go_simp
                refine (room_is _ q s'.R s'.Y s'.l v6 (HT.out.d.below Sc)).mono ?_
                rintro e wd ⟨rfl, bd⟩
                have Sd : Below wr.heap.size wr wd := Sc.trans (bd.mono Sc.size)
                clear bd
                (first | refine ⟨Sd, ?_⟩ | refine ⟨.inr Sd, ?_⟩)
                refine tk 24 rfl (.bool false) (.inl ⟨by kernel_rfl, fun w' hs => ?_⟩) Sd ?_
                · go_simp
                refine tk 25 rfl (.bool false) (.inl ⟨by kernel_rfl, fun w' hs => ?_⟩) Sd ?_
                · go_simp
                refine Late.done (by kernel_rfl) ?_
                have FT := Lib.hid (HT.out.below Sd)
                go_simp
                go_wp2
                go_roundw
                case rel => exact ⟨t + 1, q, v6, _, by omega, by go_num, rfl, by rw [HS1.out]; exact FT.out⟩
                case measure => simp [intOf]; omega
          · by_cases hk5 : 5 < kd
            · have C2 := copyd_is wr p s.R s.Y s.l v D1.out.d (by omega)
              go_wp2_with fail
              refine C2.mono ?_
              rintro e y2 ⟨q, z, rfl, d2, b2, g2⟩
              clear C2
              have T2 := Lib.hid (Thr.of D1.out b2 d2 g2)
              clear d2 b2 g2 D1
              have al := below_alloc y2 (.cells #[.int .u8 9] 5)
              have T3 := Lib.hid (T2.out.below al)
              have C3 := app_is _ p s.R s.Y s.l v _ 1 1 [9] T3.out.d (few_at y2 #[.int .u8 9] 5 [9] rfl rfl) (fun q => by cases q) (by omega) (by decide) ok.r0 (by have := ok.r1; omega)
              have al2 : (appL s.R s.l [9]).length ≤ 100000 ∧ s.Y ≤ (appL s.R s.l [9]).length := by
                have := ok.y1
                unfold appL
                split
                · rw [List.length_append]; simp only [List.length_cons, List.length_nil]; omega
                · omega
              clear al
              generalize appL s.R s.l [9] = la at *
              generalize appE s.R s.l [9] = ea at *
              go_wp2_with fail
              refine C3.mono ?_
              rintro e y3 ⟨rfl, v3, d3, k3, j3⟩
              clear C3
              have T4 := Lib.hid (T3.out.next d3 k3 j3)
              clear d3 k3 j3 T3 T2
              have C4 := crash_is y3 p s.R s.Y la v3 0 T4.out.d al2.1 ok.y0 al2.2 (by decide) (by decide)
              generalize crN s.Y la 0 = ya at *
              generalize la.take ya.toNat = lb at *
              go_wp2_with fail
              refine C4.mono ?_
              rintro e y4 ⟨rfl, v4, d4, k4, j4⟩
              clear C4
              have T5 := Lib.hid (T4.out.next d4 k4 j4)
              clear d4 k4 j4 T4
              have C5 := swap_is y4 p s.R ya lb v4 none 0 0 [] T5.out.d (BsAt.nil _ _) (fun _ => rfl) (by decide)
              generalize swY s.R ya [] = yb at *
              generalize swL s.R lb [] = lc at *
              generalize swE s.R [] = ec at *
              go_wp2_with fail
              refine C5.mono ?_
              rintro e y5 ⟨rfl, v5, d5, k5, j5⟩
              clear C5
              have T6 := Lib.hid (T5.out.next d5 k5 j5).t
              clear d5 k5 j5 T5 al2
              have cz2 := (HC.out y5 T6.out.at_).2.2.1
              have C5 := copy_is y5 az mz cz bz ((HC.out y5 T6.out.at_).2.2.2) kz (by omega)
              go_wp2_with fail
              refine C5.mono ?_
              rintro e w5 ⟨v5, rfl, o5, b5⟩
              clear C5
              obtain ⟨Ai, ci, rfl, -, -, zi⟩ := own_atN o5 HM.out
              have D5 := Lib.hid (T6.out.below b5)
              have O5 := Lib.hid o5
              have F5 := Lib.hid (Free.of T6.out o5)
              clear o5 b5
              go_wp2
              refine wp_region_late (fun _ => false) (fun v => Below W.heap.size W v) (by kernel_rfl) ?_
              have S5 : Below W.heap.size W w5.drew := D5.out.at_.drew
              refine tk 0 rfl (.pointer (some ⟨q, 0, none⟩)) (.inl ⟨by kernel_rfl, fun w' hs => ?_⟩) S5 ?_
              · go_simp
              refine tk 1 rfl (.slice (some ⟨b, off, none⟩) n cc) (.inl ⟨by kernel_rfl, fun w' hs => ?_⟩) S5 ?_
              · go_simp
              refine tk 2 rfl (.int .i64 (t : Nat)) (.inl ⟨by kernel_rfl, fun w' hs => ?_⟩) S5 ?_
              · go_simp
              refine tk 3 rfl (.pointer (some ⟨b, off + t * 3, none⟩)) (.inl ⟨by kernel_rfl, fun w' hs => ?_⟩) S5 ?_
              · go_simp
              refine tk 4 rfl (.pointer (some ⟨b, off + t * 3, none⟩)) (.inl ⟨by kernel_rfl, fun w' hs => ?_⟩) S5 ?_
              · go_simp
              refine tk 5 rfl (.int .i64 kd) (.inl ⟨by kernel_rfl, fun w' hs => ?_⟩) S5 ?_
              · have qq := HC.out _ hs
                have q0 := qq.1
                have q1 := qq.2.1
                have q2 := qq.2.2.1
                clear qq
                go_simp
              refine tk 6 rfl (.slice (some ⟨b, off, none⟩) n cc) (.inl ⟨by kernel_rfl, fun w' hs => ?_⟩) S5 ?_
              · go_simp
              refine tk 7 rfl (.int .i64 (t : Nat)) (.inl ⟨by kernel_rfl, fun w' hs => ?_⟩) S5 ?_
              · go_simp
              refine tk 8 rfl (.pointer (some ⟨b, off + t * 3, none⟩)) (.inl ⟨by kernel_rfl, fun w' hs => ?_⟩) S5 ?_
              · go_simp
              refine tk 9 rfl (.pointer (some ⟨b, off + t * 3 + 1, none⟩)) (.inl ⟨by kernel_rfl, fun w' hs => ?_⟩) S5 ?_
              · go_simp
              refine tk 10 rfl (.int .i64 nd) (.inl ⟨by kernel_rfl, fun w' hs => ?_⟩) S5 ?_
              · have qq := HC.out _ hs
                have q0 := qq.1
                have q1 := qq.2.1
                have q2 := qq.2.2.1
                clear qq
                go_simp
              refine tk 11 rfl (.slice Ai mz ci) (.inl ⟨by kernel_rfl, fun w' hs => ?_⟩) S5 ?_
              · go_simp
              refine tk 12 rfl (.agg #[.int .i64 kd, .int .i64 nd, .slice Ai mz ci]) (.inl ⟨by kernel_rfl, fun w' hs => ?_⟩) S5 ?_
              · go_simp
              refine tk 14 rfl (.pointer (some ⟨x, 0, none⟩)) (.inl ⟨by kernel_rfl, fun w' hs => ?_⟩) S5 ?_
              · go_simp
              refine tk 15 rfl (.slice (some ⟨b, off, none⟩) n cc) (.inl ⟨by kernel_rfl, fun w' hs => ?_⟩) S5 ?_
              · go_simp
              refine tk 16 rfl (.int .i64 (t : Nat)) (.inl ⟨by kernel_rfl, fun w' hs => ?_⟩) S5 ?_
              · go_simp
              refine tk 17 rfl (.pointer (some ⟨b, off + t * 3, none⟩)) (.inl ⟨by kernel_rfl, fun w' hs => ?_⟩) S5 ?_
              · go_simp
              refine tk 18 rfl (.agg #[.int .i64 kd, .int .i64 nd, .slice az mz cz]) (.inl ⟨by kernel_rfl, fun w' hs => ?_⟩) S5 ?_
              · have qq := HC.out _ hs
                have q0 := qq.1
                have q1 := qq.2.1
                have q2 := qq.2.2.1
                clear qq
                go_simp
              have D5d := D5.out.below (Below.refl w5.heap.size w5).drew
              have O5d := O5.out.on (Below.refl w5.heap.size w5).drew
              have A5d : BsAt w5.drew Ai mz bz := by
                obtain ⟨A', c', e', a', -, -⟩ := own_atN O5d HM.out
                injection e' with e1 e2 e3
                subst e1
                exact a'
              have C6 := does_is w5.drew q s.R s.Y s.l z kd nd Ai mz ci bz D5d.d A5d zi (by omega) (by omega) ok.r0 (by have := ok.r1; omega) ok.y0 ok.y1 n1 n2
              clear A5d
              refine late_oneG 13 rfl (by kernel_rfl) (by kernel_rfl) ?_
              go_simp
              refine C6.mono ?_
              rintro e w6 ⟨rfl, v6, d6, k6, j6⟩
              clear C6
              have D6 := Lib.hid (D5d.nextP d6 k6 j6)
              have O6 := Lib.hid (own_kp O5d k6 fun g hg y => (F5.out g hg).2.1 y)
              have F6 := Lib.hid (F5.out.nextP (w' := w6) j6 O5d)
              have S6 : Below W.heap.size W w6 := D6.out.at_
              clear d6 k6 j6 D5d O5d
              (first | refine ⟨S6, ?_⟩ | refine ⟨.inr S6, ?_⟩)
              have C7 := want_is w6 x s.R s.Y s.l u kd nd az mz cz bz D6.out.e ((HC.out w6 S6).2.2.2) kz (by omega) (by omega) ok.r0 (by have := ok.r1; omega) ok.y0 ok.y1 n1 n2
              refine late_oneG 19 rfl (by kernel_rfl) (by kernel_rfl) ?_
              go_simp
              refine C7.mono ?_
              rintro e w7 ⟨rfl, u7, d7, k7, j7⟩
              clear C7
              have D7 := Lib.hid (D6.out.nextX d7 k7 j7)
              have O7 := Lib.hid (own_kp O6.out k7 fun g hg y => (F6.out g hg).2.2 y)
              have F7 := Lib.hid (F6.out.nextX (w' := w7) j7 O6.out)
              have S7 : Below W.heap.size W w7 := D7.out.at_
              clear d7 k7 j7
              (first | refine ⟨S7, ?_⟩ | refine ⟨.inr S7, ?_⟩)
              refine tk 20 rfl (.bool false) (.inl ⟨by kernel_rfl, fun w' hs => ?_⟩) S7 ?_
              · go_simp
              refine tk 21 rfl (.bool false) (.inl ⟨by kernel_rfl, fun w' hs => ?_⟩) S7 ?_
              · go_simp
              refine tk 22 rfl (.slice Ai mz ci) (.inl ⟨by kernel_rfl, fun w' hs => ?_⟩) S7 ?_
              · go_simp
              refine tk 23 rfl (.slice (some ⟨b, off, none⟩) n cc) (.inl ⟨by kernel_rfl, fun w' hs => ?_⟩) S7 ?_
              · go_simp
              refine tk 24 rfl (.int .i64 (t : Nat)) (.inl ⟨by kernel_rfl, fun w' hs => ?_⟩) S7 ?_
              · go_simp
              refine tk 25 rfl (.pointer (some ⟨b, off + t * 3, none⟩)) (.inl ⟨by kernel_rfl, fun w' hs => ?_⟩) S7 ?_
              · go_simp
              refine tk 26 rfl (.pointer (some ⟨b, off + t * 3 + 2, none⟩)) (.inl ⟨by kernel_rfl, fun w' hs => ?_⟩) S7 ?_
              · go_simp
              refine tk 27 rfl (.slice az mz cz) (.inl ⟨by kernel_rfl, fun w' hs => ?_⟩) S7 ?_
              · have qq := HC.out _ hs
                have q0 := qq.1
                have q1 := qq.2.1
                have q2 := qq.2.2.1
                clear qq
                go_simp
              obtain ⟨A', c', e', a', -, -⟩ := own_atN O7.out HM.out
              injection e' with e1 e2 e3
              subst e1
              have VB := vb_is w7 Ai az mz ci mz cz bz bz a' ((HC.out w7 S7).2.2.2)
              clear a' e2 e3
              rw [show decide (bz = bz) = true from decide_eq_true rfl] at VB
              refine late_oneG 28 rfl (by kernel_rfl) (by kernel_rfl) ?_
              go_simp
              refine VB.mono ?_
              rintro e w8 ⟨rfl, rfl⟩
              clear VB
              (first | refine ⟨S7, ?_⟩ | refine ⟨.inr S7, ?_⟩)
              refine tk 29 rfl (.bool false) (.inl ⟨by kernel_rfl, fun w' hs => ?_⟩) S7 ?_
              · go_simp
              refine tk 30 rfl (.bool false) (.inl ⟨by kernel_rfl, fun w' hs => ?_⟩) S7 ?_
              · go_simp
              refine Late.done (by kernel_rfl) ?_
              go_simp
              go_wp2
              go_loopw [11] (fun k wq => ∃ (kk : Nat) (Z : List UInt8), kk ≤ mz ∧ k = .int .i64 kk ∧ Z.length = mz ∧ OwnB 0 wq (.slice Ai mz ci) Z ∧ Two W wq q (doR s.R kd nd) (doY s.R s.Y s.l bz kd nd) (doL s.R s.Y s.l bz kd nd) v6 x (doR s.R kd nd) (doY s.R s.Y s.l bz kd nd) (doL s.R s.Y s.l bz kd nd) u7) (fun k _ => mz - (intOf k).toNat)
              case atStart => exact ⟨0, bz, Nat.zero_le _, rfl, HM.out, own_low O7.out (Nat.zero_le _), D7.out⟩
              case round =>
                obtain ⟨kk, Z, hkk, rfl, hZ, hO, hT⟩ := hrel
                have HO := Lib.hid hO
                have HT := Lib.hid hT
                clear hO hT
                by_cases hk : kk < mz
                · rcases HO.out.form with ⟨-, e⟩ | ⟨gg, cg, hval, a5, hBg5, hgw5, hcc5⟩
                  · rw [e] at hZ; simp at hZ; omega
                  · have c0 : wr.cell? ⟨gg, kk, none⟩ = some (.int .u8 (bv Z kk : Nat)) := by
                      obtain ⟨b', off', e, hlt', z⟩ := a5.2 (by omega)
                      injection e with e; injection e with e1 e2; subst e1; subst e2
                      have := z kk (by omega)
                      rwa [Nat.zero_add] at this
                    have h256 := bv_256 Z kk
                    rw [hZ] at hval hcc5
                    injection hval with h1 h2 h3
                    subst h1; subst h3
                    have hbu : ((bv Z kk : Nat) + 1 : Int) % 256 = ((Z[kk]'(by omega) + 1 : UInt8).toNat : Nat) := by rw [bv_lt (by omega)]; exact byte_up _
                    have oz : OwnB 0 wr (.slice (some ⟨gg, 0, none⟩) Z.length ci) Z := by rw [hZ]; exact HO.out
                    have fz := World.ownsRow.frozenAt oz kk
                    obtain ⟨S1, S2⟩ := oz.store kk (Z[kk]'(by omega) + 1) _ hbu
                    obtain ⟨l', hl'⟩ : ∃ l', Z.set kk (Z[kk]'(by omega) + 1) = l' := ⟨_, rfl⟩
                    have hl2 : l'.length = mz := by rw [← hl', List.length_set, hZ]
                    rw [hl', hZ] at S1
                    have PO := Lib.hid S1
                    have PT := Lib.hid (HT.out.keep (Kp.grown (F := (· = gg)) S2 fun k e => by injection e with e; exact e.symm) (fun g e => by subst e; exact (F7.out _ rfl).1) (fun g e => by subst e; exact (F7.out _ rfl).2.1) (fun g e => by subst e; exact (F7.out _ rfl).2.2))
                    have PL := Lib.hid hl2
                    have i5 : (kk : Int) < mz := by omega
                    clear oz S1 S2 hbu a5 hl' hl2 hZ h2
                    generalize bv Z kk = vv at *
                    go_wp2
                    go_roundw
                    case rel => exact ⟨kk + 1, l', by omega, by go_num, PL.out, PO.out, PT.out⟩
                    case measure => simp [intOf]; omega
                · obtain rfl : kk = mz := by omega
                  clear hZ
                  have DN : (⟨doR s.R kd nd, doY s.R s.Y s.l bz kd nd, doL s.R s.Y s.l bz kd nd⟩ : Ds) = s' := NX.out.symm
                  have E1 : doR s.R kd nd = s'.R := congrArg Ds.R DN
                  have E2 : doY s.R s.Y s.l bz kd nd = s'.Y := congrArg Ds.Y DN
                  have E3 : doL s.R s.Y s.l bz kd nd = s'.l := congrArg Ds.l DN
                  rw [E1, E2, E3] at HT
                  clear DN E1 E2 E3
                  obtain ⟨LN, hLN⟩ : ∃ LN, s'.l.length = LN := ⟨_, rfl⟩
                  have HLN := Lib.hid hLN
                  obtain ⟨Au, cu, rfl, -, -, -⟩ := own_atN HT.out.e.own hLN
                  have len3 : LN ≤ 20000 := by have := LEN2.out; omega
                  clear hLN
                  go_wp2
                  refine wp_region_late (fun _ => false) (fun v => Below wr.heap.size wr v) (by kernel_rfl) ?_
                  have S9 : Below wr.heap.size wr wr.drew := (Below.refl _ _).drew
                  refine tk 0 rfl (.pointer (some ⟨q, 0, none⟩)) (.inl ⟨by kernel_rfl, fun w' hs => ?_⟩) S9 ?_
                  · go_simp
                  refine tk 2 rfl (.pointer (some ⟨x, 0, none⟩)) (.inl ⟨by kernel_rfl, fun w' hs => ?_⟩) S9 ?_
                  · go_simp
                  refine tk 3 rfl (.pointer (some ⟨x, 0, none⟩)) (.inl ⟨by kernel_rfl, fun w' hs => ?_⟩) S9 ?_
                  · go_simp
                  refine tk 4 rfl (.pointer (some ⟨x, 2, none⟩)) (.inl ⟨by kernel_rfl, fun w' hs => ?_⟩) S9 ?_
                  · go_simp
                  refine tk 5 rfl (.slice Au LN cu) (.inl ⟨by kernel_rfl, fun w' hs => ?_⟩) S9 ?_
                  · have qq := HT.out.e.below hs
                    have q0 := qq.c0
                    have q1 := qq.c1
                    have q2 := qq.c2
                    clear qq
                    go_simp
                  have C9 := bytes_is wr.drew q s'.R s'.Y s'.l v6 (HT.out.d.below S9) (by have := HLN.out; omega)
                  refine late_oneG 1 rfl (by kernel_rfl) (by kernel_rfl) ?_
                  go_simp
                  refine C9.mono ?_
                  rintro e wa ⟨ua, rfl, oa, ba⟩
                  clear C9
                  obtain ⟨Aa, ca, rfl, aa, -, -⟩ := own_atN oa HLN.out
                  have Sa : Below wr.heap.size wr wa := S9.trans ba
                  obtain ⟨A', c', e', a', -, -⟩ := own_atN (HT.out.e.below Sa).own HLN.out
                  injection e' with e1 e2 e3
                  subst e1; subst e3
                  have VC := vb_is wa Aa Au LN ca LN cu s'.l s'.l aa a'
                  rw [show decide (s'.l = s'.l) = true from decide_eq_true rfl] at VC
                  clear oa ba aa a' e2
                  (first | refine ⟨Sa, ?_⟩ | refine ⟨.inr Sa, ?_⟩)
                  refine late_oneG 6 rfl (by kernel_rfl) (by kernel_rfl) ?_
                  go_simp
                  refine VC.mono ?_
                  rintro e wb ⟨rfl, rfl⟩
                  clear VC
                  (first | refine ⟨Sa, ?_⟩ | refine ⟨.inr Sa, ?_⟩)
                  refine tk 7 rfl (.bool false) (.inl ⟨by kernel_rfl, fun w' hs => ?_⟩) Sa ?_
                  · go_simp
                  refine tk 8 rfl (.bool false) (.inl ⟨by kernel_rfl, fun w' hs => ?_⟩) Sa ?_
                  · go_simp
                  refine tk 9 rfl (.pointer (some ⟨q, 0, none⟩)) (.inl ⟨by kernel_rfl, fun w' hs => ?_⟩) Sa ?_
                  · go_simp
                  refine tk 11 rfl (.pointer (some ⟨x, 0, none⟩)) (.inl ⟨by kernel_rfl, fun w' hs => ?_⟩) Sa ?_
                  · go_simp
                  refine tk 12 rfl (.pointer (some ⟨x, 0, none⟩)) (.inl ⟨by kernel_rfl, fun w' hs => ?_⟩) Sa ?_
                  · go_simp
                  refine tk 13 rfl (.pointer (some ⟨x, 1, none⟩)) (.inl ⟨by kernel_rfl, fun w' hs => ?_⟩) Sa ?_
                  · go_simp
                  refine tk 14 rfl (.int .i64 s'.Y) (.inl ⟨by kernel_rfl, fun w' hs => ?_⟩) Sa ?_
                  · have qq := HT.out.e.below hs
                    have q0 := qq.c0
                    have q1 := qq.c1
                    have q2 := qq.c2
                    clear qq
                    go_simp
                  refine late_oneG 10 rfl (by kernel_rfl) (by kernel_rfl) ?_
                  go_simp
                  refine (synced_is _ q s'.R s'.Y s'.l v6 (HT.out.d.below Sa)).mono ?_
                  rintro e wc ⟨rfl, bc⟩
                  have Sc : Below wr.heap.size wr wc := Sa.trans (bc.mono Sa.size)
                  clear bc
                  (first | refine ⟨Sc, ?_⟩ | refine ⟨.inr Sc, ?_⟩)
                  refine tk 15 rfl (.bool false) (.inl ⟨by kernel_rfl, fun w' hs => ?_⟩) Sc ?_
                  · go_simp
                  refine tk 16 rfl (.bool false) (.inl ⟨by kernel_rfl, fun w' hs => ?_⟩) Sc ?_
                  · go_simp
                  refine tk 17 rfl (.bool false) (.inl ⟨by kernel_rfl, fun w' hs => ?_⟩) Sc ?_
                  · go_simp
                  refine tk 18 rfl (.pointer (some ⟨q, 0, none⟩)) (.inl ⟨by kernel_rfl, fun w' hs => ?_⟩) Sc ?_
                  · go_simp
                  refine tk 20 rfl (.pointer (some ⟨x, 0, none⟩)) (.inl ⟨by kernel_rfl, fun w' hs => ?_⟩) Sc ?_
                  · go_simp
                  refine tk 21 rfl (.pointer (some ⟨x, 0, none⟩)) (.inl ⟨by kernel_rfl, fun w' hs => ?_⟩) Sc ?_
                  · go_simp
                  refine tk 22 rfl (.pointer (some ⟨x, 0, none⟩)) (.inl ⟨by kernel_rfl, fun w' hs => ?_⟩) Sc ?_
                  · go_simp
                  refine tk 23 rfl (.int .i64 s'.R) (.inl ⟨by kernel_rfl, fun w' hs => ?_⟩) Sc ?_
                  · have qq := HT.out.e.below hs
                    have q0 := qq.c0
                    have q1 := qq.c1
                    have q2 := qq.c2
                    clear qq
                    go_simp
                  refine late_oneG 19 rfl (by kernel_rfl) (by kernel_rfl) ?_
                  go_simp
                  refine (room_is _ q s'.R s'.Y s'.l v6 (HT.out.d.below Sc)).mono ?_
                  rintro e wd ⟨rfl, bd⟩
                  have Sd : Below wr.heap.size wr wd := Sc.trans (bd.mono Sc.size)
                  clear bd
                  (first | refine ⟨Sd, ?_⟩ | refine ⟨.inr Sd, ?_⟩)
                  refine tk 24 rfl (.bool false) (.inl ⟨by kernel_rfl, fun w' hs => ?_⟩) Sd ?_
                  · go_simp
                  refine tk 25 rfl (.bool false) (.inl ⟨by kernel_rfl, fun w' hs => ?_⟩) Sd ?_
                  · go_simp
                  refine Late.done (by kernel_rfl) ?_
                  have FT := Lib.hid (HT.out.below Sd)
                  go_simp
                  go_wp2
                  go_roundw
                  case rel => exact ⟨t + 1, q, v6, _, by omega, by go_num, rfl, by rw [HS1.out]; exact FT.out⟩
                  case measure => simp [intOf]; omega
            · have cz2 := (HC.out wr D1.out.at_).2.2.1
              have C5 := copy_is wr az mz cz bz ((HC.out wr D1.out.at_).2.2.2) kz (by omega)
              go_wp2_with fail
              refine C5.mono ?_
              rintro e w5 ⟨v5, rfl, o5, b5⟩
              clear C5
              obtain ⟨Ai, ci, rfl, -, -, zi⟩ := own_atN o5 HM.out
              have D5 := Lib.hid (D1.out.below b5)
              have O5 := Lib.hid o5
              have F5 := Lib.hid (Free.of D1.out o5)
              clear o5 b5
              go_wp2
              refine wp_region_late (fun _ => false) (fun v => Below W.heap.size W v) (by kernel_rfl) ?_
              have S5 : Below W.heap.size W w5.drew := D5.out.at_.drew
              refine tk 0 rfl (.pointer (some ⟨p, 0, none⟩)) (.inl ⟨by kernel_rfl, fun w' hs => ?_⟩) S5 ?_
              · go_simp
              refine tk 1 rfl (.slice (some ⟨b, off, none⟩) n cc) (.inl ⟨by kernel_rfl, fun w' hs => ?_⟩) S5 ?_
              · go_simp
              refine tk 2 rfl (.int .i64 (t : Nat)) (.inl ⟨by kernel_rfl, fun w' hs => ?_⟩) S5 ?_
              · go_simp
              refine tk 3 rfl (.pointer (some ⟨b, off + t * 3, none⟩)) (.inl ⟨by kernel_rfl, fun w' hs => ?_⟩) S5 ?_
              · go_simp
              refine tk 4 rfl (.pointer (some ⟨b, off + t * 3, none⟩)) (.inl ⟨by kernel_rfl, fun w' hs => ?_⟩) S5 ?_
              · go_simp
              refine tk 5 rfl (.int .i64 kd) (.inl ⟨by kernel_rfl, fun w' hs => ?_⟩) S5 ?_
              · have q := HC.out _ hs
                have q0 := q.1
                have q1 := q.2.1
                have q2 := q.2.2.1
                clear q
                go_simp
              refine tk 6 rfl (.slice (some ⟨b, off, none⟩) n cc) (.inl ⟨by kernel_rfl, fun w' hs => ?_⟩) S5 ?_
              · go_simp
              refine tk 7 rfl (.int .i64 (t : Nat)) (.inl ⟨by kernel_rfl, fun w' hs => ?_⟩) S5 ?_
              · go_simp
              refine tk 8 rfl (.pointer (some ⟨b, off + t * 3, none⟩)) (.inl ⟨by kernel_rfl, fun w' hs => ?_⟩) S5 ?_
              · go_simp
              refine tk 9 rfl (.pointer (some ⟨b, off + t * 3 + 1, none⟩)) (.inl ⟨by kernel_rfl, fun w' hs => ?_⟩) S5 ?_
              · go_simp
              refine tk 10 rfl (.int .i64 nd) (.inl ⟨by kernel_rfl, fun w' hs => ?_⟩) S5 ?_
              · have q := HC.out _ hs
                have q0 := q.1
                have q1 := q.2.1
                have q2 := q.2.2.1
                clear q
                go_simp
              refine tk 11 rfl (.slice Ai mz ci) (.inl ⟨by kernel_rfl, fun w' hs => ?_⟩) S5 ?_
              · go_simp
              refine tk 12 rfl (.agg #[.int .i64 kd, .int .i64 nd, .slice Ai mz ci]) (.inl ⟨by kernel_rfl, fun w' hs => ?_⟩) S5 ?_
              · go_simp
              refine tk 14 rfl (.pointer (some ⟨x, 0, none⟩)) (.inl ⟨by kernel_rfl, fun w' hs => ?_⟩) S5 ?_
              · go_simp
              refine tk 15 rfl (.slice (some ⟨b, off, none⟩) n cc) (.inl ⟨by kernel_rfl, fun w' hs => ?_⟩) S5 ?_
              · go_simp
              refine tk 16 rfl (.int .i64 (t : Nat)) (.inl ⟨by kernel_rfl, fun w' hs => ?_⟩) S5 ?_
              · go_simp
              refine tk 17 rfl (.pointer (some ⟨b, off + t * 3, none⟩)) (.inl ⟨by kernel_rfl, fun w' hs => ?_⟩) S5 ?_
              · go_simp
              refine tk 18 rfl (.agg #[.int .i64 kd, .int .i64 nd, .slice az mz cz]) (.inl ⟨by kernel_rfl, fun w' hs => ?_⟩) S5 ?_
              · have q := HC.out _ hs
                have q0 := q.1
                have q1 := q.2.1
                have q2 := q.2.2.1
                clear q
                go_simp
              have D5d := D5.out.below (Below.refl w5.heap.size w5).drew
              have O5d := O5.out.on (Below.refl w5.heap.size w5).drew
              have A5d : BsAt w5.drew Ai mz bz := by
                obtain ⟨A', c', e', a', -, -⟩ := own_atN O5d HM.out
                injection e' with e1 e2 e3
                subst e1
                exact a'
              have C6 := does_is w5.drew p s.R s.Y s.l v kd nd Ai mz ci bz D5d.d A5d zi (by omega) (by omega) ok.r0 (by have := ok.r1; omega) ok.y0 ok.y1 n1 n2
              clear A5d
              refine late_oneG 13 rfl (by kernel_rfl) (by kernel_rfl) ?_
              go_simp
              refine C6.mono ?_
              rintro e w6 ⟨rfl, v6, d6, k6, j6⟩
              clear C6
              have D6 := Lib.hid (D5d.nextP d6 k6 j6)
              have O6 := Lib.hid (own_kp O5d k6 fun g hg y => (F5.out g hg).2.1 y)
              have F6 := Lib.hid (F5.out.nextP (w' := w6) j6 O5d)
              have S6 : Below W.heap.size W w6 := D6.out.at_
              clear d6 k6 j6 D5d O5d
              (first | refine ⟨S6, ?_⟩ | refine ⟨.inr S6, ?_⟩)
              have C7 := want_is w6 x s.R s.Y s.l u kd nd az mz cz bz D6.out.e ((HC.out w6 S6).2.2.2) kz (by omega) (by omega) ok.r0 (by have := ok.r1; omega) ok.y0 ok.y1 n1 n2
              refine late_oneG 19 rfl (by kernel_rfl) (by kernel_rfl) ?_
              go_simp
              refine C7.mono ?_
              rintro e w7 ⟨rfl, u7, d7, k7, j7⟩
              clear C7
              have D7 := Lib.hid (D6.out.nextX d7 k7 j7)
              have O7 := Lib.hid (own_kp O6.out k7 fun g hg y => (F6.out g hg).2.2 y)
              have F7 := Lib.hid (F6.out.nextX (w' := w7) j7 O6.out)
              have S7 : Below W.heap.size W w7 := D7.out.at_
              clear d7 k7 j7
              (first | refine ⟨S7, ?_⟩ | refine ⟨.inr S7, ?_⟩)
              refine tk 20 rfl (.bool false) (.inl ⟨by kernel_rfl, fun w' hs => ?_⟩) S7 ?_
              · go_simp
              refine tk 21 rfl (.bool false) (.inl ⟨by kernel_rfl, fun w' hs => ?_⟩) S7 ?_
              · go_simp
              refine tk 22 rfl (.slice Ai mz ci) (.inl ⟨by kernel_rfl, fun w' hs => ?_⟩) S7 ?_
              · go_simp
              refine tk 23 rfl (.slice (some ⟨b, off, none⟩) n cc) (.inl ⟨by kernel_rfl, fun w' hs => ?_⟩) S7 ?_
              · go_simp
              refine tk 24 rfl (.int .i64 (t : Nat)) (.inl ⟨by kernel_rfl, fun w' hs => ?_⟩) S7 ?_
              · go_simp
              refine tk 25 rfl (.pointer (some ⟨b, off + t * 3, none⟩)) (.inl ⟨by kernel_rfl, fun w' hs => ?_⟩) S7 ?_
              · go_simp
              refine tk 26 rfl (.pointer (some ⟨b, off + t * 3 + 2, none⟩)) (.inl ⟨by kernel_rfl, fun w' hs => ?_⟩) S7 ?_
              · go_simp
              refine tk 27 rfl (.slice az mz cz) (.inl ⟨by kernel_rfl, fun w' hs => ?_⟩) S7 ?_
              · have q := HC.out _ hs
                have q0 := q.1
                have q1 := q.2.1
                have q2 := q.2.2.1
                clear q
                go_simp
              obtain ⟨A', c', e', a', -, -⟩ := own_atN O7.out HM.out
              injection e' with e1 e2 e3
              subst e1
              have VB := vb_is w7 Ai az mz ci mz cz bz bz a' ((HC.out w7 S7).2.2.2)
              clear a' e2 e3
              rw [show decide (bz = bz) = true from decide_eq_true rfl] at VB
              refine late_oneG 28 rfl (by kernel_rfl) (by kernel_rfl) ?_
              go_simp
              refine VB.mono ?_
              rintro e w8 ⟨rfl, rfl⟩
              clear VB
              (first | refine ⟨S7, ?_⟩ | refine ⟨.inr S7, ?_⟩)
              refine tk 29 rfl (.bool false) (.inl ⟨by kernel_rfl, fun w' hs => ?_⟩) S7 ?_
              · go_simp
              refine tk 30 rfl (.bool false) (.inl ⟨by kernel_rfl, fun w' hs => ?_⟩) S7 ?_
              · go_simp
              refine Late.done (by kernel_rfl) ?_
              go_simp
              go_wp2
              go_loopw [11] (fun k wq => ∃ (kk : Nat) (Z : List UInt8), kk ≤ mz ∧ k = .int .i64 kk ∧ Z.length = mz ∧ OwnB 0 wq (.slice Ai mz ci) Z ∧ Two W wq p (doR s.R kd nd) (doY s.R s.Y s.l bz kd nd) (doL s.R s.Y s.l bz kd nd) v6 x (doR s.R kd nd) (doY s.R s.Y s.l bz kd nd) (doL s.R s.Y s.l bz kd nd) u7) (fun k _ => mz - (intOf k).toNat)
              case atStart => exact ⟨0, bz, Nat.zero_le _, rfl, HM.out, own_low O7.out (Nat.zero_le _), D7.out⟩
              case round =>
                obtain ⟨kk, Z, hkk, rfl, hZ, hO, hT⟩ := hrel
                have HO := Lib.hid hO
                have HT := Lib.hid hT
                clear hO hT
                by_cases hk : kk < mz
                · rcases HO.out.form with ⟨-, e⟩ | ⟨gg, cg, hval, a5, hBg5, hgw5, hcc5⟩
                  · rw [e] at hZ; simp at hZ; omega
                  · have c0 : wr.cell? ⟨gg, kk, none⟩ = some (.int .u8 (bv Z kk : Nat)) := by
                      obtain ⟨b', off', e, hlt', z⟩ := a5.2 (by omega)
                      injection e with e; injection e with e1 e2; subst e1; subst e2
                      have := z kk (by omega)
                      rwa [Nat.zero_add] at this
                    have h256 := bv_256 Z kk
                    rw [hZ] at hval hcc5
                    injection hval with h1 h2 h3
                    subst h1; subst h3
                    have hbu : ((bv Z kk : Nat) + 1 : Int) % 256 = ((Z[kk]'(by omega) + 1 : UInt8).toNat : Nat) := by rw [bv_lt (by omega)]; exact byte_up _
                    have oz : OwnB 0 wr (.slice (some ⟨gg, 0, none⟩) Z.length ci) Z := by rw [hZ]; exact HO.out
                    have fz := World.ownsRow.frozenAt oz kk
                    obtain ⟨S1, S2⟩ := oz.store kk (Z[kk]'(by omega) + 1) _ hbu
                    obtain ⟨l', hl'⟩ : ∃ l', Z.set kk (Z[kk]'(by omega) + 1) = l' := ⟨_, rfl⟩
                    have hl2 : l'.length = mz := by rw [← hl', List.length_set, hZ]
                    rw [hl', hZ] at S1
                    have PO := Lib.hid S1
                    have PT := Lib.hid (HT.out.keep (Kp.grown (F := (· = gg)) S2 fun k e => by injection e with e; exact e.symm) (fun g e => by subst e; exact (F7.out _ rfl).1) (fun g e => by subst e; exact (F7.out _ rfl).2.1) (fun g e => by subst e; exact (F7.out _ rfl).2.2))
                    have PL := Lib.hid hl2
                    have i5 : (kk : Int) < mz := by omega
                    clear oz S1 S2 hbu a5 hl' hl2 hZ h2
                    generalize bv Z kk = vv at *
                    go_wp2
                    go_roundw
                    case rel => exact ⟨kk + 1, l', by omega, by go_num, PL.out, PO.out, PT.out⟩
                    case measure => simp [intOf]; omega
                · obtain rfl : kk = mz := by omega
                  clear hZ
                  have DN : (⟨doR s.R kd nd, doY s.R s.Y s.l bz kd nd, doL s.R s.Y s.l bz kd nd⟩ : Ds) = s' := NX.out.symm
                  have E1 : doR s.R kd nd = s'.R := congrArg Ds.R DN
                  have E2 : doY s.R s.Y s.l bz kd nd = s'.Y := congrArg Ds.Y DN
                  have E3 : doL s.R s.Y s.l bz kd nd = s'.l := congrArg Ds.l DN
                  rw [E1, E2, E3] at HT
                  clear DN E1 E2 E3
                  obtain ⟨LN, hLN⟩ : ∃ LN, s'.l.length = LN := ⟨_, rfl⟩
                  have HLN := Lib.hid hLN
                  obtain ⟨Au, cu, rfl, -, -, -⟩ := own_atN HT.out.e.own hLN
                  have len3 : LN ≤ 20000 := by have := LEN2.out; omega
                  clear hLN
                  go_wp2
                  refine wp_region_late (fun _ => false) (fun v => Below wr.heap.size wr v) (by kernel_rfl) ?_
                  have S9 : Below wr.heap.size wr wr.drew := (Below.refl _ _).drew
                  refine tk 0 rfl (.pointer (some ⟨p, 0, none⟩)) (.inl ⟨by kernel_rfl, fun w' hs => ?_⟩) S9 ?_
                  · go_simp
                  refine tk 2 rfl (.pointer (some ⟨x, 0, none⟩)) (.inl ⟨by kernel_rfl, fun w' hs => ?_⟩) S9 ?_
                  · go_simp
                  refine tk 3 rfl (.pointer (some ⟨x, 0, none⟩)) (.inl ⟨by kernel_rfl, fun w' hs => ?_⟩) S9 ?_
                  · go_simp
                  refine tk 4 rfl (.pointer (some ⟨x, 2, none⟩)) (.inl ⟨by kernel_rfl, fun w' hs => ?_⟩) S9 ?_
                  · go_simp
                  refine tk 5 rfl (.slice Au LN cu) (.inl ⟨by kernel_rfl, fun w' hs => ?_⟩) S9 ?_
                  · have q := HT.out.e.below hs
                    have q0 := q.c0
                    have q1 := q.c1
                    have q2 := q.c2
                    clear q
                    go_simp
                  have C9 := bytes_is wr.drew p s'.R s'.Y s'.l v6 (HT.out.d.below S9) (by have := HLN.out; omega)
                  refine late_oneG 1 rfl (by kernel_rfl) (by kernel_rfl) ?_
                  go_simp
                  refine C9.mono ?_
                  rintro e wa ⟨ua, rfl, oa, ba⟩
                  clear C9
                  obtain ⟨Aa, ca, rfl, aa, -, -⟩ := own_atN oa HLN.out
                  have Sa : Below wr.heap.size wr wa := S9.trans ba
                  obtain ⟨A', c', e', a', -, -⟩ := own_atN (HT.out.e.below Sa).own HLN.out
                  injection e' with e1 e2 e3
                  subst e1; subst e3
                  have VC := vb_is wa Aa Au LN ca LN cu s'.l s'.l aa a'
                  rw [show decide (s'.l = s'.l) = true from decide_eq_true rfl] at VC
                  clear oa ba aa a' e2
                  (first | refine ⟨Sa, ?_⟩ | refine ⟨.inr Sa, ?_⟩)
                  refine late_oneG 6 rfl (by kernel_rfl) (by kernel_rfl) ?_
                  go_simp
                  refine VC.mono ?_
                  rintro e wb ⟨rfl, rfl⟩
                  clear VC
                  (first | refine ⟨Sa, ?_⟩ | refine ⟨.inr Sa, ?_⟩)
                  refine tk 7 rfl (.bool false) (.inl ⟨by kernel_rfl, fun w' hs => ?_⟩) Sa ?_
                  · go_simp
                  refine tk 8 rfl (.bool false) (.inl ⟨by kernel_rfl, fun w' hs => ?_⟩) Sa ?_
                  · go_simp
                  refine tk 9 rfl (.pointer (some ⟨p, 0, none⟩)) (.inl ⟨by kernel_rfl, fun w' hs => ?_⟩) Sa ?_
                  · go_simp
                  refine tk 11 rfl (.pointer (some ⟨x, 0, none⟩)) (.inl ⟨by kernel_rfl, fun w' hs => ?_⟩) Sa ?_
                  · go_simp
                  refine tk 12 rfl (.pointer (some ⟨x, 0, none⟩)) (.inl ⟨by kernel_rfl, fun w' hs => ?_⟩) Sa ?_
                  · go_simp
                  refine tk 13 rfl (.pointer (some ⟨x, 1, none⟩)) (.inl ⟨by kernel_rfl, fun w' hs => ?_⟩) Sa ?_
                  · go_simp
                  refine tk 14 rfl (.int .i64 s'.Y) (.inl ⟨by kernel_rfl, fun w' hs => ?_⟩) Sa ?_
                  · have q := HT.out.e.below hs
                    have q0 := q.c0
                    have q1 := q.c1
                    have q2 := q.c2
                    clear q
                    go_simp
                  refine late_oneG 10 rfl (by kernel_rfl) (by kernel_rfl) ?_
                  go_simp
                  refine (synced_is _ p s'.R s'.Y s'.l v6 (HT.out.d.below Sa)).mono ?_
                  rintro e wc ⟨rfl, bc⟩
                  have Sc : Below wr.heap.size wr wc := Sa.trans (bc.mono Sa.size)
                  clear bc
                  (first | refine ⟨Sc, ?_⟩ | refine ⟨.inr Sc, ?_⟩)
                  refine tk 15 rfl (.bool false) (.inl ⟨by kernel_rfl, fun w' hs => ?_⟩) Sc ?_
                  · go_simp
                  refine tk 16 rfl (.bool false) (.inl ⟨by kernel_rfl, fun w' hs => ?_⟩) Sc ?_
                  · go_simp
                  refine tk 17 rfl (.bool false) (.inl ⟨by kernel_rfl, fun w' hs => ?_⟩) Sc ?_
                  · go_simp
                  refine tk 18 rfl (.pointer (some ⟨p, 0, none⟩)) (.inl ⟨by kernel_rfl, fun w' hs => ?_⟩) Sc ?_
                  · go_simp
                  refine tk 20 rfl (.pointer (some ⟨x, 0, none⟩)) (.inl ⟨by kernel_rfl, fun w' hs => ?_⟩) Sc ?_
                  · go_simp
                  refine tk 21 rfl (.pointer (some ⟨x, 0, none⟩)) (.inl ⟨by kernel_rfl, fun w' hs => ?_⟩) Sc ?_
                  · go_simp
                  refine tk 22 rfl (.pointer (some ⟨x, 0, none⟩)) (.inl ⟨by kernel_rfl, fun w' hs => ?_⟩) Sc ?_
                  · go_simp
                  refine tk 23 rfl (.int .i64 s'.R) (.inl ⟨by kernel_rfl, fun w' hs => ?_⟩) Sc ?_
                  · have q := HT.out.e.below hs
                    have q0 := q.c0
                    have q1 := q.c1
                    have q2 := q.c2
                    clear q
                    go_simp
                  refine late_oneG 19 rfl (by kernel_rfl) (by kernel_rfl) ?_
                  go_simp
                  refine (room_is _ p s'.R s'.Y s'.l v6 (HT.out.d.below Sc)).mono ?_
                  rintro e wd ⟨rfl, bd⟩
                  have Sd : Below wr.heap.size wr wd := Sc.trans (bd.mono Sc.size)
                  clear bd
                  (first | refine ⟨Sd, ?_⟩ | refine ⟨.inr Sd, ?_⟩)
                  refine tk 24 rfl (.bool false) (.inl ⟨by kernel_rfl, fun w' hs => ?_⟩) Sd ?_
                  · go_simp
                  refine tk 25 rfl (.bool false) (.inl ⟨by kernel_rfl, fun w' hs => ?_⟩) Sd ?_
                  · go_simp
                  refine Late.done (by kernel_rfl) ?_
                  have FT := Lib.hid (HT.out.below Sd)
                  go_simp
                  go_wp2
                  go_roundw
                  case rel => exact ⟨t + 1, p, v6, _, by omega, by go_num, rfl, by rw [HS1.out]; exact FT.out⟩
                  case measure => simp [intOf]; omega
        · obtain rfl : t = n := by omega
          go_wp2_with fail
          refine (first_is _).mono ?_
          rintro e w3 ⟨rfl, b3⟩
          have G := Lib.hid (D1.out.below b3).at_
          clear b3
          go_wp2
          go_ret
          exact ⟨rfl, G.out⟩
  · have C1 := fun w => new_no w size hs l1 u1
    go_enter Try.func3, Try.ntmps3
    go_wp2_with fail
    refine (first_is W).mono ?_
    rintro e w0 ⟨rfl, b0⟩
    have B0 := Lib.hid b0
    clear b0
    go_wp2_with fail
    refine (C1 w0).mono ?_
    rintro e w1 ⟨rfl, b1⟩
    clear C1
    have B1 := Lib.hid (B0.out.trans (b1.mono B0.out.size))
    clear b1
    by_cases hs0 : size < 0
    · clear hs
      go_wp2_with fail
      refine (first_is w1).mono ?_
      rintro e w3 ⟨rfl, b3⟩
      have G := Lib.hid (B1.out.trans (b3.mono B1.out.size))
      clear b3
      go_wp2
      go_ret
      exact ⟨rfl, G.out⟩
    · have hs1 : 1073741824 < size := by omega
      clear hs
      go_wp2_with fail
      refine (first_is w1).mono ?_
      rintro e w3 ⟨rfl, b3⟩
      have G := Lib.hid (B1.out.trans (b3.mono B1.out.size))
      clear b3
      go_wp2
      go_ret
      exact ⟨rfl, G.out⟩
end Go.Proofs.Ytipefkjgfbgceaa.Dk
