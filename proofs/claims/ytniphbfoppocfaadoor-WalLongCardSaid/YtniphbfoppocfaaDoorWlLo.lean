/- The walk of voklaw15.WalLong. -/
import Derived.Test.YtniphbfoppocfaaDoorWlK
import Derived.Deep.OwnRows
set_option linter.unusedVariables false
namespace Go.Proofs.YtniphbfoppocfaaDoor.Wl
open Go.RowKit Fr Dk

theorem made_zeros (n : Nat) : (madeCells #[Value.int .u8 0] n).toList = Lib.byteCells (List.replicate n 0) := by
  rw [toList_madeCells_one]
  unfold Lib.byteCells
  rw [List.map_replicate]
  rfl
/-- two slices of bytes, written out -/
theorem two_at {w : World} {A1 A2 : Option Addr} {n1 c1 n2 c2 : Nat} {b1 b2 : List UInt8} (h1 : BsAt w A1 n1 b1) (k1 : n1 ≤ c1) (z1 : A1 = none → c1 = 0) (h2 : BsAt w A2 n2 b2) (k2 : n2 ≤ c2) (z2 : A2 = none → c2 = 0) (T : TypeId) :
    LsAt (w.alloc (.cells #[.slice A1 n1 c1, .slice A2 n2 c2] T)) (some ⟨w.heap.size, 0, none⟩) 2 [⟨A1, n1, c1, b1⟩, ⟨A2, n2, c2, b2⟩] := by
  have al := below_alloc w (.cells #[.slice A1 n1 c1, .slice A2 n2 c2] T)
  refine ⟨rfl, fun _ => ⟨w.heap.size, 0, rfl, by simp, fun j hj => ?_⟩⟩
  match j, hj with
  | 0, _ => exact ⟨by rw [World.cell?_alloc_new]; rfl, h1.below al, k1, z1⟩
  | 1, _ => exact ⟨by rw [World.cell?_alloc_new]; rfl, h2.below al, k2, z2⟩
set_option maxRecDepth 100000 in
set_option maxHeartbeats 8000000 in
theorem long_walk (W : World) (T : Tab W) (A : Option Addr) (n cc : Nat) (O : List OpW) (more : Int) (h : OsW W A n O) (hn : n ≤ 9223372036854775807) (l2 : -9223372036854775808 ≤ more) (u2 : more ≤ 9223372036854775807) :
    Calls Tryd.prog 7 #[.slice A n cc, .int .i64 more] W fun e w' => e = .returned (.bool true) ∧ Below W.heap.size W w' := by
  have H := Lib.hid h
  have TT := Lib.hid T
  have FI := Lib.hid (fun v (b : Below W.heap.size W v) => first_is v (T.on b))
  clear h T
  go_enter Tryd.func7, Tryd.ntmps7
  go_wp2_with fail
  refine (FI.out W (Below.refl _ _)).mono ?_
  rintro e w0 ⟨rfl, b0⟩
  have B0 := Lib.hid b0
  clear b0
  have C1 := new_yes w0 1048576 (by decide) (by decide)
  go_wp2_with fail
  refine C1.mono ?_
  rintro e w1 ⟨q, dv1, rfl, d1, b1, g1⟩
  clear C1
  have B1 := Lib.hid (B0.out.trans (b1.mono B0.out.size))
  have DD := Lib.hid d1
  have G1 := Lib.hid (show ∀ k, Ft q dv1 k → W.heap.size ≤ k from fun k hk => Nat.le_trans B0.out.size (g1 k hk))
  have C2 := feww_is w1 A n cc O (H.out.below B1.out) hn
  clear d1 b1 g1
  go_wp2_with fail
  all_goals try (exfalso; omega)
  refine C2.mono ?_
  rintro e w2 ⟨rfl, rfl⟩
  clear C2
  by_cases hm1 : 1 ≤ more
  rotate_left
  · have m1 : more < 1 := by omega
    cases hf : fewW O n
    all_goals
      clear hf
      go_wp2_with fail
      refine (FI.out w2 B1.out).mono ?_
      rintro e w3 ⟨rfl, b3⟩
      have G := Lib.hid (B1.out.trans (b3.mono B1.out.size))
      clear b3
      go_wp2
      go_ret
      exact ⟨rfl, G.out⟩
  have m1 : ¬ more < 1 := by omega
  by_cases hm2 : more ≤ 100
  rotate_left
  · have m2 : (100 : Int) < more := by omega
    cases hf : fewW O n
    all_goals
      clear hf
      go_wp2_with fail
      refine (FI.out w2 B1.out).mono ?_
      rintro e w3 ⟨rfl, b3⟩
      have G := Lib.hid (B1.out.trans (b3.mono B1.out.size))
      clear b3
      go_wp2
      go_ret
      exact ⟨rfl, G.out⟩
  have m2 : ¬ (100 : Int) < more := by omega
  cases hf : fewW O n with
  | false =>
    clear hf
    go_wp2_with fail
    refine (FI.out w2 B1.out).mono ?_
    rintro e w3 ⟨rfl, b3⟩
    have G := Lib.hid (B1.out.trans (b3.mono B1.out.size))
    clear b3
    go_wp2
    go_ret
    exact ⟨rfl, G.out⟩
  | true =>
    have HF := Lib.hid hf
    clear hf
    have C3 := open_is w2 q 1048576 0 [] dv1 (TT.out.on B1.out) DD.out (by decide)
    go_wp2_with fail
    refine C3.mono ?_
    intro e w3 o3
    obtain ⟨p, v3, S3, dv3, rfl, g3, s3⟩ := Lsk.open_ DD.out G1.out B1.out o3
    clear C3 o3
    have K3 := Lib.hid (show KpR W 1048576 q p O 0 0 w3 0 [] dv3 v3 S3 from ⟨g3, by rw [s3]; exact Kg.start, Nat.zero_le _, by rw [s3]; exact Nat.zero_le _⟩)
    clear g3 s3
    go_wp2
    go_loopw [9] (fun i wr => ∃ (t k : Nat) (Y : Int) (l : List UInt8) (dv v : Value) (S : List SlB), t ≤ n ∧ i = .int .i64 (t : Nat) ∧ KpR W 1048576 q p O t k wr Y l dv v S) (fun i _ => n - (intOf i).toNat)
    case atStart => exact ⟨0, 0, 0, [], dv3, v3, S3, Nat.zero_le _, rfl, K3.out⟩
    case round =>
      obtain ⟨t, k, Y, l, dv, v, S, ht, rfl, hK⟩ := hrel
      obtain ⟨hG, hk, hl, hr⟩ := hK
      have G := Lib.hid hG
      have KG := Lib.hid hk
      clear hG hk
      by_cases hlt : t < n
      · have i5 : (t : Int) < n := by omega
        obtain ⟨b, off, rfl, hc⟩ := ow_cell H.out hlt
        obtain ⟨c0, c1, c2, c3, oi⟩ := hc wr G.out.at_
        have OI := Lib.hid oi
        obtain ⟨f1, f2, f3, f4, f5, f6, f7, f8, f9⟩ := few_op HF.out hlt oi
        have SL : S.length ≤ 400 := by rw [← bytesS_len]; omega
        have far := Lib.hid (show 0 < (gt O t).m → ∀ g off, (gt O t).A = some ⟨g, off, none⟩ → ¬ Al p q dv v S g from fun h0 g off e => by
          have := (hc W (Below.refl _ _)).2.2.2.2.1.2 h0
          obtain ⟨b', off', e', hb', -⟩ := this
          rw [e] at e'
          injection e' with e'
          injection e' with e'
          exact G.out.far (e' ▸ hb'))
        have CA := Lib.hid (lapp_is wr p q 1048576 Y l dv v S (gt O t).A (gt O t).m (gt O t).c (gt O t).b (TT.out.on G.out.at_) G.out.g OI.out.1 OI.out.2.2.1 (by omega) (by omega) (by omega) (by decide) (by decide) far.out)
        have ll := wlL_len 1048576 l (gt O t).b
        have lr := wlR_len 1048576 l (gt O t).b (bytesS S)
        have NA := Lib.hid (show ∀ w' dv' v' S', LgV 67 62 w' p q 1048576 Y (wlL 1048576 l (gt O t).b) dv' v' S' → bytesS S' = wlR 1048576 l (gt O t).b (bytesS S) → Kp (Al p q dv v S) wr w' → (∀ g, Al p q dv' v' S' g → Al p q dv v S g ∨ wr.heap.size ≤ g) → KpR W 1048576 q p O (t + 1) k w' Y (wlL 1048576 l (gt O t).b) dv' v' S' from fun w' dv' v' S' g e kp nn =>
          ⟨G.out.next g kp nn, e ▸ KG.out.app 1048576 _, by omega, by rw [e]; omega⟩)
        clear hc oi c0 c1 c3 ll lr hl hr f1 f2 f3 f4 f5 f6 f7 f8 f9 far
        generalize gt O t = o at *
        obtain ⟨kd, nd, az, mz, cz, bz, aB, N, C, P⟩ := o
        simp only at c2 CA NA
        go_wp2_with fail
        refine CA.out.mono ?_
        rintro e w4 ⟨rfl, dv4, v4, S4, g4, e4, kp4, n4⟩
        have F := Lib.hid (NA.out w4 dv4 v4 S4 g4 e4 kp4 n4)
        clear g4 e4 kp4 n4
        go_wp2
        go_roundw
        case rel => exact ⟨t + 1, k, _, _, _, _, _, by omega, by go_num, F.out⟩
        case measure => simp [intOf]; omega
      · obtain rfl : n = t := by omega
        have HK := Lib.hid (few_all HF.out)
        have lb : l.length ≤ 90000 := by have := HK.out; omega
        have rb : (bytesS S).length ≤ 400 := by have := HK.out; omega
        obtain ⟨L, hL⟩ : ∃ L, l.length = L := ⟨_, rfl⟩
        have HL := Lib.hid hL
        obtain ⟨nr, hnr⟩ : ∃ nr, (bytesS S).length = nr := ⟨_, rfl⟩
        have HNR := Lib.hid hnr
        rw [hnr] at rb
        rw [hL] at lb
        clear hl hr hL hnr
        have C5 := bytes_is wr q 1048576 Y l dv G.out.g.d (by rw [HL.out]; omega)
        go_wp2_with fail
        refine C5.mono ?_
        rintro e w5 ⟨u5, rfl, o5, b5⟩
        obtain ⟨A5, c5, rfl, -, -, -⟩ := own_atN o5 HL.out
        have O5 := Lib.hid o5
        have X5 := Lib.hid (show ∀ g, (Value.slice A5 L c5).ownBlock = some g → ¬ Al p q dv v S g from fun g hg z => by have := (World.ownsRow.lt o5 g hg).1; have := G.out.g.all g z; omega)
        have G5 := Lib.hid (G.out.below b5)
        clear C5 o5 b5
        have C6 := recs_is w5 p q _ _ _ dv v S G5.out.g (by rw [← bytesS_len, HNR.out]; omega) (fun x hx => by have := KG.out.ok x hx; omega)
        go_wp2_with fail
        refine C6.mono ?_
        rintro e w6 ⟨u6, S6, rfl, o6, e6, b6⟩
        have h6 : S6.length = nr := by rw [← bytesS_len, e6, HNR.out]
        obtain ⟨A6, c6, rfl, -, -, -⟩ := ownl_at o6 h6
        have O6 := Lib.hid o6
        have X6 := Lib.hid (show ∀ g, Rs (.slice A6 nr c6) S6 g → ¬ Al p q dv v S g from fun g hg z => by have := (ownl_lt o6 g hg).1; have := G5.out.g.all g z; omega)
        have E6 := Lib.hid e6
        have H6 := Lib.hid h6
        have G6 := Lib.hid (G5.out.below b6)
        have O56 := Lib.hid (O5.out.on b6)
        clear C6 o6 e6 b6 h6
        obtain ⟨mo, rfl⟩ := Int.eq_ofNat_of_zero_le (show 0 ≤ more by omega)
        have W1 : IntKind.i64.wrap (8192 + (mo : Int)) = ((8192 + mo : Nat) : Int) := by rw [IntWalk.i64_in _ (by omega)]; omega
        obtain ⟨i0, hi, hz0, hz1, hz2⟩ := info_parts info_u8
        go_wp2_with (refine wpList_make_row _ rfl _ _ 22 rfl 5 i0 (.int .u8 0) Tryd.underlying22 hi hz0 hz1 rfl .i64 .i64 (8192 + mo) rfl rfl (by rw [hz2]; omega) (by omega) ?_)
        have al := below_alloc w6 (.cells (madeCells #[.int .u8 0] (8192 + mo)) 5)
        have Z7 := Lib.hid (few_at w6 (madeCells #[.int .u8 0] (8192 + mo)) 5 (List.replicate (8192 + mo) 0) (made_zeros _) (n := 8192 + mo) (by rw [List.length_replicate]))
        have G7 := Lib.hid (G6.out.below al)
        have O57 := Lib.hid (O56.out.on al)
        have O67 := Lib.hid (O6.out.on al)
        obtain ⟨g7, hg7⟩ : ∃ g7, w6.heap.size = g7 := ⟨_, rfl⟩
        have X7 := Lib.hid (show ¬ Al p q dv v S g7 from fun z => by have := G6.out.g.all g7 z; omega)
        rw [hg7] at Z7 ⊢
        clear al hg7 hi hz0 hz1 hz2
        generalize w6.alloc (.cells (madeCells #[.int .u8 0] (8192 + mo)) 5) = w7 at *
        obtain ⟨zs, hzs⟩ : ∃ zs : List UInt8, List.replicate (8192 + mo) 0 = zs := ⟨_, rfl⟩
        have ZL := Lib.hid (show zs.length = 8192 + mo by rw [← hzs, List.length_replicate])
        rw [hzs] at Z7
        clear hzs
        have EZ : wlE 1048576 l zs = 3 := by unfold wlE; rw [if_neg (by rw [ZL.out]; omega)]
        have x1 : wlL 1048576 l zs = l := by unfold wlL; rw [if_neg (by rw [EZ]; decide)]
        have x2 : wlR 1048576 l zs (bytesS S) = bytesS S := by unfold wlR; rw [if_neg (by rw [EZ]; decide)]
        have x3 : wrY 1048576 Y l zs = Y := by unfold wrY; rw [if_neg (by rw [EZ]; decide)]
        have EX := Lib.hid (And.intro EZ (And.intro x1 (And.intro x2 x3)))
        clear EZ x1 x2 x3
        have C8 := lapp_is w7 p q 1048576 Y l dv v S (some ⟨g7, 0, none⟩) (8192 + mo) (8192 + mo) zs (TT.out.on G7.out.at_) G7.out.g Z7.out (fun z => by cases z) (by rw [HL.out]; exact lb) (by omega) (by rw [← bytesS_len, HNR.out]; omega) (by decide) (by decide) (fun _ g off e => by injection e with e; injection e with e; exact e ▸ X7.out)
        rw [EX.out.1, EX.out.2.1, EX.out.2.2.1] at C8
        go_wp2_with fail
        refine C8.mono ?_
        rintro e w8 ⟨rfl, dv8, v8, S8, g8, e8, kp8, n8⟩
        clear C8
        have G8 := Lib.hid (G7.out.next g8 kp8 n8)
        have O58 := Lib.hid (own_kp O57.out kp8 X5.out)
        have O68 := Lib.hid (ownl_kp O67.out kp8 X6.out)
        have Z8 := Lib.hid (bs_kp Z7.out kp8 fun _ a e => by injection e with e; exact e ▸ X7.out)
        have lt7 := Z7.out.2 (by omega)
        have S7 := Lib.hid (show g7 < w7.heap.size by obtain ⟨b', off', e', hb', -⟩ := lt7; injection e' with e'; injection e' with e'; exact e' ▸ hb')
        have X58 := Lib.hid (show ∀ g, (Value.slice A5 L c5).ownBlock = some g → ¬ Al p q dv8 v8 S8 g from fun g hg z => (n8 g z).elim (X5.out g hg) fun y => by have := (World.ownsRow.lt O57.out g hg).2; omega)
        have X68 := Lib.hid (show ∀ g, Rs (.slice A6 nr c6) S6 g → ¬ Al p q dv8 v8 S8 g from fun g hg z => (n8 g z).elim (X6.out g hg) fun y => by have := (ownl_lt O67.out g hg).2; omega)
        have X78 := Lib.hid (show ¬ Al p q dv8 v8 S8 g7 from fun z => (n8 g7 z).elim X7.out fun y => by have := S7.out; omega)
        have E8 := Lib.hid e8
        clear g8 e8 kp8 n8 lt7
        have C9 := lput_is w8 p q 1048576 Y l dv8 v8 S8 (some ⟨g7, 0, none⟩) (8192 + mo) (8192 + mo) zs (TT.out.on G8.out.at_) G8.out.g Z8.out (fun z => by cases z) (by rw [HL.out]; exact lb) (by omega) (by rw [← bytesS_len, E8.out, HNR.out]; omega) (by decide) (by decide) (fun _ g off e => by injection e with e; injection e with e; exact e ▸ X78.out)
        rw [E8.out, EX.out.1, EX.out.2.1, EX.out.2.2.1, EX.out.2.2.2] at C9
        go_wp2_with fail
        refine C9.mono ?_
        rintro e w9 ⟨rfl, dv9, v9, S9, g9, e9, kp9, n9⟩
        clear C9
        have G9 := Lib.hid (G8.out.next g9 kp9 n9)
        have O59 := Lib.hid (own_kp O58.out kp9 X58.out)
        have O69 := Lib.hid (ownl_kp O68.out kp9 X68.out)
        have Z9 := Lib.hid (bs_kp Z8.out kp9 fun _ a e => by injection e with e; exact e ▸ X78.out)
        have X59 := Lib.hid (show ∀ g, (Value.slice A5 L c5).ownBlock = some g → ¬ Al p q dv9 v9 S9 g from fun g hg z => (n9 g z).elim (X58.out g hg) fun y => by have := (World.ownsRow.lt O58.out g hg).2; omega)
        have X69 := Lib.hid (show ∀ g, Rs (.slice A6 nr c6) S6 g → ¬ Al p q dv9 v9 S9 g from fun g hg z => (n9 g z).elim (X68.out g hg) fun y => by have := (ownl_lt O68.out g hg).2; omega)
        have E9 := Lib.hid e9
        clear g9 e9 kp9 n9
        have al1 := below_alloc w9 (.cells #[.int .u8 1] 5)
        have P1 := few_at w9 #[.int .u8 1] 5 [1] rfl (n := 1) rfl
        have la := two_at P1 (Nat.le_refl 1) (fun z => by cases z) (Z9.out.below al1) (Nat.le_refl _) (fun z => by cases z) 22
        rw [show (w9.alloc (.cells #[.int .u8 1] 5)).heap.size = w9.heap.size + 1 by simp] at la
        have LA := Lib.hid la
        clear la
        have al2 := below_alloc (w9.alloc (.cells #[.int .u8 1] 5)) (.cells #[.slice (some ⟨w9.heap.size, 0, none⟩) 1 1, .slice (some ⟨g7, 0, none⟩) (8192 + mo) (8192 + mo)] 22)
        have al3 := Lib.hid (al1.trans (al2.mono al1.size))
        have G10 := Lib.hid (G9.out.below al3.out)
        have O510 := Lib.hid (O59.out.on al3.out)
        have O610 := Lib.hid (O69.out.on al3.out)
        clear al1 al2 P1
        have OKN : ¬ okP [[1], zs] = true := by
          unfold okP
          rw [decide_eq_true_eq]
          intro hh
          have := hh zs (by simp)
          rw [ZL.out] at this
          omega
        have C11 := lcheck_no _ p q 1048576 Y l dv9 v9 S9 _ 2 2 _ (TT.out.on G10.out.at_) G10.out.g LA.out (by decide) (by rw [show bytesS [(⟨some ⟨w9.heap.size, 0, none⟩, 1, 1, [1]⟩ : SlB), ⟨some ⟨g7, 0, none⟩, 8192 + mo, 8192 + mo, zs⟩] = [[1], zs] from rfl, framesL_cons, framesL_one, List.length_append, frameL_len, frameL_len, ZL.out]; simp only [List.length_cons, List.length_nil]; omega) OKN
        rw [show bytesS [(⟨some ⟨w9.heap.size, 0, none⟩, 1, 1, [1]⟩ : SlB), ⟨some ⟨g7, 0, none⟩, 8192 + mo, 8192 + mo, zs⟩] = [[1], zs] from rfl] at C11
        have CE : ckE 1048576 [[1], zs] = 3 := by
          unfold ckE
          rw [if_neg OKN]
        rw [CE, show ckL 1048576 l [[1], zs] = l from by unfold ckL; rw [if_neg (by rw [CE]; decide)], show ckR 1048576 (bytesS S9) [[1], zs] = bytesS S9 from by unfold ckR; rw [if_neg (by rw [CE]; decide)], E9.out, show ckY 1048576 Y [[1], zs] = Y from by unfold ckY; rw [if_neg (by rw [CE]; decide)]] at C11
        clear CE OKN
        have H11 := Lib.hid C11
        clear C11
        go_wp2_with fail
        refine H11.out.mono ?_
        rintro e w11 ⟨rfl, dv11, v11, S11, g11, e11, kp11, n11⟩
        clear H11
        have G11 := Lib.hid (G10.out.next g11 kp11 n11)
        have O511 := Lib.hid (own_kp O510.out kp11 X59.out)
        have O611 := Lib.hid (ownl_kp O610.out kp11 X69.out)
        have E11 := Lib.hid e11
        clear g11 e11 kp11 n11
        go_wp2_with fail
        refine (FI.out w11 G11.out.at_).mono ?_
        rintro e w12 ⟨rfl, b12⟩
        have G12 := Lib.hid (G11.out.below b12)
        have O512 := Lib.hid (O511.out.on b12)
        have O612 := Lib.hid (O611.out.on b12)
        clear b12
        have C13 := bytes_is w12 q 1048576 Y l dv11 G12.out.g.d (by rw [HL.out]; omega)
        go_wp2_with fail
        refine C13.mono ?_
        rintro e w13 ⟨u13, rfl, o13, b13⟩
        obtain ⟨A13, c13, rfl, a13, -, -⟩ := own_atN o13 HL.out
        have G13 := Lib.hid (G12.out.below b13)
        have O613 := Lib.hid (O612.out.on b13)
        obtain ⟨A', c', x', a', -, -⟩ := own_atN (O512.out.on b13) HL.out
        injection x' with x1 x2 x3
        subst x1; subst x3
        have C14 := Fr.bytes_is w13 A13 A5 L c13 L c5 l l a13 a'
        rw [show decide (l = l) = true from decide_eq_true rfl] at C14
        clear C13 o13 a13 b13 a' x2
        go_wp2_with fail
        refine C14.mono ?_
        rintro e w14 ⟨rfl, rfl⟩
        clear C14
        have C15 := recs_is w14 p q _ _ _ dv11 v11 S11 G13.out.g (by rw [← bytesS_len, E11.out, HNR.out]; omega) (fun x hx => by rw [E11.out] at hx; have := KG.out.ok x hx; omega)
        go_wp2_with fail
        refine C15.mono ?_
        rintro e w15 ⟨u15, S15, rfl, o15, e15, b15⟩
        have h15 : S15.length = nr := by rw [← bytesS_len, e15, E11.out, HNR.out]
        obtain ⟨A15, c15, rfl, a15, -, -⟩ := ownl_at o15 h15
        have G15 := Lib.hid (G13.out.below b15)
        obtain ⟨A', c', x', a', -, -⟩ := ownl_at (O613.out.on b15) H6.out
        injection x' with x1 x2 x3
        subst x1; subst x3
        have C16 := lists_is w15 A15 A6 nr c15 nr c6 S15 S6 a15 a' (by omega) (by omega)
        rw [show decide (bytesS S15 = bytesS S6) = true from decide_eq_true (by rw [e15, E11.out, E6.out])] at C16
        clear C15 o15 a15 b15 h15 e15 a' x2
        go_wp2_with fail
        refine C16.mono ?_
        rintro e w16 ⟨rfl, b16⟩
        have F := Lib.hid (G15.out.below b16).at_
        clear C16 b16
        go_wp2
        go_ret
        exact ⟨rfl, F.out⟩
end Go.Proofs.YtniphbfoppocfaaDoor.Wl
