/- The walk of voklaw12.BoxPlays. -/
import Derived.Test.YthonmfoajjhkdaaBxRf
import Derived.Test.YthonmfoajjhkdaaIvTkA
set_option linter.unusedVariables false
namespace Go.Proofs.Ythonmfoajjhkdaa.Bx
open Go.RowKit Iv

/-- the box and the reference's -/
structure Duo (W w : World) (p c r n : Nat) (l L : List Int) : Prop where
  o : One W w p c n l
  f : Ref W w r n L
section
variable {W w w' : World} {p c r n : Nat} {l L : List Int}
theorem Duo.below (h : Duo W w p c r n l L) (b : Below w.heap.size w w') : Duo W w' p c r n l L := ⟨h.o.below b, h.f.below b⟩
theorem Duo.put (h : Duo W w p c r n l L) (x : Int) : Calls Try.prog 11 #[.pointer (some ⟨p, 0, none⟩), .int .i64 x] w fun e w' => e = .returned (.int .i64 (putE n l)) ∧ Duo W w' p c r n (putL n l x) L := by
  refine (put_is w p c n l x h.o.is).mono ?_
  rintro e w' ⟨he, i, t⟩
  exact ⟨he, h.o.turn i t, h.f.turn h.o.is t⟩
theorem Duo.take (h : Duo W w p c r n l L) : Calls Try.prog 13 #[.pointer (some ⟨p, 0, none⟩)] w fun e w' => e = .returned (.tuple #[.int .i64 (headL l), .bool (someB l)]) ∧ Duo W w' p c r n l.tail L := by
  refine (take_is w p c n l h.o.is).mono ?_
  rintro e w' ⟨he, i, t⟩
  exact ⟨he, h.o.turn i t, h.f.turn h.o.is t⟩
theorem Duo.list (h : Duo W w p c r n l L) : Calls Try.prog 17 #[.pointer (some ⟨p, 0, none⟩)] w fun e w' => ∃ A k, e = .returned (.slice A l.length k) ∧ IsAt w' A l.length l ∧ Duo W w' p c r n l L ∧ Kp (· = c) w w' := by
  refine (list_new h.o.is).mono ?_
  rintro e w' ⟨A, k, he, q, i, t⟩
  exact ⟨A, k, he, q.at_, ⟨h.o.turn i t, h.f.turn h.o.is t⟩, t⟩
theorem Duo.len (h : Duo W w p c r n l L) : Calls Try.prog 18 #[.pointer (some ⟨p, 0, none⟩)] w fun e w' => e = .returned (.int .i64 (l.length : Nat)) ∧ w = w' := blen_is w p c n l h.o.is
theorem Duo.rput (h : Duo W w p c r n l L) (x : Int) (hl : L.length ≤ n) : Calls Try.prog 12 #[.pointer (some ⟨r, 0, none⟩), .int .i64 x] w fun e w' => e = .returned (.int .i64 (putE n L)) ∧ Duo W w' p c r n l (putL n L x) := by
  refine (rput_is w r n L x h.f h.o.is.n2 hl h.o.at_).mono ?_
  rintro e w' ⟨he, i, t, q⟩
  exact ⟨he, ⟨q _ _ _ _ h.o.is, h.o.ps, h.o.cs, t⟩, i⟩
theorem Duo.rtake (h : Duo W w p c r n l L) (hl : L.length ≤ n) : Calls Try.prog 14 #[.pointer (some ⟨r, 0, none⟩)] w fun e w' => e = .returned (.tuple #[.int .i64 (headL L), .bool (someB L)]) ∧ Duo W w' p c r n l L.tail := by
  refine (rtake_is w r n L h.f h.o.is.n2 hl h.o.at_).mono ?_
  rintro e w' ⟨he, i, t, q⟩
  exact ⟨he, ⟨q _ _ _ _ h.o.is, h.o.ps, h.o.cs, t⟩, i⟩
theorem Duo.first (h : Duo W w p c r n l L) : Calls Try.prog 9 #[] w fun e w' => e = .returned (.bool true) ∧ Duo W w' p c r n l L := by
  refine (first12 w).mono ?_
  rintro e w' ⟨he, b⟩
  exact ⟨he, h.below b⟩
/-- .. and the copy -/
structure Trio (W w : World) (p c q d r n : Nat) (l k L : List Int) : Prop where
  t : Two W w p c n l q d n k
  f : Ref W w r n L
theorem Duo.copy (h : Duo W w p c r n l L) : Calls Try.prog 15 #[.pointer (some ⟨p, 0, none⟩)] w fun e w' => ∃ q d, e = .returned (.pointer (some ⟨q, 0, none⟩)) ∧ Trio W w' p c q d r n l l L := by
  refine (copy_is w p c n l h.o.is).mono ?_
  rintro e w' ⟨q, d, he, h1, h2, i, j, t⟩
  have sz := h.o.at_.size
  have cl := h.o.is.cl
  exact ⟨q, d, he, ⟨h.o.turn j t, ⟨i, Nat.le_trans sz h1, Nat.le_trans sz h2, (h.o.turn j t).at_⟩, by omega⟩, h.f.turn h.o.is t⟩
theorem Trio.put {q d : Nat} {k : List Int} (h : Trio W w p c q d r n l k L) (x : Int) : Calls Try.prog 11 #[.pointer (some ⟨p, 0, none⟩), .int .i64 x] w fun e w' => e = .returned (.int .i64 (putE n l)) ∧ Trio W w' p c q d r n (putL n l x) k L := by
  refine (h.t.put x).mono ?_
  rintro e w' ⟨he, i, t⟩
  exact ⟨he, i, h.f.turn h.t.a.is t⟩
theorem Trio.take {q d : Nat} {k : List Int} (h : Trio W w p c q d r n l k L) : Calls Try.prog 13 #[.pointer (some ⟨p, 0, none⟩)] w fun e w' => e = .returned (.tuple #[.int .i64 (headL l), .bool (someB l)]) ∧ Trio W w' p c q d r n l.tail k L := by
  refine h.t.take.mono ?_
  rintro e w' ⟨he, i, t⟩
  exact ⟨he, i, h.f.turn h.t.a.is t⟩
end
theorem duo_new {W w : World} {p c n : Nat} {l : List Int} (h : One W w p c n l) : Duo W (w.alloc (.cells #[.int .i64 n, .slice none 0 0] 31)) p c w.heap.size n l [] := by
  refine ⟨h.below (below_alloc _ _), _, ⟨?_, World.ownsRow_nil _ _ _ _, h.at_.size⟩⟩
  exact Array.getElem?_push_size
set_option maxRecDepth 100000 in
set_option maxHeartbeats 16000000 in
theorem bplays_walk (w : World) (a0 : Int) (A : Option Addr) (k cp : Nat) (ops : List (Int × Int)) (hA : SpAt w A k ops) (hk : k ≤ 9223372036854775807) :
    Calls Try.prog 3 #[.int .i64 a0, .slice A k cp] w fun e w' => e = .returned (.bool true) ∧ Below w.heap.size w w' := by
  have HA := Lib.hid hA
  have LK := Lib.hid hA.1
  clear hA
  go_enter Try.func3, Try.ntmps3
  go_wp2_with fail
  refine (first12 w).mono ?_
  rintro e w0 ⟨rfl, b0⟩
  have B0 := Lib.hid b0
  clear b0
  by_cases h1 : a0 < 1
  · have hs : ¬ (1 ≤ a0 ∧ a0 ≤ 1000) := by omega
    have s1 : decide (a0 < 1) = true := decide_eq_true h1
    (go_wp2_with fail
     refine (new_no w0 a0 hs).mono ?_
     rintro e w1 ⟨rfl, rfl⟩
     go_wp2_with fail
     refine (first12 w0).mono ?_
     rintro e w1 ⟨rfl, b1⟩
     have B1 := Lib.hid (B0.out.trans (b1.mono B0.out.size))
     clear b1
     go_wp2
     go_ret
     exact ⟨rfl, B1.out⟩)
  have s1 : decide (a0 < 1) = false := decide_eq_false h1
  by_cases h2 : 1000 < a0
  · have hs : ¬ (1 ≤ a0 ∧ a0 ≤ 1000) := by omega
    have s2 : decide (1000 < a0) = true := decide_eq_true h2
    (go_wp2_with fail
     refine (new_no w0 a0 hs).mono ?_
     rintro e w1 ⟨rfl, rfl⟩
     go_wp2_with fail
     refine (first12 w0).mono ?_
     rintro e w1 ⟨rfl, b1⟩
     have B1 := Lib.hid (B0.out.trans (b1.mono B0.out.size))
     clear b1
     go_wp2
     go_ret
     exact ⟨rfl, B1.out⟩)
  obtain ⟨n, rfl⟩ : ∃ n : Nat, a0 = n := ⟨a0.toNat, by omega⟩
  have n1 : 1 ≤ n := by omega
  have n2 : n ≤ 1000 := by omega
  have s2 : decide ((1000 : Int) < n) = false := decide_eq_false h2
  have s22 : decide (1000 < n) = false := decide_eq_false (by omega)
  clear h1 h2
  go_wp2_with fail
  refine (one_new B0.out n n1 n2).mono ?_
  rintro e w1 ⟨p, c, rfl, q1⟩
  have O1 := Lib.hid q1
  clear q1 B0
  by_cases hb : 300 < k
  · have s3 : decide (300 < k) = true := decide_eq_true hb
    have s4 : decide ((300 : Int) < k) = true := decide_eq_true (by omega)
    go_wp2_with fail
    refine O1.out.first.mono ?_
    rintro e w2 ⟨rfl, q2⟩
    have B2 := Lib.hid q2.at_
    clear q2
    go_wp2
    go_ret
    exact ⟨rfl, B2.out⟩
  have k2 : k ≤ 300 := by omega
  have s3 : decide (300 < k) = false := decide_eq_false (by omega)
  have s4 : decide ((300 : Int) < k) = false := decide_eq_false (by omega)
  have D1 := Lib.hid (duo_new O1.out)
  clear hb hk O1
  go_upto_region 9 with fail
  clear s1 s2 s22 s3 s4
  obtain ⟨w2, hw2⟩ : ∃ w2 : World, w2 = w1.alloc (.cells #[.int .i64 n, .slice none 0 0] 31) := ⟨_, rfl⟩
  rw [← hw2] at D1 ⊢
  clear hw2
  generalize w1.heap.size = r at *
  go_wp2_with fail
  go_loopw [5, 8] (fun bv i wr => ∃ (t p c : Nat) (L : List Int), bv = .pointer (some ⟨p, 0, none⟩) ∧ i = .int .i64 t ∧ t ≤ k ∧ Duo w wr p c r n L L) (fun _ i _ => k - (intOf i).toNat)
  case atStart => exact ⟨0, p, c, [], rfl, rfl, Nat.zero_le _, D1.out⟩
  case round =>
    obtain ⟨wo, rfl⟩ : ∃ wo : World, wo = wr := ⟨_, rfl⟩
    clear D1
    obtain ⟨t, p, c, L, rfl, rfl, ht, hD⟩ := hrel
    have DO := Lib.hid hD
    clear hD
    by_cases hlt : t < k
    · have s0 : decide ((t : Int) < k) = true := decide_eq_true (by omega)
      have s00 : decide (t < k) = true := decide_eq_true hlt
      have i5 : (t : Int) < k := by omega
      have W1 : IntKind.i64.wrap ((t : Int) + 1) = (t : Int) + 1 := IntWalk.i64_in _ (by omega)
      obtain ⟨bq, oq, rfl, hlq, hcq⟩ := HA.out.2 (by omega)
      have Z := Lib.hid (show ∀ v, Below w.heap.size w v → v.cell? ⟨bq, oq + t * 2, none⟩ = some (.int .i64 (gt ops t).1) ∧ v.cell? ⟨bq, oq + t * 2 + 1, none⟩ = some (.int .i64 (gt ops t).2) from fun v hv =>
        ⟨(hv.cell (p := ⟨bq, _, none⟩) hlq).trans (hcq t hlt).1, (hv.cell (p := ⟨bq, _, none⟩) hlq).trans (hcq t hlt).2⟩)
      clear hcq
      generalize (gt ops t).1 = kd at *
      generalize (gt ops t).2 = va at *
      obtain ⟨d0, d1⟩ := Z.out wo DO.out.o.at_
      have LB := Lib.hid DO.out.o.is.len
      by_cases h0 : kd = 0
      · have e0 : ((kd : Int) == 0) = true := by rw [beq_iff_eq]; exact h0
        go_upto_region 21 with fail
        refine wp_region_late (fun _ => false) (fun v => Below w.heap.size w v) (by kernel_rfl) ?_
        have E0 : Duo w wo.drew p c r n L L := DO.out.below (Below.refl _ _).drew
        have S0 := E0.o.at_
        refine tk 0 rfl (.pointer (some ⟨p, 0, none⟩)) (.inl ⟨by kernel_rfl, fun w' hs => ?_⟩) S0 ?_
        · go_simp
        refine tk 1 rfl (.slice (some ⟨bq, oq, none⟩) k cp) (.inl ⟨by kernel_rfl, fun w' hs => ?_⟩) S0 ?_
        · go_simp
        refine tk 2 rfl (.int .i64 (t : Nat)) (.inl ⟨by kernel_rfl, fun w' hs => ?_⟩) S0 ?_
        · go_simp
        refine tk 3 rfl (.pointer (some ⟨bq, oq + t * 2, none⟩)) (.inl ⟨by kernel_rfl, fun w' hs => ?_⟩) S0 ?_
        · go_simp
        refine tk 4 rfl (.pointer (some ⟨bq, oq + t * 2 + 1, none⟩)) (.inl ⟨by kernel_rfl, fun w' hs => ?_⟩) S0 ?_
        · go_simp
        refine tk 5 rfl (.int .i64 va) (.inl ⟨by kernel_rfl, fun w' hs => ?_⟩) S0 ?_
        · obtain ⟨z0, z1⟩ := Z.out _ hs
          go_simp
        refine tk 7 rfl (.pointer (some ⟨r, 0, none⟩)) (.inl ⟨by kernel_rfl, fun w' hs => ?_⟩) S0 ?_
        · go_simp
        refine tk 8 rfl (.slice (some ⟨bq, oq, none⟩) k cp) (.inl ⟨by kernel_rfl, fun w' hs => ?_⟩) S0 ?_
        · go_simp
        refine tk 9 rfl (.int .i64 (t : Nat)) (.inl ⟨by kernel_rfl, fun w' hs => ?_⟩) S0 ?_
        · go_simp
        refine tk 10 rfl (.pointer (some ⟨bq, oq + t * 2, none⟩)) (.inl ⟨by kernel_rfl, fun w' hs => ?_⟩) S0 ?_
        · go_simp
        refine tk 11 rfl (.pointer (some ⟨bq, oq + t * 2 + 1, none⟩)) (.inl ⟨by kernel_rfl, fun w' hs => ?_⟩) S0 ?_
        · go_simp
        refine tk 12 rfl (.int .i64 va) (.inl ⟨by kernel_rfl, fun w' hs => ?_⟩) S0 ?_
        · obtain ⟨z0, z1⟩ := Z.out _ hs
          go_simp
        refine late_oneG 6 rfl (by kernel_rfl) (by kernel_rfl) ?_
        go_simp
        refine (E0.put va).mono ?_
        rintro e w3 ⟨rfl, E3⟩
        have S3 := E3.o.at_
        (first | refine ⟨S3, ?_⟩ | refine ⟨.inr S3, ?_⟩)
        refine late_oneG 13 rfl (by kernel_rfl) (by kernel_rfl) ?_
        go_simp
        refine (E3.rput va LB.out).mono ?_
        rintro e w4 ⟨rfl, E4⟩
        have S4 := E4.o.at_
        (first | refine ⟨S4, ?_⟩ | refine ⟨.inr S4, ?_⟩)
        generalize putE n L = pe at *
        refine tk 14 rfl (.bool true) (.inl ⟨by kernel_rfl, fun w' hs => ?_⟩) S4 ?_
        · go_simp
        refine tk 15 rfl (.bool true) (.inl ⟨by kernel_rfl, fun w' hs => ?_⟩) S4 ?_
        · go_simp
        refine Late.done (by kernel_rfl) ?_
        obtain ⟨y, hy⟩ : ∃ y, y = putL n L va := ⟨_, rfl⟩
        rw [← hy] at E4
        have D2 := Lib.hid E4
        obtain ⟨wq, hwq⟩ : ∃ wq : World, wq = w4 := ⟨_, rfl⟩
        subst hwq
        clear E0 S0 E3 S3 S4 E4 d0 d1 DO Z LB hy
        (have LB := Lib.hid (D2.out.o.is.len)
         have N2 := Lib.hid (D2.out.o.is.n2)
         obtain ⟨v, FV⟩ := D2.out.f
         have VV := Lib.hid FV
         obtain ⟨AR, cR, rfl, hcR, hIR, -, -⟩ := FV.own.form
         have RI := Lib.hid hIR
         have cr := FV.c1
         have rl := FV.lt
         have NC := Lib.hid (D2.out.o.is.off FV.blk)
         clear FV hIR hcR
         have RB := Lib.hid (show ∀ v' m, Kp (· = c) wq v' → Duo w v' p c r n y y → Below v'.heap.size v' m → m.cell? ⟨r, 1, none⟩ = some (.slice AR (y).length cR) from fun v' m k _ b => (b.cell (p := ⟨r, 1, none⟩) (Nat.lt_of_lt_of_le rl k.size)).trans ((k.cell rl NC.out).trans cr))
         go_upto_region 26 with fail
         refine wp_region_late (fun _ => false) (fun v => v.cell? ⟨r, 1, none⟩ = some (.slice AR (y).length cR)) (by kernel_rfl) ?_
         have E0 : Duo w wq.drew p c r n y y := D2.out.below (Below.refl _ _).drew
         have S0 : wq.drew.cell? ⟨r, 1, none⟩ = some (.slice AR (y).length cR) := ((Below.refl wq.heap.size wq).drew.cell (p := ⟨r, 1, none⟩) rl).trans cr
         have I0 : IsAt wq.drew AR (y).length y := RI.out.below (Below.refl _ _).drew
         clear cr RB
         refine tk 0 rfl (.bool true) (.inl ⟨by kernel_rfl, fun w' hs => ?_⟩) S0 ?_
         · go_simp
         refine tk 1 rfl (.bool false) (.inl ⟨by kernel_rfl, fun w' hs => ?_⟩) S0 ?_
         · go_simp
         refine tk 2 rfl (.bool false) (.inl ⟨by kernel_rfl, fun w' hs => ?_⟩) S0 ?_
         · go_simp
         refine tk 3 rfl (.pointer (some ⟨p, 0, none⟩)) (.inl ⟨by kernel_rfl, fun w' hs => ?_⟩) S0 ?_
         · go_simp
         refine tk 5 rfl (.pointer (some ⟨r, 0, none⟩)) (.inl ⟨by kernel_rfl, fun w' hs => ?_⟩) S0 ?_
         · go_simp
         refine tk 6 rfl (.pointer (some ⟨r, 0, none⟩)) (.inl ⟨by kernel_rfl, fun w' hs => ?_⟩) S0 ?_
         · go_simp
         refine tk 7 rfl (.pointer (some ⟨r, 1, none⟩)) (.inl ⟨by kernel_rfl, fun w' hs => ?_⟩) S0 ?_
         · go_simp
         refine tk 8 rfl (.slice AR (y).length cR) (.inl ⟨by kernel_rfl, fun w' hs => ?_⟩) S0 ?_
         · go_simp
         refine late_oneG 4 rfl (by kernel_rfl) (by kernel_rfl) ?_
         go_simp
         refine E0.list.mono ?_
         rintro e w5 ⟨A5, n5, rfl, s5, E5, k5⟩
         have I5 : IsAt w5 AR (y).length y := E0.o.is.ints k5 I0
         have S5 : w5.cell? ⟨r, 1, none⟩ = some (.slice AR (y).length cR) := (k5.cell (Nat.lt_of_lt_of_le rl (Below.refl wq.heap.size wq).drew.size) NC.out).trans S0
         have r5 : r < w5.heap.size := Nat.lt_of_lt_of_le (Nat.lt_of_lt_of_le rl (Below.refl wq.heap.size wq).drew.size) k5.size
         (first | refine ⟨S5, ?_⟩ | refine ⟨.inr S5, ?_⟩)
         refine late_oneG 9 rfl (by kernel_rfl) (by kernel_rfl) ?_
         go_simp
         refine (ints_same _ A5 AR _ n5 cR y s5 I5 (by have := LB.out; have := N2.out; omega)).mono ?_
         rintro e w6 ⟨rfl, b6⟩
         have E6 := E5.below b6
         have S6 : w6.cell? ⟨r, 1, none⟩ = some (.slice AR (y).length cR) := (b6.cell (p := ⟨r, 1, none⟩) r5).trans S5
         (first | refine ⟨S6, ?_⟩ | refine ⟨.inr S6, ?_⟩)
         clear s5 k5 b6 E0 E5 S0 S5 I0 I5 r5
         refine tk 10 rfl (.bool false) (.inl ⟨by kernel_rfl, fun w' hs => ?_⟩) S6 ?_
         · go_simp
         refine tk 11 rfl (.bool false) (.inl ⟨by kernel_rfl, fun w' hs => ?_⟩) S6 ?_
         · go_simp
         refine tk 12 rfl (.bool false) (.inl ⟨by kernel_rfl, fun w' hs => ?_⟩) S6 ?_
         · go_simp
         refine tk 13 rfl (.pointer (some ⟨p, 0, none⟩)) (.inl ⟨by kernel_rfl, fun w' hs => ?_⟩) S6 ?_
         · go_simp
         refine tk 15 rfl (.pointer (some ⟨r, 0, none⟩)) (.inl ⟨by kernel_rfl, fun w' hs => ?_⟩) S6 ?_
         · go_simp
         refine tk 16 rfl (.pointer (some ⟨r, 0, none⟩)) (.inl ⟨by kernel_rfl, fun w' hs => ?_⟩) S6 ?_
         · go_simp
         refine tk 17 rfl (.pointer (some ⟨r, 1, none⟩)) (.inl ⟨by kernel_rfl, fun w' hs => ?_⟩) S6 ?_
         · go_simp
         refine tk 18 rfl (.slice AR (y).length cR) (.inl ⟨by kernel_rfl, fun w' hs => ?_⟩) S6 ?_
         · go_simp
         refine tk 19 rfl (.int .i64 ((y).length : Nat)) (.inl ⟨by kernel_rfl, fun w' hs => ?_⟩) S6 ?_
         · go_simp
         refine late_oneG 14 rfl (by kernel_rfl) (by kernel_rfl) ?_
         go_simp
         refine E6.len.mono ?_
         rintro e w7 ⟨rfl, rfl⟩
         (first | refine ⟨S6, ?_⟩ | refine ⟨.inr S6, ?_⟩)
         refine tk 20 rfl (.bool false) (.inl ⟨by kernel_rfl, fun w' hs => ?_⟩) S6 ?_
         · go_simp
         refine tk 21 rfl (.bool false) (.inl ⟨by kernel_rfl, fun w' hs => ?_⟩) S6 ?_
         · go_simp
         refine Late.done (by kernel_rfl) ?_
         have DX := Lib.hid E6
         clear E6 S6 RI VV NC D2
         go_wp2
         go_roundw
         case rel => exact ⟨t + 1, p, c, y, rfl, by go_num, by omega, DX.out⟩
         case measure => simp [intOf]; omega)
      · have e0 : ((kd : Int) == 0) = false := by rw [beq_eq_false_iff_ne]; exact h0
        by_cases h1 : kd = 1
        · have e1 : ((kd : Int) == 1) = true := by rw [beq_iff_eq]; exact h1
          clear d1 Z
          go_wp2_with fail
          refine DO.out.take.mono ?_
          rintro e w3 ⟨rfl, E3⟩
          have D3 := Lib.hid E3
          clear E3 DO d0
          go_wp2_with fail
          refine (D3.out.rtake LB.out).mono ?_
          rintro e w4 ⟨rfl, E4⟩
          obtain ⟨y, hy⟩ : ∃ y, y = L.tail := ⟨_, rfl⟩
          rw [← hy] at E4
          have D2 := Lib.hid E4
          obtain ⟨wq, hwq⟩ : ∃ wq : World, wq = w4 := ⟨_, rfl⟩
          subst hwq
          clear E4 D3 LB hy
          generalize headL L = hx at *
          generalize someB L = hb at *
          (have LB := Lib.hid (D2.out.o.is.len)
           have N2 := Lib.hid (D2.out.o.is.n2)
           obtain ⟨v, FV⟩ := D2.out.f
           have VV := Lib.hid FV
           obtain ⟨AR, cR, rfl, hcR, hIR, -, -⟩ := FV.own.form
           have RI := Lib.hid hIR
           have cr := FV.c1
           have rl := FV.lt
           have NC := Lib.hid (D2.out.o.is.off FV.blk)
           clear FV hIR hcR
           have RB := Lib.hid (show ∀ v' m, Kp (· = c) wq v' → Duo w v' p c r n y y → Below v'.heap.size v' m → m.cell? ⟨r, 1, none⟩ = some (.slice AR (y).length cR) from fun v' m k _ b => (b.cell (p := ⟨r, 1, none⟩) (Nat.lt_of_lt_of_le rl k.size)).trans ((k.cell rl NC.out).trans cr))
           go_upto_region 26 with fail
           refine wp_region_late (fun _ => false) (fun v => v.cell? ⟨r, 1, none⟩ = some (.slice AR (y).length cR)) (by kernel_rfl) ?_
           have E0 : Duo w wq.drew p c r n y y := D2.out.below (Below.refl _ _).drew
           have S0 : wq.drew.cell? ⟨r, 1, none⟩ = some (.slice AR (y).length cR) := ((Below.refl wq.heap.size wq).drew.cell (p := ⟨r, 1, none⟩) rl).trans cr
           have I0 : IsAt wq.drew AR (y).length y := RI.out.below (Below.refl _ _).drew
           clear cr RB
           refine tk 0 rfl (.bool true) (.inl ⟨by kernel_rfl, fun w' hs => ?_⟩) S0 ?_
           · go_simp
           refine tk 1 rfl (.bool false) (.inl ⟨by kernel_rfl, fun w' hs => ?_⟩) S0 ?_
           · go_simp
           refine tk 2 rfl (.bool false) (.inl ⟨by kernel_rfl, fun w' hs => ?_⟩) S0 ?_
           · go_simp
           refine tk 3 rfl (.pointer (some ⟨p, 0, none⟩)) (.inl ⟨by kernel_rfl, fun w' hs => ?_⟩) S0 ?_
           · go_simp
           refine tk 5 rfl (.pointer (some ⟨r, 0, none⟩)) (.inl ⟨by kernel_rfl, fun w' hs => ?_⟩) S0 ?_
           · go_simp
           refine tk 6 rfl (.pointer (some ⟨r, 0, none⟩)) (.inl ⟨by kernel_rfl, fun w' hs => ?_⟩) S0 ?_
           · go_simp
           refine tk 7 rfl (.pointer (some ⟨r, 1, none⟩)) (.inl ⟨by kernel_rfl, fun w' hs => ?_⟩) S0 ?_
           · go_simp
           refine tk 8 rfl (.slice AR (y).length cR) (.inl ⟨by kernel_rfl, fun w' hs => ?_⟩) S0 ?_
           · go_simp
           refine late_oneG 4 rfl (by kernel_rfl) (by kernel_rfl) ?_
           go_simp
           refine E0.list.mono ?_
           rintro e w5 ⟨A5, n5, rfl, s5, E5, k5⟩
           have I5 : IsAt w5 AR (y).length y := E0.o.is.ints k5 I0
           have S5 : w5.cell? ⟨r, 1, none⟩ = some (.slice AR (y).length cR) := (k5.cell (Nat.lt_of_lt_of_le rl (Below.refl wq.heap.size wq).drew.size) NC.out).trans S0
           have r5 : r < w5.heap.size := Nat.lt_of_lt_of_le (Nat.lt_of_lt_of_le rl (Below.refl wq.heap.size wq).drew.size) k5.size
           (first | refine ⟨S5, ?_⟩ | refine ⟨.inr S5, ?_⟩)
           refine late_oneG 9 rfl (by kernel_rfl) (by kernel_rfl) ?_
           go_simp
           refine (ints_same _ A5 AR _ n5 cR y s5 I5 (by have := LB.out; have := N2.out; omega)).mono ?_
           rintro e w6 ⟨rfl, b6⟩
           have E6 := E5.below b6
           have S6 : w6.cell? ⟨r, 1, none⟩ = some (.slice AR (y).length cR) := (b6.cell (p := ⟨r, 1, none⟩) r5).trans S5
           (first | refine ⟨S6, ?_⟩ | refine ⟨.inr S6, ?_⟩)
           clear s5 k5 b6 E0 E5 S0 S5 I0 I5 r5
           refine tk 10 rfl (.bool false) (.inl ⟨by kernel_rfl, fun w' hs => ?_⟩) S6 ?_
           · go_simp
           refine tk 11 rfl (.bool false) (.inl ⟨by kernel_rfl, fun w' hs => ?_⟩) S6 ?_
           · go_simp
           refine tk 12 rfl (.bool false) (.inl ⟨by kernel_rfl, fun w' hs => ?_⟩) S6 ?_
           · go_simp
           refine tk 13 rfl (.pointer (some ⟨p, 0, none⟩)) (.inl ⟨by kernel_rfl, fun w' hs => ?_⟩) S6 ?_
           · go_simp
           refine tk 15 rfl (.pointer (some ⟨r, 0, none⟩)) (.inl ⟨by kernel_rfl, fun w' hs => ?_⟩) S6 ?_
           · go_simp
           refine tk 16 rfl (.pointer (some ⟨r, 0, none⟩)) (.inl ⟨by kernel_rfl, fun w' hs => ?_⟩) S6 ?_
           · go_simp
           refine tk 17 rfl (.pointer (some ⟨r, 1, none⟩)) (.inl ⟨by kernel_rfl, fun w' hs => ?_⟩) S6 ?_
           · go_simp
           refine tk 18 rfl (.slice AR (y).length cR) (.inl ⟨by kernel_rfl, fun w' hs => ?_⟩) S6 ?_
           · go_simp
           refine tk 19 rfl (.int .i64 ((y).length : Nat)) (.inl ⟨by kernel_rfl, fun w' hs => ?_⟩) S6 ?_
           · go_simp
           refine late_oneG 14 rfl (by kernel_rfl) (by kernel_rfl) ?_
           go_simp
           refine E6.len.mono ?_
           rintro e w7 ⟨rfl, rfl⟩
           (first | refine ⟨S6, ?_⟩ | refine ⟨.inr S6, ?_⟩)
           refine tk 20 rfl (.bool false) (.inl ⟨by kernel_rfl, fun w' hs => ?_⟩) S6 ?_
           · go_simp
           refine tk 21 rfl (.bool false) (.inl ⟨by kernel_rfl, fun w' hs => ?_⟩) S6 ?_
           · go_simp
           refine Late.done (by kernel_rfl) ?_
           have DX := Lib.hid E6
           clear E6 S6 RI VV NC D2
           go_wp2
           go_roundw
           case rel => exact ⟨t + 1, p, c, y, rfl, by go_num, by omega, DX.out⟩
           case measure => simp [intOf]; omega)
        · have e1 : ((kd : Int) == 1) = false := by rw [beq_eq_false_iff_ne]; exact h1
          clear d1 Z
          go_wp2_with fail
          refine DO.out.copy.mono ?_
          rintro e w3 ⟨q, d, rfl, E3⟩
          have D3 := Lib.hid E3
          clear E3 DO d0
          go_wp2_with fail
          refine (D3.out.put 99).mono ?_
          rintro e w4 ⟨rfl, E4⟩
          have D4 := Lib.hid E4
          clear E4 D3
          generalize putL n L 99 = m1 at *
          generalize putE n L = pe at *
          go_wp2_with fail
          refine D4.out.take.mono ?_
          rintro e w5 ⟨rfl, E5⟩
          have D5 := Lib.hid E5
          clear E5 D4
          generalize headL m1 = hx1 at *
          generalize someB m1 = hb1 at *
          generalize m1.tail = m2 at *
          go_wp2_with fail
          refine D5.out.take.mono ?_
          rintro e w6 ⟨rfl, E6⟩
          have D2 := Lib.hid (show Duo w w6 q d r n L L from ⟨E6.t.b, E6.f⟩)
          clear E6 D5
          generalize headL m2 = hx2 at *
          generalize someB m2 = hb2 at *
          obtain ⟨wq, hwq⟩ : ∃ wq : World, wq = w6 := ⟨_, rfl⟩
          subst hwq
          (have LB := Lib.hid (D2.out.o.is.len)
           have N2 := Lib.hid (D2.out.o.is.n2)
           obtain ⟨v, FV⟩ := D2.out.f
           have VV := Lib.hid FV
           obtain ⟨AR, cR, rfl, hcR, hIR, -, -⟩ := FV.own.form
           have RI := Lib.hid hIR
           have cr := FV.c1
           have rl := FV.lt
           have NC := Lib.hid (D2.out.o.is.off FV.blk)
           clear FV hIR hcR
           have RB := Lib.hid (show ∀ v' m, Kp (· = d) wq v' → Duo w v' q d r n L L → Below v'.heap.size v' m → m.cell? ⟨r, 1, none⟩ = some (.slice AR (L).length cR) from fun v' m k _ b => (b.cell (p := ⟨r, 1, none⟩) (Nat.lt_of_lt_of_le rl k.size)).trans ((k.cell rl NC.out).trans cr))
           go_upto_region 26 with fail
           refine wp_region_late (fun _ => false) (fun v => v.cell? ⟨r, 1, none⟩ = some (.slice AR (L).length cR)) (by kernel_rfl) ?_
           have E0 : Duo w wq.drew q d r n L L := D2.out.below (Below.refl _ _).drew
           have S0 : wq.drew.cell? ⟨r, 1, none⟩ = some (.slice AR (L).length cR) := ((Below.refl wq.heap.size wq).drew.cell (p := ⟨r, 1, none⟩) rl).trans cr
           have I0 : IsAt wq.drew AR (L).length L := RI.out.below (Below.refl _ _).drew
           clear cr RB
           refine tk 0 rfl (.bool true) (.inl ⟨by kernel_rfl, fun w' hs => ?_⟩) S0 ?_
           · go_simp
           refine tk 1 rfl (.bool false) (.inl ⟨by kernel_rfl, fun w' hs => ?_⟩) S0 ?_
           · go_simp
           refine tk 2 rfl (.bool false) (.inl ⟨by kernel_rfl, fun w' hs => ?_⟩) S0 ?_
           · go_simp
           refine tk 3 rfl (.pointer (some ⟨q, 0, none⟩)) (.inl ⟨by kernel_rfl, fun w' hs => ?_⟩) S0 ?_
           · go_simp
           refine tk 5 rfl (.pointer (some ⟨r, 0, none⟩)) (.inl ⟨by kernel_rfl, fun w' hs => ?_⟩) S0 ?_
           · go_simp
           refine tk 6 rfl (.pointer (some ⟨r, 0, none⟩)) (.inl ⟨by kernel_rfl, fun w' hs => ?_⟩) S0 ?_
           · go_simp
           refine tk 7 rfl (.pointer (some ⟨r, 1, none⟩)) (.inl ⟨by kernel_rfl, fun w' hs => ?_⟩) S0 ?_
           · go_simp
           refine tk 8 rfl (.slice AR (L).length cR) (.inl ⟨by kernel_rfl, fun w' hs => ?_⟩) S0 ?_
           · go_simp
           refine late_oneG 4 rfl (by kernel_rfl) (by kernel_rfl) ?_
           go_simp
           refine E0.list.mono ?_
           rintro e w5 ⟨A5, n5, rfl, s5, E5, k5⟩
           have I5 : IsAt w5 AR (L).length L := E0.o.is.ints k5 I0
           have S5 : w5.cell? ⟨r, 1, none⟩ = some (.slice AR (L).length cR) := (k5.cell (Nat.lt_of_lt_of_le rl (Below.refl wq.heap.size wq).drew.size) NC.out).trans S0
           have r5 : r < w5.heap.size := Nat.lt_of_lt_of_le (Nat.lt_of_lt_of_le rl (Below.refl wq.heap.size wq).drew.size) k5.size
           (first | refine ⟨S5, ?_⟩ | refine ⟨.inr S5, ?_⟩)
           refine late_oneG 9 rfl (by kernel_rfl) (by kernel_rfl) ?_
           go_simp
           refine (ints_same _ A5 AR _ n5 cR L s5 I5 (by have := LB.out; have := N2.out; omega)).mono ?_
           rintro e w6 ⟨rfl, b6⟩
           have E6 := E5.below b6
           have S6 : w6.cell? ⟨r, 1, none⟩ = some (.slice AR (L).length cR) := (b6.cell (p := ⟨r, 1, none⟩) r5).trans S5
           (first | refine ⟨S6, ?_⟩ | refine ⟨.inr S6, ?_⟩)
           clear s5 k5 b6 E0 E5 S0 S5 I0 I5 r5
           refine tk 10 rfl (.bool false) (.inl ⟨by kernel_rfl, fun w' hs => ?_⟩) S6 ?_
           · go_simp
           refine tk 11 rfl (.bool false) (.inl ⟨by kernel_rfl, fun w' hs => ?_⟩) S6 ?_
           · go_simp
           refine tk 12 rfl (.bool false) (.inl ⟨by kernel_rfl, fun w' hs => ?_⟩) S6 ?_
           · go_simp
           refine tk 13 rfl (.pointer (some ⟨q, 0, none⟩)) (.inl ⟨by kernel_rfl, fun w' hs => ?_⟩) S6 ?_
           · go_simp
           refine tk 15 rfl (.pointer (some ⟨r, 0, none⟩)) (.inl ⟨by kernel_rfl, fun w' hs => ?_⟩) S6 ?_
           · go_simp
           refine tk 16 rfl (.pointer (some ⟨r, 0, none⟩)) (.inl ⟨by kernel_rfl, fun w' hs => ?_⟩) S6 ?_
           · go_simp
           refine tk 17 rfl (.pointer (some ⟨r, 1, none⟩)) (.inl ⟨by kernel_rfl, fun w' hs => ?_⟩) S6 ?_
           · go_simp
           refine tk 18 rfl (.slice AR (L).length cR) (.inl ⟨by kernel_rfl, fun w' hs => ?_⟩) S6 ?_
           · go_simp
           refine tk 19 rfl (.int .i64 ((L).length : Nat)) (.inl ⟨by kernel_rfl, fun w' hs => ?_⟩) S6 ?_
           · go_simp
           refine late_oneG 14 rfl (by kernel_rfl) (by kernel_rfl) ?_
           go_simp
           refine E6.len.mono ?_
           rintro e w7 ⟨rfl, rfl⟩
           (first | refine ⟨S6, ?_⟩ | refine ⟨.inr S6, ?_⟩)
           refine tk 20 rfl (.bool false) (.inl ⟨by kernel_rfl, fun w' hs => ?_⟩) S6 ?_
           · go_simp
           refine tk 21 rfl (.bool false) (.inl ⟨by kernel_rfl, fun w' hs => ?_⟩) S6 ?_
           · go_simp
           refine Late.done (by kernel_rfl) ?_
           have DX := Lib.hid E6
           clear E6 S6 RI VV NC D2
           go_wp2
           go_roundw
           case rel => exact ⟨t + 1, q, d, L, rfl, by go_num, by omega, DX.out⟩
           case measure => simp [intOf]; omega)
    · obtain rfl : t = k := by omega
      have s0 : decide ((t : Int) < t) = false := decide_eq_false (by omega)
      have s00 : decide (t < t) = false := decide_eq_false (by omega)
      go_wp2_with fail
      refine DO.out.first.mono ?_
      rintro e w3 ⟨rfl, E3⟩
      have B3 := Lib.hid E3.o.at_
      clear E3 DO
      go_wp2
      go_ret
      exact ⟨rfl, B3.out⟩
end Go.Proofs.Ythonmfoajjhkdaa.Bx
