/- Regions that draw their order and hold calls that make memory, walked once, over a class of worlds; the examples' zone; voklaw3.first. -/
import Derived.Test.YtbinhnlajflndaaZnSame
import Derived.Deep.RegionHeld3
set_option linter.unusedVariables false
namespace Go.Proofs.Ytbinhnlajflndaa.Zn
open Go.RowKit Cv St

/-- a world of the class -/
structure In (K : World → Prop) where
  w : World
  h : K w
theorem wp_region_class (K : World → Prop) {P : Program} {id : Nat} {Q : Exit → Act → World → Prop} {a : Act} {w : World} {l : List Oper} (hm : P.follows .mixedOrders = true) (hB : Region.lexB .any l.toArray = true) (hd : K w.drew)
    (h : wpQuiet P l.toArray (fun w' => ∃ n : In K, w' = n.w) (fun a' => ∀ w', (∃ n : In K, w' = n.w) → Q .normal a' w') l a) : (Code.region id l.toArray true).wp P Q a w :=
  wp_region_quiet (C := fun w' => ∃ n : In K, w' = n.w) hm hB ⟨⟨_, hd⟩, rfl⟩ (by simpa using h)
theorem quiet_cl {K : World → Prop} {P : Program} {f : FuncId} {args : Array Value} {n : In K} {v : Value} (hK : ∀ w w', K w → Below w.heap.size w w' → K w') (h : Calls P f args n.w fun e w' => e = .returned v ∧ Below n.w.heap.size n.w w') :
    Calls P f args n.w fun e w'' => e = .returned v ∧ ∃ m : In K, w'' = m.w :=
  h.mono fun e w' ⟨he, hb⟩ => ⟨he, ⟨w', hK _ _ n.h hb⟩, rfl⟩
theorem quiet_sm {K : World → Prop} {P : Program} {f : FuncId} {args : Array Value} {n : In K} {v : Value} (h : Calls P f args n.w fun e w' => e = .returned v ∧ n.w = w') :
    Calls P f args n.w fun e w'' => e = .returned v ∧ ∃ m : In K, w'' = m.w :=
  h.mono fun e w' ⟨he, hb⟩ => ⟨he, n, hb.symm⟩
/-- behind W, nothing of it turned -/
def Past (W w : World) : Prop := Below W.heap.size W w
theorem Past.on {W : World} : ∀ w w', Past W w → Below w.heap.size w w' → Past W w' := fun w w' h hb => Below.trans h (hb.mono h.size)
def mids : List Yr := [⟨3, 5, 6, 3600, 7200⟩, ⟨10, 5, 6, 3600, 3600⟩]
def IsMid (w : World) (e : Ending) (w' : World) : Prop := ∃ g, e = .returned (.agg #[.int .i64 3600, .slice none 0 0, .slice (some ⟨g, 0, none⟩) 2 2, .int .i64 1996]) ∧ ZnAt w' none 0 (some ⟨g, 0, none⟩) 2 [] mids ∧ Below w.heap.size w w'
set_option maxHeartbeats 1000000 in
theorem middle_any (w : World) : Calls Try.prog 36 #[] w (IsMid w) := by
  go_enter Try.func36, Try.ntmps36
  go_wp2
  refine bodyPost_ret (v := .agg #[.int .i64 3600, .slice none 0 0, .slice (some ⟨w.heap.size + 1, 0, none⟩) 2 2, .int .i64 1996]) (by simp [results, Try.f36, go_sem]) rfl ?_
  have b1 := Blk.new (w.alloc (.cells #[.int .i64 3600, .slice none 0 0, .slice (some ⟨w.heap.size + 1, 0, none⟩) 2 2, .int .i64 1996] 25)) 60 #[.int .i64 3, .int .i64 5, .int .i64 6, .int .i64 3600, .int .i64 7200, .int .i64 10, .int .i64 5, .int .i64 6, .int .i64 3600, .int .i64 3600]
  rw [World.size_alloc] at b1
  refine ⟨w.heap.size + 1, rfl, ⟨ShAt.nil _ _, ⟨rfl, fun _ => ⟨_, 0, rfl, by simp, fun j hj => ?_⟩⟩, by omega, by omega⟩, ((Below.refl _ _).alloc (Nat.le_refl _) _).alloc (by simp) _⟩
  have c := fun i => b1.cell i
  have hj' : j = 0 ∨ j = 1 := by omega
  rcases hj' with rfl | rfl
  · exact ⟨c 0, c 1, c 2, c 3, c 4⟩
  · exact ⟨c 5, c 6, c 7, c 8, c 9⟩
theorem tab_on {W w : World} (h : Tab W) (hb : Below W.heap.size W w) : Tab w := by
  exact trivial
theorem parse_own (s : ByteArray) (w : World) (hs : s.size ≤ maxLen) (h : Tab w) (a b : Int) (hp : parse s.data.toList = (a, b)) :
    Calls Try.prog 37 #[.string s] w fun e w' => e = .returned (.tuple #[.int .i64 a, .int .i64 b]) ∧ Below w.heap.size w w' := by
  have := parse_any s w w hs (.refl h)
  rw [hp] at this
  exact this.mono fun _ _ h => ⟨h.1, h.2.below⟩
theorem mid_may : mayB 3600 [] mids 1996 = true := by decide +kernel
theorem mid_loc : locR 3600 [] mids 1996 1774746000 = 1774753200 := by decide +kernel
theorem mid_utc1 : utcR 3600 [] mids 1996 1774751400 = 1774747800 := by decide +kernel
theorem mid_utc2 : utcR 3600 [] mids 1996 1792895400 = 1792888200 := by decide +kernel
theorem mid_same : sameB 3600 1996 [] mids 3600 1996 [] mids = true := by decide +kernel
theorem mid_p1' : parse (⟨#[50, 48, 50, 54, 48, 51, 50, 57, 84, 48, 49, 48, 48, 48, 48]⟩ : ByteArray).data.toList = (1774746000, 0) := by decide +kernel
theorem mid_p2' : parse (⟨#[50, 48, 50, 54, 48, 51, 50, 57, 84, 48, 50, 51, 48, 48, 48]⟩ : ByteArray).data.toList = (1774751400, 0) := by decide +kernel
theorem mid_p3' : parse (⟨#[50, 48, 50, 54, 49, 48, 50, 53, 84, 48, 50, 51, 48, 48, 48]⟩ : ByteArray).data.toList = (1792895400, 0) := by decide +kernel
theorem mid_a : ∃ a : Int, parse (⟨#[50, 48, 50, 54, 48, 51, 50, 57, 84, 48, 49, 48, 48, 48, 48]⟩ : ByteArray).data.toList = (a, 0) ∧ locR 3600 [] mids 1996 a = a + 7200 ∧ 0 ≤ a ∧ a ≤ 2000000000 := ⟨1774746000, mid_p1', mid_loc, by decide, by decide⟩
theorem mid_b : ∃ a : Int, parse (⟨#[50, 48, 50, 54, 48, 51, 50, 57, 84, 48, 50, 51, 48, 48, 48]⟩ : ByteArray).data.toList = (a, 0) ∧ utcR 3600 [] mids 1996 a = a - 3600 ∧ 7200 ≤ a ∧ a ≤ 2000000000 := ⟨1774751400, mid_p2', mid_utc1, by decide, by decide⟩
theorem mid_c : ∃ a : Int, parse (⟨#[50, 48, 50, 54, 49, 48, 50, 53, 84, 48, 50, 51, 48, 48, 48]⟩ : ByteArray).data.toList = (a, 0) ∧ utcR 3600 [] mids 1996 a = a - 7200 ∧ 7200 ≤ a ∧ a ≤ 2000000000 := ⟨1792895400, mid_p3', mid_utc2, by decide, by decide⟩
theorem UTC_is (w : World) (b f : Int) (A A' : Option Addr) (n c n' c' : Nat) (l : List Sh) (ys : List Yr) (L x : Int) (hx : utcR b l ys f L = x) (l1 : -9223372036854775808 ≤ L) (l2 : L ≤ 9223372036854775807) (hz : ZnAt w A n A' n' l ys) :
    Calls Try.prog 25 #[.agg #[.int .i64 b, .slice A n c, .slice A' n' c', .int .i64 f], .int .i64 L] w fun e w' => e = .returned (.int .i64 x) ∧ Below w.heap.size w w' := hx ▸ UTC_own w b f A A' n c n' c' l ys L l1 l2 hz
theorem Local_is (w : World) (b f : Int) (A A' : Option Addr) (n c n' c' : Nat) (l : List Sh) (ys : List Yr) (u x : Int) (hx : locR b l ys f u = x) (hz : ZnAt w A n A' n' l ys) :
    Calls Try.prog 21 #[.agg #[.int .i64 b, .slice A n c, .slice A' n' c', .int .i64 f], .int .i64 u] w fun e w' => e = .returned (.int .i64 x) ∧ Below w.heap.size w w' := hx ▸ Local_own w b f A A' n c n' c' l ys u hz
theorem Offset_is (w : World) (b f : Int) (A A' : Option Addr) (n c n' c' : Nat) (l : List Sh) (ys : List Yr) (u x : Int) (hx : offR b l ys f u = x) (hz : ZnAt w A n A' n' l ys) :
    Calls Try.prog 19 #[.agg #[.int .i64 b, .slice A n c, .slice A' n' c', .int .i64 f], .int .i64 u] w fun e w' => e = .returned (.int .i64 x) ∧ Below w.heap.size w w' := hx ▸ Offset_own w b f A A' n c n' c' l ys u hz
theorem Same_is (w : World) (b f d g : Int) (A A' B B' : Option Addr) (n c n' c' m e m' e' : Nat) (l k : List Sh) (ys xs : List Yr) (x : Bool) (hx : sameB b f l ys d g k xs = x) (hz : ZnAt w A n A' n' l ys) (hy : ZnAt w B m B' m' k xs) :
    Calls Try.prog 23 #[.agg #[.int .i64 b, .slice A n c, .slice A' n' c', .int .i64 f], .agg #[.int .i64 d, .slice B m e, .slice B' m' e', .int .i64 g]] w fun e w' => e = .returned (.bool x) ∧ Below w.heap.size w w' := hx ▸ Same_own w b f d g A A' B B' n c n' c' m e m' e' l k ys xs hz hy
theorem Past.drew' {W w : World} (h : Past W w) : Past W w.drew := Below.trans h ((Below.refl _ _).drew)
set_option maxRecDepth 100000 in
set_option maxHeartbeats 4000000 in
theorem first_own (w : World) (ht : Tab w) : Calls Try.prog 11 #[] w fun e w' => e = .returned (.bool true) ∧ Below w.heap.size w w' := by
  obtain ⟨ta, pa, ma, a1, a2⟩ := mid_a
  obtain ⟨tb, pb, mb, b1, b2⟩ := mid_b
  obtain ⟨tc, pc, mc, d1, d2⟩ := mid_c
  have PA := Lib.hid pa; have PB := Lib.hid pb; have PC := Lib.hid pc; have MA := Lib.hid ma; have MB := Lib.hid mb; have MC := Lib.hid mc
  clear pa pb pc ma mb mc
  go_enter Try.func11, Try.ntmps11
  go_wp2_with fail
  refine (middle_any w).mono ?_
  rintro e w1 ⟨g, rfl, hz, hb1⟩
  have Z := Blk.new w1 25 #[.int .i64 3600, .slice none 0 0, .slice (some ⟨g, 0, none⟩) 2 2, .int .i64 1996]
  have ba := (Below.refl _ _).alloc (Nat.le_refl _) (.cells #[.int .i64 3600, .slice none 0 0, .slice (some ⟨g, 0, none⟩) 2 2, .int .i64 1996] 25) (w := w1)
  have hz1 := hz.below ba
  have hb2 := hb1.trans (ba.mono hb1.size)
  have t2 := tab_on ht hb2
  go_wp2_with fail
  refine (parse_own _ _ (by decide) t2 _ _ PA.out).mono ?_
  rintro e w3 ⟨rfl, hb3⟩
  go_wp2_with fail
  refine (parse_own _ _ (by decide) (tab_on t2 hb3) _ _ PB.out).mono ?_
  rintro e w4 ⟨rfl, hb4⟩
  have hb34 := hb3.trans (hb4.mono hb3.size)
  go_wp2_with fail
  refine (parse_own _ _ (by decide) (tab_on t2 hb34) _ _ PC.out).mono ?_
  rintro e w5 ⟨rfl, hb5⟩
  have hb35 := hb34.trans (hb5.mono hb34.size)
  have hz5 := hz1.below hb35
  have hb25 := hb2.trans (hb35.mono hb2.size)
  have Z5 := Z.below hb35 Z.lt
  have c0 := Z5.cell 0; have c1 := Z5.cell 1; have c2 := Z5.cell 2; have c3 := Z5.cell 3
  simp at c0 c1 c2 c3
  clear hb3 hb4 hb5 hb34 hb35 hz1 hz ba Z t2 hb1 hb2
  have hp : Past w5 w5 := Below.refl _ _
  have s1 : IntKind.i64.wrap (ta + 7200) = ta + 7200 := IntWalk.i64_in _ (by omega)
  have s2 : IntKind.i64.wrap (tb - 3600) = tb - 3600 := IntWalk.i64_in _ (by omega)
  have s3 : IntKind.i64.wrap (tc - 7200) = tc - 7200 := IntWalk.i64_in _ (by omega)
  have hzk : ∀ v, ((v.cell? ⟨w1.heap.size, 0, none⟩ = some (.int .i64 3600) ∧ v.cell? ⟨w1.heap.size, 1, none⟩ = some (.slice none 0 0) ∧ v.cell? ⟨w1.heap.size, 2, none⟩ = some (.slice (some ⟨g, 0, none⟩) 2 2) ∧ v.cell? ⟨w1.heap.size, 3, none⟩ = some (.int .i64 1996)) ∧ Past w5 v) → ZnAt v none 0 (some ⟨g, 0, none⟩) 2 [] mids := fun v h => hz5.below h.2
  have hSk : ∀ v v', ((v.cell? ⟨w1.heap.size, 0, none⟩ = some (.int .i64 3600) ∧ v.cell? ⟨w1.heap.size, 1, none⟩ = some (.slice none 0 0) ∧ v.cell? ⟨w1.heap.size, 2, none⟩ = some (.slice (some ⟨g, 0, none⟩) 2 2) ∧ v.cell? ⟨w1.heap.size, 3, none⟩ = some (.int .i64 1996)) ∧ Past w5 v) → Below v.heap.size v v' → ((v'.cell? ⟨w1.heap.size, 0, none⟩ = some (.int .i64 3600) ∧ v'.cell? ⟨w1.heap.size, 1, none⟩ = some (.slice none 0 0) ∧ v'.cell? ⟨w1.heap.size, 2, none⟩ = some (.slice (some ⟨g, 0, none⟩) 2 2) ∧ v'.cell? ⟨w1.heap.size, 3, none⟩ = some (.int .i64 1996)) ∧ Past w5 v') := fun v v' h hb => by
    have l5 : w1.heap.size < v.heap.size := Nat.lt_of_lt_of_le Z5.lt h.2.size
    exact ⟨⟨(hb.cell (p := ⟨_, _, none⟩) l5).trans h.1.1, (hb.cell (p := ⟨_, _, none⟩) l5).trans h.1.2.1, (hb.cell (p := ⟨_, _, none⟩) l5).trans h.1.2.2.1, (hb.cell (p := ⟨_, _, none⟩) l5).trans h.1.2.2.2⟩, Past.on _ _ h.2 hb⟩
  have hEnd : ∀ v, ((v.cell? ⟨w1.heap.size, 0, none⟩ = some (.int .i64 3600) ∧ v.cell? ⟨w1.heap.size, 1, none⟩ = some (.slice none 0 0) ∧ v.cell? ⟨w1.heap.size, 2, none⟩ = some (.slice (some ⟨g, 0, none⟩) 2 2) ∧ v.cell? ⟨w1.heap.size, 3, none⟩ = some (.int .i64 1996)) ∧ Past w5 v) → Below w.heap.size w v := fun v h => hb25.trans (Below.mono h.2 hb25.size)
  have HZ := Lib.hid hzk; have HS := Lib.hid hSk; have HE := Lib.hid hEnd
  clear hb25 hz5 hzk hSk hEnd
  go_wp2_with fail
  go_region_held3 (fun v => ((v.cell? ⟨w1.heap.size, 0, none⟩ = some (.int .i64 3600) ∧ v.cell? ⟨w1.heap.size, 1, none⟩ = some (.slice none 0 0) ∧ v.cell? ⟨w1.heap.size, 2, none⟩ = some (.slice (some ⟨g, 0, none⟩) 2 2) ∧ v.cell? ⟨w1.heap.size, 3, none⟩ = some (.int .i64 1996)) ∧ Past w5 v))
    ((first | assumption | (refine ⟨⟨?_, ?_, ?_, ?_⟩, ?_⟩ <;> first | assumption | exact Past.drew' (by assumption) | (simp [*]; done))))
    (first
      | (go_at_call 17; refine (zMay_own _ _ _ _ _ _ _ _ _ _ _ _ mid_may (HZ.out _ (by assumption))).mono ?_; rintro e w' ⟨rfl, hb⟩; have hS' := HS.out _ _ (by assumption) hb)
      | (go_at_call 21; refine (Local_is _ _ _ _ _ _ _ _ _ _ _ _ _ MA.out (HZ.out _ (by assumption))).mono ?_; rintro e w' ⟨rfl, hb⟩; have hS' := HS.out _ _ (by assumption) hb)
      | (go_at_call_of 25 tb; refine (UTC_is _ _ _ _ _ _ _ _ _ _ _ _ _ MB.out (by omega) (by omega) (HZ.out _ (by assumption))).mono ?_; rintro e w' ⟨rfl, hb⟩; have hS' := HS.out _ _ (by assumption) hb)
      | (go_at_call_of 25 tc; refine (UTC_is _ _ _ _ _ _ _ _ _ _ _ _ _ MC.out (by omega) (by omega) (HZ.out _ (by assumption))).mono ?_; rintro e w' ⟨rfl, hb⟩; have hS' := HS.out _ _ (by assumption) hb)
      | (go_at_call 36; refine (middle_any _).mono ?_; rintro e w' ⟨g', rfl, hz', hb⟩; have hS' := HS.out _ _ (by assumption) hb)
      | (go_at_call 23; refine (Same_is _ _ _ _ _ _ _ _ _ _ _ _ _ _ _ _ _ _ _ _ _ _ mid_same (HZ.out _ (by assumption)) (by assumption)).mono ?_; rintro e w' ⟨rfl, hb⟩; have hS' := HS.out _ _ (by assumption) hb))
  all_goals
    go_wp2
    go_ret
    exact ⟨rfl, HE.out _ (by assumption)⟩
end Go.Proofs.Ytbinhnlajflndaa.Zn
