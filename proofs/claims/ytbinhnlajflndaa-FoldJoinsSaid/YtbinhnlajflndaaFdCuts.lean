/- The walk of voklaw4's law FoldCuts. -/
import Derived.Test.YtbinhnlajflndaaFdWrong
import Derived.Test.YtbinhnlajflndaaFdNames
import Derived.Test.YtbinhnlajflndaaFdClass
import Derived.Deep.RegionHeld
import Derived.Deep.RegionWith
import Derived.StillTailTactics
set_option linter.unusedVariables false
namespace Go.Proofs.Ytbinhnlajflndaa.Fd
open Go.RowKit Cv St

def good (l : List UInt8) : Prop := goodTo l l.length
theorem bat_cons (x : UInt8) (r : List UInt8) (j : Nat) : bat (x :: r) (j + 1) = bat r j := rfl
theorem ok_cons (x : UInt8) (r : List UInt8) (j : Nat) : okAt (x :: r) (j + 1) = okAt r j := rfl
theorem good_nil : good [] := fun j hj => absurd hj (by simp)
theorem good_cons {x : UInt8} {r : List UInt8} (h : okAt (x :: r) 0 = true) (g : good r) : good (x :: r) := fun j hj => by
  cases j with
  | zero => exact h
  | succ j => rw [ok_cons]; exact g j (by simpa using hj)
theorem good_may {x : UInt8} {r : List UInt8} (h : mayI (x.toNat : Int) = true) (g : good r) : good (x :: r) := good_cons (ok_may h) g
theorem good_10 {r : List UInt8} (g : good r) : good (10 :: r) := good_cons (ok_ten rfl) g
theorem good_cr {r : List UInt8} (g : good r) : good (13 :: 10 :: r) := good_cons (ok_end rfl rfl) (good_10 g)
theorem good_app {a r : List UInt8} (h : ∀ c ∈ a, mayI (c.toNat : Int) = true) (g : good r) : good (a ++ r) := by
  induction a with
  | nil => exact g
  | cons x a ih => exact good_may (h x (List.mem_cons_self ..)) (ih fun c hc => h c (List.mem_cons_of_mem _ hc))
theorem good_fault {l : List UInt8} (h : good l) (g : l.head? ≠ some 32) : faultB l = false := by
  have := faultN_none (faultF_none h)
  rw [← this.2]; exact decide_eq_false g
theorem good_split {l : List UInt8} (hl : l.length ≤ 4096) (h : good l) (g : l.head? ≠ some 32) : splitL l = lines [] l ∧ splitN l = 0 ∧ splitE l = 0 := split_good hl (good_fault h g)
/-- bytes that may stand in a line, no blank -/
def Vis (l : List UInt8) : Prop := ∀ c ∈ l, 33 ≤ (c.toNat : Int) ∧ (c.toNat : Int) ≤ 126
/-- bytes that may stand in a line -/
def Lin (l : List UInt8) : Prop := ∀ c ∈ l, 32 ≤ (c.toNat : Int) ∧ (c.toNat : Int) ≤ 126
theorem Vis.lin {l : List UInt8} (h : Vis l) : Lin l := fun c hc => by have := h c hc; omega
theorem Lin.may {l : List UInt8} (h : Lin l) : ∀ c ∈ l, mayI (c.toNat : Int) = true := fun c hc => decide_eq_true (h c hc)
theorem Lin.no10 {l : List UInt8} (h : Lin l) : ∀ c ∈ l, c ≠ 10 := fun c hc e => by have := h c hc; rw [e] at this; exact absurd this.1 (by decide)
theorem Lin.no13 {l : List UInt8} (h : Lin l) : ∀ c ∈ l, c ≠ 13 := fun c hc e => by have := h c hc; rw [e] at this; exact absurd this.1 (by decide)
theorem Vis.head {l : List UInt8} (h : Vis l) : l.head? ≠ some 32 := fun e => by
  have := h 32 (List.mem_of_mem_head? e)
  exact absurd this.1 (by decide)
theorem Vis.head_app {l r : List UInt8} (h : Vis l) (h0 : l ≠ []) : (l ++ r).head? ≠ some 32 := fun e => by
  cases l with
  | nil => exact h0 rfl
  | cons x l => simp at e; have := h x (List.mem_cons_self ..); rw [e] at this; exact absurd this.1 (by decide)
/-- an end of a line -/
def End (e : List UInt8) : Prop := e = [10] ∨ e = [13, 10]
theorem End.good {e r : List UInt8} (h : End e) (g : good r) : good (e ++ r) := by
  rcases h with rfl | rfl
  · exact good_10 g
  · exact good_cr g
theorem lines_line {acc : List (List UInt8)} {p e r : List UInt8} (he : End e) (hp : Lin p) : lines acc (p ++ (e ++ r)) = lines (put acc p) r := by
  rcases he with rfl | rfl
  · rw [show p ++ ([10] ++ r) = p ++ 10 :: r from rfl, lines_app hp.no10, strip_no hp.no13]
  · rw [show p ++ ([13, 10] ++ r) = (p ++ [13]) ++ 10 :: r from by simp, lines_app (fun c hc => by
      rcases List.mem_append.1 hc with hc | hc
      · exact hp.no10 c hc
      · obtain rfl : c = 13 := by simpa using hc
        decide), strip_cr]
theorem lines_last {acc : List (List UInt8)} {p : List UInt8} (hp : Lin p) (h0 : p ≠ []) : lines acc p = put acc p := by
  rw [lines_end hp.no10 h0, strip_no hp.no13]
theorem cut_one {a b e : List UInt8} (ha : Vis a) (hb : Vis b) (a0 : a ≠ []) (he : End e) (hl : a.length + e.length + 1 + b.length ≤ 4096) :
    splitL (a ++ (e ++ (32 :: b))) = [a ++ b] ∧ splitN (a ++ (e ++ (32 :: b))) = 0 ∧ splitE (a ++ (e ++ (32 :: b))) = 0 := by
  have hB : Lin (32 :: b) := fun c hc => by
    rcases List.mem_cons.1 hc with rfl | hc
    · decide
    · exact hb.lin c hc
  have := good_split (l := a ++ (e ++ (32 :: b))) (by simp; omega) (good_app ha.lin.may (he.good (by have := good_app hB.may good_nil; rwa [List.append_nil] at this))) (ha.head_app a0)
  rw [lines_line he ha.lin, lines_last hB (by simp), put_new ha.head] at this
  have p := put_old (acc := []) (z := a) (t := b)
  simp only [List.nil_append] at p this
  rw [p] at this
  exact this
theorem cut_two {a b e : List UInt8} (ha : Vis a) (hb : Vis b) (a0 : a ≠ []) (he : End e) (hl : a.length + e.length + b.length + e.length ≤ 4096) :
    splitL (a ++ (e ++ (b ++ (e ++ [])))) = [a, b] ∧ splitN (a ++ (e ++ (b ++ (e ++ [])))) = 0 ∧ splitE (a ++ (e ++ (b ++ (e ++ [])))) = 0 := by
  have := good_split (l := a ++ (e ++ (b ++ (e ++ [])))) (by simp; omega) (good_app ha.lin.may (he.good (good_app hb.lin.may (he.good good_nil)))) (ha.head_app a0)
  rw [lines_line he ha.lin, lines_line he hb.lin, lines_nil, put_new ha.head, put_new hb.head] at this
  exact this
theorem visible.vis {s : ByteArray} (h : visible s.data.toList s.size) : Vis s.data.toList := fun c hc => by
  obtain ⟨j, hj, e⟩ := List.getElem_of_mem hc
  have hl : s.data.toList.length = s.size := by simp
  have := h j (by omega)
  rwa [bat_lt hj, e] at this
theorem Vis.take {l : List UInt8} (h : Vis l) (k : Nat) : Vis (l.take k) := fun c hc => h c (List.mem_of_mem_take hc)
theorem Vis.drop {l : List UInt8} (h : Vis l) (k : Nat) : Vis (l.drop k) := fun c hc => h c (List.mem_of_mem_drop hc)
/-- the strings that the law puts together, and what Split answers of them -/
theorem cuts_of {s e : ByteArray} {k : Nat} (h : Vis s.data.toList) (h1 : 1 ≤ k) (h2 : k < s.size) (h3 : s.size ≤ 4000) (he : End e.data.toList) (hz : e.size ≤ 2) :
    ((splitL (s.extract 0 k ++ e ++ ⟨#[32]⟩ ++ s.extract k s.size).data.toList).map str = [s] ∧ splitN (s.extract 0 k ++ e ++ ⟨#[32]⟩ ++ s.extract k s.size).data.toList = 0 ∧ splitE (s.extract 0 k ++ e ++ ⟨#[32]⟩ ++ s.extract k s.size).data.toList = 0) ∧
    ((splitL (s.extract 0 k ++ e ++ s.extract k s.size ++ e).data.toList).map str = [s.extract 0 k, s.extract k s.size] ∧ splitN (s.extract 0 k ++ e ++ s.extract k s.size ++ e).data.toList = 0 ∧ splitE (s.extract 0 k ++ e ++ s.extract k s.size ++ e).data.toList = 0) := by
  have hl : s.data.toList.length = s.size := by simp
  have ez : e.data.toList.length = e.size := by simp
  have x1 : (s.extract 0 k).data.toList = s.data.toList.take k := by rw [ext_list]; simp
  have x2 : (s.extract k s.size).data.toList = s.data.toList.drop k := by rw [ext_list, List.take_of_length_le (by rw [List.length_drop]; omega)]
  have n1 : (s.data.toList.take k).length = k := by rw [List.length_take]; omega
  have n2 : (s.data.toList.drop k).length = s.size - k := by rw [List.length_drop]; omega
  have a0 : s.data.toList.take k ≠ [] := fun g => by rw [g] at n1; simp at n1; omega
  have c1 := cut_one (h.take k) (h.drop k) a0 he (by rw [n1, n2, ez]; omega)
  have c2 := cut_two (h.take k) (h.drop k) a0 he (by rw [n1, n2, ez]; omega)
  rw [List.take_append_drop] at c1
  have e1 : (s.extract 0 k ++ e ++ ⟨#[32]⟩ ++ s.extract k s.size).data.toList = s.data.toList.take k ++ (e.data.toList ++ (32 :: s.data.toList.drop k)) := by
    simp only [list_app, x1, x2]; simp
  have e2 : (s.extract 0 k ++ e ++ s.extract k s.size ++ e).data.toList = s.data.toList.take k ++ (e.data.toList ++ (s.data.toList.drop k ++ (e.data.toList ++ []))) := by
    simp only [list_app, x1, x2]; simp
  rw [e1, e2, c1.1, c2.1]
  refine ⟨⟨by simp only [List.map_cons, List.map_nil, str_list], c1.2⟩, ⟨?_, c2.2⟩⟩
  rw [← x1, ← x2]; simp only [List.map_cons, List.map_nil, str_list]
set_option maxRecDepth 100000 in
set_option maxHeartbeats 8000000 in
theorem foldCuts_false (W : World) (s : ByteArray) (k : Nat) (h1 : 1 ≤ k) (h2 : k < s.size) (h3 : s.size ≤ 4000) :
    Calls Try.prog 7 #[.string s, .int .i64 (k : Int), .bool false] W fun e w' => e = .returned (.bool true) ∧ Below W.heap.size W w' := by
  have b0 := Below.refl W.heap.size W
  have i1 : (1 : Int) ≤ (k : Int) := by omega
  have i2 : (k : Int) < (s.size : Int) := by omega
  have i0 : (0 : Int) ≤ (k : Int) := by omega
  have i3 : (k : Int) ≤ (s.size : Int) := by omega
  have i4 : k ≤ s.size := by omega
  have z0 : ¬ 9223372036854775807 < k + 1 := by omega
  have z1 : ¬ 9223372036854775807 < k + 1 + 1 := by omega
  have z2 : ¬ 9223372036854775807 < k + 2 := by omega
  have z3 : ¬ 9223372036854775807 < k + 1 + 1 + (s.size - k) := by omega
  have z4 : ¬ 9223372036854775807 < k + 2 + (s.size - k) := by omega
  have z5 : ¬ 9223372036854775807 < k + 1 + (s.size - k) := by omega
  have z6 : ¬ 9223372036854775807 < k + 1 + (s.size - k) + 1 := by omega
  have d1 : decide (4000 < (s.size : Int)) = false := decide_eq_false (by omega)
  have d2 : decide ((k : Int) < 1) = false := decide_eq_false (by omega)
  have d3 : decide (s.size ≤ k) = false := decide_eq_false (by omega)
  go_enter Try.func7, Try.ntmps7
  go_wp2_with fail
  refine (first4_any _).mono ?_
  rintro e b1w ⟨rfl, b1h⟩
  have b1 := b0.trans (b1h.mono b0.size)
  go_wp2
  go_loopw [7] (fun i wr => ∃ t : Nat, t ≤ s.size ∧ i = .int .i64 t ∧ Hid (visible s.data.toList t) ∧ Below W.heap.size W wr) (fun i _ => s.size - (intOf i).toNat)
  case atStart => exact ⟨0, Nat.zero_le _, rfl, Lib.hid (fun j hj => absurd hj (by omega)), b1⟩
  case round =>
    rename_i wr
    obtain ⟨t, ht, rfl, D, hW⟩ := hrel
    by_cases hlt : t < s.size
    · have eb := bat_str hlt
      by_cases h33 : (s[t].toNat : Int) < 33
      · clear eb
        go_wp2_with fail
        refine (first4_any _).mono ?_
        rintro e b2w ⟨rfl, b2h⟩
        have b2 := hW.trans (b2h.mono hW.size)
        go_wp2
        go_ret
        exact ⟨rfl, b2⟩
      · by_cases h126 : 126 < (s[t].toNat : Int)
        · have h33' : 33 ≤ (s[t].toNat : Int) := by omega
          clear eb h33
          go_wp2_with fail
          refine (first4_any _).mono ?_
          rintro e b2w ⟨rfl, b2h⟩
          have b2 := hW.trans (b2h.mono hW.size)
          go_wp2
          go_ret
          exact ⟨rfl, b2⟩
        · have D2 := Lib.hid (D.out.succ (by rw [eb]; omega))
          have h33' : 33 ≤ (s[t].toNat : Int) := by omega
          have h126' : (s[t].toNat : Int) ≤ 126 := by omega
          clear eb h33 h126
          go_wp2
          go_roundw
          case rel => exact ⟨t + 1, by omega, by go_num, D2, hW⟩
          case measure => simp [intOf]; omega
    · obtain rfl : s.size = t := by omega
      have cu := cuts_of (e := ⟨#[10]⟩) D.out.vis h1 h2 h3 (.inl rfl) (by decide)
      obtain ⟨T1, t1⟩ : ∃ T, s.extract 0 k ++ ⟨#[10]⟩ ++ ⟨#[32]⟩ ++ s.extract k s.size = T := ⟨_, rfl⟩
      obtain ⟨T2, t2⟩ : ∃ T, s.extract 0 k ++ ⟨#[10]⟩ ++ s.extract k s.size ++ ⟨#[10]⟩ = T := ⟨_, rfl⟩
      have y1 : T1.size ≤ 5000 := by rw [← t1]; simp only [ByteArray.size_append, ByteArray.size_extract]; show _ + 1 + 1 + _ ≤ _; omega
      have y2 : T2.size ≤ 5000 := by rw [← t2]; simp only [ByteArray.size_append, ByteArray.size_extract]; show _ + 1 + _ + 1 ≤ _; omega
      rw [t1, t2] at cu
      have C := Lib.hid cu
      clear cu
      have kb := bytes_of
      clear D hlt ht
      go_wp2
      go_region_held (fun v => True) (exact trivial)
        ((go_at_call 32; refine (split_k _ _ _ _ _ _ 1 _ _ (bytes_at _ _) (bytes_cap _ _) (by omega) C.out.1.1 rfl C.out.1.2.1 C.out.1.2.2).mono ?_; rintro e w5 ⟨B5, d5, rfl, hs5, h5⟩))
      have b5 := after_bytes (hW.trans ((Below.refl _ _).drew)) h5
      clear h5
      go_wp2
      go_region_held (fun v => True) (exact trivial)
        ((go_at_call 32; refine (split_k _ _ _ _ _ _ 2 _ _ (bytes_at _ _) (bytes_cap _ _) (by omega) C.out.2.1 rfl C.out.2.2.1 C.out.2.2.2).mono ?_; rintro e w6 ⟨B6, d6, rfl, hs6, h6⟩))
      have b6 := after_bytes (b5.trans ((Below.refl _ _).drew)) h6
      have g6 := after_bytes ((Below.refl w5.heap.size w5).drew) h6
      have hs56 := hs5.below g6
      clear h6 hs5 g6 C
      obtain ⟨x5, o5, rfl, l5, q5⟩ := hs56.2 (by decide)
      obtain ⟨x6, o6, rfl, l6, q6⟩ := hs6.2 (by decide)
      have r0 := Past.at_ l5 (q5 0 (by decide))
      have r1 := Past.at_ l6 (q6 0 (by decide))
      have r2 := Past.at_ l6 (q6 1 (by decide))
      rw [Nat.add_zero] at r0 r1
      replace r0 : ∀ v : In (Past w6), v.w.cell? ⟨x5, o5, none⟩ = some (.string s) := r0
      replace r1 : ∀ v : In (Past w6), v.w.cell? ⟨x6, o6, none⟩ = some (.string (s.extract 0 k)) := r1
      replace r2 : ∀ v : In (Past w6), v.w.cell? ⟨x6, o6 + 1, none⟩ = some (.string (s.extract k s.size)) := r2
      clear q5 q6 hs6 hs56 kb
      have p6 : Past w6 w6 := Below.refl _ _
      have hne : Nonempty (In (Past w6)) := ⟨⟨_, p6⟩⟩
      go_wp2
      refine wp_region_class (Past w6) (by kernel_rfl) (by kernel_rfl) (Past.drew' p6) ?_
      try simp only [List.append]
      repeat (any_goals (first | go_big_quiet_step ((with_reducible refine quiet_cl Past.on (first4_any _))) | quiet_step ((with_reducible refine quiet_cl Past.on (first4_any _)))))
      refine wpQuiet_nil ?_
      rintro _ ⟨⟨w8, h8⟩, rfl⟩
      replace h8 : Below _ _ _ := h8
      go_wp2
      go_ret
      exact ⟨rfl, b6.trans (h8.mono b6.size)⟩
set_option maxRecDepth 100000 in
set_option maxHeartbeats 8000000 in
theorem foldCuts_true (W : World) (s : ByteArray) (k : Nat) (h1 : 1 ≤ k) (h2 : k < s.size) (h3 : s.size ≤ 4000) :
    Calls Try.prog 7 #[.string s, .int .i64 (k : Int), .bool true] W fun e w' => e = .returned (.bool true) ∧ Below W.heap.size W w' := by
  have b0 := Below.refl W.heap.size W
  have i1 : (1 : Int) ≤ (k : Int) := by omega
  have i2 : (k : Int) < (s.size : Int) := by omega
  have i0 : (0 : Int) ≤ (k : Int) := by omega
  have i3 : (k : Int) ≤ (s.size : Int) := by omega
  have i4 : k ≤ s.size := by omega
  have z0 : ¬ 9223372036854775807 < k + 2 := by omega
  have z1 : ¬ 9223372036854775807 < k + 2 + 1 := by omega
  have z2 : ¬ 9223372036854775807 < k + 3 := by omega
  have z3 : ¬ 9223372036854775807 < k + 2 + 1 + (s.size - k) := by omega
  have z4 : ¬ 9223372036854775807 < k + 3 + (s.size - k) := by omega
  have z5 : ¬ 9223372036854775807 < k + 2 + (s.size - k) := by omega
  have z6 : ¬ 9223372036854775807 < k + 2 + (s.size - k) + 2 := by omega
  have d1 : decide (4000 < (s.size : Int)) = false := decide_eq_false (by omega)
  have d2 : decide ((k : Int) < 1) = false := decide_eq_false (by omega)
  have d3 : decide (s.size ≤ k) = false := decide_eq_false (by omega)
  go_enter Try.func7, Try.ntmps7
  go_wp2_with fail
  refine (first4_any _).mono ?_
  rintro e b1w ⟨rfl, b1h⟩
  have b1 := b0.trans (b1h.mono b0.size)
  go_wp2
  go_loopw [7] (fun i wr => ∃ t : Nat, t ≤ s.size ∧ i = .int .i64 t ∧ Hid (visible s.data.toList t) ∧ Below W.heap.size W wr) (fun i _ => s.size - (intOf i).toNat)
  case atStart => exact ⟨0, Nat.zero_le _, rfl, Lib.hid (fun j hj => absurd hj (by omega)), b1⟩
  case round =>
    rename_i wr
    obtain ⟨t, ht, rfl, D, hW⟩ := hrel
    by_cases hlt : t < s.size
    · have eb := bat_str hlt
      by_cases h33 : (s[t].toNat : Int) < 33
      · clear eb
        go_wp2_with fail
        refine (first4_any _).mono ?_
        rintro e b2w ⟨rfl, b2h⟩
        have b2 := hW.trans (b2h.mono hW.size)
        go_wp2
        go_ret
        exact ⟨rfl, b2⟩
      · by_cases h126 : 126 < (s[t].toNat : Int)
        · have h33' : 33 ≤ (s[t].toNat : Int) := by omega
          clear eb h33
          go_wp2_with fail
          refine (first4_any _).mono ?_
          rintro e b2w ⟨rfl, b2h⟩
          have b2 := hW.trans (b2h.mono hW.size)
          go_wp2
          go_ret
          exact ⟨rfl, b2⟩
        · have D2 := Lib.hid (D.out.succ (by rw [eb]; omega))
          have h33' : 33 ≤ (s[t].toNat : Int) := by omega
          have h126' : (s[t].toNat : Int) ≤ 126 := by omega
          clear eb h33 h126
          go_wp2
          go_roundw
          case rel => exact ⟨t + 1, by omega, by go_num, D2, hW⟩
          case measure => simp [intOf]; omega
    · obtain rfl : s.size = t := by omega
      have cu := cuts_of (e := ⟨#[13, 10]⟩) D.out.vis h1 h2 h3 (.inr rfl) (by decide)
      obtain ⟨T1, t1⟩ : ∃ T, s.extract 0 k ++ ⟨#[13, 10]⟩ ++ ⟨#[32]⟩ ++ s.extract k s.size = T := ⟨_, rfl⟩
      obtain ⟨T2, t2⟩ : ∃ T, s.extract 0 k ++ ⟨#[13, 10]⟩ ++ s.extract k s.size ++ ⟨#[13, 10]⟩ = T := ⟨_, rfl⟩
      have y1 : T1.size ≤ 5000 := by rw [← t1]; simp only [ByteArray.size_append, ByteArray.size_extract]; show _ + 2 + 1 + _ ≤ _; omega
      have y2 : T2.size ≤ 5000 := by rw [← t2]; simp only [ByteArray.size_append, ByteArray.size_extract]; show _ + 2 + _ + 2 ≤ _; omega
      rw [t1, t2] at cu
      have C := Lib.hid cu
      clear cu
      have kb := bytes_of
      clear D hlt ht
      go_wp2
      go_region_held (fun v => True) (exact trivial)
        ((go_at_call 32; refine (split_k _ _ _ _ _ _ 1 _ _ (bytes_at _ _) (bytes_cap _ _) (by omega) C.out.1.1 rfl C.out.1.2.1 C.out.1.2.2).mono ?_; rintro e w5 ⟨B5, d5, rfl, hs5, h5⟩))
      have b5 := after_bytes (hW.trans ((Below.refl _ _).drew)) h5
      clear h5
      go_wp2
      go_region_held (fun v => True) (exact trivial)
        ((go_at_call 32; refine (split_k _ _ _ _ _ _ 2 _ _ (bytes_at _ _) (bytes_cap _ _) (by omega) C.out.2.1 rfl C.out.2.2.1 C.out.2.2.2).mono ?_; rintro e w6 ⟨B6, d6, rfl, hs6, h6⟩))
      have b6 := after_bytes (b5.trans ((Below.refl _ _).drew)) h6
      have g6 := after_bytes ((Below.refl w5.heap.size w5).drew) h6
      have hs56 := hs5.below g6
      clear h6 hs5 g6 C
      obtain ⟨x5, o5, rfl, l5, q5⟩ := hs56.2 (by decide)
      obtain ⟨x6, o6, rfl, l6, q6⟩ := hs6.2 (by decide)
      have r0 := Past.at_ l5 (q5 0 (by decide))
      have r1 := Past.at_ l6 (q6 0 (by decide))
      have r2 := Past.at_ l6 (q6 1 (by decide))
      rw [Nat.add_zero] at r0 r1
      replace r0 : ∀ v : In (Past w6), v.w.cell? ⟨x5, o5, none⟩ = some (.string s) := r0
      replace r1 : ∀ v : In (Past w6), v.w.cell? ⟨x6, o6, none⟩ = some (.string (s.extract 0 k)) := r1
      replace r2 : ∀ v : In (Past w6), v.w.cell? ⟨x6, o6 + 1, none⟩ = some (.string (s.extract k s.size)) := r2
      clear q5 q6 hs6 hs56 kb
      have p6 : Past w6 w6 := Below.refl _ _
      have hne : Nonempty (In (Past w6)) := ⟨⟨_, p6⟩⟩
      go_wp2
      refine wp_region_class (Past w6) (by kernel_rfl) (by kernel_rfl) (Past.drew' p6) ?_
      try simp only [List.append]
      repeat (any_goals (first | go_big_quiet_step ((with_reducible refine quiet_cl Past.on (first4_any _))) | quiet_step ((with_reducible refine quiet_cl Past.on (first4_any _)))))
      refine wpQuiet_nil ?_
      rintro _ ⟨⟨w8, h8⟩, rfl⟩
      replace h8 : Below _ _ _ := h8
      go_wp2
      go_ret
      exact ⟨rfl, b6.trans (h8.mono b6.size)⟩
set_option maxRecDepth 100000 in
set_option maxHeartbeats 4000000 in
theorem foldCuts_walk (W : World) (s : ByteArray) (hs : s.size ≤ maxLen) (x : Int) (x1 : -9223372036854775808 ≤ x) (x2 : x ≤ 9223372036854775807) (b : Bool) :
    Calls Try.prog 7 #[.string s, .int .i64 x, .bool b] W fun e w' => e = .returned (.bool true) ∧ Below W.heap.size W w' := by
  unfold maxLen at hs
  have b0 := Below.refl W.heap.size W
  by_cases k1 : 4000 < s.size
  · go_enter Try.func7, Try.ntmps7
    go_wp2_with fail
    refine (first4_any _).mono ?_
    rintro e b1w ⟨rfl, b1h⟩
    have b1 := b0.trans (b1h.mono b0.size)
    go_wp2_with fail
    refine (first4_any _).mono ?_
    rintro e b2w ⟨rfl, b2h⟩
    have b2 := b1.trans (b2h.mono b1.size)
    go_wp2
    go_ret
    exact ⟨rfl, b2⟩
  have k1' : s.size ≤ 4000 := by omega
  clear k1
  by_cases k2 : x < 1
  · go_enter Try.func7, Try.ntmps7
    go_wp2_with fail
    refine (first4_any _).mono ?_
    rintro e b1w ⟨rfl, b1h⟩
    have b1 := b0.trans (b1h.mono b0.size)
    go_wp2_with fail
    refine (first4_any _).mono ?_
    rintro e b2w ⟨rfl, b2h⟩
    have b2 := b1.trans (b2h.mono b1.size)
    go_wp2
    go_ret
    exact ⟨rfl, b2⟩
  have k2' : 1 ≤ x := by omega
  clear k2
  by_cases k3 : (s.size : Int) ≤ x
  · go_enter Try.func7, Try.ntmps7
    go_wp2_with fail
    refine (first4_any _).mono ?_
    rintro e b1w ⟨rfl, b1h⟩
    have b1 := b0.trans (b1h.mono b0.size)
    go_wp2_with fail
    refine (first4_any _).mono ?_
    rintro e b2w ⟨rfl, b2h⟩
    have b2 := b1.trans (b2h.mono b1.size)
    go_wp2
    go_ret
    exact ⟨rfl, b2⟩
  obtain ⟨k, rfl⟩ : ∃ k : Nat, x = (k : Int) := ⟨x.toNat, by omega⟩
  cases b
  · exact foldCuts_false W s k (by omega) (by omega) k1'
  · exact foldCuts_true W s k (by omega) (by omega) k1'
end Go.Proofs.Ytbinhnlajflndaa.Fd
