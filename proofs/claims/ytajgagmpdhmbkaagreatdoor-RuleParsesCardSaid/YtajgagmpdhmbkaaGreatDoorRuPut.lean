/- The walk of vokref4.put. -/
import Derived.Test.YtajgagmpdhmbkaaGreatDoorRuRDz
import Derived.Test.YtajgagmpdhmbkaaGreatDoorRpB
set_option linter.unusedVariables false
namespace Go.Proofs.YtajgagmpdhmbkaaGreatDoor.Ru
open Go.RowKit Cv St

theorem rnumber_none (s : ByteArray) (w : World) (hs : s.size ≤ 100000) (hn : numOf s.data.toList = none) :
    Calls Tryz.prog 97 #[.string s] w fun e w' => (∃ n, e = .returned (.tuple #[.int .i64 n, .bool false])) ∧ Below w.heap.size w w' := by
  refine (number_is w s (by omega)).mono ?_
  rintro e w' ⟨⟨n, ok, rfl, a, b, -, -⟩, hb⟩
  cases ok
  · exact ⟨⟨n, rfl⟩, hb⟩
  · have := a rfl; rw [hn] at this; cases this
theorem rnumber_some (s : ByteArray) (n : Int) (w : World) (hs : s.size ≤ 100000) (hn : numOf s.data.toList = some n) :
    Calls Tryz.prog 97 #[.string s] w fun e w' => e = .returned (.tuple #[.int .i64 n, .bool true]) ∧ Below w.heap.size w w' := by
  refine (number_is w s (by omega)).mono ?_
  rintro e w' ⟨⟨m, ok, rfl, a, b, -, -⟩, hb⟩
  cases ok
  · have := b rfl; rw [hn] at this; cases this
  · have := a rfl; rw [hn] at this
    injection this with this
    subst this
    exact ⟨rfl, hb⟩
theorem rmoment_some (s : ByteArray) (n : Int) (w : World) (hs : s.size ≤ 100000) (ho : tilOf s.data.toList = some n) :
    Calls Tryz.prog 98 #[.string s] w fun e w' => e = .returned (.tuple #[.int .i64 n, .int .i64 0]) ∧ Below w.heap.size w w' := by
  have HP : St.parse s.data.toList = (n, 0) := by
    unfold tilOf at ho
    split at ho
    · rename_i h; injection ho with ho; exact Prod.ext ho h
    · cases ho
  refine (St.rparse_is s w w (by unfold maxLen; omega) (At.refl trivial) n 0 HP).mono ?_
  rintro e w' ⟨rfl, b⟩
  exact ⟨rfl, b.below⟩
theorem rmoment_none (s : ByteArray) (w : World) (hs : s.size ≤ 100000) (ho : tilOf s.data.toList = none) :
    Calls Tryz.prog 98 #[.string s] w fun e w' => (∃ n z, e = .returned (.tuple #[.int .i64 n, .int .i64 z]) ∧ z ≠ 0) ∧ Below w.heap.size w w' := by
  obtain ⟨a, b, hp⟩ : ∃ a b, St.parse s.data.toList = (a, b) := ⟨_, _, rfl⟩
  have hb : b ≠ 0 := fun h => by
    unfold tilOf at ho
    rw [hp, h] at ho
    simp at ho
  refine (St.rparse_is s w w (by unfold maxLen; omega) (At.refl trivial) a b hp).mono ?_
  rintro e w' ⟨rfl, g⟩
  exact ⟨⟨a, b, rfl, hb⟩, g.below⟩
set_option maxRecDepth 100000 in
set_option maxHeartbeats 8000000 in
theorem put0_is {B : Nat} {W w : World} {g : Nat} {S : RS} {r : Ru} (hR : RBox B W w g S r) (hB : B ≤ w.heap.size) (T : Tabs w) (nm v : ByteArray) (hv : v.size ≤ 100000) (hn : nm.data.toList = nameK 0) :
    Calls Tryz.prog 57 #[.pointer (some ⟨g, 0, none⟩), .string nm, .string v] w (TakeR B W w g r ((valOf 0 v.data.toList).map fun f => (0, f))) := by
  have q0 := nm_eq hn [70, 82, 69, 81] rfl
  have RB := Lib.hid hR
  have TT := Lib.hid T
  clear hR T hn
  rw [valOf_0]
  cases ho : freqOf v.data.toList with
  | none =>
    have HO := Lib.hid ho; clear ho
    go_enter Tryz.func57, Tryz.ntmps57
    go_wp2_with fail
    refine (freqs_is _).mono ?_
    rintro e w1 ⟨g0, rfl, hg, hc, b1⟩
    have SS := Lib.hid (words_at (f := freqW) hg hc)
    clear hg hc
    go_wp2_with fail
    refine (word_is _ (some ⟨g0, 0, none⟩) 8 8 _ v SS.out (by decide) (-1) (fword_no HO.out)).mono ?_
    rintro e w2 ⟨rfl, b2⟩
    have b2 := b1.trans (b2.mono b1.size)
    have RB2 := RB.out.on hB b2
    have zf := RB2.cells 0 _ rfl
    have yf := RB2.free 0
    have PT := RB2.put0 (-1)
    have zh : (w2.setCell ⟨g, 0, none⟩ (.int .i64 (-1))).cell? ⟨g, 0, none⟩ = some (.int .i64 (-1)) := PT.cells 0 _ rfl
    have PT := Lib.hid PT
    have RB2 := Lib.hid RB2
    clear RB2
    go_wp2
    go_ret
    exact ⟨PT.out.below, grown_1 b2, .inl ⟨rfl, rfl⟩⟩
  | some k =>
    have HO := Lib.hid ho; clear ho
    go_enter Tryz.func57, Tryz.ntmps57
    go_wp2_with fail
    refine (freqs_is _).mono ?_
    rintro e w1 ⟨g0, rfl, hg, hc, b1⟩
    have SS := Lib.hid (words_at (f := freqW) hg hc)
    clear hg hc
    go_wp2_with fail
    refine (word_is _ (some ⟨g0, 0, none⟩) 8 8 _ v SS.out (by decide) (k : Int) (fword_yes HO.out).1).mono ?_
    rintro e w2 ⟨rfl, b2⟩
    have KB := (fword_yes HO.out).2
    have tk : decide ((0 : Int) < (k : Int)) = true := decide_eq_true (by omega)
    have tk2 : decide (0 < k) = true := decide_eq_true (by omega)
    have b2 := b1.trans (b2.mono b1.size)
    have RB2 := RB.out.on hB b2
    have zf := RB2.cells 0 _ rfl
    have yf := RB2.free 0
    have PT := RB2.put0 (k : Int)
    have zh : (w2.setCell ⟨g, 0, none⟩ (.int .i64 (k : Int))).cell? ⟨g, 0, none⟩ = some (.int .i64 (k : Int)) := PT.cells 0 _ rfl
    have PT := Lib.hid PT
    have RB2 := Lib.hid RB2
    clear RB2
    go_wp2
    go_ret
    exact ⟨PT.out.below, grown_1 b2, .inr ⟨0, _, _, rfl, rfl, PT.out⟩⟩
set_option maxRecDepth 100000 in
set_option maxHeartbeats 8000000 in
theorem put1_is {B : Nat} {W w : World} {g : Nat} {S : RS} {r : Ru} (hR : RBox B W w g S r) (hB : B ≤ w.heap.size) (T : Tabs w) (nm v : ByteArray) (hv : v.size ≤ 100000) (hn : nm.data.toList = nameK 1) :
    Calls Tryz.prog 57 #[.pointer (some ⟨g, 0, none⟩), .string nm, .string v] w (TakeR B W w g r ((valOf 1 v.data.toList).map fun f => (1, f))) := by
  have q0 := nm_ne hn [70, 82, 69, 81] (by decide)
  have q1 := nm_eq hn [73, 78, 84, 69, 82, 86, 65, 76] rfl
  have RB := Lib.hid hR
  have TT := Lib.hid T
  clear hR T hn
  rw [valOf_1]
  cases ho : numOf v.data.toList with
  | none =>
    have HO := Lib.hid ho; clear ho
    go_enter Tryz.func57, Tryz.ntmps57
    go_wp2_with fail
    refine (rnumber_none v _ hv HO.out).mono ?_
    rintro e w2 ⟨⟨k, rfl⟩, b2⟩
    have RB2 := RB.out.on hB b2
    have zf := RB2.cells 1 _ rfl
    have yf := RB2.free 1
    have PT := Lib.hid (RB2.put1 k)
    have RB2 := Lib.hid RB2
    clear RB2
    go_wp2
    go_ret
    exact ⟨PT.out.below, grown_1 b2, .inl ⟨rfl, rfl⟩⟩
  | some k =>
    have HO := Lib.hid ho; clear ho
    go_enter Tryz.func57, Tryz.ntmps57
    go_wp2_with fail
    refine (rnumber_some v k _ hv HO.out).mono ?_
    rintro e w2 ⟨rfl, b2⟩
    have RB2 := RB.out.on hB b2
    have zf := RB2.cells 1 _ rfl
    have yf := RB2.free 1
    have PT := Lib.hid (RB2.put1 k)
    have RB2 := Lib.hid RB2
    clear RB2
    go_wp2
    go_ret
    exact ⟨PT.out.below, grown_1 b2, .inr ⟨1, _, _, rfl, rfl, PT.out⟩⟩
set_option maxRecDepth 100000 in
set_option maxHeartbeats 8000000 in
theorem put2_is {B : Nat} {W w : World} {g : Nat} {S : RS} {r : Ru} (hR : RBox B W w g S r) (hB : B ≤ w.heap.size) (T : Tabs w) (nm v : ByteArray) (hv : v.size ≤ 100000) (hn : nm.data.toList = nameK 2) :
    Calls Tryz.prog 57 #[.pointer (some ⟨g, 0, none⟩), .string nm, .string v] w (TakeR B W w g r ((valOf 2 v.data.toList).map fun f => (2, f))) := by
  have q0 := nm_ne hn [70, 82, 69, 81] (by decide)
  have q1 := nm_ne hn [73, 78, 84, 69, 82, 86, 65, 76] (by decide)
  have q2 := nm_eq hn [67, 79, 85, 78, 84] rfl
  have RB := Lib.hid hR
  have TT := Lib.hid T
  clear hR T hn
  rw [valOf_2]
  cases ho : numOf v.data.toList with
  | none =>
    have HO := Lib.hid ho; clear ho
    go_enter Tryz.func57, Tryz.ntmps57
    go_wp2_with fail
    refine (rnumber_none v _ hv HO.out).mono ?_
    rintro e w2 ⟨⟨k, rfl⟩, b2⟩
    have RB2 := RB.out.on hB b2
    have zf := RB2.cells 2 _ rfl
    have yf := RB2.free 2
    have PT := Lib.hid (RB2.put2 k)
    have RB2 := Lib.hid RB2
    clear RB2
    go_wp2
    go_ret
    exact ⟨PT.out.below, grown_1 b2, .inl ⟨rfl, rfl⟩⟩
  | some k =>
    have HO := Lib.hid ho; clear ho
    go_enter Tryz.func57, Tryz.ntmps57
    go_wp2_with fail
    refine (rnumber_some v k _ hv HO.out).mono ?_
    rintro e w2 ⟨rfl, b2⟩
    have RB2 := RB.out.on hB b2
    have zf := RB2.cells 2 _ rfl
    have yf := RB2.free 2
    have PT := Lib.hid (RB2.put2 k)
    have RB2 := Lib.hid RB2
    clear RB2
    go_wp2
    go_ret
    exact ⟨PT.out.below, grown_1 b2, .inr ⟨2, _, _, rfl, rfl, PT.out⟩⟩
set_option maxRecDepth 100000 in
set_option maxHeartbeats 8000000 in
theorem put3_is {B : Nat} {W w : World} {g : Nat} {S : RS} {r : Ru} (hR : RBox B W w g S r) (hB : B ≤ w.heap.size) (T : Tabs w) (nm v : ByteArray) (hv : v.size ≤ 100000) (hn : nm.data.toList = nameK 3) :
    Calls Tryz.prog 57 #[.pointer (some ⟨g, 0, none⟩), .string nm, .string v] w (TakeR B W w g r ((valOf 3 v.data.toList).map fun f => (3, f))) := by
  have q0 := nm_ne hn [70, 82, 69, 81] (by decide)
  have q1 := nm_ne hn [73, 78, 84, 69, 82, 86, 65, 76] (by decide)
  have q2 := nm_ne hn [67, 79, 85, 78, 84] (by decide)
  have q3 := nm_eq hn [85, 78, 84, 73, 76] rfl
  have RB := Lib.hid hR
  have TT := Lib.hid T
  clear hR T hn
  rw [valOf_3]
  cases ho : tilOf v.data.toList with
  | none =>
    have HO := Lib.hid ho; clear ho
    go_enter Tryz.func57, Tryz.ntmps57
    go_wp2_with fail
    refine (rmoment_none v _ hv HO.out).mono ?_
    rintro e w2 ⟨⟨k, z, rfl, hz⟩, b2⟩
    have tz : ((z : Int) == 0) = false := by rw [beq_eq_false_iff_ne]; exact hz
    clear hz
    have RB2 := RB.out.on hB b2
    have zf := RB2.cells 3 _ rfl
    have yf := RB2.free 3
    have zg := RB2.cells 5 _ rfl
    have yg := RB2.free 5
    have PT := (RB2.put3 k).put5 true
    have zh := PT.cells 5 _ rfl
    have PT := Lib.hid PT
    have RB2 := Lib.hid RB2
    clear RB2
    go_wp2
    go_ret
    exact ⟨PT.out.below, grown_2 b2, .inl ⟨rfl, rfl⟩⟩
  | some k =>
    have HO := Lib.hid ho; clear ho
    go_enter Tryz.func57, Tryz.ntmps57
    go_wp2_with fail
    refine (rmoment_some v k _ hv HO.out).mono ?_
    rintro e w2 ⟨rfl, b2⟩
    have RB2 := RB.out.on hB b2
    have zf := RB2.cells 3 _ rfl
    have yf := RB2.free 3
    have zg := RB2.cells 5 _ rfl
    have yg := RB2.free 5
    have PT := (RB2.put3 k).put5 true
    have zh := PT.cells 5 _ rfl
    have PT := Lib.hid PT
    have RB2 := Lib.hid RB2
    clear RB2
    go_wp2
    go_ret
    exact ⟨PT.out.below, grown_2 b2, .inr ⟨3, _, _, rfl, rfl, PT.out⟩⟩
set_option maxRecDepth 100000 in
set_option maxHeartbeats 8000000 in
theorem put4_is {B : Nat} {W w : World} {g : Nat} {S : RS} {r : Ru} (hR : RBox B W w g S r) (hB : B ≤ w.heap.size) (T : Tabs w) (nm v : ByteArray) (hv : v.size ≤ 100000) (hn : nm.data.toList = nameK 4) :
    Calls Tryz.prog 57 #[.pointer (some ⟨g, 0, none⟩), .string nm, .string v] w (TakeR B W w g r ((valOf 4 v.data.toList).map fun f => (4, f))) := by
  have q0 := nm_ne hn [70, 82, 69, 81] (by decide)
  have q1 := nm_ne hn [73, 78, 84, 69, 82, 86, 65, 76] (by decide)
  have q2 := nm_ne hn [67, 79, 85, 78, 84] (by decide)
  have q3 := nm_ne hn [85, 78, 84, 73, 76] (by decide)
  have q4 := nm_eq hn [66, 89, 77, 79, 78, 84, 72] rfl
  have RB := Lib.hid hR
  have TT := Lib.hid T
  clear hR T hn
  rw [show valOf 4 v.data.toList = (numsOf v.data.toList).map Fl.list from rfl]
  cases ho : numsOf v.data.toList with
  | none =>
    have HO := Lib.hid ho; clear ho
    go_enter Tryz.func57, Tryz.ntmps57
    go_wp2_with fail
    refine (rnumbers_is v _ hv _ HO.out).mono ?_
    rintro e w2 ⟨b2, ⟨-, rfl⟩ | ⟨m, A, c, h1, -⟩⟩
    rotate_left
    · cases h1
    have RB2 := RB.out.on hB b2
    have zf := RB2.cells 6 _ rfl
    have yf := RB2.free 6
    have PT := Lib.hid (RB2.put6 none 0 [] ⟨rfl, fun h => absurd h (by simp)⟩ (by simp) (Far.none g) (Fresh.none B))
    have RB2 := Lib.hid RB2
    clear RB2
    go_wp2
    go_ret
    exact ⟨PT.out.below, grown_1 b2, .inl ⟨rfl, rfl⟩⟩
  | some k =>
    have HL := Lib.hid (nums_len ho)
    have HO := Lib.hid ho; clear ho
    go_enter Tryz.func57, Tryz.ntmps57
    go_wp2_with fail
    refine (rnumbers_is v _ hv _ HO.out).mono ?_
    rintro e w2 ⟨b2, ⟨h1, -⟩ | ⟨m, A, c, h1, rfl, hA, hF⟩⟩
    · cases h1
    obtain rfl : k = m := by injection h1
    clear h1
    have RB2 := RB.out.on hB b2
    have zf := RB2.cells 6 _ rfl
    have yf := RB2.free 6
    have PT := Lib.hid (RB2.put6 A c k hA (by have := HL.out; omega) (Far.fresh hF RB.out.lt) (hF.mono hB))
    have RB2 := Lib.hid RB2
    clear RB2
    go_wp2
    go_ret
    exact ⟨PT.out.below, grown_1 b2, .inr ⟨4, _, _, rfl, rfl, PT.out⟩⟩
set_option maxRecDepth 100000 in
set_option maxHeartbeats 8000000 in
theorem put5_is {B : Nat} {W w : World} {g : Nat} {S : RS} {r : Ru} (hR : RBox B W w g S r) (hB : B ≤ w.heap.size) (T : Tabs w) (nm v : ByteArray) (hv : v.size ≤ 100000) (hn : nm.data.toList = nameK 5) :
    Calls Tryz.prog 57 #[.pointer (some ⟨g, 0, none⟩), .string nm, .string v] w (TakeR B W w g r ((valOf 5 v.data.toList).map fun f => (5, f))) := by
  have q0 := nm_ne hn [70, 82, 69, 81] (by decide)
  have q1 := nm_ne hn [73, 78, 84, 69, 82, 86, 65, 76] (by decide)
  have q2 := nm_ne hn [67, 79, 85, 78, 84] (by decide)
  have q3 := nm_ne hn [85, 78, 84, 73, 76] (by decide)
  have q4 := nm_ne hn [66, 89, 77, 79, 78, 84, 72] (by decide)
  have q5 := nm_eq hn [66, 89, 87, 69, 69, 75, 78, 79] rfl
  have RB := Lib.hid hR
  have TT := Lib.hid T
  clear hR T hn
  rw [show valOf 5 v.data.toList = (numsOf v.data.toList).map Fl.list from rfl]
  cases ho : numsOf v.data.toList with
  | none =>
    have HO := Lib.hid ho; clear ho
    go_enter Tryz.func57, Tryz.ntmps57
    go_wp2_with fail
    refine (rnumbers_is v _ hv _ HO.out).mono ?_
    rintro e w2 ⟨b2, ⟨-, rfl⟩ | ⟨m, A, c, h1, -⟩⟩
    rotate_left
    · cases h1
    have RB2 := RB.out.on hB b2
    have zf := RB2.cells 7 _ rfl
    have yf := RB2.free 7
    have PT := Lib.hid (RB2.put7 none 0 [] ⟨rfl, fun h => absurd h (by simp)⟩ (by simp) (Far.none g) (Fresh.none B))
    have RB2 := Lib.hid RB2
    clear RB2
    go_wp2
    go_ret
    exact ⟨PT.out.below, grown_1 b2, .inl ⟨rfl, rfl⟩⟩
  | some k =>
    have HL := Lib.hid (nums_len ho)
    have HO := Lib.hid ho; clear ho
    go_enter Tryz.func57, Tryz.ntmps57
    go_wp2_with fail
    refine (rnumbers_is v _ hv _ HO.out).mono ?_
    rintro e w2 ⟨b2, ⟨h1, -⟩ | ⟨m, A, c, h1, rfl, hA, hF⟩⟩
    · cases h1
    obtain rfl : k = m := by injection h1
    clear h1
    have RB2 := RB.out.on hB b2
    have zf := RB2.cells 7 _ rfl
    have yf := RB2.free 7
    have PT := Lib.hid (RB2.put7 A c k hA (by have := HL.out; omega) (Far.fresh hF RB.out.lt) (hF.mono hB))
    have RB2 := Lib.hid RB2
    clear RB2
    go_wp2
    go_ret
    exact ⟨PT.out.below, grown_1 b2, .inr ⟨5, _, _, rfl, rfl, PT.out⟩⟩
set_option maxRecDepth 100000 in
set_option maxHeartbeats 8000000 in
theorem put6_is {B : Nat} {W w : World} {g : Nat} {S : RS} {r : Ru} (hR : RBox B W w g S r) (hB : B ≤ w.heap.size) (T : Tabs w) (nm v : ByteArray) (hv : v.size ≤ 100000) (hn : nm.data.toList = nameK 6) :
    Calls Tryz.prog 57 #[.pointer (some ⟨g, 0, none⟩), .string nm, .string v] w (TakeR B W w g r ((valOf 6 v.data.toList).map fun f => (6, f))) := by
  have q0 := nm_ne hn [70, 82, 69, 81] (by decide)
  have q1 := nm_ne hn [73, 78, 84, 69, 82, 86, 65, 76] (by decide)
  have q2 := nm_ne hn [67, 79, 85, 78, 84] (by decide)
  have q3 := nm_ne hn [85, 78, 84, 73, 76] (by decide)
  have q4 := nm_ne hn [66, 89, 77, 79, 78, 84, 72] (by decide)
  have q5 := nm_ne hn [66, 89, 87, 69, 69, 75, 78, 79] (by decide)
  have q6 := nm_eq hn [66, 89, 89, 69, 65, 82, 68, 65, 89] rfl
  have RB := Lib.hid hR
  have TT := Lib.hid T
  clear hR T hn
  rw [show valOf 6 v.data.toList = (numsOf v.data.toList).map Fl.list from rfl]
  cases ho : numsOf v.data.toList with
  | none =>
    have HO := Lib.hid ho; clear ho
    go_enter Tryz.func57, Tryz.ntmps57
    go_wp2_with fail
    refine (rnumbers_is v _ hv _ HO.out).mono ?_
    rintro e w2 ⟨b2, ⟨-, rfl⟩ | ⟨m, A, c, h1, -⟩⟩
    rotate_left
    · cases h1
    have RB2 := RB.out.on hB b2
    have zf := RB2.cells 8 _ rfl
    have yf := RB2.free 8
    have PT := Lib.hid (RB2.put8 none 0 [] ⟨rfl, fun h => absurd h (by simp)⟩ (by simp) (Far.none g) (Fresh.none B))
    have RB2 := Lib.hid RB2
    clear RB2
    go_wp2
    go_ret
    exact ⟨PT.out.below, grown_1 b2, .inl ⟨rfl, rfl⟩⟩
  | some k =>
    have HL := Lib.hid (nums_len ho)
    have HO := Lib.hid ho; clear ho
    go_enter Tryz.func57, Tryz.ntmps57
    go_wp2_with fail
    refine (rnumbers_is v _ hv _ HO.out).mono ?_
    rintro e w2 ⟨b2, ⟨h1, -⟩ | ⟨m, A, c, h1, rfl, hA, hF⟩⟩
    · cases h1
    obtain rfl : k = m := by injection h1
    clear h1
    have RB2 := RB.out.on hB b2
    have zf := RB2.cells 8 _ rfl
    have yf := RB2.free 8
    have PT := Lib.hid (RB2.put8 A c k hA (by have := HL.out; omega) (Far.fresh hF RB.out.lt) (hF.mono hB))
    have RB2 := Lib.hid RB2
    clear RB2
    go_wp2
    go_ret
    exact ⟨PT.out.below, grown_1 b2, .inr ⟨6, _, _, rfl, rfl, PT.out⟩⟩
set_option maxRecDepth 100000 in
set_option maxHeartbeats 8000000 in
theorem put7_is {B : Nat} {W w : World} {g : Nat} {S : RS} {r : Ru} (hR : RBox B W w g S r) (hB : B ≤ w.heap.size) (T : Tabs w) (nm v : ByteArray) (hv : v.size ≤ 100000) (hn : nm.data.toList = nameK 7) :
    Calls Tryz.prog 57 #[.pointer (some ⟨g, 0, none⟩), .string nm, .string v] w (TakeR B W w g r ((valOf 7 v.data.toList).map fun f => (7, f))) := by
  have q0 := nm_ne hn [70, 82, 69, 81] (by decide)
  have q1 := nm_ne hn [73, 78, 84, 69, 82, 86, 65, 76] (by decide)
  have q2 := nm_ne hn [67, 79, 85, 78, 84] (by decide)
  have q3 := nm_ne hn [85, 78, 84, 73, 76] (by decide)
  have q4 := nm_ne hn [66, 89, 77, 79, 78, 84, 72] (by decide)
  have q5 := nm_ne hn [66, 89, 87, 69, 69, 75, 78, 79] (by decide)
  have q6 := nm_ne hn [66, 89, 89, 69, 65, 82, 68, 65, 89] (by decide)
  have q7 := nm_eq hn [66, 89, 77, 79, 78, 84, 72, 68, 65, 89] rfl
  have RB := Lib.hid hR
  have TT := Lib.hid T
  clear hR T hn
  rw [show valOf 7 v.data.toList = (numsOf v.data.toList).map Fl.list from rfl]
  cases ho : numsOf v.data.toList with
  | none =>
    have HO := Lib.hid ho; clear ho
    go_enter Tryz.func57, Tryz.ntmps57
    go_wp2_with fail
    refine (rnumbers_is v _ hv _ HO.out).mono ?_
    rintro e w2 ⟨b2, ⟨-, rfl⟩ | ⟨m, A, c, h1, -⟩⟩
    rotate_left
    · cases h1
    have RB2 := RB.out.on hB b2
    have zf := RB2.cells 9 _ rfl
    have yf := RB2.free 9
    have PT := Lib.hid (RB2.put9 none 0 [] ⟨rfl, fun h => absurd h (by simp)⟩ (by simp) (Far.none g) (Fresh.none B))
    have RB2 := Lib.hid RB2
    clear RB2
    go_wp2
    go_ret
    exact ⟨PT.out.below, grown_1 b2, .inl ⟨rfl, rfl⟩⟩
  | some k =>
    have HL := Lib.hid (nums_len ho)
    have HO := Lib.hid ho; clear ho
    go_enter Tryz.func57, Tryz.ntmps57
    go_wp2_with fail
    refine (rnumbers_is v _ hv _ HO.out).mono ?_
    rintro e w2 ⟨b2, ⟨h1, -⟩ | ⟨m, A, c, h1, rfl, hA, hF⟩⟩
    · cases h1
    obtain rfl : k = m := by injection h1
    clear h1
    have RB2 := RB.out.on hB b2
    have zf := RB2.cells 9 _ rfl
    have yf := RB2.free 9
    have PT := Lib.hid (RB2.put9 A c k hA (by have := HL.out; omega) (Far.fresh hF RB.out.lt) (hF.mono hB))
    have RB2 := Lib.hid RB2
    clear RB2
    go_wp2
    go_ret
    exact ⟨PT.out.below, grown_1 b2, .inr ⟨7, _, _, rfl, rfl, PT.out⟩⟩
set_option maxRecDepth 100000 in
set_option maxHeartbeats 8000000 in
theorem put8_is {B : Nat} {W w : World} {g : Nat} {S : RS} {r : Ru} (hR : RBox B W w g S r) (hB : B ≤ w.heap.size) (T : Tabs w) (nm v : ByteArray) (hv : v.size ≤ 100000) (hn : nm.data.toList = nameK 8) :
    Calls Tryz.prog 57 #[.pointer (some ⟨g, 0, none⟩), .string nm, .string v] w (TakeR B W w g r ((valOf 8 v.data.toList).map fun f => (8, f))) := by
  have q0 := nm_ne hn [70, 82, 69, 81] (by decide)
  have q1 := nm_ne hn [73, 78, 84, 69, 82, 86, 65, 76] (by decide)
  have q2 := nm_ne hn [67, 79, 85, 78, 84] (by decide)
  have q3 := nm_ne hn [85, 78, 84, 73, 76] (by decide)
  have q4 := nm_ne hn [66, 89, 77, 79, 78, 84, 72] (by decide)
  have q5 := nm_ne hn [66, 89, 87, 69, 69, 75, 78, 79] (by decide)
  have q6 := nm_ne hn [66, 89, 89, 69, 65, 82, 68, 65, 89] (by decide)
  have q7 := nm_ne hn [66, 89, 77, 79, 78, 84, 72, 68, 65, 89] (by decide)
  have q8 := nm_eq hn [66, 89, 68, 65, 89] rfl
  have RB := Lib.hid hR
  have TT := Lib.hid T
  clear hR T hn
  rw [valOf_8]
  cases ho : daysOf v.data.toList with
  | none =>
    have HO := Lib.hid ho; clear ho
    go_enter Tryz.func57, Tryz.ntmps57
    go_wp2_with fail
    refine (rdays_is v _ hv _ HO.out).mono ?_
    rintro e w2 ⟨b2, ⟨-, rfl⟩ | ⟨m, A, c, h1, -⟩⟩
    rotate_left
    · cases h1
    have RB2 := RB.out.on hB b2
    have zf := RB2.cells 10 _ rfl
    have yf := RB2.free 10
    have PT := Lib.hid (RB2.put10 none 0 [] ⟨rfl, fun h => absurd h (by simp)⟩ (by simp) (Far.none g) (Fresh.none B))
    have RB2 := Lib.hid RB2
    clear RB2
    go_wp2
    go_ret
    exact ⟨PT.out.below, grown_1 b2, .inl ⟨rfl, rfl⟩⟩
  | some k =>
    have HL := Lib.hid (days_len60 ho)
    have HO := Lib.hid ho; clear ho
    go_enter Tryz.func57, Tryz.ntmps57
    go_wp2_with fail
    refine (rdays_is v _ hv _ HO.out).mono ?_
    rintro e w2 ⟨b2, ⟨h1, -⟩ | ⟨m, A, c, h1, rfl, hA, hF⟩⟩
    · cases h1
    obtain rfl : k = m := by injection h1
    clear h1
    have RB2 := RB.out.on hB b2
    have zf := RB2.cells 10 _ rfl
    have yf := RB2.free 10
    have PT := Lib.hid (RB2.put10 A c k hA (by have := HL.out; omega) (Far.fresh hF RB.out.lt) (hF.mono hB))
    have RB2 := Lib.hid RB2
    clear RB2
    go_wp2
    go_ret
    exact ⟨PT.out.below, grown_1 b2, .inr ⟨8, _, _, rfl, rfl, PT.out⟩⟩
set_option maxRecDepth 100000 in
set_option maxHeartbeats 8000000 in
theorem put9_is {B : Nat} {W w : World} {g : Nat} {S : RS} {r : Ru} (hR : RBox B W w g S r) (hB : B ≤ w.heap.size) (T : Tabs w) (nm v : ByteArray) (hv : v.size ≤ 100000) (hn : nm.data.toList = nameK 9) :
    Calls Tryz.prog 57 #[.pointer (some ⟨g, 0, none⟩), .string nm, .string v] w (TakeR B W w g r ((valOf 9 v.data.toList).map fun f => (9, f))) := by
  have q0 := nm_ne hn [70, 82, 69, 81] (by decide)
  have q1 := nm_ne hn [73, 78, 84, 69, 82, 86, 65, 76] (by decide)
  have q2 := nm_ne hn [67, 79, 85, 78, 84] (by decide)
  have q3 := nm_ne hn [85, 78, 84, 73, 76] (by decide)
  have q4 := nm_ne hn [66, 89, 77, 79, 78, 84, 72] (by decide)
  have q5 := nm_ne hn [66, 89, 87, 69, 69, 75, 78, 79] (by decide)
  have q6 := nm_ne hn [66, 89, 89, 69, 65, 82, 68, 65, 89] (by decide)
  have q7 := nm_ne hn [66, 89, 77, 79, 78, 84, 72, 68, 65, 89] (by decide)
  have q8 := nm_ne hn [66, 89, 68, 65, 89] (by decide)
  have q9 := nm_eq hn [66, 89, 72, 79, 85, 82] rfl
  have RB := Lib.hid hR
  have TT := Lib.hid T
  clear hR T hn
  rw [show valOf 9 v.data.toList = (numsOf v.data.toList).map Fl.list from rfl]
  cases ho : numsOf v.data.toList with
  | none =>
    have HO := Lib.hid ho; clear ho
    go_enter Tryz.func57, Tryz.ntmps57
    go_wp2_with fail
    refine (rnumbers_is v _ hv _ HO.out).mono ?_
    rintro e w2 ⟨b2, ⟨-, rfl⟩ | ⟨m, A, c, h1, -⟩⟩
    rotate_left
    · cases h1
    have RB2 := RB.out.on hB b2
    have zf := RB2.cells 11 _ rfl
    have yf := RB2.free 11
    have PT := Lib.hid (RB2.put11 none 0 [] ⟨rfl, fun h => absurd h (by simp)⟩ (by simp) (Far.none g) (Fresh.none B))
    have RB2 := Lib.hid RB2
    clear RB2
    go_wp2
    go_ret
    exact ⟨PT.out.below, grown_1 b2, .inl ⟨rfl, rfl⟩⟩
  | some k =>
    have HL := Lib.hid (nums_len ho)
    have HO := Lib.hid ho; clear ho
    go_enter Tryz.func57, Tryz.ntmps57
    go_wp2_with fail
    refine (rnumbers_is v _ hv _ HO.out).mono ?_
    rintro e w2 ⟨b2, ⟨h1, -⟩ | ⟨m, A, c, h1, rfl, hA, hF⟩⟩
    · cases h1
    obtain rfl : k = m := by injection h1
    clear h1
    have RB2 := RB.out.on hB b2
    have zf := RB2.cells 11 _ rfl
    have yf := RB2.free 11
    have PT := Lib.hid (RB2.put11 A c k hA (by have := HL.out; omega) (Far.fresh hF RB.out.lt) (hF.mono hB))
    have RB2 := Lib.hid RB2
    clear RB2
    go_wp2
    go_ret
    exact ⟨PT.out.below, grown_1 b2, .inr ⟨9, _, _, rfl, rfl, PT.out⟩⟩
set_option maxRecDepth 100000 in
set_option maxHeartbeats 8000000 in
theorem put10_is {B : Nat} {W w : World} {g : Nat} {S : RS} {r : Ru} (hR : RBox B W w g S r) (hB : B ≤ w.heap.size) (T : Tabs w) (nm v : ByteArray) (hv : v.size ≤ 100000) (hn : nm.data.toList = nameK 10) :
    Calls Tryz.prog 57 #[.pointer (some ⟨g, 0, none⟩), .string nm, .string v] w (TakeR B W w g r ((valOf 10 v.data.toList).map fun f => (10, f))) := by
  have q0 := nm_ne hn [70, 82, 69, 81] (by decide)
  have q1 := nm_ne hn [73, 78, 84, 69, 82, 86, 65, 76] (by decide)
  have q2 := nm_ne hn [67, 79, 85, 78, 84] (by decide)
  have q3 := nm_ne hn [85, 78, 84, 73, 76] (by decide)
  have q4 := nm_ne hn [66, 89, 77, 79, 78, 84, 72] (by decide)
  have q5 := nm_ne hn [66, 89, 87, 69, 69, 75, 78, 79] (by decide)
  have q6 := nm_ne hn [66, 89, 89, 69, 65, 82, 68, 65, 89] (by decide)
  have q7 := nm_ne hn [66, 89, 77, 79, 78, 84, 72, 68, 65, 89] (by decide)
  have q8 := nm_ne hn [66, 89, 68, 65, 89] (by decide)
  have q9 := nm_ne hn [66, 89, 72, 79, 85, 82] (by decide)
  have q10 := nm_eq hn [66, 89, 77, 73, 78, 85, 84, 69] rfl
  have RB := Lib.hid hR
  have TT := Lib.hid T
  clear hR T hn
  rw [show valOf 10 v.data.toList = (numsOf v.data.toList).map Fl.list from rfl]
  cases ho : numsOf v.data.toList with
  | none =>
    have HO := Lib.hid ho; clear ho
    go_enter Tryz.func57, Tryz.ntmps57
    go_wp2_with fail
    refine (rnumbers_is v _ hv _ HO.out).mono ?_
    rintro e w2 ⟨b2, ⟨-, rfl⟩ | ⟨m, A, c, h1, -⟩⟩
    rotate_left
    · cases h1
    have RB2 := RB.out.on hB b2
    have zf := RB2.cells 12 _ rfl
    have yf := RB2.free 12
    have PT := Lib.hid (RB2.put12 none 0 [] ⟨rfl, fun h => absurd h (by simp)⟩ (by simp) (Far.none g) (Fresh.none B))
    have RB2 := Lib.hid RB2
    clear RB2
    go_wp2
    go_ret
    exact ⟨PT.out.below, grown_1 b2, .inl ⟨rfl, rfl⟩⟩
  | some k =>
    have HL := Lib.hid (nums_len ho)
    have HO := Lib.hid ho; clear ho
    go_enter Tryz.func57, Tryz.ntmps57
    go_wp2_with fail
    refine (rnumbers_is v _ hv _ HO.out).mono ?_
    rintro e w2 ⟨b2, ⟨h1, -⟩ | ⟨m, A, c, h1, rfl, hA, hF⟩⟩
    · cases h1
    obtain rfl : k = m := by injection h1
    clear h1
    have RB2 := RB.out.on hB b2
    have zf := RB2.cells 12 _ rfl
    have yf := RB2.free 12
    have PT := Lib.hid (RB2.put12 A c k hA (by have := HL.out; omega) (Far.fresh hF RB.out.lt) (hF.mono hB))
    have RB2 := Lib.hid RB2
    clear RB2
    go_wp2
    go_ret
    exact ⟨PT.out.below, grown_1 b2, .inr ⟨10, _, _, rfl, rfl, PT.out⟩⟩
set_option maxRecDepth 100000 in
set_option maxHeartbeats 8000000 in
theorem put11_is {B : Nat} {W w : World} {g : Nat} {S : RS} {r : Ru} (hR : RBox B W w g S r) (hB : B ≤ w.heap.size) (T : Tabs w) (nm v : ByteArray) (hv : v.size ≤ 100000) (hn : nm.data.toList = nameK 11) :
    Calls Tryz.prog 57 #[.pointer (some ⟨g, 0, none⟩), .string nm, .string v] w (TakeR B W w g r ((valOf 11 v.data.toList).map fun f => (11, f))) := by
  have q0 := nm_ne hn [70, 82, 69, 81] (by decide)
  have q1 := nm_ne hn [73, 78, 84, 69, 82, 86, 65, 76] (by decide)
  have q2 := nm_ne hn [67, 79, 85, 78, 84] (by decide)
  have q3 := nm_ne hn [85, 78, 84, 73, 76] (by decide)
  have q4 := nm_ne hn [66, 89, 77, 79, 78, 84, 72] (by decide)
  have q5 := nm_ne hn [66, 89, 87, 69, 69, 75, 78, 79] (by decide)
  have q6 := nm_ne hn [66, 89, 89, 69, 65, 82, 68, 65, 89] (by decide)
  have q7 := nm_ne hn [66, 89, 77, 79, 78, 84, 72, 68, 65, 89] (by decide)
  have q8 := nm_ne hn [66, 89, 68, 65, 89] (by decide)
  have q9 := nm_ne hn [66, 89, 72, 79, 85, 82] (by decide)
  have q10 := nm_ne hn [66, 89, 77, 73, 78, 85, 84, 69] (by decide)
  have q11 := nm_eq hn [66, 89, 83, 69, 67, 79, 78, 68] rfl
  have RB := Lib.hid hR
  have TT := Lib.hid T
  clear hR T hn
  rw [show valOf 11 v.data.toList = (numsOf v.data.toList).map Fl.list from rfl]
  cases ho : numsOf v.data.toList with
  | none =>
    have HO := Lib.hid ho; clear ho
    go_enter Tryz.func57, Tryz.ntmps57
    go_wp2_with fail
    refine (rnumbers_is v _ hv _ HO.out).mono ?_
    rintro e w2 ⟨b2, ⟨-, rfl⟩ | ⟨m, A, c, h1, -⟩⟩
    rotate_left
    · cases h1
    have RB2 := RB.out.on hB b2
    have zf := RB2.cells 13 _ rfl
    have yf := RB2.free 13
    have PT := Lib.hid (RB2.put13 none 0 [] ⟨rfl, fun h => absurd h (by simp)⟩ (by simp) (Far.none g) (Fresh.none B))
    have RB2 := Lib.hid RB2
    clear RB2
    go_wp2
    go_ret
    exact ⟨PT.out.below, grown_1 b2, .inl ⟨rfl, rfl⟩⟩
  | some k =>
    have HL := Lib.hid (nums_len ho)
    have HO := Lib.hid ho; clear ho
    go_enter Tryz.func57, Tryz.ntmps57
    go_wp2_with fail
    refine (rnumbers_is v _ hv _ HO.out).mono ?_
    rintro e w2 ⟨b2, ⟨h1, -⟩ | ⟨m, A, c, h1, rfl, hA, hF⟩⟩
    · cases h1
    obtain rfl : k = m := by injection h1
    clear h1
    have RB2 := RB.out.on hB b2
    have zf := RB2.cells 13 _ rfl
    have yf := RB2.free 13
    have PT := Lib.hid (RB2.put13 A c k hA (by have := HL.out; omega) (Far.fresh hF RB.out.lt) (hF.mono hB))
    have RB2 := Lib.hid RB2
    clear RB2
    go_wp2
    go_ret
    exact ⟨PT.out.below, grown_1 b2, .inr ⟨11, _, _, rfl, rfl, PT.out⟩⟩
set_option maxRecDepth 100000 in
set_option maxHeartbeats 8000000 in
theorem put12_is {B : Nat} {W w : World} {g : Nat} {S : RS} {r : Ru} (hR : RBox B W w g S r) (hB : B ≤ w.heap.size) (T : Tabs w) (nm v : ByteArray) (hv : v.size ≤ 100000) (hn : nm.data.toList = nameK 12) :
    Calls Tryz.prog 57 #[.pointer (some ⟨g, 0, none⟩), .string nm, .string v] w (TakeR B W w g r ((valOf 12 v.data.toList).map fun f => (12, f))) := by
  have q0 := nm_ne hn [70, 82, 69, 81] (by decide)
  have q1 := nm_ne hn [73, 78, 84, 69, 82, 86, 65, 76] (by decide)
  have q2 := nm_ne hn [67, 79, 85, 78, 84] (by decide)
  have q3 := nm_ne hn [85, 78, 84, 73, 76] (by decide)
  have q4 := nm_ne hn [66, 89, 77, 79, 78, 84, 72] (by decide)
  have q5 := nm_ne hn [66, 89, 87, 69, 69, 75, 78, 79] (by decide)
  have q6 := nm_ne hn [66, 89, 89, 69, 65, 82, 68, 65, 89] (by decide)
  have q7 := nm_ne hn [66, 89, 77, 79, 78, 84, 72, 68, 65, 89] (by decide)
  have q8 := nm_ne hn [66, 89, 68, 65, 89] (by decide)
  have q9 := nm_ne hn [66, 89, 72, 79, 85, 82] (by decide)
  have q10 := nm_ne hn [66, 89, 77, 73, 78, 85, 84, 69] (by decide)
  have q11 := nm_ne hn [66, 89, 83, 69, 67, 79, 78, 68] (by decide)
  have q12 := nm_eq hn [66, 89, 83, 69, 84, 80, 79, 83] rfl
  have RB := Lib.hid hR
  have TT := Lib.hid T
  clear hR T hn
  rw [show valOf 12 v.data.toList = (numsOf v.data.toList).map Fl.list from rfl]
  cases ho : numsOf v.data.toList with
  | none =>
    have HO := Lib.hid ho; clear ho
    go_enter Tryz.func57, Tryz.ntmps57
    go_wp2_with fail
    refine (rnumbers_is v _ hv _ HO.out).mono ?_
    rintro e w2 ⟨b2, ⟨-, rfl⟩ | ⟨m, A, c, h1, -⟩⟩
    rotate_left
    · cases h1
    have RB2 := RB.out.on hB b2
    have zf := RB2.cells 14 _ rfl
    have yf := RB2.free 14
    have PT := Lib.hid (RB2.put14 none 0 [] ⟨rfl, fun h => absurd h (by simp)⟩ (by simp) (Far.none g) (Fresh.none B))
    have RB2 := Lib.hid RB2
    clear RB2
    go_wp2
    go_ret
    exact ⟨PT.out.below, grown_1 b2, .inl ⟨rfl, rfl⟩⟩
  | some k =>
    have HL := Lib.hid (nums_len ho)
    have HO := Lib.hid ho; clear ho
    go_enter Tryz.func57, Tryz.ntmps57
    go_wp2_with fail
    refine (rnumbers_is v _ hv _ HO.out).mono ?_
    rintro e w2 ⟨b2, ⟨h1, -⟩ | ⟨m, A, c, h1, rfl, hA, hF⟩⟩
    · cases h1
    obtain rfl : k = m := by injection h1
    clear h1
    have RB2 := RB.out.on hB b2
    have zf := RB2.cells 14 _ rfl
    have yf := RB2.free 14
    have PT := Lib.hid (RB2.put14 A c k hA (by have := HL.out; omega) (Far.fresh hF RB.out.lt) (hF.mono hB))
    have RB2 := Lib.hid RB2
    clear RB2
    go_wp2
    go_ret
    exact ⟨PT.out.below, grown_1 b2, .inr ⟨12, _, _, rfl, rfl, PT.out⟩⟩
set_option maxRecDepth 100000 in
set_option maxHeartbeats 8000000 in
theorem put13_is {B : Nat} {W w : World} {g : Nat} {S : RS} {r : Ru} (hR : RBox B W w g S r) (hB : B ≤ w.heap.size) (T : Tabs w) (nm v : ByteArray) (hv : v.size ≤ 100000) (hn : nm.data.toList = nameK 13) :
    Calls Tryz.prog 57 #[.pointer (some ⟨g, 0, none⟩), .string nm, .string v] w (TakeR B W w g r ((valOf 13 v.data.toList).map fun f => (13, f))) := by
  have q0 := nm_ne hn [70, 82, 69, 81] (by decide)
  have q1 := nm_ne hn [73, 78, 84, 69, 82, 86, 65, 76] (by decide)
  have q2 := nm_ne hn [67, 79, 85, 78, 84] (by decide)
  have q3 := nm_ne hn [85, 78, 84, 73, 76] (by decide)
  have q4 := nm_ne hn [66, 89, 77, 79, 78, 84, 72] (by decide)
  have q5 := nm_ne hn [66, 89, 87, 69, 69, 75, 78, 79] (by decide)
  have q6 := nm_ne hn [66, 89, 89, 69, 65, 82, 68, 65, 89] (by decide)
  have q7 := nm_ne hn [66, 89, 77, 79, 78, 84, 72, 68, 65, 89] (by decide)
  have q8 := nm_ne hn [66, 89, 68, 65, 89] (by decide)
  have q9 := nm_ne hn [66, 89, 72, 79, 85, 82] (by decide)
  have q10 := nm_ne hn [66, 89, 77, 73, 78, 85, 84, 69] (by decide)
  have q11 := nm_ne hn [66, 89, 83, 69, 67, 79, 78, 68] (by decide)
  have q12 := nm_ne hn [66, 89, 83, 69, 84, 80, 79, 83] (by decide)
  have q13 := nm_eq hn [87, 75, 83, 84] rfl
  have RB := Lib.hid hR
  have TT := Lib.hid T
  clear hR T hn
  rw [valOf_13]
  cases ho : wdayOf v.data.toList with
  | none =>
    have HO := Lib.hid ho; clear ho
    go_enter Tryz.func57, Tryz.ntmps57
    go_wp2_with fail
    refine (wdays_is _).mono ?_
    rintro e w1 ⟨g0, rfl, hg, hc, b1⟩
    have SS := Lib.hid (words_at (f := wdayW) hg hc)
    clear hg hc
    go_wp2_with fail
    refine (word_is _ (some ⟨g0, 0, none⟩) 7 7 _ v SS.out (by decide) (-1) (wword_no HO.out)).mono ?_
    rintro e w2 ⟨rfl, b2⟩
    have b2 := b1.trans (b2.mono b1.size)
    have RB2 := RB.out.on hB b2
    have zf := RB2.cells 4 _ rfl
    have yf := RB2.free 4
    have PT := RB2.put4 (-1)
    have zh : (w2.setCell ⟨g, 4, none⟩ (.int .i64 (-1))).cell? ⟨g, 4, none⟩ = some (.int .i64 (-1)) := PT.cells 4 _ rfl
    have PT := Lib.hid PT
    have RB2 := Lib.hid RB2
    clear RB2
    go_wp2
    go_ret
    exact ⟨PT.out.below, grown_1 b2, .inl ⟨rfl, rfl⟩⟩
  | some k =>
    have HO := Lib.hid ho; clear ho
    go_enter Tryz.func57, Tryz.ntmps57
    go_wp2_with fail
    refine (wdays_is _).mono ?_
    rintro e w1 ⟨g0, rfl, hg, hc, b1⟩
    have SS := Lib.hid (words_at (f := wdayW) hg hc)
    clear hg hc
    go_wp2_with fail
    refine (word_is _ (some ⟨g0, 0, none⟩) 7 7 _ v SS.out (by decide) (k : Int) (wword_yes HO.out).1).mono ?_
    rintro e w2 ⟨rfl, b2⟩
    have KB := (wword_yes HO.out).2
    have tk : decide ((0 : Int) ≤ (k : Int)) = true := decide_eq_true (by omega)
    have tk2 : decide (0 ≤ k) = true := decide_eq_true (by omega)
    have b2 := b1.trans (b2.mono b1.size)
    have RB2 := RB.out.on hB b2
    have zf := RB2.cells 4 _ rfl
    have yf := RB2.free 4
    have PT := RB2.put4 (k : Int)
    have zh : (w2.setCell ⟨g, 4, none⟩ (.int .i64 (k : Int))).cell? ⟨g, 4, none⟩ = some (.int .i64 (k : Int)) := PT.cells 4 _ rfl
    have PT := Lib.hid PT
    have RB2 := Lib.hid RB2
    clear RB2
    go_wp2
    go_ret
    exact ⟨PT.out.below, grown_1 b2, .inr ⟨13, _, _, rfl, rfl, PT.out⟩⟩
set_option maxRecDepth 100000 in
set_option maxHeartbeats 8000000 in
theorem put_none_is (w : World) (p : Value) (nm v : ByteArray) (hn : keyOf nm.data.toList = none) :
    Calls Tryz.prog 57 #[p, .string nm, .string v] w fun e w' => e = .returned (.bool false) ∧ w = w' := by
  have q0 := nm_ne rfl [70, 82, 69, 81] (keyOf_no hn 0 (by decide))
  have q1 := nm_ne rfl [73, 78, 84, 69, 82, 86, 65, 76] (keyOf_no hn 1 (by decide))
  have q2 := nm_ne rfl [67, 79, 85, 78, 84] (keyOf_no hn 2 (by decide))
  have q3 := nm_ne rfl [85, 78, 84, 73, 76] (keyOf_no hn 3 (by decide))
  have q4 := nm_ne rfl [66, 89, 77, 79, 78, 84, 72] (keyOf_no hn 4 (by decide))
  have q5 := nm_ne rfl [66, 89, 87, 69, 69, 75, 78, 79] (keyOf_no hn 5 (by decide))
  have q6 := nm_ne rfl [66, 89, 89, 69, 65, 82, 68, 65, 89] (keyOf_no hn 6 (by decide))
  have q7 := nm_ne rfl [66, 89, 77, 79, 78, 84, 72, 68, 65, 89] (keyOf_no hn 7 (by decide))
  have q8 := nm_ne rfl [66, 89, 68, 65, 89] (keyOf_no hn 8 (by decide))
  have q9 := nm_ne rfl [66, 89, 72, 79, 85, 82] (keyOf_no hn 9 (by decide))
  have q10 := nm_ne rfl [66, 89, 77, 73, 78, 85, 84, 69] (keyOf_no hn 10 (by decide))
  have q11 := nm_ne rfl [66, 89, 83, 69, 67, 79, 78, 68] (keyOf_no hn 11 (by decide))
  have q12 := nm_ne rfl [66, 89, 83, 69, 84, 80, 79, 83] (keyOf_no hn 12 (by decide))
  have q13 := nm_ne rfl [87, 75, 83, 84] (keyOf_no hn 13 (by decide))
  clear hn
  go_enter Tryz.func57, Tryz.ntmps57
  go_wp2
  go_ret
  exact ⟨rfl, rfl⟩
theorem put_any_is {B : Nat} {W w : World} {g : Nat} {S : RS} {r : Ru} (hR : RBox B W w g S r) (hB : B ≤ w.heap.size) (T : Tabs w) (nm v : ByteArray) (hv : v.size ≤ 100000) :
    Calls Tryz.prog 57 #[.pointer (some ⟨g, 0, none⟩), .string nm, .string v] w (TakeR B W w g r (takeOf nm.data.toList v.data.toList)) := by
  unfold takeOf
  cases hk : keyOf nm.data.toList with
  | none =>
    refine (put_none_is w _ nm v hk).mono ?_
    rintro e w' ⟨rfl, rfl⟩
    exact ⟨hR.below, grown_0 (Below.refl _ _), .inl ⟨rfl, rfl⟩⟩
  | some k =>
    obtain ⟨hn, h14⟩ := keyOf_some hk
    simp only
    clear hk
    have hc : k = 0 ∨ k = 1 ∨ k = 2 ∨ k = 3 ∨ k = 4 ∨ k = 5 ∨ k = 6 ∨ k = 7 ∨ k = 8 ∨ k = 9 ∨ k = 10 ∨ k = 11 ∨ k = 12 ∨ k = 13 := by omega
    rcases hc with rfl | rfl | rfl | rfl | rfl | rfl | rfl | rfl | rfl | rfl | rfl | rfl | rfl | rfl
    · exact put0_is hR hB T nm v hv hn
    · exact put1_is hR hB T nm v hv hn
    · exact put2_is hR hB T nm v hv hn
    · exact put3_is hR hB T nm v hv hn
    · exact put4_is hR hB T nm v hv hn
    · exact put5_is hR hB T nm v hv hn
    · exact put6_is hR hB T nm v hv hn
    · exact put7_is hR hB T nm v hv hn
    · exact put8_is hR hB T nm v hv hn
    · exact put9_is hR hB T nm v hv hn
    · exact put10_is hR hB T nm v hv hn
    · exact put11_is hR hB T nm v hv hn
    · exact put12_is hR hB T nm v hv hn
    · exact put13_is hR hB T nm v hv hn
end Go.Proofs.YtajgagmpdhmbkaaGreatDoor.Ru
