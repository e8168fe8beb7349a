/- What rule.take answers. rule.take, name by name. rule.take, name by name. rule.take, name by name. rule.take, name by name. rule.take. -/
import Derived.Test.YtkkmhjplfpdhcaaGreatDoorRuBox
set_option linter.unusedVariables false
namespace Go.Proofs.YtkkmhjplfpdhcaaGreatDoor.Ru
open Go.RowKit Cv St

theorem nm_ne {s : ByteArray} {l : List UInt8} (h : s.data.toList = l) (z : List UInt8) (hz : l ≠ z) : (s.toList == z) = false := by
  rw [ByteArray.toList_eq, h, beq_eq_false_iff_ne]; exact hz
theorem nm_eq {s : ByteArray} {l : List UInt8} (h : s.data.toList = l) (z : List UInt8) (hz : l = z) : (s.toList == z) = true := by
  rw [ByteArray.toList_eq, h, hz]; exact beq_self_eq_true _
/-- a part's key and value -/
noncomputable def takeOf (n v : List UInt8) : Option (Nat × Fl) := match keyOf n with | none => none | some k => (valOf k v).map fun f => (k, f)
def TakeR (B : Nat) (W w : World) (g : Nat) (r : Ru) (o : Option (Nat × Fl)) (e : Ending) (w' : World) : Prop :=
  Below B W w' ∧ w.grownBy w' (some g) ∧ ((o = none ∧ e = .returned (.bool false)) ∨ ∃ k f S', o = some (k, f) ∧ e = .returned (.bool true) ∧ RBox B W w' g S' (setF r k f))
theorem freq_no (s : ByteArray) (w : World) (T : Tabs w) (h : freqOf s.data.toList = none) : Calls Tryz.prog 117 #[.string s] w fun e w' => e = .returned (.tuple #[.int .i64 0, .bool false]) ∧ w = w' := freq_any s w T none h
theorem freq_yes (s : ByteArray) (w : World) (T : Tabs w) (k : Nat) (h : freqOf s.data.toList = some k) : Calls Tryz.prog 117 #[.string s] w fun e w' => e = .returned (.tuple #[.int .i64 k, .bool true]) ∧ w = w' := freq_any s w T (some k) h
theorem listD_is (s : ByteArray) (w : World) (T : Tabs w) (hs : s.size ≤ 1000000) (o : Option (List Dy)) (ho : daysOf s.data.toList = o) :
    Calls Tryz.prog 121 #[.string s, .func (.func 122) #[] #[], .func (.func 123) #[] #[]] w (ListD o w) := ho ▸ listD_any s w T hs
theorem numbers_is (s : ByteArray) (w : World) (T : Tabs w) (hs : s.size ≤ 1000000) (o : Option (List Int)) (ho : numsOf s.data.toList = o) :
    Calls Tryz.prog 120 #[.string s] w (ListI o w) := ho ▸ numbers_any s w T hs
theorem sortU_len {α : Type} (lt : α → α → Bool) (l : List α) : (sortU lt l).length ≤ l.length := by
  have : ∀ (l a : List α), (l.foldl (fun a x => ins lt x a) a).length ≤ a.length + l.length := by
    intro l
    induction l with
    | nil => intro a; simp
    | cons x l ih =>
      intro a
      have h1 := ih (ins lt x a)
      have h2 := len_ins (lt := lt) (x := x) (l := a)
      rw [List.foldl_cons, List.length_cons]; omega
  simpa [sortU] using this l []
theorem nums_len {l : List UInt8} {m : List Int} (h : numsOf l = some m) : m.length ≤ 60 := by
  unfold numsOf at h
  split at h
  · cases h
  · cases ha : allSome numOf (cutAt 44 l) with
    | none => rw [ha] at h; cases h
    | some acc =>
      rw [ha] at h
      injection h with h; subst h
      have h1 := sortU_len iltB acc
      have h2 := allSome_len ha
      omega
theorem days_len60 {l : List UInt8} {m : List Dy} (h : daysOf l = some m) : m.length ≤ 60 := by
  unfold daysOf at h
  split at h
  · cases h
  · cases ha : allSome dayOf (cutAt 44 l) with
    | none => rw [ha] at h; cases h
    | some acc =>
      rw [ha] at h
      injection h with h; subst h
      have h1 := sortU_len dltB acc
      have h2 := allSome_len ha
      omega
end Go.Proofs.YtkkmhjplfpdhcaaGreatDoor.Ru
set_option linter.unusedVariables false
namespace Go.Proofs.YtkkmhjplfpdhcaaGreatDoor.Ru
open Go.RowKit Cv St
set_option maxRecDepth 100000 in
set_option maxHeartbeats 8000000 in
theorem take0 {B : Nat} {W w : World} {g : Nat} {S : RS} {r : Ru} (hR : RBox B W w g S r) (hB : B ≤ w.heap.size) (T : Tabs w) (nm v : ByteArray) (hv : v.size ≤ 1000000) (hn : nm.data.toList = nameK 0) :
    Calls Tryz.prog 88 #[.pointer (some ⟨g, 0, none⟩), .string nm, .string v] w (TakeR B W w g r ((valOf 0 v.data.toList).map fun f => (0, f))) := by
  have q0 := nm_eq hn [70, 82, 69, 81] rfl
  have RB := Lib.hid hR
  have TT := Lib.hid T
  clear hR T hn
  rw [valOf_0]
  cases ho : freqOf v.data.toList with
  | none =>
    have HO := Lib.hid ho; clear ho
    go_enter Tryz.func88, Tryz.ntmps88
    go_wp2_with fail
    refine (freq_no v _ TT.out HO.out).mono ?_
    rintro e w2 ⟨rfl, rfl⟩
    have RB2 := RB.out
    have zf := RB2.cells 0 _ rfl
    have yf := RB2.free 0
    have PT := Lib.hid (RB2.put0 0)
    have RB2 := Lib.hid RB2
    clear RB2
    go_wp2
    go_ret
    exact ⟨PT.out.below, grown_1 (Below.refl _ _), .inl ⟨rfl, rfl⟩⟩
  | some k =>
    have HO := Lib.hid ho; clear ho
    go_enter Tryz.func88, Tryz.ntmps88
    go_wp2_with fail
    refine (freq_yes v _ TT.out k HO.out).mono ?_
    rintro e w2 ⟨rfl, rfl⟩
    have RB2 := RB.out
    have zf := RB2.cells 0 _ rfl
    have yf := RB2.free 0
    have PT := Lib.hid (RB2.put0 (k : Int))
    have RB2 := Lib.hid RB2
    clear RB2
    go_wp2
    go_ret
    exact ⟨PT.out.below, grown_1 (Below.refl _ _), .inr ⟨0, _, _, rfl, rfl, PT.out⟩⟩
set_option maxRecDepth 100000 in
set_option maxHeartbeats 8000000 in
theorem take1 {B : Nat} {W w : World} {g : Nat} {S : RS} {r : Ru} (hR : RBox B W w g S r) (hB : B ≤ w.heap.size) (T : Tabs w) (nm v : ByteArray) (hv : v.size ≤ 1000000) (hn : nm.data.toList = nameK 1) :
    Calls Tryz.prog 88 #[.pointer (some ⟨g, 0, none⟩), .string nm, .string v] w (TakeR B W w g r ((valOf 1 v.data.toList).map fun f => (1, f))) := by
  have q0 := nm_ne hn [70, 82, 69, 81] (by decide)
  have q1 := nm_eq hn [73, 78, 84, 69, 82, 86, 65, 76] rfl
  have RB := Lib.hid hR
  have TT := Lib.hid T
  clear hR T hn
  rw [valOf_1]
  cases ho : numOf v.data.toList with
  | none =>
    have HO := Lib.hid ho; clear ho
    go_enter Tryz.func88, Tryz.ntmps88
    go_wp2_with fail
    refine (number_none v _ TT.out hv HO.out).mono ?_
    rintro e w2 ⟨rfl, b2⟩
    have RB2 := RB.out.on hB b2
    have zf := RB2.cells 1 _ rfl
    have yf := RB2.free 1
    have PT := Lib.hid (RB2.put1 0)
    have RB2 := Lib.hid RB2
    clear RB2
    go_wp2
    go_ret
    exact ⟨PT.out.below, grown_1 b2, .inl ⟨rfl, rfl⟩⟩
  | some k =>
    have HO := Lib.hid ho; clear ho
    go_enter Tryz.func88, Tryz.ntmps88
    go_wp2_with fail
    refine (number_some v k _ TT.out hv HO.out).mono ?_
    rintro e w2 ⟨rfl, b2⟩
    have RB2 := RB.out.on hB b2
    have zf := RB2.cells 1 _ rfl
    have yf := RB2.free 1
    have PT := Lib.hid (RB2.put1 k)
    have RB2 := Lib.hid RB2
    clear RB2
    go_wp2
    go_ret
    exact ⟨PT.out.below, grown_1 b2, .inr ⟨1, _, _, rfl, rfl, PT.out⟩⟩
set_option maxRecDepth 100000 in
set_option maxHeartbeats 8000000 in
theorem take2 {B : Nat} {W w : World} {g : Nat} {S : RS} {r : Ru} (hR : RBox B W w g S r) (hB : B ≤ w.heap.size) (T : Tabs w) (nm v : ByteArray) (hv : v.size ≤ 1000000) (hn : nm.data.toList = nameK 2) :
    Calls Tryz.prog 88 #[.pointer (some ⟨g, 0, none⟩), .string nm, .string v] w (TakeR B W w g r ((valOf 2 v.data.toList).map fun f => (2, f))) := by
  have q0 := nm_ne hn [70, 82, 69, 81] (by decide)
  have q1 := nm_ne hn [73, 78, 84, 69, 82, 86, 65, 76] (by decide)
  have q2 := nm_eq hn [67, 79, 85, 78, 84] rfl
  have RB := Lib.hid hR
  have TT := Lib.hid T
  clear hR T hn
  rw [valOf_2]
  cases ho : numOf v.data.toList with
  | none =>
    have HO := Lib.hid ho; clear ho
    go_enter Tryz.func88, Tryz.ntmps88
    go_wp2_with fail
    refine (number_none v _ TT.out hv HO.out).mono ?_
    rintro e w2 ⟨rfl, b2⟩
    have RB2 := RB.out.on hB b2
    have zf := RB2.cells 2 _ rfl
    have yf := RB2.free 2
    have PT := Lib.hid (RB2.put2 0)
    have RB2 := Lib.hid RB2
    clear RB2
    go_wp2
    go_ret
    exact ⟨PT.out.below, grown_1 b2, .inl ⟨rfl, rfl⟩⟩
  | some k =>
    have HO := Lib.hid ho; clear ho
    go_enter Tryz.func88, Tryz.ntmps88
    go_wp2_with fail
    refine (number_some v k _ TT.out hv HO.out).mono ?_
    rintro e w2 ⟨rfl, b2⟩
    have RB2 := RB.out.on hB b2
    have zf := RB2.cells 2 _ rfl
    have yf := RB2.free 2
    have PT := Lib.hid (RB2.put2 k)
    have RB2 := Lib.hid RB2
    clear RB2
    go_wp2
    go_ret
    exact ⟨PT.out.below, grown_1 b2, .inr ⟨2, _, _, rfl, rfl, PT.out⟩⟩
set_option maxRecDepth 100000 in
set_option maxHeartbeats 8000000 in
theorem take3 {B : Nat} {W w : World} {g : Nat} {S : RS} {r : Ru} (hR : RBox B W w g S r) (hB : B ≤ w.heap.size) (T : Tabs w) (nm v : ByteArray) (hv : v.size ≤ 1000000) (hn : nm.data.toList = nameK 3) :
    Calls Tryz.prog 88 #[.pointer (some ⟨g, 0, none⟩), .string nm, .string v] w (TakeR B W w g r ((valOf 3 v.data.toList).map fun f => (3, f))) := by
  have q0 := nm_ne hn [70, 82, 69, 81] (by decide)
  have q1 := nm_ne hn [73, 78, 84, 69, 82, 86, 65, 76] (by decide)
  have q2 := nm_ne hn [67, 79, 85, 78, 84] (by decide)
  have q3 := nm_eq hn [85, 78, 84, 73, 76] rfl
  have RB := Lib.hid hR
  have TT := Lib.hid T
  clear hR T hn
  rw [valOf_3]
  cases ho : tilOf v.data.toList with
  | none =>
    have HO := Lib.hid ho; clear ho
    go_enter Tryz.func88, Tryz.ntmps88
    go_wp2_with fail
    refine (moment_none v _ hv HO.out).mono ?_
    rintro e w2 ⟨⟨k, rfl⟩, b2⟩
    have RB2 := RB.out.on hB b2
    have zf := RB2.cells 3 _ rfl
    have yf := RB2.free 3
    have zg := RB2.cells 5 _ rfl
    have yg := RB2.free 5
    have PT := (RB2.put3 k).put5 false
    have zh := PT.cells 5 _ rfl
    have PT := Lib.hid PT
    have RB2 := Lib.hid RB2
    clear RB2
    go_wp2
    go_ret
    exact ⟨PT.out.below, grown_2 b2, .inl ⟨rfl, rfl⟩⟩
  | some k =>
    have HO := Lib.hid ho; clear ho
    go_enter Tryz.func88, Tryz.ntmps88
    go_wp2_with fail
    refine (moment_some v k _ hv HO.out).mono ?_
    rintro e w2 ⟨rfl, b2⟩
    have RB2 := RB.out.on hB b2
    have zf := RB2.cells 3 _ rfl
    have yf := RB2.free 3
    have zg := RB2.cells 5 _ rfl
    have yg := RB2.free 5
    have PT := (RB2.put3 k).put5 true
    have zh := PT.cells 5 _ rfl
    have PT := Lib.hid PT
    have RB2 := Lib.hid RB2
    clear RB2
    go_wp2
    go_ret
    exact ⟨PT.out.below, grown_2 b2, .inr ⟨3, _, _, rfl, rfl, PT.out⟩⟩
set_option maxRecDepth 100000 in
set_option maxHeartbeats 8000000 in
theorem take4 {B : Nat} {W w : World} {g : Nat} {S : RS} {r : Ru} (hR : RBox B W w g S r) (hB : B ≤ w.heap.size) (T : Tabs w) (nm v : ByteArray) (hv : v.size ≤ 1000000) (hn : nm.data.toList = nameK 4) :
    Calls Tryz.prog 88 #[.pointer (some ⟨g, 0, none⟩), .string nm, .string v] w (TakeR B W w g r ((valOf 4 v.data.toList).map fun f => (4, f))) := by
  have q0 := nm_ne hn [70, 82, 69, 81] (by decide)
  have q1 := nm_ne hn [73, 78, 84, 69, 82, 86, 65, 76] (by decide)
  have q2 := nm_ne hn [67, 79, 85, 78, 84] (by decide)
  have q3 := nm_ne hn [85, 78, 84, 73, 76] (by decide)
  have q4 := nm_eq hn [66, 89, 77, 79, 78, 84, 72] rfl
  have RB := Lib.hid hR
  have TT := Lib.hid T
  clear hR T hn
  rw [show valOf 4 v.data.toList = (numsOf v.data.toList).map Fl.list from rfl]
  cases ho : numsOf v.data.toList with
  | none =>
    have HO := Lib.hid ho; clear ho
    go_enter Tryz.func88, Tryz.ntmps88
    go_wp2_with fail
    refine (numbers_is v _ TT.out hv _ HO.out).mono ?_
    rintro e w2 ⟨b2, ⟨-, rfl⟩ | ⟨m, A, c, h1, -⟩⟩
    rotate_left
    · cases h1
    have RB2 := RB.out.on hB b2
    have zf := RB2.cells 6 _ rfl
    have yf := RB2.free 6
    have PT := Lib.hid (RB2.put6 none 0 [] ⟨rfl, fun h => absurd h (by simp)⟩ (by simp) (Far.none g) (Fresh.none B))
    have RB2 := Lib.hid RB2
    clear RB2
    go_wp2
    go_ret
    exact ⟨PT.out.below, grown_1 b2, .inl ⟨rfl, rfl⟩⟩
  | some k =>
    have HL := Lib.hid (nums_len ho)
    have HO := Lib.hid ho; clear ho
    go_enter Tryz.func88, Tryz.ntmps88
    go_wp2_with fail
    refine (numbers_is v _ TT.out hv _ HO.out).mono ?_
    rintro e w2 ⟨b2, ⟨h1, -⟩ | ⟨m, A, c, h1, rfl, hA, hF⟩⟩
    · cases h1
    obtain rfl : k = m := by injection h1
    clear h1
    have RB2 := RB.out.on hB b2
    have zf := RB2.cells 6 _ rfl
    have yf := RB2.free 6
    have PT := Lib.hid (RB2.put6 A c k hA (by have := HL.out; omega) (Far.fresh hF RB.out.lt) (hF.mono hB))
    have RB2 := Lib.hid RB2
    clear RB2
    go_wp2
    go_ret
    exact ⟨PT.out.below, grown_1 b2, .inr ⟨4, _, _, rfl, rfl, PT.out⟩⟩
end Go.Proofs.YtkkmhjplfpdhcaaGreatDoor.Ru
set_option linter.unusedVariables false
namespace Go.Proofs.YtkkmhjplfpdhcaaGreatDoor.Ru
open Go.RowKit Cv St
set_option maxRecDepth 100000 in
set_option maxHeartbeats 8000000 in
theorem take5 {B : Nat} {W w : World} {g : Nat} {S : RS} {r : Ru} (hR : RBox B W w g S r) (hB : B ≤ w.heap.size) (T : Tabs w) (nm v : ByteArray) (hv : v.size ≤ 1000000) (hn : nm.data.toList = nameK 5) :
    Calls Tryz.prog 88 #[.pointer (some ⟨g, 0, none⟩), .string nm, .string v] w (TakeR B W w g r ((valOf 5 v.data.toList).map fun f => (5, f))) := by
  have q0 := nm_ne hn [70, 82, 69, 81] (by decide)
  have q1 := nm_ne hn [73, 78, 84, 69, 82, 86, 65, 76] (by decide)
  have q2 := nm_ne hn [67, 79, 85, 78, 84] (by decide)
  have q3 := nm_ne hn [85, 78, 84, 73, 76] (by decide)
  have q4 := nm_ne hn [66, 89, 77, 79, 78, 84, 72] (by decide)
  have q5 := nm_eq hn [66, 89, 87, 69, 69, 75, 78, 79] rfl
  have RB := Lib.hid hR
  have TT := Lib.hid T
  clear hR T hn
  rw [show valOf 5 v.data.toList = (numsOf v.data.toList).map Fl.list from rfl]
  cases ho : numsOf v.data.toList with
  | none =>
    have HO := Lib.hid ho; clear ho
    go_enter Tryz.func88, Tryz.ntmps88
    go_wp2_with fail
    refine (numbers_is v _ TT.out hv _ HO.out).mono ?_
    rintro e w2 ⟨b2, ⟨-, rfl⟩ | ⟨m, A, c, h1, -⟩⟩
    rotate_left
    · cases h1
    have RB2 := RB.out.on hB b2
    have zf := RB2.cells 7 _ rfl
    have yf := RB2.free 7
    have PT := Lib.hid (RB2.put7 none 0 [] ⟨rfl, fun h => absurd h (by simp)⟩ (by simp) (Far.none g) (Fresh.none B))
    have RB2 := Lib.hid RB2
    clear RB2
    go_wp2
    go_ret
    exact ⟨PT.out.below, grown_1 b2, .inl ⟨rfl, rfl⟩⟩
  | some k =>
    have HL := Lib.hid (nums_len ho)
    have HO := Lib.hid ho; clear ho
    go_enter Tryz.func88, Tryz.ntmps88
    go_wp2_with fail
    refine (numbers_is v _ TT.out hv _ HO.out).mono ?_
    rintro e w2 ⟨b2, ⟨h1, -⟩ | ⟨m, A, c, h1, rfl, hA, hF⟩⟩
    · cases h1
    obtain rfl : k = m := by injection h1
    clear h1
    have RB2 := RB.out.on hB b2
    have zf := RB2.cells 7 _ rfl
    have yf := RB2.free 7
    have PT := Lib.hid (RB2.put7 A c k hA (by have := HL.out; omega) (Far.fresh hF RB.out.lt) (hF.mono hB))
    have RB2 := Lib.hid RB2
    clear RB2
    go_wp2
    go_ret
    exact ⟨PT.out.below, grown_1 b2, .inr ⟨5, _, _, rfl, rfl, PT.out⟩⟩
set_option maxRecDepth 100000 in
set_option maxHeartbeats 8000000 in
theorem take6 {B : Nat} {W w : World} {g : Nat} {S : RS} {r : Ru} (hR : RBox B W w g S r) (hB : B ≤ w.heap.size) (T : Tabs w) (nm v : ByteArray) (hv : v.size ≤ 1000000) (hn : nm.data.toList = nameK 6) :
    Calls Tryz.prog 88 #[.pointer (some ⟨g, 0, none⟩), .string nm, .string v] w (TakeR B W w g r ((valOf 6 v.data.toList).map fun f => (6, f))) := by
  have q0 := nm_ne hn [70, 82, 69, 81] (by decide)
  have q1 := nm_ne hn [73, 78, 84, 69, 82, 86, 65, 76] (by decide)
  have q2 := nm_ne hn [67, 79, 85, 78, 84] (by decide)
  have q3 := nm_ne hn [85, 78, 84, 73, 76] (by decide)
  have q4 := nm_ne hn [66, 89, 77, 79, 78, 84, 72] (by decide)
  have q5 := nm_ne hn [66, 89, 87, 69, 69, 75, 78, 79] (by decide)
  have q6 := nm_eq hn [66, 89, 89, 69, 65, 82, 68, 65, 89] rfl
  have RB := Lib.hid hR
  have TT := Lib.hid T
  clear hR T hn
  rw [show valOf 6 v.data.toList = (numsOf v.data.toList).map Fl.list from rfl]
  cases ho : numsOf v.data.toList with
  | none =>
    have HO := Lib.hid ho; clear ho
    go_enter Tryz.func88, Tryz.ntmps88
    go_wp2_with fail
    refine (numbers_is v _ TT.out hv _ HO.out).mono ?_
    rintro e w2 ⟨b2, ⟨-, rfl⟩ | ⟨m, A, c, h1, -⟩⟩
    rotate_left
    · cases h1
    have RB2 := RB.out.on hB b2
    have zf := RB2.cells 8 _ rfl
    have yf := RB2.free 8
    have PT := Lib.hid (RB2.put8 none 0 [] ⟨rfl, fun h => absurd h (by simp)⟩ (by simp) (Far.none g) (Fresh.none B))
    have RB2 := Lib.hid RB2
    clear RB2
    go_wp2
    go_ret
    exact ⟨PT.out.below, grown_1 b2, .inl ⟨rfl, rfl⟩⟩
  | some k =>
    have HL := Lib.hid (nums_len ho)
    have HO := Lib.hid ho; clear ho
    go_enter Tryz.func88, Tryz.ntmps88
    go_wp2_with fail
    refine (numbers_is v _ TT.out hv _ HO.out).mono ?_
    rintro e w2 ⟨b2, ⟨h1, -⟩ | ⟨m, A, c, h1, rfl, hA, hF⟩⟩
    · cases h1
    obtain rfl : k = m := by injection h1
    clear h1
    have RB2 := RB.out.on hB b2
    have zf := RB2.cells 8 _ rfl
    have yf := RB2.free 8
    have PT := Lib.hid (RB2.put8 A c k hA (by have := HL.out; omega) (Far.fresh hF RB.out.lt) (hF.mono hB))
    have RB2 := Lib.hid RB2
    clear RB2
    go_wp2
    go_ret
    exact ⟨PT.out.below, grown_1 b2, .inr ⟨6, _, _, rfl, rfl, PT.out⟩⟩
set_option maxRecDepth 100000 in
set_option maxHeartbeats 8000000 in
theorem take7 {B : Nat} {W w : World} {g : Nat} {S : RS} {r : Ru} (hR : RBox B W w g S r) (hB : B ≤ w.heap.size) (T : Tabs w) (nm v : ByteArray) (hv : v.size ≤ 1000000) (hn : nm.data.toList = nameK 7) :
    Calls Tryz.prog 88 #[.pointer (some ⟨g, 0, none⟩), .string nm, .string v] w (TakeR B W w g r ((valOf 7 v.data.toList).map fun f => (7, f))) := by
  have q0 := nm_ne hn [70, 82, 69, 81] (by decide)
  have q1 := nm_ne hn [73, 78, 84, 69, 82, 86, 65, 76] (by decide)
  have q2 := nm_ne hn [67, 79, 85, 78, 84] (by decide)
  have q3 := nm_ne hn [85, 78, 84, 73, 76] (by decide)
  have q4 := nm_ne hn [66, 89, 77, 79, 78, 84, 72] (by decide)
  have q5 := nm_ne hn [66, 89, 87, 69, 69, 75, 78, 79] (by decide)
  have q6 := nm_ne hn [66, 89, 89, 69, 65, 82, 68, 65, 89] (by decide)
  have q7 := nm_eq hn [66, 89, 77, 79, 78, 84, 72, 68, 65, 89] rfl
  have RB := Lib.hid hR
  have TT := Lib.hid T
  clear hR T hn
  rw [show valOf 7 v.data.toList = (numsOf v.data.toList).map Fl.list from rfl]
  cases ho : numsOf v.data.toList with
  | none =>
    have HO := Lib.hid ho; clear ho
    go_enter Tryz.func88, Tryz.ntmps88
    go_wp2_with fail
    refine (numbers_is v _ TT.out hv _ HO.out).mono ?_
    rintro e w2 ⟨b2, ⟨-, rfl⟩ | ⟨m, A, c, h1, -⟩⟩
    rotate_left
    · cases h1
    have RB2 := RB.out.on hB b2
    have zf := RB2.cells 9 _ rfl
    have yf := RB2.free 9
    have PT := Lib.hid (RB2.put9 none 0 [] ⟨rfl, fun h => absurd h (by simp)⟩ (by simp) (Far.none g) (Fresh.none B))
    have RB2 := Lib.hid RB2
    clear RB2
    go_wp2
    go_ret
    exact ⟨PT.out.below, grown_1 b2, .inl ⟨rfl, rfl⟩⟩
  | some k =>
    have HL := Lib.hid (nums_len ho)
    have HO := Lib.hid ho; clear ho
    go_enter Tryz.func88, Tryz.ntmps88
    go_wp2_with fail
    refine (numbers_is v _ TT.out hv _ HO.out).mono ?_
    rintro e w2 ⟨b2, ⟨h1, -⟩ | ⟨m, A, c, h1, rfl, hA, hF⟩⟩
    · cases h1
    obtain rfl : k = m := by injection h1
    clear h1
    have RB2 := RB.out.on hB b2
    have zf := RB2.cells 9 _ rfl
    have yf := RB2.free 9
    have PT := Lib.hid (RB2.put9 A c k hA (by have := HL.out; omega) (Far.fresh hF RB.out.lt) (hF.mono hB))
    have RB2 := Lib.hid RB2
    clear RB2
    go_wp2
    go_ret
    exact ⟨PT.out.below, grown_1 b2, .inr ⟨7, _, _, rfl, rfl, PT.out⟩⟩
set_option maxRecDepth 100000 in
set_option maxHeartbeats 8000000 in
theorem take8 {B : Nat} {W w : World} {g : Nat} {S : RS} {r : Ru} (hR : RBox B W w g S r) (hB : B ≤ w.heap.size) (T : Tabs w) (nm v : ByteArray) (hv : v.size ≤ 1000000) (hn : nm.data.toList = nameK 8) :
    Calls Tryz.prog 88 #[.pointer (some ⟨g, 0, none⟩), .string nm, .string v] w (TakeR B W w g r ((valOf 8 v.data.toList).map fun f => (8, f))) := by
  have q0 := nm_ne hn [70, 82, 69, 81] (by decide)
  have q1 := nm_ne hn [73, 78, 84, 69, 82, 86, 65, 76] (by decide)
  have q2 := nm_ne hn [67, 79, 85, 78, 84] (by decide)
  have q3 := nm_ne hn [85, 78, 84, 73, 76] (by decide)
  have q4 := nm_ne hn [66, 89, 77, 79, 78, 84, 72] (by decide)
  have q5 := nm_ne hn [66, 89, 87, 69, 69, 75, 78, 79] (by decide)
  have q6 := nm_ne hn [66, 89, 89, 69, 65, 82, 68, 65, 89] (by decide)
  have q7 := nm_ne hn [66, 89, 77, 79, 78, 84, 72, 68, 65, 89] (by decide)
  have q8 := nm_eq hn [66, 89, 68, 65, 89] rfl
  have RB := Lib.hid hR
  have TT := Lib.hid T
  clear hR T hn
  rw [valOf_8]
  cases ho : daysOf v.data.toList with
  | none =>
    have HO := Lib.hid ho; clear ho
    go_enter Tryz.func88, Tryz.ntmps88
    go_wp2_with fail
    refine (listD_is v _ TT.out hv _ HO.out).mono ?_
    rintro e w2 ⟨b2, ⟨-, rfl⟩ | ⟨m, A, c, h1, -⟩⟩
    rotate_left
    · cases h1
    have RB2 := RB.out.on hB b2
    have zf := RB2.cells 10 _ rfl
    have yf := RB2.free 10
    have PT := Lib.hid (RB2.put10 none 0 [] ⟨rfl, fun h => absurd h (by simp)⟩ (by simp) (Far.none g) (Fresh.none B))
    have RB2 := Lib.hid RB2
    clear RB2
    go_wp2
    go_ret
    exact ⟨PT.out.below, grown_1 b2, .inl ⟨rfl, rfl⟩⟩
  | some k =>
    have HL := Lib.hid (days_len60 ho)
    have HO := Lib.hid ho; clear ho
    go_enter Tryz.func88, Tryz.ntmps88
    go_wp2_with fail
    refine (listD_is v _ TT.out hv _ HO.out).mono ?_
    rintro e w2 ⟨b2, ⟨h1, -⟩ | ⟨m, A, c, h1, rfl, hA, hF⟩⟩
    · cases h1
    obtain rfl : k = m := by injection h1
    clear h1
    have RB2 := RB.out.on hB b2
    have zf := RB2.cells 10 _ rfl
    have yf := RB2.free 10
    have PT := Lib.hid (RB2.put10 A c k hA (by have := HL.out; omega) (Far.fresh hF RB.out.lt) (hF.mono hB))
    have RB2 := Lib.hid RB2
    clear RB2
    go_wp2
    go_ret
    exact ⟨PT.out.below, grown_1 b2, .inr ⟨8, _, _, rfl, rfl, PT.out⟩⟩
end Go.Proofs.YtkkmhjplfpdhcaaGreatDoor.Ru
set_option linter.unusedVariables false
namespace Go.Proofs.YtkkmhjplfpdhcaaGreatDoor.Ru
open Go.RowKit Cv St
set_option maxRecDepth 100000 in
set_option maxHeartbeats 8000000 in
theorem take9 {B : Nat} {W w : World} {g : Nat} {S : RS} {r : Ru} (hR : RBox B W w g S r) (hB : B ≤ w.heap.size) (T : Tabs w) (nm v : ByteArray) (hv : v.size ≤ 1000000) (hn : nm.data.toList = nameK 9) :
    Calls Tryz.prog 88 #[.pointer (some ⟨g, 0, none⟩), .string nm, .string v] w (TakeR B W w g r ((valOf 9 v.data.toList).map fun f => (9, f))) := by
  have q0 := nm_ne hn [70, 82, 69, 81] (by decide)
  have q1 := nm_ne hn [73, 78, 84, 69, 82, 86, 65, 76] (by decide)
  have q2 := nm_ne hn [67, 79, 85, 78, 84] (by decide)
  have q3 := nm_ne hn [85, 78, 84, 73, 76] (by decide)
  have q4 := nm_ne hn [66, 89, 77, 79, 78, 84, 72] (by decide)
  have q5 := nm_ne hn [66, 89, 87, 69, 69, 75, 78, 79] (by decide)
  have q6 := nm_ne hn [66, 89, 89, 69, 65, 82, 68, 65, 89] (by decide)
  have q7 := nm_ne hn [66, 89, 77, 79, 78, 84, 72, 68, 65, 89] (by decide)
  have q8 := nm_ne hn [66, 89, 68, 65, 89] (by decide)
  have q9 := nm_eq hn [66, 89, 72, 79, 85, 82] rfl
  have RB := Lib.hid hR
  have TT := Lib.hid T
  clear hR T hn
  rw [show valOf 9 v.data.toList = (numsOf v.data.toList).map Fl.list from rfl]
  cases ho : numsOf v.data.toList with
  | none =>
    have HO := Lib.hid ho; clear ho
    go_enter Tryz.func88, Tryz.ntmps88
    go_wp2_with fail
    refine (numbers_is v _ TT.out hv _ HO.out).mono ?_
    rintro e w2 ⟨b2, ⟨-, rfl⟩ | ⟨m, A, c, h1, -⟩⟩
    rotate_left
    · cases h1
    have RB2 := RB.out.on hB b2
    have zf := RB2.cells 11 _ rfl
    have yf := RB2.free 11
    have PT := Lib.hid (RB2.put11 none 0 [] ⟨rfl, fun h => absurd h (by simp)⟩ (by simp) (Far.none g) (Fresh.none B))
    have RB2 := Lib.hid RB2
    clear RB2
    go_wp2
    go_ret
    exact ⟨PT.out.below, grown_1 b2, .inl ⟨rfl, rfl⟩⟩
  | some k =>
    have HL := Lib.hid (nums_len ho)
    have HO := Lib.hid ho; clear ho
    go_enter Tryz.func88, Tryz.ntmps88
    go_wp2_with fail
    refine (numbers_is v _ TT.out hv _ HO.out).mono ?_
    rintro e w2 ⟨b2, ⟨h1, -⟩ | ⟨m, A, c, h1, rfl, hA, hF⟩⟩
    · cases h1
    obtain rfl : k = m := by injection h1
    clear h1
    have RB2 := RB.out.on hB b2
    have zf := RB2.cells 11 _ rfl
    have yf := RB2.free 11
    have PT := Lib.hid (RB2.put11 A c k hA (by have := HL.out; omega) (Far.fresh hF RB.out.lt) (hF.mono hB))
    have RB2 := Lib.hid RB2
    clear RB2
    go_wp2
    go_ret
    exact ⟨PT.out.below, grown_1 b2, .inr ⟨9, _, _, rfl, rfl, PT.out⟩⟩
set_option maxRecDepth 100000 in
set_option maxHeartbeats 8000000 in
theorem take10 {B : Nat} {W w : World} {g : Nat} {S : RS} {r : Ru} (hR : RBox B W w g S r) (hB : B ≤ w.heap.size) (T : Tabs w) (nm v : ByteArray) (hv : v.size ≤ 1000000) (hn : nm.data.toList = nameK 10) :
    Calls Tryz.prog 88 #[.pointer (some ⟨g, 0, none⟩), .string nm, .string v] w (TakeR B W w g r ((valOf 10 v.data.toList).map fun f => (10, f))) := by
  have q0 := nm_ne hn [70, 82, 69, 81] (by decide)
  have q1 := nm_ne hn [73, 78, 84, 69, 82, 86, 65, 76] (by decide)
  have q2 := nm_ne hn [67, 79, 85, 78, 84] (by decide)
  have q3 := nm_ne hn [85, 78, 84, 73, 76] (by decide)
  have q4 := nm_ne hn [66, 89, 77, 79, 78, 84, 72] (by decide)
  have q5 := nm_ne hn [66, 89, 87, 69, 69, 75, 78, 79] (by decide)
  have q6 := nm_ne hn [66, 89, 89, 69, 65, 82, 68, 65, 89] (by decide)
  have q7 := nm_ne hn [66, 89, 77, 79, 78, 84, 72, 68, 65, 89] (by decide)
  have q8 := nm_ne hn [66, 89, 68, 65, 89] (by decide)
  have q9 := nm_ne hn [66, 89, 72, 79, 85, 82] (by decide)
  have q10 := nm_eq hn [66, 89, 77, 73, 78, 85, 84, 69] rfl
  have RB := Lib.hid hR
  have TT := Lib.hid T
  clear hR T hn
  rw [show valOf 10 v.data.toList = (numsOf v.data.toList).map Fl.list from rfl]
  cases ho : numsOf v.data.toList with
  | none =>
    have HO := Lib.hid ho; clear ho
    go_enter Tryz.func88, Tryz.ntmps88
    go_wp2_with fail
    refine (numbers_is v _ TT.out hv _ HO.out).mono ?_
    rintro e w2 ⟨b2, ⟨-, rfl⟩ | ⟨m, A, c, h1, -⟩⟩
    rotate_left
    · cases h1
    have RB2 := RB.out.on hB b2
    have zf := RB2.cells 12 _ rfl
    have yf := RB2.free 12
    have PT := Lib.hid (RB2.put12 none 0 [] ⟨rfl, fun h => absurd h (by simp)⟩ (by simp) (Far.none g) (Fresh.none B))
    have RB2 := Lib.hid RB2
    clear RB2
    go_wp2
    go_ret
    exact ⟨PT.out.below, grown_1 b2, .inl ⟨rfl, rfl⟩⟩
  | some k =>
    have HL := Lib.hid (nums_len ho)
    have HO := Lib.hid ho; clear ho
    go_enter Tryz.func88, Tryz.ntmps88
    go_wp2_with fail
    refine (numbers_is v _ TT.out hv _ HO.out).mono ?_
    rintro e w2 ⟨b2, ⟨h1, -⟩ | ⟨m, A, c, h1, rfl, hA, hF⟩⟩
    · cases h1
    obtain rfl : k = m := by injection h1
    clear h1
    have RB2 := RB.out.on hB b2
    have zf := RB2.cells 12 _ rfl
    have yf := RB2.free 12
    have PT := Lib.hid (RB2.put12 A c k hA (by have := HL.out; omega) (Far.fresh hF RB.out.lt) (hF.mono hB))
    have RB2 := Lib.hid RB2
    clear RB2
    go_wp2
    go_ret
    exact ⟨PT.out.below, grown_1 b2, .inr ⟨10, _, _, rfl, rfl, PT.out⟩⟩
set_option maxRecDepth 100000 in
set_option maxHeartbeats 8000000 in
theorem take11 {B : Nat} {W w : World} {g : Nat} {S : RS} {r : Ru} (hR : RBox B W w g S r) (hB : B ≤ w.heap.size) (T : Tabs w) (nm v : ByteArray) (hv : v.size ≤ 1000000) (hn : nm.data.toList = nameK 11) :
    Calls Tryz.prog 88 #[.pointer (some ⟨g, 0, none⟩), .string nm, .string v] w (TakeR B W w g r ((valOf 11 v.data.toList).map fun f => (11, f))) := by
  have q0 := nm_ne hn [70, 82, 69, 81] (by decide)
  have q1 := nm_ne hn [73, 78, 84, 69, 82, 86, 65, 76] (by decide)
  have q2 := nm_ne hn [67, 79, 85, 78, 84] (by decide)
  have q3 := nm_ne hn [85, 78, 84, 73, 76] (by decide)
  have q4 := nm_ne hn [66, 89, 77, 79, 78, 84, 72] (by decide)
  have q5 := nm_ne hn [66, 89, 87, 69, 69, 75, 78, 79] (by decide)
  have q6 := nm_ne hn [66, 89, 89, 69, 65, 82, 68, 65, 89] (by decide)
  have q7 := nm_ne hn [66, 89, 77, 79, 78, 84, 72, 68, 65, 89] (by decide)
  have q8 := nm_ne hn [66, 89, 68, 65, 89] (by decide)
  have q9 := nm_ne hn [66, 89, 72, 79, 85, 82] (by decide)
  have q10 := nm_ne hn [66, 89, 77, 73, 78, 85, 84, 69] (by decide)
  have q11 := nm_eq hn [66, 89, 83, 69, 67, 79, 78, 68] rfl
  have RB := Lib.hid hR
  have TT := Lib.hid T
  clear hR T hn
  rw [show valOf 11 v.data.toList = (numsOf v.data.toList).map Fl.list from rfl]
  cases ho : numsOf v.data.toList with
  | none =>
    have HO := Lib.hid ho; clear ho
    go_enter Tryz.func88, Tryz.ntmps88
    go_wp2_with fail
    refine (numbers_is v _ TT.out hv _ HO.out).mono ?_
    rintro e w2 ⟨b2, ⟨-, rfl⟩ | ⟨m, A, c, h1, -⟩⟩
    rotate_left
    · cases h1
    have RB2 := RB.out.on hB b2
    have zf := RB2.cells 13 _ rfl
    have yf := RB2.free 13
    have PT := Lib.hid (RB2.put13 none 0 [] ⟨rfl, fun h => absurd h (by simp)⟩ (by simp) (Far.none g) (Fresh.none B))
    have RB2 := Lib.hid RB2
    clear RB2
    go_wp2
    go_ret
    exact ⟨PT.out.below, grown_1 b2, .inl ⟨rfl, rfl⟩⟩
  | some k =>
    have HL := Lib.hid (nums_len ho)
    have HO := Lib.hid ho; clear ho
    go_enter Tryz.func88, Tryz.ntmps88
    go_wp2_with fail
    refine (numbers_is v _ TT.out hv _ HO.out).mono ?_
    rintro e w2 ⟨b2, ⟨h1, -⟩ | ⟨m, A, c, h1, rfl, hA, hF⟩⟩
    · cases h1
    obtain rfl : k = m := by injection h1
    clear h1
    have RB2 := RB.out.on hB b2
    have zf := RB2.cells 13 _ rfl
    have yf := RB2.free 13
    have PT := Lib.hid (RB2.put13 A c k hA (by have := HL.out; omega) (Far.fresh hF RB.out.lt) (hF.mono hB))
    have RB2 := Lib.hid RB2
    clear RB2
    go_wp2
    go_ret
    exact ⟨PT.out.below, grown_1 b2, .inr ⟨11, _, _, rfl, rfl, PT.out⟩⟩
end Go.Proofs.YtkkmhjplfpdhcaaGreatDoor.Ru
set_option linter.unusedVariables false
namespace Go.Proofs.YtkkmhjplfpdhcaaGreatDoor.Ru
open Go.RowKit Cv St
set_option maxRecDepth 100000 in
set_option maxHeartbeats 8000000 in
theorem take12 {B : Nat} {W w : World} {g : Nat} {S : RS} {r : Ru} (hR : RBox B W w g S r) (hB : B ≤ w.heap.size) (T : Tabs w) (nm v : ByteArray) (hv : v.size ≤ 1000000) (hn : nm.data.toList = nameK 12) :
    Calls Tryz.prog 88 #[.pointer (some ⟨g, 0, none⟩), .string nm, .string v] w (TakeR B W w g r ((valOf 12 v.data.toList).map fun f => (12, f))) := by
  have q0 := nm_ne hn [70, 82, 69, 81] (by decide)
  have q1 := nm_ne hn [73, 78, 84, 69, 82, 86, 65, 76] (by decide)
  have q2 := nm_ne hn [67, 79, 85, 78, 84] (by decide)
  have q3 := nm_ne hn [85, 78, 84, 73, 76] (by decide)
  have q4 := nm_ne hn [66, 89, 77, 79, 78, 84, 72] (by decide)
  have q5 := nm_ne hn [66, 89, 87, 69, 69, 75, 78, 79] (by decide)
  have q6 := nm_ne hn [66, 89, 89, 69, 65, 82, 68, 65, 89] (by decide)
  have q7 := nm_ne hn [66, 89, 77, 79, 78, 84, 72, 68, 65, 89] (by decide)
  have q8 := nm_ne hn [66, 89, 68, 65, 89] (by decide)
  have q9 := nm_ne hn [66, 89, 72, 79, 85, 82] (by decide)
  have q10 := nm_ne hn [66, 89, 77, 73, 78, 85, 84, 69] (by decide)
  have q11 := nm_ne hn [66, 89, 83, 69, 67, 79, 78, 68] (by decide)
  have q12 := nm_eq hn [66, 89, 83, 69, 84, 80, 79, 83] rfl
  have RB := Lib.hid hR
  have TT := Lib.hid T
  clear hR T hn
  rw [show valOf 12 v.data.toList = (numsOf v.data.toList).map Fl.list from rfl]
  cases ho : numsOf v.data.toList with
  | none =>
    have HO := Lib.hid ho; clear ho
    go_enter Tryz.func88, Tryz.ntmps88
    go_wp2_with fail
    refine (numbers_is v _ TT.out hv _ HO.out).mono ?_
    rintro e w2 ⟨b2, ⟨-, rfl⟩ | ⟨m, A, c, h1, -⟩⟩
    rotate_left
    · cases h1
    have RB2 := RB.out.on hB b2
    have zf := RB2.cells 14 _ rfl
    have yf := RB2.free 14
    have PT := Lib.hid (RB2.put14 none 0 [] ⟨rfl, fun h => absurd h (by simp)⟩ (by simp) (Far.none g) (Fresh.none B))
    have RB2 := Lib.hid RB2
    clear RB2
    go_wp2
    go_ret
    exact ⟨PT.out.below, grown_1 b2, .inl ⟨rfl, rfl⟩⟩
  | some k =>
    have HL := Lib.hid (nums_len ho)
    have HO := Lib.hid ho; clear ho
    go_enter Tryz.func88, Tryz.ntmps88
    go_wp2_with fail
    refine (numbers_is v _ TT.out hv _ HO.out).mono ?_
    rintro e w2 ⟨b2, ⟨h1, -⟩ | ⟨m, A, c, h1, rfl, hA, hF⟩⟩
    · cases h1
    obtain rfl : k = m := by injection h1
    clear h1
    have RB2 := RB.out.on hB b2
    have zf := RB2.cells 14 _ rfl
    have yf := RB2.free 14
    have PT := Lib.hid (RB2.put14 A c k hA (by have := HL.out; omega) (Far.fresh hF RB.out.lt) (hF.mono hB))
    have RB2 := Lib.hid RB2
    clear RB2
    go_wp2
    go_ret
    exact ⟨PT.out.below, grown_1 b2, .inr ⟨12, _, _, rfl, rfl, PT.out⟩⟩
set_option maxRecDepth 100000 in
set_option maxHeartbeats 8000000 in
theorem take13 {B : Nat} {W w : World} {g : Nat} {S : RS} {r : Ru} (hR : RBox B W w g S r) (hB : B ≤ w.heap.size) (T : Tabs w) (nm v : ByteArray) (hv : v.size ≤ 1000000) (hn : nm.data.toList = nameK 13) :
    Calls Tryz.prog 88 #[.pointer (some ⟨g, 0, none⟩), .string nm, .string v] w (TakeR B W w g r ((valOf 13 v.data.toList).map fun f => (13, f))) := by
  have q0 := nm_ne hn [70, 82, 69, 81] (by decide)
  have q1 := nm_ne hn [73, 78, 84, 69, 82, 86, 65, 76] (by decide)
  have q2 := nm_ne hn [67, 79, 85, 78, 84] (by decide)
  have q3 := nm_ne hn [85, 78, 84, 73, 76] (by decide)
  have q4 := nm_ne hn [66, 89, 77, 79, 78, 84, 72] (by decide)
  have q5 := nm_ne hn [66, 89, 87, 69, 69, 75, 78, 79] (by decide)
  have q6 := nm_ne hn [66, 89, 89, 69, 65, 82, 68, 65, 89] (by decide)
  have q7 := nm_ne hn [66, 89, 77, 79, 78, 84, 72, 68, 65, 89] (by decide)
  have q8 := nm_ne hn [66, 89, 68, 65, 89] (by decide)
  have q9 := nm_ne hn [66, 89, 72, 79, 85, 82] (by decide)
  have q10 := nm_ne hn [66, 89, 77, 73, 78, 85, 84, 69] (by decide)
  have q11 := nm_ne hn [66, 89, 83, 69, 67, 79, 78, 68] (by decide)
  have q12 := nm_ne hn [66, 89, 83, 69, 84, 80, 79, 83] (by decide)
  have q13 := nm_eq hn [87, 75, 83, 84] rfl
  have RB := Lib.hid hR
  have TT := Lib.hid T
  clear hR T hn
  rw [valOf_13]
  cases ho : wdayOf v.data.toList with
  | none =>
    have HO := Lib.hid ho; clear ho
    go_enter Tryz.func88, Tryz.ntmps88
    go_wp2_with fail
    refine (wday_no v _ TT.out HO.out).mono ?_
    rintro e w2 ⟨rfl, rfl⟩
    have RB2 := RB.out
    have zf := RB2.cells 4 _ rfl
    have yf := RB2.free 4
    have PT := Lib.hid (RB2.put4 0)
    have RB2 := Lib.hid RB2
    clear RB2
    go_wp2
    go_ret
    exact ⟨PT.out.below, grown_1 (Below.refl _ _), .inl ⟨rfl, rfl⟩⟩
  | some k =>
    have HO := Lib.hid ho; clear ho
    go_enter Tryz.func88, Tryz.ntmps88
    go_wp2_with fail
    refine (wday_yes v _ TT.out k HO.out).mono ?_
    rintro e w2 ⟨rfl, rfl⟩
    have RB2 := RB.out
    have zf := RB2.cells 4 _ rfl
    have yf := RB2.free 4
    have PT := Lib.hid (RB2.put4 (k : Int))
    have RB2 := Lib.hid RB2
    clear RB2
    go_wp2
    go_ret
    exact ⟨PT.out.below, grown_1 (Below.refl _ _), .inr ⟨13, _, _, rfl, rfl, PT.out⟩⟩
end Go.Proofs.YtkkmhjplfpdhcaaGreatDoor.Ru
set_option linter.unusedVariables false
namespace Go.Proofs.YtkkmhjplfpdhcaaGreatDoor.Ru
open Go.RowKit Cv St
theorem keyOf_some {n : List UInt8} {k : Nat} (h : keyOf n = some k) : n = nameK k ∧ k < 14 := by
  unfold keyOf at h
  have h1 := List.find?_some h
  have h2 := List.mem_of_find?_eq_some h
  exact ⟨(of_decide_eq_true h1).symm, List.mem_range.1 h2⟩
theorem keyOf_no {n : List UInt8} (h : keyOf n = none) (k : Nat) (hk : k < 14) : n ≠ nameK k := fun e => by
  rw [e] at h
  rw [keyOf_name ⟨k, hk⟩] at h; cases h
set_option maxRecDepth 100000 in
set_option maxHeartbeats 8000000 in
theorem take_none (w : World) (p : Value) (nm v : ByteArray) (hn : keyOf nm.data.toList = none) :
    Calls Tryz.prog 88 #[p, .string nm, .string v] w fun e w' => e = .returned (.bool false) ∧ w = w' := by
  have q0 := nm_ne rfl [70, 82, 69, 81] (keyOf_no hn 0 (by decide))
  have q1 := nm_ne rfl [73, 78, 84, 69, 82, 86, 65, 76] (keyOf_no hn 1 (by decide))
  have q2 := nm_ne rfl [67, 79, 85, 78, 84] (keyOf_no hn 2 (by decide))
  have q3 := nm_ne rfl [85, 78, 84, 73, 76] (keyOf_no hn 3 (by decide))
  have q4 := nm_ne rfl [66, 89, 77, 79, 78, 84, 72] (keyOf_no hn 4 (by decide))
  have q5 := nm_ne rfl [66, 89, 87, 69, 69, 75, 78, 79] (keyOf_no hn 5 (by decide))
  have q6 := nm_ne rfl [66, 89, 89, 69, 65, 82, 68, 65, 89] (keyOf_no hn 6 (by decide))
  have q7 := nm_ne rfl [66, 89, 77, 79, 78, 84, 72, 68, 65, 89] (keyOf_no hn 7 (by decide))
  have q8 := nm_ne rfl [66, 89, 68, 65, 89] (keyOf_no hn 8 (by decide))
  have q9 := nm_ne rfl [66, 89, 72, 79, 85, 82] (keyOf_no hn 9 (by decide))
  have q10 := nm_ne rfl [66, 89, 77, 73, 78, 85, 84, 69] (keyOf_no hn 10 (by decide))
  have q11 := nm_ne rfl [66, 89, 83, 69, 67, 79, 78, 68] (keyOf_no hn 11 (by decide))
  have q12 := nm_ne rfl [66, 89, 83, 69, 84, 80, 79, 83] (keyOf_no hn 12 (by decide))
  have q13 := nm_ne rfl [87, 75, 83, 84] (keyOf_no hn 13 (by decide))
  clear hn
  go_enter Tryz.func88, Tryz.ntmps88
  go_wp2
  go_ret
  exact ⟨rfl, rfl⟩
theorem take_any {B : Nat} {W w : World} {g : Nat} {S : RS} {r : Ru} (hR : RBox B W w g S r) (hB : B ≤ w.heap.size) (T : Tabs w) (nm v : ByteArray) (hv : v.size ≤ 1000000) :
    Calls Tryz.prog 88 #[.pointer (some ⟨g, 0, none⟩), .string nm, .string v] w (TakeR B W w g r (takeOf nm.data.toList v.data.toList)) := by
  unfold takeOf
  cases hk : keyOf nm.data.toList with
  | none =>
    refine (take_none w _ nm v hk).mono ?_
    rintro e w' ⟨rfl, rfl⟩
    exact ⟨hR.below, grown_0 (Below.refl _ _), .inl ⟨rfl, rfl⟩⟩
  | some k =>
    obtain ⟨hn, h14⟩ := keyOf_some hk
    simp only
    clear hk
    have hc : k = 0 ∨ k = 1 ∨ k = 2 ∨ k = 3 ∨ k = 4 ∨ k = 5 ∨ k = 6 ∨ k = 7 ∨ k = 8 ∨ k = 9 ∨ k = 10 ∨ k = 11 ∨ k = 12 ∨ k = 13 := by omega
    rcases hc with rfl | rfl | rfl | rfl | rfl | rfl | rfl | rfl | rfl | rfl | rfl | rfl | rfl | rfl
    · exact take0 hR hB T nm v hv hn
    · exact take1 hR hB T nm v hv hn
    · exact take2 hR hB T nm v hv hn
    · exact take3 hR hB T nm v hv hn
    · exact take4 hR hB T nm v hv hn
    · exact take5 hR hB T nm v hv hn
    · exact take6 hR hB T nm v hv hn
    · exact take7 hR hB T nm v hv hn
    · exact take8 hR hB T nm v hv hn
    · exact take9 hR hB T nm v hv hn
    · exact take10 hR hB T nm v hv hn
    · exact take11 hR hB T nm v hv hn
    · exact take12 hR hB T nm v hv hn
    · exact take13 hR hB T nm v hv hn
end Go.Proofs.YtkkmhjplfpdhcaaGreatDoor.Ru
