/- The walks of vokref4's number, word and numbers. -/
import Derived.Test.YtajgagmpdhmbkaaGreatDoorRuNumW
import Derived.Test.YtajgagmpdhmbkaaGreatDoorRpB
import Derived.Test.YtajgagmpdhmbkaaGreatDoorRuSorted
set_option linter.unusedVariables false
namespace Go.Proofs.YtajgagmpdhmbkaaGreatDoor.Ru
open Go.RowKit Cv St

/-- as many signs as nine digits have, one more ahead of a number below 0 -/
theorem nbr_iff {l : List UInt8} {n : Int} (h : Lib.itoa n = l) : ((l.length : Int) - (if n < 0 then 1 else 0) ≤ 9) ↔ (-999999999 ≤ n ∧ n ≤ 999999999) := by
  rw [← h]
  unfold Lib.itoa
  by_cases c : n < 0
  · rw [if_pos c, if_pos c, List.length_cons]
    constructor
    · intro q
      have := dec_len_lt (k := 9) (n := n.natAbs) (by omega)
      omega
    · intro q
      have := dec_len (k := 9) (n := n.natAbs) (by decide) (by omega)
      omega
  · rw [if_neg c, if_neg c]
    constructor
    · intro q
      have := dec_len_lt (k := 9) (n := n.toNat) (by omega)
      omega
    · intro q
      have := dec_len (k := 9) (n := n.toNat) (by decide) (by omega)
      omega
theorem nbr_no {l : List UInt8} {n : Int} (h : NumC l n false) : numOf l = none := numOf_none fun m g => by have := (h.yes m g).1; cases this
theorem nbr_far {l : List UInt8} {n : Int} (h : NumC l n true) (k : ¬ ((l.length : Int) - (if n < 0 then 1 else 0) ≤ 9)) : numOf l = none := numOf_none fun m g => by
  have e := (h.yes m g).2
  have := (nbr_iff (h.text rfl)).2 (by rw [e]; exact g.2)
  exact k this
theorem nbr_yes {l : List UInt8} {n : Int} (h : NumC l n true) (k : (l.length : Int) - (if n < 0 then 1 else 0) ≤ 9) : numOf l = some n := numOf_of ⟨h.text rfl, (nbr_iff (h.text rfl)).1 k⟩
/-- what number answers -/
def NbrR (s : ByteArray) (w : World) (e : Ending) (w' : World) : Prop := (∃ n ok, e = .returned (.tuple #[.int .i64 n, .bool ok]) ∧ (ok = true → numOf s.data.toList = some n) ∧ (ok = false → numOf s.data.toList = none) ∧ -9223372036854775808 ≤ n ∧ n ≤ 9223372036854775807) ∧ Below w.heap.size w w'
theorem nbrR_mk {s : ByteArray} {w w' : World} {n : Int} {ok : Bool} (a : ok = true → numOf s.data.toList = some n) (b : ok = false → numOf s.data.toList = none) (lo : -9223372036854775808 ≤ n) (hi : n ≤ 9223372036854775807) (hb : Below w.heap.size w w') : NbrR s w (.returned (.tuple #[.int .i64 n, .bool ok])) w' := ⟨⟨n, ok, rfl, a, b, lo, hi⟩, hb⟩
set_option maxRecDepth 100000 in
set_option maxHeartbeats 4000000 in
/-- vokref4.number -/
theorem number_is (w : World) (s : ByteArray) (hs : s.size ≤ 1000000) : Calls Tryz.prog 97 #[.string s] w (NbrR s w) := by
  go_enter Tryz.func97, Tryz.ntmps97
  go_wp2_with fail
  refine (num_any _ s hs).mono ?_
  rintro e w1 ⟨n, ok, rfl, nc, hb⟩
  have NC := Lib.hid nc
  have lo := nc.lo
  have hi := nc.hi
  clear nc
  cases ok
  · have E := Lib.hid (nbr_no NC.out)
    by_cases c : n < 0
    · have t0 : decide (n < 0) = true := decide_eq_true c
      have i1 : IntKind.i64.wrap ((s.size : Int) - 1) = (s.size : Int) - 1 := IntWalk.i64_in _ (by omega)
      clear c
      go_wp2
      go_ret2
      exact nbrR_mk (fun g => by cases g) (fun _ => E.out) lo hi hb
    · have t0 : decide (n < 0) = false := decide_eq_false c
      go_wp2
      go_ret2
      exact nbrR_mk (fun g => by cases g) (fun _ => E.out) lo hi hb
  · by_cases c : n < 0
    · have t0 : decide (n < 0) = true := decide_eq_true c
      have i1 : IntKind.i64.wrap ((s.size : Int) - 1) = (s.size : Int) - 1 := IntWalk.i64_in _ (by omega)
      by_cases k : (s.size : Int) - 1 ≤ 9
      · have t1 : decide ((s.size : Int) - 1 ≤ 9) = true := decide_eq_true k
        have E := Lib.hid (nbr_yes NC.out (by rw [if_pos c, size_list]; exact k))
        clear c
        go_wp2
        go_ret2
        exact nbrR_mk (fun _ => E.out) (fun g => by first | cases g | simp_all) lo hi hb
      · have t1 : decide ((s.size : Int) - 1 ≤ 9) = false := decide_eq_false k
        have E := Lib.hid (nbr_far NC.out (by rw [if_pos c, size_list]; exact k))
        clear c
        go_wp2
        go_ret2
        exact nbrR_mk (fun g => by first | cases g | simp_all) (fun _ => E.out) lo hi hb
    · have t0 : decide (n < 0) = false := decide_eq_false c
      by_cases k : (s.size : Int) ≤ 9
      · have t1 : decide ((s.size : Int) ≤ 9) = true := decide_eq_true k
        have E := Lib.hid (nbr_yes NC.out (by rw [if_neg c, size_list]; omega))
        go_wp2
        go_ret2
        exact nbrR_mk (fun _ => E.out) (fun g => by first | cases g | simp_all) lo hi hb
      · have t1 : decide ((s.size : Int) ≤ 9) = false := decide_eq_false k
        have E := Lib.hid (nbr_far NC.out (by rw [if_neg c, size_list]; omega))
        go_wp2
        go_ret2
        exact nbrR_mk (fun g => by first | cases g | simp_all) (fun _ => E.out) lo hi hb
-- a word in a list
def idxT : List ByteArray → ByteArray → Int
  | [], _ => -1
  | y :: l, x => if y = x then 0 else if idxT l x = -1 then -1 else idxT l x + 1
def wordV (l : List ByteArray) (s : ByteArray) : Int := if s = ⟨#[]⟩ then -1 else idxT l s
def noS (l : List ByteArray) (x : ByteArray) (k : Nat) : Prop := ∀ j, j < k → sat l j ≠ x
theorem noS.succ {l : List ByteArray} {x : ByteArray} {k : Nat} (h : noS l x k) (e : sat l k ≠ x) : noS l x (k + 1) := fun j hj => by
  by_cases c : j = k
  · subst c; exact e
  · exact h j (by omega)
theorem idxT_no : ∀ {l : List ByteArray} {x : ByteArray}, x ∉ l → idxT l x = -1
  | [], x, _ => rfl
  | y :: l, x, h => by
    simp only [List.mem_cons, not_or] at h
    unfold idxT
    rw [if_neg (fun e => h.1 e.symm), idxT_no h.2, if_pos rfl]
theorem idxT_of : ∀ {l : List ByteArray} {x : ByteArray} {k : Nat} (hk : k < l.length), l[k] = x → (∀ j (hj : j < k), l[j]'(by omega) ≠ x) → idxT l x = k
  | y :: l, x, 0, hk, e, h => by
    unfold idxT; rw [if_pos (by simpa using e)]; rfl
  | y :: l, x, k + 1, hk, e, h => by
    have h0 : y ≠ x := by simpa using h 0 (by omega)
    have ih := idxT_of (l := l) (x := x) (k := k) (by simpa using hk) (by simpa using e) (fun j hj => by simpa using h (j + 1) (by omega))
    unfold idxT
    rw [if_neg h0, ih, if_neg (by omega)]
    omega
theorem noS_idx {l : List ByteArray} {x : ByteArray} {k : Nat} (h : noS l x k) (hk : k < l.length) (e : sat l k = x) : idxT l x = (k : Int) :=
  idxT_of hk (by rw [← sat_lt hk]; exact e) fun j hj => by rw [← sat_lt (by omega)]; exact h j hj
theorem noS_none {l : List ByteArray} {x : ByteArray} (h : noS l x l.length) : idxT l x = -1 := idxT_no fun g => by
  obtain ⟨j, hj, e⟩ := List.getElem_of_mem g
  exact h j hj (by rw [sat_lt hj]; exact e)
theorem str_two {s t : ByteArray} (h : s ≠ t) : (s.toList == t.toList) = false := by
  rw [ByteArray.toList_eq, ByteArray.toList_eq, beq_eq_false_iff_ne]
  intro e
  exact h (by rw [← str_list s, ← str_list t, e])
set_option maxRecDepth 100000 in
set_option maxHeartbeats 4000000 in
/-- vokref4.word -/
theorem word_is (w : World) (A : Option Addr) (n c : Nat) (l : List ByteArray) (x : ByteArray) (hl : SsAt w A n l) (h1 : n ≤ 9223372036854775807) (p : Int) (hp : wordV l x = p) :
    Calls Tryz.prog 56 #[.slice A n c, .string x] w fun e w' => e = .returned (.int .i64 p) ∧ Below w.heap.size w w' := by
  obtain ⟨en, hc⟩ := hl
  have EN := Lib.hid en
  have HP := Lib.hid hp
  clear en hp
  go_enter Tryz.func56, Tryz.ntmps56
  go_wp2
  by_cases hx0 : x = ⟨#[]⟩
  · have X0 := Lib.hid hx0
    have P0 := Lib.hid (show (-1 : Int) = p by rw [← HP.out]; unfold wordV; rw [if_pos hx0])
    have e0 : (x.toList == []) = true := by rw [ByteArray.toList_eq, hx0]; rfl
    have e1 : x.toList.isEmpty = true := by rw [ByteArray.toList_eq, hx0]; rfl
    clear hx0
    go_loopw [5] (fun i wr => ∃ t : Nat, t ≤ n ∧ i = .int .i64 t ∧ ∃ q : Nat, wr = w.drewN q) (fun i _ => n - (intOf i).toNat)
    case atStart => exact ⟨0, Nat.zero_le _, rfl, 0, rfl⟩
    case round =>
      obtain ⟨t, ht, rfl, q, rfl⟩ := hrel
      by_cases hlt : t < n
      · obtain ⟨bl, off, rfl, hb, hcc⟩ := hc (by omega)
        have c0 := hcc t hlt
        clear hc hcc
        obtain ⟨b, hb2⟩ : ∃ b, ((sat l t).toList == x.toList) = b := ⟨_, rfl⟩
        generalize sat l t = s at *
        cases b
        · go_wp2
          go_roundw
          case rel => exact ⟨t + 1, by omega, by go_num, _, rfl⟩
          case measure => simp [intOf]; omega
        · go_wp2
          go_roundw
          case rel => exact ⟨t + 1, by omega, by go_num, _, rfl⟩
          case measure => simp [intOf]; omega
      · obtain rfl : n = t := by omega
        go_wp2
        go_ret
        exact ⟨ret_int P0.out, Below.drewN' _ _ _⟩
  · have e0 : (x.toList == []) = false := by rw [beq_eq_false_iff_ne]; intro e; exact hx0 (by rw [← str_list x, ← ByteArray.toList_eq, e]; rfl)
    have e1 : x.toList.isEmpty = false := by rw [List.isEmpty_eq_false_iff]; intro e; exact hx0 (by rw [← str_list x, ← ByteArray.toList_eq, e]; rfl)
    have HP := Lib.hid (show idxT l x = p by rw [← HP.out]; unfold wordV; rw [if_neg hx0])
    clear hx0
    go_loopw [5] (fun i wr => ∃ t : Nat, t ≤ n ∧ i = .int .i64 t ∧ Hid (noS l x t) ∧ ∃ q : Nat, wr = w.drewN q) (fun i _ => n - (intOf i).toNat)
    case atStart => exact ⟨0, Nat.zero_le _, rfl, Lib.hid (fun j hj => absurd hj (by omega)), 0, rfl⟩
    case round =>
      obtain ⟨t, ht, rfl, D, q, rfl⟩ := hrel
      by_cases hlt : t < n
      · obtain ⟨bl, off, rfl, hb, hcc⟩ := hc (by omega)
        have c0 := hcc t hlt
        have Y := Lib.hid (fun (h : sat l t = x) => show (t : Int) = p from (noS_idx D.out (by rw [← EN.out]; exact hlt) h).symm.trans HP.out)
        have X := Lib.hid (fun (e1 : sat l t ≠ x) => D.out.succ e1)
        clear hc hcc D
        by_cases p1 : sat l t = x
        · have F := Lib.hid (Y.out p1)
          rw [p1] at c0
          have g1 : (x.toList == x.toList) = true := beq_self_eq_true _
          clear p1 X Y
          go_wp2
          go_ret
          exact ⟨ret_int F.out, Below.drewN' _ _ _⟩
        · have g1 := str_two p1
          have F := Lib.hid (X.out p1)
          clear p1 X Y
          generalize sat l t = s at *
          go_wp2
          go_roundw
          case rel => exact ⟨t + 1, by omega, by go_num, F, _, rfl⟩
          case measure => simp [intOf]; omega
      · obtain rfl : n = t := by omega
        have F := Lib.hid (show (-1 : Int) = p from (noS_none (by rw [← EN.out]; exact D.out)).symm.trans HP.out)
        go_wp2
        go_ret
        exact ⟨ret_int F.out, Below.drewN' _ _ _⟩
end Go.Proofs.YtajgagmpdhmbkaaGreatDoor.Ru
