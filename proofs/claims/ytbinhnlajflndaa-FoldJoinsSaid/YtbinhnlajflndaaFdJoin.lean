/- The walks of package fold's Join and its helpers, and of voklaw4's few. -/
import Derived.Test.YtbinhnlajflndaaFdJMath
import Derived.Test.YtbinhnlajflndaaFdClass
set_option linter.unusedVariables false
namespace Go.Proofs.Ytbinhnlajflndaa.Fd
open Go.RowKit Cv St

def linTo (z : List UInt8) (k : Nat) : Prop := ∀ j, j < k → mayI (bat z j) = true
theorem linTo.succ {z : List UInt8} {k : Nat} (h : linTo z k) (e : mayI (bat z k) = true) : linTo z (k + 1) := fun j hj => by
  by_cases g : j = k
  · subst g; exact e
  · exact h j (by omega)
theorem linTo.all {z : List UInt8} (h : linTo z z.length) : ∀ c ∈ z, mayI (c.toNat : Int) = true := fun c hc => by
  obtain ⟨j, hj, e⟩ := List.getElem_of_mem hc
  have := h j hj
  rwa [bat_lt hj, e] at this
theorem mayLn_yes {z : List UInt8} (h0 : 0 < z.length) (h1 : bat z 0 ≠ 32) (h2 : linTo z z.length) : true = mayLn z :=
  yes_bool ⟨List.length_pos_iff.1 h0, fun e => h1 (by
    cases z with
    | nil => simp at h0
    | cons c z => simp at e; subst e; rfl), h2.all⟩
theorem mayLn_empty : false = mayLn [] := by decide
theorem mayLn_blank {z : List UInt8} (h0 : 0 < z.length) (h1 : bat z 0 = 32) : false = mayLn z := no_bool (fun h => h.2.1 (by
  have := blank_at h0
  rw [decide_eq_true h1] at this
  exact of_decide_eq_true this))
theorem mayLn_bad {z : List UInt8} {k : Nat} (hk : k < z.length) (h : mayI (bat z k) = false) : false = mayLn z := no_bool (fun g => by
  have := g.2.2 z[k] (List.getElem_mem hk)
  rw [bat_lt hk, this] at h
  cases h)
set_option maxRecDepth 100000 in
set_option maxHeartbeats 2000000 in
theorem mayLine_any (w : World) (s : ByteArray) (hs : s.size ≤ maxLen) :
    Calls Try.prog 51 #[.string s] w fun e w' => e = .returned (.bool (mayLn s.data.toList)) ∧ Below w.heap.size w w' := by
  unfold maxLen at hs
  have hl : s.data.toList.length = s.size := by simp
  by_cases h0 : s.size = 0
  · have e : s.data.toList = [] := List.length_eq_zero_iff.1 (by omega)
    have t1 : s.toList.isEmpty = true := by rw [ByteArray.toList_eq, e]; rfl
    have F := Lib.hid (show false = mayLn s.data.toList from by rw [e]; exact mayLn_empty)
    clear e hl h0
    go_enter Try.func51, Try.ntmps51
    go_wp2
    go_ret
    exact ⟨ret_bool F.out, Below.refl _ _⟩
  · have hp : 0 < s.size := by omega
    have t1 : s.toList.isEmpty = false := by
      rw [ByteArray.toList_eq]
      cases h : s.data.toList with
      | nil => rw [h] at hl; simp at hl; omega
      | cons c r => rfl
    have b0 := bat_str hp
    by_cases h32 : (s[0].toNat : Int) = 32
    · have t2 : ((s[0].toNat : Int) == 32) = true := by rw [beq_iff_eq]; exact h32
      have F := Lib.hid (show false = mayLn s.data.toList from mayLn_blank (by omega) (by rw [b0]; exact h32))
      clear hl h0 h32 b0
      go_enter Try.func51, Try.ntmps51
      go_wp2
      go_ret
      exact ⟨ret_bool F.out, Below.refl _ _⟩
    · have t2 : ((s[0].toNat : Int) == 32) = false := by rw [beq_eq_false_iff_ne]; exact h32
      have Y := Lib.hid (fun h => mayLn_yes (z := s.data.toList) (by omega) (by rw [b0]; exact h32) h)
      have N := Lib.hid (fun k hk h => mayLn_bad (z := s.data.toList) (k := k) (by omega : k < s.data.toList.length) h)
      have HL := Lib.hid hl
      have kb := bytes_of
      clear hl h0 h32 b0
      go_enter Try.func51, Try.ntmps51
      go_wp2
      have bb := bytes_below w s
      have ba := bytes_at w s
      generalize Lib.bytesWorld w 5 s = w1 at *
      generalize grownCap w s.size 0 5 = cp at *
      clear kb
      go_loop [15] (fun i => ∃ t : Nat, t ≤ s.size ∧ i = .int .i64 t ∧ Hid (linTo s.data.toList t)) (fun i => s.size - (intOf i).toNat)
      case atStart => exact ⟨0, Nat.zero_le _, rfl, Lib.hid (fun j hj => absurd hj (by omega))⟩
      case round =>
        obtain ⟨t, ht, rfl, D⟩ := hrel
        by_cases hlt : t < s.size
        · obtain ⟨b, off, eb, hb, hcc⟩ := ba.2 hp
          injection eb with eb; injection eb with e1 e2; subst e1; subst e2
          have c0 := hcc t hlt
          rw [Nat.zero_add] at c0
          clear hcc
          cases hm : mayI (bat s.data.toList t)
          · have M := Lib.hid hm
            have F := Lib.hid (N.out t (by rw [HL.out]; exact hlt) hm)
            clear hm N Y
            go_wp2_with (go_at_call 70; refine (mayByte_is _ _ _ M.out).mono ?_; rintro e w' ⟨rfl, rfl⟩)
            go_ret
            exact ⟨ret_bool F.out, bb⟩
          · have M := Lib.hid hm
            have D2 := Lib.hid (D.out.succ hm)
            clear hm N Y
            go_wp2_with (go_at_call 70; refine (mayByte_is _ _ _ M.out).mono ?_; rintro e w' ⟨rfl, rfl⟩)
            go_round
            case rel => exact ⟨t + 1, by omega, by go_num, D2⟩
            case measure => simp [intOf]; omega
        · obtain rfl : s.size = t := by omega
          have F := Lib.hid (Y.out (by rw [HL.out]; exact D.out))
          clear Y N
          go_wp2
          go_ret
          exact ⟨ret_bool F.out, bb⟩
theorem mayLine_is (w : World) (s : ByteArray) (x : Bool) (hs : s.size ≤ maxLen) (hx : mayLn s.data.toList = x) :
    Calls Try.prog 51 #[.string s] w fun e w' => e = .returned (.bool x) ∧ Below w.heap.size w w' := hx ▸ mayLine_any w s hs
def byteLen (v : Value) : Nat := match v with | .string s => s.size | _ => 0
set_option maxRecDepth 100000 in
set_option maxHeartbeats 4000000 in
theorem write_any (W w : World) (v : Value) (l : List UInt8) (s : ByteArray) (ho : Own W w v l) (hb : Below W.heap.size W w) (hs : s.size ≤ 100000) (hl : l.length ≤ 100000) :
    Calls Try.prog 52 #[v, .string s] w fun e w' => ∃ v', e = .returned v' ∧ Own W w' v' (l ++ fold1 s.data.toList) ∧ Below W.heap.size W w' := by
  have hz : s.data.toList.length = s.size := by simp
  have HZ := Lib.hid hz
  have fl := fold1_len s.data.toList
  rw [hz] at fl
  have FL := Lib.hid fl
  clear hz fl
  obtain ⟨m, hm, hms, hm5⟩ : ∃ m : Nat, min (s.size : Int) 75 = (m : Int) ∧ m ≤ s.size ∧ ((m = s.size ∧ s.size ≤ 75) ∨ m = 75) := by
    by_cases h : s.size ≤ 75
    · exact ⟨s.size, by omega, Nat.le_refl _, .inl ⟨rfl, h⟩⟩
    · exact ⟨75, by omega, by omega, .inr rfl⟩
  have tk := Lib.hid (show (s.extract 0 m).data.toList = s.data.toList.take 75 from by
    rw [ext_list]; simp only [List.drop_zero, Nat.sub_zero]
    rcases hm5 with ⟨e, h⟩ | e
    · rw [List.take_of_length_le (by rw [HZ.out]; omega), List.take_of_length_le (by rw [HZ.out]; omega)]
    · rw [e])
  have dk := Lib.hid (show (s.extract m s.size).data.toList = s.data.toList.drop 75 from by
    rw [ext_list, List.take_of_length_le (by rw [List.length_drop, HZ.out]; omega)]
    rcases hm5 with ⟨e, h⟩ | e
    · rw [List.drop_of_length_le (by rw [HZ.out]; omega), List.drop_of_length_le (by rw [HZ.out]; omega)]
    · rw [e])
  have i1 : (m : Int) ≤ (s.size : Int) := by omega
  have E0 := Lib.hid (show (l ++ s.data.toList.take 75) ++ more (s.extract m s.size).data.toList = l ++ fold1 s.data.toList from by rw [dk.out, List.append_assoc]; rfl)
  have rs : (s.extract m s.size).size ≤ s.size := by rw [ByteArray.size_extract]; omega
  have RS := Lib.hid rs
  clear hm5 rs
  go_enter Try.func52, Try.ntmps52
  go_wp2_with (at_builtin; refine append_text rfl _ _ rfl v l rfl ho hb _ (s.data.toList.take 75) rfl tk.out (by rw [List.length_take, HZ.out]; omega) ?_)
  intro v1 w1 o1 b1
  go_wp2
  have TOT := Lib.hid (show (l ++ fold1 s.data.toList).length ≤ 600000 from by rw [List.length_append]; have := FL.out; omega)
  go_loopw [0, 5, 6] (fun o nv rv wr => ∃ (v' : Value) (l' : List UInt8) (r : ByteArray) (k : Nat), v' = o ∧ nv = .int .i64 (k : Int) ∧ rv = .string r ∧ Own W wr v' l' ∧ Below W.heap.size W wr ∧ Hid (l' ++ more r.data.toList = l ++ fold1 s.data.toList) ∧ r.size ≤ s.size) (fun _ _ rv _ => byteLen rv)
  case atStart => exact ⟨v1, _, _, m, rfl, rfl, rfl, o1, b1, E0, RS.out⟩
  case round =>
    rename_i wr
    obtain ⟨v', l', r, k, rfl, rfl, rfl, ho', hb', E, hr⟩ := hrel
    have hzr : r.data.toList.length = r.size := by simp
    have ll : l'.length ≤ 600000 := by have := congrArg List.length E.out; rw [List.length_append] at this; have := TOT.out; omega
    by_cases h0 : r.size = 0
    · have e0 : r.data.toList = [] := List.length_eq_zero_iff.1 (by omega)
      have E1 := Lib.hid (show l' ++ [13, 10] = l ++ fold1 s.data.toList from by have := E.out; rwa [e0, more_nil] at this)
      have h0' : (r.size : Int) ≤ 0 := by omega
      clear e0 hzr E
      go_wp2_with (at_builtin; refine append_text rfl _ _ rfl v' l' rfl ho' hb' _ [13, 10] rfl rfl (by simp; omega) ?_)
      intro v2 w2 o2 b2
      go_wp2
      go_ret
      exact ⟨v2, rfl, by rw [← E1.out]; exact o2, b2⟩
    · have hp : 0 < r.size := by omega
      have hp' : (0 : Int) < (r.size : Int) := by omega
      obtain ⟨k2, hk, hks, hk5, hk0⟩ : ∃ m : Nat, min (r.size : Int) 74 = (m : Int) ∧ m ≤ r.size ∧ ((m = r.size ∧ r.size ≤ 74) ∨ m = 74) ∧ 0 < m := by
        by_cases h : r.size ≤ 74
        · exact ⟨r.size, by omega, Nat.le_refl _, .inl ⟨rfl, h⟩, by omega⟩
        · exact ⟨74, by omega, by omega, .inr rfl, by omega⟩
      have tk2 := Lib.hid (show (r.extract 0 k2).data.toList = r.data.toList.take 74 from by
        rw [ext_list]; simp only [List.drop_zero, Nat.sub_zero]
        rcases hk5 with ⟨e, h⟩ | e
        · rw [List.take_of_length_le (by omega), List.take_of_length_le (by omega)]
        · rw [e])
      have dk2 := Lib.hid (show (r.extract k2 r.size).data.toList = r.data.toList.drop 74 from by
        rw [ext_list, List.take_of_length_le (by rw [List.length_drop]; omega)]
        rcases hk5 with ⟨e, h⟩ | e
        · rw [List.drop_of_length_le (by omega), List.drop_of_length_le (by omega)]
        · rw [e])
      have E2 := Lib.hid (show (((l' ++ [13, 10]) ++ [32]) ++ r.data.toList.take 74) ++ more (r.extract k2 r.size).data.toList = l ++ fold1 s.data.toList from by
        rw [← E.out, dk2.out, more_step (z := r.data.toList) (fun e => by rw [e] at hzr; simp at hzr; omega)]; simp)
      have sz2 : (r.extract k2 r.size).size ≤ s.size := by rw [ByteArray.size_extract]; omega
      have sz3 : (r.extract k2 r.size).size < r.size := by rw [ByteArray.size_extract]; omega
      have i2 : (k2 : Int) ≤ (r.size : Int) := by omega
      have SZ2 := Lib.hid sz2; have SZ3 := Lib.hid sz3
      have lt2 : (r.data.toList.take 74).length ≤ 74 := by rw [List.length_take]; omega
      clear hzr E hk5 hk0 h0 sz2 sz3
      go_wp2_with (at_builtin; refine append_text rfl _ _ rfl v' l' rfl ho' hb' _ [13, 10] rfl rfl (by simp; omega) ?_)
      intro v2 w2 o2 b2
      have g2 := (Below.refl w2.heap.size w2).alloc (Nat.le_refl _) (.cells #[.int .u8 32] 5)
      have hX := lit_at w2 [32] #[.int .u8 32] 5 (0, 0) rfl
      have o2' := Own.on o2 g2
      have b2' := b2.trans (g2.mono b2.size)
      go_wp2_with (at_builtin; refine append_bs rfl _ _ rfl v2 (l' ++ [13, 10]) rfl o2' b2' _ _ _ [32] rfl hX (fun h => by cases h) (by simp; omega) ?_)
      intro v3 w3 o3 b3
      replace o3 : Own W w3 v3 ((l' ++ [13, 10]) ++ [32]) := by simpa using o3
      clear hX g2 o2' b2' o2
      go_wp2_with (at_builtin; refine append_text rfl _ _ rfl v3 ((l' ++ [13, 10]) ++ [32]) rfl o3 b3 _ (r.data.toList.take 74) rfl tk2.out (by simp only [List.length_append, List.length_cons, List.length_nil]; omega) ?_)
      intro v4 w4 o4 b4
      go_wp2
      go_roundw
      case rel => exact ⟨v4, ((l' ++ [13, 10]) ++ [32]) ++ r.data.toList.take 74, _, k2, rfl, rfl, rfl, by simpa using o4, b4, E2, SZ2.out⟩
      case measure => show byteLen (Value.string _) < byteLen (Value.string r); simp only [byteLen]; exact SZ3.out
end Go.Proofs.Ytbinhnlajflndaa.Fd
