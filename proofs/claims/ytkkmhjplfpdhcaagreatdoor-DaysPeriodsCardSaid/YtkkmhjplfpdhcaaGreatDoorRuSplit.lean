/- The walk of vokref's Split: a text cut at a sign. -/
import Derived.Test.YtkkmhjplfpdhcaaGreatDoorRuMem
import Derived.Laws.OwnMore
import Derived.StillTailTactics
set_option linter.unusedVariables false
namespace Go.Proofs.YtkkmhjplfpdhcaaGreatDoor.Ru
open Go.RowKit Cv St

/-- the string of these bytes -/
def str (z : List UInt8) : ByteArray := ⟨z.toArray⟩
theorem str_list (s : ByteArray) : str s.data.toList = s := by cases s; simp [str]
theorem list_str (z : List UInt8) : (str z).data.toList = z := by simp [str]
theorem str_size (z : List UInt8) : (str z).size = z.length := by simp [str, ByteArray.size]
theorem size_list (s : ByteArray) : s.data.toList.length = s.size := by simp
theorem ext_str (s : ByteArray) (a b : Nat) : s.extract a b = str ((s.data.toList.drop a).take (b - a)) := by
  rw [← str_list (s.extract a b), ext_list]
/-- an own slice of strings -/
def strV (s : ByteArray) : Value := .string s
def OwnT (W w : World) (v : Value) (l : List ByteArray) : Prop := w.ownsRow W.heap.size 9 1 v l.length (l.map strV)
theorem OwnT.nil (W w : World) : OwnT W w (.slice none 0 0) [] := World.ownsRow_nil _ _ _ _
theorem OwnT.on {W w w' : World} {v : Value} {l : List ByteArray} (h : OwnT W w v l) (hb : Below w.heap.size w w') : OwnT W w' v l :=
  World.ownsRow.kept (row := none) h ⟨hb.1, hb.2, hb.3, hb.4, fun k hk _ => hb.5 k hk⟩ (by cases v.ownBlock <;> simp)
theorem info_str : (Tryz.prog.info? 9).map (fun i => (i.zero, i.size, i.bytes)) = some (some (.string ⟨#[]⟩), 1, 16) := by kernel_rfl
/-- append of one string to an own slice of strings -/
theorem append_line {ops : Array Oper} {rest : List Oper} {o : Oper} {a : Act} {Q : Exit → Act → World → Prop} {W w : World} (hgd : o.guard = none) (s x : Operand)
    (ho : o.op = .call { callee := .builtin .append, args := #[s, x], argTypes := #[80, 80] })
    (v : Value) (l : List ByteArray) (hs : a.eval s = v) (hown : OwnT W w v l) (hat : Below W.heap.size W w) (t : ByteArray) (T : TypeId) (c : Nat)
    (hx : a.eval x = .slice (some ⟨w.heap.size, 0, none⟩) 1 c) (hl : l.length ≤ 1000000)
    (h : ∀ v' w', OwnT W w' v' (l ++ [t]) → Below W.heap.size W w' → wpList Tryz.prog ops Q rest (a.put o.dst v') w') : wpList Tryz.prog ops Q (o :: rest) a (w.alloc (.cells #[.string t] T)) := by
  obtain ⟨i0, hi, hz0, hz1, hz2⟩ := info_parts info_str
  refine wpList_append_own _ hgd s x 80 ho W.heap.size 9 i0 (.string ⟨#[]⟩) 1 16 Tryz.underlying80 hi hz0 hz1 hz2 rfl (by decide) v l.length (l.map strV) hs (World.ownsRow.alloc hown _)
    ⟨w.heap.size, 0, none⟩ 1 c [.string t] hx rfl ?_ (by intro u hu; obtain rfl : u = .string t := by simpa using hu
                                                         rfl) (by unfold maxLen; omega) (by omega) (by have := hat.size; simp; omega) ?_
  · intro j u hj
    cases j with
    | zero => obtain rfl : Value.string t = u := by simpa using hj
              show (w.alloc (.cells #[.string t] T)).cell? ⟨w.heap.size, 0, none⟩ = _
              rw [World.cell?_alloc_new]; rfl
    | succ j => simp at hj
  · intro v' w' hown' hg _
    have hat1 : Below W.heap.size W (w.alloc (.cells #[.string t] T)) := hat.trans ((Below.refl _ _).alloc hat.size _)
    refine h v' w' ?_ (hat1.trans ((Below.refl _ _).grown hg (by have := hat.size; simp; omega) fun _ hk => (World.ownsRow.lt hown _ hk).1))
    unfold OwnT
    rw [List.length_append, List.map_append]
    exact hown'
/-- the cut's state: at t, the last piece begins at f -/
def Sp (l : List UInt8) (c : UInt8) (acc : List (List UInt8)) (f t : Nat) : Prop :=
  acc.length ≤ t ∧ ((t ≤ l.length ∧ f ≤ t ∧ c ∉ (l.drop f).take (t - f) ∧ acc ++ cutAt c (l.drop f) = cutAt c l) ∨ (t = l.length + 1 ∧ acc = cutAt c l))
theorem Sp.start (l : List UInt8) (c : UInt8) : Sp l c [] 0 0 := ⟨Nat.le_refl _, .inl ⟨Nat.zero_le _, Nat.le_refl _, by simp, by simp⟩⟩
theorem Sp.over {l : List UInt8} {c : UInt8} {acc : List (List UInt8)} {f t : Nat} (h : Sp l c acc f t) (ht : l.length < t) : acc = cutAt c l := by
  rcases h.2 with h | h
  · omega
  · exact h.2
theorem Sp.le {l : List UInt8} {c : UInt8} {acc : List (List UInt8)} {f t : Nat} (h : Sp l c acc f t) (ht : t ≤ l.length) : f ≤ t := by
  rcases h.2 with h | h
  · exact h.2.1
  · omega
theorem drop_split {l : List UInt8} {f t : Nat} (hf : f ≤ t) (ht : t < l.length) : l.drop f = (l.drop f).take (t - f) ++ l[t] :: l.drop (t + 1) := by
  have e : l.drop f = (l.drop f).take (t - f) ++ (l.drop f).drop (t - f) := (List.take_append_drop _ _).symm
  rw [List.drop_drop, show f + (t - f) = t from by omega, List.drop_eq_getElem_cons ht] at e
  exact e
theorem Sp.pass {l : List UInt8} {c : UInt8} {acc : List (List UInt8)} {f t : Nat} (h : Sp l c acc f t) (ht : t < l.length) (hc : l[t] ≠ c) : Sp l c acc f (t + 1) := by
  rcases h.2 with ⟨-, h2, h3, h4⟩ | g
  · refine ⟨by have := h.1; omega, .inl ⟨by omega, by omega, ?_, h4⟩⟩
    have e := drop_split h2 ht
    have : (l.drop f).take (t + 1 - f) = (l.drop f).take (t - f) ++ [l[t]] := by
      have hlen : ((l.drop f).take (t - f)).length = t - f := by rw [List.length_take, List.length_drop]; omega
      conv => lhs; rw [e]
      rw [List.take_append, hlen, show t + 1 - f - (t - f) = 1 from by omega, List.take_of_length_le (by rw [hlen]; omega)]
      rfl
    rw [this]
    intro hm
    rcases List.mem_append.1 hm with hm | hm
    · exact h3 hm
    · exact hc (List.mem_singleton.1 hm).symm
  · omega
theorem Sp.cut {l : List UInt8} {c : UInt8} {acc : List (List UInt8)} {f t : Nat} (h : Sp l c acc f t) (ht : t < l.length) (hc : l[t] = c) : Sp l c (acc ++ [(l.drop f).take (t - f)]) (t + 1) (t + 1) := by
  rcases h.2 with ⟨-, h2, h3, h4⟩ | g
  · refine ⟨by rw [List.length_append]; have := h.1; simp; omega, .inl ⟨by omega, Nat.le_refl _, by simp, ?_⟩⟩
    rw [← h4, List.append_assoc]
    conv => rhs; rw [drop_split h2 ht, hc, cutAt_app h3]
    rfl
  · omega
theorem Sp.last {l : List UInt8} {c : UInt8} {acc : List (List UInt8)} {f : Nat} (h : Sp l c acc f l.length) : Sp l c (acc ++ [(l.drop f).take (l.length - f)]) (l.length + 1) (l.length + 1) := by
  rcases h.2 with ⟨-, h2, h3, h4⟩ | g
  · refine ⟨by rw [List.length_append]; have := h.1; simp; omega, .inr ⟨rfl, ?_⟩⟩
    have e : (l.drop f).take (l.length - f) = l.drop f := List.take_of_length_le (by rw [List.length_drop]; omega)
    rw [e] at h3 ⊢
    rw [← h4, cutAt_one h3]
  · omega
def SplitPost (W : World) (s : ByteArray) (c : UInt8) (e : Ending) (w' : World) : Prop :=
  ∃ v, e = .returned v ∧ OwnT W w' v ((cutAt c s.data.toList).map str) ∧ Below W.heap.size W w'
set_option maxRecDepth 100000 in
set_option maxHeartbeats 4000000 in
/-- vokref.Split -/
theorem rsplit_any (w : World) (s : ByteArray) (x : Int) (c : UInt8) (hx : x = c.toNat) (h1 : s.size ≤ 100000) :
    Calls Tryz.prog 89 #[.string s, .int .u8 x] w (SplitPost w s c) := by
  have HX := Lib.hid hx
  clear hx
  go_enter Tryz.func89, Tryz.ntmps89
  go_wp2
  go_loopw [5, 6, 7] (fun ov fv tv wr => ∃ (v : Value) (acc : List (List UInt8)) (f t : Nat), t ≤ s.size + 1 ∧ v = ov ∧ fv = .int .i64 f ∧ tv = .int .i64 t ∧ Hid (Sp s.data.toList c acc f t) ∧ OwnT w wr v (acc.map str) ∧ Below w.heap.size w wr) (fun _ _ tv _ => s.size + 1 - (intOf tv).toNat)
  case atStart => exact ⟨_, [], 0, 0, by omega, rfl, rfl, rfl, Lib.hid (Sp.start _ _), OwnT.nil _ _, Below.refl _ _⟩
  case round =>
    rename_i wr
    obtain ⟨v, acc, f, t, ht, rfl, rfl, rfl, D, hO, hB⟩ := hrel
    by_cases hlt : t < s.size
    · have hf := D.out.le (by rw [size_list]; omega)
      have t1 : (t : Int) ≤ (s.size : Int) := by omega
      have te : ((t : Int) == (s.size : Int)) = false := by rw [beq_eq_false_iff_ne]; omega
      have eL : s.data.toList[t]'(by rw [size_list]; exact hlt) = s[t] := by simp [ByteArray.getElem_eq_getElem_data]
      by_cases hc : s[t] = c
      · have E := Lib.hid (D.out.cut (by rw [size_list]; exact hlt) (by rw [eL]; exact hc))
        have tc : ((s[t].toNat : Int) == x) = true := by rw [beq_iff_eq, HX.out, hc]
        have al := D.out.1
        clear hc eL
        go_wp2_with (at_builtin; refine append_line rfl _ _ rfl v (acc.map str) rfl hO hB (s.extract f t) 9 1 rfl (by rw [List.length_map]; omega) ?_)
        intro v5 w5 hO5 hB5
        go_wp2
        go_roundw
        case rel => exact ⟨_, _, t + 1, t + 1, by omega, rfl, by go_num, by go_num, E, by rw [List.map_append, List.map_singleton, ← ext_str]; exact hO5, hB5⟩
        case measure => simp [intOf]; omega
      · have E := Lib.hid (D.out.pass (by rw [size_list]; exact hlt) (by rw [eL]; exact hc))
        have tc : ((s[t].toNat : Int) == x) = false := by rw [beq_eq_false_iff_ne, HX.out]; intro e; exact hc (UInt8.toNat_inj.1 (by omega))
        clear hc eL
        go_wp2
        go_roundw
        case rel => exact ⟨v, acc, f, t + 1, by omega, rfl, rfl, by go_num, E, hO, hB⟩
        case measure => simp [intOf]; omega
    · by_cases he : t = s.size
      · subst he
        have hf := D.out.le (by rw [size_list]; omega)
        have D' : Sp s.data.toList c acc f s.data.toList.length := by rw [size_list]; exact D.out
        have E0 := D'.last
        rw [size_list] at E0
        have E := Lib.hid E0
        have al := D.out.1
        have te : ((s.size : Int) == (s.size : Int)) = true := beq_self_eq_true _
        clear E0 D'
        go_wp2_with (at_builtin; refine append_line rfl _ _ rfl v (acc.map str) rfl hO hB (s.extract f s.size) 9 1 rfl (by rw [List.length_map]; omega) ?_)
        intro v5 w5 hO5 hB5
        go_wp2
        go_roundw
        case rel => exact ⟨_, _, s.size + 1, s.size + 1, by omega, rfl, by go_num, by go_num, E, by rw [List.map_append, List.map_singleton, ← ext_str]; exact hO5, hB5⟩
        case measure => simp [intOf]
      · have E := Lib.hid (D.out.over (by rw [size_list]; omega))
        have t1 : (s.size : Int) < (t : Int) := by omega
        go_wp2
        go_ret
        exact ⟨v, rfl, by rw [← E.out]; exact hO, hB⟩
end Go.Proofs.YtkkmhjplfpdhcaaGreatDoor.Ru
