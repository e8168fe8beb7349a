/- What package stamp's walks share: below the world that a law began in nothing turns, and the table of powers reads as it was laid; a slice of bytes of the call's own holds a list of bytes. The walks of package stamp's functions that write: two, part, Text, DurText; and of those that only compute: Make, Day, May, Add. The walks of package stamp's functions that read texts: isDigit, digits, number, Parse, seconds, sum. The walks of vokref1's May and Day. The walk of vokref.Dec: a number's decimal digits, of a number that is not below 0. -/
import Derived.Test.YtajgagmpdhmbkaaGreatDoorRows
import Derived.Test.YtajgagmpdhmbkaaGreatDoorMaA
import Derived.Test.YtajgagmpdhmbkaaGreatDoorCvW
import Derived.Test.YtajgagmpdhmbkaaGreatDoorShelf
import Derived.Lib.AppendIntMem
import Derived.WalkKit
import Derived.OwnWalk
import Derived.WalkSpells
import Derived.BigCall
import Derived.Lib.Hide
import Derived.Lib.Slices
import Derived.Lib.ItoaLen
import Derived.Lib.UnsafeStr
import Derived.Laws.IdiomStrings
import Derived.Laws.MakeOwn
import Derived.Outline
import Derived.LoopTactic
import Derived.Deep.QuietTactic
import Derived.BigQuiet
import Derived.Deep.RegionWith
import Derived.IntWalk
set_option linter.unusedVariables false
namespace Go.Proofs.YtajgagmpdhmbkaaGreatDoor.St
open Go.RowKit

def Tab (_ : World) : Prop := True
/-- Of what W held nothing has turned; the table stands. -/
structure At (W w : World) : Prop where
  below : Below W.heap.size W w
  tab : Tab W
theorem At.refl {W : World} (h : Tab W) : At W W := ⟨Below.refl _ _, h⟩
theorem At.on {W w w' : World} (h : At W w) (hb : Below W.heap.size w w') : At W w' := ⟨h.below.trans hb, h.tab⟩
theorem At.size {W w : World} (h : At W w) : W.heap.size ≤ w.heap.size := h.below.size
theorem Below.drewN' (B : Nat) (w : World) (n : Nat) : Below B w (w.drewN n) := ⟨rfl, rfl, rfl, Nat.le_refl _, fun _ _ => rfl⟩
theorem At.drewN {W w : World} (h : At W w) (n : Nat) : At W (w.drewN n) := h.on (Below.drewN' _ _ _)
/-- v is a slice of the call's own that holds the bytes l. -/
def Own (W w : World) (v : Value) (l : List UInt8) : Prop := w.ownsRow W.heap.size 5 1 v l.length (Lib.byteCells l)
/-- What a function leaves that writes on behind a slice of the call's own. -/
def Wrote (W : World) (l : List UInt8) (e : Ending) (w' : World) : Prop := ∃ v, e = .returned v ∧ Own W w' v l ∧ At W w'
theorem info_u8 : (Tryz.prog.info? 5).map (fun i => (i.zero, i.size, i.bytes)) = some (some (.int .u8 0), 1, 1) := by kernel_rfl
theorem Own.lt {W w : World} {v : Value} {l : List UInt8} (h : Own W w v l) {k : Nat} (hk : v.ownBlock = some k) : W.heap.size ≤ k := (World.ownsRow.lt h k hk).1
theorem Own.grown {W w w1 : World} {v : Value} {l : List UInt8} (h : Own W w v l) (ha : At W w) (hg : w.grownBy w1 v.ownBlock) : At W w1 :=
  ha.on ((Below.refl _ _).grown hg ha.size fun _ hk => h.lt hk)
theorem Own.nil (W w : World) : Own W w (.slice none 0 0) [] := World.ownsRow_nil _ _ _ _
theorem byteCells_append (a b : List UInt8) : Lib.byteCells (a ++ b) = Lib.byteCells a ++ Lib.byteCells b := by simp [Lib.byteCells]
/-- append of a few bytes that the text writes out. -/
theorem append_bytes {ops : Array Oper} {rest : List Oper} {o : Oper} {a : Act} {Q : Exit → Act → World → Prop} {W w : World} (hgd : o.guard = none) (s x : Operand)
    (ho : o.op = .call { callee := .builtin .append, args := #[s, x], argTypes := #[81, 81] })
    (v : Value) (l : List UInt8) (hs : a.eval s = v) (hown : Own W w v l) (hat : At W w) (cs : Array Value) (T : TypeId) (m c : Nat)
    (hx : a.eval x = .slice (some ⟨w.heap.size, 0, none⟩) m c) (ns : List UInt8) (hcs : cs.toList = Lib.byteCells ns) (hm : ns.length = m) (hl : l.length + m ≤ 1000000)
    (h : ∀ v' w', Own W w' v' (l ++ ns) → At W w' → wpList Tryz.prog ops Q rest (a.put o.dst v') w') : wpList Tryz.prog ops Q (o :: rest) a (w.alloc (.cells cs T)) := by
  obtain ⟨i0, hi, hz0, hz1, hz2⟩ := info_parts info_u8
  have h1 : ∀ u ∈ Lib.byteCells ns, Value.oneCell' u = true := by
    intro u hu
    unfold Lib.byteCells at hu
    obtain ⟨b, _, rfl⟩ := List.mem_map.1 hu
    rfl
  refine wpList_append_own _ hgd s x 81 ho W.heap.size 5 i0 (.int .u8 0) 1 1 Tryz.underlying81 hi hz0 hz1 hz2 rfl (by decide) v l.length (Lib.byteCells l) hs (World.ownsRow.alloc hown _)
    ⟨w.heap.size, 0, none⟩ m c (Lib.byteCells ns) hx (by simp [Lib.byteCells, hm]) ?_ h1 (by unfold maxLen; omega) (by omega) (by have := hat.size; simp; omega) ?_
  · intro j u hj
    rw [← hcs] at hj
    have e : (⟨w.heap.size, 0, none⟩ : Addr).add j = ⟨w.heap.size, j, none⟩ := by cases j <;> simp [Addr.add]
    rw [e, World.cell?_alloc_new, ← hj]; simp
  · intro v' w' hown' hg _
    have hat1 : At W (w.alloc (.cells cs T)) := hat.on ((Below.refl _ _).alloc hat.size _)
    refine h v' w' ?_ (hat1.on ((Below.refl _ _).grown hg (by have := hat.size; simp; omega) fun _ hk => hown.lt hk))
    unfold Own
    rw [List.length_append, byteCells_append, hm]
    exact hown'
/-- string(out) of a slice of the call's own. -/
theorem bytes_back {W w : World} {g cap : Nat} {l : List UInt8} (h : Own W w (.slice (some ⟨g, 0, none⟩) l.length cap) l) :
    (convert 81 9 (.slice (some ⟨g, 0, none⟩) l.length cap)).run Tryz.prog w = .ok (.string ⟨l.toArray⟩) w :=
  run_convert_bytes_back (P := Tryz.prog) w 81 9 5 ⟨g, 0, none⟩ cap l Tryz.underlying81 Tryz.underlying5 Tryz.underlying9 (fun j hj => World.ownsRow.cells h (g := g) rfl j _ (by simp [Lib.byteCells, hj]))
theorem Own.slice {W w : World} {v : Value} {l : List UInt8} (h : Own W w v l) (hl : 0 < l.length) : ∃ g cap, v = .slice (some ⟨g, 0, none⟩) l.length cap := by
  rcases h.2 with ⟨-, h0⟩ | ⟨g, cap, cur, rfl, -⟩
  · omega
  · exact ⟨g, cap, rfl⟩
theorem part_len (n u : Int) (h0 : 0 ≤ n) (h1 : n ≤ 1000000) : (part n u).length ≤ 22 := by
  have := Lib.itoa_length_le n (by omega) (by omega)
  unfold part; split <;> simp; omega
theorem durText_len {n : Int} (h1 : 1 ≤ n) (h2 : n ≤ 2147483648) : (durText n).length ≤ 100 := by
  have k0 := part_len (n / 604800) 87 (by omega) (by omega)
  have k1 := part_len (n / 86400) 68 (by omega) (by omega)
  have k2 := part_len (n % 86400 / 3600) 72 (by omega) (by omega)
  have k3 := part_len (n % 3600 / 60) 77 (by omega) (by omega)
  have k4 := part_len (n % 60) 83 (by omega) (by omega)
  unfold durText
  split <;> (try split) <;> simp <;> omega
theorem At.alloc {W w : World} (h : At W w) (o : Obj) : At W (w.alloc o) := h.on ((Below.refl _ _).alloc h.size _)
theorem At.drew {W w : World} (h : At W w) : At W w.drew := h.on ((Below.refl _ _).drew)
theorem own_lit (W w : World) (l : List UInt8) (h : At W w) (hl : l.length ≤ 1000) : Own W (w.alloc (.cells (Lib.byteCells l).toArray 5)) (.slice (some ⟨w.heap.size, 0, none⟩) l.length l.length) l := by
  have := World.ownsRow_lit (base := W.heap.size) (e := 5) (size := 1) w (Lib.byteCells l).toArray l.length h.size (by unfold maxLen; omega) (by simp [Lib.byteCells])
  simpa [Own] using this
/-- string([]byte{c}). -/
theorem one_back (c : Int) (h0 : 0 ≤ c) (h1 : c ≤ 255) (w : World) :
    (convert 81 9 (.slice (some ⟨w.heap.size, 0, none⟩) 1 1)).run Tryz.prog (w.alloc (.cells #[.int .u8 c] 5)) = .ok (.string ⟨#[u8 c]⟩) (w.alloc (.cells #[.int .u8 c] 5)) := by
  have e := u8_nat c h0 h1
  have := run_convert_bytes_back (P := Tryz.prog) (w.alloc (.cells #[.int .u8 c] 5)) 81 9 5 ⟨w.heap.size, 0, none⟩ 1 [u8 c] Tryz.underlying81 Tryz.underlying5 Tryz.underlying9
    (fun j hj => by obtain rfl : j = 0 := by simpa using hj
                    show (w.alloc (.cells #[.int .u8 c] 5)).cell? ⟨w.heap.size, 0, none⟩ = _
                    rw [World.cell?_alloc_new]; simp [e])
  exact this
theorem one_back_drew (c : Int) (h0 : 0 ≤ c) (h1 : c ≤ 255) (w : World) :
    (convert 81 9 (.slice (some ⟨w.heap.size, 0, none⟩) 1 1)).run Tryz.prog (w.alloc (.cells #[.int .u8 c] 5)).drew = .ok (.string ⟨#[u8 c]⟩) (w.alloc (.cells #[.int .u8 c] 5)).drew := by
  have e := u8_nat c h0 h1
  have := run_convert_bytes_back (P := Tryz.prog) (w.alloc (.cells #[.int .u8 c] 5)).drew 81 9 5 ⟨w.heap.size, 0, none⟩ 1 [u8 c] Tryz.underlying81 Tryz.underlying5 Tryz.underlying9
    (fun j hj => by obtain rfl : j = 0 := by simpa using hj
                    show (w.alloc (.cells #[.int .u8 c] 5)).cell? ⟨w.heap.size, 0, none⟩ = _
                    rw [World.cell?_alloc_new]; simp [e])
  exact this
end Go.Proofs.YtajgagmpdhmbkaaGreatDoor.St
namespace Go.Proofs.YtajgagmpdhmbkaaGreatDoor.St
open Go.RowKit Cv

theorem may_yes (t : Int) (w : World) (h : may t = true) :
    Calls Tryz.prog 60 #[.int .i64 t] w fun e w' => e = .returned (.bool true) ∧ w = w' := by
  obtain ⟨h1, h2⟩ := of_decide_eq_true h; clear h
  go_enter Tryz.func60, Tryz.ntmps60
  go_wp2
  go_ret
  exact ⟨rfl, rfl⟩
theorem may_no (t : Int) (w : World) (h : may t = false) :
    Calls Tryz.prog 60 #[.int .i64 t] w fun e w' => e = .returned (.bool false) ∧ w = w' := by
  have g := of_decide_eq_false h; clear h
  by_cases h1 : t < -62135596800
  · clear g
    go_enter Tryz.func60, Tryz.ntmps60
    go_wp2
    go_ret
    exact ⟨rfl, rfl⟩
  · have h2 : 253402300799 < t := by omega
    clear g
    go_enter Tryz.func60, Tryz.ntmps60
    go_wp2
    go_ret
    exact ⟨ret_bool (decide_eq_false (by omega)), rfl⟩
theorem may_any (t : Int) (w : World) :
    Calls Tryz.prog 60 #[.int .i64 t] w fun e w' => e = .returned (.bool (may t)) ∧ w = w' := by
  cases h : may t
  · exact may_no t w h
  · exact may_yes t w h
theorem time_no {h mi s : Int} (g : time h mi s = false) : h < 0 ∨ 0 ≤ h ∧ 23 < h ∨ 0 ≤ h ∧ h ≤ 23 ∧ (mi < 0 ∨ 0 ≤ mi ∧ 59 < mi ∨ 0 ≤ mi ∧ mi ≤ 59 ∧ (s < 0 ∨ 0 ≤ s ∧ 59 < s)) := by
  have := of_decide_eq_false g; omega
theorem make_date (y mo d h mi s : Int) (w : World) (hv : valid y mo d = false) :
    Calls Tryz.prog 102 #[.int .i64 y, .int .i64 mo, .int .i64 d, .int .i64 h, .int .i64 mi, .int .i64 s] w fun e w' => e = .returned (.tuple #[.int .i64 0, .int .i64 1]) ∧ w = w' := by
  have V := Lib.hid hv; clear hv
  go_enter Tryz.func102, Tryz.ntmps102
  go_wp2_with (go_at_call 145; refine (days_no _ _ _ _ V.out).mono ?_; rintro e w' ⟨rfl, rfl⟩)
  go_ret2
  exact ⟨rfl, rfl⟩
theorem make_time (y mo d h mi s : Int) (w : World) (hv : valid y mo d = true) (ht : time h mi s = false) :
    Calls Tryz.prog 102 #[.int .i64 y, .int .i64 mo, .int .i64 d, .int .i64 h, .int .i64 mi, .int .i64 s] w fun e w' => e = .returned (.tuple #[.int .i64 0, .int .i64 1]) ∧ w = w' := by
  have V := Lib.hid hv; clear hv
  rcases time_no ht with h1 | ⟨h1, h2⟩ | ⟨h1, h2, h3 | ⟨h3, h4⟩ | ⟨h3, h4, h5 | ⟨h5, h6⟩⟩⟩
  all_goals
    clear ht
    go_enter Tryz.func102, Tryz.ntmps102
    go_wp2_with (go_at_call 145; refine (days_yes _ _ _ _ V.out).mono ?_; rintro e w' ⟨rfl, rfl⟩)
    go_ret2
    exact ⟨rfl, rfl⟩
theorem make_yes (y mo d h mi s : Int) (w : World) (hv : valid y mo d = true) (ht : time h mi s = true) :
    Calls Tryz.prog 102 #[.int .i64 y, .int .i64 mo, .int .i64 d, .int .i64 h, .int .i64 mi, .int .i64 s] w fun e w' => e = .returned (.tuple #[.int .i64 (mk y mo d h mi s), .int .i64 0]) ∧ w = w' := by
  obtain ⟨h1, h2, h3, h4, h5, h6⟩ := of_decide_eq_true ht; clear ht
  obtain ⟨b1, b2⟩ := num_bd hv
  have V := Lib.hid hv; clear hv
  go_enter Tryz.func102, Tryz.ntmps102
  go_wp2_with (go_at_call 145; refine (days_yes _ _ _ _ V.out).mono ?_; rintro e w' ⟨rfl, rfl⟩)
  go_ret2
  exact ⟨rfl, rfl⟩
theorem make_any (y mo d h mi s a b : Int) (w : World) (hr : makeR y mo d h mi s = (a, b)) :
    Calls Tryz.prog 102 #[.int .i64 y, .int .i64 mo, .int .i64 d, .int .i64 h, .int .i64 mi, .int .i64 s] w fun e w' => e = .returned (.tuple #[.int .i64 a, .int .i64 b]) ∧ w = w' := by
  unfold makeR at hr
  cases hv : valid y mo d
  · rw [if_neg (by simp [hv])] at hr
    injection hr with h1 h2; subst h1 h2
    exact make_date y mo d h mi s w hv
  · cases ht : time h mi s
    · rw [if_neg (by simp [ht])] at hr
      injection hr with h1 h2; subst h1 h2
      exact make_time y mo d h mi s w hv ht
    · rw [if_pos ⟨hv, ht⟩] at hr
      injection hr with h1 h2; subst h1 h2
      exact make_yes y mo d h mi s w hv ht
theorem day_any (t : Int) (w : World) (h1 : -9223372036854775808 ≤ t) (h2 : t ≤ 9223372036854775807) :
    Calls Tryz.prog 65 #[.int .i64 t] w fun e w' => e = .returned (.tuple #[.int .i64 (t / 86400), .int .i64 (t % 86400)]) ∧ w = w' := by
  by_cases hn : 0 ≤ t
  · have g := Int.emod_nonneg t (b := 86400) (by omega)
    go_enter Tryz.func65, Tryz.ntmps65
    go_wp2
    go_ret2
    exact ⟨rfl, rfl⟩
  · obtain ⟨e1, e2, b1, b2, b3, b4⟩ := tday (t := t) (by omega) h1
    by_cases hz : t.tmod 86400 < 0
    · obtain ⟨e, f⟩ := e1 hz
      have E := Lib.hid e; have F := Lib.hid f; clear e f e1 e2
      go_enter Tryz.func65, Tryz.ntmps65
      go_wp2
      go_ret2
      exact ⟨ret_two E.out F.out, rfl⟩
    · obtain ⟨e, f⟩ := e2 hz
      have E := Lib.hid e; have F := Lib.hid f; clear e f e1 e2
      go_enter Tryz.func65, Tryz.ntmps65
      go_wp2
      go_ret2
      exact ⟨ret_two E.out F.out, rfl⟩
set_option maxHeartbeats 400000 in
theorem two_any (W w : World) (v : Value) (l : List UInt8) (n : Int) (h0 : 0 ≤ n) (h1 : n ≤ 99) (h : At W w) (ho : Own W w v l) (hl : l.length ≤ 1000) :
    Calls Tryz.prog 72 #[v, .int .i64 n] w (Wrote W (l ++ d2 n)) := by
  go_enter Tryz.func72, Tryz.ntmps72
  go_wp2_with (at_builtin; refine append_bytes rfl _ _ rfl _ _ rfl ho h _ _ _ _ rfl [u8 (48 + n / 10), u8 (48 + n % 10)] ?c1 rfl ?c2 ?_)
  case c1 =>
    have e1 := u8_nat (48 + n / 10) (by omega) (by omega)
    have e2 := u8_nat (48 + n % 10) (by omega) (by omega)
    simp [Lib.byteCells, e1, e2]
  case c2 => omega
  intro v' w' hown' hat'
  go_wp2
  go_ret
  exact ⟨v', rfl, hown', hat'⟩
set_option maxHeartbeats 400000 in
theorem text_yes (W w : World) (t : Int) (h1 : -62135596800 ≤ t) (h2 : t ≤ 253402300799) (h : At W w) :
    Calls Tryz.prog 32 #[.int .i64 t] w fun e w' => e = .returned (.tuple #[.string ⟨(text t).toArray⟩, .int .i64 0]) ∧ At W w' := by
  have hm : may t = true := decide_eq_true ⟨h1, h2⟩
  have M := Lib.hid hm; clear hm
  obtain ⟨q1, q2⟩ := may_day h1 h2
  obtain ⟨i0, hi, hz0, hz1, hz2⟩ := info_parts info_u8
  obtain ⟨w1, hmk0, hown, hg⟩ := run_make_own (P := Tryz.prog) w W.heap.size 81 5 i0 (.int .u8 0) 1 Tryz.underlying81 hi hz0 hz1 .i64 .i64 15 (by rw [hz2]; decide) (by unfold maxLen; omega) h.size
  have ho1 : Own W w1 (.slice (some ⟨w.heap.size, 0, none⟩) 0 15) [] := hown
  have ha1 : At W w1 := h.on ((Below.refl _ _).grown hg h.size fun _ hk => by cases hk)
  have hmk : (Instr.makeSlice 81 (.int .i64 0) (.int .i64 15)).run Tryz.prog w = .ok (.slice (some ⟨w.heap.size, 0, none⟩) 0 15) w1 := hmk0
  clear hi hz0 hz1 hz2 hown hg hmk0
  obtain ⟨y1, y2⟩ := yr_day (t / 86400) q1 q2
  obtain ⟨V, _⟩ := back q1 q2
  obtain ⟨_, _, m1, m2, g1, g2⟩ := valid_parts V
  have g3 := (len_bd (yr (t / 86400)) (mon (t / 86400))).2
  clear V
  have s1 : 0 ≤ t % 86400 := by omega
  have s2 : t % 86400 ≤ 86399 := by omega
  go_enter Tryz.func32, Tryz.ntmps32
  go_wp2_with (first
    | (go_at_call 60; refine (may_yes _ _ M.out).mono ?_; rintro e w' ⟨rfl, rfl⟩)
    | (go_at_call 65; refine (day_any _ _ (by omega) (by omega)).mono ?_; rintro e w' ⟨rfl, rfl⟩)
    | (go_at_call 71; refine (date_yes _ _ q1 q2).mono ?_; rintro e w' ⟨rfl, rfl⟩))
  refine (two_any W _ _ _ _ (by omega) (by omega) ha1 ho1 (by simp)).mono ?_
  rintro e w2 ⟨v2, rfl, ho2, ha2⟩
  clear ho1 ha1
  go_wp2_with fail
  refine (two_any W _ _ _ _ (by omega) (by omega) ha2 ho2 (by simp [d2])).mono ?_
  rintro e w3 ⟨v3, rfl, ho3, ha3⟩
  clear ho2 ha2
  go_wp2_with fail
  refine (two_any W _ _ _ _ (by omega) (by omega) ha3 ho3 (by simp [d2])).mono ?_
  rintro e w4 ⟨v4, rfl, ho4, ha4⟩
  clear ho3 ha3
  go_wp2_with fail
  refine (two_any W _ _ _ _ (by omega) (by omega) ha4 ho4 (by simp [d2])).mono ?_
  rintro e w5 ⟨v5, rfl, ho5, ha5⟩
  clear ho4 ha4
  go_wp2_with (at_builtin; refine append_bytes rfl _ _ rfl _ _ rfl ho5 ha5 _ _ _ _ rfl [84] ?c1 rfl ?c2 ?_)
  case c1 => rfl
  case c2 => simp
  intro v6 w6 ho6 ha6
  clear ho5 ha5
  go_wp2_with fail
  refine (two_any W _ _ _ _ (by omega) (by omega) ha6 ho6 (by simp)).mono ?_
  rintro e w7 ⟨v7, rfl, ho7, ha7⟩
  clear ho6 ha6
  go_wp2_with fail
  refine (two_any W _ _ _ _ (by omega) (by omega) ha7 ho7 (by simp)).mono ?_
  rintro e w8 ⟨v8, rfl, ho8, ha8⟩
  clear ho7 ha7
  go_wp2_with fail
  refine (two_any W _ _ _ _ (by omega) (by omega) ha8 ho8 (by simp)).mono ?_
  rintro e w9 ⟨v9, rfl, ho9, ha9⟩
  clear ho8 ha8
  have ho : Own W w9 v9 (text t) := by simpa [text] using ho9
  obtain ⟨g, cap, rfl⟩ := ho.slice (by decide : 0 < 15)
  clear ho9
  have hcv := bytes_back ho
  go_wp2
  go_ret2
  exact ⟨rfl, ha9⟩
theorem text_is (W w : World) (t : Int) (s : ByteArray) (h1 : -62135596800 ≤ t) (h2 : t ≤ 253402300799) (h : At W w) (hs : ⟨(text t).toArray⟩ = s) :
    Calls Tryz.prog 32 #[.int .i64 t] w fun e w' => e = .returned (.tuple #[.string s, .int .i64 0]) ∧ At W w' := by
  subst hs; exact text_yes W w t h1 h2 h
theorem text_no (t : Int) (w : World) (h : may t = false) :
    Calls Tryz.prog 32 #[.int .i64 t] w fun e w' => e = .returned (.tuple #[.string ⟨#[]⟩, .int .i64 1]) ∧ w = w' := by
  have M := Lib.hid h; clear h
  go_enter Tryz.func32, Tryz.ntmps32
  go_wp2_with (go_at_call 60; refine (may_no _ _ M.out).mono ?_; rintro e w' ⟨rfl, rfl⟩)
  go_ret2
  exact ⟨rfl, rfl⟩
end Go.Proofs.YtajgagmpdhmbkaaGreatDoor.St
namespace Go.Proofs.YtajgagmpdhmbkaaGreatDoor.St
open Go.RowKit Cv

theorem isDigit_yes (c : Int) (w : World) (h1 : 48 ≤ c) (h2 : c ≤ 57) :
    Calls Tryz.prog 144 #[.int .u8 c] w fun e w' => e = .returned (.bool true) ∧ w = w' := by
  go_enter Tryz.func144, Tryz.ntmps144
  go_wp2
  go_ret
  exact ⟨rfl, rfl⟩
theorem isDigit_no (c : Int) (w : World) (h : ¬ (48 ≤ c ∧ c ≤ 57)) :
    Calls Tryz.prog 144 #[.int .u8 c] w fun e w' => e = .returned (.bool false) ∧ w = w' := by
  by_cases h1 : c < 48
  · clear h
    go_enter Tryz.func144, Tryz.ntmps144
    go_wp2
    go_ret
    exact ⟨rfl, rfl⟩
  · have h2 : 57 < c := by omega
    clear h
    go_enter Tryz.func144, Tryz.ntmps144
    go_wp2
    go_ret
    exact ⟨ret_bool (decide_eq_false (by omega)), rfl⟩
set_option maxHeartbeats 400000 in
theorem digits_any (s : ByteArray) (w : World) (hs : s.size ≤ maxLen) :
    Calls Tryz.prog 101 #[.string s] w fun e w' => e = .returned (.bool (digs s.data.toList)) ∧ w = w' := by
  unfold maxLen at hs
  go_enter Tryz.func101, Tryz.ntmps101
  go_wp2
  go_loop [3, 6] (fun _ i => ∃ k : Nat, k ≤ s.size ∧ i = .int .i64 k ∧ digs (s.data.toList.take k) = true) (fun _ i => s.size - (intOf i).toNat)
  case atStart => exact ⟨0, Nat.zero_le _, rfl, rfl⟩
  case round =>
    obtain ⟨k, hk, rfl, hd⟩ := hrel
    have D := Lib.hid hd; clear hd
    by_cases hlt : k < s.size
    · by_cases hc : isd s[k] = true
      · obtain ⟨c1, c2⟩ := of_decide_eq_true hc
        have C := Lib.hid hc; clear hc
        go_wp2_with (go_at_call 144; refine (isDigit_yes _ _ c1 c2).mono ?_; rintro e w' ⟨rfl, rfl⟩)
        go_round
        case rel => exact ⟨k + 1, by omega, by go_num, by rw [take_snoc s k hlt]; exact digs_snoc D.out C.out⟩
        case measure => simp [intOf]; omega
      · have hc' := of_decide_eq_false (Bool.not_eq_true _ ▸ hc)
        have C := Lib.hid (digs_bad (l := s.data.toList) (k := k) (by simpa using hlt) (Bool.not_eq_true _ ▸ hc)); clear hc
        have C' := Lib.hid hc'; clear hc'
        go_wp2_with (go_at_call 144; refine (isDigit_no _ _ C'.out).mono ?_; rintro e w' ⟨rfl, rfl⟩)
        go_ret
        exact ⟨ret_bool C.out.symm, rfl⟩
    · go_wp2
      go_ret
      exact ⟨ret_bool (by rw [← D.out, List.take_of_length_le (by simp; omega)]), rfl⟩
theorem digits_yes (s : ByteArray) (w : World) (hs : s.size ≤ maxLen) (h : digs s.data.toList = true) :
    Calls Tryz.prog 101 #[.string s] w fun e w' => e = .returned (.bool true) ∧ w = w' := by
  have := digits_any s w hs; rwa [h] at this
theorem digits_no (s : ByteArray) (w : World) (hs : s.size ≤ maxLen) (h : digs s.data.toList = false) :
    Calls Tryz.prog 101 #[.string s] w fun e w' => e = .returned (.bool false) ∧ w = w' := by
  have := digits_any s w hs; rwa [h] at this
set_option maxHeartbeats 400000 in
theorem number_any (s : ByteArray) (w : World) (hs : s.size ≤ 15) (hd : digs s.data.toList = true) :
    Calls Tryz.prog 103 #[.string s] w fun e w' => e = .returned (.int .i64 (nmb s.data.toList)) ∧ w = w' := by
  have D := Lib.hid hd; clear hd
  go_enter Tryz.func103, Tryz.ntmps103
  go_wp2
  go_loop [3, 4, 7] (fun n _ i => ∃ k : Nat, k ≤ s.size ∧ i = .int .i64 k ∧ n = .int .i64 (nmb (s.data.toList.take k))) (fun _ _ i => s.size - (intOf i).toNat)
  case atStart => exact ⟨0, Nat.zero_le _, rfl, rfl⟩
  case round =>
    obtain ⟨k, hk, rfl, rfl⟩ := hrel
    by_cases hlt : k < s.size
    · obtain ⟨c1, c2⟩ := of_decide_eq_true (digs_at D.out (k := k) (by simpa using hlt))
      change 48 ≤ (s[k].toNat : Int) at c1
      change (s[k].toNat : Int) ≤ 57 at c2
      obtain ⟨b1, b2⟩ := nmb_small s k hlt (by omega) D.out
      have E := Lib.hid (nmb_snoc (s.data.toList.take k) s[k])
      go_wp2
      go_round
      case rel => exact ⟨k + 1, by omega, by go_num, by rw [take_snoc s k hlt, E.out]⟩
      case measure => simp [intOf]; omega
    · go_wp2
      go_ret
      exact ⟨ret_int (by rw [List.take_of_length_le (by simp; omega)]), rfl⟩
theorem number_quiet (s : ByteArray) (w : World) (hs : s.size ≤ 15) (hd : digs s.data.toList = true) :
    Calls Tryz.prog 103 #[.string s] w fun e w' => e = .returned (.int .i64 (nmb s.data.toList)) ∧ w' = w :=
  (number_any s w hs hd).mono fun _ _ h => ⟨h.1, h.2.symm⟩
theorem make_quiet (y mo d h mi s a b : Int) (w : World) (hr : makeR y mo d h mi s = (a, b)) :
    Calls Tryz.prog 102 #[.int .i64 y, .int .i64 mo, .int .i64 d, .int .i64 h, .int .i64 mi, .int .i64 s] w fun e w' => e = .returned (.tuple #[.int .i64 a, .int .i64 b]) ∧ w' = w :=
  (make_any y mo d h mi s a b w hr).mono fun _ _ h => ⟨h.1, h.2.symm⟩
end Go.Proofs.YtajgagmpdhmbkaaGreatDoor.St
namespace Go.Proofs.YtajgagmpdhmbkaaGreatDoor.St
open Go.RowKit Cv

theorem rmay_yes (t : Int) (w : World) (h : may t = true) :
    Calls Tryz.prog 44 #[.int .i64 t] w fun e w' => e = .returned (.bool true) ∧ w = w' := by
  obtain ⟨h1, h2⟩ := of_decide_eq_true h; clear h
  have h3 : t < 253402300800 := by omega
  go_enter Tryz.func44, Tryz.ntmps44
  go_wp2
  go_ret
  exact ⟨rfl, rfl⟩
theorem rmay_no (t : Int) (w : World) (h : may t = false) :
    Calls Tryz.prog 44 #[.int .i64 t] w fun e w' => e = .returned (.bool false) ∧ w = w' := by
  have g := of_decide_eq_false h; clear h
  by_cases h1 : t < -62135596800
  · clear g
    go_enter Tryz.func44, Tryz.ntmps44
    go_wp2
    go_ret
    exact ⟨rfl, rfl⟩
  · have h2 : 253402300799 < t := by omega
    clear g
    go_enter Tryz.func44, Tryz.ntmps44
    go_wp2
    go_ret
    exact ⟨ret_bool (decide_eq_false (by omega)), rfl⟩
theorem rmay_any (t : Int) (w : World) :
    Calls Tryz.prog 44 #[.int .i64 t] w fun e w' => e = .returned (.bool (may t)) ∧ w = w' := by
  cases h : may t
  · exact rmay_no t w h
  · exact rmay_yes t w h
theorem rdown_day (t : Int) (w : World) (h1 : -9223372036854775808 ≤ t) (h2 : t ≤ 9223372036854775807) :
    Calls Tryz.prog 125 #[.int .i64 t, .int .i64 86400] w fun e w' => e = .returned (.int .i64 (t / 86400)) ∧ w = w' := by
  by_cases hn : 0 ≤ t
  · have g := Int.emod_nonneg t (b := 86400) (by omega)
    have g' : ¬ t % 86400 < 0 := by omega
    clear g
    go_enter Tryz.func125, Tryz.ntmps125
    go_wp2
    go_ret
    exact ⟨rfl, rfl⟩
  · obtain ⟨e1, e2, b1, b2, b3, b4⟩ := tday (t := t) (by omega) h1
    by_cases hz : t.tmod 86400 < 0
    · obtain ⟨e, f⟩ := e1 hz
      have E := Lib.hid e; clear e f e1 e2
      go_enter Tryz.func125, Tryz.ntmps125
      go_wp2
      go_ret
      exact ⟨ret_int E.out, rfl⟩
    · obtain ⟨e, f⟩ := e2 hz
      have E := Lib.hid e; clear e f e1 e2
      go_enter Tryz.func125, Tryz.ntmps125
      go_wp2
      go_ret
      exact ⟨ret_int E.out, rfl⟩
theorem rday_any (t : Int) (w : World) (h1 : -9223372036854775808 ≤ t) (h2 : t ≤ 9223372036854775807) :
    Calls Tryz.prog 74 #[.int .i64 t] w fun e w' => e = .returned (.tuple #[.int .i64 (t / 86400), .int .i64 (t % 86400)]) ∧ w = w' := by
  by_cases hn : 0 ≤ t
  · have g := Int.emod_nonneg t (b := 86400) (by omega)
    have g' : ¬ t % 86400 < 0 := by omega
    clear g
    go_enter Tryz.func74, Tryz.ntmps74
    go_wp2_with (go_at_call 125; refine (rdown_day _ _ h1 h2).mono ?_; rintro e w' ⟨rfl, rfl⟩)
    go_ret2
    exact ⟨rfl, rfl⟩
  · obtain ⟨e1, e2, b1, b2, b3, b4⟩ := tday (t := t) (by omega) h1
    by_cases hz : t.tmod 86400 < 0
    · obtain ⟨e, f⟩ := e1 hz
      have F := Lib.hid f; clear e f e1 e2
      go_enter Tryz.func74, Tryz.ntmps74
      go_wp2_with (go_at_call 125; refine (rdown_day _ _ h1 h2).mono ?_; rintro e w' ⟨rfl, rfl⟩)
      go_ret2
      exact ⟨ret_two rfl F.out, rfl⟩
    · obtain ⟨e, f⟩ := e2 hz
      have F := Lib.hid f; clear e f e1 e2
      go_enter Tryz.func74, Tryz.ntmps74
      go_wp2_with (go_at_call 125; refine (rdown_day _ _ h1 h2).mono ?_; rintro e w' ⟨rfl, rfl⟩)
      go_ret2
      exact ⟨ret_two rfl F.out, rfl⟩
end Go.Proofs.YtajgagmpdhmbkaaGreatDoor.St
namespace Go.Proofs.YtajgagmpdhmbkaaGreatDoor.St
open Go.RowKit Cv

theorem cells_below {W w1 : World} {B : Nat} (hb : Below B W w1) : ∀ b o, b < B → w1.cell? ⟨b, o, none⟩ = W.cell? ⟨b, o, none⟩ :=
  fun b o h => hb.cell (p := ⟨b, o, none⟩) h
/-- string(b) of a slice of one byte, wherever it lies. -/
theorem one_string (c : Int) (h0 : 0 ≤ c) (h1 : c ≤ 255) (w : World) (b : Nat) (h : w.cell? ⟨b, 0, none⟩ = some (.int .u8 c)) :
    (convert 81 9 (.slice (some ⟨b, 0, none⟩) 1 1)).run Tryz.prog w = .ok (.string ⟨#[u8 c]⟩) w := by
  have e := u8_nat c h0 h1
  have := run_convert_bytes_back (P := Tryz.prog) w 81 9 5 ⟨b, 0, none⟩ 1 [u8 c] Tryz.underlying81 Tryz.underlying5 Tryz.underlying9
    (fun j hj => by obtain rfl : j = 0 := by simpa using hj
                    show w.cell? ⟨b, 0, none⟩ = _
                    rw [h]; simp [e])
  exact this
theorem dec_small (n : Int) (w : World) (h0 : 0 ≤ n) (h1 : n < 10) :
    Calls Tryz.prog 37 #[.int .i64 n] w fun e w' => e = .returned (.string ⟨#[u8 (48 + n)]⟩) ∧ Below w.heap.size w w' := by
  have cv := one_back (48 + n) (by omega) (by omega)
  go_enter Tryz.func37, Tryz.ntmps37
  go_wp2
  go_ret
  exact ⟨rfl, (Below.refl _ _).alloc (Nat.le_refl _) _⟩
theorem dec_fin1 {w w5 : World} {o : Obj} (hb : Below w.drew.heap.size w.drew w5) : Below w.heap.size w (w5.alloc o) :=
  (((Below.refl _ w).drew).trans hb).alloc hb.size _
theorem dec_fin2 {w w5 : World} {o : Obj} (hb : Below (w.alloc o).drew.heap.size (w.alloc o).drew w5) : Below w.heap.size w w5 :=
  (((Below.refl _ w).alloc (Nat.le_refl _) o).drew).trans (hb.mono (by show w.heap.size ≤ (w.alloc o).heap.size; simp))
def DecIs (n : Int) (w : World) (e : Ending) (w' : World) : Prop := ∃ s : ByteArray, e = .returned (.string s) ∧ s = ⟨(Lib.decDigits n.toNat).toArray⟩ ∧ s.size ≤ 20 ∧ Below w.heap.size w w'
theorem dec_len {n : Int} (h : n ≤ 1000000000000000) : (⟨(Lib.decDigits n.toNat).toArray⟩ : ByteArray).size ≤ 20 := by
  show (Lib.decDigits n.toNat).toArray.size ≤ 20
  rw [List.size_toArray, Lib.decDigits_length]
  exact Lib.nDigits_le20 _ (by omega)
theorem dec_next {n : Int} {s : ByteArray} (h : 10 ≤ n) (hs : s = ⟨(Lib.decDigits (n / 10).toNat).toArray⟩) : s ++ (⟨#[u8 (48 + n % 10)]⟩ : ByteArray) = ⟨(Lib.decDigits n.toNat).toArray⟩ := by
  subst hs
  rw [ByteArray.mk_append_mk]
  have e : Lib.decDigits n.toNat = Lib.decDigits (n / 10).toNat ++ [u8 (48 + n % 10)] := by
    rw [Lib.decDigits, dif_neg (by omega), show (n / 10).toNat = n.toNat / 10 by omega]
    unfold u8
    rw [show (48 + n % 10).toNat = 48 + n.toNat % 10 by omega]
  rw [e]
set_option maxHeartbeats 2000000 in
theorem dec_step (n : Int) (w : World) (h0 : 10 ≤ n) (h1 : n ≤ 1000000000000000) (ih : ∀ w, Calls Tryz.prog 37 #[.int .i64 (n / 10)] w (DecIs (n / 10) w)) :
    Calls Tryz.prog 37 #[.int .i64 n] w (DecIs n w) := by
  have IH := Lib.hid ih
  have cv := fun (w : World) (b : Nat) h => one_string (48 + n % 10) (by omega) (by omega) w b h
  clear ih
  go_enter Tryz.func37, Tryz.ntmps37
  go_wp2_with fail
  have q := Int.tdiv_eq_ediv_of_nonneg (a := n) (b := 10) (by omega)
  have r := Int.tmod_eq_emod_of_nonneg (a := n) (b := 10) (by omega)
  have e1 : IntKind.i64.wrap (n.tdiv 10) = n / 10 := by rw [q]; exact IntWalk.i64_in _ ⟨by omega, by omega⟩
  have e2 : IntKind.i64.wrap (48 + n.tmod 10) = 48 + n % 10 := by rw [r]; exact IntWalk.i64_in _ ⟨by omega, by omega⟩
  have e3 : IntKind.u8.wrap (48 + n % 10) = 48 + n % 10 := IntWalk.u8_in _ ⟨by omega, by omega⟩
  clear q r
  go_region_with (go_at_call 37; refine (IH.out _).mono ?_; rintro e w5 ⟨s, rfl, hs, hz, hb⟩; have HS := Lib.hid hs; clear hs; have hc := cells_below hb)
  all_goals
    go_wp2
    go_ret
    refine ⟨_, rfl, dec_next h0 HS.out, ?_, ?_⟩
    · rw [dec_next h0 HS.out]; exact dec_len h1
    · first | exact dec_fin1 hb | exact dec_fin2 hb
/-- Dec of any number from 0 on: its decimal numeral. -/
theorem dec_nat : ∀ (k : Nat) (n : Int), n.toNat = k → 0 ≤ n → n ≤ 1000000000000000 → ∀ w : World, Calls Tryz.prog 37 #[.int .i64 n] w (DecIs n w) := by
  intro k
  induction k using Nat.strongRecOn with
  | ind k ih =>
    intro n hk h0 h1 w
    by_cases h : n < 10
    · refine (dec_small n w h0 h).mono ?_
      rintro e w' ⟨rfl, hb⟩
      have e : (⟨#[u8 (48 + n)]⟩ : ByteArray) = ⟨(Lib.decDigits n.toNat).toArray⟩ := by
        rw [Lib.decDigits_one (by omega)]; unfold u8
        rw [show (48 + n).toNat = 48 + n.toNat by omega]
      exact ⟨_, rfl, e, by rw [e]; exact dec_len h1, hb⟩
    · exact dec_step n w (by omega) h1 fun w => ih (n / 10).toNat (by omega) (n / 10) rfl (by omega) (by omega) w
theorem dec_any (n : Int) (W w : World) (h0 : 0 ≤ n) (h1 : n ≤ 1000000000000000) (s : ByteArray) (hs : ⟨(Lib.itoa n).toArray⟩ = s) (h : At W w) :
    Calls Tryz.prog 37 #[.int .i64 n] w fun e w' => e = .returned (.string s) ∧ At W w' := by
  refine (dec_nat _ n rfl h0 h1 w).mono ?_
  rintro e w' ⟨t, rfl, ht, _, hb⟩
  rw [Lib.itoa, if_neg (by omega), ← ht] at hs
  subst hs
  exact ⟨rfl, h.on (hb.mono h.size)⟩
end Go.Proofs.YtajgagmpdhmbkaaGreatDoor.St
