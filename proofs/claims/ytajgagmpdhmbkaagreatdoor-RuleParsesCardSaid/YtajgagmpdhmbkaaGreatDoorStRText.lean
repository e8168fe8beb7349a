/- The walks of the document's own answers on texts of moments: vokref1's digits, Text. -/
import Derived.Test.YtajgagmpdhmbkaaGreatDoorStW
import Derived.Test.YtajgagmpdhmbkaaGreatDoorCvW
import Derived.Test.YtajgagmpdhmbkaaGreatDoorMaA
import Derived.Laws.AppendOwnNone
import Derived.LoopTactic
import Derived.Lib.SmallJoins
namespace Go.Proofs.YtajgagmpdhmbkaaGreatDoor.St
open Go.RowKit Cv
set_option linter.unusedVariables false

/-- append of one slice of the call's own behind another. -/
theorem append_own2 {ops : Array Oper} {rest : List Oper} {o : Oper} {a : Act} {Q : Exit → Act → World → Prop} {W w : World} (hgd : o.guard = none) (s x : Operand)
    (ho : o.op = .call { callee := .builtin .append, args := #[s, x], argTypes := #[81, 81] })
    (v : Value) (l : List UInt8) (hs : a.eval s = v) (hown : Own W w v l) (hat : At W w) (v2 : Value) (l2 : List UInt8) (hx : a.eval x = v2) (hown2 : Own W w v2 l2) (hl : l.length + l2.length ≤ 1000000)
    (h : ∀ v' w', Own W w' v' (l ++ l2) → At W w' → wpList Tryz.prog ops Q rest (a.put o.dst v') w') : wpList Tryz.prog ops Q (o :: rest) a w := by
  obtain ⟨i0, hi, hz0, hz1, hz2⟩ := info_parts info_u8
  rcases hown2.2 with ⟨rfl, h0⟩ | ⟨g, cap, cur, rfl, -⟩
  · have e : l2 = [] := List.length_eq_zero_iff.1 h0
    subst e
    exact wpList_append_own_none hgd s x 81 ho W.heap.size 5 i0 1 Tryz.underlying81 hi v l.length (Lib.byteCells l) hs hown hx (h v w (by rw [List.append_nil]; exact hown) hat)
  · have h1 : ∀ u ∈ Lib.byteCells l2, Value.oneCell' u = true := by
      intro u hu
      unfold Lib.byteCells at hu
      obtain ⟨b, _, rfl⟩ := List.mem_map.1 hu
      rfl
    refine wpList_append_own _ hgd s x 81 ho W.heap.size 5 i0 (.int .u8 0) 1 1 Tryz.underlying81 hi hz0 hz1 hz2 rfl (by decide) v l.length (Lib.byteCells l) hs hown
      ⟨g, 0, none⟩ l2.length cap (Lib.byteCells l2) hx (by simp [Lib.byteCells]) (World.ownsRow.cells hown2 (g := g) rfl) h1 (by unfold maxLen; omega) (by omega) hat.size ?_
    intro v' w' hown' hg _
    refine h v' w' ?_ (hat.on ((Below.refl _ _).grown hg hat.size fun _ hk => hown.lt hk))
    unfold Own
    rw [List.length_append, byteCells_append]
    exact hown'
/-- Of a number the last digits, so many. -/
def rdig : Nat → Int → List UInt8
  | 0, _ => []
  | k + 1, n => rdig k (n / 10) ++ [u8 (48 + n % 10)]
theorem rdig_len : ∀ (k : Nat) (n : Int), (rdig k n).length = k
  | 0, _ => rfl
  | k + 1, n => by rw [rdig, List.length_append, rdig_len k]; rfl
/-- A string of these bytes, nothing old turned. -/
def StrIs (W : World) (l : List UInt8) (e : Ending) (w' : World) : Prop := ∃ s : ByteArray, e = .returned (.string s) ∧ s = ⟨l.toArray⟩ ∧ s.size ≤ l.length ∧ At W w'
def Dig (K j : Nat) (x n : Int) (l : List UInt8) : Prop := l.length = j ∧ rdig (K - j) x ++ l = rdig K n
theorem Dig.next {K j : Nat} {x n : Int} {l : List UInt8} (h : Dig K j x n l) (hj : j < K) : Dig K (j + 1) (x / 10) n ([u8 (48 + x % 10)] ++ l) := by
  refine ⟨by rw [List.length_append, h.1]; simp; omega, ?_⟩
  have e := h.2
  rw [show K - j = K - (j + 1) + 1 by omega, rdig, List.append_assoc] at e
  exact e
set_option maxHeartbeats 1000000 in
theorem rdigits_any (n k : Int) (W w : World) (h0 : 0 ≤ n) (h1 : n ≤ 1000000) (k0 : 1 ≤ k) (k1 : k ≤ 10) (h : At W w) :
    Calls Tryz.prog 76 #[.int .i64 n, .int .i64 k] w (StrIs W (rdig k.toNat n)) := by
  go_enter Tryz.func76, Tryz.ntmps76
  go_wp2
  go_loopw [0, 5, 6] (fun q v i wr => ∃ (j : Nat) (x : Int) (l : List UInt8) (sv : Value), sv = v ∧ i = .int .i64 j ∧ q = .int .i64 x ∧ (j : Int) ≤ k ∧ 0 ≤ x ∧ x ≤ 1000000 ∧ Own W wr sv l ∧ At W wr ∧ Dig k.toNat j x n l) (fun _ _ i _ => k.toNat - (intOf i).toNat)
  case atStart => exact ⟨0, n, [], _, rfl, rfl, rfl, by omega, h0, h1, Own.nil _ _, h, rfl, by simp⟩
  case round =>
    obtain ⟨j, x, l, v, rfl, rfl, rfl, hj, x0, x1, ho, hat, hd⟩ := hrel
    by_cases hlt : (j : Int) < k
    · have hl := hd.1
      have ll : l.length ≤ 20 := by omega
      have D := Lib.hid (hd.next (by omega)); clear hl hd
      have hol := own_lit W wr [St.u8 (48 + x % 10)] hat (by simp)
      have hos : Own W (wr.alloc (.cells (Lib.byteCells [St.u8 (48 + x % 10)]).toArray 5)) v l := World.ownsRow.alloc ho _
      have e8 := u8_nat (48 + x % 10) (by omega) (by omega)
      have ec : (Lib.byteCells [St.u8 (48 + x % 10)]).toArray = #[.int .u8 (48 + x % 10)] := by simp [Lib.byteCells, e8]
      rw [ec] at hol hos
      clear ec e8
      go_wp2_with (at_builtin; refine append_own2 rfl _ _ rfl _ _ rfl hol (hat.alloc _) _ _ rfl hos ?c1 ?_)
      case c1 => simp; omega
      intro v' w' hown' hat'
      clear hol hos ho
      go_wp2
      go_roundw
      case rel => exact ⟨j + 1, x / 10, _, _, rfl, by go_num, rfl, by omega, by omega, by omega, hown', hat', D.out⟩
      case measure => simp [intOf]; omega
    · have e : j = k.toNat := by omega
      have hl : l = rdig k.toNat n := by
        have := hd.2
        rw [e, Nat.sub_self] at this; exact this
      have hz := rdig_len k.toNat n
      rw [← hl] at hz
      obtain ⟨g, cap, rfl⟩ := ho.slice (by omega)
      have hcv := bytes_back ho
      have HL := Lib.hid hl; clear hl e hz hd
      go_wp2
      go_ret
      exact ⟨_, rfl, by rw [HL.out], by show l.toArray.size ≤ _; rw [List.size_toArray, HL.out]; exact Nat.le_refl _, hat⟩
theorem rdig_2 {n : Int} (h0 : 0 ≤ n) (h1 : n ≤ 99) : rdig 2 n = d2 n := by
  show [u8 (48 + n / 10 % 10), u8 (48 + n % 10)] = [u8 (48 + n / 10), u8 (48 + n % 10)]
  rw [show n / 10 % 10 = n / 10 by omega]
theorem rdig_4 {n : Int} (h0 : 0 ≤ n) (h1 : n ≤ 9999) : rdig 4 n = d2 (n / 100) ++ d2 (n % 100) := by
  show [u8 (48 + n / 10 / 10 / 10 % 10), u8 (48 + n / 10 / 10 % 10), u8 (48 + n / 10 % 10), u8 (48 + n % 10)] = [u8 (48 + n / 100 / 10), u8 (48 + n / 100 % 10), u8 (48 + n % 100 / 10), u8 (48 + n % 100 % 10)]
  rw [show n / 10 / 10 / 10 % 10 = n / 100 / 10 by omega, show n / 10 / 10 % 10 = n / 100 % 10 by omega, show n / 10 % 10 = n % 100 / 10 by omega, show n % 10 = n % 100 % 10 by omega]
theorem bytes_ext {a b : ByteArray} (h : a.data.toList = b.data.toList) : a = b := by
  obtain ⟨⟨a⟩⟩ := a
  obtain ⟨⟨b⟩⟩ := b
  simpa using h
set_option maxHeartbeats 1000000 in
theorem rtext_yes (W w : World) (t : Int) (x : ByteArray) (h1 : -62135596800 ≤ t) (h2 : t ≤ 253402300799) (h : At W w) (hx : ⟨(text t).toArray⟩ = x) :
    Calls Tryz.prog 38 #[.int .i64 t] w fun e w' => e = .returned (.tuple #[.string x, .int .i64 0]) ∧ At W w' := by
  have M := Lib.hid (show may t = true from decide_eq_true ⟨h1, h2⟩)
  obtain ⟨q1, q2⟩ := may_day h1 h2
  obtain ⟨y1, y2, m1, m2, g1, g2, _, _⟩ := moment h1 h2
  have s1 : 0 ≤ t % 86400 := by omega
  have s2 : t % 86400 ≤ 86399 := by omega
  have X := Lib.hid hx; clear hx
  go_enter Tryz.func38, Tryz.ntmps38
  go_wp2_with fail
  refine (rmay_yes _ _ M.out).mono ?_
  rintro e w' ⟨rfl, rfl⟩
  go_wp2_with fail
  refine (rday_any _ _ (by omega) (by omega)).mono ?_
  rintro e w' ⟨rfl, rfl⟩
  go_wp2_with fail
  refine (rdate_yes _ _ q1 q2).mono ?_
  rintro e w' ⟨rfl, rfl⟩
  go_wp2_with fail
  refine (rdigits_any _ _ W _ (by omega) (by omega) (by decide) (by decide) h).mono ?_
  rintro e wd0 ⟨b0, rfl, hb0, hz0, at0⟩
  have B0 := Lib.hid hb0; rw [rdig_len] at hz0; change b0.size ≤ 4 at hz0; clear hb0
  go_wp2_with fail
  refine (rdigits_any _ _ W _ (by omega) (by omega) (by decide) (by decide) at0).mono ?_
  rintro e wd1 ⟨b1, rfl, hb1, hz1, at1⟩
  have B1 := Lib.hid hb1; rw [rdig_len] at hz1; change b1.size ≤ 2 at hz1; clear hb1
  clear at0
  go_wp2_with fail
  refine (rdigits_any _ _ W _ (by omega) (by omega) (by decide) (by decide) at1).mono ?_
  rintro e wd2 ⟨b2, rfl, hb2, hz2, at2⟩
  have B2 := Lib.hid hb2; rw [rdig_len] at hz2; change b2.size ≤ 2 at hz2; clear hb2
  clear at1
  go_wp2_with fail
  refine (rdigits_any _ _ W _ (by omega) (by omega) (by decide) (by decide) at2).mono ?_
  rintro e wd3 ⟨b3, rfl, hb3, hz3, at3⟩
  have B3 := Lib.hid hb3; rw [rdig_len] at hz3; change b3.size ≤ 2 at hz3; clear hb3
  clear at2
  go_wp2_with fail
  refine (rdigits_any _ _ W _ (by omega) (by omega) (by decide) (by decide) at3).mono ?_
  rintro e wd4 ⟨b4, rfl, hb4, hz4, at4⟩
  have B4 := Lib.hid hb4; rw [rdig_len] at hz4; change b4.size ≤ 2 at hz4; clear hb4
  clear at3
  go_wp2_with fail
  refine (rdigits_any _ _ W _ (by omega) (by omega) (by decide) (by decide) at4).mono ?_
  rintro e wd5 ⟨b5, rfl, hb5, hz5, at5⟩
  have B5 := Lib.hid hb5; rw [rdig_len] at hz5; change b5.size ≤ 2 at hz5; clear hb5
  clear at4
  have E : b0 ++ b1 ++ b2 ++ (⟨#[84]⟩ : ByteArray) ++ b3 ++ b4 ++ b5 = x := by
    rw [← X.out, B0.out, B1.out, B2.out, B3.out, B4.out, B5.out]
    refine bytes_ext ?_
    simp only [Go.Joins.data_append]
    show rdig 4 _ ++ rdig 2 _ ++ rdig 2 _ ++ [84] ++ rdig 2 _ ++ rdig 2 _ ++ rdig 2 _ = text t
    rw [rdig_4 (by omega) (by omega), rdig_2 (by omega) (by omega), rdig_2 (by omega) (by omega), rdig_2 (by omega) (by omega), rdig_2 (by omega) (by omega), rdig_2 (by omega) (by omega)]
    unfold text
    rw [show t % 86400 / 60 % 60 = t % 3600 / 60 by omega]
  have HE := Lib.hid E; clear E
  go_wp2
  go_ret2
  exact ⟨by rw [HE.out]; rfl, at5⟩
theorem rtext_no (t : Int) (w : World) (h : may t = false) :
    Calls Tryz.prog 38 #[.int .i64 t] w fun e w' => e = .returned (.tuple #[.string ⟨#[]⟩, .int .i64 1]) ∧ w = w' := by
  have M := Lib.hid h; clear h
  go_enter Tryz.func38, Tryz.ntmps38
  go_wp2_with (go_at_call 44; refine (rmay_no _ _ M.out).mono ?_; rintro e w' ⟨rfl, rfl⟩)
  go_ret2
  exact ⟨rfl, rfl⟩
/-- vokref1.number: of digits their number, of all others -1. -/
def rnmb (l : List UInt8) : Int := if digs l = true then nmb l else -1
set_option maxHeartbeats 800000 in
theorem rnumber_any (s : ByteArray) (w : World) (hs : s.size ≤ 15) :
    Calls Tryz.prog 141 #[.string s] w fun e w' => e = .returned (.int .i64 (rnmb s.data.toList)) ∧ w = w' := by
  go_enter Tryz.func141, Tryz.ntmps141
  go_wp2
  go_loop [3, 4] (fun n i => ∃ k : Nat, k ≤ s.size ∧ i = .int .i64 k ∧ n = .int .i64 (nmb (s.data.toList.take k)) ∧ digs (s.data.toList.take k) = true) (fun _ i => s.size - (intOf i).toNat)
  case atStart => exact ⟨0, Nat.zero_le _, rfl, rfl, rfl⟩
  case round =>
    obtain ⟨k, hk, rfl, rfl, hd⟩ := hrel
    have D := Lib.hid hd
    obtain ⟨b1, b2⟩ := nmb_le (s.data.toList.take k) 15 (by have := List.length_take_le k s.data.toList; omega) hd
    have e15 : ((10 ^ 15 : Nat) : Int) = 1000000000000000 := by decide
    rw [e15] at b2
    clear hd e15
    by_cases hlt : k < s.size
    · have hb1 : (s[k].toNat : Int) ≤ 255 := by have := UInt8.toNat_lt s[k]; omega
      cases hc : isd s[k]
      · have C := Lib.hid (show -1 = rnmb s.data.toList by unfold rnmb; rw [digs_bad (l := s.data.toList) (k := k) (by simpa using hlt) hc]; rfl)
        have g := of_decide_eq_false hc
        clear hc
        by_cases g1 : (s[k].toNat : Int) < 48
        · clear g
          go_wp2
          go_ret
          exact ⟨ret_int C.out, rfl⟩
        · have g2 : 57 < (s[k].toNat : Int) := by omega
          clear g
          go_wp2
          go_ret
          exact ⟨ret_int C.out, rfl⟩
      · obtain ⟨c1, c2⟩ := of_decide_eq_true hc
        have E := Lib.hid (nmb_snoc (s.data.toList.take k) s[k])
        have C := Lib.hid hc; clear hc
        go_wp2
        go_round
        case rel => exact ⟨k + 1, by omega, by go_num, by rw [take_snoc s k hlt, E.out]; go_num, by rw [take_snoc s k hlt]; exact digs_snoc D.out C.out⟩
        case measure => simp [intOf]; omega
    · have F := Lib.hid (show nmb (s.data.toList.take k) = rnmb s.data.toList by
        have e : s.data.toList.take k = s.data.toList := List.take_of_length_le (by simp; omega)
        have d := D.out
        rw [e] at d ⊢
        unfold rnmb; rw [if_pos d])
      go_wp2
      go_ret
      exact ⟨ret_int F.out, rfl⟩
end Go.Proofs.YtajgagmpdhmbkaaGreatDoor.St
