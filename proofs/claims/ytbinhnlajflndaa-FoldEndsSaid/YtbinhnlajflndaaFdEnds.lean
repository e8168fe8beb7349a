/- The walk of voklaw4's law FoldEnds. -/
import Derived.Test.YtbinhnlajflndaaFdBack
import Derived.Test.YtbinhnlajflndaaFdClass
set_option linter.unusedVariables false
namespace Go.Proofs.Ytbinhnlajflndaa.Fd
open Go.RowKit Cv St

/-- lines, each with its end -/
def eE (e : List UInt8) (zs : List (List UInt8)) : List UInt8 := zs.flatMap fun z => z ++ e
/-- lines with an end between them -/
def cE (zs : List (List UInt8)) (t : Nat) : List UInt8 := if t < zs.length ∨ t = 0 then eE [13, 10] (zs.take t) else eE [13, 10] (zs.take (t - 1)) ++ zs.getD (t - 1) []
theorem eE_succ {e : List UInt8} {zs : List (List UInt8)} {t : Nat} (h : t < zs.length) : eE e (zs.take (t + 1)) = eE e (zs.take t) ++ zs[t] ++ e := by
  unfold eE; rw [List.take_succ_eq_append_getElem h, List.flatMap_append]; simp
theorem cE_more {zs : List (List UInt8)} {t : Nat} (h : t + 1 < zs.length) : cE zs (t + 1) = cE zs t ++ zs[t] ++ [13, 10] := by
  unfold cE; rw [if_pos (.inl h), if_pos (.inl (by omega)), eE_succ (by omega)]
theorem cE_last {zs : List (List UInt8)} {t : Nat} (h : t + 1 = zs.length) : cE zs (t + 1) = cE zs t ++ zs[t] := by
  unfold cE; rw [if_neg (by omega), if_pos (.inl (by omega))]
  rw [Nat.add_sub_cancel, List.getD_eq_getElem?_getD, List.getElem?_eq_getElem (by omega)]; rfl
/-- lines that may be told so -/
def VisL (zs : List (List UInt8)) : Prop := ∀ z ∈ zs, z ≠ [] ∧ Vis z
theorem lines_eE {e : List UInt8} (he : End e) : ∀ {zs : List (List UInt8)}, VisL zs → ∀ (acc : List (List UInt8)) (r : List UInt8), lines acc (eE e zs ++ r) = lines (acc ++ zs) r
  | [], _, acc, r => by simp [eE]
  | z :: zs, h, acc, r => by
    have hz := h z (List.mem_cons_self ..)
    rw [show eE e (z :: zs) ++ r = z ++ (e ++ (eE e zs ++ r)) from by simp [eE], lines_line he hz.2.lin, put_new hz.2.head, lines_eE he (fun y hy => h y (List.mem_cons_of_mem _ hy))]
    simp
theorem good_eE {e r : List UInt8} (he : End e) (hr : good r) : ∀ {zs : List (List UInt8)}, VisL zs → good (eE e zs ++ r)
  | [], _ => by simpa [eE] using hr
  | z :: zs, h => by
    have hz := h z (List.mem_cons_self ..)
    rw [show eE e (z :: zs) ++ r = z ++ (e ++ (eE e zs ++ r)) from by simp [eE]]
    exact good_app hz.2.lin.may (he.good (good_eE he hr fun y hy => h y (List.mem_cons_of_mem _ hy)))
theorem head_eE {e r : List UInt8} {zs : List (List UInt8)} (h : VisL zs) (h0 : zs ≠ []) : (eE e zs ++ r).head? ≠ some 32 := by
  cases zs with
  | nil => exact absurd rfl h0
  | cons z zs =>
    have hz := h z (List.mem_cons_self ..)
    rw [show eE e (z :: zs) ++ r = z ++ (e ++ (eE e zs ++ r)) from by simp [eE]]
    exact hz.2.head_app hz.1
theorem ends_split {e : List UInt8} (he : End e) {zs : List (List UInt8)} (h : VisL zs) (hl : (eE e zs).length ≤ 4096) : splitL (eE e zs) = zs ∧ splitN (eE e zs) = 0 ∧ splitE (eE e zs) = 0 := by
  have g := good_eE he good_nil h
  rw [List.append_nil] at g
  have hd : (eE e zs).head? ≠ some 32 := by
    by_cases h0 : zs = []
    · subst h0; simp [eE]
    · have := head_eE (e := e) (r := []) h h0; rwa [List.append_nil] at this
  have := good_split hl g hd
  have q := lines_eE he h [] []
  rw [List.append_nil, List.nil_append, lines_nil] at q
  rw [q] at this
  exact this
theorem last_split {zs : List (List UInt8)} (h : VisL zs) (hl : (cE zs zs.length).length ≤ 4096) : splitL (cE zs zs.length) = zs ∧ splitN (cE zs zs.length) = 0 ∧ splitE (cE zs zs.length) = 0 := by
  by_cases h0 : zs = []
  · subst h0
    have := ends_split (e := [13, 10]) (.inr rfl) (zs := []) h (by simp [eE])
    exact this
  · have hp := List.length_pos_iff.2 h0
    obtain ⟨ys, z, rfl⟩ : ∃ ys z, zs = ys ++ [z] := ⟨_, _, (List.dropLast_concat_getLast h0).symm⟩
    have hy : VisL ys := fun y g => h y (by simp [g])
    have hz := h z (by simp)
    have ec : cE (ys ++ [z]) (ys ++ [z]).length = eE [13, 10] ys ++ z := by
      unfold cE
      rw [if_neg (by simp)]
      have : (ys ++ [z]).length - 1 = ys.length := by simp
      rw [this]
      simp
    rw [ec] at hl ⊢
    have gz : good z := by have := good_app hz.2.lin.may good_nil; rwa [List.append_nil] at this
    have hd : (eE [13, 10] ys ++ z).head? ≠ some 32 := by
      by_cases h1 : ys = []
      · subst h1; simp [eE]; exact hz.2.head
      · exact head_eE hy h1
    have := good_split hl (good_eE (.inr rfl) gz hy) hd
    rw [lines_eE (.inr rfl) hy, List.nil_append, lines_last hz.2.lin hz.1, put_new hz.2.head] at this
    exact this
def sumE (l : List ByteArray) : Nat → Nat
  | 0 => 0
  | k + 1 => sumE l k + min (sat l k).size 3001 + 2
theorem sumE_le (l : List ByteArray) : ∀ k, sumE l k ≤ 3003 * k
  | 0 => Nat.le_refl _
  | k + 1 => by have := sumE_le l k; unfold sumE; omega
theorem sumE_mono (l : List ByteArray) : ∀ {k j : Nat}, j ≤ k → sumE l j ≤ sumE l k
  | 0, j, h => by obtain rfl : j = 0 := by omega
                  exact Nat.le_refl _
  | k + 1, j, h => by
    by_cases e : j = k + 1
    · rw [e]; exact Nat.le_refl _
    · have := sumE_mono l (k := k) (j := j) (by omega)
      show sumE l j ≤ sumE l k + _ + 2; omega
theorem sumE_at {l : List ByteArray} {k j : Nat} (h : j < k) (g : sumE l k ≤ 3000) : (sat l j).size ≤ 2998 ∧ sumE l (j + 1) = sumE l j + (sat l j).size + 2 := by
  have := sumE_mono l (k := k) (j := j + 1) (by omega)
  have e : sumE l (j + 1) = sumE l j + min (sat l j).size 3001 + 2 := rfl
  omega
/-- what the law's first loop knows of the lines -/
def okE (l : List ByteArray) (t : Nat) : Prop := ∀ j, j < t → 0 < (sat l j).size ∧ visible (sat l j).data.toList (min (sat l j).size 3001)
theorem okE.succ {l : List ByteArray} {k : Nat} (h : okE l k) (e : 0 < (sat l k).size ∧ visible (sat l k).data.toList (min (sat l k).size 3001)) : okE l (k + 1) := fun j hj => by
  by_cases g : j = k
  · subst g; exact e
  · exact h j (by omega)
theorem okE.vis {l : List ByteArray} (h : okE l l.length) (g : sumE l l.length ≤ 3000) : VisL (tl l) := fun z hz => by
  obtain ⟨j, hj, e⟩ := List.getElem_of_mem hz
  rw [tl_len] at hj
  rw [← e, tl_at hj]
  obtain ⟨h1, h2⟩ := h j hj
  have s := (sumE_at hj g).1
  rw [show min (sat l j).size 3001 = (sat l j).size from by omega] at h2
  refine ⟨fun k => ?_, visible.vis h2⟩
  have hl : (sat l j).data.toList.length = (sat l j).size := by simp
  rw [k] at hl; simp at hl; omega
theorem eE_nil (e : List UInt8) : eE e [] = [] := rfl
set_option maxRecDepth 100000 in
set_option maxHeartbeats 8000000 in
theorem foldEnds_walk (W : World) (A : Option Addr) (n c : Nat) (l : List ByteArray) (hA : SsAt W A n l) (sn : n ≤ 9223372036854775807) (hz : ∀ j, (sat l j).size ≤ maxLen) :
    Calls Try.prog 9 #[.slice A n c] W fun e w' => e = .returned (.bool true) ∧ Below W.heap.size W w' := by
  have b0 := Below.refl W.heap.size W
  have SH := Lib.hid hA
  have SZ := Lib.hid hz
  have HC := Lib.hid hA.2
  have EN := Lib.hid hA.1
  clear hA hz
  go_enter Try.func9, Try.ntmps9
  go_wp2_with fail
  refine (first4_any _).mono ?_
  rintro e b1w ⟨rfl, b1h⟩
  have b1 := b0.trans (b1h.mono b0.size)
  go_wp2
  go_loopw [3, 4] (fun q i wr => ∃ t : Nat, t ≤ n ∧ t ≤ 300 ∧ i = .int .i64 t ∧ q = .int .i64 (sumE l t : Nat) ∧ Hid (okE l t) ∧ Below W.heap.size W wr) (fun _ i _ => n - (intOf i).toNat)
  case atStart => exact ⟨0, Nat.zero_le _, by omega, rfl, rfl, Lib.hid (fun j hj => absurd hj (by omega)), b1⟩
  case round =>
    rename_i wr
    obtain ⟨t, ht, ht3, rfl, rfl, D, hB⟩ := hrel
    have sl := sumE_le l t
    by_cases hlt : t < n
    · by_cases h3 : t < 300
      · obtain ⟨b, off, rfl, hb, hcc⟩ := HC.out (by omega)
        have c0 := (hB.cell (p := ⟨b, off + t, none⟩) hb).trans (hcc t hlt)
        have zs := SZ.out t
        unfold maxLen at zs
        obtain ⟨m, hm, hm2⟩ : ∃ m : Nat, min ((sat l t).size : Int) 3001 = (m : Int) ∧ m = min (sat l t).size 3001 := ⟨_, by omega, rfl⟩
        have m6 : m ≤ 3001 := by omega
        have SS := Lib.hid (show sumE l (t + 1) = sumE l t + m + 2 from by rw [hm2]; rfl)
        have OK := Lib.hid (fun (g : 0 < (sat l t).size) (v : visible (sat l t).data.toList m) => D.out.succ (l := l) (k := t) ⟨g, by rw [← hm2]; exact v⟩)
        have h3' : (t : Int) < 300 := by omega
        clear hcc D
        obtain ⟨s, hs⟩ : ∃ s, sat l t = s := ⟨_, rfl⟩
        rw [hs] at c0 zs hm hm2 OK
        clear hs
        generalize sumE l t = q at *
        have HM2 := Lib.hid hm2
        have mle : m ≤ s.size := by omega
        have mlt : m < 3001 ∨ 3001 ≤ m := by omega
        have mz : m = s.size ∨ (m = 3001 ∧ 3001 ≤ s.size) := by omega
        have MZ := Lib.hid mz
        clear hm2 mlt mz
        go_wp2
        go_loop [5] (fun i => ∃ k : Nat, k ≤ m ∧ i = .int .i64 k ∧ Hid (visible s.data.toList k)) (fun i => m - (intOf i).toNat)
        case atStart => exact ⟨0, Nat.zero_le _, rfl, Lib.hid (fun j hj => absurd hj (by omega))⟩
        case round =>
          obtain ⟨k, hk, rfl, G⟩ := hrel
          by_cases hkm : k < m
          · have hks : k < s.size := by omega
            have k1 : (k : Int) < 3001 := by omega
            have eb := bat_str hks
            by_cases g1 : (s[k].toNat : Int) < 33
            · clear eb OK
              go_wp2_with fail
              refine (first4_any _).mono ?_
              rintro e b2w ⟨rfl, b2h⟩
              have b2 := hB.trans (b2h.mono hB.size)
              go_wp2
              go_ret
              exact ⟨rfl, b2⟩
            · by_cases g2 : 126 < (s[k].toNat : Int)
              · have g1' : 33 ≤ (s[k].toNat : Int) := by omega
                clear eb OK g1
                go_wp2_with fail
                refine (first4_any _).mono ?_
                rintro e b2w ⟨rfl, b2h⟩
                have b2 := hB.trans (b2h.mono hB.size)
                go_wp2
                go_ret
                exact ⟨rfl, b2⟩
              · have G2 := Lib.hid (G.out.succ (by rw [eb]; omega))
                have g1' : 33 ≤ (s[k].toNat : Int) := by omega
                have g2' : (s[k].toNat : Int) ≤ 126 := by omega
                clear eb g1 g2 OK
                go_wp2
                go_round
                case rel => exact ⟨k + 1, by omega, by go_num, G2⟩
                case measure => simp [intOf]; omega
          · obtain rfl : m = k := by omega
            have hex : (s.size ≤ m) ∨ (m < s.size ∧ 3001 ≤ m) := by rcases MZ.out with h | ⟨h, g⟩ <;> omega
            by_cases hs0 : s.size = 0
            · have t1 : ((s.size : Int) == 0) = true := by rw [beq_iff_eq]; omega
              have hsm : s.size ≤ m := by omega
              clear OK G hkm hs0 hex
              go_wp2_with fail
              refine (first4_any _).mono ?_
              rintro e b2w ⟨rfl, b2h⟩
              have b2 := hB.trans (b2h.mono hB.size)
              go_wp2
              go_ret
              exact ⟨rfl, b2⟩
            · have t1 : ((s.size : Int) == 0) = false := by rw [beq_eq_false_iff_ne]; omega
              have O2 := Lib.hid (OK.out (by omega) G.out)
              clear OK G hkm hs0
              rcases hex with hex | ⟨hx1, hx2⟩
              · go_wp2
                go_roundw
                case rel => exact ⟨t + 1, by omega, by omega, by go_num, by rw [SS.out]; go_num, O2, hB⟩
                case measure => simp [intOf]; omega
              · have hx2' : (3001 : Int) ≤ (m : Int) := by omega
                go_wp2
                go_roundw
                case rel => exact ⟨t + 1, by omega, by omega, by go_num, by rw [SS.out]; go_num, O2, hB⟩
                case measure => simp [intOf]; omega
      · have h3' : (300 : Int) ≤ (t : Int) := by omega
        have hn3 : (300 : Int) < (n : Int) := by omega
        clear h3 D
        generalize sumE l t = q at *
        go_wp2_with fail
        refine (first4_any _).mono ?_
        rintro e b2w ⟨rfl, b2h⟩
        have b2 := hB.trans (b2h.mono hB.size)
        go_wp2
        go_ret
        exact ⟨rfl, b2⟩
    · obtain rfl : n = t := by omega
      have n3 : (n : Int) ≤ 300 := by omega
      by_cases h6 : 3000 < sumE l n
      · have s6 : (3000 : Int) < ((sumE l n : Nat) : Int) := by omega
        clear D h6
        generalize sumE l n = q at *
        go_wp2_with fail
        refine (first4_any _).mono ?_
        rintro e b2w ⟨rfl, b2h⟩
        have b2 := hB.trans (b2h.mono hB.size)
        go_wp2
        go_ret
        exact ⟨rfl, b2⟩
      · have s6 : ((sumE l n : Nat) : Int) ≤ 3000 := by omega
        have S3 := Lib.hid (show sumE l n ≤ 3000 from by omega)
        have VV := Lib.hid (show VisL (tl l) from okE.vis (by rw [← EN.out]; exact D.out) (by rw [← EN.out]; omega))
        clear D h6
        go_wp2
        go_loopw [6, 7, 8, 9] (fun a b d i wr => ∃ (t : Nat) (x y z : ByteArray), t ≤ n ∧ i = .int .i64 t ∧ a = .string x ∧ b = .string y ∧ d = .string z ∧ Hid (x.data.toList = eE [10] ((tl l).take t) ∧ y.data.toList = eE [13, 10] ((tl l).take t) ∧ z.data.toList = cE (tl l) t) ∧ x.size ≤ sumE l t ∧ y.size ≤ sumE l t ∧ z.size ≤ sumE l t ∧ Below W.heap.size W wr) (fun _ _ _ i _ => n - (intOf i).toNat)
        case atStart => exact ⟨0, ⟨#[]⟩, ⟨#[]⟩, ⟨#[]⟩, Nat.zero_le _, rfl, rfl, rfl, rfl, Lib.hid ⟨rfl, rfl, by unfold cE; rw [if_pos (.inr rfl)]; rfl⟩, Nat.zero_le _, Nat.zero_le _, Nat.zero_le _, hB⟩
        case round =>
          rename_i wr2
          clear hB
          obtain ⟨t, x, y, z, ht, rfl, rfl, rfl, rfl, D, zx, zy, zz, hB⟩ := hrel
          by_cases hlt : t < n
          · obtain ⟨b, off, rfl, hb, hcc⟩ := HC.out (by omega)
            have c0 := (hB.cell (p := ⟨b, off + t, none⟩) hb).trans (hcc t hlt)
            have at3 := sumE_at hlt S3.out
            have tn : t < (tl l).length := by rw [tl_len, ← EN.out]; exact hlt
            have ln : (tl l).length = n := by rw [tl_len, EN.out]
            have mo := sumE_mono l (k := n) (j := t + 1) (by omega)
            have m3 := S3.out
            have e1 := eE_succ (e := [10]) tn
            have e2 := eE_succ (e := [13, 10]) tn
            have e3 := fun (h : t + 1 < (tl l).length) => cE_more h
            have e4 := fun (h : t + 1 = (tl l).length) => cE_last h
            have ta := tl_at (l := l) (t := t) (by rw [← EN.out]; exact hlt)
            rw [ta] at e1 e2
            have e3' : t + 1 < n → cE (tl l) (t + 1) = cE (tl l) t ++ (sat l t).data.toList ++ [13, 10] := fun h => by rw [e3 (by omega), ta]
            have e4' : t + 1 = n → cE (tl l) (t + 1) = cE (tl l) t ++ (sat l t).data.toList := fun h => by rw [e4 (by omega), ta]
            clear e3 e4 ta tn hcc
            obtain ⟨s, hs⟩ : ∃ s, sat l t = s := ⟨_, rfl⟩
            rw [hs] at c0 at3 e1 e2 e3' e4'
            clear hs
            have s1 := at3.1
            have sx : (x ++ s ++ ⟨#[10]⟩).size ≤ sumE l (t + 1) := by simp only [ByteArray.size_append]; show _ + _ + 1 ≤ _; omega
            have sy : (y ++ s ++ ⟨#[13, 10]⟩).size ≤ sumE l (t + 1) := by simp only [ByteArray.size_append]; show _ + _ + 2 ≤ _; omega
            have sz : (z ++ s ++ ⟨#[13, 10]⟩).size ≤ sumE l (t + 1) := by simp only [ByteArray.size_append]; show _ + _ + 2 ≤ _; omega
            have sw : (z ++ s).size ≤ sumE l (t + 1) := by simp only [ByteArray.size_append]; omega
            have d1 : (x ++ s ++ ⟨#[10]⟩).data.toList = eE [10] ((tl l).take (t + 1)) := by rw [list_app, list_app, D.out.1, e1]
            have d2 : (y ++ s ++ ⟨#[13, 10]⟩).data.toList = eE [13, 10] ((tl l).take (t + 1)) := by rw [list_app, list_app, D.out.2.1, e2]
            have b1 : x.size ≤ 3000 := by omega
            have b2 : y.size ≤ 3000 := by omega
            have b3 : z.size ≤ 3000 := by omega
            have q1 : ¬ 9223372036854775807 < x.size + s.size := by omega
            have q2 : ¬ 9223372036854775807 < x.size + s.size + 1 := by omega
            have q3 : ¬ 9223372036854775807 < y.size + s.size := by omega
            have q4 : ¬ 9223372036854775807 < y.size + s.size + 2 := by omega
            have q5 : ¬ 9223372036854775807 < z.size + s.size := by omega
            have q6 : ¬ 9223372036854775807 < z.size + s.size + 2 := by omega
            have i0 : (0 : Int) ≤ (t : Int) := by omega
            have i1 : (t : Int) < (n : Int) := by omega
            have n30 : n ≤ 300 := by omega
            have SXH := Lib.hid sx; have SYH := Lib.hid sy; have SZH := Lib.hid sz; have SWH := Lib.hid sw
            by_cases hl : t + 1 < n
            · have i2 : (t : Int) < (n : Int) - 1 := by omega
              have DD := Lib.hid (show (x ++ s ++ ⟨#[10]⟩).data.toList = eE [10] ((tl l).take (t + 1)) ∧ (y ++ s ++ ⟨#[13, 10]⟩).data.toList = eE [13, 10] ((tl l).take (t + 1)) ∧ (z ++ s ++ ⟨#[13, 10]⟩).data.toList = cE (tl l) (t + 1) from ⟨d1, d2, by rw [list_app, list_app, D.out.2.2, e3' hl]⟩)
              clear D e1 e2 e3' e4' d1 d2 sx sy sz sw at3 mo m3 ln hl
              go_wp2
              go_big_quiet (fail)
              go_wp2
              go_roundw
              case rel => exact ⟨t + 1, _, _, _, by omega, by go_num, rfl, rfl, rfl, DD, SXH.out, SYH.out, SZH.out, hB.trans ((Below.drewN' _ _ _).mono hB.size)⟩
              case measure => simp [intOf]; omega
            · have i2 : (n : Int) - 1 ≤ (t : Int) := by omega
              have hl' : t + 1 = n := by omega
              have DD := Lib.hid (show (x ++ s ++ ⟨#[10]⟩).data.toList = eE [10] ((tl l).take (t + 1)) ∧ (y ++ s ++ ⟨#[13, 10]⟩).data.toList = eE [13, 10] ((tl l).take (t + 1)) ∧ (z ++ s).data.toList = cE (tl l) (t + 1) from ⟨d1, d2, by rw [list_app, D.out.2.2, e4' hl']⟩)
              clear D e1 e2 e3' e4' d1 d2 sx sy sz sw at3 mo m3 ln hl hl'
              go_wp2
              go_big_quiet (fail)
              go_wp2
              go_roundw
              case rel => exact ⟨t + 1, _, _, _, by omega, by go_num, rfl, rfl, rfl, DD, SXH.out, SYH.out, SWH.out, hB.trans ((Below.drewN' _ _ _).mono hB.size)⟩
              case measure => simp [intOf]; omega
          · obtain rfl : n = t := by omega
            have m3 := S3.out
            have ln : (tl l).length = n := by rw [tl_len, EN.out]
            have x3 : x.size ≤ 3000 := by omega
            have y3 : y.size ≤ 3000 := by omega
            have z3 : z.size ≤ 3000 := by omega
            have tk : (tl l).take n = tl l := by rw [List.take_of_length_le (by omega)]
            have dd := D.out
            rw [tk] at dd
            have lx : x.data.toList.length = x.size := by simp
            have ly : y.data.toList.length = y.size := by simp
            have lz : z.data.toList.length = z.size := by simp
            have A1 : splitL x.data.toList = tl l ∧ splitN x.data.toList = 0 ∧ splitE x.data.toList = 0 := by
              have := ends_split (e := [10]) (.inl rfl) VV.out (by rw [← dd.1]; omega)
              rwa [← dd.1] at this
            have A2 : splitL y.data.toList = tl l ∧ splitN y.data.toList = 0 ∧ splitE y.data.toList = 0 := by
              have := ends_split (e := [13, 10]) (.inr rfl) VV.out (by rw [← dd.2.1]; omega)
              rwa [← dd.2.1] at this
            have A3 : splitL z.data.toList = tl l ∧ splitN z.data.toList = 0 ∧ splitE z.data.toList = 0 := by
              have := last_split VV.out (by rw [ln, ← dd.2.2]; omega)
              rwa [ln, ← dd.2.2] at this
            have H1 := Lib.hid (show (splitL x.data.toList).map str = l from by rw [A1.1, tl_str])
            have H2 := Lib.hid (show (splitL y.data.toList).map str = l from by rw [A2.1, tl_str])
            have H3 := Lib.hid (show (splitL z.data.toList).map str = l from by rw [A3.1, tl_str])
            have B1 := Lib.hid A1.2; have B2 := Lib.hid A2.2; have B3 := Lib.hid A3.2
            have kb := bytes_of
            clear D dd lx ly lz A1 A2 A3 tk ln m3 hlt ht
            go_wp2_with fail
            refine (split_k _ _ _ _ _ _ n _ _ (bytes_at _ _) (bytes_cap _ _) (by omega) H1.out EN.out.symm B1.out.1 B1.out.2).mono ?_
            rintro e w5 ⟨B5, d5, rfl, hs5, h5⟩
            have b5 := after_bytes hB h5
            go_wp2_with fail
            refine (split_k _ _ _ _ _ _ n _ _ (bytes_at _ _) (bytes_cap _ _) (by omega) H2.out EN.out.symm B2.out.1 B2.out.2).mono ?_
            rintro e w6 ⟨B6, d6, rfl, hs6, h6⟩
            have b6 := after_bytes b5 h6
            have g56 := after_bytes (Below.refl w5.heap.size w5) h6
            go_wp2_with fail
            refine (split_k _ _ _ _ _ _ n _ _ (bytes_at _ _) (bytes_cap _ _) (by omega) H3.out EN.out.symm B3.out.1 B3.out.2).mono ?_
            rintro e w7 ⟨B7, d7, rfl, hs7, h7⟩
            have b7 := after_bytes b6 h7
            have g67 := after_bytes (Below.refl w6.heap.size w6) h7
            clear kb
            go_wp2_with fail
            refine (first4_any _).mono ?_
            rintro e bzw ⟨rfl, bzh⟩
            have bz := b7.trans (bzh.mono b7.size)
            have k5 := ((hs5.below g56).below g67).below bzh
            have k6 := (hs6.below g67).below bzh
            have k7 := hs7.below bzh
            have kl := SH.out.below bz
            clear h5 h6 h7 hs5 hs6 hs7 g56 g67
            go_wp2_with fail
            refine (texts_same _ _ _ _ _ _ _ _ k5 kl sn sn).mono ?_
            rintro e w8 ⟨rfl, h8⟩
            have b8 := bz.trans (h8.mono bz.size)
            have k6' := k6.below h8
            have k7' := k7.below h8
            have kl8 := SH.out.below b8
            go_wp2_with fail
            refine (texts_same _ _ _ _ _ _ _ _ k6' kl8 sn sn).mono ?_
            rintro e w9 ⟨rfl, h9⟩
            have b9 := b8.trans (h9.mono b8.size)
            have k7'' := k7'.below h9
            have kl9 := SH.out.below b9
            go_wp2_with fail
            refine (texts_same _ _ _ _ _ _ _ _ k7'' kl9 sn sn).mono ?_
            rintro e w10 ⟨rfl, h10⟩
            go_wp2
            go_ret
            exact ⟨rfl, b9.trans (h10.mono b9.size)⟩
end Go.Proofs.Ytbinhnlajflndaa.Fd
