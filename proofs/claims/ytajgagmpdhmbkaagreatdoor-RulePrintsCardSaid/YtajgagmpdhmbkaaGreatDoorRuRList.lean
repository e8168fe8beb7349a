/- What vokref4.list answers: a part of numbers. -/
import Derived.Test.YtajgagmpdhmbkaaGreatDoorRuPrint
import Derived.Test.YtajgagmpdhmbkaaGreatDoorRuB
set_option linter.unusedVariables false
namespace Go.Proofs.YtajgagmpdhmbkaaGreatDoor.Ru
open Go.RowKit Cv St

theorem sep_snoc (c : UInt8) : ∀ {ps : List (List UInt8)} (p : List UInt8), ps ≠ [] → sep c (ps ++ [p]) = sep c ps ++ c :: p
  | [], _, h => absurd rfl h
  | q :: ps, p, _ => by simp [sep]
def preI (l : List Int) (t : Nat) : List UInt8 := sep 44 ((l.take t).map Lib.itoa)
theorem preI_0 (l : List Int) : preI l 0 = [] := rfl
theorem preI_1 {l : List Int} (h : 0 < l.length) : preI l 1 = Lib.itoa (iat l 0) := by
  cases l with
  | nil => simp at h
  | cons x l => simp [preI, sep, iat]
theorem preI_succ {l : List Int} {t : Nat} (h : t < l.length) (h0 : 0 < t) : preI l (t + 1) = preI l t ++ 44 :: Lib.itoa (iat l t) := by
  unfold preI
  rw [iat_lt h, List.take_succ_eq_append_getElem h, List.map_append, List.map_singleton, sep_snoc]
  intro e
  have := congrArg List.length e
  rw [List.length_map, List.length_take] at this
  simp only [List.length_nil] at this
  omega
theorem preI_all (l : List Int) : preI l l.length = commaL l := by unfold preI commaL; rw [List.take_length]
theorem preI_len {l : List Int} (hl : ∀ x ∈ l, -999999999 ≤ x ∧ x ≤ 999999999) (t : Nat) : (preI l t).length ≤ t * 11 := by
  have h : ∀ x ∈ l.take t, (Lib.itoa x).length ≤ 10 := fun x hx => itoa_len9 (hl x (List.mem_of_mem_take hx)).1 (hl x (List.mem_of_mem_take hx)).2
  have := comma_len h
  have e : (l.take t).length ≤ t := by simp; omega
  have : (preI l t).length ≤ (l.take t).length * 11 := this
  omega
theorem preI_ne {l : List Int} {t : Nat} (h : 0 < t) (hl : t ≤ l.length) : preI l t ≠ [] := by
  intro e
  cases l with
  | nil => simp at hl; omega
  | cons x l =>
    cases t with
    | zero => omega
    | succ t =>
      unfold preI sep at e
      simp at e
      exact absurd e.1 (itoa_ne x)
set_option maxRecDepth 100000 in
set_option maxHeartbeats 4000000 in
/-- vokref4.list -/
theorem rlist_is (w : World) (nm : ByteArray) (A : Option Addr) (n c : Nat) (l : List Int) (s : ByteArray) (hA : IsAt w A n l) (h60 : n ≤ 60) (hl : ∀ x ∈ l, -999999999 ≤ x ∧ x ≤ 999999999) (hn : nm.size ≤ 20) (hs : str (partI nm.data.toList l) = s) :
    Calls Tryz.prog 39 #[.string nm, .slice A n c] w fun e w' => e = .returned (.string s) ∧ Below w.heap.size w w' := by
  have HK := Lib.hid hA.1
  have HL := Lib.hid hl
  have HA := Lib.hid hA
  have HS := Lib.hid hs
  clear hA hl hs
  go_enter Tryz.func39, Tryz.ntmps39
  go_wp2
  go_loopw [5, 6] (fun u i wr => ∃ t : Nat, t ≤ n ∧ i = .int .i64 t ∧ u = .string (str (preI l t)) ∧ Below w.heap.size w wr) (fun _ i _ => n - (intOf i).toNat)
  case atStart => exact ⟨0, Nat.zero_le _, rfl, rfl, Below.refl _ _⟩
  case round =>
    obtain ⟨t, ht, rfl, rfl, br⟩ := hrel
    have sz := preI_len HL.out t
    have hz : (str (preI l t)).size ≤ 660 := by rw [str_size]; omega
    by_cases hlt : t < n
    · obtain ⟨b, off, ha, hb, hc⟩ := (HA.out.below br).2 (by omega)
      subst ha
      have c0 := hc t hlt
      clear hc
      have hx := HL.out (iat l t) (by rw [iat_lt (by rw [← HK.out]; exact hlt)]; exact List.getElem_mem _)
      have i9 := itoa_len9 hx.1 hx.2
      obtain ⟨d, hd⟩ : ∃ d, str (Lib.itoa (iat l t)) = d := ⟨_, rfl⟩
      have dz : d.size ≤ 10 := by rw [← hd, str_size]; exact i9
      have HD := Lib.hid hd
      by_cases h0 : 0 < t
      · have G := Lib.hid (show str (preI l t) ++ str [44] ++ d = str (preI l (t + 1)) by
          rw [preI_succ (by rw [← HK.out]; exact hlt) h0, ← hd, str_app, str_app]; simp)
        obtain ⟨p, hp⟩ : ∃ p, str (preI l t) = p := ⟨_, rfl⟩
        rw [hp] at hz ⊢
        have P := Lib.hid hp
        clear hp hd i9 sz
        generalize iat l t = y at *
        have sp : p.size + 1 ≤ 281474976710656 := by omega
        have sq : (p ++ (⟨#[44]⟩ : ByteArray)).size = p.size + 1 := by rw [ByteArray.size_append]; rfl
        have sr : p.size + 1 + d.size ≤ 281474976710656 := by omega
        go_wp2_with fail
        refine (decI_is y _ (by omega) (by omega) d HD.out).mono ?_
        rintro e w2 ⟨rfl, b2⟩
        go_wp2
        go_roundw
        case rel => exact ⟨t + 1, by omega, by go_num, by rw [← G.out, P.out]; rfl, br.trans (b2.mono br.size)⟩
        case measure => simp [intOf]; omega
      · obtain rfl : t = 0 := by omega
        have G := Lib.hid (show (⟨#[]⟩ : ByteArray) ++ d = str (preI l 1) by rw [preI_1 (by rw [← HK.out]; exact hlt), ← hd]; rfl)
        have P0 := Lib.hid (show str (preI l 0) = ⟨#[]⟩ from rfl)
        rw [P0.out] at hz ⊢
        have c0 : wr.cell? ⟨b, off, none⟩ = some (.int .i64 (iat l 0)) := c0
        clear hd i9 sz
        generalize iat l 0 = y at *
        have sr : 0 + d.size ≤ 281474976710656 := by omega
        go_wp2_with fail
        refine (decI_is y _ (by omega) (by omega) d HD.out).mono ?_
        rintro e w2 ⟨rfl, b2⟩
        go_wp2
        go_roundw
        case rel => exact ⟨1, by omega, by go_num, by rw [← G.out], br.trans (b2.mono br.size)⟩
        case measure => simp [intOf]; omega
    · obtain rfl : n = t := by omega
      by_cases h0 : n = 0
      · have e0 : l = [] := List.length_eq_zero_iff.1 (by rw [← HK.out]; exact h0)
        have G := Lib.hid (show s = ⟨#[]⟩ by rw [← HS.out, e0]; rfl)
        have P := Lib.hid (show str (preI l n) = ⟨#[]⟩ by rw [h0]; rfl)
        rw [P.out] at hz ⊢
        clear e0 h0
        go_wp2
        go_ret
        exact ⟨by rw [G.out]; rfl, br⟩
      · obtain ⟨p, hp⟩ : ∃ p, str (preI l n) = p := ⟨_, rfl⟩
        have ne := preI_ne (l := l) (t := n) (by omega) (by rw [← HK.out]; exact Nat.le_refl _)
        have t0 : p.toList.isEmpty = false := by
          rw [ByteArray.toList_eq, ← hp, list_str, List.isEmpty_eq_false_iff]; exact ne
        have G := Lib.hid (show (⟨#[59]⟩ : ByteArray) ++ nm ++ ⟨#[61]⟩ ++ p = s by
          have e1 : preI l n = commaL l := by rw [HK.out]; exact preI_all l
          rw [← HS.out, ← hp, e1]
          unfold partI
          rw [if_neg (fun e => by rw [e] at HK; have := HK.out; simp at this; exact h0 this)]
          have e2 : str [59] ++ str nm.data.toList ++ str [61] ++ str (commaL l) = str (59 :: nm.data.toList ++ 61 :: commaL l) := by rw [str_app, str_app, str_app]; simp
          rw [str_list] at e2
          exact e2)
        rw [hp] at hz ⊢
        clear hp ne sz
        have s1 : 1 + nm.size ≤ 281474976710656 := by omega
        have s2 : 1 + nm.size + 1 ≤ 281474976710656 := by omega
        have s3 : 1 + nm.size + 1 + p.size ≤ 281474976710656 := by omega
        go_wp2
        go_ret
        exact ⟨by rw [← G.out]; rfl, br⟩
end Go.Proofs.YtajgagmpdhmbkaaGreatDoor.Ru
