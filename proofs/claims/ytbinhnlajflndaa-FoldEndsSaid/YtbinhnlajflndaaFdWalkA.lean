/- The walks of package fold's small functions, and of vokref's Texts and Bytes. -/
import Derived.Test.YtbinhnlajflndaaFdMem
import Derived.Outline
set_option linter.unusedVariables false
namespace Go.Proofs.Ytbinhnlajflndaa.Fd
open Go.RowKit Cv St

theorem mayByte_any (c : Int) (w : World) :
    Calls Try.prog 70 #[.int .u8 c] w fun e w' => e = .returned (.bool (mayI c)) ∧ w = w' := by
  by_cases h1 : 32 ≤ c
  · by_cases h2 : c ≤ 126
    · go_enter Try.func70, Try.ntmps70
      go_wp2
      go_ret
      exact ⟨ret_bool (yes_bool ⟨h1, h2⟩), rfl⟩
    · have h3 : 126 < c := by omega
      clear h2
      go_enter Try.func70, Try.ntmps70
      go_wp2
      go_ret
      exact ⟨ret_bool (two_bool (by unfold mayI; simp only [decide_eq_true_eq]; omega)), rfl⟩
  · have h3 : c < 32 := by omega
    clear h1
    go_enter Try.func70, Try.ntmps70
    go_wp2
    go_ret
    exact ⟨ret_bool (no_bool (by omega)), rfl⟩
theorem mayByte_is (c : Int) (w : World) (x : Bool) (h : mayI c = x) :
    Calls Try.prog 70 #[.int .u8 c] w fun e w' => e = .returned (.bool x) ∧ w = w' := h ▸ mayByte_any c w
/-- vokref.Bytes -/
theorem bytes_any (w : World) (A B : Option Addr) (n c m d : Nat) (l k : List UInt8) (hl : BsAt w A n l) (hk : BsAt w B m k) :
    Calls Try.prog 31 #[.slice A n c, .slice B m d] w fun e w' => e = .returned (.bool (decide (l = k))) ∧ w = w' := by
  have c1 := hl.text c
  have c2 := hk.text d
  by_cases h : l = k
  · subst h
    generalize str l = s at *
    have F := Lib.hid (show true = decide (l = l) from yes_bool rfl)
    clear hl hk
    go_enter Try.func31, Try.ntmps31
    go_wp2
    go_ret
    exact ⟨ret_bool F.out, rfl⟩
  · have F := Lib.hid (show false = decide (l = k) from no_bool h)
    have E := Lib.hid (show str l ≠ str k from fun e => h (str_inj e))
    generalize str l = s at *
    generalize str k = t at *
    have e1 := str_ne E.out
    clear hl hk h E
    go_enter Try.func31, Try.ntmps31
    go_wp2
    go_ret
    exact ⟨ret_bool F.out, rfl⟩
def ssTo (l m : List ByteArray) (k : Nat) : Prop := ∀ j, j < k → sat l j = sat m j
theorem ssTo.succ {l m : List ByteArray} {k : Nat} (h : ssTo l m k) (e : sat l k = sat m k) : ssTo l m (k + 1) := fun j hj => by
  by_cases c : j = k
  · subst c; exact e
  · exact h j (by omega)
theorem ss_ext {l m : List ByteArray} (e : l.length = m.length) (h : ∀ j, j < l.length → sat l j = sat m j) : l = m := by
  refine List.ext_getElem e fun i h1 h2 => ?_
  have := h i h1
  rwa [sat_lt h1, sat_lt h2] at this
/-- vokref.Texts -/
theorem texts_any (w : World) (A B : Option Addr) (n c m d : Nat) (l k : List ByteArray) (hl : SsAt w A n l) (hk : SsAt w B m k) (h1 : n ≤ 9223372036854775807) (h2 : m ≤ 9223372036854775807) :
    Calls Try.prog 33 #[.slice A n c, .slice B m d] w fun e w' => e = .returned (.bool (decide (l = k))) ∧ Below w.heap.size w w' := by
  obtain ⟨en, hc⟩ := hl
  obtain ⟨en2, hc2⟩ := hk
  by_cases hn : n = m
  · subst hn
    have EN := Lib.hid en
    have EN2 := Lib.hid en2
    clear en en2
    go_enter Try.func33, Try.ntmps33
    go_wp2
    go_loopw [5] (fun i wr => ∃ t : Nat, t ≤ n ∧ i = .int .i64 t ∧ Hid (ssTo l k t) ∧ ∃ q : Nat, wr = w.drewN q) (fun i _ => n - (intOf i).toNat)
    case atStart => exact ⟨0, Nat.zero_le _, rfl, Lib.hid (fun j hj => absurd hj (by omega)), 0, rfl⟩
    case round =>
      obtain ⟨t, ht, rfl, D, q, rfl⟩ := hrel
      by_cases hlt : t < n
      · obtain ⟨b, off, rfl, hb, hcc⟩ := hc (by omega)
        obtain ⟨b2, off2, rfl, hb2, hcc2⟩ := hc2 (by omega)
        have c0 := hcc t hlt
        have d0 := hcc2 t hlt
        clear hc hc2 hcc hcc2
        by_cases he : sat l t = sat k t
        · have X := Lib.hid (D.out.succ he)
          rw [← he] at d0
          clear he D
          generalize sat l t = s at *
          go_wp2
          go_big_quiet (fail)
          go_wp2
          go_roundw
          case rel => exact ⟨t + 1, by omega, by go_num, X, _, rfl⟩
          case measure => simp [intOf]; omega
        · have F := Lib.hid (show false = decide (l = k) from no_bool (fun e => he (by rw [e])))
          have e1 := str_ne he
          clear he D
          generalize sat l t = s at *
          generalize sat k t = s2 at *
          go_wp2
          go_big_quiet (fail)
          go_wp2
          go_ret
          exact ⟨ret_bool F.out, (Below.drewN' _ _ _).trans (Below.drewN' _ _ _)⟩
      · obtain rfl : n = t := by omega
        have F := Lib.hid (show true = decide (l = k) from yes_bool (ss_ext (by rw [← EN.out, ← EN2.out]) (by rw [← EN.out]; exact D.out)))
        go_wp2
        go_ret
        exact ⟨ret_bool F.out, Below.drewN' _ _ _⟩
  · have F := Lib.hid (show false = decide (l = k) from no_bool (fun e => hn (by rw [en, en2, e])))
    have t1 : ((n : Int) != m) = true := by rw [bne_iff_ne]; omega
    clear en en2 hc hc2 hn
    go_enter Try.func33, Try.ntmps33
    go_wp2
    go_ret
    exact ⟨ret_bool F.out, Below.refl _ _⟩
end Go.Proofs.Ytbinhnlajflndaa.Fd
