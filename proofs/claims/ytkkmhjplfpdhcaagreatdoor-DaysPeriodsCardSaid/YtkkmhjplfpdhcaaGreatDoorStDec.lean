/- The walk of vokref.Dec: a number's decimal digits, of a number that is not below 0. -/
import Derived.Test.YtkkmhjplfpdhcaaGreatDoorStMem
import Derived.Deep.RegionWith
import Derived.IntWalk
import Derived.Lib.ItoaLen
namespace Go.Proofs.YtkkmhjplfpdhcaaGreatDoor.St
open Go.RowKit Cv
set_option linter.unusedVariables false

theorem cells_below {W w1 : World} {B : Nat} (hb : Below B W w1) : ∀ b o, b < B → w1.cell? ⟨b, o, none⟩ = W.cell? ⟨b, o, none⟩ :=
  fun b o h => hb.cell (p := ⟨b, o, none⟩) h
/-- string(b) of a slice of one byte, wherever it lies. -/
theorem one_string (c : Int) (h0 : 0 ≤ c) (h1 : c ≤ 255) (w : World) (b : Nat) (h : w.cell? ⟨b, 0, none⟩ = some (.int .u8 c)) :
    (convert 99 9 (.slice (some ⟨b, 0, none⟩) 1 1)).run Tryz.prog w = .ok (.string ⟨#[u8 c]⟩) w := by
  have e := u8_nat c h0 h1
  have := run_convert_bytes_back (P := Tryz.prog) w 99 9 5 ⟨b, 0, none⟩ 1 [u8 c] Tryz.underlying99 Tryz.underlying5 Tryz.underlying9
    (fun j hj => by obtain rfl : j = 0 := by simpa using hj
                    show w.cell? ⟨b, 0, none⟩ = _
                    rw [h]; simp [e])
  exact this
theorem dec_small (n : Int) (w : World) (h0 : 0 ≤ n) (h1 : n < 10) :
    Calls Tryz.prog 74 #[.int .i64 n] w fun e w' => e = .returned (.string ⟨#[u8 (48 + n)]⟩) ∧ Below w.heap.size w w' := by
  have cv := one_back (48 + n) (by omega) (by omega)
  go_enter Tryz.func74, Tryz.ntmps74
  go_wp2
  go_ret
  exact ⟨rfl, (Below.refl _ _).alloc (Nat.le_refl _) _⟩
theorem dec_fin1 {w w5 : World} {o : Obj} (hb : Below w.drew.heap.size w.drew w5) : Below w.heap.size w (w5.alloc o) :=
  (((Below.refl _ w).drew).trans hb).alloc hb.size _
theorem dec_fin2 {w w5 : World} {o : Obj} (hb : Below (w.alloc o).drew.heap.size (w.alloc o).drew w5) : Below w.heap.size w w5 :=
  (((Below.refl _ w).alloc (Nat.le_refl _) o).drew).trans (hb.mono (by show w.heap.size ≤ (w.alloc o).heap.size; simp))
def DecIs (n : Int) (w : World) (e : Ending) (w' : World) : Prop := ∃ s : ByteArray, e = .returned (.string s) ∧ s = ⟨(Lib.decDigits n.toNat).toArray⟩ ∧ s.size ≤ 20 ∧ Below w.heap.size w w'
theorem dec_len {n : Int} (h : n ≤ 1000000000000000) : (⟨(Lib.decDigits n.toNat).toArray⟩ : ByteArray).size ≤ 20 := by
  show (Lib.decDigits n.toNat).toArray.size ≤ 20
  rw [List.size_toArray, Lib.decDigits_length]
  exact Lib.nDigits_le20 _ (by omega)
theorem dec_next {n : Int} {s : ByteArray} (h : 10 ≤ n) (hs : s = ⟨(Lib.decDigits (n / 10).toNat).toArray⟩) : s ++ (⟨#[u8 (48 + n % 10)]⟩ : ByteArray) = ⟨(Lib.decDigits n.toNat).toArray⟩ := by
  subst hs
  rw [ByteArray.mk_append_mk]
  have e : Lib.decDigits n.toNat = Lib.decDigits (n / 10).toNat ++ [u8 (48 + n % 10)] := by
    rw [Lib.decDigits, dif_neg (by omega), show (n / 10).toNat = n.toNat / 10 by omega]
    unfold u8
    rw [show (48 + n % 10).toNat = 48 + n.toNat % 10 by omega]
  rw [e]
set_option maxHeartbeats 2000000 in
theorem dec_step (n : Int) (w : World) (h0 : 10 ≤ n) (h1 : n ≤ 1000000000000000) (ih : ∀ w, Calls Tryz.prog 74 #[.int .i64 (n / 10)] w (DecIs (n / 10) w)) :
    Calls Tryz.prog 74 #[.int .i64 n] w (DecIs n w) := by
  have IH := Lib.hid ih
  have cv := fun (w : World) (b : Nat) h => one_string (48 + n % 10) (by omega) (by omega) w b h
  clear ih
  go_enter Tryz.func74, Tryz.ntmps74
  go_wp2_with fail
  have q := Int.tdiv_eq_ediv_of_nonneg (a := n) (b := 10) (by omega)
  have r := Int.tmod_eq_emod_of_nonneg (a := n) (b := 10) (by omega)
  have e1 : IntKind.i64.wrap (n.tdiv 10) = n / 10 := by rw [q]; exact IntWalk.i64_in _ ⟨by omega, by omega⟩
  have e2 : IntKind.i64.wrap (48 + n.tmod 10) = 48 + n % 10 := by rw [r]; exact IntWalk.i64_in _ ⟨by omega, by omega⟩
  have e3 : IntKind.u8.wrap (48 + n % 10) = 48 + n % 10 := IntWalk.u8_in _ ⟨by omega, by omega⟩
  clear q r
  go_region_with (go_at_call 74; refine (IH.out _).mono ?_; rintro e w5 ⟨s, rfl, hs, hz, hb⟩; have HS := Lib.hid hs; clear hs; have hc := cells_below hb)
  all_goals
    go_wp2
    go_ret
    refine ⟨_, rfl, dec_next h0 HS.out, ?_, ?_⟩
    · rw [dec_next h0 HS.out]; exact dec_len h1
    · first | exact dec_fin1 hb | exact dec_fin2 hb
/-- Dec of any number from 0 on: its decimal numeral. -/
theorem dec_nat : ∀ (k : Nat) (n : Int), n.toNat = k → 0 ≤ n → n ≤ 1000000000000000 → ∀ w : World, Calls Tryz.prog 74 #[.int .i64 n] w (DecIs n w) := by
  intro k
  induction k using Nat.strongRecOn with
  | ind k ih =>
    intro n hk h0 h1 w
    by_cases h : n < 10
    · refine (dec_small n w h0 h).mono ?_
      rintro e w' ⟨rfl, hb⟩
      have e : (⟨#[u8 (48 + n)]⟩ : ByteArray) = ⟨(Lib.decDigits n.toNat).toArray⟩ := by
        rw [Lib.decDigits_one (by omega)]; unfold u8
        rw [show (48 + n).toNat = 48 + n.toNat by omega]
      exact ⟨_, rfl, e, by rw [e]; exact dec_len h1, hb⟩
    · exact dec_step n w (by omega) h1 fun w => ih (n / 10).toNat (by omega) (n / 10) rfl (by omega) (by omega) w
theorem dec_any (n : Int) (W w : World) (h0 : 0 ≤ n) (h1 : n ≤ 1000000000000000) (s : ByteArray) (hs : ⟨(Lib.itoa n).toArray⟩ = s) (h : At W w) :
    Calls Tryz.prog 74 #[.int .i64 n] w fun e w' => e = .returned (.string s) ∧ At W w' := by
  refine (dec_nat _ n rfl h0 h1 w).mono ?_
  rintro e w' ⟨t, rfl, ht, _, hb⟩
  rw [Lib.itoa, if_neg (by omega), ← ht] at hs
  subst hs
  exact ⟨rfl, h.on (hb.mono h.size)⟩
end Go.Proofs.YtkkmhjplfpdhcaaGreatDoor.St
