/- Package frame's mathematics: the sum of bytes by four bits and bit by bit, that it is linear and tells bytes apart. -/

namespace Go.Proofs.YtniphbfoppocfaaDoor.Fr

def pol : Nat := 0xedb88320
def ones : Nat := 4294967295
/-- one bit of the division -/
def step (s : Nat) : Nat := if s % 2 = 1 then s / 2 ^^^ pol else s / 2
def step4 (s : Nat) : Nat := step (step (step (step s)))
def tabT : List Nat := [0x00000000, 0x1DB71064, 0x3B6E20C8, 0x26D930AC, 0x76DC4190, 0x6B6B51F4, 0x4DB26158, 0x5005713C, 0xEDB88320, 0xF00F9344, 0xD6D6A3E8, 0xCB61B38C, 0x9B64C2B0, 0x86D3D2D4, 0xA00AE278, 0xBDBDF21C]
def nib (s : Nat) : Nat := s / 16 ^^^ tabT.getD (s % 16) 0
def byteD (s c : Nat) : Nat := nib (nib (s ^^^ c))
/-- the division goes on over bytes -/
def divL (s : Nat) (l : List UInt8) : Nat := l.foldl (fun s c => byteD s c.toNat) s
def sumL (l : List UInt8) : Nat := divL ones l ^^^ ones

theorem xor_div2 (a b : Nat) : (a ^^^ b) / 2 = a / 2 ^^^ b / 2 := Nat.xor_div_two
theorem xor_mod2 (a b : Nat) : (a ^^^ b) % 2 = (a + b) % 2 := by
  have h := Nat.testBit_xor a b 0
  simp only [Nat.testBit_zero] at h
  have k := Nat.mod_two_eq_zero_or_one (a ^^^ b)
  rcases Nat.mod_two_eq_zero_or_one a with ha | ha <;> rcases Nat.mod_two_eq_zero_or_one b with hb | hb <;> rw [ha, hb] at h
  all_goals
    rcases k with k | k <;> rw [k] at h <;> first | omega | (exfalso; revert h; decide)
theorem step_xor (a b : Nat) : step (a ^^^ b) = step a ^^^ step b := by
  unfold step
  rw [xor_mod2, xor_div2]
  rcases Nat.mod_two_eq_zero_or_one a with ha | ha <;> rcases Nat.mod_two_eq_zero_or_one b with hb | hb
  · rw [if_neg (by omega), if_neg (by omega), if_neg (by omega)]
  · rw [if_pos (by omega), if_neg (by omega), if_pos (by omega), Nat.xor_assoc]
  · rw [if_pos (by omega), if_pos (by omega), if_neg (by omega), Nat.xor_assoc, Nat.xor_comm (b / 2), ← Nat.xor_assoc]
  · rw [if_neg (by omega), if_pos (by omega), if_pos (by omega), Nat.xor_assoc, Nat.xor_comm (b / 2), ← Nat.xor_assoc pol, Nat.xor_self, Nat.zero_xor]
theorem step4_xor (a b : Nat) : step4 (a ^^^ b) = step4 a ^^^ step4 b := by unfold step4; simp only [step_xor]
theorem step_even (h : Nat) : step (2 * h) = h := by unfold step; rw [if_neg (by omega)]; omega
theorem split16 (s : Nat) : s = (16 * (s / 16)) ^^^ (s % 16) := by
  refine Nat.eq_of_testBit_eq fun i => ?_
  rw [Nat.testBit_xor]
  have h := @Nat.testBit_two_pow_mul_add (s / 16) (s % 16) 4 (by omega) i
  have h2 := @Nat.testBit_two_pow_mul_add (s / 16) 0 4 (by omega) i
  rw [show 2 ^ 4 * (s / 16) + s % 16 = s by omega] at h
  rw [show 2 ^ 4 * (s / 16) + 0 = 16 * (s / 16) by omega] at h2
  rw [h, h2]
  by_cases q : i < 4
  · rw [if_pos q, if_pos q, Nat.zero_testBit, Bool.false_xor]
  · rw [if_neg q, if_neg q, Nat.testBit_lt_two_pow (x := s % 16) (i := i), Bool.xor_false]
    calc s % 16 < 2 ^ 4 := by omega
      _ ≤ 2 ^ i := Nat.pow_le_pow_right (by omega) (by omega)
theorem step4_nib (s : Nat) : step4 s = nib s := by
  have low : ∀ r : Fin 16, step4 r.val = tabT.getD r.val 0 := by decide +kernel
  have e : step4 (16 * (s / 16)) = s / 16 := by
    unfold step4
    rw [show 16 * (s / 16) = 2 * (2 * (2 * (2 * (s / 16)))) by omega]
    simp only [step_even]
  unfold nib
  conv => lhs; rw [split16 s]
  rw [step4_xor, e, low ⟨s % 16, by omega⟩]
theorem tabT_lt (r : Nat) : tabT.getD r 0 < 4294967296 := by
  by_cases h : r < 16
  · have : ∀ r : Fin 16, tabT.getD r.val 0 < 4294967296 := by decide +kernel
    exact this ⟨r, h⟩
  · rw [List.getD_eq_getElem?_getD, List.getElem?_eq_none (by unfold tabT; simp; omega)]; decide
theorem step_lt {s : Nat} (h : s < 4294967296) : step s < 4294967296 := by
  unfold step
  split
  · exact Nat.xor_lt_two_pow (n := 32) (by omega) (by decide)
  · omega
theorem nib_lt {s : Nat} (h : s < 4294967296) : nib s < 4294967296 := Nat.xor_lt_two_pow (n := 32) (by omega) (tabT_lt _)
theorem u8_lt (c : UInt8) : c.toNat < 256 := c.toNat_lt
theorem xor_lt32 {a b : Nat} (ha : a < 4294967296) (hb : b < 4294967296) : a ^^^ b < 4294967296 := Nat.xor_lt_two_pow (n := 32) ha hb
theorem byteD_lt {s c : Nat} (h : s < 4294967296) (hc : c < 4294967296) : byteD s c < 4294967296 := nib_lt (nib_lt (xor_lt32 h hc))
theorem divL_lt : ∀ (l : List UInt8) {s : Nat}, s < 4294967296 → divL s l < 4294967296
  | [], _, h => h
  | c :: l, s, h => divL_lt l (s := byteD s c.toNat) (byteD_lt h (by have := u8_lt c; omega))
theorem sumL_lt (l : List UInt8) : sumL l < 4294967296 := xor_lt32 (divL_lt l (by decide)) (by decide)
theorem divL_app (s : Nat) (a b : List UInt8) : divL s (a ++ b) = divL (divL s a) b := by unfold divL; rw [List.foldl_append]
theorem divL_snoc (s : Nat) (a : List UInt8) (c : UInt8) : divL s (a ++ [c]) = byteD (divL s a) c.toNat := by rw [divL_app]; rfl
/-- byte by byte is bit by bit -/
def step8 (s : Nat) : Nat := step4 (step4 s)
theorem byteD_step (s c : Nat) : byteD s c = step8 (s ^^^ c) := by unfold byteD step8; rw [step4_nib, step4_nib]
theorem step8_xor (a b : Nat) : step8 (a ^^^ b) = step8 a ^^^ step8 b := by unfold step8; simp only [step4_xor]
theorem xor4 (a b c d : Nat) : (a ^^^ b) ^^^ (c ^^^ d) = (a ^^^ c) ^^^ (b ^^^ d) := by
  rw [Nat.xor_assoc, Nat.xor_assoc, ← Nat.xor_assoc b, Nat.xor_comm b c, Nat.xor_assoc]
theorem byteD_xor (s t c d : Nat) : byteD (s ^^^ t) (c ^^^ d) = byteD s c ^^^ byteD t d := by
  rw [byteD_step, byteD_step, byteD_step, ← step8_xor, xor4]
/-- texts of one length, taken together -/
def xorL (a b : List UInt8) : List UInt8 := List.zipWith (· ^^^ ·) a b
theorem divL_xor : ∀ (a b : List UInt8) (s t : Nat), a.length = b.length → divL (s ^^^ t) (xorL a b) = divL s a ^^^ divL t b
  | [], [], _, _, _ => rfl
  | c :: a, d :: b, s, t, h => by
    have ih := divL_xor a b (byteD s c.toNat) (byteD t d.toNat) (by simpa using h)
    show divL (byteD (s ^^^ t) (c ^^^ d).toNat) (xorL a b) = _
    rw [UInt8.toNat_xor, byteD_xor, ih]
    rfl
theorem xorL_len (a b : List UInt8) : (xorL a b).length = min a.length b.length := by unfold xorL; simp
theorem sum_xor {a b c : List UInt8} (h1 : b.length = a.length) (h2 : c.length = a.length) : sumL (xorL (xorL a b) c) = sumL a ^^^ sumL b ^^^ sumL c := by
  have e := divL_xor (xorL a b) c (ones ^^^ ones) ones (by rw [xorL_len]; omega)
  rw [divL_xor a b ones ones (by omega), Nat.xor_self, Nat.zero_xor] at e
  unfold sumL
  rw [e]
  generalize divL ones a = x
  generalize divL ones b = y
  generalize divL ones c = z
  rw [xor4 x ones y ones, Nat.xor_self, Nat.xor_zero, Nat.xor_assoc (x ^^^ y) z ones]
/-- nothing but nothing is divided away -/
theorem step_zero {s : Nat} (h : s < 4294967296) (e : step s = 0) : s = 0 := by
  unfold step at e
  split at e
  · have : s / 2 = pol := by
      have := congrArg (· ^^^ pol) e
      simpa [Nat.xor_assoc] using this
    have hp : pol = 3988292384 := rfl
    omega
  · omega
theorem xor_zero_eq {a b : Nat} (h : a ^^^ b = 0) : a = b := by
  have := congrArg (· ^^^ b) h
  simpa [Nat.xor_assoc] using this
theorem step_inj {a b : Nat} (ha : a < 4294967296) (hb : b < 4294967296) (h : step a = step b) : a = b :=
  xor_zero_eq (step_zero (xor_lt32 ha hb) (by rw [step_xor, h, Nat.xor_self]))
theorem step4_lt {s : Nat} (h : s < 4294967296) : step4 s < 4294967296 := step_lt (step_lt (step_lt (step_lt h)))
theorem step4_inj {a b : Nat} (ha : a < 4294967296) (hb : b < 4294967296) (h : step4 a = step4 b) : a = b :=
  step_inj ha hb (step_inj (step_lt ha) (step_lt hb) (step_inj (step_lt (step_lt ha)) (step_lt (step_lt hb)) (step_inj (step_lt (step_lt (step_lt ha))) (step_lt (step_lt (step_lt hb))) h)))
theorem step8_inj {a b : Nat} (ha : a < 4294967296) (hb : b < 4294967296) (h : step8 a = step8 b) : a = b := step4_inj ha hb (step4_inj (step4_lt ha) (step4_lt hb) h)
theorem xor_cancel {a b c : Nat} (h : a ^^^ c = b ^^^ c) : a = b := by
  have := congrArg (· ^^^ c) h
  simpa [Nat.xor_assoc] using this
theorem xor_cancel' {a b c : Nat} (h : c ^^^ a = c ^^^ b) : a = b := xor_cancel (c := c) (by rw [Nat.xor_comm a, Nat.xor_comm b, h])
theorem byteD_injS {s t c : Nat} (hs : s < 4294967296) (ht : t < 4294967296) (hc : c < 4294967296) (h : byteD s c = byteD t c) : s = t := by
  rw [byteD_step, byteD_step] at h
  exact xor_cancel (step8_inj (xor_lt32 hs hc) (xor_lt32 ht hc) h)
theorem byteD_injC {s c d : Nat} (hs : s < 4294967296) (hc : c < 4294967296) (hd : d < 4294967296) (h : byteD s c = byteD s d) : c = d := by
  rw [byteD_step, byteD_step] at h
  exact xor_cancel' (step8_inj (xor_lt32 hs hc) (xor_lt32 hs hd) h)
theorem divL_inj : ∀ (l : List UInt8) {s t : Nat}, s < 4294967296 → t < 4294967296 → divL s l = divL t l → s = t
  | [], _, _, _, _, h => h
  | c :: l, s, t, hs, ht, h => by
    have hc : c.toNat < 4294967296 := by have := u8_lt c; omega
    exact byteD_injS hs ht hc (divL_inj l (byteD_lt hs hc) (byteD_lt ht hc) h)
/-- one byte turned: another sum -/
theorem sum_turned (a b : List UInt8) {c d : UInt8} (h : c ≠ d) : sumL (a ++ c :: b) ≠ sumL (a ++ d :: b) := by
  intro e
  have e := xor_cancel (c := ones) e
  rw [divL_app, divL_app] at e
  have hc : c.toNat < 4294967296 := by have := u8_lt c; omega
  have hd : d.toNat < 4294967296 := by have := u8_lt d; omega
  have ha := divL_lt a (s := ones) (by decide)
  have e := divL_inj b (byteD_lt ha hc) (byteD_lt ha hd) e
  exact h (UInt8.toNat_inj.1 (byteD_injC ha hc hd e))
theorem sum_set (l : List UInt8) (j : Nat) (d : UInt8) (hj : j < l.length) (h : l[j] ≠ d) : sumL (l.set j d) ≠ sumL l := by
  have e : l = l.take j ++ l[j] :: l.drop (j + 1) := by rw [List.getElem_cons_drop, List.take_append_drop]
  have e2 : l.set j d = l.take j ++ d :: l.drop (j + 1) := by rw [List.set_eq_take_append_cons_drop, if_pos hj]
  rw [e2]
  conv => rhs; rw [e]
  exact sum_turned _ _ (fun q => h q.symm)
end Go.Proofs.YtniphbfoppocfaaDoor.Fr
