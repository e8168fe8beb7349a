/- Plain mathematics of recurrence rules: what is printed is read as itself; parts in any order; a part too many. -/
import Derived.Test.YtkkmhjplfpdhcaaGreatDoorRuText
set_option linter.unusedVariables false
namespace Go.Proofs.YtkkmhjplfpdhcaaGreatDoor.Ru
open Go.Proofs.YtkkmhjplfpdhcaaGreatDoor.Fd

theorem fold_step {g : Ru → Nat × List UInt8 → Ru} {L M : List (Nat × List UInt8)} {R R' : Ru} (h : L.foldl g R = R') : (L ++ M).foldl g R = M.foldl g R' := by rw [List.foldl_append, h]
/-- the parts of a rule's text make the rule -/
theorem fields_fold {r : Ru} (h : mayR r = true) : (fieldsP r).foldl (fun R kv => setF R kv.1 (fieldF r kv.1)) startR = r := by
  have e1 := (endB_of (mayR_of h).2.1).2
  clear h
  obtain ⟨freq, itv, cnt, til, wkst, ends, mon, week, yday, mday, day, hour, minu, sec, pos⟩ := r
  simp only at e1
  unfold fieldsP listP
  rw [fold_step (R' := ⟨freq, 1, 0, 0, 0, false, [], [], [], [], [], [], [], [], []⟩) rfl]
  rw [fold_step (R' := ⟨freq, itv, 0, 0, 0, false, [], [], [], [], [], [], [], [], []⟩) (by split <;> first | (rename_i c; replace c : itv = 1 := c; rw [c]; rfl) | rfl)]
  rw [fold_step (R' := ⟨freq, itv, cnt, 0, 0, false, [], [], [], [], [], [], [], [], []⟩) (by split <;> first | (rename_i c; replace c : cnt = 0 := c; rw [c]; rfl) | rfl)]
  rw [fold_step (R' := ⟨freq, itv, cnt, til, 0, ends, [], [], [], [], [], [], [], [], []⟩) (by cases ends <;> first | rfl | (rw [e1 rfl]; rfl))]
  rw [fold_step (R' := ⟨freq, itv, cnt, til, 0, ends, mon, [], [], [], [], [], [], [], []⟩) (by split <;> first | (rename_i c; replace c : mon = [] := c; rw [c]; rfl) | rfl)]
  rw [fold_step (R' := ⟨freq, itv, cnt, til, 0, ends, mon, week, [], [], [], [], [], [], []⟩) (by split <;> first | (rename_i c; replace c : week = [] := c; rw [c]; rfl) | rfl)]
  rw [fold_step (R' := ⟨freq, itv, cnt, til, 0, ends, mon, week, yday, [], [], [], [], [], []⟩) (by split <;> first | (rename_i c; replace c : yday = [] := c; rw [c]; rfl) | rfl)]
  rw [fold_step (R' := ⟨freq, itv, cnt, til, 0, ends, mon, week, yday, mday, [], [], [], [], []⟩) (by split <;> first | (rename_i c; replace c : mday = [] := c; rw [c]; rfl) | rfl)]
  rw [fold_step (R' := ⟨freq, itv, cnt, til, 0, ends, mon, week, yday, mday, day, [], [], [], []⟩) (by split <;> first | (rename_i c; replace c : day = [] := c; rw [c]; rfl) | rfl)]
  rw [fold_step (R' := ⟨freq, itv, cnt, til, 0, ends, mon, week, yday, mday, day, hour, [], [], []⟩) (by split <;> first | (rename_i c; replace c : hour = [] := c; rw [c]; rfl) | rfl)]
  rw [fold_step (R' := ⟨freq, itv, cnt, til, 0, ends, mon, week, yday, mday, day, hour, minu, [], []⟩) (by split <;> first | (rename_i c; replace c : minu = [] := c; rw [c]; rfl) | rfl)]
  rw [fold_step (R' := ⟨freq, itv, cnt, til, 0, ends, mon, week, yday, mday, day, hour, minu, sec, []⟩) (by split <;> first | (rename_i c; replace c : sec = [] := c; rw [c]; rfl) | rfl)]
  rw [fold_step (R' := ⟨freq, itv, cnt, til, 0, ends, mon, week, yday, mday, day, hour, minu, sec, pos⟩) (by split <;> first | (rename_i c; replace c : pos = [] := c; rw [c]; rfl) | rfl)]
  split <;> first | (rename_i c; replace c : wkst = 0 := c; rw [c]; rfl) | rfl
theorem comma_no59 (l : List Int) : (59 : UInt8) ∉ commaL l := fun h => by
  rcases mem_sep h with h | ⟨p, hp, h⟩
  · exact absurd h (by decide)
  · obtain ⟨n, _, rfl⟩ := List.mem_map.1 hp
    exact itoa_no59 n h
theorem fields_no59 {r : Ru} (h : mayR r = true) : ∀ kv ∈ fieldsP r, (59 : UInt8) ∉ kv.2 := by
  obtain ⟨m1, m2, m3, -, -, -, -⟩ := mayR_of h
  obtain ⟨f1, f2, i1, i2, c1, c2, w1, w2⟩ := of_decide_eq_true m1
  obtain ⟨a9, -, -⟩ := dayB_of (listB_of m3).2.2.2.2.2.2.2.2
  have e1 := (endB_of m2).1
  have hl : ∀ (k : Nat) (l : List Int) (kv : Nat × List UInt8), kv ∈ listP k l → (59 : UInt8) ∉ kv.2 := fun k l kv hkv => by
    unfold listP at hkv
    split at hkv
    · simp at hkv
    · obtain rfl : kv = (k, commaL l) := by simpa using hkv
      exact comma_no59 l
  intro kv hkv
  unfold fieldsP at hkv
  simp only [List.mem_append] at hkv
  rcases hkv with hkv | hkv | hkv | hkv | hkv | hkv | hkv | hkv | hkv | hkv | hkv | hkv | hkv | hkv
  · obtain rfl : kv = (0, freqW r.freq.toNat) := by simpa using hkv
    exact fun g => freq_sign ⟨r.freq.toNat, by omega⟩ 59 g rfl
  · split at hkv
    · simp at hkv
    · obtain rfl : kv = (1, Lib.itoa r.itv) := by simpa using hkv
      exact itoa_no59 _
  · split at hkv
    · simp at hkv
    · obtain rfl : kv = (2, Lib.itoa r.cnt) := by simpa using hkv
      exact itoa_no59 _
  · split at hkv
    · rename_i he
      obtain rfl : kv = (3, St.text r.til) := by simpa using hkv
      exact text_no59 (e1 he).1
    · simp at hkv
  · exact hl _ _ _ hkv
  · exact hl _ _ _ hkv
  · exact hl _ _ _ hkv
  · exact hl _ _ _ hkv
  · split at hkv
    · simp at hkv
    · obtain rfl : kv = (8, sep 44 (r.day.map dayT)) := by simpa using hkv
      intro g
      rcases mem_sep g with g | ⟨p, hp, g⟩
      · exact absurd g (by decide)
      · obtain ⟨d, hd, rfl⟩ := List.mem_map.1 hp
        have := a9 d hd
        exact dayT_no this.2.2.1 this.2.2.2 (.inr rfl) g
  · exact hl _ _ _ hkv
  · exact hl _ _ _ hkv
  · exact hl _ _ _ hkv
  · exact hl _ _ _ hkv
  · split at hkv
    · simp at hkv
    · obtain rfl : kv = (13, wdayW r.wkst.toNat) := by simpa using hkv
      exact fun g => (wday_sign ⟨r.wkst.toNat, by omega⟩ 59 g).2 rfl
theorem parts_no59 {r : Ru} (h : mayR r = true) : ∀ p ∈ (fieldsP r).map partT, (59 : UInt8) ∉ p := fun p hp => by
  obtain ⟨kv, hkv, rfl⟩ := List.mem_map.1 hp
  intro g
  unfold partT at g
  rcases List.mem_append.1 g with g | g
  · exact (name_sign ⟨kv.1, (fields_val h kv hkv).1⟩ 59 g).1 rfl
  · rcases List.mem_cons.1 g with g | g
    · exact absurd g (by decide)
    · exact fields_no59 h kv hkv g
theorem fields_ne (r : Ru) : (fieldsP r).map partT ≠ [] := by unfold fieldsP; simp
theorem text_parts {r : Ru} (h : mayR r = true) : cutAt 59 (ruText r) = (fieldsP r).map partT := cutAt_sep (fields_ne r) (parts_no59 h)
theorem fields_nodup (r : Ru) : ((fieldsP r).map Prod.fst).Nodup := (fields_keys r).imp fun h => Nat.ne_of_lt h
theorem parse_parts {r : Ru} (h : mayR r = true) (ps : List (List UInt8)) : parseL 0 [] startR ((fieldsP r).map partT ++ ps) = parseL ((fieldsP r).map partT).length ((fieldsP r).map Prod.fst).reverse r ps := by
  rw [parseL_go (fun kv => fieldF r kv.1) (fields_val h) (fun _ _ => by simp) (fields_nodup r), fields_fold h]
  simp
/-- what is printed is read as itself -/
theorem parse_text {r : Ru} (h : mayR r = true) (hl : (ruText r).length ≤ 4096) : ruParse (ruText r) = (r, 0, 0) := by
  unfold ruParse
  rw [if_neg (by omega), text_parts h]
  have := parse_parts h []
  rw [List.append_nil] at this
  rw [this]
  show endP r = _
  have f := (of_decide_eq_true (mayR_of h).1).1
  unfold endP
  rw [if_neg (by omega), if_pos h]
/-- what is read may be -/
theorem endP_of {r q : Ru} {a : Int} (h : endP r = (q, a, 0)) : mayR q = true ∧ q = r ∧ a = 0 := by
  unfold endP at h
  split at h
  · injection h with _ h; injection h with _ h; exact absurd h (by decide)
  · split at h
    · rename_i g; injection h with h1 h2; injection h2 with h2 _; exact ⟨h1 ▸ g, h1.symm, h2.symm⟩
    · injection h with _ h; injection h with _ h; exact absurd h (by decide)
theorem parseL_may : ∀ {ps : List (List UInt8)} {i : Nat} {seen : List Nat} {r q : Ru} {a : Int}, parseL i seen r ps = (q, a, 0) → mayR q = true ∧ a = 0
  | [], _, _, _, _, _, h => ⟨(endP_of h).1, (endP_of h).2.2⟩
  | p :: ps, i, seen, r, q, a, h => by
    unfold parseL at h
    split at h
    · injection h with _ h; injection h with _ h; exact absurd h (by decide)
    · split at h
      · injection h with _ h; injection h with _ h; exact absurd h (by decide)
      · exact parseL_may h
theorem ruParse_may {l : List UInt8} {q : Ru} {a : Int} (h : ruParse l = (q, a, 0)) : mayR q = true ∧ a = 0 := by
  unfold ruParse at h
  split at h
  · injection h with _ h; injection h with _ h; exact absurd h (by decide)
  · exact parseL_may h
/-- a part whose name stood ahead, or that is none -/
theorem parse_more {r : Ru} (h : mayR r = true) {p m : List UInt8} (hp : (59 : UInt8) ∉ p) (hl : (ruText r ++ 59 :: (p ++ 59 :: m)).length ≤ 4096) (bad : partOf p = none ∨ ∃ k f, partOf p = some (k, f) ∧ k ∈ (fieldsP r).map Prod.fst) :
    ruParse (ruText r ++ 59 :: (p ++ 59 :: m)) = (zeroR, (((cutAt 59 (ruText r)).length : Nat) : Int), 4) := by
  unfold ruParse
  rw [if_neg (by omega), text_parts h]
  unfold ruText
  rw [cutAt_sep_app (fields_ne r) (parts_no59 h), cutAt_app hp, parse_parts h, parseL]
  rcases bad with hb | ⟨k, f, hb, hk⟩
  · rw [hb]
  · rw [hb]; simp only
    rw [if_pos (by simpa using hk)]
end Go.Proofs.YtkkmhjplfpdhcaaGreatDoor.Ru
