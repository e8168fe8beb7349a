/- Plain mathematics of the statements of chapter 7. -/
import Derived.Test.YtnfcchimkfnmkaaGreatDoorMbMath
set_option linter.unusedVariables false
namespace Go.Proofs.YtnfcchimkfnmkaaGreatDoor.Mb
open Cv St Ru Dd

-- a rule with another Count, another end
theorem raw_same {r q : Ru} (hf : q.freq = r.freq) (hi : q.itv = r.itv) (hw : q.wkst = r.wkst) (h6 : q.mon = r.mon) (h7 : q.week = r.week) (h8 : q.yday = r.yday) (h9 : q.mday = r.mday) (h10 : q.day = r.day) (h11 : q.hour = r.hour) (h12 : q.minu = r.minu) (h13 : q.sec = r.sec)
    (mr : mayR r = true) (mq : mayR q = true) (start t : Int) : rawB q start t = rawB r start t ∧ inPer q start t = inPer r start t ∧ allR q start t = allR r start t ∧ (∀ n, fitsB q start n = fitsB r start n) := by
  obtain ⟨freq, itv, cnt, til, wkst, ends, mon, week, yday, mday, day, hour, minu, sec, pos⟩ := r
  obtain ⟨freq', itv', cnt', til', wkst', ends', mon', week', yday', mday', day', hour', minu', sec', pos'⟩ := q
  dsimp only at hf hi hw h6 h7 h8 h9 h10 h11 h12 h13
  subst hf hi hw h6 h7 h8 h9 h10 h11 h12 h13
  have f : ∀ n, fitsB ⟨freq', itv', cnt', til', wkst', ends', mon', week', yday', mday', day', hour', minu', sec', pos'⟩ start n = fitsB ⟨freq', itv', cnt, til, wkst', ends, mon', week', yday', mday', day', hour', minu', sec', pos⟩ start n := fun n => by
    unfold fitsB; rw [mr, mq]; rfl
  have p : inPer ⟨freq', itv', cnt', til', wkst', ends', mon', week', yday', mday', day', hour', minu', sec', pos'⟩ start t = inPer ⟨freq', itv', cnt, til, wkst', ends, mon', week', yday', mday', day', hour', minu', sec', pos⟩ start t := by
    unfold inPer; rw [mr, mq]; rfl
  refine ⟨?_, p, ?_, f⟩
  · unfold rawB; rw [p, f]; rfl
  · unfold allR dysR
    have d : daysR ⟨freq', itv', cnt', til', wkst', ends', mon', week', yday', mday', day', hour', minu', sec', pos'⟩ t = daysR ⟨freq', itv', cnt, til, wkst', ends, mon', week', yday', mday', day', hour', minu', sec', pos⟩ t := by
      unfold daysR; rw [mr, mq]; rfl
    rw [d, show (fun n => fitsB ⟨freq', itv', cnt', til', wkst', ends', mon', week', yday', mday', day', hour', minu', sec', pos'⟩ start n) = (fun n => fitsB ⟨freq', itv', cnt, til, wkst', ends, mon', week', yday', mday', day', hour', minu', sec', pos⟩ start n) from funext f]
    rfl
theorem setR_eq {r q : Ru} {start t : Int} (mr : mayR r = true) (mq : mayR q = true) (hp : inPer q start t = inPer r start t) (ha : allR q start t = allR r start t) (most : Int) : setR q start t most = setR r start t most := by
  have so : setOk q start t most = setOk r start t most := by unfold setOk; rw [mr, mq]
  rcases setR_cases r start t most with ⟨a, e⟩ | ⟨a, b, e⟩ | ⟨a, b, c, e⟩ | ⟨a, b, c, e⟩
  · rw [e, setR_0 (so.trans a)]
  · rw [e, setR_1 (so.trans a) (hp.trans b)]
  · rw [e, setR_2 (so.trans a) (hp.trans b) (by rw [← all_len2, ha]; exact c)]
  · rw [e, setR_3 (so.trans a) (hp.trans b) (by rw [← all_len2, ha]; omega), ha]
theorem place_same {r q : Ru} {start t : Int} (hs : setR q start t 100000 = setR r start t 100000) (hpos : q.pos = r.pos) : placeB q start t = placeB r start t := by
  unfold placeB; rw [hs, hpos]
-- MemberLess
theorem less_count {r : Ru} {start t c : Int} (mr : mayR r = true) (mq : mayR { r with cnt := c } = true) : hasM { r with cnt := c } start t = hasM r start t := by
  obtain ⟨a, b, d, e⟩ := raw_same (r := r) (q := { r with cnt := c }) rfl rfl rfl rfl rfl rfl rfl rfl rfl rfl rfl mr mq start t
  have s := setR_eq mr mq b d 100000
  unfold hasM
  rw [a, place_same s rfl]
def inM (r : Ru) (start t : Int) : Bool := rawB r start t && decide (start ≤ t) && (!r.ends || decide (t ≤ r.til))
theorem has_in {r : Ru} {start t : Int} (h : hasM r start t = true) : inM r start t = true := by
  unfold hasM at h
  unfold inM
  simp only [Bool.and_eq_true] at h ⊢
  exact ⟨⟨h.1.2, h.1.1.1⟩, h.1.1.2⟩
theorem has_plain {r : Ru} {start t : Int} (h : r.pos = []) : hasM r start t = inM r start t := by
  unfold hasM inM
  rw [h]
  simp only [decide_true, Bool.true_or, Bool.and_true]
  rw [Bool.and_comm, Bool.and_assoc]
-- MemberEnds
def freeR (r : Ru) : Ru := { r with cnt := 0, ends := false, til := 0 }
def endR (r : Ru) (u : Int) : Ru := { r with cnt := 0, ends := true, til := u }
theorem end_may {r : Ru} {u : Int} (h : mayR (endR r u) = true) : mayR (freeR r) = true := by
  obtain ⟨a, b, c, d, e, f, g⟩ := mayR_of h
  unfold mayR
  simp only [Bool.and_eq_true]
  exact ⟨⟨⟨⟨⟨⟨a, by unfold endB freeR; simp⟩, c⟩, d⟩, e⟩, f⟩, g⟩
theorem ends_has {r : Ru} {u start t : Int} (h : mayR (endR r u) = true) : hasM (endR r u) start t = (hasM (freeR r) start t && decide (t ≤ u)) := by
  obtain ⟨a, b, d, e⟩ := raw_same (r := freeR r) (q := endR r u) rfl rfl rfl rfl rfl rfl rfl rfl rfl rfl rfl (end_may h) h start t
  have s := setR_eq (end_may h) h b d 100000
  unfold hasM
  rw [a, place_same s rfl]
  show (decide (start ≤ t) && (!true || decide (t ≤ u)) && _ && (decide (r.pos = []) || _)) = (decide (start ≤ t) && (!false || _) && _ && (decide (r.pos = []) || _) && _)
  simp only [Bool.not_true, Bool.false_or, Bool.not_false, Bool.true_or, Bool.and_true]
  generalize decide (start ≤ t) = x1
  generalize decide (t ≤ u) = x2
  generalize rawB (freeR r) start t = x3
  generalize (decide (r.pos = []) || placeB (freeR r) start t) = x4
  cases x1 <;> cases x2 <;> cases x3 <;> cases x4 <;> rfl
-- MemberBounds
theorem setR_ok {r : Ru} {start t most : Int} (h : (setR r start t most).2 = 0) : mayR r = true ∧ St.may start = true ∧ St.may t = true ∧ ((inPer r start t = false ∧ (setR r start t most).1 = []) ∨ (inPer r start t = true ∧ (setR r start t most).1 = allR r start t)) := by
  have so : setOk r start t most = true → mayR r = true ∧ St.may start = true ∧ St.may t = true := fun q => by
    unfold setOk at q; simp only [Bool.and_eq_true] at q; exact ⟨q.1.1.1, q.1.1.2, q.1.2⟩
  rcases setR_cases r start t most with ⟨a, e⟩ | ⟨a, b, e⟩ | ⟨a, b, c, e⟩ | ⟨a, b, c, e⟩
  · rw [e] at h; simp at h
  · exact ⟨(so a).1, (so a).2.1, (so a).2.2, .inl ⟨b, by rw [e]⟩⟩
  · rw [e] at h; simp at h
  · exact ⟨(so a).1, (so a).2.1, (so a).2.2, .inr ⟨b, by rw [e]⟩⟩
theorem setR_no {r : Ru} {start t most : Int} (h : (setR r start t most).2 ≠ 0) : (setR r start t most).1 = [] := by
  rcases setR_cases r start t most with ⟨a, e⟩ | ⟨a, b, e⟩ | ⟨a, b, c, e⟩ | ⟨a, b, c, e⟩ <;> rw [e] at h ⊢
  exact absurd rfl h
theorem setR_few {r : Ru} {start t most : Int} (h0 : 0 ≤ most) : ((setR r start t most).1.length : Int) ≤ most := by
  rcases setR_cases r start t most with ⟨a, e⟩ | ⟨a, b, e⟩ | ⟨a, b, c, e⟩ | ⟨a, b, c, e⟩ <;> rw [e]
  · simpa using h0
  · simpa using h0
  · simpa using h0
  · exact c
/-- what a set tells of each of its moments -/
structure OneOk (r : Ru) (start t x : Int) : Prop where
  raw : rawB r start x = true
  per : perR r start x = (per r t - per r start, true)
theorem ones_of {r : Ru} {start t most x : Int} (h : (setR r start t most).2 = 0) (hx : x ∈ (setR r start t most).1) : OneOk r start t x := by
  obtain ⟨m1, m2, m3, c⟩ := setR_ok h
  rcases c with ⟨a, e⟩ | ⟨a, e⟩
  · rw [e] at hx; cases hx
  · rw [e] at hx
    obtain ⟨p, q⟩ := (mem_allR a).1 hx
    have m := inPer_may (raw_may p)
    refine ⟨p, ?_⟩
    unfold perR
    rw [if_pos (by rw [m1, m2, m.2.2.1]; rfl), q]
theorem ones_rise {r : Ru} {start t most : Int} : (setR r start t most).1.Pairwise (· < ·) := by
  rcases setR_cases r start t most with ⟨a, e⟩ | ⟨a, b, e⟩ | ⟨a, b, c, e⟩ | ⟨a, b, c, e⟩ <;> rw [e]
  · exact List.Pairwise.nil
  · exact List.Pairwise.nil
  · exact List.Pairwise.nil
  · exact all_rise _ _ (inPer_may b).1
theorem rise_ext : ∀ {l m : List Int}, l.Pairwise (· < ·) → m.Pairwise (· < ·) → (∀ x, x ∈ l ↔ x ∈ m) → l = m
  | [], [], _, _, _ => rfl
  | [], y :: m, _, _, h => by have := (h y).2 (by simp); cases this
  | x :: l, [], _, _, h => by have := (h x).1 (by simp); cases this
  | x :: l, y :: m, a, b, h => by
    obtain ⟨a1, a2⟩ := List.pairwise_cons.1 a
    obtain ⟨b1, b2⟩ := List.pairwise_cons.1 b
    have e : x = y := by
      have u := (h x).1 (by simp)
      have v := (h y).2 (by simp)
      rcases List.mem_cons.1 u with u | u
      · exact u
      · rcases List.mem_cons.1 v with v | v
        · exact v.symm
        · have := a1 y v; have := b1 x u; omega
    subst e
    have ih := rise_ext a2 b2 fun z => by
      constructor
      · intro hz
        rcases List.mem_cons.1 ((h z).1 (List.mem_cons_of_mem _ hz)) with q | q
        · have := a1 z hz; omega
        · exact q
      · intro hz
        rcases List.mem_cons.1 ((h z).2 (List.mem_cons_of_mem _ hz)) with q | q
        · have := b1 z hz; omega
        · exact q
    rw [ih]
def dailyR (by_ : Int) : Ru := ⟨4, by_, 0, 0, 0, false, [], [], [], [], [], [], [], [], []⟩
theorem daily_may {b : Int} (h1 : 1 ≤ b) (h2 : b ≤ 1000) : mayR (dailyR b) = true := by
  have e : ∀ lo hi z, inB [] lo hi z = true := fun lo hi z => by unfold inB riseB; simp
  have d : dayB [] = true := by unfold dayB; simp
  unfold mayR scalB endB listB besideB nthB posB oftenB dailyR
  simp only [e, d]
  simp [numbB]
  omega
theorem daily_raw {b start t : Int} (h1 : 1 ≤ b) (h2 : b ≤ 1000) (hs : St.may start = true) (ht : St.may t = true) :
    rawB (dailyR b) start t = (decide ((t / 86400 - start / 86400) % b = 0) && decide (t % 86400 = start % 86400)) := by
  have f : fitsB (dailyR b) start (t / 86400) = true := by
    unfold fitsB
    rw [daily_may h1 h2, hs, may_isday ht]
    unfold fitB weekB Dd.placeB dayFB startB dailyR
    simp [hasB, dhasB]
  have p : ∀ u, per (dailyR b) u = u / 86400 := fun u => by unfold per perD dailyR; simp
  unfold rawB inPer
  rw [daily_may h1 h2, hs, ht, f, p, p]
  have th : timH (dailyR b) start = [start % 86400 / 3600] := rfl
  have tm : timM (dailyR b) start = [start % 86400 % 3600 / 60] := rfl
  have ts : timS (dailyR b) start = [start % 86400 % 60] := rfl
  rw [th, tm, ts]
  unfold ownH ownM ownS
  simp only [List.mem_singleton, Bool.true_and, Bool.and_true, Bool.and_assoc]
  congr 1
  rw [← Bool.decide_and, ← Bool.decide_and]
  refine decide_eq_decide.2 ?_
  omega
theorem daily_has {b start t : Int} : hasM (dailyR b) start t = (decide (start ≤ t) && rawB (dailyR b) start t) := by
  unfold hasM dailyR
  simp
end Go.Proofs.YtnfcchimkfnmkaaGreatDoor.Mb
