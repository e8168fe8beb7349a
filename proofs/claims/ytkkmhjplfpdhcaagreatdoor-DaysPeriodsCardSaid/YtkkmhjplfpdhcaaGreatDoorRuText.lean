/- Plain mathematics of recurrence rules (chapter 5): a rule's text, a text's rule, there and back. -/
import Derived.Test.YtkkmhjplfpdhcaaGreatDoorRuMath
import Derived.Test.YtkkmhjplfpdhcaaGreatDoorStMath2
import Derived.Test.YtkkmhjplfpdhcaaGreatDoorFdMath
set_option linter.unusedVariables false
namespace Go.Proofs.YtkkmhjplfpdhcaaGreatDoor.Ru
open Go.Proofs.YtkkmhjplfpdhcaaGreatDoor.Fd

/-- a part's value, as it is read -/
inductive Fl where
  | num (n : Int)
  | list (l : List Int)
  | days (l : List Dy)
def setF (r : Ru) : Nat → Fl → Ru
  | 0, .num n => { r with freq := n }
  | 1, .num n => { r with itv := n }
  | 2, .num n => { r with cnt := n }
  | 3, .num n => { r with til := n, ends := true }
  | 4, .list l => { r with mon := l }
  | 5, .list l => { r with week := l }
  | 6, .list l => { r with yday := l }
  | 7, .list l => { r with mday := l }
  | 8, .days l => { r with day := l }
  | 9, .list l => { r with hour := l }
  | 10, .list l => { r with minu := l }
  | 11, .list l => { r with sec := l }
  | 12, .list l => { r with pos := l }
  | 13, .num n => { r with wkst := n }
  | _, _ => r
def allSome {α β : Type} (f : α → Option β) : List α → Option (List β)
  | [] => some []
  | x :: l => match f x, allSome f l with | some y, some m => some (y :: m) | _, _ => none
theorem allSome_map {α β γ : Type} {f : β → Option γ} {g : α → β} {h : α → γ} {l : List α} (e : ∀ x ∈ l, f (g x) = some (h x)) : allSome f (l.map g) = some (l.map h) := by
  induction l with
  | nil => rfl
  | cons x l ih =>
    rw [List.map_cons, allSome, e x (by simp), ih fun y hy => e y (List.mem_cons_of_mem _ hy)]; rfl
theorem allSome_len {α β : Type} {f : α → Option β} : ∀ {l : List α} {m : List β}, allSome f l = some m → m.length = l.length
  | [], m, h => by injection h with h; rw [← h]; rfl
  | x :: l, m, h => by
    unfold allSome at h
    split at h
    · rename_i h1 h2
      injection h with h
      rw [← h, List.length_cons, List.length_cons, allSome_len h2]
    · cases h
/-- numbers with ',' between, told rising, each once -/
noncomputable def numsOf (v : List UInt8) : Option (List Int) := if 60 < (cutAt 44 v).length then none else (allSome numOf (cutAt 44 v)).map (sortU iltB)
/-- a day: its weekday's word, a number ahead that is not 0 -/
noncomputable def dayOf (z : List UInt8) : Option Dy :=
  if z.length < 2 then none else
    match wdayOf (z.drop (z.length - 2)) with
    | none => none
    | some w => if z.length = 2 then some ⟨0, w⟩ else match numOf (z.take (z.length - 2)) with | none => none | some n => if n = 0 then none else some ⟨n, w⟩
noncomputable def daysOf (v : List UInt8) : Option (List Dy) := if 60 < (cutAt 44 v).length then none else (allSome dayOf (cutAt 44 v)).map (sortU dltB)
def tilOf (v : List UInt8) : Option Int := if (St.parse v).2 = 0 then some (St.parse v).1 else none
noncomputable def valOf : Nat → List UInt8 → Option Fl
  | 0, v => (freqOf v).map fun k => .num k
  | 1, v => (numOf v).map .num
  | 2, v => (numOf v).map .num
  | 3, v => (tilOf v).map .num
  | 8, v => (daysOf v).map .days
  | 13, v => (wdayOf v).map fun k => .num k
  | _, v => (numsOf v).map .list
theorem valOf_0 (v : List UInt8) : valOf 0 v = (freqOf v).map fun k => Fl.num (k : Int) := by rw [valOf]
theorem valOf_1 (v : List UInt8) : valOf 1 v = (numOf v).map Fl.num := by rw [valOf]
theorem valOf_2 (v : List UInt8) : valOf 2 v = (numOf v).map Fl.num := by rw [valOf]
theorem valOf_3 (v : List UInt8) : valOf 3 v = (tilOf v).map Fl.num := by rw [valOf]
theorem valOf_8 (v : List UInt8) : valOf 8 v = (daysOf v).map Fl.days := by rw [valOf]
theorem valOf_13 (v : List UInt8) : valOf 13 v = (wdayOf v).map fun k => Fl.num (k : Int) := by rw [valOf]
noncomputable def partOf (p : List UInt8) : Option (Nat × Fl) :=
  if (61 : UInt8) ∈ p then match keyOf (bef1 61 p) with | none => none | some k => (valOf k (aft1 61 p)).map fun f => (k, f) else none
def zeroR : Ru := ⟨0, 0, 0, 0, 0, false, [], [], [], [], [], [], [], [], []⟩
def startR : Ru := { zeroR with itv := 1 }
def endP (r : Ru) : Ru × Int × Int := if r.freq = 0 then (zeroR, 0, 7) else if mayR r = true then (r, 0, 0) else (zeroR, 0, 1)
noncomputable def parseL : Nat → List Nat → Ru → List (List UInt8) → Ru × Int × Int
  | _, _, r, [] => endP r
  | i, seen, r, p :: ps => match partOf p with | none => (zeroR, i, 4) | some (k, f) => if k ∈ seen then (zeroR, i, 4) else parseL (i + 1) (k :: seen) (setF r k f) ps
/-- what Parse answers -/
noncomputable def ruParse (l : List UInt8) : Ru × Int × Int := if 4096 < l.length then (zeroR, 0, 3) else parseL 0 [] startR (cutAt 59 l)
-- the text
def commaL (l : List Int) : List UInt8 := sep 44 (l.map Lib.itoa)
def dayT (d : Dy) : List UInt8 := (if d.n = 0 then [] else Lib.itoa d.n) ++ wdayW d.w.toNat
def listP (k : Nat) (l : List Int) : List (Nat × List UInt8) := if l = [] then [] else [(k, commaL l)]
def fieldsP (r : Ru) : List (Nat × List UInt8) :=
  [(0, freqW r.freq.toNat)] ++ ((if r.itv = 1 then [] else [(1, Lib.itoa r.itv)]) ++ ((if r.cnt = 0 then [] else [(2, Lib.itoa r.cnt)]) ++ ((if r.ends then [(3, St.text r.til)] else []) ++ (listP 4 r.mon ++ (listP 5 r.week ++ (listP 6 r.yday ++ (listP 7 r.mday ++
    ((if r.day = [] then [] else [(8, sep 44 (r.day.map dayT))]) ++ (listP 9 r.hour ++ (listP 10 r.minu ++ (listP 11 r.sec ++ (listP 12 r.pos ++ (if r.wkst = 0 then [] else [(13, wdayW r.wkst.toNat)])))))))))))))
def partT (kv : Nat × List UInt8) : List UInt8 := nameK kv.1 ++ 61 :: kv.2
/-- what Print answers of a rule that may be -/
def ruText (r : Ru) : List UInt8 := sep 59 ((fieldsP r).map partT)
-- reading a part back
theorem partOf_T {k : Nat} (hk : k < 14) {v : List UInt8} {f : Fl} (h : valOf k v = some f) : partOf (partT (k, v)) = some (k, f) := by
  have hn : (61 : UInt8) ∉ nameK k := by
    have : ∀ k : Fin 14, (61 : UInt8) ∉ nameK k.val := by decide
    exact this ⟨k, hk⟩
  have b := bef1_app (r := v) hn
  unfold partOf partT
  rw [if_pos (by simp), b.1, b.2]
  rw [show keyOf (nameK k) = some k from keyOf_name ⟨k, hk⟩]
  simp [h]
theorem parseL_go {ps : List (List UInt8)} : ∀ {kvs : List (Nat × List UInt8)} {i : Nat} {seen : List Nat} {r : Ru} (fs : Nat × List UInt8 → Fl), (∀ kv ∈ kvs, kv.1 < 14 ∧ valOf kv.1 kv.2 = some (fs kv)) → (∀ kv ∈ kvs, kv.1 ∉ seen) → (kvs.map Prod.fst).Nodup →
    parseL i seen r (kvs.map partT ++ ps) = parseL (i + kvs.length) ((kvs.map Prod.fst).reverse ++ seen) (kvs.foldl (fun r kv => setF r kv.1 (fs kv)) r) ps
  | [], i, seen, r, fs, _, _, _ => rfl
  | kv :: kvs, i, seen, r, fs, h, hs, hn => by
    obtain ⟨h1, h2⟩ := h kv (by simp)
    rw [List.map_cons, List.nodup_cons] at hn
    rw [List.map_cons, List.cons_append, parseL, partOf_T h1 h2]
    simp only
    rw [if_neg (hs kv (by simp)), parseL_go fs (fun x hx => h x (List.mem_cons_of_mem _ hx)) (fun x hx => by
      simp only [List.mem_cons, not_or]
      refine ⟨fun e => hn.1 (e ▸ List.mem_map_of_mem hx), hs x (List.mem_cons_of_mem _ hx)⟩) hn.2]
    simp [Nat.add_comm 1, Nat.add_assoc]
-- the parts of a rule's text, read back
def fieldF (r : Ru) : Nat → Fl
  | 0 => .num r.freq
  | 1 => .num r.itv
  | 2 => .num r.cnt
  | 3 => .num r.til
  | 4 => .list r.mon
  | 5 => .list r.week
  | 6 => .list r.yday
  | 7 => .list r.mday
  | 8 => .days r.day
  | 9 => .list r.hour
  | 10 => .list r.minu
  | 11 => .list r.sec
  | 12 => .list r.pos
  | _ => .num r.wkst
theorem numOf_itoa {n : Int} (h1 : -999999999 ≤ n) (h2 : n ≤ 999999999) : numOf (Lib.itoa n) = some n := numOf_of ⟨rfl, h1, h2⟩
theorem inB_of {l : List Int} {lo hi : Int} {z : Bool} (h : inB l lo hi z = true) : (∀ x ∈ l, lo ≤ x ∧ x ≤ hi ∧ (x ≠ 0 ∨ z = true)) ∧ l.length ≤ 60 ∧ l.Pairwise (· < ·) := by
  unfold inB at h
  simp only [Bool.and_eq_true] at h
  exact ⟨of_decide_eq_true h.1.1, of_decide_eq_true h.1.2, of_decide_eq_true h.2⟩
theorem dayB_of {l : List Dy} (h : dayB l = true) : (∀ x ∈ l, -53 ≤ x.n ∧ x.n ≤ 53 ∧ 0 ≤ x.w ∧ x.w ≤ 6) ∧ l.length ≤ 60 ∧ l.Pairwise dlt := by
  unfold dayB at h
  simp only [Bool.and_eq_true] at h
  exact ⟨of_decide_eq_true h.1.1, of_decide_eq_true h.1.2, of_decide_eq_true h.2⟩
theorem itoa_no44 (n : Int) : (44 : UInt8) ∉ Lib.itoa n := itoa_no (by unfold isD; decide) (by decide)
theorem itoa_no59 (n : Int) : (59 : UInt8) ∉ Lib.itoa n := itoa_no (by unfold isD; decide) (by decide)
theorem numsOf_comma {l : List Int} (h0 : l ≠ []) (hl : l.length ≤ 60) (hb : ∀ x ∈ l, -999999999 ≤ x ∧ x ≤ 999999999) : numsOf (commaL l) = some (sortU iltB l) := by
  unfold numsOf commaL
  have hc : cutAt 44 (sep 44 (l.map Lib.itoa)) = l.map Lib.itoa := cutAt_sep (by simpa using h0) (fun p hp => by
    obtain ⟨n, _, rfl⟩ := List.mem_map.1 hp; exact itoa_no44 n)
  rw [hc, if_neg (by rw [List.length_map]; omega), allSome_map (f := numOf) (g := Lib.itoa) (h := id) fun x hx => numOf_itoa (hb x hx).1 (hb x hx).2]
  simp
theorem rise_lt {l : List Int} (h : l.Pairwise (· < ·)) : l.Pairwise fun a b => iltB a b = true := h.imp fun g => decide_eq_true g
theorem rise_dlt {l : List Dy} (h : l.Pairwise dlt) : l.Pairwise fun a b => dltB a b = true := h.imp fun g => decide_eq_true g
theorem numsOf_in {l : List Int} {lo hi : Int} {z : Bool} (h : inB l lo hi z = true) (h0 : l ≠ []) (h1 : -999999999 ≤ lo) (h2 : hi ≤ 999999999) : numsOf (commaL l) = some l := by
  obtain ⟨a, b, c⟩ := inB_of h
  rw [numsOf_comma h0 b fun x hx => by have := a x hx; omega, sortU_id (rise_lt c)]
theorem wday_len : ∀ k : Fin 7, (wdayW k.val).length = 2 := by decide
theorem wday_sign : ∀ k : Fin 7, ∀ c ∈ wdayW k.val, c ≠ 44 ∧ c ≠ 59 := by decide
theorem freq_sign : ∀ k : Fin 8, ∀ c ∈ freqW k.val, c ≠ 59 := by decide
theorem name_sign : ∀ k : Fin 14, ∀ c ∈ nameK k.val, c ≠ 59 ∧ c ≠ 61 := by decide
theorem dayOf_T {d : Dy} (h1 : -53 ≤ d.n) (h2 : d.n ≤ 53) (h3 : 0 ≤ d.w) (h4 : d.w ≤ 6) : dayOf (dayT d) = some d := by
  have hk : d.w.toNat < 7 := by omega
  have wl : (wdayW d.w.toNat).length = 2 := wday_len ⟨d.w.toNat, hk⟩
  have ww : wdayOf (wdayW d.w.toNat) = some d.w.toNat := wdayOf_word ⟨d.w.toNat, hk⟩
  have hw : ((d.w.toNat : Nat) : Int) = d.w := by omega
  unfold dayT dayOf
  by_cases h0 : d.n = 0
  · rw [if_pos h0]
    simp only [List.nil_append, wl, Nat.sub_self, List.drop_zero, ww]
    simp only [if_neg (show ¬ 2 < 2 by omega), if_true, hw]
    cases d; simp only at h0 ⊢; rw [h0]
  · rw [if_neg h0]
    have il : 0 < (Lib.itoa d.n).length := List.length_pos_iff.2 (itoa_ne _)
    have e : (Lib.itoa d.n ++ wdayW d.w.toNat).length - 2 = (Lib.itoa d.n).length := by rw [List.length_append, wl]; omega
    rw [if_neg (by rw [List.length_append, wl]; omega), e, List.drop_left, ww]
    simp only
    rw [if_neg (by rw [List.length_append, wl]; omega), List.take_left, numOf_itoa (by omega) (by omega)]
    simp only
    rw [if_neg h0, hw]
theorem dayT_no {d : Dy} (h3 : 0 ≤ d.w) (h4 : d.w ≤ 6) {c : UInt8} (hc : c = 44 ∨ c = 59) : c ∉ dayT d := by
  have hk : d.w.toNat < 7 := by omega
  unfold dayT
  intro h
  rcases List.mem_append.1 h with h | h
  · split at h
    · simp at h
    · rcases hc with rfl | rfl
      · exact itoa_no44 _ h
      · exact itoa_no59 _ h
  · have := wday_sign ⟨d.w.toNat, hk⟩ c h
    rcases hc with rfl | rfl
    · exact this.1 rfl
    · exact this.2 rfl
theorem daysOf_in {l : List Dy} (h : dayB l = true) (h0 : l ≠ []) : daysOf (sep 44 (l.map dayT)) = some l := by
  obtain ⟨a, b, c⟩ := dayB_of h
  unfold daysOf
  have hc : cutAt 44 (sep 44 (l.map dayT)) = l.map dayT := cutAt_sep (by simpa using h0) (fun p hp => by
    obtain ⟨d, hd, rfl⟩ := List.mem_map.1 hp
    have := a d hd
    exact dayT_no this.2.2.1 this.2.2.2 (.inl rfl))
  rw [hc, if_neg (by rw [List.length_map]; omega), allSome_map (f := dayOf) (g := dayT) (h := id) fun x hx => by have := a x hx; exact dayOf_T this.1 this.2.1 this.2.2.1 this.2.2.2]
  simp [sortU_id (rise_dlt c)]
theorem tilOf_text {t : Int} (h : mayT t = true) : tilOf (St.text t) = some t := by
  unfold tilOf; rw [St.parse_text h]; rfl
/-- a moment's text has digits and 'T' alone -/
theorem text_bytes {t : Int} (h : mayT t = true) {c : UInt8} (hc : c ∈ St.text t) : St.isd c = true ∨ c = 84 := by
  have hp := St.parse_text h
  unfold St.parse at hp
  split at hp
  · simp at hp
  · rename_i g1
    split at hp
    · simp at hp
    · rename_i g2
      simp only [not_or] at g2
      obtain ⟨a, b, d, e⟩ := g2
      obtain ⟨j, hj, rfl⟩ := List.getElem_of_mem hc
      by_cases j8 : j < 8
      · left
        have := St.digs_at (l := (St.text t).take 8) (by simpa using d) (k := j) (by rw [List.length_take]; omega)
        simpa using this
      · by_cases e8 : j = 8
        · right
          subst e8
          rw [List.getD_eq_getElem?_getD, List.getElem?_eq_getElem hj] at b
          exact UInt8.toNat_inj.1 (by simpa using b)
        · left
          have := St.digs_at (l := (St.text t).drop 9) (by simpa using e) (k := j - 9) (by rw [List.length_drop]; omega)
          rw [List.getElem_drop] at this
          have e9 : 9 + (j - 9) = j := by omega
          simpa [e9] using this
theorem text_no59 {t : Int} (h : mayT t = true) : (59 : UInt8) ∉ St.text t := fun hc => by
  rcases text_bytes h hc with g | g
  · have := of_decide_eq_true g; exact absurd this.2 (by decide)
  · exact absurd g (by decide)
theorem listB_of {r : Ru} (h : listB r = true) : inB r.mon 1 12 true = true ∧ inB r.week (-53) 53 false = true ∧ inB r.yday (-366) 366 false = true ∧ inB r.mday (-31) 31 false = true ∧ inB r.pos (-366) 366 false = true ∧ inB r.hour 0 23 true = true ∧ inB r.minu 0 59 true = true ∧ inB r.sec 0 59 true = true ∧ dayB r.day = true := by
  unfold listB at h; simp only [Bool.and_eq_true] at h; simp only [h, and_self]
theorem endB_of {r : Ru} (h : endB r = true) : (r.ends = true → mayT r.til = true ∧ r.cnt ≤ 0) ∧ (r.ends = false → r.til = 0) := by
  unfold endB at h
  cases e : r.ends
  · rw [e] at h; exact ⟨(fun g => by cases g), fun _ => by simpa using h⟩
  · rw [e, if_pos rfl, Bool.and_eq_true] at h; exact ⟨fun _ => ⟨h.2, of_decide_eq_true h.1⟩, (fun g => by cases g)⟩
theorem listP_val {k : Nat} {l : List Int} {kv : Nat × List UInt8} {lo hi : Int} {z : Bool} (hin : inB l lo hi z = true) (h1 : -999999999 ≤ lo) (h2 : hi ≤ 999999999) (hk : ∀ v, valOf k v = (numsOf v).map .list) (h : kv ∈ listP k l) : kv.1 = k ∧ valOf k kv.2 = some (.list l) := by
  unfold listP at h
  split at h
  · simp at h
  · rename_i h0
    obtain rfl : kv = (k, commaL l) := by simpa using h
    exact ⟨rfl, by rw [hk, numsOf_in hin h0 h1 h2]; rfl⟩
theorem fields_val {r : Ru} (h : mayR r = true) : ∀ kv ∈ fieldsP r, kv.1 < 14 ∧ valOf kv.1 kv.2 = some (fieldF r kv.1) := by
  obtain ⟨m1, m2, m3, -, -, -, -⟩ := mayR_of h
  obtain ⟨f1, f2, i1, i2, c1, c2, w1, w2⟩ := of_decide_eq_true m1
  obtain ⟨l1, l2, l3, l4, l5, l6, l7, l8, l9⟩ := listB_of m3
  have e1 := (endB_of m2).1
  intro kv hkv
  unfold fieldsP at hkv
  simp only [List.mem_append] at hkv
  rcases hkv with hkv | hkv | hkv | hkv | hkv | hkv | hkv | hkv | hkv | hkv | hkv | hkv | hkv | hkv
  · obtain rfl : kv = (0, freqW r.freq.toNat) := by simpa using hkv
    refine ⟨(by decide : (0 : Nat) < 14), ?_⟩
    rw [valOf_0, freqOf_word ⟨r.freq.toNat, by omega⟩ (by show 1 ≤ r.freq.toNat; omega)]
    show some (Fl.num ((r.freq.toNat : Nat) : Int)) = some (Fl.num r.freq)
    rw [show ((r.freq.toNat : Nat) : Int) = r.freq from by omega]
  · split at hkv
    · simp at hkv
    · obtain rfl : kv = (1, Lib.itoa r.itv) := by simpa using hkv
      exact ⟨(by decide : (1 : Nat) < 14), by rw [valOf_1, numOf_itoa (by omega) (by omega)]; rfl⟩
  · split at hkv
    · simp at hkv
    · obtain rfl : kv = (2, Lib.itoa r.cnt) := by simpa using hkv
      exact ⟨(by decide : (2 : Nat) < 14), by rw [valOf_2, numOf_itoa (by omega) (by omega)]; rfl⟩
  · split at hkv
    · rename_i he
      obtain rfl : kv = (3, St.text r.til) := by simpa using hkv
      exact ⟨(by decide : (3 : Nat) < 14), by rw [valOf_3, tilOf_text (e1 he).1]; rfl⟩
    · simp at hkv
  · obtain ⟨a, b⟩ := listP_val l1 (by decide) (by decide) (fun _ => rfl) hkv; rw [a]; exact ⟨by decide, b⟩
  · obtain ⟨a, b⟩ := listP_val l2 (by decide) (by decide) (fun _ => rfl) hkv; rw [a]; exact ⟨by decide, b⟩
  · obtain ⟨a, b⟩ := listP_val l3 (by decide) (by decide) (fun _ => rfl) hkv; rw [a]; exact ⟨by decide, b⟩
  · obtain ⟨a, b⟩ := listP_val l4 (by decide) (by decide) (fun _ => rfl) hkv; rw [a]; exact ⟨by decide, b⟩
  · split at hkv
    · simp at hkv
    · rename_i h0
      obtain rfl : kv = (8, sep 44 (r.day.map dayT)) := by simpa using hkv
      exact ⟨(by decide : (8 : Nat) < 14), by rw [valOf_8, daysOf_in l9 h0]; rfl⟩
  · obtain ⟨a, b⟩ := listP_val l6 (by decide) (by decide) (fun _ => rfl) hkv; rw [a]; exact ⟨by decide, b⟩
  · obtain ⟨a, b⟩ := listP_val l7 (by decide) (by decide) (fun _ => rfl) hkv; rw [a]; exact ⟨by decide, b⟩
  · obtain ⟨a, b⟩ := listP_val l8 (by decide) (by decide) (fun _ => rfl) hkv; rw [a]; exact ⟨by decide, b⟩
  · obtain ⟨a, b⟩ := listP_val l5 (by decide) (by decide) (fun _ => rfl) hkv; rw [a]; exact ⟨by decide, b⟩
  · split at hkv
    · simp at hkv
    · obtain rfl : kv = (13, wdayW r.wkst.toNat) := by simpa using hkv
      refine ⟨(by decide : (13 : Nat) < 14), ?_⟩
      rw [valOf_13, wdayOf_word ⟨r.wkst.toNat, by omega⟩]
      show some (Fl.num ((r.wkst.toNat : Nat) : Int)) = some (Fl.num r.wkst)
      rw [show ((r.wkst.toNat : Nat) : Int) = r.wkst from by omega]
theorem fst_listP (k : Nat) (l : List Int) : (listP k l).map Prod.fst = if l = [] then [] else [k] := by unfold listP; split <;> rfl
theorem fields_keys (r : Ru) : ((fieldsP r).map Prod.fst).Pairwise (· < ·) := by
  have h : ((fieldsP r).map Prod.fst).Sublist ([0] ++ ([1] ++ ([2] ++ ([3] ++ ([4] ++ ([5] ++ ([6] ++ ([7] ++ ([8] ++ ([9] ++ ([10] ++ ([11] ++ ([12] ++ [13]))))))))))))) := by
    unfold fieldsP
    simp only [List.map_append]
    repeat' apply List.Sublist.append
    all_goals first | (unfold listP; split <;> simp) | (split <;> simp) | simp
  exact List.Pairwise.sublist h (by decide)
end Go.Proofs.YtkkmhjplfpdhcaaGreatDoor.Ru
