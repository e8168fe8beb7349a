/- The walk of vokref4.Parse. -/
import Derived.Test.YtajgagmpdhmbkaaGreatDoorRuPut
import Derived.Test.YtajgagmpdhmbkaaGreatDoorRpP
import Derived.Test.YtajgagmpdhmbkaaGreatDoorRuMay
set_option linter.unusedVariables false
namespace Go.Proofs.YtajgagmpdhmbkaaGreatDoor.Ru
open Go.RowKit Cv St Go.Proofs.YtajgagmpdhmbkaaGreatDoor.Fd

theorem cutAt_no {c : UInt8} : ∀ {l : List UInt8}, c ∉ l → cutAt c l = [l]
  | [], _ => rfl
  | x :: r, h => by
    have hx : x ≠ c := fun e => h (by simp [e])
    have hr : c ∉ r := fun e => h (List.mem_cons_of_mem _ e)
    unfold cutAt; rw [if_neg hx, cutAt_no hr]
theorem cut_yes {c : UInt8} : ∀ {l : List UInt8}, c ∈ l → ∃ q qs, cutAt c l = bef1 c l :: q :: qs ∧ aft1 c l = l.drop ((bef1 c l).length + 1)
  | x :: r, h => by
    by_cases hx : x = c
    · subst hx
      have hn := cutAt_ne x r
      cases e : cutAt x r with
      | nil => exact absurd e hn
      | cons q qs => exact ⟨q, qs, by unfold cutAt; rw [if_pos rfl, e]; simp [bef1], by simp [bef1, aft1]⟩
    · have hr : c ∈ r := by
        rcases List.mem_cons.1 h with h | h
        · exact absurd h.symm hx
        · exact h
      obtain ⟨q, qs, e1, e2⟩ := cut_yes hr
      refine ⟨q, qs, ?_, ?_⟩
      · unfold cutAt; rw [if_neg hx, e1]; simp [bef1, hx]
      · simp [bef1, aft1, hx] at e2 ⊢; exact e2
theorem bef1_lt {c : UInt8} : ∀ {l : List UInt8}, c ∈ l → (bef1 c l).length + 1 ≤ l.length
  | x :: r, h => by
    by_cases hx : x = c
    · subst hx; simp [bef1]
    · have hr : c ∈ r := by
        rcases List.mem_cons.1 h with h | h
        · exact absurd h.symm hx
        · exact h
      have := bef1_lt hr
      simp [bef1, hx] at this ⊢; omega
theorem idxT_mem : ∀ {l : List ByteArray} {x : ByteArray}, x ∈ l → 0 ≤ idxT l x
  | y :: l, x, h => by
    unfold idxT
    by_cases e : y = x
    · rw [if_pos e]; exact Int.le_refl 0
    · have h2 : x ∈ l := by
        rcases List.mem_cons.1 h with h | h
        · exact absurd h.symm e
        · exact h
      have := idxT_mem h2
      rw [if_neg e]
      split <;> omega
theorem word_mem {l : List ByteArray} {x : ByteArray} (h : 0 ≤ wordV l x) : x ∈ l := by
  by_cases c : x ∈ l
  · exact c
  · unfold wordV at h
    split at h
    · omega
    · rw [idxT_no c] at h; omega
theorem take_nil {v : List UInt8} {kf : Nat × Fl} (h : takeOf [] v = some kf) : False := by
  unfold takeOf at h
  rw [show keyOf [] = none from by decide] at h
  cases h
theorem word_not {l : List ByteArray} {z : List UInt8} (h : ¬ 0 ≤ wordV l (str z)) (m : str z ∈ l) : z = [] := by
  unfold wordV at h
  split at h
  · rename_i e
    have := congrArg (fun b : ByteArray => b.data.toList) e
    simpa [list_str] using this
  · exact absurd (idxT_mem m) h
set_option maxRecDepth 100000 in
set_option maxHeartbeats 4000000 in
theorem rparse_long (w : World) (s : ByteArray) (h : 4096 < s.size) : Calls Tryz.prog 21 #[.string s] w (ParseR (ruParse s.data.toList) w) := by
  have G : ruParse s.data.toList = (zeroR, 0, 3) := by unfold ruParse; rw [if_pos (by rw [size_list]; exact h)]
  rw [G]
  have t0 : decide ((s.size : Int) > 4096) = true := decide_eq_true (by omega)
  go_enter Tryz.func21, Tryz.ntmps21
  go_wp2
  exact bodyPost_ret (v := .tuple #[S0.val zeroR, .int .i64 0, .int .i64 3]) (by simp [results, Tryz.results21, go_sem, S0, RS.val, RS.cells, zeroR]) rfl ⟨S0, rfl, zero_at _, alloc_below _ _⟩
theorem rres15 {tm : Array Value} {w : World} {g : Nat} {cs : Array Value} {u0 u1 u2 u3 u4 u5 u6 u7 u8 u9 u10 u11 u12 u13 u14 : Value} {n e : Value} (hc : 15 ≤ cs.size) (h : ∀ k u, cs[k]? = some u → w.cell? ⟨g, k, none⟩ = some u)
    (t2 : tm[2]? = some (.pointer (some ⟨g, 0, none⟩))) (t3 : tm[3]? = some n) (t4 : tm[4]? = some e) :
    (results Tryz.f21 tm).run Tryz.prog (((((((((((((((w.setCell ⟨g, 0, none⟩ u0).setCell ⟨g, 1, none⟩ u1).setCell ⟨g, 2, none⟩ u2).setCell ⟨g, 3, none⟩ u3).setCell ⟨g, 4, none⟩ u4).setCell ⟨g, 5, none⟩ u5).setCell ⟨g, 6, none⟩ u6).setCell ⟨g, 7, none⟩ u7).setCell ⟨g, 8, none⟩ u8).setCell ⟨g, 9, none⟩ u9).setCell ⟨g, 10, none⟩ u10).setCell ⟨g, 11, none⟩ u11).setCell ⟨g, 12, none⟩ u12).setCell ⟨g, 13, none⟩ u13).setCell ⟨g, 14, none⟩ u14) = .ok (.tuple #[.agg #[u0, u1, u2, u3, u4, u5, u6, u7, u8, u9, u10, u11, u12, u13, u14], n, e]) (((((((((((((((w.setCell ⟨g, 0, none⟩ u0).setCell ⟨g, 1, none⟩ u1).setCell ⟨g, 2, none⟩ u2).setCell ⟨g, 3, none⟩ u3).setCell ⟨g, 4, none⟩ u4).setCell ⟨g, 5, none⟩ u5).setCell ⟨g, 6, none⟩ u6).setCell ⟨g, 7, none⟩ u7).setCell ⟨g, 8, none⟩ u8).setCell ⟨g, 9, none⟩ u9).setCell ⟨g, 10, none⟩ u10).setCell ⟨g, 11, none⟩ u11).setCell ⟨g, 12, none⟩ u12).setCell ⟨g, 13, none⟩ u13).setCell ⟨g, 14, none⟩ u14) := by
  simp [results, Tryz.results21, go_sem, t2, t3, t4, set15_0 hc h, set15_1 hc h, set15_2 hc h, set15_3 hc h, set15_4 hc h, set15_5 hc h, set15_6 hc h, set15_7 hc h, set15_8 hc h, set15_9 hc h, set15_10 hc h, set15_11 hc h, set15_12 hc h, set15_13 hc h, set15_14 hc h]
set_option maxRecDepth 100000 in
set_option maxHeartbeats 8000000 in
theorem rparse_any (w : World) (T : Tabs w) (s : ByteArray) : Calls Tryz.prog 21 #[.string s] w (ParseR (ruParse s.data.toList) w) := by
  by_cases hs : 4096 < s.size
  · exact rparse_long w s hs
  have G : ruParse s.data.toList = parseL 0 [] startR (cutAt 59 s.data.toList) := by unfold ruParse; rw [if_neg (by rw [size_list]; exact hs)]
  have t0 : decide ((s.size : Int) > 4096) = false := decide_eq_false (by omega)
  have PL := Lib.hid (fun (p : List UInt8) (hp : p ∈ cutAt 59 s.data.toList) => show p.length ≤ 4096 by
    have := cut_len 59 s.data.toList p hp; rw [size_list] at this; omega)
  obtain ⟨ps, hps⟩ : ∃ ps, cutAt 59 s.data.toList = ps := ⟨_, rfl⟩
  have hlen : ps.length ≤ 4097 := by
    rw [← hps]; have := countB_le s 59; omega
  have hne := cutAt_ne 59 s.data.toList
  rw [hps] at G PL hne
  obtain ⟨o, ho⟩ : ∃ o, ruParse s.data.toList = o := ⟨_, rfl⟩
  rw [ho] at G ⊢
  have GG := Lib.hid G
  have HP := Lib.hid hps
  have HL := Lib.hid hlen
  have HN := Lib.hid hne
  have TT := Lib.hid T
  clear T G hps hlen hne ho
  have wn : (w.alloc (.cells (S0.cells zeroR) 25)).heap.size = w.heap.size + 1 := by simp
  have bz := alloc_below w (.cells (S0.cells zeroR) 25)
  have xz := Box.new w (S0.cells zeroR) 25
  have fz : ∀ k, (w.alloc (.cells (S0.cells zeroR) 25)).frozen? ⟨w.heap.size, k, none⟩ = false := fun k => by simp [go_sem]
  have CZ := Lib.hid (fun (wr : World) (h : Below (w.heap.size + 1) (w.alloc (.cells (S0.cells zeroR) 25)) wr) (k : Nat) (u : Value) (e : (S0.cells zeroR)[k]? = some u) => (h.cell (p := ⟨w.heap.size, k, none⟩) (Nat.lt_succ_self _)).trans (xz.2 k u e))
  have FZ := Lib.hid (fun (wr : World) (h : Below (w.heap.size + 1) (w.alloc (.cells (S0.cells zeroR) 25)) wr) (k : Nat) => (h.frozen (p := ⟨w.heap.size, k, none⟩) (Nat.lt_succ_self _)).trans (fz k))
  have BW := Lib.hid (fun (wr : World) (h : Below (w.heap.size + 1) (w.alloc (.cells (S0.cells zeroR) 25)) wr) => bz.trans (h.mono (Nat.le_succ _)))
  have RB := Lib.hid (wn ▸ RBox.start (w.alloc (.cells (S0.cells zeroR) 25)) : RBox (w.heap.size + 1) (w.alloc (.cells (S0.cells zeroR) 25)) ((w.alloc (.cells (S0.cells zeroR) 25)).alloc (.cells (S0.cells startR) 25)) (w.heap.size + 1) S0 startR)
  have B0 := Lib.hid (bz.trans ((alloc_below (w.alloc (.cells (S0.cells zeroR) 25)) (.cells (S0.cells startR) 25)).mono (by simp)))
  clear bz xz fz wn
  go_enter Tryz.func21, Tryz.ntmps21
  go_wp2_with fail
  refine (rsplit_any _ s 59 59 rfl (by omega)).mono ?_
  rintro e w1 ⟨v, rfl, hv, b1⟩
  rw [HP.out] at hv
  obtain ⟨A, cap, ev, hA, -, -⟩ := hv.at_
  subst ev
  have hF : ∀ b off, A = some ⟨b, off, none⟩ → w.heap.size + 2 ≤ b := fun b off e => by
    subst e
    have := (World.ownsRow.lt hv b rfl).1
    simpa using this
  clear hv
  obtain ⟨k, hk0⟩ : ∃ k, (ps.map str).length = k := ⟨_, rfl⟩
  rw [hk0] at hA ⊢
  clear hk0
  have hk := hA.1
  rw [List.length_map] at hk
  have R1 := Lib.hid (RB.out.on (by simp) b1)
  have N1 := Lib.hid (show w.heap.size + 2 ≤ w1.heap.size from Nat.le_trans (by simp) b1.size)
  have FA := Lib.hid (show ∀ b off, A = some ⟨b, off, none⟩ → b ≠ w.heap.size + 1 from fun b off e q => by have := hF b off e; omega)
  have HK := Lib.hid hk
  have HS := Lib.hid hA
  obtain ⟨wz, hwz⟩ : ∃ wz, w.alloc (.cells (S0.cells zeroR) 25) = wz := ⟨_, rfl⟩
  rw [hwz] at CZ FZ BW R1
  clear hk hA hF B0 RB b1 hwz
  go_wp2
  go_loopw [6, 8] (fun ov i wr => ∃ (v : Value) (t : Nat) (names : List ByteArray) (seen : List Nat) (r : Ru) (S : RS), t ≤ k ∧ v = ov ∧ i = .int .i64 t ∧ OwnT w1 wr v names ∧ (names ≠ [] ∨ v = .slice none 0 0) ∧ names.length = t ∧ RBox (w.heap.size + 1) wz wr (w.heap.size + 1) S r ∧ SsAt wr A k (ps.map str) ∧ w1.heap.size ≤ wr.heap.size ∧ Hid (o = parseL t seen r (ps.drop t)) ∧ Hid (∀ j, j < 14 → (j ∈ seen ↔ str (nameK j) ∈ names))) (fun _ i _ => k - (intOf i).toNat)
  case atStart => exact ⟨_, 0, [], [], startR, S0, Nat.zero_le _, rfl, rfl, OwnT.nil _ _, .inr rfl, rfl, R1.out, HS.out, Nat.le_refl _, Lib.hid GG.out, Lib.hid (fun j hj => by simp)⟩
  case round =>
    rename_i wr
    obtain ⟨v0, t, names, seen, r, S, ht, rfl, rfl, ov, hv, hnl, hR, hSs, hsz, PP, SN⟩ := hrel
    have hn1 := N1.out
    have RR := Lib.hid hR
    have T2 := Lib.hid (TT.out.on (BW.out _ hR.below))
    have OV := Lib.hid ov
    have VV := Lib.hid hv
    have SS := Lib.hid hSs
    clear hR ov hv
    by_cases hlt : t < k
    · have hlt2 : t < ps.length := by rw [← HK.out]; exact hlt
      obtain ⟨b, off, hAe, hb, hcc⟩ := hSs.2 (by omega)
      subst hAe
      have hbw : b < w1.heap.size := by
        obtain ⟨b', o', e', h', -⟩ := HS.out.2 (by omega)
        injection e' with e'; injection e' with e1 e2; omega
      have c0 := hcc t hlt
      rw [pat_str hlt2] at c0
      have DP := Lib.hid (drop_pat hlt2)
      have SZ := Lib.hid (PL.out (pat ps t) (by rw [pat_lt hlt2]; exact List.getElem_mem _))
      clear hcc hSs hlt2
      obtain ⟨z, hz⟩ : ∃ z, pat ps t = z := ⟨_, rfl⟩
      rw [hz] at c0 DP SZ
      have HZ := Lib.hid hz
      clear hz
      obtain ⟨A0, c00, ev, ha0, -, -⟩ := OV.out.at_
      rw [hnl] at ev ha0
      subst ev
      have HA0 := Lib.hid ha0
      clear ha0
      by_cases h61 : (61 : UInt8) ∈ z
      · obtain ⟨q1, qs, ecut, eaft⟩ := cut_yes h61
        have hb1 : (bef1 61 z).length + 1 ≤ z.length := bef1_lt h61
        have hc2 : (aft1 61 z).length ≤ 4096 := Nat.le_trans (aft1_len 61 z) SZ.out
        have h4096 := SZ.out
        have EC := Lib.hid ecut
        have EA := Lib.hid (show (str z).extract ((bef1 61 z).length + 1) z.length = str (aft1 61 z) by
          rw [eaft, ← str_list ((str z).extract _ _), show z.length = (str z).size from by rw [str_size], drop_ext, list_str])
        clear ecut eaft
        have szz : (str z).size = z.length := str_size z
        have szb : (str (bef1 61 z)).size = (bef1 61 z).length := str_size _
        have H61 := Lib.hid h61
        go_wp2_with fail
        refine (rsplit_any _ (str z) 61 61 rfl (by omega)).mono ?_
        rintro e w2 ⟨v, rfl, hv, b2⟩
        rw [list_str, EC.out] at hv
        obtain ⟨P, hP⟩ : ∃ P, (bef1 61 z :: q1 :: qs).map str = P := ⟨_, rfl⟩
        have P0 : sat P 0 = str (bef1 61 z) := by rw [← hP]; rfl
        have P2 : 2 ≤ P.length := by rw [← hP]; simp
        rw [hP] at hv
        clear hP
        have BP := Lib.hid (fun b' (e : v.ownBlock = some b') => (World.ownsRow.lt hv b' e).1)
        obtain ⟨Ap, cp, ev, hp, -, -⟩ := hv.at_
        subst ev
        clear hv
        obtain ⟨n2, hn2⟩ : ∃ n2, P.length = n2 := ⟨_, rfl⟩
        rw [hn2] at hp BP P2 ⊢
        have HP2 := Lib.hid hp
        obtain ⟨bp, op, eA, hbp, hcp⟩ := hp.2 (by omega)
        subst eA
        have cp0 := hcp 0 (by omega)
        rw [P0, Nat.add_zero] at cp0
        clear hcp hp
        have bpw : wr.heap.size ≤ bp := BP.out bp rfl
        have u2 : decide ((n2 : Int) < 2) = false := decide_eq_false (by omega)
        have u3 : decide (n2 < 2) = false := decide_eq_false (by omega)
        have u4 : 0 < n2 := by omega
        have R2 := Lib.hid (RR.out.on (by omega) b2)
        have O2 := Lib.hid (OV.out.on b2)
        have T3 := Lib.hid (T2.out.on b2)
        have S2 := Lib.hid (SS.out.below b2)
        have N2 := Lib.hid (HA0.out.below b2)
        have bs := b2.size
        obtain ⟨p, hp⟩ : ∃ p, wordV names (str (bef1 61 z)) = p := ⟨_, rfl⟩
        have WP := Lib.hid hp
        have TB : t ≤ 9223372036854775807 := by have := HL.out; have := HK.out; omega
        clear hp b2
        go_wp2_with fail
        refine (word_is _ A0 t c00 names (str (bef1 61 z)) N2.out TB p WP.out).mono ?_
        rintro e w3 ⟨rfl, b3⟩
        have R3 := Lib.hid (R2.out.on (by omega) b3)
        by_cases hp : 0 ≤ p
        · have t1 : decide ((0 : Int) ≤ p) = true := decide_eq_true hp
          have GO := Lib.hid (show o = (zeroR, (t : Int), 4) by rw [PP.out, DP.out]; exact pl_seen H61.out SN.out (word_mem (by rw [WP.out]; exact hp)))
          have R9 := Lib.hid R3.out.below
          clear hp b3
          have z0 : w3.cell? ⟨w.heap.size, 0, none⟩ = some (.int .i64 0) := CZ.out _ R9.out 0 _ rfl
          have y0 : w3.frozen? ⟨w.heap.size, 0, none⟩ = false := FZ.out _ R9.out 0
          have z1 : w3.cell? ⟨w.heap.size, 1, none⟩ = some (.int .i64 0) := CZ.out _ R9.out 1 _ rfl
          have y1 : w3.frozen? ⟨w.heap.size, 1, none⟩ = false := FZ.out _ R9.out 1
          have z2 : w3.cell? ⟨w.heap.size, 2, none⟩ = some (.int .i64 0) := CZ.out _ R9.out 2 _ rfl
          have y2 : w3.frozen? ⟨w.heap.size, 2, none⟩ = false := FZ.out _ R9.out 2
          have z3 : w3.cell? ⟨w.heap.size, 3, none⟩ = some (.int .i64 0) := CZ.out _ R9.out 3 _ rfl
          have y3 : w3.frozen? ⟨w.heap.size, 3, none⟩ = false := FZ.out _ R9.out 3
          have z4 : w3.cell? ⟨w.heap.size, 4, none⟩ = some (.int .i64 0) := CZ.out _ R9.out 4 _ rfl
          have y4 : w3.frozen? ⟨w.heap.size, 4, none⟩ = false := FZ.out _ R9.out 4
          have z5 : w3.cell? ⟨w.heap.size, 5, none⟩ = some (.bool false) := CZ.out _ R9.out 5 _ rfl
          have y5 : w3.frozen? ⟨w.heap.size, 5, none⟩ = false := FZ.out _ R9.out 5
          have z6 : w3.cell? ⟨w.heap.size, 6, none⟩ = some (.slice none 0 0) := CZ.out _ R9.out 6 _ rfl
          have y6 : w3.frozen? ⟨w.heap.size, 6, none⟩ = false := FZ.out _ R9.out 6
          have z7 : w3.cell? ⟨w.heap.size, 7, none⟩ = some (.slice none 0 0) := CZ.out _ R9.out 7 _ rfl
          have y7 : w3.frozen? ⟨w.heap.size, 7, none⟩ = false := FZ.out _ R9.out 7
          have z8 : w3.cell? ⟨w.heap.size, 8, none⟩ = some (.slice none 0 0) := CZ.out _ R9.out 8 _ rfl
          have y8 : w3.frozen? ⟨w.heap.size, 8, none⟩ = false := FZ.out _ R9.out 8
          have z9 : w3.cell? ⟨w.heap.size, 9, none⟩ = some (.slice none 0 0) := CZ.out _ R9.out 9 _ rfl
          have y9 : w3.frozen? ⟨w.heap.size, 9, none⟩ = false := FZ.out _ R9.out 9
          have z10 : w3.cell? ⟨w.heap.size, 10, none⟩ = some (.slice none 0 0) := CZ.out _ R9.out 10 _ rfl
          have y10 : w3.frozen? ⟨w.heap.size, 10, none⟩ = false := FZ.out _ R9.out 10
          have z11 : w3.cell? ⟨w.heap.size, 11, none⟩ = some (.slice none 0 0) := CZ.out _ R9.out 11 _ rfl
          have y11 : w3.frozen? ⟨w.heap.size, 11, none⟩ = false := FZ.out _ R9.out 11
          have z12 : w3.cell? ⟨w.heap.size, 12, none⟩ = some (.slice none 0 0) := CZ.out _ R9.out 12 _ rfl
          have y12 : w3.frozen? ⟨w.heap.size, 12, none⟩ = false := FZ.out _ R9.out 12
          have z13 : w3.cell? ⟨w.heap.size, 13, none⟩ = some (.slice none 0 0) := CZ.out _ R9.out 13 _ rfl
          have y13 : w3.frozen? ⟨w.heap.size, 13, none⟩ = false := FZ.out _ R9.out 13
          have z14 : w3.cell? ⟨w.heap.size, 14, none⟩ = some (.slice none 0 0) := CZ.out _ R9.out 14 _ rfl
          have y14 : w3.frozen? ⟨w.heap.size, 14, none⟩ = false := FZ.out _ R9.out 14
          go_wp2
          exact bodyPost_ret (rres15 (show 15 ≤ (S0.cells zeroR).size from Nat.le_refl _) (CZ.out _ R9.out) rfl rfl rfl) rfl (by rw [show o = _ from GO.out]; exact ⟨S0, rfl, zero_at _, below15 (Nat.le_refl _) (BW.out _ R9.out)⟩)
        · have t1 : decide ((0 : Int) ≤ p) = false := decide_eq_false hp
          have NW := Lib.hid (show str (bef1 61 z) ∈ names → bef1 61 z = [] from word_not (by rw [WP.out]; exact hp))
          have O3 := Lib.hid (O2.out.on b3)
          have T4 := Lib.hid (T3.out.on b3)
          have S3 := Lib.hid (S2.out.below b3)
          have HP3 := Lib.hid (HP2.out.below b3)
          have cp1 : w3.cell? ⟨bp, op, none⟩ = some (.string (str (bef1 61 z))) := (b3.cell (p := ⟨bp, _, none⟩) hbp).trans cp0
          have bs3 := b3.size
          have sz3 : w1.heap.size ≤ w3.heap.size := by omega
          have nl6 : names.length ≤ 1000000 := by have h1 := HK.out; have h2 := HL.out; omega
          clear hp b3 cp0
          go_wp2_with (at_builtin; refine append_name rfl _ _ rfl (.slice A0 t c00) names rfl O3.out sz3 (str (bef1 61 z)) 9 1 (by show Value.slice (some ⟨w3.heap.size, 0, none⟩) 1 1 = _; simp) nl6 ?_)
          intro v5 w5 ov5 g5 b5
          have R5 := Lib.hid (R3.out.kept O3.out VV.out g5 b5 (by omega) (by omega))
          have s5 : SsAt w5 (some ⟨b, off, none⟩) k (ps.map str) := S3.out.kept g5 (fun b' o' e q => by
            have h1 := (World.ownsRow.lt O3.out b' q.symm).1
            injection e with e; injection e with e1 e2
            omega)
          have hp5 : SsAt w5 (some ⟨bp, op, none⟩) n2 P := HP3.out.kept g5 (fun b' o' e q => by
            have h1 := (World.ownsRow.lt OV.out b' q.symm).2
            injection e with e; injection e with e1 e2
            omega)
          have T5 := Lib.hid (TT.out.on (BW.out _ R5.out.below))
          have sz5 : w1.heap.size ≤ w5.heap.size := Nat.le_trans sz3 b5.size
          have cq : w5.cell? ⟨bp, op, none⟩ = some (.string (str (bef1 61 z))) := by
            obtain ⟨b', o', e', h', hc'⟩ := hp5.2 (by omega)
            injection e' with e'; injection e' with e1 e2; subst e1; subst e2
            have := hc' 0 (by omega)
            rwa [P0, Nat.add_zero] at this
          have cz : w5.cell? ⟨b, off + t, none⟩ = some (.string (str z)) := by
            obtain ⟨b', o', e', h', hc'⟩ := s5.2 (by omega)
            injection e' with e'; injection e' with e1 e2; subst e1; subst e2
            have := hc' t (by omega)
            rwa [pat_str (by rw [← HK.out]; exact hlt), HZ.out] at this
          have i1 : IntKind.i64.wrap (((bef1 61 z).length : Int) + 1) = ((bef1 61 z).length : Int) + 1 := IntWalk.i64_in _ (by omega)
          have i2 : (((bef1 61 z).length : Int) + 1).toNat = (bef1 61 z).length + 1 := by omega
          have i3 : (0 : Int) ≤ ((bef1 61 z).length : Int) + 1 := by omega
          have i4 : ((bef1 61 z).length : Int) + 1 ≤ (z.length : Int) := by omega
          have ea := EA.out
          have OV5 := Lib.hid ov5
          have HP5 := Lib.hid hp5
          have S5 := Lib.hid s5
          have bb5 := b5.size
          clear ov5 s5 hp5 b5 g5 cp1
          have HSZ := Lib.hid (show (str (aft1 61 z)).size ≤ 100000 by rw [str_size]; omega)
          have HB5 := Lib.hid (show w.heap.size + 1 ≤ w5.heap.size by omega)
          go_upto_region 13 with fail
          refine wp_region_late (fun _ => false) (fun w' => w'.cell? ⟨bp, op, none⟩ = some (.string (str (bef1 61 z))) ∧ w'.cell? ⟨b, off + t, none⟩ = some (.string (str z))) (by kernel_rfl) ?_
          have D0 : Below w5.heap.size w5 w5.drew := (Below.refl _ _).drew
          have hS : w5.drew.cell? ⟨bp, op, none⟩ = some (.string (str (bef1 61 z))) ∧ w5.drew.cell? ⟨b, off + t, none⟩ = some (.string (str z)) := ⟨cq, cz⟩
          refine Late.take 0 (.slice (some ⟨bp, op, none⟩) n2 cp) rfl (by kernel_rfl) (by kernel_rfl) (by kernel_rfl) (by kernel_rfl) (fun _ _ _ h => h) (.inl ⟨rfl, fun w' hs => ?_⟩) hS ?_
          · obtain ⟨s0, s1⟩ := hs
            go_simp
          refine Late.take 1 (.pointer (some ⟨bp, op, none⟩)) rfl (by kernel_rfl) (by kernel_rfl) (by kernel_rfl) (by kernel_rfl) (fun _ _ _ h => h) (.inl ⟨rfl, fun w' hs => ?_⟩) hS ?_
          · obtain ⟨s0, s1⟩ := hs
            go_simp
          refine Late.take 2 (.string (str (bef1 61 z))) rfl (by kernel_rfl) (by kernel_rfl) (by kernel_rfl) (by kernel_rfl) (fun _ _ _ h => h) (.inl ⟨rfl, fun w' hs => ?_⟩) hS ?_
          · obtain ⟨s0, s1⟩ := hs
            go_simp
          refine Late.take 3 (.slice (some ⟨b, off, none⟩) k cap) rfl (by kernel_rfl) (by kernel_rfl) (by kernel_rfl) (by kernel_rfl) (fun _ _ _ h => h) (.inl ⟨rfl, fun w' hs => ?_⟩) hS ?_
          · obtain ⟨s0, s1⟩ := hs
            go_simp
          refine Late.take 4 (.int .i64 t) rfl (by kernel_rfl) (by kernel_rfl) (by kernel_rfl) (by kernel_rfl) (fun _ _ _ h => h) (.inl ⟨rfl, fun w' hs => ?_⟩) hS ?_
          · obtain ⟨s0, s1⟩ := hs
            go_simp
          refine Late.take 5 (.pointer (some ⟨b, off + t, none⟩)) rfl (by kernel_rfl) (by kernel_rfl) (by kernel_rfl) (by kernel_rfl) (fun _ _ _ h => h) (.inl ⟨rfl, fun w' hs => ?_⟩) hS ?_
          · obtain ⟨s0, s1⟩ := hs
            go_simp
          refine Late.take 6 (.string (str z)) rfl (by kernel_rfl) (by kernel_rfl) (by kernel_rfl) (by kernel_rfl) (fun _ _ _ h => h) (.inl ⟨rfl, fun w' hs => ?_⟩) hS ?_
          · obtain ⟨s0, s1⟩ := hs
            go_simp
          refine Late.take 7 (.slice (some ⟨bp, op, none⟩) n2 cp) rfl (by kernel_rfl) (by kernel_rfl) (by kernel_rfl) (by kernel_rfl) (fun _ _ _ h => h) (.inl ⟨rfl, fun w' hs => ?_⟩) hS ?_
          · obtain ⟨s0, s1⟩ := hs
            go_simp
          refine Late.take 8 (.pointer (some ⟨bp, op, none⟩)) rfl (by kernel_rfl) (by kernel_rfl) (by kernel_rfl) (by kernel_rfl) (fun _ _ _ h => h) (.inl ⟨rfl, fun w' hs => ?_⟩) hS ?_
          · obtain ⟨s0, s1⟩ := hs
            go_simp
          refine Late.take 9 (.string (str (bef1 61 z))) rfl (by kernel_rfl) (by kernel_rfl) (by kernel_rfl) (by kernel_rfl) (fun _ _ _ h => h) (.inl ⟨rfl, fun w' hs => ?_⟩) hS ?_
          · obtain ⟨s0, s1⟩ := hs
            go_simp
          refine Late.take 10 (.int .i64 ((bef1 61 z).length : Int)) rfl (by kernel_rfl) (by kernel_rfl) (by kernel_rfl) (by kernel_rfl) (fun _ _ _ h => h) (.inl ⟨rfl, fun w' hs => ?_⟩) hS ?_
          · obtain ⟨s0, s1⟩ := hs
            go_simp
          refine Late.take 11 (.int .i64 (((bef1 61 z).length : Int) + 1)) rfl (by kernel_rfl) (by kernel_rfl) (by kernel_rfl) (by kernel_rfl) (fun _ _ _ h => h) (.inl ⟨rfl, fun w' hs => ?_⟩) hS ?_
          · obtain ⟨s0, s1⟩ := hs
            go_simp
          refine Late.take 12 (.string (str (aft1 61 z))) rfl (by kernel_rfl) (by kernel_rfl) (by kernel_rfl) (by kernel_rfl) (fun _ _ _ h => h) (.inl ⟨rfl, fun w' hs => ?_⟩) hS ?_
          · obtain ⟨s0, s1⟩ := hs
            go_simp
          have R5d := Lib.hid (R5.out.on (by omega) D0)
          have T5d := Lib.hid (T5.out.on D0)
          refine Late.one 13 rfl (by kernel_rfl) rfl ?_
          go_simp
          refine (put_any_is R5d.out HB5.out T5d.out (str (bef1 61 z)) (str (aft1 61 z)) HSZ.out).mono ?_
          rw [list_str, list_str]
          cases htk : takeOf (bef1 61 z) (aft1 61 z) with
          | none =>
            have GO := Lib.hid (show o = (zeroR, (t : Int), 4) by rw [PP.out, DP.out]; exact pl_none (by rw [part_take H61.out]; exact htk))
            rintro e w6 ⟨b6, g6, ⟨-, rfl⟩ | ⟨_, _, _, q, -⟩⟩
            rotate_left
            · cases q
            have R9 := Lib.hid b6
            have g6 : w5.grownBy w6 (some (w.heap.size + 1)) := ⟨g6.os, g6.tape, g6.output, g6.size, g6.block⟩
            have hp6 : SsAt w6 (some ⟨bp, op, none⟩) n2 P := HP5.out.kept g6 (fun b' o' e q => by
              injection e with e; injection e with e1 e2; injection q with q; omega)
            have s6 : SsAt w6 (some ⟨b, off, none⟩) k (ps.map str) := S5.out.kept g6 (fun b' o' e q => by
              injection q with q; exact FA.out b' o' e q)
            have hS6 : w6.cell? ⟨bp, op, none⟩ = some (.string (str (bef1 61 z))) ∧ w6.cell? ⟨b, off + t, none⟩ = some (.string (str z)) := by
              obtain ⟨b', o', e', h', hc'⟩ := hp6.2 (by omega)
              injection e' with e'; injection e' with e1 e2; subst e1; subst e2
              have c1 := hc' 0 (by omega)
              rw [P0, Nat.add_zero] at c1
              obtain ⟨b', o', e', h', hc'⟩ := s6.2 (by omega)
              injection e' with e'; injection e' with e1 e2; subst e1; subst e2
              have c2 := hc' t (by omega)
              rw [pat_str (by rw [← HK.out]; exact hlt), HZ.out] at c2
              exact ⟨c1, c2⟩
            refine ⟨hS6, ?_⟩
            refine Late.one 14 rfl (by kernel_rfl) rfl ?_
            go_simp
            refine Late.done (by kernel_rfl) ?_
            clear hS6 hp6
            clear b6 g6 s6 cq cz htk
            have z0 : w6.cell? ⟨w.heap.size, 0, none⟩ = some (.int .i64 0) := CZ.out _ R9.out 0 _ rfl
            have y0 : w6.frozen? ⟨w.heap.size, 0, none⟩ = false := FZ.out _ R9.out 0
            have z1 : w6.cell? ⟨w.heap.size, 1, none⟩ = some (.int .i64 0) := CZ.out _ R9.out 1 _ rfl
            have y1 : w6.frozen? ⟨w.heap.size, 1, none⟩ = false := FZ.out _ R9.out 1
            have z2 : w6.cell? ⟨w.heap.size, 2, none⟩ = some (.int .i64 0) := CZ.out _ R9.out 2 _ rfl
            have y2 : w6.frozen? ⟨w.heap.size, 2, none⟩ = false := FZ.out _ R9.out 2
            have z3 : w6.cell? ⟨w.heap.size, 3, none⟩ = some (.int .i64 0) := CZ.out _ R9.out 3 _ rfl
            have y3 : w6.frozen? ⟨w.heap.size, 3, none⟩ = false := FZ.out _ R9.out 3
            have z4 : w6.cell? ⟨w.heap.size, 4, none⟩ = some (.int .i64 0) := CZ.out _ R9.out 4 _ rfl
            have y4 : w6.frozen? ⟨w.heap.size, 4, none⟩ = false := FZ.out _ R9.out 4
            have z5 : w6.cell? ⟨w.heap.size, 5, none⟩ = some (.bool false) := CZ.out _ R9.out 5 _ rfl
            have y5 : w6.frozen? ⟨w.heap.size, 5, none⟩ = false := FZ.out _ R9.out 5
            have z6 : w6.cell? ⟨w.heap.size, 6, none⟩ = some (.slice none 0 0) := CZ.out _ R9.out 6 _ rfl
            have y6 : w6.frozen? ⟨w.heap.size, 6, none⟩ = false := FZ.out _ R9.out 6
            have z7 : w6.cell? ⟨w.heap.size, 7, none⟩ = some (.slice none 0 0) := CZ.out _ R9.out 7 _ rfl
            have y7 : w6.frozen? ⟨w.heap.size, 7, none⟩ = false := FZ.out _ R9.out 7
            have z8 : w6.cell? ⟨w.heap.size, 8, none⟩ = some (.slice none 0 0) := CZ.out _ R9.out 8 _ rfl
            have y8 : w6.frozen? ⟨w.heap.size, 8, none⟩ = false := FZ.out _ R9.out 8
            have z9 : w6.cell? ⟨w.heap.size, 9, none⟩ = some (.slice none 0 0) := CZ.out _ R9.out 9 _ rfl
            have y9 : w6.frozen? ⟨w.heap.size, 9, none⟩ = false := FZ.out _ R9.out 9
            have z10 : w6.cell? ⟨w.heap.size, 10, none⟩ = some (.slice none 0 0) := CZ.out _ R9.out 10 _ rfl
            have y10 : w6.frozen? ⟨w.heap.size, 10, none⟩ = false := FZ.out _ R9.out 10
            have z11 : w6.cell? ⟨w.heap.size, 11, none⟩ = some (.slice none 0 0) := CZ.out _ R9.out 11 _ rfl
            have y11 : w6.frozen? ⟨w.heap.size, 11, none⟩ = false := FZ.out _ R9.out 11
            have z12 : w6.cell? ⟨w.heap.size, 12, none⟩ = some (.slice none 0 0) := CZ.out _ R9.out 12 _ rfl
            have y12 : w6.frozen? ⟨w.heap.size, 12, none⟩ = false := FZ.out _ R9.out 12
            have z13 : w6.cell? ⟨w.heap.size, 13, none⟩ = some (.slice none 0 0) := CZ.out _ R9.out 13 _ rfl
            have y13 : w6.frozen? ⟨w.heap.size, 13, none⟩ = false := FZ.out _ R9.out 13
            have z14 : w6.cell? ⟨w.heap.size, 14, none⟩ = some (.slice none 0 0) := CZ.out _ R9.out 14 _ rfl
            have y14 : w6.frozen? ⟨w.heap.size, 14, none⟩ = false := FZ.out _ R9.out 14
            go_wp2
            exact bodyPost_ret (rres15 (show 15 ≤ (S0.cells zeroR).size from Nat.le_refl _) (CZ.out _ R9.out) rfl rfl rfl) rfl (by rw [show o = _ from GO.out]; exact ⟨S0, rfl, zero_at _, below15 (Nat.le_refl _) (BW.out _ R9.out)⟩)
          | some kf =>
            obtain ⟨kk, ff⟩ := kf
            have hm : str (bef1 61 z) ∉ names := fun q => by
              rw [NW.out q] at htk
              exact take_nil htk
            have GO := Lib.hid (pl_go (t := t) (r := r) (ps := ps.drop (t + 1)) H61.out SN.out hm htk)
            have GP := Lib.hid (show o = parseL t seen r (z :: ps.drop (t + 1)) by rw [PP.out, DP.out])
            clear hm htk
            rintro e w6 ⟨b6, g6, ⟨q, -⟩ | ⟨k', f', S', q, rfl, R6⟩⟩
            · cases q
            injection q with q; injection q with q1 q2; subst q1; subst q2
            have g6 : w5.grownBy w6 (some (w.heap.size + 1)) := ⟨g6.os, g6.tape, g6.output, g6.size, g6.block⟩
            have hp6 : SsAt w6 (some ⟨bp, op, none⟩) n2 P := HP5.out.kept g6 (fun b' o' e q => by
              injection e with e; injection e with e1 e2; injection q with q; omega)
            have s6 : SsAt w6 (some ⟨b, off, none⟩) k (ps.map str) := S5.out.kept g6 (fun b' o' e q => by
              injection q with q; exact FA.out b' o' e q)
            have hS6 : w6.cell? ⟨bp, op, none⟩ = some (.string (str (bef1 61 z))) ∧ w6.cell? ⟨b, off + t, none⟩ = some (.string (str z)) := by
              obtain ⟨b', o', e', h', hc'⟩ := hp6.2 (by omega)
              injection e' with e'; injection e' with e1 e2; subst e1; subst e2
              have c1 := hc' 0 (by omega)
              rw [P0, Nat.add_zero] at c1
              obtain ⟨b', o', e', h', hc'⟩ := s6.2 (by omega)
              injection e' with e'; injection e' with e1 e2; subst e1; subst e2
              have c2 := hc' t (by omega)
              rw [pat_str (by rw [← HK.out]; exact hlt), HZ.out] at c2
              exact ⟨c1, c2⟩
            refine ⟨hS6, ?_⟩
            refine Late.one 14 rfl (by kernel_rfl) rfl ?_
            go_simp
            refine Late.done (by kernel_rfl) ?_
            clear hS6 hp6
            have ov6 : OwnT w1 w6 v5 (names ++ [str (bef1 61 z)]) := World.ownsRow.kept (row := some (w.heap.size + 1)) OV5.out g6 (by
              cases hvo : v5.ownBlock with
              | none => simp
              | some bb => have := (World.ownsRow.lt OV5.out bb hvo).1; exact .inr (by intro q; injection q with q; omega))
            have sz6 : w1.heap.size ≤ w6.heap.size := by have := g6.size; omega
            have R6h := Lib.hid R6
            clear R6 g6 b6 cq cz
            go_wp2
            go_roundw
            case rel => exact ⟨_, t + 1, _, kk :: seen, setF r kk ff, S', by omega, rfl, by go_num, ov6, .inl (by simp), by simp [hnl], R6h.out, s6, sz6, Lib.hid (GP.out.trans GO.out.1), Lib.hid GO.out.2⟩
            case measure => simp [intOf]; omega
      · have GO := Lib.hid (show o = (zeroR, (t : Int), 4) by rw [PP.out, DP.out]; exact pl_none (part_no h61))
        have CU := Lib.hid (cutAt_no h61)
        have szz : (str z).size = z.length := str_size z
        have h4096 := SZ.out
        clear h61
        go_wp2_with fail
        refine (rsplit_any _ (str z) 61 61 rfl (by omega)).mono ?_
        rintro e w2 ⟨v, rfl, hv, b2⟩
        rw [list_str, CU.out] at hv
        obtain ⟨Ap, cp, ev, -, -, -⟩ := hv.at_
        replace ev : v = .slice Ap 1 cp := ev
        subst ev
        clear hv
        have R2 := Lib.hid (RR.out.on (by omega) b2).below
        clear b2
        have z0 : w2.cell? ⟨w.heap.size, 0, none⟩ = some (.int .i64 0) := CZ.out _ R2.out 0 _ rfl
        have y0 : w2.frozen? ⟨w.heap.size, 0, none⟩ = false := FZ.out _ R2.out 0
        have z1 : w2.cell? ⟨w.heap.size, 1, none⟩ = some (.int .i64 0) := CZ.out _ R2.out 1 _ rfl
        have y1 : w2.frozen? ⟨w.heap.size, 1, none⟩ = false := FZ.out _ R2.out 1
        have z2 : w2.cell? ⟨w.heap.size, 2, none⟩ = some (.int .i64 0) := CZ.out _ R2.out 2 _ rfl
        have y2 : w2.frozen? ⟨w.heap.size, 2, none⟩ = false := FZ.out _ R2.out 2
        have z3 : w2.cell? ⟨w.heap.size, 3, none⟩ = some (.int .i64 0) := CZ.out _ R2.out 3 _ rfl
        have y3 : w2.frozen? ⟨w.heap.size, 3, none⟩ = false := FZ.out _ R2.out 3
        have z4 : w2.cell? ⟨w.heap.size, 4, none⟩ = some (.int .i64 0) := CZ.out _ R2.out 4 _ rfl
        have y4 : w2.frozen? ⟨w.heap.size, 4, none⟩ = false := FZ.out _ R2.out 4
        have z5 : w2.cell? ⟨w.heap.size, 5, none⟩ = some (.bool false) := CZ.out _ R2.out 5 _ rfl
        have y5 : w2.frozen? ⟨w.heap.size, 5, none⟩ = false := FZ.out _ R2.out 5
        have z6 : w2.cell? ⟨w.heap.size, 6, none⟩ = some (.slice none 0 0) := CZ.out _ R2.out 6 _ rfl
        have y6 : w2.frozen? ⟨w.heap.size, 6, none⟩ = false := FZ.out _ R2.out 6
        have z7 : w2.cell? ⟨w.heap.size, 7, none⟩ = some (.slice none 0 0) := CZ.out _ R2.out 7 _ rfl
        have y7 : w2.frozen? ⟨w.heap.size, 7, none⟩ = false := FZ.out _ R2.out 7
        have z8 : w2.cell? ⟨w.heap.size, 8, none⟩ = some (.slice none 0 0) := CZ.out _ R2.out 8 _ rfl
        have y8 : w2.frozen? ⟨w.heap.size, 8, none⟩ = false := FZ.out _ R2.out 8
        have z9 : w2.cell? ⟨w.heap.size, 9, none⟩ = some (.slice none 0 0) := CZ.out _ R2.out 9 _ rfl
        have y9 : w2.frozen? ⟨w.heap.size, 9, none⟩ = false := FZ.out _ R2.out 9
        have z10 : w2.cell? ⟨w.heap.size, 10, none⟩ = some (.slice none 0 0) := CZ.out _ R2.out 10 _ rfl
        have y10 : w2.frozen? ⟨w.heap.size, 10, none⟩ = false := FZ.out _ R2.out 10
        have z11 : w2.cell? ⟨w.heap.size, 11, none⟩ = some (.slice none 0 0) := CZ.out _ R2.out 11 _ rfl
        have y11 : w2.frozen? ⟨w.heap.size, 11, none⟩ = false := FZ.out _ R2.out 11
        have z12 : w2.cell? ⟨w.heap.size, 12, none⟩ = some (.slice none 0 0) := CZ.out _ R2.out 12 _ rfl
        have y12 : w2.frozen? ⟨w.heap.size, 12, none⟩ = false := FZ.out _ R2.out 12
        have z13 : w2.cell? ⟨w.heap.size, 13, none⟩ = some (.slice none 0 0) := CZ.out _ R2.out 13 _ rfl
        have y13 : w2.frozen? ⟨w.heap.size, 13, none⟩ = false := FZ.out _ R2.out 13
        have z14 : w2.cell? ⟨w.heap.size, 14, none⟩ = some (.slice none 0 0) := CZ.out _ R2.out 14 _ rfl
        have y14 : w2.frozen? ⟨w.heap.size, 14, none⟩ = false := FZ.out _ R2.out 14
        go_wp2
        exact bodyPost_ret (rres15 (show 15 ≤ (S0.cells zeroR).size from Nat.le_refl _) (CZ.out _ R2.out) rfl rfl rfl) rfl (by rw [show o = _ from GO.out]; exact ⟨S0, rfl, zero_at _, below15 (Nat.le_refl _) (BW.out _ R2.out)⟩)
    · obtain rfl : k = t := by omega
      have GE := Lib.hid (show o = endP r by rw [PP.out, List.drop_eq_nil_of_le (by rw [HK.out]; exact Nat.le_refl _), parseL])
      have zf : wr.cell? ⟨w.heap.size + 1, 0, none⟩ = some (.int .i64 r.freq) := RR.out.cells 0 _ rfl
      by_cases h0 : r.freq = 0
      · have GO := Lib.hid (show o = (zeroR, 0, 7) by rw [GE.out]; unfold endP; rw [if_pos h0])
        have t1 : (r.freq == 0) = true := beq_iff_eq.2 h0
        have R2 := Lib.hid RR.out.below
        have z0 : wr.cell? ⟨w.heap.size, 0, none⟩ = some (.int .i64 0) := CZ.out _ R2.out 0 _ rfl
        have y0 : wr.frozen? ⟨w.heap.size, 0, none⟩ = false := FZ.out _ R2.out 0
        have z1 : wr.cell? ⟨w.heap.size, 1, none⟩ = some (.int .i64 0) := CZ.out _ R2.out 1 _ rfl
        have y1 : wr.frozen? ⟨w.heap.size, 1, none⟩ = false := FZ.out _ R2.out 1
        have z2 : wr.cell? ⟨w.heap.size, 2, none⟩ = some (.int .i64 0) := CZ.out _ R2.out 2 _ rfl
        have y2 : wr.frozen? ⟨w.heap.size, 2, none⟩ = false := FZ.out _ R2.out 2
        have z3 : wr.cell? ⟨w.heap.size, 3, none⟩ = some (.int .i64 0) := CZ.out _ R2.out 3 _ rfl
        have y3 : wr.frozen? ⟨w.heap.size, 3, none⟩ = false := FZ.out _ R2.out 3
        have z4 : wr.cell? ⟨w.heap.size, 4, none⟩ = some (.int .i64 0) := CZ.out _ R2.out 4 _ rfl
        have y4 : wr.frozen? ⟨w.heap.size, 4, none⟩ = false := FZ.out _ R2.out 4
        have z5 : wr.cell? ⟨w.heap.size, 5, none⟩ = some (.bool false) := CZ.out _ R2.out 5 _ rfl
        have y5 : wr.frozen? ⟨w.heap.size, 5, none⟩ = false := FZ.out _ R2.out 5
        have z6 : wr.cell? ⟨w.heap.size, 6, none⟩ = some (.slice none 0 0) := CZ.out _ R2.out 6 _ rfl
        have y6 : wr.frozen? ⟨w.heap.size, 6, none⟩ = false := FZ.out _ R2.out 6
        have z7 : wr.cell? ⟨w.heap.size, 7, none⟩ = some (.slice none 0 0) := CZ.out _ R2.out 7 _ rfl
        have y7 : wr.frozen? ⟨w.heap.size, 7, none⟩ = false := FZ.out _ R2.out 7
        have z8 : wr.cell? ⟨w.heap.size, 8, none⟩ = some (.slice none 0 0) := CZ.out _ R2.out 8 _ rfl
        have y8 : wr.frozen? ⟨w.heap.size, 8, none⟩ = false := FZ.out _ R2.out 8
        have z9 : wr.cell? ⟨w.heap.size, 9, none⟩ = some (.slice none 0 0) := CZ.out _ R2.out 9 _ rfl
        have y9 : wr.frozen? ⟨w.heap.size, 9, none⟩ = false := FZ.out _ R2.out 9
        have z10 : wr.cell? ⟨w.heap.size, 10, none⟩ = some (.slice none 0 0) := CZ.out _ R2.out 10 _ rfl
        have y10 : wr.frozen? ⟨w.heap.size, 10, none⟩ = false := FZ.out _ R2.out 10
        have z11 : wr.cell? ⟨w.heap.size, 11, none⟩ = some (.slice none 0 0) := CZ.out _ R2.out 11 _ rfl
        have y11 : wr.frozen? ⟨w.heap.size, 11, none⟩ = false := FZ.out _ R2.out 11
        have z12 : wr.cell? ⟨w.heap.size, 12, none⟩ = some (.slice none 0 0) := CZ.out _ R2.out 12 _ rfl
        have y12 : wr.frozen? ⟨w.heap.size, 12, none⟩ = false := FZ.out _ R2.out 12
        have z13 : wr.cell? ⟨w.heap.size, 13, none⟩ = some (.slice none 0 0) := CZ.out _ R2.out 13 _ rfl
        have y13 : wr.frozen? ⟨w.heap.size, 13, none⟩ = false := FZ.out _ R2.out 13
        have z14 : wr.cell? ⟨w.heap.size, 14, none⟩ = some (.slice none 0 0) := CZ.out _ R2.out 14 _ rfl
        have y14 : wr.frozen? ⟨w.heap.size, 14, none⟩ = false := FZ.out _ R2.out 14
        go_wp2
        exact bodyPost_ret (rres15 (show 15 ≤ (S0.cells zeroR).size from Nat.le_refl _) (CZ.out _ R2.out) rfl rfl rfl) rfl (by rw [show o = _ from GO.out]; exact ⟨S0, rfl, zero_at _, below15 (Nat.le_refl _) (BW.out _ R2.out)⟩)
      · have t1 : (r.freq == 0) = false := beq_eq_false_iff_ne.2 h0
        have c1 : wr.cell? ⟨w.heap.size + 1, 1, none⟩ = some (.int .i64 r.itv) := RR.out.cells 1 _ rfl
        have c2 : wr.cell? ⟨w.heap.size + 1, 2, none⟩ = some (.int .i64 r.cnt) := RR.out.cells 2 _ rfl
        have c3 : wr.cell? ⟨w.heap.size + 1, 3, none⟩ = some (.int .i64 r.til) := RR.out.cells 3 _ rfl
        have c4 : wr.cell? ⟨w.heap.size + 1, 4, none⟩ = some (.int .i64 r.wkst) := RR.out.cells 4 _ rfl
        have c5 : wr.cell? ⟨w.heap.size + 1, 5, none⟩ = some (.bool r.ends) := RR.out.cells 5 _ rfl
        have c6 : wr.cell? ⟨w.heap.size + 1, 6, none⟩ = some (.slice S.a6 S.n6 S.c6) := RR.out.cells 6 _ rfl
        have c7 : wr.cell? ⟨w.heap.size + 1, 7, none⟩ = some (.slice S.a7 S.n7 S.c7) := RR.out.cells 7 _ rfl
        have c8 : wr.cell? ⟨w.heap.size + 1, 8, none⟩ = some (.slice S.a8 S.n8 S.c8) := RR.out.cells 8 _ rfl
        have c9 : wr.cell? ⟨w.heap.size + 1, 9, none⟩ = some (.slice S.a9 S.n9 S.c9) := RR.out.cells 9 _ rfl
        have c10 : wr.cell? ⟨w.heap.size + 1, 10, none⟩ = some (.slice S.a10 S.n10 S.c10) := RR.out.cells 10 _ rfl
        have c11 : wr.cell? ⟨w.heap.size + 1, 11, none⟩ = some (.slice S.a11 S.n11 S.c11) := RR.out.cells 11 _ rfl
        have c12 : wr.cell? ⟨w.heap.size + 1, 12, none⟩ = some (.slice S.a12 S.n12 S.c12) := RR.out.cells 12 _ rfl
        have c13 : wr.cell? ⟨w.heap.size + 1, 13, none⟩ = some (.slice S.a13 S.n13 S.c13) := RR.out.cells 13 _ rfl
        have c14 : wr.cell? ⟨w.heap.size + 1, 14, none⟩ = some (.slice S.a14 S.n14 S.c14) := RR.out.cells 14 _ rfl
        cases hm : mayR r with
        | false =>
          have GO := Lib.hid (show o = (zeroR, 0, 1) by rw [GE.out]; unfold endP; rw [if_neg h0, if_neg (by rw [hm]; decide)])
          have MR := Lib.hid hm
          clear hm h0
          go_wp2_with fail
          refine (rmayR_is _ S r false RR.out.at_ MR.out).mono ?_
          rintro e w2 ⟨rfl, b2⟩
          have R2 := Lib.hid (RR.out.on (by omega) b2).below
          clear b2
          have z0 : w2.cell? ⟨w.heap.size, 0, none⟩ = some (.int .i64 0) := CZ.out _ R2.out 0 _ rfl
          have y0 : w2.frozen? ⟨w.heap.size, 0, none⟩ = false := FZ.out _ R2.out 0
          have z1 : w2.cell? ⟨w.heap.size, 1, none⟩ = some (.int .i64 0) := CZ.out _ R2.out 1 _ rfl
          have y1 : w2.frozen? ⟨w.heap.size, 1, none⟩ = false := FZ.out _ R2.out 1
          have z2 : w2.cell? ⟨w.heap.size, 2, none⟩ = some (.int .i64 0) := CZ.out _ R2.out 2 _ rfl
          have y2 : w2.frozen? ⟨w.heap.size, 2, none⟩ = false := FZ.out _ R2.out 2
          have z3 : w2.cell? ⟨w.heap.size, 3, none⟩ = some (.int .i64 0) := CZ.out _ R2.out 3 _ rfl
          have y3 : w2.frozen? ⟨w.heap.size, 3, none⟩ = false := FZ.out _ R2.out 3
          have z4 : w2.cell? ⟨w.heap.size, 4, none⟩ = some (.int .i64 0) := CZ.out _ R2.out 4 _ rfl
          have y4 : w2.frozen? ⟨w.heap.size, 4, none⟩ = false := FZ.out _ R2.out 4
          have z5 : w2.cell? ⟨w.heap.size, 5, none⟩ = some (.bool false) := CZ.out _ R2.out 5 _ rfl
          have y5 : w2.frozen? ⟨w.heap.size, 5, none⟩ = false := FZ.out _ R2.out 5
          have z6 : w2.cell? ⟨w.heap.size, 6, none⟩ = some (.slice none 0 0) := CZ.out _ R2.out 6 _ rfl
          have y6 : w2.frozen? ⟨w.heap.size, 6, none⟩ = false := FZ.out _ R2.out 6
          have z7 : w2.cell? ⟨w.heap.size, 7, none⟩ = some (.slice none 0 0) := CZ.out _ R2.out 7 _ rfl
          have y7 : w2.frozen? ⟨w.heap.size, 7, none⟩ = false := FZ.out _ R2.out 7
          have z8 : w2.cell? ⟨w.heap.size, 8, none⟩ = some (.slice none 0 0) := CZ.out _ R2.out 8 _ rfl
          have y8 : w2.frozen? ⟨w.heap.size, 8, none⟩ = false := FZ.out _ R2.out 8
          have z9 : w2.cell? ⟨w.heap.size, 9, none⟩ = some (.slice none 0 0) := CZ.out _ R2.out 9 _ rfl
          have y9 : w2.frozen? ⟨w.heap.size, 9, none⟩ = false := FZ.out _ R2.out 9
          have z10 : w2.cell? ⟨w.heap.size, 10, none⟩ = some (.slice none 0 0) := CZ.out _ R2.out 10 _ rfl
          have y10 : w2.frozen? ⟨w.heap.size, 10, none⟩ = false := FZ.out _ R2.out 10
          have z11 : w2.cell? ⟨w.heap.size, 11, none⟩ = some (.slice none 0 0) := CZ.out _ R2.out 11 _ rfl
          have y11 : w2.frozen? ⟨w.heap.size, 11, none⟩ = false := FZ.out _ R2.out 11
          have z12 : w2.cell? ⟨w.heap.size, 12, none⟩ = some (.slice none 0 0) := CZ.out _ R2.out 12 _ rfl
          have y12 : w2.frozen? ⟨w.heap.size, 12, none⟩ = false := FZ.out _ R2.out 12
          have z13 : w2.cell? ⟨w.heap.size, 13, none⟩ = some (.slice none 0 0) := CZ.out _ R2.out 13 _ rfl
          have y13 : w2.frozen? ⟨w.heap.size, 13, none⟩ = false := FZ.out _ R2.out 13
          have z14 : w2.cell? ⟨w.heap.size, 14, none⟩ = some (.slice none 0 0) := CZ.out _ R2.out 14 _ rfl
          have y14 : w2.frozen? ⟨w.heap.size, 14, none⟩ = false := FZ.out _ R2.out 14
          go_wp2
          exact bodyPost_ret (rres15 (show 15 ≤ (S0.cells zeroR).size from Nat.le_refl _) (CZ.out _ R2.out) rfl rfl rfl) rfl (by rw [show o = _ from GO.out]; exact ⟨S0, rfl, zero_at _, below15 (Nat.le_refl _) (BW.out _ R2.out)⟩)
        | true =>
          have GO := Lib.hid (show o = (r, 0, 0) by rw [GE.out]; unfold endP; rw [if_neg h0, if_pos hm])
          have MR := Lib.hid hm
          clear hm h0
          go_wp2_with fail
          refine (rmayR_is _ S r true RR.out.at_ MR.out).mono ?_
          rintro e w2 ⟨rfl, b2⟩
          have R3 := Lib.hid (RR.out.on (by omega) b2)
          have R2 := Lib.hid R3.out.below
          clear b2
          have z0 : w2.cell? ⟨w.heap.size, 0, none⟩ = some (.int .i64 0) := CZ.out _ R2.out 0 _ rfl
          have y0 : w2.frozen? ⟨w.heap.size, 0, none⟩ = false := FZ.out _ R2.out 0
          have z1 : w2.cell? ⟨w.heap.size, 1, none⟩ = some (.int .i64 0) := CZ.out _ R2.out 1 _ rfl
          have y1 : w2.frozen? ⟨w.heap.size, 1, none⟩ = false := FZ.out _ R2.out 1
          have z2 : w2.cell? ⟨w.heap.size, 2, none⟩ = some (.int .i64 0) := CZ.out _ R2.out 2 _ rfl
          have y2 : w2.frozen? ⟨w.heap.size, 2, none⟩ = false := FZ.out _ R2.out 2
          have z3 : w2.cell? ⟨w.heap.size, 3, none⟩ = some (.int .i64 0) := CZ.out _ R2.out 3 _ rfl
          have y3 : w2.frozen? ⟨w.heap.size, 3, none⟩ = false := FZ.out _ R2.out 3
          have z4 : w2.cell? ⟨w.heap.size, 4, none⟩ = some (.int .i64 0) := CZ.out _ R2.out 4 _ rfl
          have y4 : w2.frozen? ⟨w.heap.size, 4, none⟩ = false := FZ.out _ R2.out 4
          have z5 : w2.cell? ⟨w.heap.size, 5, none⟩ = some (.bool false) := CZ.out _ R2.out 5 _ rfl
          have y5 : w2.frozen? ⟨w.heap.size, 5, none⟩ = false := FZ.out _ R2.out 5
          have z6 : w2.cell? ⟨w.heap.size, 6, none⟩ = some (.slice none 0 0) := CZ.out _ R2.out 6 _ rfl
          have y6 : w2.frozen? ⟨w.heap.size, 6, none⟩ = false := FZ.out _ R2.out 6
          have z7 : w2.cell? ⟨w.heap.size, 7, none⟩ = some (.slice none 0 0) := CZ.out _ R2.out 7 _ rfl
          have y7 : w2.frozen? ⟨w.heap.size, 7, none⟩ = false := FZ.out _ R2.out 7
          have z8 : w2.cell? ⟨w.heap.size, 8, none⟩ = some (.slice none 0 0) := CZ.out _ R2.out 8 _ rfl
          have y8 : w2.frozen? ⟨w.heap.size, 8, none⟩ = false := FZ.out _ R2.out 8
          have z9 : w2.cell? ⟨w.heap.size, 9, none⟩ = some (.slice none 0 0) := CZ.out _ R2.out 9 _ rfl
          have y9 : w2.frozen? ⟨w.heap.size, 9, none⟩ = false := FZ.out _ R2.out 9
          have z10 : w2.cell? ⟨w.heap.size, 10, none⟩ = some (.slice none 0 0) := CZ.out _ R2.out 10 _ rfl
          have y10 : w2.frozen? ⟨w.heap.size, 10, none⟩ = false := FZ.out _ R2.out 10
          have z11 : w2.cell? ⟨w.heap.size, 11, none⟩ = some (.slice none 0 0) := CZ.out _ R2.out 11 _ rfl
          have y11 : w2.frozen? ⟨w.heap.size, 11, none⟩ = false := FZ.out _ R2.out 11
          have z12 : w2.cell? ⟨w.heap.size, 12, none⟩ = some (.slice none 0 0) := CZ.out _ R2.out 12 _ rfl
          have y12 : w2.frozen? ⟨w.heap.size, 12, none⟩ = false := FZ.out _ R2.out 12
          have z13 : w2.cell? ⟨w.heap.size, 13, none⟩ = some (.slice none 0 0) := CZ.out _ R2.out 13 _ rfl
          have y13 : w2.frozen? ⟨w.heap.size, 13, none⟩ = false := FZ.out _ R2.out 13
          have z14 : w2.cell? ⟨w.heap.size, 14, none⟩ = some (.slice none 0 0) := CZ.out _ R2.out 14 _ rfl
          have y14 : w2.frozen? ⟨w.heap.size, 14, none⟩ = false := FZ.out _ R2.out 14
          have c0 : w2.cell? ⟨w.heap.size + 1, 0, none⟩ = some (.int .i64 r.freq) := R3.out.cells 0 _ rfl
          have c1 : w2.cell? ⟨w.heap.size + 1, 1, none⟩ = some (.int .i64 r.itv) := R3.out.cells 1 _ rfl
          have c2 : w2.cell? ⟨w.heap.size + 1, 2, none⟩ = some (.int .i64 r.cnt) := R3.out.cells 2 _ rfl
          have c3 : w2.cell? ⟨w.heap.size + 1, 3, none⟩ = some (.int .i64 r.til) := R3.out.cells 3 _ rfl
          have c4 : w2.cell? ⟨w.heap.size + 1, 4, none⟩ = some (.int .i64 r.wkst) := R3.out.cells 4 _ rfl
          have c5 : w2.cell? ⟨w.heap.size + 1, 5, none⟩ = some (.bool r.ends) := R3.out.cells 5 _ rfl
          have c6 : w2.cell? ⟨w.heap.size + 1, 6, none⟩ = some (.slice S.a6 S.n6 S.c6) := R3.out.cells 6 _ rfl
          have c7 : w2.cell? ⟨w.heap.size + 1, 7, none⟩ = some (.slice S.a7 S.n7 S.c7) := R3.out.cells 7 _ rfl
          have c8 : w2.cell? ⟨w.heap.size + 1, 8, none⟩ = some (.slice S.a8 S.n8 S.c8) := R3.out.cells 8 _ rfl
          have c9 : w2.cell? ⟨w.heap.size + 1, 9, none⟩ = some (.slice S.a9 S.n9 S.c9) := R3.out.cells 9 _ rfl
          have c10 : w2.cell? ⟨w.heap.size + 1, 10, none⟩ = some (.slice S.a10 S.n10 S.c10) := R3.out.cells 10 _ rfl
          have c11 : w2.cell? ⟨w.heap.size + 1, 11, none⟩ = some (.slice S.a11 S.n11 S.c11) := R3.out.cells 11 _ rfl
          have c12 : w2.cell? ⟨w.heap.size + 1, 12, none⟩ = some (.slice S.a12 S.n12 S.c12) := R3.out.cells 12 _ rfl
          have c13 : w2.cell? ⟨w.heap.size + 1, 13, none⟩ = some (.slice S.a13 S.n13 S.c13) := R3.out.cells 13 _ rfl
          have c14 : w2.cell? ⟨w.heap.size + 1, 14, none⟩ = some (.slice S.a14 S.n14 S.c14) := R3.out.cells 14 _ rfl
          go_wp2
          exact bodyPost_ret (rres15 (show 15 ≤ (S0.cells zeroR).size from Nat.le_refl _) (CZ.out _ R2.out) rfl rfl rfl) rfl (by rw [show o = _ from GO.out]; exact ⟨S, rfl, ((R3.out.at_).on15 (far_low R3.out.zero (Nat.lt_succ_self _))), below15 (Nat.le_refl _) (BW.out _ R2.out)⟩)
end Go.Proofs.YtajgagmpdhmbkaaGreatDoor.Ru
