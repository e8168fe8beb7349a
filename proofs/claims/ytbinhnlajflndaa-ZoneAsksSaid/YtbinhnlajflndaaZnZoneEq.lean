/- The walk of vokref.Zone: two zones held against each other, field by field. -/
import Derived.Test.YtbinhnlajflndaaZnSame
import Derived.Deep.RegionHeld3
set_option linter.unusedVariables false
namespace Go.Proofs.Ytbinhnlajflndaa.Zn
open Go.RowKit Cv St

theorem two_al (w : World) (x y : Obj) : Below w.heap.size w ((w.alloc x).alloc y).drew := (((Below.refl _ _).alloc (Nat.le_refl _) _).alloc (by simp) _).trans (Below.refl _ _).drew
set_option maxRecDepth 100000 in
set_option maxHeartbeats 8000000 in
theorem zoneEq_own (w : World) (b f d g : Int) (A A' B B' : Option Addr) (n c n' c' m e m' e' : Nat) (l k : List Sh) (ys xs : List Yr) (hz : ZnAt w A n A' n' l ys) (hy : ZnAt w B m B' m' k xs) :
    Calls Try.prog 24 #[.agg #[.int .i64 b, .slice A n c, .slice A' n' c', .int .i64 f], .agg #[.int .i64 d, .slice B m e, .slice B' m' e', .int .i64 g]] w fun e w' => e = .returned (.bool (sameB b f l ys d g k xs)) ∧ Below w.heap.size w w' := by
  have ba : Below w.heap.size w ((w.alloc (.cells #[.int .i64 b, .slice A n c, .slice A' n' c', .int .i64 f] 25)).alloc (.cells #[.int .i64 d, .slice B m e, .slice B' m' e', .int .i64 g] 25)) := ((Below.refl _ _).alloc (Nat.le_refl _) _).alloc (by simp) _
  obtain ⟨Z1, Z2⟩ := two_new w 25 25 #[.int .i64 b, .slice A n c, .slice A' n' c', .int .i64 f] #[.int .i64 d, .slice B m e, .slice B' m' e', .int .i64 g]
  obtain ⟨⟨en, hc⟩, ⟨en', hc'⟩, sn, yn⟩ := hz
  obtain ⟨⟨ek, hk⟩, ⟨ek', hk'⟩, sm, ym⟩ := hy
  have EN := Lib.hid en; have EN' := Lib.hid en'; have EK := Lib.hid ek; have EK' := Lib.hid ek'
  clear en en' ek ek'
  by_cases hb : b = d
  · have tb : ((b : Int) != d) = false := by rw [bne_eq_false_iff_eq]; exact hb
    have HB := Lib.hid hb
    clear hb
    by_cases hf : f = g
    · have tf : ((f : Int) != g) = false := by rw [bne_eq_false_iff_eq]; exact hf
      have HF := Lib.hid hf
      clear hf
      by_cases hn : n = m
      · subst hn
        by_cases hn' : n' = m'
        · subst hn'
          go_enter Try.func24, Try.ntmps24
          go_wp2
          obtain ⟨w2, ew2⟩ : ∃ w2, ((w.alloc (.cells #[.int .i64 b, .slice A n c, .slice A' n' c', .int .i64 f] 25)).alloc (.cells #[.int .i64 d, .slice B n e, .slice B' n' e', .int .i64 g] 25)) = w2 := ⟨_, rfl⟩
          rw [ew2] at ba Z1 Z2 ⊢
          clear ew2
          have lz := Z1.lt; have ly := Z2.lt
          have z1 := Z1.cell 1; have z2 := Z1.cell 2; have y1 := Z2.cell 1; have y2 := Z2.cell 2
          simp at z1 z2 y1 y2
          go_loopw [5] (fun i wr => ∃ t : Nat, t ≤ n ∧ i = .int .i64 t ∧ Hid (shTo l k t) ∧ ∃ q : Nat, wr = w2.drewN q) (fun i _ => n - (intOf i).toNat)
          case atStart => exact ⟨0, Nat.zero_le _, rfl, Lib.hid (fun j h => by omega), 0, rfl⟩
          case round =>
            obtain ⟨t, ht, rfl, D, q, rfl⟩ := hrel
            by_cases hlt : t < n
            · have t0 : (0 : Int) ≤ (t : Int) := by omega
              have t1 : (t : Int) < (n : Int) := by omega
              obtain ⟨bl, off, rfl, hbl, hcc⟩ := hc (by omega)
              obtain ⟨bk, ofk, rfl, hbk, hkk⟩ := hk (by omega)
              obtain ⟨c0, c1⟩ := hcc t hlt
              obtain ⟨d0, d1⟩ := hkk t hlt
              replace c0 := (ba.cell (p := ⟨bl, _, none⟩) hbl).trans c0
              replace c1 := (ba.cell (p := ⟨bl, _, none⟩) hbl).trans c1
              replace d0 := (ba.cell (p := ⟨bk, _, none⟩) hbk).trans d0
              replace d1 := (ba.cell (p := ⟨bk, _, none⟩) hbk).trans d1
              clear hcc hkk hc hk hc' hk'
              by_cases p1 : (at_ l t).t = (at_ k t).t
              · have s1 : ((at_ l t).t != (at_ k t).t) = false := by rw [bne_eq_false_iff_eq]; exact p1
                by_cases p2 : (at_ l t).o = (at_ k t).o
                · have s2 : ((at_ l t).o != (at_ k t).o) = false := by rw [bne_eq_false_iff_eq]; exact p2
                  have X := Lib.hid (D.out.succ (by cases h1 : at_ l t; cases h2 : at_ k t; rw [h1, h2] at p1 p2; simp only at p1 p2; rw [p1, p2]))
                  clear p1 p2
                  go_wp2
                  go_big_quiet (fail)
                  go_wp2
                  go_roundw
                  case rel => exact ⟨t + 1, by omega, by go_num, X, _, rfl⟩
                  case measure => simp [intOf]; omega
                · have s2 : ((at_ l t).o != (at_ k t).o) = true := by rw [bne_iff_ne]; exact p2
                  have F := Lib.hid (show false = sameB b f l ys d g k xs from no_bool (fun h => p2 (by rw [h.2.1])))
                  clear p1 p2
                  go_wp2
                  go_big_quiet (fail)
                  go_wp2
                  go_ret
                  exact ⟨ret_bool F.out, (ba.trans (Below.drewN' _ _ _)).trans (Below.drewN' _ _ _)⟩
              · have s1 : ((at_ l t).t != (at_ k t).t) = true := by rw [bne_iff_ne]; exact p1
                have F := Lib.hid (show false = sameB b f l ys d g k xs from no_bool (fun h => p1 (by rw [h.2.1])))
                clear p1
                go_wp2
                go_big_quiet (fail)
                go_wp2
                go_ret
                exact ⟨ret_bool F.out, (ba.trans (Below.drewN' _ _ _)).trans (Below.drewN' _ _ _)⟩
            · obtain rfl : n = t := by omega
              have SL := Lib.hid (sh_ext (l := l) (m := k) (by rw [← EN.out, ← EK.out]) (by rw [← EN.out]; exact D.out))
              replace ba := ba.trans (Below.drewN' _ _ q)
              replace Z1 : Blk (w2.drewN q) _ _ _ := Z1
              replace Z2 : Blk (w2.drewN q) _ _ _ := Z2
              go_wp2
              clear lz ly z1 z2 y1 y2 D
              generalize w2.drewN q = w3 at *
              go_loopw [6] (fun i wr => ∃ t : Nat, t ≤ n' ∧ i = .int .i64 t ∧ Hid (yrTo ys xs t) ∧ (Blk wr w.heap.size 25 #[.int .i64 b, .slice A n c, .slice A' n' c', .int .i64 f] ∧ Blk wr (w.heap.size + 1) 25 #[.int .i64 d, .slice B n e, .slice B' n' e', .int .i64 g]) ∧ Below w.heap.size w wr) (fun i _ => n' - (intOf i).toNat)
              case atStart => exact ⟨0, Nat.zero_le _, rfl, Lib.hid (fun j h => by omega), ⟨Z1, Z2⟩, ba⟩
              case round =>
                obtain ⟨t, ht, rfl, D, ⟨Z3, Z4⟩, hB⟩ := hrel
                have lz := Z3.lt; have ly := Z4.lt
                have z2 := Z3.cell 2; have y2 := Z4.cell 2
                simp at z2 y2
                by_cases hlt : t < n'
                · have t0 : (0 : Int) ≤ (t : Int) := by omega
                  have t1 : (t : Int) < (n' : Int) := by omega
                  obtain ⟨bl, off, rfl, hbl, hcc⟩ := hc' (by omega)
                  obtain ⟨bk, ofk, rfl, hbk, hkk⟩ := hk' (by omega)
                  obtain ⟨c0, c1, c2, c3, c4⟩ := hcc t hlt
                  obtain ⟨d0, d1, d2, d3, d4⟩ := hkk t hlt
                  replace c0 := (hB.cell (p := ⟨bl, _, none⟩) hbl).trans c0
                  replace d0 := (hB.cell (p := ⟨bk, _, none⟩) hbk).trans d0
                  replace c1 := (hB.cell (p := ⟨bl, _, none⟩) hbl).trans c1
                  replace d1 := (hB.cell (p := ⟨bk, _, none⟩) hbk).trans d1
                  replace c2 := (hB.cell (p := ⟨bl, _, none⟩) hbl).trans c2
                  replace d2 := (hB.cell (p := ⟨bk, _, none⟩) hbk).trans d2
                  replace c3 := (hB.cell (p := ⟨bl, _, none⟩) hbl).trans c3
                  replace d3 := (hB.cell (p := ⟨bk, _, none⟩) hbk).trans d3
                  replace c4 := (hB.cell (p := ⟨bl, _, none⟩) hbl).trans c4
                  replace d4 := (hB.cell (p := ⟨bk, _, none⟩) hbk).trans d4
                  have lb := Nat.lt_of_lt_of_le hbl hB.size
                  have lk := Nat.lt_of_lt_of_le hbk hB.size
                  clear hcc hkk hc' hk'
                  by_cases p0 : (yat ys t).m = (yat xs t).m
                  · have s0 : ((yat ys t).m != (yat xs t).m) = false := by rw [bne_eq_false_iff_eq]; exact p0
                    by_cases p1 : (yat ys t).k = (yat xs t).k
                    · have s1 : ((yat ys t).k != (yat xs t).k) = false := by rw [bne_eq_false_iff_eq]; exact p1
                      by_cases p2 : (yat ys t).d = (yat xs t).d
                      · have s2 : ((yat ys t).d != (yat xs t).d) = false := by rw [bne_eq_false_iff_eq]; exact p2
                        by_cases p3 : (yat ys t).s = (yat xs t).s
                        · have s3 : ((yat ys t).s != (yat xs t).s) = false := by rw [bne_eq_false_iff_eq]; exact p3
                          by_cases p4 : (yat ys t).o = (yat xs t).o
                          · have s4 : ((yat ys t).o != (yat xs t).o) = false := by rw [bne_eq_false_iff_eq]; exact p4
                            have X := Lib.hid (D.out.succ (by cases h1 : yat ys t; cases h2 : yat xs t; rw [h1, h2] at p0 p1 p2 p3 p4; simp only at p0 p1 p2 p3 p4; rw [p0, p1, p2, p3, p4]))
                            clear p0 p1 p2 p3 p4
                            go_wp2_with fail
                            go_region_held3 (fun v => v.cell? ⟨w.heap.size, 2, none⟩ = some (.slice (some ⟨bl, off, none⟩) n' c') ∧ v.cell? ⟨w.heap.size + 1, 2, none⟩ = some (.slice (some ⟨bk, ofk, none⟩) n' e') ∧ v.cell? ⟨bl, off + t * 5, none⟩ = some (.int .i64 (yat ys t).m) ∧ v.cell? ⟨bk, ofk + t * 5, none⟩ = some (.int .i64 (yat xs t).m) ∧ v.cell? ⟨bl, off + t * 5 + 1, none⟩ = some (.int .i64 (yat ys t).k) ∧ v.cell? ⟨bk, ofk + t * 5 + 1, none⟩ = some (.int .i64 (yat xs t).k) ∧ v.cell? ⟨bl, off + t * 5 + 2, none⟩ = some (.int .i64 (yat ys t).d) ∧ v.cell? ⟨bk, ofk + t * 5 + 2, none⟩ = some (.int .i64 (yat xs t).d) ∧ v.cell? ⟨bl, off + t * 5 + 3, none⟩ = some (.int .i64 (yat ys t).s) ∧ v.cell? ⟨bk, ofk + t * 5 + 3, none⟩ = some (.int .i64 (yat xs t).s) ∧ v.cell? ⟨bl, off + t * 5 + 4, none⟩ = some (.int .i64 (yat ys t).o) ∧ v.cell? ⟨bk, ofk + t * 5 + 4, none⟩ = some (.int .i64 (yat xs t).o)) (go_keep) (fail)
                            all_goals
                              go_wp2
                              go_roundw
                              case rel => exact ⟨t + 1, by omega, by go_num, X, ⟨Z3.below (two_al _ _ _) Z3.lt, Z4.below (two_al _ _ _) Z4.lt⟩, hB.trans ((two_al _ _ _).mono hB.size)⟩
                              case measure => simp [intOf]; omega
                          · have s4 : ((yat ys t).o != (yat xs t).o) = true := by rw [bne_iff_ne]; exact p4
                            have F := Lib.hid (show false = sameB b f l ys d g k xs from no_bool (fun h => p4 (by rw [h.2.2.1])))
                            clear p0 p1 p2 p3 p4
                            go_wp2_with fail
                            go_region_held3 (fun v => v.cell? ⟨w.heap.size, 2, none⟩ = some (.slice (some ⟨bl, off, none⟩) n' c') ∧ v.cell? ⟨w.heap.size + 1, 2, none⟩ = some (.slice (some ⟨bk, ofk, none⟩) n' e') ∧ v.cell? ⟨bl, off + t * 5, none⟩ = some (.int .i64 (yat ys t).m) ∧ v.cell? ⟨bk, ofk + t * 5, none⟩ = some (.int .i64 (yat xs t).m) ∧ v.cell? ⟨bl, off + t * 5 + 1, none⟩ = some (.int .i64 (yat ys t).k) ∧ v.cell? ⟨bk, ofk + t * 5 + 1, none⟩ = some (.int .i64 (yat xs t).k) ∧ v.cell? ⟨bl, off + t * 5 + 2, none⟩ = some (.int .i64 (yat ys t).d) ∧ v.cell? ⟨bk, ofk + t * 5 + 2, none⟩ = some (.int .i64 (yat xs t).d) ∧ v.cell? ⟨bl, off + t * 5 + 3, none⟩ = some (.int .i64 (yat ys t).s) ∧ v.cell? ⟨bk, ofk + t * 5 + 3, none⟩ = some (.int .i64 (yat xs t).s) ∧ v.cell? ⟨bl, off + t * 5 + 4, none⟩ = some (.int .i64 (yat ys t).o) ∧ v.cell? ⟨bk, ofk + t * 5 + 4, none⟩ = some (.int .i64 (yat xs t).o)) (go_keep) (fail)
                            all_goals
                              go_wp2
                              go_ret
                              exact ⟨ret_bool F.out, by first | exact (hB.alloc hB.size _).alloc (by have := hB.size; simp; omega) _ | exact (hB.trans ((((Below.refl _ _).drew).alloc (by have := hB.size; simpa using this) _).alloc (by have := hB.size; simp; omega) _))⟩
                        · have s3 : ((yat ys t).s != (yat xs t).s) = true := by rw [bne_iff_ne]; exact p3
                          have F := Lib.hid (show false = sameB b f l ys d g k xs from no_bool (fun h => p3 (by rw [h.2.2.1])))
                          clear p0 p1 p2 p3
                          go_wp2_with fail
                          go_region_held3 (fun v => v.cell? ⟨w.heap.size, 2, none⟩ = some (.slice (some ⟨bl, off, none⟩) n' c') ∧ v.cell? ⟨w.heap.size + 1, 2, none⟩ = some (.slice (some ⟨bk, ofk, none⟩) n' e') ∧ v.cell? ⟨bl, off + t * 5, none⟩ = some (.int .i64 (yat ys t).m) ∧ v.cell? ⟨bk, ofk + t * 5, none⟩ = some (.int .i64 (yat xs t).m) ∧ v.cell? ⟨bl, off + t * 5 + 1, none⟩ = some (.int .i64 (yat ys t).k) ∧ v.cell? ⟨bk, ofk + t * 5 + 1, none⟩ = some (.int .i64 (yat xs t).k) ∧ v.cell? ⟨bl, off + t * 5 + 2, none⟩ = some (.int .i64 (yat ys t).d) ∧ v.cell? ⟨bk, ofk + t * 5 + 2, none⟩ = some (.int .i64 (yat xs t).d) ∧ v.cell? ⟨bl, off + t * 5 + 3, none⟩ = some (.int .i64 (yat ys t).s) ∧ v.cell? ⟨bk, ofk + t * 5 + 3, none⟩ = some (.int .i64 (yat xs t).s) ∧ v.cell? ⟨bl, off + t * 5 + 4, none⟩ = some (.int .i64 (yat ys t).o) ∧ v.cell? ⟨bk, ofk + t * 5 + 4, none⟩ = some (.int .i64 (yat xs t).o)) (go_keep) (fail)
                          all_goals
                            go_wp2
                            go_ret
                            exact ⟨ret_bool F.out, by first | exact (hB.alloc hB.size _).alloc (by have := hB.size; simp; omega) _ | exact (hB.trans ((((Below.refl _ _).drew).alloc (by have := hB.size; simpa using this) _).alloc (by have := hB.size; simp; omega) _))⟩
                      · have s2 : ((yat ys t).d != (yat xs t).d) = true := by rw [bne_iff_ne]; exact p2
                        have F := Lib.hid (show false = sameB b f l ys d g k xs from no_bool (fun h => p2 (by rw [h.2.2.1])))
                        clear p0 p1 p2
                        go_wp2_with fail
                        go_region_held3 (fun v => v.cell? ⟨w.heap.size, 2, none⟩ = some (.slice (some ⟨bl, off, none⟩) n' c') ∧ v.cell? ⟨w.heap.size + 1, 2, none⟩ = some (.slice (some ⟨bk, ofk, none⟩) n' e') ∧ v.cell? ⟨bl, off + t * 5, none⟩ = some (.int .i64 (yat ys t).m) ∧ v.cell? ⟨bk, ofk + t * 5, none⟩ = some (.int .i64 (yat xs t).m) ∧ v.cell? ⟨bl, off + t * 5 + 1, none⟩ = some (.int .i64 (yat ys t).k) ∧ v.cell? ⟨bk, ofk + t * 5 + 1, none⟩ = some (.int .i64 (yat xs t).k) ∧ v.cell? ⟨bl, off + t * 5 + 2, none⟩ = some (.int .i64 (yat ys t).d) ∧ v.cell? ⟨bk, ofk + t * 5 + 2, none⟩ = some (.int .i64 (yat xs t).d) ∧ v.cell? ⟨bl, off + t * 5 + 3, none⟩ = some (.int .i64 (yat ys t).s) ∧ v.cell? ⟨bk, ofk + t * 5 + 3, none⟩ = some (.int .i64 (yat xs t).s) ∧ v.cell? ⟨bl, off + t * 5 + 4, none⟩ = some (.int .i64 (yat ys t).o) ∧ v.cell? ⟨bk, ofk + t * 5 + 4, none⟩ = some (.int .i64 (yat xs t).o)) (go_keep) (fail)
                        all_goals
                          go_wp2
                          go_ret
                          exact ⟨ret_bool F.out, by first | exact (hB.alloc hB.size _).alloc (by have := hB.size; simp; omega) _ | exact (hB.trans ((((Below.refl _ _).drew).alloc (by have := hB.size; simpa using this) _).alloc (by have := hB.size; simp; omega) _))⟩
                    · have s1 : ((yat ys t).k != (yat xs t).k) = true := by rw [bne_iff_ne]; exact p1
                      have F := Lib.hid (show false = sameB b f l ys d g k xs from no_bool (fun h => p1 (by rw [h.2.2.1])))
                      clear p0 p1
                      go_wp2_with fail
                      go_region_held3 (fun v => v.cell? ⟨w.heap.size, 2, none⟩ = some (.slice (some ⟨bl, off, none⟩) n' c') ∧ v.cell? ⟨w.heap.size + 1, 2, none⟩ = some (.slice (some ⟨bk, ofk, none⟩) n' e') ∧ v.cell? ⟨bl, off + t * 5, none⟩ = some (.int .i64 (yat ys t).m) ∧ v.cell? ⟨bk, ofk + t * 5, none⟩ = some (.int .i64 (yat xs t).m) ∧ v.cell? ⟨bl, off + t * 5 + 1, none⟩ = some (.int .i64 (yat ys t).k) ∧ v.cell? ⟨bk, ofk + t * 5 + 1, none⟩ = some (.int .i64 (yat xs t).k) ∧ v.cell? ⟨bl, off + t * 5 + 2, none⟩ = some (.int .i64 (yat ys t).d) ∧ v.cell? ⟨bk, ofk + t * 5 + 2, none⟩ = some (.int .i64 (yat xs t).d) ∧ v.cell? ⟨bl, off + t * 5 + 3, none⟩ = some (.int .i64 (yat ys t).s) ∧ v.cell? ⟨bk, ofk + t * 5 + 3, none⟩ = some (.int .i64 (yat xs t).s) ∧ v.cell? ⟨bl, off + t * 5 + 4, none⟩ = some (.int .i64 (yat ys t).o) ∧ v.cell? ⟨bk, ofk + t * 5 + 4, none⟩ = some (.int .i64 (yat xs t).o)) (go_keep) (fail)
                      all_goals
                        go_wp2
                        go_ret
                        exact ⟨ret_bool F.out, by first | exact (hB.alloc hB.size _).alloc (by have := hB.size; simp; omega) _ | exact (hB.trans ((((Below.refl _ _).drew).alloc (by have := hB.size; simpa using this) _).alloc (by have := hB.size; simp; omega) _))⟩
                  · have s0 : ((yat ys t).m != (yat xs t).m) = true := by rw [bne_iff_ne]; exact p0
                    have F := Lib.hid (show false = sameB b f l ys d g k xs from no_bool (fun h => p0 (by rw [h.2.2.1])))
                    clear p0
                    go_wp2_with fail
                    go_region_held3 (fun v => v.cell? ⟨w.heap.size, 2, none⟩ = some (.slice (some ⟨bl, off, none⟩) n' c') ∧ v.cell? ⟨w.heap.size + 1, 2, none⟩ = some (.slice (some ⟨bk, ofk, none⟩) n' e') ∧ v.cell? ⟨bl, off + t * 5, none⟩ = some (.int .i64 (yat ys t).m) ∧ v.cell? ⟨bk, ofk + t * 5, none⟩ = some (.int .i64 (yat xs t).m) ∧ v.cell? ⟨bl, off + t * 5 + 1, none⟩ = some (.int .i64 (yat ys t).k) ∧ v.cell? ⟨bk, ofk + t * 5 + 1, none⟩ = some (.int .i64 (yat xs t).k) ∧ v.cell? ⟨bl, off + t * 5 + 2, none⟩ = some (.int .i64 (yat ys t).d) ∧ v.cell? ⟨bk, ofk + t * 5 + 2, none⟩ = some (.int .i64 (yat xs t).d) ∧ v.cell? ⟨bl, off + t * 5 + 3, none⟩ = some (.int .i64 (yat ys t).s) ∧ v.cell? ⟨bk, ofk + t * 5 + 3, none⟩ = some (.int .i64 (yat xs t).s) ∧ v.cell? ⟨bl, off + t * 5 + 4, none⟩ = some (.int .i64 (yat ys t).o) ∧ v.cell? ⟨bk, ofk + t * 5 + 4, none⟩ = some (.int .i64 (yat xs t).o)) (go_keep) (fail)
                    all_goals
                      go_wp2
                      go_ret
                      exact ⟨ret_bool F.out, by first | exact (hB.alloc hB.size _).alloc (by have := hB.size; simp; omega) _ | exact (hB.trans ((((Below.refl _ _).drew).alloc (by have := hB.size; simpa using this) _).alloc (by have := hB.size; simp; omega) _))⟩
                · obtain rfl : n' = t := by omega
                  have F := Lib.hid (show true = sameB b f l ys d g k xs from (decide_eq_true ⟨HB.out, SL.out, yr_ext (by rw [← EN'.out, ← EK'.out]) (by rw [← EN'.out]; exact D.out), HF.out⟩).symm)
                  go_wp2
                  go_ret
                  exact ⟨ret_bool F.out, hB⟩
        · have F := Lib.hid (show false = sameB b f l ys d g k xs from no_bool (fun h => hn' (by rw [EN'.out, EK'.out, h.2.2.1])))
          have tn : ((n' : Int) != m') = true := by rw [bne_iff_ne]; omega
          clear hn'
          clear hc hc' hk hk'
          go_enter Try.func24, Try.ntmps24
          go_wp2
          go_ret
          exact ⟨ret_bool F.out, ba⟩
      · have F := Lib.hid (show false = sameB b f l ys d g k xs from no_bool (fun h => hn (by rw [EN.out, EK.out, h.2.1])))
        have tn : ((n : Int) != m) = true := by rw [bne_iff_ne]; omega
        clear hn
        clear hc hc' hk hk'
        go_enter Try.func24, Try.ntmps24
        go_wp2
        go_ret
        exact ⟨ret_bool F.out, ba⟩
    · have tf : ((f : Int) != g) = true := by rw [bne_iff_ne]; exact hf
      have F := Lib.hid (show false = sameB b f l ys d g k xs from no_bool (fun h => hf h.2.2.2))
      clear hf
      clear hc hc' hk hk'
      go_enter Try.func24, Try.ntmps24
      go_wp2
      go_ret
      exact ⟨ret_bool F.out, ba⟩
  · have tb : ((b : Int) != d) = true := by rw [bne_iff_ne]; exact hb
    have F := Lib.hid (show false = sameB b f l ys d g k xs from no_bool (fun h => hb h.1))
    clear hb
    clear hc hc' hk hk'
    go_enter Try.func24, Try.ntmps24
    go_wp2
    go_ret
    exact ⟨ret_bool F.out, ba⟩
end Go.Proofs.Ytbinhnlajflndaa.Zn
