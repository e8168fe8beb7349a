/- Grafted: walks and mathematics of elder chapters that this law needs. -/
import Derived.Test.YtddnnljfgfcplaaGreatDoorRuX2
set_option linter.unusedVariables false
namespace Go.Proofs.YtddnnljfgfcplaaGreatDoor.Ru
open Lib (hid)
open Go.RowKit Cv St
set_option maxRecDepth 100000 in
set_option maxHeartbeats 8000000 in
/-- convoker/rule.Same -/
theorem same_is (w : World) (S T : RS) (r q : Ru) (x : Bool) (h : RuAt w S r) (g : RuAt w T q) (hx : decide (r = q) = x) :
    Calls Tryz.prog 37 #[S.val r, T.val q] w fun e w' => e = .returned (.bool x) /\ Below w.heap.size w w' := by
  rw [ru_eq] at hx
  obtain ⟨ra6, rn6, rc6, ra7, rn7, rc7, ra8, rn8, rc8, ra9, rn9, rc9, ra10, rn10, rc10, ra11, rn11, rc11, ra12, rn12, rc12, ra13, rn13, rc13, ra14, rn14, rc14⟩ := S
  obtain ⟨qa6, qn6, qc6, qa7, qn7, qc7, qa8, qn8, qc8, qa9, qn9, qc9, qa10, qn10, qc10, qa11, qn11, qc11, qa12, qn12, qc12, qa13, qn13, qc13, qa14, qn14, qc14⟩ := T
  obtain ⟨rfreq, ritv, rcnt, rtil, rwkst, rends, rmon, rweek, ryday, rmday, rday, rhour, rminu, rsec, rpos⟩ := r
  obtain ⟨qfreq, qitv, qcnt, qtil, qwkst, qends, qmon, qweek, qyday, qmday, qday, qhour, qminu, qsec, qpos⟩ := q
  simp only at hx
  obtain ⟨h6, h7, h8, h9, h10, h11, h12, h13, h14, rl6, rl7, rl8, rl9, rl10, rl11, rl12, rl13, rl14⟩ := h
  obtain ⟨g6, g7, g8, g9, g10, g11, g12, g13, g14, ql6, ql7, ql8, ql9, ql10, ql11, ql12, ql13, ql14⟩ := g
  simp only at rl6 rl7 rl8 rl9 rl10 rl11 rl12 rl13 rl14 ql6 ql7 ql8 ql9 ql10 ql11 ql12 ql13 ql14
  obtain ⟨x0, e0⟩ : ∃ p, decide (rfreq = qfreq) = p := ⟨_, rfl⟩
  obtain ⟨x1, e1⟩ : ∃ p, decide (ritv = qitv) = p := ⟨_, rfl⟩
  obtain ⟨x2, e2⟩ : ∃ p, decide (rcnt = qcnt) = p := ⟨_, rfl⟩
  obtain ⟨x3, e3⟩ : ∃ p, decide (rtil = qtil) = p := ⟨_, rfl⟩
  obtain ⟨x4, e4⟩ : ∃ p, decide (rwkst = qwkst) = p := ⟨_, rfl⟩
  obtain ⟨x5, e5⟩ : ∃ p, decide (rends = qends) = p := ⟨_, rfl⟩
  obtain ⟨x6, e6⟩ : ∃ p, decide (rmon = qmon) = p := ⟨_, rfl⟩
  obtain ⟨x7, e7⟩ : ∃ p, decide (rweek = qweek) = p := ⟨_, rfl⟩
  obtain ⟨x8, e8⟩ : ∃ p, decide (ryday = qyday) = p := ⟨_, rfl⟩
  obtain ⟨x9, e9⟩ : ∃ p, decide (rmday = qmday) = p := ⟨_, rfl⟩
  obtain ⟨x10, e10⟩ : ∃ p, decide (rday = qday) = p := ⟨_, rfl⟩
  obtain ⟨x11, e11⟩ : ∃ p, decide (rhour = qhour) = p := ⟨_, rfl⟩
  obtain ⟨x12, e12⟩ : ∃ p, decide (rminu = qminu) = p := ⟨_, rfl⟩
  obtain ⟨x13, e13⟩ : ∃ p, decide (rsec = qsec) = p := ⟨_, rfl⟩
  obtain ⟨x14, e14⟩ : ∃ p, decide (rpos = qpos) = p := ⟨_, rfl⟩
  rw [e0, e1, e2, e3, e4, e5, e6, e7, e8, e9, e10, e11, e12, e13, e14] at hx
  have B2 := (alloc_below w (.cells #[.int .i64 rfreq, .int .i64 ritv, .int .i64 rcnt, .int .i64 rtil, .int .i64 rwkst, .bool rends, .slice ra6 rn6 rc6, .slice ra7 rn7 rc7, .slice ra8 rn8 rc8, .slice ra9 rn9 rc9, .slice ra10 rn10 rc10, .slice ra11 rn11 rc11, .slice ra12 rn12 rc12, .slice ra13 rn13 rc13, .slice ra14 rn14 rc14] 25)).trans ((alloc_below _ (.cells #[.int .i64 qfreq, .int .i64 qitv, .int .i64 qcnt, .int .i64 qtil, .int .i64 qwkst, .bool qends, .slice qa6 qn6 qc6, .slice qa7 qn7 qc7, .slice qa8 qn8 qc8, .slice qa9 qn9 qc9, .slice qa10 qn10 qc10, .slice qa11 qn11 qc11, .slice qa12 qn12 qc12, .slice qa13 qn13 qc13, .slice qa14 qn14 qc14] 25)).mono (by simp))
  have H6 := hid (h6.below B2); have K6 := hid (g6.below B2)
  have H7 := hid (h7.below B2); have K7 := hid (g7.below B2)
  have H8 := hid (h8.below B2); have K8 := hid (g8.below B2)
  have H9 := hid (h9.below B2); have K9 := hid (g9.below B2)
  have H10 := hid (h10.below B2); have K10 := hid (g10.below B2)
  have H11 := hid (h11.below B2); have K11 := hid (g11.below B2)
  have H12 := hid (h12.below B2); have K12 := hid (g12.below B2)
  have H13 := hid (h13.below B2); have K13 := hid (g13.below B2)
  have H14 := hid (h14.below B2); have K14 := hid (g14.below B2)
  have E6 := hid e6
  have E7 := hid e7
  have E8 := hid e8
  have E9 := hid e9
  have E10 := hid e10
  have E11 := hid e11
  have E12 := hid e12
  have E13 := hid e13
  have E14 := hid e14
  have t0 : ((rfreq : Int) == qfreq) = x0 := by rw [<- e0]; by_cases hh : rfreq = qfreq <;> simp [hh]
  have t1 : ((ritv : Int) == qitv) = x1 := by rw [<- e1]; by_cases hh : ritv = qitv <;> simp [hh]
  have t2 : ((rcnt : Int) == qcnt) = x2 := by rw [<- e2]; by_cases hh : rcnt = qcnt <;> simp [hh]
  have t3 : ((rtil : Int) == qtil) = x3 := by rw [<- e3]; by_cases hh : rtil = qtil <;> simp [hh]
  have t4 : ((rwkst : Int) == qwkst) = x4 := by rw [<- e4]; by_cases hh : rwkst = qwkst <;> simp [hh]
  have t5 : (rends == qends) = x5 := by rw [<- e5]; cases rends <;> cases qends <;> rfl
  clear h6 g6 h7 g7 h8 g8 h9 g9 h10 g10 h11 g11 h12 g12 h13 g13 h14 g14 e0 e1 e2 e3 e4 e5 e6 e7 e8 e9 e10 e11 e12 e13 e14;have B3 := hid B2
  clear B2
  show Calls Tryz.prog 37 #[.agg #[.int .i64 rfreq, .int .i64 ritv, .int .i64 rcnt, .int .i64 rtil, .int .i64 rwkst, .bool rends, .slice ra6 rn6 rc6, .slice ra7 rn7 rc7, .slice ra8 rn8 rc8, .slice ra9 rn9 rc9, .slice ra10 rn10 rc10, .slice ra11 rn11 rc11, .slice ra12 rn12 rc12, .slice ra13 rn13 rc13, .slice ra14 rn14 rc14], .agg #[.int .i64 qfreq, .int .i64 qitv, .int .i64 qcnt, .int .i64 qtil, .int .i64 qwkst, .bool qends, .slice qa6 qn6 qc6, .slice qa7 qn7 qc7, .slice qa8 qn8 qc8, .slice qa9 qn9 qc9, .slice qa10 qn10 qc10, .slice qa11 qn11 qc11, .slice qa12 qn12 qc12, .slice qa13 qn13 qc13, .slice qa14 qn14 qc14]] w _
  cases x0
  · have G := hid (show false = x by rw [<- hx]; rfl)
    clear hx
    go_enter Tryz.func37, Tryz.ntmps37
    go_wp2;go_ret;exact ⟨ret_bool G.out, B3.out⟩
  ·
    cases x1
    · have G := hid (show false = x by rw [<- hx]; rfl)
      clear hx
      go_enter Tryz.func37, Tryz.ntmps37
      go_wp2;go_ret;exact ⟨ret_bool G.out, B3.out⟩
    ·
      cases x2
      · have G := hid (show false = x by rw [<- hx]; rfl)
        clear hx
        go_enter Tryz.func37, Tryz.ntmps37
        go_wp2;go_ret;exact ⟨ret_bool G.out, B3.out⟩
      ·
        cases x3
        · have G := hid (show false = x by rw [<- hx]; rfl)
          clear hx
          go_enter Tryz.func37, Tryz.ntmps37
          go_wp2;go_ret;exact ⟨ret_bool G.out, B3.out⟩
        ·
          cases x4
          · have G := hid (show false = x by rw [<- hx]; rfl)
            clear hx
            go_enter Tryz.func37, Tryz.ntmps37
            go_wp2;go_ret;exact ⟨ret_bool G.out, B3.out⟩
          ·
            cases x5
            · have G := hid (show false = x by rw [<- hx]; rfl)
              clear hx
              go_enter Tryz.func37, Tryz.ntmps37
              go_wp2;go_ret;exact ⟨ret_bool G.out, B3.out⟩
            ·
              cases x6
              · have G := hid (show false = x by rw [<- hx]; rfl)
                clear hx
                go_enter Tryz.func37, Tryz.ntmps37
                go_wp2_with fail;refine (equalI_d _ ra6 qa6 rn6 rc6 qn6 qc6 rmon qmon _ H6.out K6.out (by omega) (by omega) E6.out).mono ?_;rintro e w1 ⟨rfl, q6, rfl⟩;go_wp2;go_ret;exact ⟨ret_bool G.out, B3.out.trans (Below.drewN' _ _ _)⟩
              ·
                cases x7
                · have G := hid (show false = x by rw [<- hx]; rfl)
                  clear hx
                  go_enter Tryz.func37, Tryz.ntmps37
                  go_wp2_with fail;refine (equalI_d _ ra6 qa6 rn6 rc6 qn6 qc6 rmon qmon _ H6.out K6.out (by omega) (by omega) E6.out).mono ?_;rintro e w1 ⟨rfl, q6, rfl⟩;go_wp2_with fail;refine (equalI_d _ ra7 qa7 rn7 rc7 qn7 qc7 rweek qweek _ (H7.out.below (Below.drewN' _ _ _)) (K7.out.below (Below.drewN' _ _ _)) (by omega) (by omega) E7.out).mono ?_;rintro e w1 ⟨rfl, q7, rfl⟩;go_wp2;go_ret;exact ⟨ret_bool G.out, B3.out.trans (Below.drewN' _ _ _)⟩
                ·
                  cases x8
                  · have G := hid (show false = x by rw [<- hx]; rfl)
                    clear hx
                    go_enter Tryz.func37, Tryz.ntmps37
                    go_wp2_with fail;refine (equalI_d _ ra6 qa6 rn6 rc6 qn6 qc6 rmon qmon _ H6.out K6.out (by omega) (by omega) E6.out).mono ?_;rintro e w1 ⟨rfl, q6, rfl⟩;go_wp2_with fail;refine (equalI_d _ ra7 qa7 rn7 rc7 qn7 qc7 rweek qweek _ (H7.out.below (Below.drewN' _ _ _)) (K7.out.below (Below.drewN' _ _ _)) (by omega) (by omega) E7.out).mono ?_;rintro e w1 ⟨rfl, q7, rfl⟩;go_wp2_with fail;refine (equalI_d _ ra8 qa8 rn8 rc8 qn8 qc8 ryday qyday _ (H8.out.below (Below.drewN' _ _ _)) (K8.out.below (Below.drewN' _ _ _)) (by omega) (by omega) E8.out).mono ?_;rintro e w1 ⟨rfl, q8, rfl⟩;go_wp2;go_ret;exact ⟨ret_bool G.out, B3.out.trans (Below.drewN' _ _ _)⟩
                  ·
                    cases x9
                    · have G := hid (show false = x by rw [<- hx]; rfl)
                      clear hx
                      go_enter Tryz.func37, Tryz.ntmps37
                      go_wp2_with fail;refine (equalI_d _ ra6 qa6 rn6 rc6 qn6 qc6 rmon qmon _ H6.out K6.out (by omega) (by omega) E6.out).mono ?_;rintro e w1 ⟨rfl, q6, rfl⟩;go_wp2_with fail;refine (equalI_d _ ra7 qa7 rn7 rc7 qn7 qc7 rweek qweek _ (H7.out.below (Below.drewN' _ _ _)) (K7.out.below (Below.drewN' _ _ _)) (by omega) (by omega) E7.out).mono ?_;rintro e w1 ⟨rfl, q7, rfl⟩;go_wp2_with fail;refine (equalI_d _ ra8 qa8 rn8 rc8 qn8 qc8 ryday qyday _ (H8.out.below (Below.drewN' _ _ _)) (K8.out.below (Below.drewN' _ _ _)) (by omega) (by omega) E8.out).mono ?_;rintro e w1 ⟨rfl, q8, rfl⟩;go_wp2_with fail;refine (equalI_d _ ra9 qa9 rn9 rc9 qn9 qc9 rmday qmday _ (H9.out.below (Below.drewN' _ _ _)) (K9.out.below (Below.drewN' _ _ _)) (by omega) (by omega) E9.out).mono ?_;rintro e w1 ⟨rfl, q9, rfl⟩;go_wp2;go_ret;exact ⟨ret_bool G.out, B3.out.trans (Below.drewN' _ _ _)⟩
                    ·
                      cases x10
                      · have G := hid (show false = x by rw [<- hx]; rfl)
                        clear hx
                        go_enter Tryz.func37, Tryz.ntmps37
                        go_wp2_with fail;refine (equalI_d _ ra6 qa6 rn6 rc6 qn6 qc6 rmon qmon _ H6.out K6.out (by omega) (by omega) E6.out).mono ?_;rintro e w1 ⟨rfl, q6, rfl⟩;go_wp2_with fail;refine (equalI_d _ ra7 qa7 rn7 rc7 qn7 qc7 rweek qweek _ (H7.out.below (Below.drewN' _ _ _)) (K7.out.below (Below.drewN' _ _ _)) (by omega) (by omega) E7.out).mono ?_;rintro e w1 ⟨rfl, q7, rfl⟩;go_wp2_with fail;refine (equalI_d _ ra8 qa8 rn8 rc8 qn8 qc8 ryday qyday _ (H8.out.below (Below.drewN' _ _ _)) (K8.out.below (Below.drewN' _ _ _)) (by omega) (by omega) E8.out).mono ?_;rintro e w1 ⟨rfl, q8, rfl⟩;go_wp2_with fail;refine (equalI_d _ ra9 qa9 rn9 rc9 qn9 qc9 rmday qmday _ (H9.out.below (Below.drewN' _ _ _)) (K9.out.below (Below.drewN' _ _ _)) (by omega) (by omega) E9.out).mono ?_;rintro e w1 ⟨rfl, q9, rfl⟩;go_wp2_with fail;refine (equalD_d _ ra10 qa10 rn10 rc10 qn10 qc10 rday qday _ (H10.out.below (Below.drewN' _ _ _)) (K10.out.below (Below.drewN' _ _ _)) (by omega) (by omega) E10.out).mono ?_;rintro e w1 ⟨rfl, q10, rfl⟩;go_wp2;go_ret;exact ⟨ret_bool G.out, B3.out.trans (Below.drewN' _ _ _)⟩
                      ·
                        cases x11
                        · have G := hid (show false = x by rw [<- hx]; rfl)
                          clear hx
                          go_enter Tryz.func37, Tryz.ntmps37
                          go_wp2_with fail;refine (equalI_d _ ra6 qa6 rn6 rc6 qn6 qc6 rmon qmon _ H6.out K6.out (by omega) (by omega) E6.out).mono ?_;rintro e w1 ⟨rfl, q6, rfl⟩;go_wp2_with fail;refine (equalI_d _ ra7 qa7 rn7 rc7 qn7 qc7 rweek qweek _ (H7.out.below (Below.drewN' _ _ _)) (K7.out.below (Below.drewN' _ _ _)) (by omega) (by omega) E7.out).mono ?_;rintro e w1 ⟨rfl, q7, rfl⟩;go_wp2_with fail;refine (equalI_d _ ra8 qa8 rn8 rc8 qn8 qc8 ryday qyday _ (H8.out.below (Below.drewN' _ _ _)) (K8.out.below (Below.drewN' _ _ _)) (by omega) (by omega) E8.out).mono ?_;rintro e w1 ⟨rfl, q8, rfl⟩;go_wp2_with fail;refine (equalI_d _ ra9 qa9 rn9 rc9 qn9 qc9 rmday qmday _ (H9.out.below (Below.drewN' _ _ _)) (K9.out.below (Below.drewN' _ _ _)) (by omega) (by omega) E9.out).mono ?_;rintro e w1 ⟨rfl, q9, rfl⟩;go_wp2_with fail;refine (equalD_d _ ra10 qa10 rn10 rc10 qn10 qc10 rday qday _ (H10.out.below (Below.drewN' _ _ _)) (K10.out.below (Below.drewN' _ _ _)) (by omega) (by omega) E10.out).mono ?_;rintro e w1 ⟨rfl, q10, rfl⟩;go_wp2_with fail;refine (equalI_d _ ra11 qa11 rn11 rc11 qn11 qc11 rhour qhour _ (H11.out.below (Below.drewN' _ _ _)) (K11.out.below (Below.drewN' _ _ _)) (by omega) (by omega) E11.out).mono ?_;rintro e w1 ⟨rfl, q11, rfl⟩;go_wp2;go_ret;exact ⟨ret_bool G.out, B3.out.trans (Below.drewN' _ _ _)⟩
                        ·
                          cases x12
                          · have G := hid (show false = x by rw [<- hx]; rfl)
                            clear hx
                            go_enter Tryz.func37, Tryz.ntmps37
                            go_wp2_with fail;refine (equalI_d _ ra6 qa6 rn6 rc6 qn6 qc6 rmon qmon _ H6.out K6.out (by omega) (by omega) E6.out).mono ?_;rintro e w1 ⟨rfl, q6, rfl⟩;go_wp2_with fail;refine (equalI_d _ ra7 qa7 rn7 rc7 qn7 qc7 rweek qweek _ (H7.out.below (Below.drewN' _ _ _)) (K7.out.below (Below.drewN' _ _ _)) (by omega) (by omega) E7.out).mono ?_;rintro e w1 ⟨rfl, q7, rfl⟩;go_wp2_with fail;refine (equalI_d _ ra8 qa8 rn8 rc8 qn8 qc8 ryday qyday _ (H8.out.below (Below.drewN' _ _ _)) (K8.out.below (Below.drewN' _ _ _)) (by omega) (by omega) E8.out).mono ?_;rintro e w1 ⟨rfl, q8, rfl⟩;go_wp2_with fail;refine (equalI_d _ ra9 qa9 rn9 rc9 qn9 qc9 rmday qmday _ (H9.out.below (Below.drewN' _ _ _)) (K9.out.below (Below.drewN' _ _ _)) (by omega) (by omega) E9.out).mono ?_;rintro e w1 ⟨rfl, q9, rfl⟩;go_wp2_with fail;refine (equalD_d _ ra10 qa10 rn10 rc10 qn10 qc10 rday qday _ (H10.out.below (Below.drewN' _ _ _)) (K10.out.below (Below.drewN' _ _ _)) (by omega) (by omega) E10.out).mono ?_;rintro e w1 ⟨rfl, q10, rfl⟩;go_wp2_with fail;refine (equalI_d _ ra11 qa11 rn11 rc11 qn11 qc11 rhour qhour _ (H11.out.below (Below.drewN' _ _ _)) (K11.out.below (Below.drewN' _ _ _)) (by omega) (by omega) E11.out).mono ?_;rintro e w1 ⟨rfl, q11, rfl⟩;go_wp2_with fail;refine (equalI_d _ ra12 qa12 rn12 rc12 qn12 qc12 rminu qminu _ (H12.out.below (Below.drewN' _ _ _)) (K12.out.below (Below.drewN' _ _ _)) (by omega) (by omega) E12.out).mono ?_;rintro e w1 ⟨rfl, q12, rfl⟩;go_wp2;go_ret;exact ⟨ret_bool G.out, B3.out.trans (Below.drewN' _ _ _)⟩
                          ·
                            cases x13
                            · have G := hid (show false = x by rw [<- hx]; rfl)
                              clear hx
                              go_enter Tryz.func37, Tryz.ntmps37
                              go_wp2_with fail;refine (equalI_d _ ra6 qa6 rn6 rc6 qn6 qc6 rmon qmon _ H6.out K6.out (by omega) (by omega) E6.out).mono ?_;rintro e w1 ⟨rfl, q6, rfl⟩;go_wp2_with fail;refine (equalI_d _ ra7 qa7 rn7 rc7 qn7 qc7 rweek qweek _ (H7.out.below (Below.drewN' _ _ _)) (K7.out.below (Below.drewN' _ _ _)) (by omega) (by omega) E7.out).mono ?_;rintro e w1 ⟨rfl, q7, rfl⟩;go_wp2_with fail;refine (equalI_d _ ra8 qa8 rn8 rc8 qn8 qc8 ryday qyday _ (H8.out.below (Below.drewN' _ _ _)) (K8.out.below (Below.drewN' _ _ _)) (by omega) (by omega) E8.out).mono ?_;rintro e w1 ⟨rfl, q8, rfl⟩;go_wp2_with fail;refine (equalI_d _ ra9 qa9 rn9 rc9 qn9 qc9 rmday qmday _ (H9.out.below (Below.drewN' _ _ _)) (K9.out.below (Below.drewN' _ _ _)) (by omega) (by omega) E9.out).mono ?_;rintro e w1 ⟨rfl, q9, rfl⟩;go_wp2_with fail;refine (equalD_d _ ra10 qa10 rn10 rc10 qn10 qc10 rday qday _ (H10.out.below (Below.drewN' _ _ _)) (K10.out.below (Below.drewN' _ _ _)) (by omega) (by omega) E10.out).mono ?_;rintro e w1 ⟨rfl, q10, rfl⟩;go_wp2_with fail;refine (equalI_d _ ra11 qa11 rn11 rc11 qn11 qc11 rhour qhour _ (H11.out.below (Below.drewN' _ _ _)) (K11.out.below (Below.drewN' _ _ _)) (by omega) (by omega) E11.out).mono ?_;rintro e w1 ⟨rfl, q11, rfl⟩;go_wp2_with fail;refine (equalI_d _ ra12 qa12 rn12 rc12 qn12 qc12 rminu qminu _ (H12.out.below (Below.drewN' _ _ _)) (K12.out.below (Below.drewN' _ _ _)) (by omega) (by omega) E12.out).mono ?_;rintro e w1 ⟨rfl, q12, rfl⟩;go_wp2_with fail;refine (equalI_d _ ra13 qa13 rn13 rc13 qn13 qc13 rsec qsec _ (H13.out.below (Below.drewN' _ _ _)) (K13.out.below (Below.drewN' _ _ _)) (by omega) (by omega) E13.out).mono ?_;rintro e w1 ⟨rfl, q13, rfl⟩;go_wp2;go_ret;exact ⟨ret_bool G.out, B3.out.trans (Below.drewN' _ _ _)⟩
                            ·
                              cases x14
                              · have G := hid (show false = x by rw [<- hx]; rfl)
                                clear hx
                                go_enter Tryz.func37, Tryz.ntmps37
                                go_wp2_with fail;refine (equalI_d _ ra6 qa6 rn6 rc6 qn6 qc6 rmon qmon _ H6.out K6.out (by omega) (by omega) E6.out).mono ?_;rintro e w1 ⟨rfl, q6, rfl⟩;go_wp2_with fail;refine (equalI_d _ ra7 qa7 rn7 rc7 qn7 qc7 rweek qweek _ (H7.out.below (Below.drewN' _ _ _)) (K7.out.below (Below.drewN' _ _ _)) (by omega) (by omega) E7.out).mono ?_;rintro e w1 ⟨rfl, q7, rfl⟩;go_wp2_with fail;refine (equalI_d _ ra8 qa8 rn8 rc8 qn8 qc8 ryday qyday _ (H8.out.below (Below.drewN' _ _ _)) (K8.out.below (Below.drewN' _ _ _)) (by omega) (by omega) E8.out).mono ?_;rintro e w1 ⟨rfl, q8, rfl⟩;go_wp2_with fail;refine (equalI_d _ ra9 qa9 rn9 rc9 qn9 qc9 rmday qmday _ (H9.out.below (Below.drewN' _ _ _)) (K9.out.below (Below.drewN' _ _ _)) (by omega) (by omega) E9.out).mono ?_;rintro e w1 ⟨rfl, q9, rfl⟩;go_wp2_with fail;refine (equalD_d _ ra10 qa10 rn10 rc10 qn10 qc10 rday qday _ (H10.out.below (Below.drewN' _ _ _)) (K10.out.below (Below.drewN' _ _ _)) (by omega) (by omega) E10.out).mono ?_;rintro e w1 ⟨rfl, q10, rfl⟩;go_wp2_with fail;refine (equalI_d _ ra11 qa11 rn11 rc11 qn11 qc11 rhour qhour _ (H11.out.below (Below.drewN' _ _ _)) (K11.out.below (Below.drewN' _ _ _)) (by omega) (by omega) E11.out).mono ?_;rintro e w1 ⟨rfl, q11, rfl⟩;go_wp2_with fail;refine (equalI_d _ ra12 qa12 rn12 rc12 qn12 qc12 rminu qminu _ (H12.out.below (Below.drewN' _ _ _)) (K12.out.below (Below.drewN' _ _ _)) (by omega) (by omega) E12.out).mono ?_;rintro e w1 ⟨rfl, q12, rfl⟩;go_wp2_with fail;refine (equalI_d _ ra13 qa13 rn13 rc13 qn13 qc13 rsec qsec _ (H13.out.below (Below.drewN' _ _ _)) (K13.out.below (Below.drewN' _ _ _)) (by omega) (by omega) E13.out).mono ?_;rintro e w1 ⟨rfl, q13, rfl⟩;go_wp2_with fail;refine (equalI_d _ ra14 qa14 rn14 rc14 qn14 qc14 rpos qpos _ (H14.out.below (Below.drewN' _ _ _)) (K14.out.below (Below.drewN' _ _ _)) (by omega) (by omega) E14.out).mono ?_;rintro e w1 ⟨rfl, q14, rfl⟩;go_wp2;go_ret;exact ⟨ret_bool G.out, B3.out.trans (Below.drewN' _ _ _)⟩
                              · have G := hid (show true = x by rw [<- hx]; rfl)
                                clear hx
                                go_enter Tryz.func37, Tryz.ntmps37
                                go_wp2_with fail;refine (equalI_d _ ra6 qa6 rn6 rc6 qn6 qc6 rmon qmon _ H6.out K6.out (by omega) (by omega) E6.out).mono ?_;rintro e w1 ⟨rfl, q6, rfl⟩;go_wp2_with fail;refine (equalI_d _ ra7 qa7 rn7 rc7 qn7 qc7 rweek qweek _ (H7.out.below (Below.drewN' _ _ _)) (K7.out.below (Below.drewN' _ _ _)) (by omega) (by omega) E7.out).mono ?_;rintro e w1 ⟨rfl, q7, rfl⟩;go_wp2_with fail;refine (equalI_d _ ra8 qa8 rn8 rc8 qn8 qc8 ryday qyday _ (H8.out.below (Below.drewN' _ _ _)) (K8.out.below (Below.drewN' _ _ _)) (by omega) (by omega) E8.out).mono ?_;rintro e w1 ⟨rfl, q8, rfl⟩;go_wp2_with fail;refine (equalI_d _ ra9 qa9 rn9 rc9 qn9 qc9 rmday qmday _ (H9.out.below (Below.drewN' _ _ _)) (K9.out.below (Below.drewN' _ _ _)) (by omega) (by omega) E9.out).mono ?_;rintro e w1 ⟨rfl, q9, rfl⟩;go_wp2_with fail;refine (equalD_d _ ra10 qa10 rn10 rc10 qn10 qc10 rday qday _ (H10.out.below (Below.drewN' _ _ _)) (K10.out.below (Below.drewN' _ _ _)) (by omega) (by omega) E10.out).mono ?_;rintro e w1 ⟨rfl, q10, rfl⟩;go_wp2_with fail;refine (equalI_d _ ra11 qa11 rn11 rc11 qn11 qc11 rhour qhour _ (H11.out.below (Below.drewN' _ _ _)) (K11.out.below (Below.drewN' _ _ _)) (by omega) (by omega) E11.out).mono ?_;rintro e w1 ⟨rfl, q11, rfl⟩;go_wp2_with fail;refine (equalI_d _ ra12 qa12 rn12 rc12 qn12 qc12 rminu qminu _ (H12.out.below (Below.drewN' _ _ _)) (K12.out.below (Below.drewN' _ _ _)) (by omega) (by omega) E12.out).mono ?_;rintro e w1 ⟨rfl, q12, rfl⟩;go_wp2_with fail;refine (equalI_d _ ra13 qa13 rn13 rc13 qn13 qc13 rsec qsec _ (H13.out.below (Below.drewN' _ _ _)) (K13.out.below (Below.drewN' _ _ _)) (by omega) (by omega) E13.out).mono ?_;rintro e w1 ⟨rfl, q13, rfl⟩;go_wp2_with fail;refine (equalI_d _ ra14 qa14 rn14 rc14 qn14 qc14 rpos qpos _ (H14.out.below (Below.drewN' _ _ _)) (K14.out.below (Below.drewN' _ _ _)) (by omega) (by omega) E14.out).mono ?_;rintro e w1 ⟨rfl, q14, rfl⟩;go_wp2;go_ret;exact ⟨ret_bool G.out, B3.out.trans (Below.drewN' _ _ _)⟩
end Go.Proofs.YtddnnljfgfcplaaGreatDoor.Ru
