/- Two logs side by side: what each call of voklaw15.WalPlays does to them. -/
import Derived.Test.YtniphbfoppocfaaDoorWlTw
import Derived.Test.YtniphbfoppocfaaDoorWlPr
import Derived.Test.YtniphbfoppocfaaDoorDkLt
set_option linter.unusedVariables false
namespace Go.Proofs.YtniphbfoppocfaaDoor.Wl
open Go.RowKit Fr Dk

/-- two disks apart, among the law's own memory -/
structure TwoD (W w : World) (q : Nat) (R Y : Int) (l : List UInt8) (dv : Value) (z : Nat) (R2 Y2 : Int) (l2 : List UInt8) (du : Value) : Prop where
  d : DkV 62 w q R Y l dv
  e : DkV 32 w z R2 Y2 l2 du
  hp : ∀ k, Ft q dv k → W.heap.size ≤ k
  hx : ∀ k, Ft z du k → W.heap.size ≤ k
  ap : ∀ k, Ft q dv k → ¬ Ft z du k
  at_ : Below W.heap.size W w
theorem dk_all {T : TypeId} {w : World} {p : Nat} {R Y : Int} {l : List UInt8} {v : Value} (h : DkV T w p R Y l v) : ∀ k, Ft p v k → k < w.heap.size := fun k hk => by
  rcases hk with rfl | hk
  · exact h.lt
  · exact (World.ownsRow.lt h.own k hk).2
section
variable {W w w' : World} {q z : Nat} {R Y R2 Y2 R' Y' : Int} {l l2 l' : List UInt8} {dv du dv' du' : Value}
theorem TwoD.nextP (h : TwoD W w q R Y l dv z R2 Y2 l2 du) (d : DkV 62 w' q R' Y' l' dv') (k : Kp (Ft q dv) w w') (n : New w dv dv') : TwoD W w' q R' Y' l' dv' z R2 Y2 l2 du :=
  ⟨d, h.e.kp k fun g hg y => h.ap g y hg, fun g hg => (ft_of_new n g hg).elim (h.hp g) (Nat.le_trans h.at_.size), h.hx,
    fun g hg y => (ft_of_new n g hg).elim (fun c => h.ap g c y) (fun c => by have := dk_all h.e g y; omega), h.at_.trans (k.below h.at_.size h.hp)⟩
theorem TwoD.nextX (h : TwoD W w q R Y l dv z R2 Y2 l2 du) (d : DkV 32 w' z R' Y' l' du') (k : Kp (Ft z du) w w') (n : New w du du') : TwoD W w' q R Y l dv z R' Y' l' du' :=
  ⟨h.d.kp k fun g hg y => h.ap g hg y, d, h.hp, fun g hg => (ft_of_new n g hg).elim (h.hx g) (Nat.le_trans h.at_.size),
    fun g hg y => (ft_of_new n g y).elim (fun c => h.ap g hg c) (fun c => by have := dk_all h.d g hg; omega), h.at_.trans (k.below h.at_.size h.hx)⟩
/-- a log over the first -/
structure MixD (W w : World) (p q : Nat) (R Y : Int) (l : List UInt8) (dv v : Value) (S : List SlB) (z : Nat) (R2 Y2 : Int) (l2 : List UInt8) (du : Value) : Prop where
  a : LgV 67 62 w p q R Y l dv v S
  e : DkV 32 w z R2 Y2 l2 du
  ha : ∀ k, Al p q dv v S k → W.heap.size ≤ k
  hx : ∀ k, Ft z du k → W.heap.size ≤ k
  ap : ∀ k, Al p q dv v S k → ¬ Ft z du k
  at_ : Below W.heap.size W w
theorem TwoD.openA {e : Ending} (h : TwoD W w q R Y l dv z R2 Y2 l2 du) (o : OpenR 67 62 w q R Y l dv e w') :
    ∃ p v S dv', e = .returned (.tuple #[.pointer (some ⟨p, 0, none⟩), .int .i64 (l.length - openN l : Int)]) ∧ MixD W w' p q R (min Y (openN l : Int)) (l.take (openN l)) dv' v S z R2 Y2 l2 du ∧ bytesS S = (scanL l).1 := by
  obtain ⟨p, v, S, dv', he, g, hs, k, n⟩ := o
  exact ⟨p, v, S, dv', he, ⟨g, h.e.kp k fun i hi y => h.ap i y hi, fun i hi => (n i hi).elim (h.hp i) (Nat.le_trans h.at_.size), h.hx,
    fun i hi y => (n i hi).elim (fun c => h.ap i c y) (fun c => by have := dk_all h.e i y; omega), h.at_.trans (k.below h.at_.size h.hp)⟩, hs⟩
theorem MixD.openB {e : Ending} {p : Nat} {v : Value} {S : List SlB} (h : MixD W w p q R Y l dv v S z R2 Y2 l2 du) (o : OpenR 44 32 w z R2 Y2 l2 du e w') :
    ∃ x u U du', e = .returned (.tuple #[.pointer (some ⟨x, 0, none⟩), .int .i64 (l2.length - openN l2 : Int)]) ∧ TwoL W w' p q R Y l dv v S x z R2 (min Y2 (openN l2 : Int)) (l2.take (openN l2)) du' u U ∧ bytesS U = (scanL l2).1 := by
  obtain ⟨x, u, U, du', he, g, hs, k, n⟩ := o
  exact ⟨x, u, U, du', he, ⟨h.a.kp k fun i hi y => h.ap i hi y, g, h.ha, fun i hi => (n i hi).elim (h.hx i) (Nat.le_trans h.at_.size),
    fun i hi y => (n i y).elim (fun c => h.ap i hi c) (fun c => by have := h.a.all i hi; omega), h.at_.trans (k.below h.at_.size h.hx)⟩, hs⟩
end
/-- what the law's own arguments hold is no part of a log -/
theorem far_of {W : World} {A : Option Addr} {n : Nat} {b : List UInt8} (h : BsAt W A n b) {F : Nat → Prop} (hF : ∀ k, F k → W.heap.size ≤ k) : 0 < n → ∀ g off, A = some ⟨g, off, none⟩ → ¬ F g := fun h0 g off e z => by
  obtain ⟨b', off', e', hb, -⟩ := h.2 h0
  rw [e] at e'
  injection e' with e'
  injection e' with e'
  have := hF g z
  omega
section
variable {W w : World} {p q x z : Nat} {R Y R2 Y2 : Int} {l l2 : List UInt8} {dv v du u : Value} {S U : List SlB}
theorem two_app (h : TwoL W w p q R Y l dv v S x z R2 Y2 l2 du u U) {A : Option Addr} {n c : Nat} {b : List UInt8} (T : Tab W) (hb : BsAt W A n b) (hA : A = none → c = 0) (hl : l.length ≤ 90000) (hn : n ≤ 1000000) (hS : S.length ≤ 100000) (hR0 : 0 ≤ R) (hR : R ≤ 2000000000) : Calls Tryd.prog 15 #[.pointer (some ⟨p, 0, none⟩), .slice A n c] w fun e w' => ∃ dv' v' S', e = .returned (.int .i64 (wlE R l b : Nat)) ∧ TwoL W w' p q R Y (wlL R l b) dv' v' S' x z R2 Y2 l2 du u U ∧ bytesS S' = wlR R l b (bytesS S) := by
  refine (lapp_is w p q R Y l dv v S A n c b (T.on h.at_) h.a (hb.below h.at_) hA hl hn hS hR0 hR (far_of hb h.ha)).mono ?_
  rintro e w' ⟨rfl, a1, a2, a3, g, hr, k, n⟩
  exact ⟨a1, a2, a3, rfl, h.nextA g k n, hr⟩
theorem two_rapp (h : TwoL W w p q R Y l dv v S x z R2 Y2 l2 du u U) {A : Option Addr} {n c : Nat} {b : List UInt8} (hb : BsAt W A n b) (hA : A = none → c = 0) (hl : l2.length ≤ 90000) (hn : n ≤ 1000000) (hS : U.length ≤ 100000) (hR0 : 0 ≤ R2) (hR : R2 ≤ 2000000000) : Calls Tryd.prog 16 #[.pointer (some ⟨x, 0, none⟩), .slice A n c] w fun e w' => ∃ du' u' U', e = .returned (.int .i64 (wlE R2 l2 b : Nat)) ∧ TwoL W w' p q R Y l dv v S x z R2 Y2 (wlL R2 l2 b) du' u' U' ∧ bytesS U' = wlR R2 l2 b (bytesS U) := by
  refine (rlapp_is w x z R2 Y2 l2 du u U A n c b h.b (hb.below h.at_) hA hl hn hS hR0 hR (far_of hb h.hb)).mono ?_
  rintro e w' ⟨rfl, a1, a2, a3, g, hr, k, n⟩
  exact ⟨a1, a2, a3, rfl, h.nextB g k n, hr⟩
theorem two_put (h : TwoL W w p q R Y l dv v S x z R2 Y2 l2 du u U) {A : Option Addr} {n c : Nat} {b : List UInt8} (T : Tab W) (hb : BsAt W A n b) (hA : A = none → c = 0) (hl : l.length ≤ 90000) (hn : n ≤ 1000000) (hS : S.length ≤ 100000) (hR0 : 0 ≤ R) (hR : R ≤ 2000000000) : Calls Tryd.prog 19 #[.pointer (some ⟨p, 0, none⟩), .slice A n c] w fun e w' => ∃ dv' v' S', e = .returned (.int .i64 (wlE R l b : Nat)) ∧ TwoL W w' p q R (wrY R Y l b) (wlL R l b) dv' v' S' x z R2 Y2 l2 du u U ∧ bytesS S' = wlR R l b (bytesS S) := by
  refine (lput_is w p q R Y l dv v S A n c b (T.on h.at_) h.a (hb.below h.at_) hA hl hn hS hR0 hR (far_of hb h.ha)).mono ?_
  rintro e w' ⟨rfl, a1, a2, a3, g, hr, k, n⟩
  exact ⟨a1, a2, a3, rfl, h.nextA g k n, hr⟩
theorem two_rput (h : TwoL W w p q R Y l dv v S x z R2 Y2 l2 du u U) {A : Option Addr} {n c : Nat} {b : List UInt8} (hb : BsAt W A n b) (hA : A = none → c = 0) (hl : l2.length ≤ 90000) (hn : n ≤ 1000000) (hS : U.length ≤ 100000) (hR0 : 0 ≤ R2) (hR : R2 ≤ 2000000000) : Calls Tryd.prog 20 #[.pointer (some ⟨x, 0, none⟩), .slice A n c] w fun e w' => ∃ du' u' U', e = .returned (.int .i64 (wlE R2 l2 b : Nat)) ∧ TwoL W w' p q R Y l dv v S x z R2 (wrY R2 Y2 l2 b) (wlL R2 l2 b) du' u' U' ∧ bytesS U' = wlR R2 l2 b (bytesS U) := by
  refine (rwrite_is w x z R2 Y2 l2 du u U A n c b h.b (hb.below h.at_) hA hl hn hS hR0 hR (far_of hb h.hb)).mono ?_
  rintro e w' ⟨rfl, a1, a2, a3, g, hr, k, n⟩
  exact ⟨a1, a2, a3, rfl, h.nextB g k n, hr⟩
theorem two_check (h : TwoL W w p q R Y l dv v S x z R2 Y2 l2 du u U) {A : Option Addr} {N c : Nat} {P : List SlB} (T : Tab W) (hP : LsAt W A N P) (hN : N ≤ 1000) (hF : (framesL (bytesS P)).length ≤ 90000) : Calls Tryd.prog 21 #[.pointer (some ⟨p, 0, none⟩), .slice A N c] w fun e w' => ∃ dv' v' S', e = .returned (.int .i64 (ckE R (bytesS P) : Nat)) ∧ TwoL W w' p q R (ckY R Y (bytesS P)) (ckL R l (bytesS P)) dv' v' S' x z R2 Y2 l2 du u U ∧ bytesS S' = ckR R (bytesS S) (bytesS P) := by
  refine (lcheck_is W w p q R Y l dv v S A N c P (T.on h.at_) h.a hP h.at_ (fun k hk => h.ha k (.inr (.inr hk))) hN hF).mono ?_
  rintro e w' ⟨rfl, a1, a2, a3, g, hr, k, n⟩
  exact ⟨a1, a2, a3, rfl, h.nextA g k n, hr⟩
theorem two_rcheck (h : TwoL W w p q R Y l dv v S x z R2 Y2 l2 du u U) {A : Option Addr} {N c : Nat} {P : List SlB} (hP : LsAt W A N P) (hN : N ≤ 1000) (hF : (framesL (bytesS P)).length ≤ 90000) : Calls Tryd.prog 22 #[.pointer (some ⟨x, 0, none⟩), .slice A N c] w fun e w' => ∃ du' u' U', e = .returned (.int .i64 (ckE R2 (bytesS P) : Nat)) ∧ TwoL W w' p q R Y l dv v S x z R2 (ckY R2 Y2 (bytesS P)) (ckL R2 l2 (bytesS P)) du' u' U' ∧ bytesS U' = ckR R2 (bytesS U) (bytesS P) := by
  refine (rcheck_is w x z R2 Y2 l2 du u U A N c P h.b (hP.below h.at_) hN hF).mono ?_
  rintro e w' ⟨rfl, a1, a2, a3, g, hr, k, n⟩
  exact ⟨a1, a2, a3, rfl, h.nextB g k n, hr⟩
theorem two_sync (h : TwoL W w p q R Y l dv v S x z R2 Y2 l2 du u U) (hl : l.length ≤ 100000) : Calls Tryd.prog 17 #[.pointer (some ⟨p, 0, none⟩)] w fun e w' => ∃ dv' v' S', e = .returned (.tuple #[]) ∧ TwoL W w' p q R l.length l dv' v' S' x z R2 Y2 l2 du u U ∧ bytesS S' = bytesS S := by
  refine (lsync_is w p q R Y l dv v S h.a hl).mono ?_
  rintro e w' ⟨rfl, a1, a2, a3, g, hr, k, n⟩
  exact ⟨a1, a2, a3, rfl, h.nextA g k n, hr⟩
theorem two_rsync (h : TwoL W w p q R Y l dv v S x z R2 Y2 l2 du u U) (hl : l2.length ≤ 100000) : Calls Tryd.prog 18 #[.pointer (some ⟨z, 0, none⟩)] w fun e w' => ∃ du', e = .returned (.tuple #[]) ∧ TwoL W w' p q R Y l dv v S x z R2 l2.length l2 du' u U := by
  refine (rsync_is w z R2 Y2 l2 du h.b.d hl).mono ?_
  rintro e w' ⟨rfl, a1, d, k, n⟩
  exact ⟨a1, rfl, h.diskB d k n⟩
theorem two_crash (h : TwoL W w p q R Y l dv v S x z R2 Y2 l2 du u U) (nd : Int) (l1 : -9223372036854775808 ≤ nd) (u1 : nd ≤ 9223372036854775807) (hl : l.length ≤ 100000) (hY0 : 0 ≤ Y) (hY : Y ≤ l.length) : Calls Tryd.prog 23 #[.pointer (some ⟨q, 0, none⟩), .int .i64 nd] w fun e w' => ∃ dv', e = .returned (.tuple #[]) ∧ TwoL W w' p q R (crN Y l nd) (l.take (crN Y l nd).toNat) dv' v S x z R2 Y2 l2 du u U := by
  refine (crash_is w q R Y l dv nd h.a.d hl hY0 hY l1 u1).mono ?_
  rintro e w' ⟨rfl, a1, d, k, n⟩
  exact ⟨a1, rfl, h.diskA d k n⟩
theorem two_rcrash (h : TwoL W w p q R Y l dv v S x z R2 Y2 l2 du u U) (nd : Int) (l1 : -9223372036854775808 ≤ nd) (u1 : nd ≤ 9223372036854775807) (hl : l2.length ≤ 100000) (hY0 : 0 ≤ Y2) (hY : Y2 ≤ l2.length) : Calls Tryd.prog 24 #[.pointer (some ⟨z, 0, none⟩), .int .i64 nd] w fun e w' => ∃ du', e = .returned (.tuple #[]) ∧ TwoL W w' p q R Y l dv v S x z R2 (crN Y2 l2 nd) (l2.take (crN Y2 l2 nd).toNat) du' u U := by
  refine (rcrash_is w z R2 Y2 l2 du nd h.b.d hl hY0 hY l1 u1).mono ?_
  rintro e w' ⟨rfl, a1, d, k, n⟩
  exact ⟨a1, rfl, h.diskB d k n⟩
theorem two_res (h : TwoL W w p q R Y l dv v S x z R2 Y2 l2 du u U) (nd : Int) (l1 : -9223372036854775808 ≤ nd) (u1 : nd ≤ 9223372036854775807) : Calls Tryd.prog 25 #[.pointer (some ⟨q, 0, none⟩), .int .i64 nd] w fun e w' => ∃ dv', e = .returned (.bool (resB nd)) ∧ TwoL W w' p q (resR R nd) Y l dv' v S x z R2 Y2 l2 du u U := by
  refine (res_is w q R Y l dv nd h.a.d l1 u1).mono ?_
  rintro e w' ⟨rfl, a1, d, k, n⟩
  exact ⟨a1, rfl, h.diskA d k n⟩
theorem two_rres (h : TwoL W w p q R Y l dv v S x z R2 Y2 l2 du u U) (nd : Int) (l1 : -9223372036854775808 ≤ nd) (u1 : nd ≤ 9223372036854775807) : Calls Tryd.prog 26 #[.pointer (some ⟨z, 0, none⟩), .int .i64 nd] w fun e w' => ∃ du', e = .returned (.bool (resB nd)) ∧ TwoL W w' p q R Y l dv v S x z (resR R2 nd) Y2 l2 du' u U := by
  refine (rres_is w z R2 Y2 l2 du nd h.b.d l1 u1).mono ?_
  rintro e w' ⟨rfl, a1, d, k, n⟩
  exact ⟨a1, rfl, h.diskB d k n⟩
theorem two_open (h : TwoL W w p q R Y l dv v S x z R2 Y2 l2 du u U) (T : Tab W) (hl : l.length ≤ 100000) : Calls Tryd.prog 13 #[.pointer (some ⟨q, 0, none⟩)] w fun e w' => ∃ p' v' S' dv', e = .returned (.tuple #[.pointer (some ⟨p', 0, none⟩), .int .i64 (l.length - openN l : Int)]) ∧ TwoL W w' p' q R (min Y (openN l : Int)) (l.take (openN l)) dv' v' S' x z R2 Y2 l2 du u U ∧ bytesS S' = (scanL l).1 :=
  (open_is w q R Y l dv (T.on h.at_) h.a.d hl).mono fun e w' o => h.openA o
theorem two_ropen (h : TwoL W w p q R Y l dv v S x z R2 Y2 l2 du u U) (hl : l2.length ≤ 100000) : Calls Tryd.prog 14 #[.pointer (some ⟨z, 0, none⟩)] w fun e w' => ∃ x' u' U' du', e = .returned (.tuple #[.pointer (some ⟨x', 0, none⟩), .int .i64 (l2.length - openN l2 : Int)]) ∧ TwoL W w' p q R Y l dv v S x' z R2 (min Y2 (openN l2 : Int)) (l2.take (openN l2)) du' u' U' ∧ bytesS U' = (scanL l2).1 :=
  (ropen_is w z R2 Y2 l2 du h.b.d hl).mono fun e w' o => h.openB o
end
/-- of any file: what is opened -/
theorem Kg.first (l : List UInt8) : Kg 0 (l.take (openN l)) (scanL l).1 0 := by
  obtain ⟨h1, h2⟩ := scan_is_frames l.length l (Nat.le_refl _)
  exact ⟨h1, h2, Nat.zero_le _, rfl⟩
/-- behind a crash, opened anew -/
theorem Kg.anew {Y : Int} {l : List UInt8} {r : List (List UInt8)} {s : Nat} (h : Kg Y l r s) (keep : Int) : ∃ n, Kg (min (crN Y l keep) (openN (l.take (crN Y l keep).toNat) : Int)) ((l.take (crN Y l keep).toNat).take (openN (l.take (crN Y l keep).toNat))) (scanL (l.take (crN Y l keep).toNat)).1 n := by
  obtain ⟨n, h1, h2, h3, h4, h5, h6⟩ := h.crash keep
  have e : openN (l.take (crN Y l keep).toNat) = (framesL (r.take n)).length := by unfold openN; rw [h3]
  refine ⟨n, ?_, ?_, ?_, ?_⟩
  · rw [e, h3]
    have fc := file_cut (r := r) (n := n) h4
    rw [← h.is] at fc
    exact fc
  · rw [h3]; exact fun p hp => h.ok p (List.mem_of_mem_take hp)
  · rw [h3]; show n ≤ (r.take n).length; rw [List.length_take]; omega
  · rw [h3, e]
    show min (crN Y l keep) _ = ((framesL ((r.take n).take n)).length : Nat)
    rw [List.take_take, Nat.min_self]
    omega
theorem frames_many : ∀ r : List (List UInt8), 6 * r.length ≤ (framesL r).length
  | [] => by simp
  | p :: r => by
    have := frames_many r
    rw [framesL_cons, List.length_append, frameL_len, List.length_cons]; omega
/-- both logs behind t operations -/
def PlR (W : World) (q z : Nat) (Os : List OpW) (t : Nat) (w : World) (p x : Nat) : Prop :=
  ∃ R Y l dv v S du u U s, TwoL W w p q R Y l dv v S x z R Y l du u U ∧ bytesS U = bytesS S ∧ Kg Y l (bytesS S) s ∧ 0 ≤ R ∧ R ≤ 1073741824 ∧ l.length ≤ 21800 + 6 * t + sumW Os t
theorem resR_in {R n : Int} (h0 : 0 ≤ R) (h1 : R ≤ 1073741824) : 0 ≤ resR R n ∧ resR R n ≤ 1073741824 := by
  unfold resR
  split <;> omega
end Go.Proofs.YtniphbfoppocfaaDoor.Wl
