/- A set of package iv in memory. -/
import Derived.Test.YtjodhfehfpmfaaaIvRow
import Derived.Test.YtjodhfehfpmfaaaIvFind
set_option linter.unusedVariables false
namespace Go.Proofs.Ytjodhfehfpmfaaa.Iv
open Go.RowKit

/-- what lies under a slice value: nothing, or a row whose block is one of F -/
def RowF (F : Nat → Prop) (w : World) (e : TypeId) (size : Nat) (A : Option Addr) (n c : Nat) (xs : List Value) : Prop :=
  xs.length = n * size ∧ n ≤ c ∧ ((A = none ∧ c = 0) ∨ ∃ g, A = some ⟨g, 0, none⟩ ∧ F g ∧ RowIs w g e size c xs)
/-- the set at block p: spans with owners, owners; all its blocks are of F -/
structure SetF (F : Nat → Prop) (w : World) (p : Nat) (all : List Tg) (ow : List Int) (A : Option Addr) (c : Nat) (O : Option Addr) (d : Nat) : Prop where
  box : RowIs w p 93 2 1 [.slice A all.length c, .slice O ow.length d]
  foot : F p
  tags : RowF F w 42 3 A all.length c (cellsL encT all)
  nums : RowF F w 3 1 O ow.length d (cellsL encI ow)
  ok : SetOk all ow
def SetIn (F : Nat → Prop) (w : World) (p : Nat) (all : List Tg) (ow : List Int) : Prop := ∃ A c O d, SetF F w p all ow A c O d
theorem RowF.on {F G : Nat → Prop} {w w' : World} {e : TypeId} {size : Nat} {A : Option Addr} {n c : Nat} {xs : List Value} (h : RowF F w e size A n c xs) (hk : Kp G w w') (hg : ∀ k, F k → k < w.heap.size → ¬ G k) : RowF F w' e size A n c xs := by
  refine ⟨h.1, h.2.1, ?_⟩
  rcases h.2.2 with q | ⟨g, e, f, r⟩
  · exact .inl q
  · exact .inr ⟨g, e, f, r.kp hk (hg g f r.lt)⟩
theorem RowF.mono {F G : Nat → Prop} {w : World} {e : TypeId} {size : Nat} {A : Option Addr} {n c : Nat} {xs : List Value} (h : RowF F w e size A n c xs) (hg : ∀ k, F k → k < w.heap.size → G k) : RowF G w e size A n c xs := by
  refine ⟨h.1, h.2.1, ?_⟩
  rcases h.2.2 with q | ⟨g, e, f, r⟩
  · exact .inl q
  · exact .inr ⟨g, e, hg g f r.lt, r⟩
theorem SetF.on {F G : Nat → Prop} {w w' : World} {p : Nat} {all : List Tg} {ow : List Int} {A : Option Addr} {c : Nat} {O : Option Addr} {d : Nat} (h : SetF F w p all ow A c O d) (hk : Kp G w w') (hg : ∀ k, F k → k < w.heap.size → ¬ G k) : SetF F w' p all ow A c O d :=
  ⟨h.box.kp hk (hg p h.foot h.box.lt), h.foot, h.tags.on hk hg, h.nums.on hk hg, h.ok⟩
theorem SetF.below {F : Nat → Prop} {w w' : World} {p : Nat} {all : List Tg} {ow : List Int} {A : Option Addr} {c : Nat} {O : Option Addr} {d : Nat} (h : SetF F w p all ow A c O d) (hb : Below w.heap.size w w') : SetF F w' p all ow A c O d :=
  h.on (Kp.of' hb) fun _ _ _ q => q
theorem SetF.mono {F G : Nat → Prop} {w : World} {p : Nat} {all : List Tg} {ow : List Int} {A : Option Addr} {c : Nat} {O : Option Addr} {d : Nat} (h : SetF F w p all ow A c O d) (hg : ∀ k, F k → k < w.heap.size → G k) : SetF G w p all ow A c O d :=
  ⟨h.box, hg p h.foot h.box.lt, h.tags.mono hg, h.nums.mono hg, h.ok⟩
theorem SetF.in_ {F : Nat → Prop} {w : World} {p : Nat} {all : List Tg} {ow : List Int} {A : Option Addr} {c : Nat} {O : Option Addr} {d : Nat} (h : SetF F w p all ow A c O d) : SetIn F w p all ow := ⟨_, _, _, _, h⟩
theorem SetIn.below {F : Nat → Prop} {w w' : World} {p : Nat} {all : List Tg} {ow : List Int} (h : SetIn F w p all ow) (hb : Below w.heap.size w w') : SetIn F w' p all ow := by
  obtain ⟨A, c, O, d, h⟩ := h
  exact (h.below hb).in_
theorem SetIn.mono {F G : Nat → Prop} {w : World} {p : Nat} {all : List Tg} {ow : List Int} (h : SetIn F w p all ow) (hg : ∀ k, F k → k < w.heap.size → G k) : SetIn G w p all ow := by
  obtain ⟨A, c, O, d, h⟩ := h
  exact (h.mono hg).in_
theorem SetIn.on {F G : Nat → Prop} {w w' : World} {p : Nat} {all : List Tg} {ow : List Int} (h : SetIn F w p all ow) (hk : Kp G w w') (hg : ∀ k, F k → k < w.heap.size → ¬ G k) : SetIn F w' p all ow := by
  obtain ⟨A, c, O, d, h⟩ := h
  exact (h.on hk hg).in_
theorem SetIn.ok {F : Nat → Prop} {w : World} {p : Nat} {all : List Tg} {ow : List Int} (h : SetIn F w p all ow) : SetOk all ow := by
  obtain ⟨A, c, O, d, h⟩ := h
  exact h.ok
theorem tg_of {w : World} {g c : Nat} {l : List Tg} (h : RowIs w g 42 3 c (cellsL encT l)) : TgAt w (some ⟨g, 0, none⟩) l.length l := by
  refine ⟨rfl, fun h0 => ⟨g, 0, rfl, h.lt, fun j hj => ?_⟩⟩
  rw [Nat.zero_add]
  exact ⟨h.cell (cells_get (enc := encT) (k := 3) (fun _ => rfl) l j 0 hj (by omega)), h.cell (cells_get (enc := encT) (k := 3) (fun _ => rfl) l j 1 hj (by omega)), h.cell (cells_get (enc := encT) (k := 3) (fun _ => rfl) l j 2 hj (by omega))⟩
theorem is_of {w : World} {g c : Nat} {e : TypeId} {l : List Int} (h : RowIs w g e 1 c (cellsL encI l)) : IsAt w (some ⟨g, 0, none⟩) l.length l := by
  refine ⟨rfl, fun h0 => ⟨g, 0, rfl, h.lt, fun j hj => ?_⟩⟩
  have := cells_get (enc := encI) (k := 1) (fun _ => rfl) l j 0 hj (by omega)
  rw [Nat.mul_one, Nat.add_zero] at this
  rw [Nat.zero_add]
  exact h.cell this
theorem SetF.tg {F : Nat → Prop} {w : World} {p : Nat} {all : List Tg} {ow : List Int} {A : Option Addr} {c : Nat} {O : Option Addr} {d : Nat} (h : SetF F w p all ow A c O d) : TgAt w A all.length all := by
  rcases h.tags.2.2 with ⟨rfl, e⟩ | ⟨g, rfl, f, r⟩
  · have := h.tags.2.1
    have e0 : all = [] := List.length_eq_zero_iff.1 (by omega)
    rw [e0]; exact TgAt.nil _ _
  · exact tg_of r
theorem SetF.is_ {F : Nat → Prop} {w : World} {p : Nat} {all : List Tg} {ow : List Int} {A : Option Addr} {c : Nat} {O : Option Addr} {d : Nat} (h : SetF F w p all ow A c O d) : IsAt w O ow.length ow := by
  rcases h.nums.2.2 with ⟨rfl, e⟩ | ⟨g, rfl, f, r⟩
  · have := h.nums.2.1
    have e0 : ow = [] := List.length_eq_zero_iff.1 (by omega)
    rw [e0]; exact IsAt.nil _ _
  · exact is_of r
theorem SetF.c0 {F : Nat → Prop} {w : World} {p : Nat} {all : List Tg} {ow : List Int} {A : Option Addr} {c : Nat} {O : Option Addr} {d : Nat} (h : SetF F w p all ow A c O d) : w.cell? ⟨p, 0, none⟩ = some (.slice A all.length c) := h.box.cell rfl
theorem SetF.c1 {F : Nat → Prop} {w : World} {p : Nat} {all : List Tg} {ow : List Int} {A : Option Addr} {c : Nat} {O : Option Addr} {d : Nat} (h : SetF F w p all ow A c O d) : w.cell? ⟨p, 1, none⟩ = some (.slice O ow.length d) := h.box.cell rfl
/-- the blocks of two rows differ where their types do -/
theorem RowIs.ne {w : World} {g h : Nat} {e f : TypeId} {s t c d : Nat} {xs ys : List Value} (a : RowIs w g e s c xs) (b : RowIs w h f t d ys) (hn : e ≠ f) : g ≠ h := by
  rintro rfl
  obtain ⟨c1, h1, -⟩ := a.ex
  obtain ⟨c2, h2, -⟩ := b.ex
  rw [h1] at h2
  injection h2 with h2
  injection h2 with _ h2
  exact hn h2
end Go.Proofs.Ytjodhfehfpmfaaa.Iv
