/- What vokref.CopyInts answers. -/
import Derived.Test.YtchpjhjjakckbaaGreatDoorRuComp
import Derived.Test.YtchpjhjjakckbaaGreatDoorRuB
import Derived.Laws.AppendOwnNone
set_option linter.unusedVariables false
namespace Go.Proofs.YtchpjhjjakckbaaGreatDoor.Ru
open Go.RowKit Cv St
theorem lit_none (w:World) (e:TypeId) (k:Nat):(w.alloc (.cells #[] e)).ownsRow w.heap.size e k (.slice (some ⟨w.heap.size,0,none⟩) 0 0) 0 []:=
 World.ownsRow_lit (base:=w.heap.size) (e:=e) (size:=k) w #[] 0 (Nat.le_refl _) (by decide) (by simp)
def CopyI (w:World) (l:List Int) (e:Ending) (w':World):Prop:=∃v,e= .returned v∧OwnI w w' v l∧Below w.heap.size w w'
set_option maxHeartbeats 2000000 in
theorem copyI_is (w:World) (A:Option Addr) (n c:Nat) (l:List Int) (h:IsAt w A n l) (hn:n≤1000000) (hz:A=none→c=0):Calls Tryz.prog 31 #[.slice A n c] w (CopyI w l):=by
 have LIT:=Lib.hid (lit_none w 3 1)
 obtain⟨i0,hi,hz0,hz1,hz2⟩:=info_parts info_int
 cases A with
 |none=>
  obtain rfl:n=0:=by
   rcases Nat.eq_zero_or_pos n with z|z
   ·exact z
   ·obtain⟨b,off,e,-⟩:=h.2 z;cases e
  obtain rfl:c=0:=hz rfl
  have e0:l=[]:=List.length_eq_zero_iff.1 h.1.symm
  subst e0
  clear h hz
  go_enter Tryz.func31,Tryz.ntmps31
  go_wp2_with (at_builtin;refine wpList_append_own_none rfl _ _ 22 rfl w.heap.size 3 i0 1 Tryz.underlying22 hi _ 0 [] rfl LIT.out rfl ?_)
  go_wp2
  go_ret
  exact⟨_,rfl,LIT.out,alloc_below _ _⟩
 |some ad=>
  obtain⟨b,off,sp⟩:=ad
  have LEN:=Lib.hid (show (l.map (Value.int .i64)).length=n*1 by rw[List.length_map,h.1];omega)
  have ONE:=Lib.hid (fun u (q:u∈l.map (Value.int .i64))=>show u.oneCell'=true by obtain⟨z,-,rfl⟩:=List.mem_map.1 q;rfl)
  have GET:=Lib.hid (fun j u (q:(l.map (Value.int .i64))[j]? = some u)=>show (w.alloc (.cells #[] 3)).cell? ((⟨b,off,sp⟩:Addr).add j)=some u by
   have hj:j<l.length:=by have:=(List.getElem?_eq_some_iff.1 q).1;simpa using this
   obtain⟨b',off',e,hb,hc⟩:=h.2 (by rw[h.1];omega)
   cases e
   have z:=hc j (by rw[h.1];exact hj)
   rw[iat_lt hj] at z
   rw[List.getElem?_map,List.getElem?_eq_getElem hj] at q
   obtain rfl:Value.int .i64 l[j]=u:=by simpa using q
   rw[addr_off]
   exact((alloc_below w _).cell (p:=⟨b,off+j,none⟩) hb).trans z)
  have HL:=Lib.hid h.1
  have SZ:=Lib.hid (show 0+n≤maxLen by unfold maxLen;omega)
  clear h hz
  go_enter Tryz.func31,Tryz.ntmps31
  go_wp2_with (at_builtin;refine wpList_append_own _ rfl _ _ 22 rfl w.heap.size 3 i0 (.int .i64 0) 1 8 Tryz.underlying22 hi hz0 hz1 hz2 rfl (by decide) _ 0 [] rfl LIT.out ⟨b,off,sp⟩ n c (l.map (Value.int .i64)) rfl LEN.out GET.out ONE.out SZ.out (by omega) (by simp) ?_)
  intro v' w' hown hg _
  have OW:=Lib.hid (show OwnI w w' v' l by unfold OwnI;rw[←HL.out];exact hown)
  have BW:=Lib.hid ((alloc_below w (.cells #[] 3)).grown hg (by simp) (fun k hk=>by injection hk with hk;exact Nat.le_of_eq hk))
  clear hown hg
  go_wp2
  go_ret
  exact⟨_,rfl,OW.out,BW.out⟩
end Go.Proofs.YtchpjhjjakckbaaGreatDoor.Ru
