/- What rule.Parse answers. -/
import Derived.Test.YtddnnljfgfcplaaGreatDoorRpB
import Derived.Test.YtddnnljfgfcplaaGreatDoorRpFG
set_option maxRecDepth 100000
set_option maxHeartbeats 8000000
set_option linter.unusedVariables false
namespace Go.Proofs.YtddnnljfgfcplaaGreatDoor.Ru
open Lib (hid)
open Go.RowKit Cv St Go.Proofs.YtddnnljfgfcplaaGreatDoor.Fd
def S0:RS:=⟨none,0,0,none,0,0,none,0,0,none,0,0,none,0,0,none,0,0,none,0,0,none,0,0,none,0,0⟩
def setL (w:World) (g:Nat):Nat->List Value->World
 |_,[]=>w
 |i,u::l=>setL (w.setCell ⟨g,i,none⟩ u) g (i+1) l
theorem setL_below {B:Nat} {W:World} {g:Nat} (hg:B<=g):∀(l:List Value) (i:Nat) (w:World),Below B W w->Below B W (setL w g i l)
 | [],_,_,h=>h
 |u::l,i,w,h=>setL_below hg l (i+1) _ (h.setCell (p:=⟨g,i,none⟩) hg u)
theorem setL_under {g:Nat}:∀(l:List Value) (i:Nat) (w:World) (k:Nat),k<i->(setL w g i l).cell? ⟨g,k,none⟩=w.cell? ⟨g,k,none⟩
 | [],_,_,_,_=>rfl
 |u::l,i,w,k,hk=>(setL_under l (i+1) _ k (by omega)).trans (World.cell?_setCell_other _ _ _ _ (by intro q;injection q with _ q;omega))
theorem setL_cell {g:Nat}:∀(l:List Value) (i:Nat) (w:World),(∀k,k<l.length->∃x,w.cell? ⟨g,i+k,none⟩=some x)->∀k u,l[k]? = some u->(setL w g i l).cell? ⟨g,i+k,none⟩=some u
 | [],_,_,_,k,u,e=>by simp at e
 |v::l,i,w,h,k,u,e=>by
  cases k with
  |zero=>
   obtain rfl:v=u:=by simpa using e
   obtain⟨x,hx⟩:=h 0 (by simp);exact(setL_under l (i+1) _ i (by omega)).trans (World.cell?_setCell_same _ _ _ hx)
  |succ k=>
   have:=setL_cell l (i+1) (w.setCell ⟨g,i,none⟩ v) (fun j hj=>by
    obtain⟨x,hx⟩:=h (j+1) (by simp;omega);refine⟨x,(World.cell?_setCell_other _ _ _ _ (by intro q;injection q with _ q;omega)).trans ?_⟩
    rwa [show i+1+j=i+(j+1) by omega]) k u (by simpa using e)
   rwa [show i+1+k=i+(k+1) by omega] at this
theorem low15 {w:World} {g:Nat} {cs:Array Value} (hc:15<=cs.size) (h:∀k u,cs[k]? = some u->w.cell? ⟨g,k,none⟩=some u) {l:List Value} (hl:l.length=15):∀k,k<l.length->∃x,w.cell? ⟨g,0+k,none⟩=some x:=fun k hk=>⟨_,by rw[Nat.zero_add];exact h k _ (Array.getElem?_eq_getElem (by omega))⟩
theorem set15_0 {w:World} {g:Nat} {cs:Array Value} {u0 u1 u2 u3 u4 u5 u6 u7 u8 u9 u10 u11 u12 u13 u14:Value} (hc:15<=cs.size) (h:∀k u,cs[k]? = some u->w.cell? ⟨g,k,none⟩=some u):(((((((((((((((w.setCell ⟨g,0,none⟩ u0).setCell ⟨g,1,none⟩ u1).setCell ⟨g,2,none⟩ u2).setCell ⟨g,3,none⟩ u3).setCell ⟨g,4,none⟩ u4).setCell ⟨g,5,none⟩ u5).setCell ⟨g,6,none⟩ u6).setCell ⟨g,7,none⟩ u7).setCell ⟨g,8,none⟩ u8).setCell ⟨g,9,none⟩ u9).setCell ⟨g,10,none⟩ u10).setCell ⟨g,11,none⟩ u11).setCell ⟨g,12,none⟩ u12).setCell ⟨g,13,none⟩ u13).setCell ⟨g,14,none⟩ u14).cell? ⟨g,0,none⟩=some u0:=
 setL_cell [u0,u1,u2,u3,u4,u5,u6,u7,u8,u9,u10,u11,u12,u13,u14] 0 w (low15 hc h rfl) 0 _ rfl
theorem set15_1 {w:World} {g:Nat} {cs:Array Value} {u0 u1 u2 u3 u4 u5 u6 u7 u8 u9 u10 u11 u12 u13 u14:Value} (hc:15<=cs.size) (h:∀k u,cs[k]? = some u->w.cell? ⟨g,k,none⟩=some u):(((((((((((((((w.setCell ⟨g,0,none⟩ u0).setCell ⟨g,1,none⟩ u1).setCell ⟨g,2,none⟩ u2).setCell ⟨g,3,none⟩ u3).setCell ⟨g,4,none⟩ u4).setCell ⟨g,5,none⟩ u5).setCell ⟨g,6,none⟩ u6).setCell ⟨g,7,none⟩ u7).setCell ⟨g,8,none⟩ u8).setCell ⟨g,9,none⟩ u9).setCell ⟨g,10,none⟩ u10).setCell ⟨g,11,none⟩ u11).setCell ⟨g,12,none⟩ u12).setCell ⟨g,13,none⟩ u13).setCell ⟨g,14,none⟩ u14).cell? ⟨g,1,none⟩=some u1:=
 setL_cell [u0,u1,u2,u3,u4,u5,u6,u7,u8,u9,u10,u11,u12,u13,u14] 0 w (low15 hc h rfl) 1 _ rfl
theorem set15_2 {w:World} {g:Nat} {cs:Array Value} {u0 u1 u2 u3 u4 u5 u6 u7 u8 u9 u10 u11 u12 u13 u14:Value} (hc:15<=cs.size) (h:∀k u,cs[k]? = some u->w.cell? ⟨g,k,none⟩=some u):(((((((((((((((w.setCell ⟨g,0,none⟩ u0).setCell ⟨g,1,none⟩ u1).setCell ⟨g,2,none⟩ u2).setCell ⟨g,3,none⟩ u3).setCell ⟨g,4,none⟩ u4).setCell ⟨g,5,none⟩ u5).setCell ⟨g,6,none⟩ u6).setCell ⟨g,7,none⟩ u7).setCell ⟨g,8,none⟩ u8).setCell ⟨g,9,none⟩ u9).setCell ⟨g,10,none⟩ u10).setCell ⟨g,11,none⟩ u11).setCell ⟨g,12,none⟩ u12).setCell ⟨g,13,none⟩ u13).setCell ⟨g,14,none⟩ u14).cell? ⟨g,2,none⟩=some u2:=
 setL_cell [u0,u1,u2,u3,u4,u5,u6,u7,u8,u9,u10,u11,u12,u13,u14] 0 w (low15 hc h rfl) 2 _ rfl
theorem set15_3 {w:World} {g:Nat} {cs:Array Value} {u0 u1 u2 u3 u4 u5 u6 u7 u8 u9 u10 u11 u12 u13 u14:Value} (hc:15<=cs.size) (h:∀k u,cs[k]? = some u->w.cell? ⟨g,k,none⟩=some u):(((((((((((((((w.setCell ⟨g,0,none⟩ u0).setCell ⟨g,1,none⟩ u1).setCell ⟨g,2,none⟩ u2).setCell ⟨g,3,none⟩ u3).setCell ⟨g,4,none⟩ u4).setCell ⟨g,5,none⟩ u5).setCell ⟨g,6,none⟩ u6).setCell ⟨g,7,none⟩ u7).setCell ⟨g,8,none⟩ u8).setCell ⟨g,9,none⟩ u9).setCell ⟨g,10,none⟩ u10).setCell ⟨g,11,none⟩ u11).setCell ⟨g,12,none⟩ u12).setCell ⟨g,13,none⟩ u13).setCell ⟨g,14,none⟩ u14).cell? ⟨g,3,none⟩=some u3:=
 setL_cell [u0,u1,u2,u3,u4,u5,u6,u7,u8,u9,u10,u11,u12,u13,u14] 0 w (low15 hc h rfl) 3 _ rfl
theorem set15_4 {w:World} {g:Nat} {cs:Array Value} {u0 u1 u2 u3 u4 u5 u6 u7 u8 u9 u10 u11 u12 u13 u14:Value} (hc:15<=cs.size) (h:∀k u,cs[k]? = some u->w.cell? ⟨g,k,none⟩=some u):(((((((((((((((w.setCell ⟨g,0,none⟩ u0).setCell ⟨g,1,none⟩ u1).setCell ⟨g,2,none⟩ u2).setCell ⟨g,3,none⟩ u3).setCell ⟨g,4,none⟩ u4).setCell ⟨g,5,none⟩ u5).setCell ⟨g,6,none⟩ u6).setCell ⟨g,7,none⟩ u7).setCell ⟨g,8,none⟩ u8).setCell ⟨g,9,none⟩ u9).setCell ⟨g,10,none⟩ u10).setCell ⟨g,11,none⟩ u11).setCell ⟨g,12,none⟩ u12).setCell ⟨g,13,none⟩ u13).setCell ⟨g,14,none⟩ u14).cell? ⟨g,4,none⟩=some u4:=
 setL_cell [u0,u1,u2,u3,u4,u5,u6,u7,u8,u9,u10,u11,u12,u13,u14] 0 w (low15 hc h rfl) 4 _ rfl
theorem set15_5 {w:World} {g:Nat} {cs:Array Value} {u0 u1 u2 u3 u4 u5 u6 u7 u8 u9 u10 u11 u12 u13 u14:Value} (hc:15<=cs.size) (h:∀k u,cs[k]? = some u->w.cell? ⟨g,k,none⟩=some u):(((((((((((((((w.setCell ⟨g,0,none⟩ u0).setCell ⟨g,1,none⟩ u1).setCell ⟨g,2,none⟩ u2).setCell ⟨g,3,none⟩ u3).setCell ⟨g,4,none⟩ u4).setCell ⟨g,5,none⟩ u5).setCell ⟨g,6,none⟩ u6).setCell ⟨g,7,none⟩ u7).setCell ⟨g,8,none⟩ u8).setCell ⟨g,9,none⟩ u9).setCell ⟨g,10,none⟩ u10).setCell ⟨g,11,none⟩ u11).setCell ⟨g,12,none⟩ u12).setCell ⟨g,13,none⟩ u13).setCell ⟨g,14,none⟩ u14).cell? ⟨g,5,none⟩=some u5:=
 setL_cell [u0,u1,u2,u3,u4,u5,u6,u7,u8,u9,u10,u11,u12,u13,u14] 0 w (low15 hc h rfl) 5 _ rfl
theorem set15_6 {w:World} {g:Nat} {cs:Array Value} {u0 u1 u2 u3 u4 u5 u6 u7 u8 u9 u10 u11 u12 u13 u14:Value} (hc:15<=cs.size) (h:∀k u,cs[k]? = some u->w.cell? ⟨g,k,none⟩=some u):(((((((((((((((w.setCell ⟨g,0,none⟩ u0).setCell ⟨g,1,none⟩ u1).setCell ⟨g,2,none⟩ u2).setCell ⟨g,3,none⟩ u3).setCell ⟨g,4,none⟩ u4).setCell ⟨g,5,none⟩ u5).setCell ⟨g,6,none⟩ u6).setCell ⟨g,7,none⟩ u7).setCell ⟨g,8,none⟩ u8).setCell ⟨g,9,none⟩ u9).setCell ⟨g,10,none⟩ u10).setCell ⟨g,11,none⟩ u11).setCell ⟨g,12,none⟩ u12).setCell ⟨g,13,none⟩ u13).setCell ⟨g,14,none⟩ u14).cell? ⟨g,6,none⟩=some u6:=
 setL_cell [u0,u1,u2,u3,u4,u5,u6,u7,u8,u9,u10,u11,u12,u13,u14] 0 w (low15 hc h rfl) 6 _ rfl
theorem set15_7 {w:World} {g:Nat} {cs:Array Value} {u0 u1 u2 u3 u4 u5 u6 u7 u8 u9 u10 u11 u12 u13 u14:Value} (hc:15<=cs.size) (h:∀k u,cs[k]? = some u->w.cell? ⟨g,k,none⟩=some u):(((((((((((((((w.setCell ⟨g,0,none⟩ u0).setCell ⟨g,1,none⟩ u1).setCell ⟨g,2,none⟩ u2).setCell ⟨g,3,none⟩ u3).setCell ⟨g,4,none⟩ u4).setCell ⟨g,5,none⟩ u5).setCell ⟨g,6,none⟩ u6).setCell ⟨g,7,none⟩ u7).setCell ⟨g,8,none⟩ u8).setCell ⟨g,9,none⟩ u9).setCell ⟨g,10,none⟩ u10).setCell ⟨g,11,none⟩ u11).setCell ⟨g,12,none⟩ u12).setCell ⟨g,13,none⟩ u13).setCell ⟨g,14,none⟩ u14).cell? ⟨g,7,none⟩=some u7:=
 setL_cell [u0,u1,u2,u3,u4,u5,u6,u7,u8,u9,u10,u11,u12,u13,u14] 0 w (low15 hc h rfl) 7 _ rfl
theorem set15_8 {w:World} {g:Nat} {cs:Array Value} {u0 u1 u2 u3 u4 u5 u6 u7 u8 u9 u10 u11 u12 u13 u14:Value} (hc:15<=cs.size) (h:∀k u,cs[k]? = some u->w.cell? ⟨g,k,none⟩=some u):(((((((((((((((w.setCell ⟨g,0,none⟩ u0).setCell ⟨g,1,none⟩ u1).setCell ⟨g,2,none⟩ u2).setCell ⟨g,3,none⟩ u3).setCell ⟨g,4,none⟩ u4).setCell ⟨g,5,none⟩ u5).setCell ⟨g,6,none⟩ u6).setCell ⟨g,7,none⟩ u7).setCell ⟨g,8,none⟩ u8).setCell ⟨g,9,none⟩ u9).setCell ⟨g,10,none⟩ u10).setCell ⟨g,11,none⟩ u11).setCell ⟨g,12,none⟩ u12).setCell ⟨g,13,none⟩ u13).setCell ⟨g,14,none⟩ u14).cell? ⟨g,8,none⟩=some u8:=
 setL_cell [u0,u1,u2,u3,u4,u5,u6,u7,u8,u9,u10,u11,u12,u13,u14] 0 w (low15 hc h rfl) 8 _ rfl
theorem set15_9 {w:World} {g:Nat} {cs:Array Value} {u0 u1 u2 u3 u4 u5 u6 u7 u8 u9 u10 u11 u12 u13 u14:Value} (hc:15<=cs.size) (h:∀k u,cs[k]? = some u->w.cell? ⟨g,k,none⟩=some u):(((((((((((((((w.setCell ⟨g,0,none⟩ u0).setCell ⟨g,1,none⟩ u1).setCell ⟨g,2,none⟩ u2).setCell ⟨g,3,none⟩ u3).setCell ⟨g,4,none⟩ u4).setCell ⟨g,5,none⟩ u5).setCell ⟨g,6,none⟩ u6).setCell ⟨g,7,none⟩ u7).setCell ⟨g,8,none⟩ u8).setCell ⟨g,9,none⟩ u9).setCell ⟨g,10,none⟩ u10).setCell ⟨g,11,none⟩ u11).setCell ⟨g,12,none⟩ u12).setCell ⟨g,13,none⟩ u13).setCell ⟨g,14,none⟩ u14).cell? ⟨g,9,none⟩=some u9:=
 setL_cell [u0,u1,u2,u3,u4,u5,u6,u7,u8,u9,u10,u11,u12,u13,u14] 0 w (low15 hc h rfl) 9 _ rfl
theorem set15_10 {w:World} {g:Nat} {cs:Array Value} {u0 u1 u2 u3 u4 u5 u6 u7 u8 u9 u10 u11 u12 u13 u14:Value} (hc:15<=cs.size) (h:∀k u,cs[k]? = some u->w.cell? ⟨g,k,none⟩=some u):(((((((((((((((w.setCell ⟨g,0,none⟩ u0).setCell ⟨g,1,none⟩ u1).setCell ⟨g,2,none⟩ u2).setCell ⟨g,3,none⟩ u3).setCell ⟨g,4,none⟩ u4).setCell ⟨g,5,none⟩ u5).setCell ⟨g,6,none⟩ u6).setCell ⟨g,7,none⟩ u7).setCell ⟨g,8,none⟩ u8).setCell ⟨g,9,none⟩ u9).setCell ⟨g,10,none⟩ u10).setCell ⟨g,11,none⟩ u11).setCell ⟨g,12,none⟩ u12).setCell ⟨g,13,none⟩ u13).setCell ⟨g,14,none⟩ u14).cell? ⟨g,10,none⟩=some u10:=
 setL_cell [u0,u1,u2,u3,u4,u5,u6,u7,u8,u9,u10,u11,u12,u13,u14] 0 w (low15 hc h rfl) 10 _ rfl
theorem set15_11 {w:World} {g:Nat} {cs:Array Value} {u0 u1 u2 u3 u4 u5 u6 u7 u8 u9 u10 u11 u12 u13 u14:Value} (hc:15<=cs.size) (h:∀k u,cs[k]? = some u->w.cell? ⟨g,k,none⟩=some u):(((((((((((((((w.setCell ⟨g,0,none⟩ u0).setCell ⟨g,1,none⟩ u1).setCell ⟨g,2,none⟩ u2).setCell ⟨g,3,none⟩ u3).setCell ⟨g,4,none⟩ u4).setCell ⟨g,5,none⟩ u5).setCell ⟨g,6,none⟩ u6).setCell ⟨g,7,none⟩ u7).setCell ⟨g,8,none⟩ u8).setCell ⟨g,9,none⟩ u9).setCell ⟨g,10,none⟩ u10).setCell ⟨g,11,none⟩ u11).setCell ⟨g,12,none⟩ u12).setCell ⟨g,13,none⟩ u13).setCell ⟨g,14,none⟩ u14).cell? ⟨g,11,none⟩=some u11:=
 setL_cell [u0,u1,u2,u3,u4,u5,u6,u7,u8,u9,u10,u11,u12,u13,u14] 0 w (low15 hc h rfl) 11 _ rfl
theorem set15_12 {w:World} {g:Nat} {cs:Array Value} {u0 u1 u2 u3 u4 u5 u6 u7 u8 u9 u10 u11 u12 u13 u14:Value} (hc:15<=cs.size) (h:∀k u,cs[k]? = some u->w.cell? ⟨g,k,none⟩=some u):(((((((((((((((w.setCell ⟨g,0,none⟩ u0).setCell ⟨g,1,none⟩ u1).setCell ⟨g,2,none⟩ u2).setCell ⟨g,3,none⟩ u3).setCell ⟨g,4,none⟩ u4).setCell ⟨g,5,none⟩ u5).setCell ⟨g,6,none⟩ u6).setCell ⟨g,7,none⟩ u7).setCell ⟨g,8,none⟩ u8).setCell ⟨g,9,none⟩ u9).setCell ⟨g,10,none⟩ u10).setCell ⟨g,11,none⟩ u11).setCell ⟨g,12,none⟩ u12).setCell ⟨g,13,none⟩ u13).setCell ⟨g,14,none⟩ u14).cell? ⟨g,12,none⟩=some u12:=
 setL_cell [u0,u1,u2,u3,u4,u5,u6,u7,u8,u9,u10,u11,u12,u13,u14] 0 w (low15 hc h rfl) 12 _ rfl
theorem set15_13 {w:World} {g:Nat} {cs:Array Value} {u0 u1 u2 u3 u4 u5 u6 u7 u8 u9 u10 u11 u12 u13 u14:Value} (hc:15<=cs.size) (h:∀k u,cs[k]? = some u->w.cell? ⟨g,k,none⟩=some u):(((((((((((((((w.setCell ⟨g,0,none⟩ u0).setCell ⟨g,1,none⟩ u1).setCell ⟨g,2,none⟩ u2).setCell ⟨g,3,none⟩ u3).setCell ⟨g,4,none⟩ u4).setCell ⟨g,5,none⟩ u5).setCell ⟨g,6,none⟩ u6).setCell ⟨g,7,none⟩ u7).setCell ⟨g,8,none⟩ u8).setCell ⟨g,9,none⟩ u9).setCell ⟨g,10,none⟩ u10).setCell ⟨g,11,none⟩ u11).setCell ⟨g,12,none⟩ u12).setCell ⟨g,13,none⟩ u13).setCell ⟨g,14,none⟩ u14).cell? ⟨g,13,none⟩=some u13:=
 setL_cell [u0,u1,u2,u3,u4,u5,u6,u7,u8,u9,u10,u11,u12,u13,u14] 0 w (low15 hc h rfl) 13 _ rfl
theorem set15_14 {w:World} {g:Nat} {cs:Array Value} {u0 u1 u2 u3 u4 u5 u6 u7 u8 u9 u10 u11 u12 u13 u14:Value} (hc:15<=cs.size) (h:∀k u,cs[k]? = some u->w.cell? ⟨g,k,none⟩=some u):(((((((((((((((w.setCell ⟨g,0,none⟩ u0).setCell ⟨g,1,none⟩ u1).setCell ⟨g,2,none⟩ u2).setCell ⟨g,3,none⟩ u3).setCell ⟨g,4,none⟩ u4).setCell ⟨g,5,none⟩ u5).setCell ⟨g,6,none⟩ u6).setCell ⟨g,7,none⟩ u7).setCell ⟨g,8,none⟩ u8).setCell ⟨g,9,none⟩ u9).setCell ⟨g,10,none⟩ u10).setCell ⟨g,11,none⟩ u11).setCell ⟨g,12,none⟩ u12).setCell ⟨g,13,none⟩ u13).setCell ⟨g,14,none⟩ u14).cell? ⟨g,14,none⟩=some u14:=
 setL_cell [u0,u1,u2,u3,u4,u5,u6,u7,u8,u9,u10,u11,u12,u13,u14] 0 w (low15 hc h rfl) 14 _ rfl
theorem below15 {B:Nat} {W w:World} {g:Nat} {u0 u1 u2 u3 u4 u5 u6 u7 u8 u9 u10 u11 u12 u13 u14:Value} (hg:B<=g) (h:Below B W w):Below B W (((((((((((((((w.setCell ⟨g,0,none⟩ u0).setCell ⟨g,1,none⟩ u1).setCell ⟨g,2,none⟩ u2).setCell ⟨g,3,none⟩ u3).setCell ⟨g,4,none⟩ u4).setCell ⟨g,5,none⟩ u5).setCell ⟨g,6,none⟩ u6).setCell ⟨g,7,none⟩ u7).setCell ⟨g,8,none⟩ u8).setCell ⟨g,9,none⟩ u9).setCell ⟨g,10,none⟩ u10).setCell ⟨g,11,none⟩ u11).setCell ⟨g,12,none⟩ u12).setCell ⟨g,13,none⟩ u13).setCell ⟨g,14,none⟩ u14):=
 setL_below hg [u0,u1,u2,u3,u4,u5,u6,u7,u8,u9,u10,u11,u12,u13,u14] 0 w h
theorem RuAt.setL {S:RS} {r:Ru} {g:Nat} (f:RFar S g):∀(l:List Value) (i:Nat) (w:World),RuAt w S r->RuAt (setL w g i l) S r
 | [],_,_,h=>h
 |u::l,i,w,h=>RuAt.setL f l (i+1) _ (h.set f)
theorem RuAt.on15 {w:World} {S:RS} {r:Ru} {g:Nat} {u0 u1 u2 u3 u4 u5 u6 u7 u8 u9 u10 u11 u12 u13 u14:Value} (h:RuAt w S r) (f:RFar S g):RuAt (((((((((((((((w.setCell ⟨g,0,none⟩ u0).setCell ⟨g,1,none⟩ u1).setCell ⟨g,2,none⟩ u2).setCell ⟨g,3,none⟩ u3).setCell ⟨g,4,none⟩ u4).setCell ⟨g,5,none⟩ u5).setCell ⟨g,6,none⟩ u6).setCell ⟨g,7,none⟩ u7).setCell ⟨g,8,none⟩ u8).setCell ⟨g,9,none⟩ u9).setCell ⟨g,10,none⟩ u10).setCell ⟨g,11,none⟩ u11).setCell ⟨g,12,none⟩ u12).setCell ⟨g,13,none⟩ u13).setCell ⟨g,14,none⟩ u14) S r:=
 RuAt.setL f [u0,u1,u2,u3,u4,u5,u6,u7,u8,u9,u10,u11,u12,u13,u14] 0 w h
theorem far_low {B g:Nat} {S:RS} (h:RZero B S) (hg:g<B):RFar S g:=⟨Far.fresh h.z6 hg,Far.fresh h.z7 hg,Far.fresh h.z8 hg,Far.fresh h.z9 hg,Far.fresh h.z10 hg,Far.fresh h.z11 hg,Far.fresh h.z12 hg,Far.fresh h.z13 hg,Far.fresh h.z14 hg⟩
def ParseR (o:Ru×Int×Int) (w:World) (e:Ending) (w':World):Prop:=
 ∃S,e= .returned (.tuple #[S.val o.1,.int .i64 o.2.1,.int .i64 o.2.2])/\RuAt w' S o.1/\Below w.heap.size w w'
def ParseF (o:Ru×Int×Int) (w:World) (e:Ending) (w':World):Prop:=
 ∃S,e= .returned (.tuple #[S.val o.1,.int .i64 o.2.1,.int .i64 o.2.2])/\RuAt w' S o.1/\RZero w.heap.size S/\Below w.heap.size w w'
theorem zero_S0 (B:Nat):RZero B S0:=by
 refine⟨?_,?_,?_,?_,?_,?_,?_,?_,?_⟩<;>exact fun _ _ e=>by cases e
theorem RZero.mono {B C:Nat} {S:RS} (h:RZero C S) (hb:B<=C):RZero B S:=
 ⟨fun b o e=>⟨Nat.le_trans hb (h.z6 b o e).1,(h.z6 b o e).2⟩,fun b o e=>⟨Nat.le_trans hb (h.z7 b o e).1,(h.z7 b o e).2⟩,fun b o e=>⟨Nat.le_trans hb (h.z8 b o e).1,(h.z8 b o e).2⟩,fun b o e=>⟨Nat.le_trans hb (h.z9 b o e).1,(h.z9 b o e).2⟩,fun b o e=>⟨Nat.le_trans hb (h.z10 b o e).1,(h.z10 b o e).2⟩,fun b o e=>⟨Nat.le_trans hb (h.z11 b o e).1,(h.z11 b o e).2⟩,fun b o e=>⟨Nat.le_trans hb (h.z12 b o e).1,(h.z12 b o e).2⟩,fun b o e=>⟨Nat.le_trans hb (h.z13 b o e).1,(h.z13 b o e).2⟩,fun b o e=>⟨Nat.le_trans hb (h.z14 b o e).1,(h.z14 b o e).2⟩⟩
theorem zero_at (w:World):RuAt w S0 zeroR:=by
 refine⟨?_,?_,?_,?_,?_,?_,?_,?_,?_,by decide,by decide,by decide,by decide,by decide,by decide,by decide,by decide,by decide⟩<;>exact⟨rfl,fun h=>absurd h (by decide)⟩
theorem start_at (w:World):RuAt w S0 startR:=by
 refine⟨?_,?_,?_,?_,?_,?_,?_,?_,?_,by decide,by decide,by decide,by decide,by decide,by decide,by decide,by decide,by decide⟩<;>exact⟨rfl,fun h=>absurd h (by decide)⟩
theorem RBox.start (w:World):RBox w.heap.size w (w.alloc (.cells (S0.cells startR) 25)) w.heap.size S0 startR where
 lo:=Nat.le_refl _
 lt:=by simp
 cells:=fun k u e=>by rw[World.cell?_alloc_new];exact e
 free:=fun k=>by simp[go_sem]
 at_:=start_at _
 far:=⟨Far.none _,Far.none _,Far.none _,Far.none _,Far.none _,Far.none _,Far.none _,Far.none _,Far.none _⟩
 zero:=⟨Fresh.none _,Fresh.none _,Fresh.none _,Fresh.none _,Fresh.none _,Fresh.none _,Fresh.none _,Fresh.none _,Fresh.none _⟩
 below:=alloc_below _ _
theorem append_name {ops:Array Oper} {rest:List Oper} {o:Oper} {a:Act} {Q:Exit->Act->World->Prop} {W w:World} (hgd:o.guard=none) (s x:Operand)
  (ho:o.op= .call { callee:= .builtin .append,args:=#[s,x],argTypes:=#[59,59] })
  (v:Value) (l:List ByteArray) (hs:a.eval s=v) (hown:OwnT W w v l) (hat:W.heap.size<=w.heap.size) (t:ByteArray) (T:TypeId) (c:Nat)
  (hx:a.eval x= .slice (some ⟨w.heap.size,0,none⟩) 1 c) (hl:l.length<=1000000)
  (h:∀v' w',OwnT W w' v' (l++[t])->w.grownBy w' v.ownBlock->Below W.heap.size w w'->wpList Tryz.prog ops Q rest (a.put o.dst v') w'):wpList Tryz.prog ops Q (o::rest) a (w.alloc (.cells #[.string t] T)):=by
 obtain⟨i0,hi,hz0,hz1,hz2⟩:=info_parts info_str
 refine wpList_append_own _ hgd s x 59 ho W.heap.size 9 i0 (.string ⟨#[]⟩) 1 16 Tryz.underlying59 hi hz0 hz1 hz2 rfl (by decide) v l.length (l.map strV) hs (World.ownsRow.alloc hown _)
  ⟨w.heap.size,0,none⟩ 1 c [.string t] hx rfl ?_ (by intro u hu;obtain rfl:u= .string t:=by simpa using hu
                                                     rfl) (by unfold maxLen;omega) (by omega) (by simp;omega) ?_
 ·intro j u hj
  cases j with
  |zero=>obtain rfl:Value.string t=u:=by simpa using hj
         show (w.alloc (.cells #[.string t] T)).cell? ⟨w.heap.size,0,none⟩=_
         rw[World.cell?_alloc_new];rfl
  |succ j=>simp at hj
 ·intro v' w' hown' hg _
  have b0:=alloc_below w (.cells #[.string t] T);refine h v' w' ?_ ⟨hg.os.trans b0.os,hg.tape.trans b0.tape,hg.output.trans b0.output,Nat.le_trans b0.size hg.size,fun j hj hne=>(hg.block j (Nat.lt_of_lt_of_le hj b0.size) hne).trans (b0.block j hj)⟩ ((b0.mono hat).trans ((Below.refl _ _).grown hg (by simp;omega) fun _ hk=>(World.ownsRow.lt hown _ hk).1));unfold OwnT;rw[List.length_append,List.map_append];exact hown'
theorem seen_snoc {seen:List Nat} {names:List ByteArray} {k:Nat} {x:ByteArray} (hk:k<14) (hx:x=str (nameK k)) (h:∀j,j<14->(j∈seen↔str (nameK j)∈names)):∀j,j<14->(j∈k::seen↔str (nameK j)∈names++[x]):=by
 intro j hj
 rw[List.mem_cons,List.mem_append,List.mem_singleton,h j hj,hx]
 constructor
 ·rintro(rfl|h)
  ·exact .inr rfl
  ·exact .inl h
 ·rintro(h|h)
  ·exact .inr h
  ·have e:=str_inj h
   have:=keyOf_name ⟨j,hj⟩
   rw[show (⟨j,hj⟩:Fin 14).val=j from rfl,e,keyOf_name ⟨k,hk⟩] at this;injection this with this;exact .inl this.symm
theorem pl_none {t:Nat} {seen:List Nat} {r:Ru} {p:List UInt8} {ps:List (List UInt8)} (h:partOf p=none):parseL t seen r (p::ps)=(zeroR,(t:Int),4):=by rw[parseL,h]
theorem part_no {p:List UInt8} (h:(61:UInt8) ∉ p):partOf p=none:=by unfold partOf;rw[if_neg h]
theorem part_take {p:List UInt8} (h:(61:UInt8)∈p):partOf p=takeOf (bef1 61 p) (aft1 61 p):=by unfold partOf takeOf;rw[if_pos h];cases keyOf (bef1 61 p)<;>rfl
theorem pl_seen {t:Nat} {seen:List Nat} {names:List ByteArray} {r:Ru} {p:List UInt8} {ps:List (List UInt8)} (h61:(61:UInt8)∈p) (h:∀j,j<14->(j∈seen↔str (nameK j)∈names)) (hm:str (bef1 61 p)∈names):parseL t seen r (p::ps)=(zeroR,(t:Int),4):=by
 rw[parseL,part_take h61]
 unfold takeOf
 cases hk:keyOf (bef1 61 p) with
 |none=>rfl
 |some k=>
  obtain⟨e,h14⟩:=keyOf_some hk;rw[e] at hm
  cases hv:valOf k (aft1 61 p) with
  |none=>simp[hv]
  |some f=>simp[hv,if_pos ((h k h14).2 hm)]
theorem pl_go {t:Nat} {seen:List Nat} {names:List ByteArray} {r:Ru} {p:List UInt8} {ps:List (List UInt8)} {k:Nat} {f:Fl} (h61:(61:UInt8)∈p) (h:∀j,j<14->(j∈seen↔str (nameK j)∈names)) (hm:str (bef1 61 p) ∉ names) (ht:takeOf (bef1 61 p) (aft1 61 p)=some (k,f)):
  parseL t seen r (p::ps)=parseL (t+1) (k::seen) (setF r k f) ps/\∀j,j<14->(j∈k::seen↔str (nameK j)∈names++[str (bef1 61 p)]):=by
 have hb:k<14/\bef1 61 p=nameK k:=by
  unfold takeOf at ht
  cases hk:keyOf (bef1 61 p) with
  |none=>rw[hk] at ht;cases ht
  |some j=>
   rw[hk] at ht
   cases hv:valOf j (aft1 61 p) with
   |none=>simp[hv] at ht
   |some g=>
    simp[hv] at ht
    obtain⟨rfl,-⟩:=ht;exact⟨(keyOf_some hk).2,(keyOf_some hk).1⟩
 have hn:k ∉ seen:=fun q=>hm (by rw[hb.2];exact(h k hb.1).1 q)
 refine⟨?_,seen_snoc hb.1 (by rw[hb.2]) h⟩
 rw[parseL,part_take h61,ht]
 simp only
 rw[if_neg hn]
theorem parse_long (w:World) (s:ByteArray) (h:4096<s.size):Calls Tryz.prog 118 #[.string s] w (ParseF (ruParse s.data.toList) w):=by
 have G:ruParse s.data.toList=(zeroR,0,3):=by unfold ruParse;rw[if_pos (by rw[size_list];exact h)]
 rw[G]
 have t0:decide ((s.size:Int)>4096)=true:=decide_eq_true (by omega)
 go_enter Tryz.func118,Tryz.ntmps118
 go_wp2
 exact bodyPost_ret (v:= .tuple #[S0.val zeroR,.int .i64 0,.int .i64 3]) (by simp[results,Tryz.results118,go_sem,S0,RS.val,RS.cells,zeroR]) rfl ⟨S0,rfl,zero_at _,zero_S0 _,alloc_below _ _⟩
theorem res15 {tm:Array Value} {w:World} {g:Nat} {cs:Array Value} {u0 u1 u2 u3 u4 u5 u6 u7 u8 u9 u10 u11 u12 u13 u14:Value} {n e:Value} (hc:15<=cs.size) (h:∀k u,cs[k]? = some u->w.cell? ⟨g,k,none⟩=some u)
  (t2:tm[2]? = some (.pointer (some ⟨g,0,none⟩))) (t3:tm[3]? = some n) (t4:tm[4]? = some e):
  (results Tryz.f118 tm).run Tryz.prog (((((((((((((((w.setCell ⟨g,0,none⟩ u0).setCell ⟨g,1,none⟩ u1).setCell ⟨g,2,none⟩ u2).setCell ⟨g,3,none⟩ u3).setCell ⟨g,4,none⟩ u4).setCell ⟨g,5,none⟩ u5).setCell ⟨g,6,none⟩ u6).setCell ⟨g,7,none⟩ u7).setCell ⟨g,8,none⟩ u8).setCell ⟨g,9,none⟩ u9).setCell ⟨g,10,none⟩ u10).setCell ⟨g,11,none⟩ u11).setCell ⟨g,12,none⟩ u12).setCell ⟨g,13,none⟩ u13).setCell ⟨g,14,none⟩ u14)= .ok (.tuple #[.agg #[u0,u1,u2,u3,u4,u5,u6,u7,u8,u9,u10,u11,u12,u13,u14],n,e]) (((((((((((((((w.setCell ⟨g,0,none⟩ u0).setCell ⟨g,1,none⟩ u1).setCell ⟨g,2,none⟩ u2).setCell ⟨g,3,none⟩ u3).setCell ⟨g,4,none⟩ u4).setCell ⟨g,5,none⟩ u5).setCell ⟨g,6,none⟩ u6).setCell ⟨g,7,none⟩ u7).setCell ⟨g,8,none⟩ u8).setCell ⟨g,9,none⟩ u9).setCell ⟨g,10,none⟩ u10).setCell ⟨g,11,none⟩ u11).setCell ⟨g,12,none⟩ u12).setCell ⟨g,13,none⟩ u13).setCell ⟨g,14,none⟩ u14):=by
 simp[results,Tryz.results118,go_sem,t2,t3,t4,set15_0 hc h,set15_1 hc h,set15_2 hc h,set15_3 hc h,set15_4 hc h,set15_5 hc h,set15_6 hc h,set15_7 hc h,set15_8 hc h,set15_9 hc h,set15_10 hc h,set15_11 hc h,set15_12 hc h,set15_13 hc h,set15_14 hc h]
theorem cutAt_len (c:UInt8):∀(l:List UInt8),(cutAt c l).length<=l.length+1
 | []=>by simp[cutAt]
 |x::r=>by
  have ih:=cutAt_len c r;unfold cutAt
  split
  ·simp;omega
  ·cases e:cutAt c r with
   |nil=>exact absurd e (cutAt_ne c r)
   |cons q ps=>rw[e] at ih;simp at ih ⊢;omega
theorem countB_le (s:ByteArray) (c:UInt8):(cutAt c s.data.toList).length<=s.size+1:=by
 rw[<-size_list];exact cutAt_len c s.data.toList
theorem pat_str {ps:List (List UInt8)} {t:Nat} (h:t<ps.length):sat (ps.map str) t=str (pat ps t):=sat_map h
theorem drop_pat {ps:List (List UInt8)} {t:Nat} (h:t<ps.length):ps.drop t=pat ps t::ps.drop (t+1):=by
 rw[pat_lt h];exact List.drop_eq_getElem_cons h
theorem parse_anyF (w:World) (T:Tabs w) (s:ByteArray):Calls Tryz.prog 118 #[.string s] w (ParseF (ruParse s.data.toList) w):=by
 by_cases hs:4096<s.size
 ·exact parse_long w s hs
 have G:ruParse s.data.toList=parseL 0 [] startR (cutAt 59 s.data.toList):=by unfold ruParse;rw[if_neg (by rw[size_list];exact hs)]
 have t0:decide ((s.size:Int)>4096)=false:=decide_eq_false (by omega)
 have PL:=hid (fun (p:List UInt8) (hp:p∈cutAt 59 s.data.toList)=>show p.length<=4096 by
  have:=cut_len 59 s.data.toList p hp;rw[size_list] at this;omega)
 obtain⟨ps,hps⟩:∃ps,cutAt 59 s.data.toList=ps:=⟨_,rfl⟩
 have hlen:ps.length<=4097:=by
  rw[<-hps];have:=countB_le s 59;omega
 have hne:=cutAt_ne 59 s.data.toList
 rw[hps] at G PL hne
 obtain⟨o,ho⟩:∃o,ruParse s.data.toList=o:=⟨_,rfl⟩
 rw[ho] at G ⊢
 have GG:=hid G
 have HP:=hid hps
 have HL:=hid hlen
 have HN:=hid hne
 have TT:=hid T
 clear T G hps hlen hne ho
 have wn:(w.alloc (.cells (S0.cells zeroR) 25)).heap.size=w.heap.size+1:=by simp
 have bz:=alloc_below w (.cells (S0.cells zeroR) 25)
 have xz:=Box.new w (S0.cells zeroR) 25
 have fz:∀k,(w.alloc (.cells (S0.cells zeroR) 25)).frozen? ⟨w.heap.size,k,none⟩=false:=fun k=>by simp[go_sem]
 have CZ:=hid (fun (wr:World) (h:Below (w.heap.size+1) (w.alloc (.cells (S0.cells zeroR) 25)) wr) (k:Nat) (u:Value) (e:(S0.cells zeroR)[k]? = some u)=>(h.cell (p:=⟨w.heap.size,k,none⟩) (Nat.lt_succ_self _)).trans (xz.2 k u e))
 have FZ:=hid (fun (wr:World) (h:Below (w.heap.size+1) (w.alloc (.cells (S0.cells zeroR) 25)) wr) (k:Nat)=>(h.frozen (p:=⟨w.heap.size,k,none⟩) (Nat.lt_succ_self _)).trans (fz k))
 have BW:=hid (fun (wr:World) (h:Below (w.heap.size+1) (w.alloc (.cells (S0.cells zeroR) 25)) wr)=>bz.trans (h.mono (Nat.le_succ _)))
 have RB:=hid (wn ▸ RBox.start (w.alloc (.cells (S0.cells zeroR) 25)):RBox (w.heap.size+1) (w.alloc (.cells (S0.cells zeroR) 25)) ((w.alloc (.cells (S0.cells zeroR) 25)).alloc (.cells (S0.cells startR) 25)) (w.heap.size+1) S0 startR)
 have B0:=hid (bz.trans ((alloc_below (w.alloc (.cells (S0.cells zeroR) 25)) (.cells (S0.cells startR) 25)).mono (by simp)))
 clear bz xz fz wn
 go_enter Tryz.func118,Tryz.ntmps118
 go_wp2_with fail
 refine(split_is s 59 _ (TT.out.on B0.out) (by omega)).mono ?_
 rintro e w1 ⟨A,k,cap,rfl,hA,hF,b1⟩
 rw[HP.out] at hA
 have hk:=hA.1
 rw[List.length_map] at hk
 have R1:=hid (RB.out.on (by simp) b1)
 have N1:=hid (show w.heap.size+2<=w1.heap.size from Nat.le_trans (by simp) b1.size)
 have FA:=hid (show ∀b off,A=some ⟨b,off,none⟩->b≠w.heap.size+1 from fun b off e q=>by have:=(hF b off e).1;simp at this;omega)
 have HK:=hid hk
 have HS:=hid hA
 obtain⟨wz,hwz⟩:∃wz,w.alloc (.cells (S0.cells zeroR) 25)=wz:=⟨_,rfl⟩
 rw[hwz] at CZ FZ BW R1
 clear hk hA hF B0 RB b1 hwz
 go_wp2
 go_loopw [6,20] (fun ov i wr=>∃(v:Value) (t:Nat) (names:List ByteArray) (seen:List Nat) (r:Ru) (S:RS),t<=k/\v=ov/\i= .int .i64 t/\OwnT w1 wr v names/\(names≠[]\/v= .slice none 0 0)/\names.length=t/\RBox (w.heap.size+1) wz wr (w.heap.size+1) S r/\SsAt wr A k (ps.map str)/\w1.heap.size<=wr.heap.size/\Hid (o=parseL t seen r (ps.drop t))/\Hid (∀j,j<14->(j∈seen↔str (nameK j)∈names))) (fun _ i _=>k-(intOf i).toNat)
 case atStart=>exact⟨_,0,[],[],startR,S0,Nat.zero_le _,rfl,rfl,OwnT.nil _ _,.inr rfl,rfl,R1.out,HS.out,Nat.le_refl _,hid GG.out,hid (fun j hj=>by simp)⟩
 case round=>
  rename_i wr
  obtain⟨v0,t,names,seen,r,S,ht,rfl,rfl,ov,hv,hnl,hR,hSs,hsz,PP,SN⟩:=hrel;have hn1:=N1.out;have RR:=hid hR;have T2:=hid (TT.out.on (BW.out _ hR.below));have OV:=hid ov;have VV:=hid hv;have SS:=hid hSs;clear hR ov hv
  by_cases hlt:t<k
  ·have hlt2:t<ps.length:=by rw[<-HK.out];exact hlt
   obtain⟨b,off,hAe,hb,hcc⟩:=hSs.2 (by omega);subst hAe
   have hbw:b<w1.heap.size:=by
    obtain⟨b',o',e',h',-⟩:=HS.out.2 (by omega);injection e' with e';injection e' with e1 e2;omega
   have c0:=hcc t hlt;rw[pat_str hlt2] at c0;have DP:=hid (drop_pat hlt2);have SZ:=hid (PL.out (pat ps t) (by rw[pat_lt hlt2];exact List.getElem_mem _));clear hcc hSs hlt2;obtain⟨z,hz⟩:∃z,pat ps t=z:=⟨_,rfl⟩;rw[hz] at c0 DP SZ;clear hz
   by_cases h61:(61:UInt8)∈z
   ·have hc1:(bef1 61 z).length<=4096:=Nat.le_trans (bef1_len 61 z) SZ.out
    have hc2:(aft1 61 z).length<=4096:=Nat.le_trans (aft1_len 61 z) SZ.out
    have CU:=hid (show Lib.cut (str z).data.toList [61]=((str (bef1 61 z)).data.toList,(str (aft1 61 z)).data.toList,true) by rw[list_str,list_str,list_str,cut_eq,if_pos h61])
    by_cases hm:str (bef1 61 z)∈names
    ·have GO:=hid (show o=(zeroR,(t:Int),4) by rw[PP.out,DP.out];exact pl_seen h61 SN.out hm)
     have MM:=hid hm;clear hm h61;go_wp2_with fail;refine(cutS_is (str z) 61 _ (str (bef1 61 z)) (str (aft1 61 z)) true T2.out (by rw[str_size];have:=SZ.out;omega) CU.out).mono ?_;rintro e w2 ⟨rfl,b2⟩;have R2:=hid (RR.out.on (by omega) b2).below;have O2:=hid (OV.out.on b2);clear b2;go_wp2_with fail;refine(containsS_is v0 names _ true w1 w2 O2.out ⟨fun _=>MM.out,fun _=>rfl⟩).mono ?_;rintro e w3 ⟨rfl,rfl⟩;have z0:w3.cell? ⟨w.heap.size,0,none⟩=some (.int .i64 0):=CZ.out _ R2.out 0 _ rfl
     have y0:w3.frozen? ⟨w.heap.size,0,none⟩=false:=FZ.out _ R2.out 0
     have z1:w3.cell? ⟨w.heap.size,1,none⟩=some (.int .i64 0):=CZ.out _ R2.out 1 _ rfl
     have y1:w3.frozen? ⟨w.heap.size,1,none⟩=false:=FZ.out _ R2.out 1
     have z2:w3.cell? ⟨w.heap.size,2,none⟩=some (.int .i64 0):=CZ.out _ R2.out 2 _ rfl
     have y2:w3.frozen? ⟨w.heap.size,2,none⟩=false:=FZ.out _ R2.out 2
     have z3:w3.cell? ⟨w.heap.size,3,none⟩=some (.int .i64 0):=CZ.out _ R2.out 3 _ rfl
     have y3:w3.frozen? ⟨w.heap.size,3,none⟩=false:=FZ.out _ R2.out 3
     have z4:w3.cell? ⟨w.heap.size,4,none⟩=some (.int .i64 0):=CZ.out _ R2.out 4 _ rfl
     have y4:w3.frozen? ⟨w.heap.size,4,none⟩=false:=FZ.out _ R2.out 4
     have z5:w3.cell? ⟨w.heap.size,5,none⟩=some (.bool false):=CZ.out _ R2.out 5 _ rfl
     have y5:w3.frozen? ⟨w.heap.size,5,none⟩=false:=FZ.out _ R2.out 5
     have z6:w3.cell? ⟨w.heap.size,6,none⟩=some (.slice none 0 0):=CZ.out _ R2.out 6 _ rfl
     have y6:w3.frozen? ⟨w.heap.size,6,none⟩=false:=FZ.out _ R2.out 6
     have z7:w3.cell? ⟨w.heap.size,7,none⟩=some (.slice none 0 0):=CZ.out _ R2.out 7 _ rfl
     have y7:w3.frozen? ⟨w.heap.size,7,none⟩=false:=FZ.out _ R2.out 7
     have z8:w3.cell? ⟨w.heap.size,8,none⟩=some (.slice none 0 0):=CZ.out _ R2.out 8 _ rfl
     have y8:w3.frozen? ⟨w.heap.size,8,none⟩=false:=FZ.out _ R2.out 8
     have z9:w3.cell? ⟨w.heap.size,9,none⟩=some (.slice none 0 0):=CZ.out _ R2.out 9 _ rfl
     have y9:w3.frozen? ⟨w.heap.size,9,none⟩=false:=FZ.out _ R2.out 9
     have z10:w3.cell? ⟨w.heap.size,10,none⟩=some (.slice none 0 0):=CZ.out _ R2.out 10 _ rfl
     have y10:w3.frozen? ⟨w.heap.size,10,none⟩=false:=FZ.out _ R2.out 10
     have z11:w3.cell? ⟨w.heap.size,11,none⟩=some (.slice none 0 0):=CZ.out _ R2.out 11 _ rfl
     have y11:w3.frozen? ⟨w.heap.size,11,none⟩=false:=FZ.out _ R2.out 11
     have z12:w3.cell? ⟨w.heap.size,12,none⟩=some (.slice none 0 0):=CZ.out _ R2.out 12 _ rfl
     have y12:w3.frozen? ⟨w.heap.size,12,none⟩=false:=FZ.out _ R2.out 12
     have z13:w3.cell? ⟨w.heap.size,13,none⟩=some (.slice none 0 0):=CZ.out _ R2.out 13 _ rfl
     have y13:w3.frozen? ⟨w.heap.size,13,none⟩=false:=FZ.out _ R2.out 13
     have z14:w3.cell? ⟨w.heap.size,14,none⟩=some (.slice none 0 0):=CZ.out _ R2.out 14 _ rfl
     have y14:w3.frozen? ⟨w.heap.size,14,none⟩=false:=FZ.out _ R2.out 14
     go_wp2;exact bodyPost_ret (res15 (show 15<=(S0.cells zeroR).size from Nat.le_refl _) (CZ.out _ R2.out) rfl rfl rfl) rfl (by rw[show o=_ from GO.out];exact⟨S0,rfl,zero_at _,zero_S0 _,below15 (Nat.le_refl _) (BW.out _ R2.out)⟩)
    ·have MM:=hid hm
     cases htk:takeOf (bef1 61 z) (aft1 61 z) with
     |none=>
      have GO:=hid (show o=(zeroR,(t:Int),4) by rw[PP.out,DP.out];exact pl_none (by rw[part_take h61];exact htk));clear hm h61;go_wp2_with fail;refine(cutS_is (str z) 61 _ (str (bef1 61 z)) (str (aft1 61 z)) true T2.out (by rw[str_size];have:=SZ.out;omega) CU.out).mono ?_;rintro e w2 ⟨rfl,b2⟩;have R2:=hid (RR.out.on (by omega) b2);have O2:=hid (OV.out.on b2);have T3:=hid (T2.out.on b2);have bs:=b2.size;clear b2;go_wp2_with fail;refine(containsS_is v0 names _ false w1 w2 O2.out ⟨fun q=>(by cases q),fun q=>absurd q MM.out⟩).mono ?_;rintro e w3 ⟨rfl,rfl⟩;go_wp2_with fail;refine(take_any R2.out (by omega) T3.out _ _ (by rw[str_size];omega)).mono ?_;rw[list_str,list_str,htk];rintro e w4 ⟨b4,-,⟨-,rfl⟩|⟨_,_,_,q,-⟩⟩
      rotate_left
      ·cases q
      have R4:=hid b4;clear b4;have z0:w4.cell? ⟨w.heap.size,0,none⟩=some (.int .i64 0):=CZ.out _ R4.out 0 _ rfl
      have y0:w4.frozen? ⟨w.heap.size,0,none⟩=false:=FZ.out _ R4.out 0
      have z1:w4.cell? ⟨w.heap.size,1,none⟩=some (.int .i64 0):=CZ.out _ R4.out 1 _ rfl
      have y1:w4.frozen? ⟨w.heap.size,1,none⟩=false:=FZ.out _ R4.out 1
      have z2:w4.cell? ⟨w.heap.size,2,none⟩=some (.int .i64 0):=CZ.out _ R4.out 2 _ rfl
      have y2:w4.frozen? ⟨w.heap.size,2,none⟩=false:=FZ.out _ R4.out 2
      have z3:w4.cell? ⟨w.heap.size,3,none⟩=some (.int .i64 0):=CZ.out _ R4.out 3 _ rfl
      have y3:w4.frozen? ⟨w.heap.size,3,none⟩=false:=FZ.out _ R4.out 3
      have z4:w4.cell? ⟨w.heap.size,4,none⟩=some (.int .i64 0):=CZ.out _ R4.out 4 _ rfl
      have y4:w4.frozen? ⟨w.heap.size,4,none⟩=false:=FZ.out _ R4.out 4
      have z5:w4.cell? ⟨w.heap.size,5,none⟩=some (.bool false):=CZ.out _ R4.out 5 _ rfl
      have y5:w4.frozen? ⟨w.heap.size,5,none⟩=false:=FZ.out _ R4.out 5
      have z6:w4.cell? ⟨w.heap.size,6,none⟩=some (.slice none 0 0):=CZ.out _ R4.out 6 _ rfl
      have y6:w4.frozen? ⟨w.heap.size,6,none⟩=false:=FZ.out _ R4.out 6
      have z7:w4.cell? ⟨w.heap.size,7,none⟩=some (.slice none 0 0):=CZ.out _ R4.out 7 _ rfl
      have y7:w4.frozen? ⟨w.heap.size,7,none⟩=false:=FZ.out _ R4.out 7
      have z8:w4.cell? ⟨w.heap.size,8,none⟩=some (.slice none 0 0):=CZ.out _ R4.out 8 _ rfl
      have y8:w4.frozen? ⟨w.heap.size,8,none⟩=false:=FZ.out _ R4.out 8
      have z9:w4.cell? ⟨w.heap.size,9,none⟩=some (.slice none 0 0):=CZ.out _ R4.out 9 _ rfl
      have y9:w4.frozen? ⟨w.heap.size,9,none⟩=false:=FZ.out _ R4.out 9
      have z10:w4.cell? ⟨w.heap.size,10,none⟩=some (.slice none 0 0):=CZ.out _ R4.out 10 _ rfl
      have y10:w4.frozen? ⟨w.heap.size,10,none⟩=false:=FZ.out _ R4.out 10
      have z11:w4.cell? ⟨w.heap.size,11,none⟩=some (.slice none 0 0):=CZ.out _ R4.out 11 _ rfl
      have y11:w4.frozen? ⟨w.heap.size,11,none⟩=false:=FZ.out _ R4.out 11
      have z12:w4.cell? ⟨w.heap.size,12,none⟩=some (.slice none 0 0):=CZ.out _ R4.out 12 _ rfl
      have y12:w4.frozen? ⟨w.heap.size,12,none⟩=false:=FZ.out _ R4.out 12
      have z13:w4.cell? ⟨w.heap.size,13,none⟩=some (.slice none 0 0):=CZ.out _ R4.out 13 _ rfl
      have y13:w4.frozen? ⟨w.heap.size,13,none⟩=false:=FZ.out _ R4.out 13
      have z14:w4.cell? ⟨w.heap.size,14,none⟩=some (.slice none 0 0):=CZ.out _ R4.out 14 _ rfl
      have y14:w4.frozen? ⟨w.heap.size,14,none⟩=false:=FZ.out _ R4.out 14
      go_wp2;exact bodyPost_ret (res15 (show 15<=(S0.cells zeroR).size from Nat.le_refl _) (CZ.out _ R4.out) rfl rfl rfl) rfl (by rw[show o=_ from GO.out];exact⟨S0,rfl,zero_at _,zero_S0 _,below15 (Nat.le_refl _) (BW.out _ R4.out)⟩)
     |some kf=>
      obtain⟨kk,ff⟩:=kf;have GO:=hid (pl_go (t:=t) (r:=r) (ps:=ps.drop (t+1)) h61 SN.out hm htk);have GP:=hid (show o=parseL t seen r (z::ps.drop (t+1)) by rw[PP.out,DP.out]);clear hm h61;go_wp2_with fail;refine(cutS_is (str z) 61 _ (str (bef1 61 z)) (str (aft1 61 z)) true T2.out (by rw[str_size];have:=SZ.out;omega) CU.out).mono ?_;rintro e w2 ⟨rfl,b2⟩;have R2:=hid (RR.out.on (by omega) b2);have O2:=hid (OV.out.on b2);have T3:=hid (T2.out.on b2);have S2:=hid (SS.out.below b2);have bs:=b2.size;clear b2;go_wp2_with fail;refine(containsS_is v0 names _ false w1 w2 O2.out ⟨fun q=>(by cases q),fun q=>absurd q MM.out⟩).mono ?_;rintro e w3 ⟨rfl,rfl⟩;go_wp2_with fail;refine(take_any R2.out (by omega) T3.out _ _ (by rw[str_size];omega)).mono ?_;rw[list_str,list_str,htk];rintro e w4 ⟨b4,g4,⟨q,-⟩|⟨k',f',S',q,rfl,R4⟩⟩
      ·cases q
      injection q with q;injection q with q1 q2;subst q1;subst q2
      have ov4:OwnT w1 w4 v0 names:=World.ownsRow.kept (row:=some (w.heap.size+1)) O2.out g4 (by
       cases hvo:v0.ownBlock with
       |none=>simp
       |some bb=>have:=(World.ownsRow.lt O2.out bb hvo).1;exact .inr (by intro q;injection q with q;omega))
      have s4:SsAt w4 (some ⟨b,off,none⟩) k (ps.map str):=S2.out.kept g4 (fun b' o' e q=>by
       injection q with q;exact FA.out b' o' e q)
      have sz4:w1.heap.size<=w4.heap.size:=by have:=g4.size;omega
      have R4h:=hid R4;have nl6:names.length<=1000000:=by have h1:=HK.out;have h2:=HL.out;omega
      clear R4 g4 b4
      go_wp2_with (at_builtin;refine append_name rfl _ _ rfl v0 names rfl ov4 sz4 (str (bef1 61 z)) 9 1 (by show Value.slice (some ⟨w4.heap.size,0,none⟩) 1 1=_;simp) nl6 ?_)
      intro v5 w5 ov5 g5 b5;have R5:=hid (R4h.out.kept ov4 VV.out g5 b5 (by omega) (by omega))
      have s5:SsAt w5 (some ⟨b,off,none⟩) k (ps.map str):=s4.kept g5 (fun b' o' e q=>by
       have h1:=(World.ownsRow.lt ov4 b' q.symm).1;injection e with e;injection e with e1 e2
       omega)
      have sz5:w1.heap.size<=w5.heap.size:=Nat.le_trans sz4 b5.size
      go_wp2
      go_roundw
      case rel=>exact⟨_,t+1,_,kk::seen,setF r kk ff,S',by omega,rfl,by go_num,ov5,.inl (by simp),by simp[hnl],R5.out,s5,sz5,hid (GP.out.trans GO.out.1),hid GO.out.2⟩
      case measure=>simp[intOf];omega
   ·have GO:=hid (show o=(zeroR,(t:Int),4) by rw[PP.out,DP.out];exact pl_none (part_no h61))
    have CU:=hid (show Lib.cut (str z).data.toList [61]=((str z).data.toList,(str []).data.toList,false) by rw[list_str,list_str,cut_eq,if_neg h61]);clear h61;go_wp2_with fail;refine(cutS_is (str z) 61 _ (str z) (str []) false T2.out (by rw[str_size];have:=SZ.out;omega) CU.out).mono ?_;rintro e w2 ⟨rfl,b2⟩;have R2:=hid (RR.out.on (by omega) b2).below;clear b2;have z0:w2.cell? ⟨w.heap.size,0,none⟩=some (.int .i64 0):=CZ.out _ R2.out 0 _ rfl
    have y0:w2.frozen? ⟨w.heap.size,0,none⟩=false:=FZ.out _ R2.out 0
    have z1:w2.cell? ⟨w.heap.size,1,none⟩=some (.int .i64 0):=CZ.out _ R2.out 1 _ rfl
    have y1:w2.frozen? ⟨w.heap.size,1,none⟩=false:=FZ.out _ R2.out 1
    have z2:w2.cell? ⟨w.heap.size,2,none⟩=some (.int .i64 0):=CZ.out _ R2.out 2 _ rfl
    have y2:w2.frozen? ⟨w.heap.size,2,none⟩=false:=FZ.out _ R2.out 2
    have z3:w2.cell? ⟨w.heap.size,3,none⟩=some (.int .i64 0):=CZ.out _ R2.out 3 _ rfl
    have y3:w2.frozen? ⟨w.heap.size,3,none⟩=false:=FZ.out _ R2.out 3
    have z4:w2.cell? ⟨w.heap.size,4,none⟩=some (.int .i64 0):=CZ.out _ R2.out 4 _ rfl
    have y4:w2.frozen? ⟨w.heap.size,4,none⟩=false:=FZ.out _ R2.out 4
    have z5:w2.cell? ⟨w.heap.size,5,none⟩=some (.bool false):=CZ.out _ R2.out 5 _ rfl
    have y5:w2.frozen? ⟨w.heap.size,5,none⟩=false:=FZ.out _ R2.out 5
    have z6:w2.cell? ⟨w.heap.size,6,none⟩=some (.slice none 0 0):=CZ.out _ R2.out 6 _ rfl
    have y6:w2.frozen? ⟨w.heap.size,6,none⟩=false:=FZ.out _ R2.out 6
    have z7:w2.cell? ⟨w.heap.size,7,none⟩=some (.slice none 0 0):=CZ.out _ R2.out 7 _ rfl
    have y7:w2.frozen? ⟨w.heap.size,7,none⟩=false:=FZ.out _ R2.out 7
    have z8:w2.cell? ⟨w.heap.size,8,none⟩=some (.slice none 0 0):=CZ.out _ R2.out 8 _ rfl
    have y8:w2.frozen? ⟨w.heap.size,8,none⟩=false:=FZ.out _ R2.out 8
    have z9:w2.cell? ⟨w.heap.size,9,none⟩=some (.slice none 0 0):=CZ.out _ R2.out 9 _ rfl
    have y9:w2.frozen? ⟨w.heap.size,9,none⟩=false:=FZ.out _ R2.out 9
    have z10:w2.cell? ⟨w.heap.size,10,none⟩=some (.slice none 0 0):=CZ.out _ R2.out 10 _ rfl
    have y10:w2.frozen? ⟨w.heap.size,10,none⟩=false:=FZ.out _ R2.out 10
    have z11:w2.cell? ⟨w.heap.size,11,none⟩=some (.slice none 0 0):=CZ.out _ R2.out 11 _ rfl
    have y11:w2.frozen? ⟨w.heap.size,11,none⟩=false:=FZ.out _ R2.out 11
    have z12:w2.cell? ⟨w.heap.size,12,none⟩=some (.slice none 0 0):=CZ.out _ R2.out 12 _ rfl
    have y12:w2.frozen? ⟨w.heap.size,12,none⟩=false:=FZ.out _ R2.out 12
    have z13:w2.cell? ⟨w.heap.size,13,none⟩=some (.slice none 0 0):=CZ.out _ R2.out 13 _ rfl
    have y13:w2.frozen? ⟨w.heap.size,13,none⟩=false:=FZ.out _ R2.out 13
    have z14:w2.cell? ⟨w.heap.size,14,none⟩=some (.slice none 0 0):=CZ.out _ R2.out 14 _ rfl
    have y14:w2.frozen? ⟨w.heap.size,14,none⟩=false:=FZ.out _ R2.out 14
    go_wp2;exact bodyPost_ret (res15 (show 15<=(S0.cells zeroR).size from Nat.le_refl _) (CZ.out _ R2.out) rfl rfl rfl) rfl (by rw[show o=_ from GO.out];exact⟨S0,rfl,zero_at _,zero_S0 _,below15 (Nat.le_refl _) (BW.out _ R2.out)⟩)
  ·obtain rfl:k=t:=by omega
   have GE:=hid (show o=endP r by rw[PP.out,List.drop_eq_nil_of_le (by rw[HK.out];exact Nat.le_refl _),parseL]);have zf:wr.cell? ⟨w.heap.size+1,0,none⟩=some (.int .i64 r.freq):=RR.out.cells 0 _ rfl
   by_cases h0:r.freq=0
   ·have GO:=hid (show o=(zeroR,0,7) by rw[GE.out];unfold endP;rw[if_pos h0])
    have t1:(r.freq==0)=true:=beq_iff_eq.2 h0
    have R2:=hid RR.out.below;have z0:wr.cell? ⟨w.heap.size,0,none⟩=some (.int .i64 0):=CZ.out _ R2.out 0 _ rfl
    have y0:wr.frozen? ⟨w.heap.size,0,none⟩=false:=FZ.out _ R2.out 0
    have z1:wr.cell? ⟨w.heap.size,1,none⟩=some (.int .i64 0):=CZ.out _ R2.out 1 _ rfl
    have y1:wr.frozen? ⟨w.heap.size,1,none⟩=false:=FZ.out _ R2.out 1
    have z2:wr.cell? ⟨w.heap.size,2,none⟩=some (.int .i64 0):=CZ.out _ R2.out 2 _ rfl
    have y2:wr.frozen? ⟨w.heap.size,2,none⟩=false:=FZ.out _ R2.out 2
    have z3:wr.cell? ⟨w.heap.size,3,none⟩=some (.int .i64 0):=CZ.out _ R2.out 3 _ rfl
    have y3:wr.frozen? ⟨w.heap.size,3,none⟩=false:=FZ.out _ R2.out 3
    have z4:wr.cell? ⟨w.heap.size,4,none⟩=some (.int .i64 0):=CZ.out _ R2.out 4 _ rfl
    have y4:wr.frozen? ⟨w.heap.size,4,none⟩=false:=FZ.out _ R2.out 4
    have z5:wr.cell? ⟨w.heap.size,5,none⟩=some (.bool false):=CZ.out _ R2.out 5 _ rfl
    have y5:wr.frozen? ⟨w.heap.size,5,none⟩=false:=FZ.out _ R2.out 5
    have z6:wr.cell? ⟨w.heap.size,6,none⟩=some (.slice none 0 0):=CZ.out _ R2.out 6 _ rfl
    have y6:wr.frozen? ⟨w.heap.size,6,none⟩=false:=FZ.out _ R2.out 6
    have z7:wr.cell? ⟨w.heap.size,7,none⟩=some (.slice none 0 0):=CZ.out _ R2.out 7 _ rfl
    have y7:wr.frozen? ⟨w.heap.size,7,none⟩=false:=FZ.out _ R2.out 7
    have z8:wr.cell? ⟨w.heap.size,8,none⟩=some (.slice none 0 0):=CZ.out _ R2.out 8 _ rfl
    have y8:wr.frozen? ⟨w.heap.size,8,none⟩=false:=FZ.out _ R2.out 8
    have z9:wr.cell? ⟨w.heap.size,9,none⟩=some (.slice none 0 0):=CZ.out _ R2.out 9 _ rfl
    have y9:wr.frozen? ⟨w.heap.size,9,none⟩=false:=FZ.out _ R2.out 9
    have z10:wr.cell? ⟨w.heap.size,10,none⟩=some (.slice none 0 0):=CZ.out _ R2.out 10 _ rfl
    have y10:wr.frozen? ⟨w.heap.size,10,none⟩=false:=FZ.out _ R2.out 10
    have z11:wr.cell? ⟨w.heap.size,11,none⟩=some (.slice none 0 0):=CZ.out _ R2.out 11 _ rfl
    have y11:wr.frozen? ⟨w.heap.size,11,none⟩=false:=FZ.out _ R2.out 11
    have z12:wr.cell? ⟨w.heap.size,12,none⟩=some (.slice none 0 0):=CZ.out _ R2.out 12 _ rfl
    have y12:wr.frozen? ⟨w.heap.size,12,none⟩=false:=FZ.out _ R2.out 12
    have z13:wr.cell? ⟨w.heap.size,13,none⟩=some (.slice none 0 0):=CZ.out _ R2.out 13 _ rfl
    have y13:wr.frozen? ⟨w.heap.size,13,none⟩=false:=FZ.out _ R2.out 13
    have z14:wr.cell? ⟨w.heap.size,14,none⟩=some (.slice none 0 0):=CZ.out _ R2.out 14 _ rfl
    have y14:wr.frozen? ⟨w.heap.size,14,none⟩=false:=FZ.out _ R2.out 14
    go_wp2;exact bodyPost_ret (res15 (show 15<=(S0.cells zeroR).size from Nat.le_refl _) (CZ.out _ R2.out) rfl rfl rfl) rfl (by rw[show o=_ from GO.out];exact⟨S0,rfl,zero_at _,zero_S0 _,below15 (Nat.le_refl _) (BW.out _ R2.out)⟩)
   ·have t1:(r.freq==0)=false:=beq_eq_false_iff_ne.2 h0
    have c1:wr.cell? ⟨w.heap.size+1,1,none⟩=some (.int .i64 r.itv):=RR.out.cells 1 _ rfl
    have c2:wr.cell? ⟨w.heap.size+1,2,none⟩=some (.int .i64 r.cnt):=RR.out.cells 2 _ rfl
    have c3:wr.cell? ⟨w.heap.size+1,3,none⟩=some (.int .i64 r.til):=RR.out.cells 3 _ rfl
    have c4:wr.cell? ⟨w.heap.size+1,4,none⟩=some (.int .i64 r.wkst):=RR.out.cells 4 _ rfl
    have c5:wr.cell? ⟨w.heap.size+1,5,none⟩=some (.bool r.ends):=RR.out.cells 5 _ rfl
    have c6:wr.cell? ⟨w.heap.size+1,6,none⟩=some (.slice S.a6 S.n6 S.c6):=RR.out.cells 6 _ rfl
    have c7:wr.cell? ⟨w.heap.size+1,7,none⟩=some (.slice S.a7 S.n7 S.c7):=RR.out.cells 7 _ rfl
    have c8:wr.cell? ⟨w.heap.size+1,8,none⟩=some (.slice S.a8 S.n8 S.c8):=RR.out.cells 8 _ rfl
    have c9:wr.cell? ⟨w.heap.size+1,9,none⟩=some (.slice S.a9 S.n9 S.c9):=RR.out.cells 9 _ rfl
    have c10:wr.cell? ⟨w.heap.size+1,10,none⟩=some (.slice S.a10 S.n10 S.c10):=RR.out.cells 10 _ rfl
    have c11:wr.cell? ⟨w.heap.size+1,11,none⟩=some (.slice S.a11 S.n11 S.c11):=RR.out.cells 11 _ rfl
    have c12:wr.cell? ⟨w.heap.size+1,12,none⟩=some (.slice S.a12 S.n12 S.c12):=RR.out.cells 12 _ rfl
    have c13:wr.cell? ⟨w.heap.size+1,13,none⟩=some (.slice S.a13 S.n13 S.c13):=RR.out.cells 13 _ rfl
    have c14:wr.cell? ⟨w.heap.size+1,14,none⟩=some (.slice S.a14 S.n14 S.c14):=RR.out.cells 14 _ rfl
    cases hm:mayR r with
    |false=>
     have GO:=hid (show o=(zeroR,0,1) by rw[GE.out];unfold endP;rw[if_neg h0,if_neg (by rw[hm];decide)]);have MR:=hid hm;clear hm h0;go_wp2_with fail;refine(may_r _ S r false RR.out.at_ MR.out).mono ?_;rintro e w2 ⟨rfl,b2⟩;have R2:=hid (RR.out.on (by omega) b2).below;clear b2;have z0:w2.cell? ⟨w.heap.size,0,none⟩=some (.int .i64 0):=CZ.out _ R2.out 0 _ rfl
     have y0:w2.frozen? ⟨w.heap.size,0,none⟩=false:=FZ.out _ R2.out 0
     have z1:w2.cell? ⟨w.heap.size,1,none⟩=some (.int .i64 0):=CZ.out _ R2.out 1 _ rfl
     have y1:w2.frozen? ⟨w.heap.size,1,none⟩=false:=FZ.out _ R2.out 1
     have z2:w2.cell? ⟨w.heap.size,2,none⟩=some (.int .i64 0):=CZ.out _ R2.out 2 _ rfl
     have y2:w2.frozen? ⟨w.heap.size,2,none⟩=false:=FZ.out _ R2.out 2
     have z3:w2.cell? ⟨w.heap.size,3,none⟩=some (.int .i64 0):=CZ.out _ R2.out 3 _ rfl
     have y3:w2.frozen? ⟨w.heap.size,3,none⟩=false:=FZ.out _ R2.out 3
     have z4:w2.cell? ⟨w.heap.size,4,none⟩=some (.int .i64 0):=CZ.out _ R2.out 4 _ rfl
     have y4:w2.frozen? ⟨w.heap.size,4,none⟩=false:=FZ.out _ R2.out 4
     have z5:w2.cell? ⟨w.heap.size,5,none⟩=some (.bool false):=CZ.out _ R2.out 5 _ rfl
     have y5:w2.frozen? ⟨w.heap.size,5,none⟩=false:=FZ.out _ R2.out 5
     have z6:w2.cell? ⟨w.heap.size,6,none⟩=some (.slice none 0 0):=CZ.out _ R2.out 6 _ rfl
     have y6:w2.frozen? ⟨w.heap.size,6,none⟩=false:=FZ.out _ R2.out 6
     have z7:w2.cell? ⟨w.heap.size,7,none⟩=some (.slice none 0 0):=CZ.out _ R2.out 7 _ rfl
     have y7:w2.frozen? ⟨w.heap.size,7,none⟩=false:=FZ.out _ R2.out 7
     have z8:w2.cell? ⟨w.heap.size,8,none⟩=some (.slice none 0 0):=CZ.out _ R2.out 8 _ rfl
     have y8:w2.frozen? ⟨w.heap.size,8,none⟩=false:=FZ.out _ R2.out 8
     have z9:w2.cell? ⟨w.heap.size,9,none⟩=some (.slice none 0 0):=CZ.out _ R2.out 9 _ rfl
     have y9:w2.frozen? ⟨w.heap.size,9,none⟩=false:=FZ.out _ R2.out 9
     have z10:w2.cell? ⟨w.heap.size,10,none⟩=some (.slice none 0 0):=CZ.out _ R2.out 10 _ rfl
     have y10:w2.frozen? ⟨w.heap.size,10,none⟩=false:=FZ.out _ R2.out 10
     have z11:w2.cell? ⟨w.heap.size,11,none⟩=some (.slice none 0 0):=CZ.out _ R2.out 11 _ rfl
     have y11:w2.frozen? ⟨w.heap.size,11,none⟩=false:=FZ.out _ R2.out 11
     have z12:w2.cell? ⟨w.heap.size,12,none⟩=some (.slice none 0 0):=CZ.out _ R2.out 12 _ rfl
     have y12:w2.frozen? ⟨w.heap.size,12,none⟩=false:=FZ.out _ R2.out 12
     have z13:w2.cell? ⟨w.heap.size,13,none⟩=some (.slice none 0 0):=CZ.out _ R2.out 13 _ rfl
     have y13:w2.frozen? ⟨w.heap.size,13,none⟩=false:=FZ.out _ R2.out 13
     have z14:w2.cell? ⟨w.heap.size,14,none⟩=some (.slice none 0 0):=CZ.out _ R2.out 14 _ rfl
     have y14:w2.frozen? ⟨w.heap.size,14,none⟩=false:=FZ.out _ R2.out 14
     go_wp2;exact bodyPost_ret (res15 (show 15<=(S0.cells zeroR).size from Nat.le_refl _) (CZ.out _ R2.out) rfl rfl rfl) rfl (by rw[show o=_ from GO.out];exact⟨S0,rfl,zero_at _,zero_S0 _,below15 (Nat.le_refl _) (BW.out _ R2.out)⟩)
    |true=>
     have GO:=hid (show o=(r,0,0) by rw[GE.out];unfold endP;rw[if_neg h0,if_pos hm]);have MR:=hid hm;clear hm h0;go_wp2_with fail;refine(may_r _ S r true RR.out.at_ MR.out).mono ?_;rintro e w2 ⟨rfl,b2⟩;have R3:=hid (RR.out.on (by omega) b2);have R2:=hid R3.out.below;clear b2;have z0:w2.cell? ⟨w.heap.size,0,none⟩=some (.int .i64 0):=CZ.out _ R2.out 0 _ rfl
     have y0:w2.frozen? ⟨w.heap.size,0,none⟩=false:=FZ.out _ R2.out 0
     have z1:w2.cell? ⟨w.heap.size,1,none⟩=some (.int .i64 0):=CZ.out _ R2.out 1 _ rfl
     have y1:w2.frozen? ⟨w.heap.size,1,none⟩=false:=FZ.out _ R2.out 1
     have z2:w2.cell? ⟨w.heap.size,2,none⟩=some (.int .i64 0):=CZ.out _ R2.out 2 _ rfl
     have y2:w2.frozen? ⟨w.heap.size,2,none⟩=false:=FZ.out _ R2.out 2
     have z3:w2.cell? ⟨w.heap.size,3,none⟩=some (.int .i64 0):=CZ.out _ R2.out 3 _ rfl
     have y3:w2.frozen? ⟨w.heap.size,3,none⟩=false:=FZ.out _ R2.out 3
     have z4:w2.cell? ⟨w.heap.size,4,none⟩=some (.int .i64 0):=CZ.out _ R2.out 4 _ rfl
     have y4:w2.frozen? ⟨w.heap.size,4,none⟩=false:=FZ.out _ R2.out 4
     have z5:w2.cell? ⟨w.heap.size,5,none⟩=some (.bool false):=CZ.out _ R2.out 5 _ rfl
     have y5:w2.frozen? ⟨w.heap.size,5,none⟩=false:=FZ.out _ R2.out 5
     have z6:w2.cell? ⟨w.heap.size,6,none⟩=some (.slice none 0 0):=CZ.out _ R2.out 6 _ rfl
     have y6:w2.frozen? ⟨w.heap.size,6,none⟩=false:=FZ.out _ R2.out 6
     have z7:w2.cell? ⟨w.heap.size,7,none⟩=some (.slice none 0 0):=CZ.out _ R2.out 7 _ rfl
     have y7:w2.frozen? ⟨w.heap.size,7,none⟩=false:=FZ.out _ R2.out 7
     have z8:w2.cell? ⟨w.heap.size,8,none⟩=some (.slice none 0 0):=CZ.out _ R2.out 8 _ rfl
     have y8:w2.frozen? ⟨w.heap.size,8,none⟩=false:=FZ.out _ R2.out 8
     have z9:w2.cell? ⟨w.heap.size,9,none⟩=some (.slice none 0 0):=CZ.out _ R2.out 9 _ rfl
     have y9:w2.frozen? ⟨w.heap.size,9,none⟩=false:=FZ.out _ R2.out 9
     have z10:w2.cell? ⟨w.heap.size,10,none⟩=some (.slice none 0 0):=CZ.out _ R2.out 10 _ rfl
     have y10:w2.frozen? ⟨w.heap.size,10,none⟩=false:=FZ.out _ R2.out 10
     have z11:w2.cell? ⟨w.heap.size,11,none⟩=some (.slice none 0 0):=CZ.out _ R2.out 11 _ rfl
     have y11:w2.frozen? ⟨w.heap.size,11,none⟩=false:=FZ.out _ R2.out 11
     have z12:w2.cell? ⟨w.heap.size,12,none⟩=some (.slice none 0 0):=CZ.out _ R2.out 12 _ rfl
     have y12:w2.frozen? ⟨w.heap.size,12,none⟩=false:=FZ.out _ R2.out 12
     have z13:w2.cell? ⟨w.heap.size,13,none⟩=some (.slice none 0 0):=CZ.out _ R2.out 13 _ rfl
     have y13:w2.frozen? ⟨w.heap.size,13,none⟩=false:=FZ.out _ R2.out 13
     have z14:w2.cell? ⟨w.heap.size,14,none⟩=some (.slice none 0 0):=CZ.out _ R2.out 14 _ rfl
     have y14:w2.frozen? ⟨w.heap.size,14,none⟩=false:=FZ.out _ R2.out 14
     have c0:w2.cell? ⟨w.heap.size+1,0,none⟩=some (.int .i64 r.freq):=R3.out.cells 0 _ rfl
     have c1:w2.cell? ⟨w.heap.size+1,1,none⟩=some (.int .i64 r.itv):=R3.out.cells 1 _ rfl
     have c2:w2.cell? ⟨w.heap.size+1,2,none⟩=some (.int .i64 r.cnt):=R3.out.cells 2 _ rfl
     have c3:w2.cell? ⟨w.heap.size+1,3,none⟩=some (.int .i64 r.til):=R3.out.cells 3 _ rfl
     have c4:w2.cell? ⟨w.heap.size+1,4,none⟩=some (.int .i64 r.wkst):=R3.out.cells 4 _ rfl
     have c5:w2.cell? ⟨w.heap.size+1,5,none⟩=some (.bool r.ends):=R3.out.cells 5 _ rfl
     have c6:w2.cell? ⟨w.heap.size+1,6,none⟩=some (.slice S.a6 S.n6 S.c6):=R3.out.cells 6 _ rfl
     have c7:w2.cell? ⟨w.heap.size+1,7,none⟩=some (.slice S.a7 S.n7 S.c7):=R3.out.cells 7 _ rfl
     have c8:w2.cell? ⟨w.heap.size+1,8,none⟩=some (.slice S.a8 S.n8 S.c8):=R3.out.cells 8 _ rfl
     have c9:w2.cell? ⟨w.heap.size+1,9,none⟩=some (.slice S.a9 S.n9 S.c9):=R3.out.cells 9 _ rfl
     have c10:w2.cell? ⟨w.heap.size+1,10,none⟩=some (.slice S.a10 S.n10 S.c10):=R3.out.cells 10 _ rfl
     have c11:w2.cell? ⟨w.heap.size+1,11,none⟩=some (.slice S.a11 S.n11 S.c11):=R3.out.cells 11 _ rfl
     have c12:w2.cell? ⟨w.heap.size+1,12,none⟩=some (.slice S.a12 S.n12 S.c12):=R3.out.cells 12 _ rfl
     have c13:w2.cell? ⟨w.heap.size+1,13,none⟩=some (.slice S.a13 S.n13 S.c13):=R3.out.cells 13 _ rfl
     have c14:w2.cell? ⟨w.heap.size+1,14,none⟩=some (.slice S.a14 S.n14 S.c14):=R3.out.cells 14 _ rfl
     go_wp2;exact bodyPost_ret (res15 (show 15<=(S0.cells zeroR).size from Nat.le_refl _) (CZ.out _ R2.out) rfl rfl rfl) rfl (by rw[show o=_ from GO.out];exact⟨S,rfl,((R3.out.at_).on15 (far_low R3.out.zero (Nat.lt_succ_self _))),R3.out.zero.mono (Nat.le_succ _),below15 (Nat.le_refl _) (BW.out _ R2.out)⟩)
theorem parse_any (w:World) (T:Tabs w) (s:ByteArray):Calls Tryz.prog 118 #[.string s] w (ParseR (ruParse s.data.toList) w):=
 (parse_anyF w T s).mono fun _ _ ⟨S,h1,h2,_,h4⟩=>⟨S,h1,h2,h4⟩
end Go.Proofs.YtddnnljfgfcplaaGreatDoor.Ru
