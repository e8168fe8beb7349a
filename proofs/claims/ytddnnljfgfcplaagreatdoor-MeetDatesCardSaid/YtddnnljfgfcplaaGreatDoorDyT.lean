/- The walks of vokref.Has, slices.Clone of numbers, and package days' times. The walk of days.Times. -/
import Derived.Test.YtddnnljfgfcplaaGreatDoorDyW
import Derived.Test.YtddnnljfgfcplaaGreatDoorRuX1
set_option maxRecDepth 100000
set_option maxHeartbeats 8000000
set_option linter.unusedVariables false
namespace Go.Proofs.YtddnnljfgfcplaaGreatDoor.Dd
open Lib (hid)
open Go.RowKit Cv St Ru
def hasN (l:List Int) (x:Int) (k:Nat):Prop:=∀j,j<k->iat l j≠x
theorem hasN.succ {l:List Int} {x:Int} {k:Nat} (h:hasN l x k) (e:iat l k≠x):hasN l x (k+1):=fun j hj=>by
 by_cases c:j=k
 ·subst c;exact e
 ·exact h j (by omega)
theorem vhas_is (w:World) (A:Option Addr) (n c:Nat) (l:List Int) (x:Int) (hl:IsAt w A n l) (h1:n<=9223372036854775807) (p:Bool) (hp:decide (x∈l)=p):
  Calls Tryz.prog 19 #[.slice A n c,.int .i64 x] w fun e w'=>e= .returned (.bool p)/\Below w.heap.size w w':=by
 obtain⟨en,hc⟩:=hl
 have EN:=hid en
 have HP:=hid hp
 clear en hp
 go_enter Tryz.func19,Tryz.ntmps19
 go_wp2
 go_loopw [5] (fun i wr=>∃t:Nat,t<=n/\i= .int .i64 t/\Hid (hasN l x t)/\∃q:Nat,wr=w.drewN q) (fun i _=>n-(intOf i).toNat)
 case atStart=>exact⟨0,Nat.zero_le _,rfl,hid (fun j hj=>absurd hj (by omega)),0,rfl⟩
 case round=>
  obtain⟨t,ht,rfl,D,q,rfl⟩:=hrel
  by_cases hlt:t<n
  ·obtain⟨bl,off,rfl,hb,hcc⟩:=hc (by omega)
   have c0:=hcc t hlt
   have Y:=hid (fun (h:iat l t=x)=>show true=p by
    rw[<-HP.out];have hk:t<l.length:=by rw[<-EN.out];exact hlt
    rw[iat_lt hk] at h
    exact(decide_eq_true (h ▸ List.getElem_mem hk)).symm)
   have X:=hid (fun (e1:iat l t≠x)=>D.out.succ e1);clear hc hcc D
   by_cases p1:iat l t=x
   ·have e1:((iat l t:Int)==x)=true:=by rw[beq_iff_eq];exact p1
    have F:=hid (Y.out p1);clear p1 X Y;generalize iat l t=s at *;go_wp2;go_ret;exact⟨ret_bool F.out,Below.drewN' _ _ _⟩
   ·have e1:((iat l t:Int)==x)=false:=by rw[beq_eq_false_iff_ne];exact p1
    have F:=hid (X.out p1);clear p1 X Y;generalize iat l t=s at *;go_wp2
    go_roundw
    case rel=>exact⟨t+1,by omega,by go_num,F,_,rfl⟩
    case measure=>simp[intOf];omega
  ·obtain rfl:n=t:=by omega
   have F:=hid (show false=p by
    rw[<-HP.out];refine(decide_eq_false fun g => ?_).symm;obtain⟨j,hj,e⟩:=List.getElem_of_mem g
    exact D.out j (by rw[EN.out];exact hj) (by rw[iat_lt hj];exact e))
   go_wp2;go_ret;exact⟨ret_bool F.out,Below.drewN' _ _ _⟩
theorem clone_is (w:World) (A:Option Addr) (n c:Nat) (l:List Int) (h:IsAt w A n l) (hn:n<=1000000) (h0:0<n):Calls Tryz.prog 288 #[.slice A n c] w (CopyI w l):=by
 have LIT:=hid (lit_none w 3 1)
 obtain⟨i0,hi,hz0,hz1,hz2⟩:=info_parts info_int
 obtain⟨b,off,rfl,-,-⟩:=h.2 h0
 have LEN:=hid (show (l.map (Value.int .i64)).length=n*1 by rw[List.length_map,h.1];omega)
 have ONE:=hid (fun u (q:u∈l.map (Value.int .i64))=>show u.oneCell'=true by obtain⟨z,-,rfl⟩:=List.mem_map.1 q;rfl)
 have GET:=hid (fun j u (q:(l.map (Value.int .i64))[j]? = some u)=>show (w.alloc (.cells #[] 3)).cell? ((⟨b,off,none⟩:Addr).add j)=some u by
  have hj:j<l.length:=by have:=(List.getElem?_eq_some_iff.1 q).1;simpa using this
  obtain⟨b',off',e,hb,hc⟩:=h.2 (by rw[h.1];omega);cases e
  have z:=hc j (by rw[h.1];exact hj);rw[iat_lt hj] at z;rw[List.getElem?_map,List.getElem?_eq_getElem hj] at q;obtain rfl:Value.int .i64 l[j]=u:=by simpa using q
  rw[addr_off]
  exact((alloc_below w _).cell (p:=⟨b,off+j,none⟩) hb).trans z)
 have HL:=hid h.1
 have SZ:=hid (show 0+n<=maxLen by unfold maxLen;omega)
 clear h
 have nl:=fun w=>Lib.run_eql_slice_nil (P:=Tryz.prog) w 22 3 (some ⟨b,off,none⟩) n c 0 0 Tryz.underlying22
 go_enter Tryz.func288,Tryz.ntmps288
 go_wp2_with (at_builtin;refine wpList_append_own _ rfl _ _ 22 rfl w.heap.size 3 i0 (.int .i64 0) 1 8 Tryz.underlying22 hi hz0 hz1 hz2 rfl (by decide) _ 0 [] rfl LIT.out ⟨b,off,none⟩ n c (l.map (Value.int .i64)) rfl LEN.out GET.out ONE.out SZ.out (by omega) (by simp) ?_)
 intro v' w' hown hg _
 have OW:=hid (show OwnI w w' v' l by unfold OwnI;rw[<-HL.out];exact hown)
 have BW:=hid ((alloc_below w (.cells #[] 3)).grown hg (by simp) (fun k hk=>by injection hk with hk;exact Nat.le_of_eq hk))
 clear hown hg
 go_wp2
 go_ret
 exact⟨_,rfl,OW.out,BW.out⟩
theorem one_at (w:World) (x:Int):IsAt (w.alloc (.cells #[.int .i64 x] 3)) (some ⟨w.heap.size,0,none⟩) 1 [x]:=
 ⟨rfl,fun _=>⟨w.heap.size,0,rfl,by simp,fun j hj=>by
  obtain rfl:j=0:=by omega
  simp[go_sem,iat]⟩⟩
def TimesIs (w:World) (m:List Int) (e:Ending) (w':World):Prop:=∃A c,e= .returned (.slice A m.length c)/\IsAt w' A m.length m/\Below w.heap.size w w'
theorem range_at (n j:Nat) (h:j<n):iat ((List.range n).map Int.ofNat) j=(j:Int):=by
 rw[iat_lt (by simpa using h)];simp
theorem times_is (w:World) (A:Option Addr) (n c:Nat) (l:List Int) (alone:Bool) (own:Int) (most:Nat) (m:List Int) (h:IsAt w A n l) (hn:n<=1000000) (h1:1<=most) (h2:most<=100) (hm:timB l alone own most=m):
  Calls Tryz.prog 275 #[.slice A n c,.bool alone,.int .i64 own,.int .i64 most] w (TimesIs w m):=by
 have HA:=hid h
 have HL:=hid h.1
 have HM:=hid hm
 clear h hm
 by_cases h0:0<n
 ·have E:=hid (show l=m by rw[<-HM.out];unfold timB;rw[if_pos (fun e=>by rw[e] at HL;have:=HL.out;simp at this;omega)])
  go_enter Tryz.func275,Tryz.ntmps275
  go_wp2_with fail;refine(clone_is w A n c l HA.out hn h0).mono ?_;rintro e w' ⟨v,rfl,ho,hb⟩;obtain⟨A',c',rfl,ha,-,-⟩:=ho.at_;have HA2:=hid ha;have HB:=hid hb;clear ho ha hb;go_wp2;go_ret;have e:=E.out;subst e;exact⟨A',c',rfl,HA2.out,HB.out⟩
 ·have e0:l=[]:=List.length_eq_zero_iff.1 (by rw[<-HL.out];omega)
  cases alone
  ·have E:=hid (show (List.range most).map Int.ofNat=m by rw[<-HM.out,e0];unfold timB;simp)
   have LM:=hid (show m.length=most by rw[<-E.out];simp);have M0:(0:Int)<=(most:Int):=by omega
   clear HA HL HM e0;obtain⟨i0,hi,hz0,hz1,hz2⟩:=info_parts info_int
   go_enter Tryz.func275,Tryz.ntmps275
   go_wp2_with (refine wpList_make_row _ rfl _ _ 22 rfl 3 i0 (.int .i64 0) Tryz.underlying22 hi hz0 hz1 rfl .i64 .i64 most rfl rfl (by rw[hz2];omega) (by omega) ?_)
   have B1:=alloc_below w (.cells (madeCells #[.int .i64 0] most) 3)
   have Z1:∀j,j<most->(w.alloc (.cells (madeCells #[.int .i64 0] most) 3)).cell? ⟨w.heap.size,j,none⟩=some (.int .i64 0):=fun j hj=>by
    simp[go_sem,madeCells,hj]
    rw[show j % 1=0 from Nat.mod_one j];rfl
   have F1:∀j,(w.alloc (.cells (madeCells #[.int .i64 0] most) 3)).frozen? ⟨w.heap.size,j,none⟩=false:=fun j=>by simp[go_sem]
   have S1:w.heap.size<(w.alloc (.cells (madeCells #[.int .i64 0] most) 3)).heap.size:=by simp
   generalize w.alloc (.cells (madeCells #[.int .i64 0] most) 3)=w1 at *
   go_loopw [23,10] (fun i v wr=>∃t:Nat,t<=most/\i= .int .i64 t/\(∀j,j<t->wr.cell? ⟨w.heap.size,j,none⟩=some (.int .i64 j))/\(∀j,t<=j->j<most->wr.cell? ⟨w.heap.size,j,none⟩=some (.int .i64 0))/\(∀j,wr.frozen? ⟨w.heap.size,j,none⟩=false)/\w.heap.size<wr.heap.size/\Below w.heap.size w wr) (fun i _ _=>most-(intOf i).toNat)
   case atStart=>exact⟨0,Nat.zero_le _,rfl,fun j hj=>absurd hj (by omega),fun j _ hj=>Z1 j hj,F1,S1,B1⟩
   case round=>
    obtain⟨t,ht,rfl,za,zb,zf,sr,br⟩:=hrel
    by_cases hlt:t<most
    ·have z0:=zb t (Nat.le_refl _) hlt
     have f0:=zf t;have ZA:=hid za;have ZB:=hid zb;have ZF:=hid zf;clear za zb zf Z1 F1 S1 B1;go_wp2
     go_roundw
     case rel=>
      refine⟨t+1,by omega,by go_num,fun j hj => ?_,fun j hj hj2 => ?_,fun j => ?_,by simpa using sr,br.setCell (Nat.le_refl _) _⟩
      ·by_cases e:j=t
       ·subst e;exact World.cell?_setCell_same _ _ _ z0
       ·exact(World.cell?_setCell_other _ _ _ _ (by intro g;injection g;omega)).trans (ZA.out j (by omega))
      ·exact(World.cell?_setCell_other _ _ _ _ (by intro g;injection g;omega)).trans (ZB.out j (by omega) hj2)
      ·exact(World.frozen?_setCell _ _ _ _).trans (ZF.out j)
     case measure=>simp[intOf];omega
    ·obtain rfl:most=t:=by omega
     have ZA:=hid za;clear za zb zf Z1 F1 S1 B1;go_wp2;go_ret;refine⟨some ⟨w.heap.size,0,none⟩,most,by rw[LM.out];rfl,⟨rfl,fun _=>⟨w.heap.size,0,rfl,sr,fun j hj => ?_⟩⟩,br⟩;rw[Nat.zero_add,ZA.out j (by rw[<-LM.out];exact hj),<-E.out,range_at _ _ (by rw[<-LM.out];exact hj)]
  ·have E:=hid (show [own]=m by rw[<-HM.out,e0];unfold timB;simp)
   clear HA HL HM e0
   go_enter Tryz.func275,Tryz.ntmps275
   go_wp2;go_ret;exact⟨_,1,by rw[<-E.out];rfl,by rw[<-E.out];exact one_at w own,alloc_below _ _⟩
end Go.Proofs.YtddnnljfgfcplaaGreatDoor.Dd
namespace Go.Proofs.YtddnnljfgfcplaaGreatDoor.Dd
open Lib (hid)
open Go.RowKit Cv St Ru
def TimesR (w:World) (r:Ru) (start:Int) (e:Ending) (w':World):Prop:=
 ∃A a B b C c,e= .returned (.tuple #[.slice A (timH r start).length a,.slice B (timM r start).length b,.slice C (timS r start).length c])/\IsAt w' A (timH r start).length (timH r start)/\IsAt w' B (timM r start).length (timM r start)/\IsAt w' C (timS r start).length (timS r start)/\Below w.heap.size w w'
theorem timesR_yes (w:World) (S:RS) (r:Ru) (start:Int) (h:RuAt w S r) (hm:mayR r=true) (hs:St.may start=true) (q11:S.n11<=1000000) (q12:S.n12<=1000000) (q13:S.n13<=1000000):
  Calls Tryz.prog 254 #[S.val r,.int .i64 start] w (TimesR w r start):=by
 have RA:=hid h
 have HM:=hid hm
 have HS:=hid hs
 have H11:=hid h.h11
 have H12:=hid h.h12
 have H13:=hid h.h13
 have hs1:=of_decide_eq_true hs
 have sl:-9223372036854775808<=start:=by omega
 have sh:start<=9223372036854775807:=by omega
 obtain⟨A1,A2,A3,e1,e2,e3⟩:∃a b c,timH r start=a/\timM r start=b/\timS r start=c:=⟨_,_,_,rfl,rfl,rfl⟩
 unfold TimesR
 rw[e1,e2,e3]
 have E1:=hid e1
 have E2:=hid e2
 have E3:=hid e3
 clear h hm hs hs1 e1 e2 e3
 obtain⟨a6,n6,c6,a7,n7,c7,a8,n8,c8,a9,n9,c9,a10,n10,c10,a11,n11,c11,a12,n12,c12,a13,n13,c13,a14,n14,c14⟩:=S
 obtain⟨freq,itv,cnt,til,wkst,ends,mon,week,yday,mday,day,hour,minu,sec,pos⟩:=r
 replace q11:n11<=1000000:=q11
 replace q12:n12<=1000000:=q12
 replace q13:n13<=1000000:=q13
 have T1:=hid (show timB hour (decide (freq<=4)) (start % 86400 / 3600) 24=A1 from E1.out)
 have T2:=hid (show timB minu (decide (freq<=5)) (start % 86400 % 3600 / 60) 60=A2 from E2.out)
 have T3:=hid (show timB sec (decide (freq<=6)) (start % 86400 % 60) 60=A3 from E3.out)
 clear E1 E2 E3
 show Calls Tryz.prog 254 #[.agg #[.int .i64 freq,.int .i64 itv,.int .i64 cnt,.int .i64 til,.int .i64 wkst,.bool ends,.slice a6 n6 c6,.slice a7 n7 c7,.slice a8 n8 c8,.slice a9 n9 c9,.slice a10 n10 c10,.slice a11 n11 c11,.slice a12 n12 c12,.slice a13 n13 c13,.slice a14 n14 c14],.int .i64 start] w _
 go_enter Tryz.func254,Tryz.ntmps254
 go_upto_region 1 with fail
 obtain⟨B0,XR0⟩:=box_new w #[.int .i64 freq,.int .i64 itv,.int .i64 cnt,.int .i64 til,.int .i64 wkst,.bool ends,.slice a6 n6 c6,.slice a7 n7 c7,.slice a8 n8 c8,.slice a9 n9 c9,.slice a10 n10 c10,.slice a11 n11 c11,.slice a12 n12 c12,.slice a13 n13 c13,.slice a14 n14 c14] 25
 generalize w.alloc _=w0 at *
 obtain⟨z0,z1,z2,z3,z4,z5,z6,z7,z8,z9,z10,z11,z12,z13,z14⟩:=cells15 XR0
 go_wp2_with fail
 refine(may_r _ ⟨a6,n6,c6,a7,n7,c7,a8,n8,c8,a9,n9,c9,a10,n10,c10,a11,n11,c11,a12,n12,c12,a13,n13,c13,a14,n14,c14⟩ ⟨freq,itv,cnt,til,wkst,ends,mon,week,yday,mday,day,hour,minu,sec,pos⟩ true (RA.out.below B0) HM.out).mono ?_
 rintro e w1 ⟨rfl,b1⟩
 clear z0 z1 z2 z3 z4 z5 z6 z7 z8 z9 z10 z11 z12 z13 z14
 have B1:=B0.trans (b1.mono B0.size)
 have XR1:=XR0.below b1
 clear B0 XR0 b1
 go_wp2_with fail
 refine(may_yes start _ HS.out).mono ?_
 rintro e w2 ⟨rfl,rfl⟩
 go_wp2_with fail
 refine(day_any start _ sl sh).mono ?_
 rintro e w2 ⟨rfl,rfl⟩
 obtain⟨s,hs⟩:∃s,start % 86400=s:=⟨_,rfl⟩
 have g1:0<=s/\s<86400:=by omega
 rw[hs] at T1 T2 T3 ⊢
 clear sl sh hs
 have d1:IntKind.i64.wrap (s.tdiv 3600)=s / 3600:=by rw[Int.tdiv_eq_ediv_of_nonneg g1.1];exact IntWalk.i64_in _ (by omega)
 have d2:s.tmod 3600=s % 3600:=Int.tmod_eq_emod_of_nonneg g1.1
 have d3:IntKind.i64.wrap ((s % 3600).tdiv 60)=s % 3600 / 60:=by rw[Int.tdiv_eq_ediv_of_nonneg (by omega)];exact IntWalk.i64_in _ (by omega)
 have d4:s.tmod 60=s % 60:=Int.tmod_eq_emod_of_nonneg g1.1
 go_upto_region 4 with fail
 refine wp_region_late (fun _=>false) (fun w'=>w'.cell? ⟨w.heap.size,0,none⟩=some (.int .i64 freq)/\w'.cell? ⟨w.heap.size,11,none⟩=some (.slice a11 n11 c11)/\w'.cell? ⟨w.heap.size,12,none⟩=some (.slice a12 n12 c12)/\w'.cell? ⟨w.heap.size,13,none⟩=some (.slice a13 n13 c13)) (by kernel_rfl) ?_
 have hS:w1.drew.cell? ⟨w.heap.size,0,none⟩=some (.int .i64 freq)/\w1.drew.cell? ⟨w.heap.size,11,none⟩=some (.slice a11 n11 c11)/\w1.drew.cell? ⟨w.heap.size,12,none⟩=some (.slice a12 n12 c12)/\w1.drew.cell? ⟨w.heap.size,13,none⟩=some (.slice a13 n13 c13):=⟨XR1.at_ 0 _ rfl,XR1.at_ 11 _ rfl,XR1.at_ 12 _ rfl,XR1.at_ 13 _ rfl⟩
 refine Late.take 0 (.pointer (some ⟨w.heap.size,11,none⟩)) rfl (by kernel_rfl) (by kernel_rfl) (by kernel_rfl) (by kernel_rfl) (fun _ _ _ h=>h) (.inl ⟨rfl,fun w' hs => ?_⟩) hS ?_
 ·go_simp
 refine Late.take 1 (.slice a11 n11 c11) rfl (by kernel_rfl) (by kernel_rfl) (by kernel_rfl) (by kernel_rfl) (fun _ _ _ h=>h) (.inl ⟨rfl,fun w' hs => ?_⟩) hS ?_
 ·obtain⟨s0,s1,s2,s3⟩:=hs
  go_simp
 refine Late.take 2 (.pointer (some ⟨w.heap.size,0,none⟩)) rfl (by kernel_rfl) (by kernel_rfl) (by kernel_rfl) (by kernel_rfl) (fun _ _ _ h=>h) (.inl ⟨rfl,fun w' hs => ?_⟩) hS ?_
 ·go_simp
 refine Late.take 3 (.int .i64 freq) rfl (by kernel_rfl) (by kernel_rfl) (by kernel_rfl) (by kernel_rfl) (fun _ _ _ h=>h) (.inl ⟨rfl,fun w' hs => ?_⟩) hS ?_
 ·obtain⟨s0,s1,s2,s3⟩:=hs
  go_simp
 refine Late.take 4 (.bool (decide (freq<=4))) rfl (by kernel_rfl) (by kernel_rfl) (by kernel_rfl) (by kernel_rfl) (fun _ _ _ h=>h) (.inl ⟨rfl,fun w' hs => ?_⟩) hS ?_
 ·go_simp
 refine Late.take 5 (.int .i64 s) rfl (by kernel_rfl) (by kernel_rfl) (by kernel_rfl) (by kernel_rfl) (fun _ _ _ h=>h) (.inl ⟨rfl,fun w' hs => ?_⟩) hS ?_
 ·go_simp
 refine Late.take 6 (.int .i64 (s / 3600)) rfl (by kernel_rfl) (by kernel_rfl) (by kernel_rfl) (by kernel_rfl) (fun _ _ _ h=>h) (.inl ⟨rfl,fun w' hs => ?_⟩) hS ?_
 ·go_simp
 refine Late.take 8 (.pointer (some ⟨w.heap.size,12,none⟩)) rfl (by kernel_rfl) (by kernel_rfl) (by kernel_rfl) (by kernel_rfl) (fun _ _ _ h=>h) (.inl ⟨rfl,fun w' hs => ?_⟩) hS ?_
 ·go_simp
 refine Late.take 9 (.slice a12 n12 c12) rfl (by kernel_rfl) (by kernel_rfl) (by kernel_rfl) (by kernel_rfl) (fun _ _ _ h=>h) (.inl ⟨rfl,fun w' hs => ?_⟩) hS ?_
 ·obtain⟨s0,s1,s2,s3⟩:=hs
  go_simp
 refine Late.take 10 (.pointer (some ⟨w.heap.size,0,none⟩)) rfl (by kernel_rfl) (by kernel_rfl) (by kernel_rfl) (by kernel_rfl) (fun _ _ _ h=>h) (.inl ⟨rfl,fun w' hs => ?_⟩) hS ?_
 ·go_simp
 refine Late.take 11 (.int .i64 freq) rfl (by kernel_rfl) (by kernel_rfl) (by kernel_rfl) (by kernel_rfl) (fun _ _ _ h=>h) (.inl ⟨rfl,fun w' hs => ?_⟩) hS ?_
 ·obtain⟨s0,s1,s2,s3⟩:=hs
  go_simp
 refine Late.take 12 (.bool (decide (freq<=5))) rfl (by kernel_rfl) (by kernel_rfl) (by kernel_rfl) (by kernel_rfl) (fun _ _ _ h=>h) (.inl ⟨rfl,fun w' hs => ?_⟩) hS ?_
 ·go_simp
 refine Late.take 13 (.int .i64 s) rfl (by kernel_rfl) (by kernel_rfl) (by kernel_rfl) (by kernel_rfl) (fun _ _ _ h=>h) (.inl ⟨rfl,fun w' hs => ?_⟩) hS ?_
 ·go_simp
 refine Late.take 14 (.int .i64 (s % 3600)) rfl (by kernel_rfl) (by kernel_rfl) (by kernel_rfl) (by kernel_rfl) (fun _ _ _ h=>h) (.inl ⟨rfl,fun w' hs => ?_⟩) hS ?_
 ·go_simp
 refine Late.take 15 (.int .i64 (s % 3600 / 60)) rfl (by kernel_rfl) (by kernel_rfl) (by kernel_rfl) (by kernel_rfl) (fun _ _ _ h=>h) (.inl ⟨rfl,fun w' hs => ?_⟩) hS ?_
 ·go_simp
 refine Late.take 17 (.pointer (some ⟨w.heap.size,13,none⟩)) rfl (by kernel_rfl) (by kernel_rfl) (by kernel_rfl) (by kernel_rfl) (fun _ _ _ h=>h) (.inl ⟨rfl,fun w' hs => ?_⟩) hS ?_
 ·go_simp
 refine Late.take 18 (.slice a13 n13 c13) rfl (by kernel_rfl) (by kernel_rfl) (by kernel_rfl) (by kernel_rfl) (fun _ _ _ h=>h) (.inl ⟨rfl,fun w' hs => ?_⟩) hS ?_
 ·obtain⟨s0,s1,s2,s3⟩:=hs
  go_simp
 refine Late.take 19 (.pointer (some ⟨w.heap.size,0,none⟩)) rfl (by kernel_rfl) (by kernel_rfl) (by kernel_rfl) (by kernel_rfl) (fun _ _ _ h=>h) (.inl ⟨rfl,fun w' hs => ?_⟩) hS ?_
 ·go_simp
 refine Late.take 20 (.int .i64 freq) rfl (by kernel_rfl) (by kernel_rfl) (by kernel_rfl) (by kernel_rfl) (fun _ _ _ h=>h) (.inl ⟨rfl,fun w' hs => ?_⟩) hS ?_
 ·obtain⟨s0,s1,s2,s3⟩:=hs
  go_simp
 refine Late.take 21 (.bool (decide (freq<=6))) rfl (by kernel_rfl) (by kernel_rfl) (by kernel_rfl) (by kernel_rfl) (fun _ _ _ h=>h) (.inl ⟨rfl,fun w' hs => ?_⟩) hS ?_
 ·go_simp
 refine Late.take 22 (.int .i64 s) rfl (by kernel_rfl) (by kernel_rfl) (by kernel_rfl) (by kernel_rfl) (fun _ _ _ h=>h) (.inl ⟨rfl,fun w' hs => ?_⟩) hS ?_
 ·go_simp
 refine Late.take 23 (.int .i64 (s % 60)) rfl (by kernel_rfl) (by kernel_rfl) (by kernel_rfl) (by kernel_rfl) (fun _ _ _ h=>h) (.inl ⟨rfl,fun w' hs => ?_⟩) hS ?_
 ·go_simp
 have D0:Below w1.heap.size w1 w1.drew:=(Below.refl _ _).drew
 have C0:=B1.trans (D0.mono B1.size)
 refine Late.one 7 rfl (by kernel_rfl) rfl ?_
 go_simp
 refine(times_is _ a11 n11 c11 hour (decide (freq<=4)) (s / 3600) 24 A1 (H11.out.below C0) q11 (by omega) (by omega) T1.out).mono ?_
 rintro e x1 ⟨P1,p1,rfl,o1,b1⟩
 have D1:=D0.trans (b1.mono D0.size)
 have C1:=B1.trans (D1.mono B1.size)
 have hS1:x1.cell? ⟨w.heap.size,0,none⟩=some (.int .i64 freq)/\x1.cell? ⟨w.heap.size,11,none⟩=some (.slice a11 n11 c11)/\x1.cell? ⟨w.heap.size,12,none⟩=some (.slice a12 n12 c12)/\x1.cell? ⟨w.heap.size,13,none⟩=some (.slice a13 n13 c13):=⟨(XR1.below D1).at_ 0 _ rfl,(XR1.below D1).at_ 11 _ rfl,(XR1.below D1).at_ 12 _ rfl,(XR1.below D1).at_ 13 _ rfl⟩
 refine⟨hS1,?_⟩
 refine Late.one 16 rfl (by kernel_rfl) rfl ?_
 go_simp
 refine(times_is _ a12 n12 c12 minu (decide (freq<=5)) (s % 3600 / 60) 60 A2 (H12.out.below C1) q12 (by omega) (by omega) T2.out).mono ?_
 rintro e x2 ⟨P2,p2,rfl,o2,b2⟩
 have D2:=D1.trans (b2.mono D1.size)
 have C2:=B1.trans (D2.mono B1.size)
 have hS2:x2.cell? ⟨w.heap.size,0,none⟩=some (.int .i64 freq)/\x2.cell? ⟨w.heap.size,11,none⟩=some (.slice a11 n11 c11)/\x2.cell? ⟨w.heap.size,12,none⟩=some (.slice a12 n12 c12)/\x2.cell? ⟨w.heap.size,13,none⟩=some (.slice a13 n13 c13):=⟨(XR1.below D2).at_ 0 _ rfl,(XR1.below D2).at_ 11 _ rfl,(XR1.below D2).at_ 12 _ rfl,(XR1.below D2).at_ 13 _ rfl⟩
 refine⟨hS2,?_⟩
 refine Late.one 24 rfl (by kernel_rfl) rfl ?_
 go_simp
 refine(times_is _ a13 n13 c13 sec (decide (freq<=6)) (s % 60) 60 A3 (H13.out.below C2) q13 (by omega) (by omega) T3.out).mono ?_
 rintro e x3 ⟨P3,p3,rfl,o3,b3⟩
 have D3:=D2.trans (b3.mono D2.size)
 have C3:=B1.trans (D3.mono B1.size)
 have hS3:x3.cell? ⟨w.heap.size,0,none⟩=some (.int .i64 freq)/\x3.cell? ⟨w.heap.size,11,none⟩=some (.slice a11 n11 c11)/\x3.cell? ⟨w.heap.size,12,none⟩=some (.slice a12 n12 c12)/\x3.cell? ⟨w.heap.size,13,none⟩=some (.slice a13 n13 c13):=⟨(XR1.below D3).at_ 0 _ rfl,(XR1.below D3).at_ 11 _ rfl,(XR1.below D3).at_ 12 _ rfl,(XR1.below D3).at_ 13 _ rfl⟩
 refine⟨hS3,?_⟩
 refine Late.take 25 (.slice P1 A1.length p1) rfl (by kernel_rfl) (by kernel_rfl) (by kernel_rfl) (by kernel_rfl) (fun _ _ _ h=>h) (.inl ⟨rfl,fun w' hs => ?_⟩) hS3 ?_
 ·go_simp
 refine Late.take 26 (.slice P2 A2.length p2) rfl (by kernel_rfl) (by kernel_rfl) (by kernel_rfl) (by kernel_rfl) (fun _ _ _ h=>h) (.inl ⟨rfl,fun w' hs => ?_⟩) hS3 ?_
 ·go_simp
 refine Late.take 27 (.slice P3 A3.length p3) rfl (by kernel_rfl) (by kernel_rfl) (by kernel_rfl) (by kernel_rfl) (fun _ _ _ h=>h) (.inl ⟨rfl,fun w' hs => ?_⟩) hS3 ?_
 ·go_simp
 refine Late.done (by kernel_rfl) ?_
 have O1:=o1.below (b2.trans (b3.mono b2.size))
 have O2:=o2.below b3
 go_wp2
 go_ret3
 exact⟨P1,p1,P2,p2,P3,p3,rfl,O1,O2,o3,C3⟩
end Go.Proofs.YtddnnljfgfcplaaGreatDoor.Dd
