import Derived.Test.YtehcmodhbmpadaaGreatDoorMeLaM
import Derived.Test.YtehcmodhbmpadaaGreatDoorMeIn
set_option linter.unusedVariables false
namespace Go.Proofs.YtehcmodhbmpadaaGreatDoor.Me
open Go.RowKit Cv St Ru Dd Mb Ex
theorem load27G {ops:Array Oper} {rest:List Oper} {op:Oper} {a:Act} {w:World} {Q:Exit→Act→World→Prop} (hgd:Region.wanted op (yielded ops a.tmps)=true) (x:Operand) (ho:op.op= .load 27 x) (g:Nat) (hx:a.eval x= .pointer (some ⟨g,0,none⟩)) (cs:Array Value) (X:Box w g cs) (hn:cs.size=21)
  (h:wpList Tryz.prog ops Q rest (a.put op.dst (.agg cs)) w):wpList Tryz.prog ops Q (op::rest) a w:=
 list_met hgd fun K hK=>wp_load_mid 27 x ho g 0 hx cs.toList _ (fun j v hv=>by rw[Nat.zero_add];exact X.2 j v (by simpa using hv)) Tryz.underlying27 rfl (by rw[info_mt];simp[hn]) (by simpa using hK _ _ h)
set_option maxRecDepth 100000 in
set_option maxHeartbeats 16000000 in
theorem late_walk (w:World) (T:Tabs w) (H:Heads w) (S:MS) (m:Mt) (hm:MtIn w S m) (ZA:Option Addr) (zn zc:Nat) (ZZ:Nat→ZS) (Z:Nat→Zo) (hz:ZsAt w ZA zn ZZ Z) (hn:zn≤9223372036854775807) (hi less:Int)
  (e1:-9223372036854775808≤hi) (e2:hi≤9223372036854775807) (d1:-9223372036854775808≤less) (d2:less≤9223372036854775807):
  Calls Tryz.prog 8 #[S.val m,.slice ZA zn zc,.int .i64 hi,.int .i64 less] w fun e w'=>e= .returned (.bool true)∧Below w.heap.size w w':=by
 have TT:=Lib.hid T
 have HH:=Lib.hid H
 have HZ:=Lib.hid hz
 have MI:=Lib.hid hm
 clear T H hz hm
 show Calls Tryz.prog 8 #[.agg (mcells S m).toArray,.slice ZA zn zc,.int .i64 hi,.int .i64 less] w _
 have cz:(mcells S m).toArray.size=21:=rfl
 obtain⟨cs,hcs⟩:∃cs,(mcells S m).toArray=cs:=⟨_,rfl⟩
 have HC:=Lib.hid (show Value.agg cs=S.val m by rw[←hcs];rfl)
 rw[hcs] at cz ⊢
 clear hcs
 have FM:=Lib.hid (fun v (b:Below w.heap.size w v)=>show Calls Tryz.prog 11 #[.agg cs] v fun e w'=>e= .returned (.bool (fewM S))∧Below v.heap.size v w' by rw[HC.out];exact fewMt_is v S m (MI.out.on b))
 have LM:=Lib.hid (fun (g:fewM S=true) v (b:Below w.heap.size w v)=>show Calls Tryz.prog 17 #[.agg cs,.int .i64 hi] v (LitM v) by rw[HC.out];exact lightM_is v S m hi ((MI.out.few g).below b) MI.out.i1 e1 e2)
 have SP:=Lib.hid (fun (g:fewM S=true) v (b:Below w.heap.size w v) y=>show Calls Tryz.prog 18 #[.agg cs,.slice ZA zn zc,.int .i64 y] v fun e w'=>SpansC v (spansR m zn Z y) e w' by rw[HC.out];exact spans_is v S m y ZA zn zc ZZ Z _ ((MI.out.few g).below b) (HZ.out.below b) hn rfl)
 have FI:=Lib.hid (fun v (b:Below w.heap.size w v)=>show Calls Tryz.prog 10 #[] v fun e w'=>e= .returned (.bool true)∧Below w.heap.size w w' from (first9_is v (TT.out.on b) (HH.out.on b)).mono fun _ _ h=>⟨h.1,b.trans (h.2.mono b.size)⟩)
 clear HC MI
 go_enter Tryz.func8,Tryz.ntmps8
 go_upto_region 1 with fail
 obtain⟨B0,X0⟩:=box_new w cs 27
 generalize w.alloc _=w0 at *
 go_wp2_with fail
 refine(first9_is w0 (TT.out.on B0) (HH.out.on B0)).mono ?_
 rintro e w1 ⟨rfl,b1⟩
 have B1:=B0.trans (b1.mono B0.size)
 have X1:=X0.below b1
 clear B0 X0 b1
 go_wp2_with (refine load27 rfl _ rfl _ rfl _ X1 cz ?_)
 go_wp2_with fail
 refine(FM.out w1 B1).mono ?_
 rintro e w2 ⟨rfl,b2⟩
 have B2:=B1.trans (b2.mono B1.size)
 have X2:=X1.below b2
 clear B1 X1 b2 FM
 cases hf:fewM S with
 |false=>go_wp2_with fail;refine(FI.out _ B2).mono ?_;rintro e wz ⟨rfl,BZ⟩;go_wp2;go_ret;exact⟨rfl,BZ⟩
 |true=>
  have LM:=Lib.hid (LM.out hf);have SP:=Lib.hid (SP.out hf);clear hf;go_wp2_with fail;refine(fewZones_is w2 ZA zn zc ZZ Z (HZ.out.below B2) hn).mono ?_;rintro e w3 ⟨⟨x,rfl⟩,b3⟩;have B3:=B2.trans (b3.mono B2.size);have X3:=X2.below b3;clear B2 X2 b3
  cases x with
  |false=>go_wp2_with fail;refine(FI.out _ B3).mono ?_;rintro e wz ⟨rfl,BZ⟩;go_wp2;go_ret;exact⟨rfl,BZ⟩
  |true=>
   go_wp2_with (refine load27G (by kernel_rfl) _ rfl _ rfl _ X3 cz ?_)
   go_wp2_with fail;refine(LM.out w3 B3).mono ?_;rintro e w4 ⟨⟨x,rfl⟩,b4⟩;have B4:=B3.trans (b4.mono B3.size);have X4:=X3.below b4;clear B3 X3 b4 LM
   cases x with
   |false=>go_wp2_with fail;refine(FI.out _ B4).mono ?_;rintro e wz ⟨rfl,BZ⟩;go_wp2;go_ret;exact⟨rfl,BZ⟩
   |true=>
    by_cases c1:less<0
    ·have t1:decide (less<0)=true:=decide_eq_true c1
     go_wp2_with fail;refine(FI.out _ B4).mono ?_;rintro e wz ⟨rfl,BZ⟩;go_wp2;go_ret;exact⟨rfl,BZ⟩
    have t1:decide (less<0)=false:=decide_eq_false c1
    by_cases c2:40000000<less
    ·have t2:decide (40000000<less)=true:=decide_eq_true c2
     go_wp2_with fail;refine(FI.out _ B4).mono ?_;rintro e wz ⟨rfl,BZ⟩;go_wp2;go_ret;exact⟨rfl,BZ⟩
    have t2:decide (40000000<less)=false:=decide_eq_false c2
    obtain⟨⟨PA,ea⟩,ha⟩:∃t,spansR m zn Z hi=t:=⟨_,rfl⟩;have SA:=Lib.hid (fun v b=>ha ▸ SP.out v b hi)
    go_wp2_with (refine load27 rfl _ rfl _ rfl _ X4 cz ?_)
    go_wp2_with fail;refine(SA.out w4 B4).mono ?_;rintro e w5 ⟨A,ca,rfl,sa,b5⟩;have B5:=B4.trans (b5.mono B4.size);have X5:=X4.below b5;clear B4 X4 b5 SA
    by_cases rg:-62072524800≤hi∧hi≤253339228799
    rotate_left
    ·have q0:(ea != 0)=true:=by
      have:spansR m zn Z hi=([],1):=by unfold spansR;rw[if_pos (.inr (.inr (.inr rg)))]
      rw[this] at ha;rw[bne_iff_ne,←(Prod.mk.inj ha).2];decide
     clear ha rg
     go_wp2_with (refine load27 rfl _ rfl _ rfl _ X5 cz ?_)
     go_wp2_with fail;refine(SP.out w5 B5 _).mono ?_;rintro e w6 ⟨A',ca',rfl,sb,b6⟩;have B6:=B5.trans (b6.mono B5.size);clear B5 X5 b6 SP sa sb
     go_wp2_with fail;refine(FI.out _ B6).mono ?_;rintro e wz ⟨rfl,BZ⟩;go_wp2;go_ret;exact⟨rfl,BZ⟩
    obtain⟨rg1,rg2⟩:=rg;obtain⟨⟨PB,eb⟩,hb⟩:∃t,spansR m zn Z (hi-less)=t:=⟨_,rfl⟩;have SB:=Lib.hid (fun v b=>hb ▸ SP.out v b (hi-less));have LAT:=Lib.hid (fun (g:ea=0) (k:eb=0)=>lat_at (lat_spans (g ▸ ha) (k ▸ hb) (by omega)));have na4:=spans_len ha;have nb4:=spans_len hb;clear ha hb SP
    go_wp2_with (refine load27 rfl _ rfl _ rfl _ X5 cz ?_)
    go_wp2_with fail;refine(SB.out w5 B5).mono ?_;rintro e w6 ⟨A',ca',rfl,sb,b6⟩;have B6:=B5.trans (b6.mono B5.size);have sa:=sa.below b6;clear B5 X5 b6 SB
    by_cases z1:ea=0
    rotate_left
    ·have q0:(ea != 0)=true:=by rw[bne_iff_ne];exact z1
     clear LAT sa sb
     go_wp2_with fail;refine(FI.out _ B6).mono ?_;rintro e wz ⟨rfl,BZ⟩;go_wp2;go_ret;exact⟨rfl,BZ⟩
    by_cases z2:eb=0
    rotate_left
    ·have q0:(eb != 0)=true:=by rw[bne_iff_ne];exact z2
     subst z1;clear LAT sa sb
     go_wp2_with fail;refine(FI.out _ B6).mono ?_;rintro e wz ⟨rfl,BZ⟩;go_wp2;go_ret;exact⟨rfl,BZ⟩
    subst z1;subst z2;obtain⟨l1,l2,l3⟩:=LAT.out rfl rfl;have L2:=Lib.hid l2;have L3:=Lib.hid l3;obtain⟨en,sa⟩:=sa;obtain⟨en2,sb⟩:=sb;clear LAT en en2 l2 l3;have SA:=Lib.hid sa;have SB:=Lib.hid sb;obtain⟨na,hna⟩:∃n,PA.length=n:=⟨_,rfl⟩;obtain⟨nb,hnb⟩:∃n,PB.length=n:=⟨_,rfl⟩;rw[hna] at SA L3 l1 na4 ⊢;rw[hnb] at SB L2 L3 l1 nb4 ⊢;clear sa sb;have t3:decide (na<nb)=false:=decide_eq_false (by omega)
    go_wp2
    go_loopw [13] (fun i wr=>∃t:Nat,t≤nb∧i= .int .i64 t∧∃q:Nat,wr=w6.drewN q) (fun i _=>nb-(intOf i).toNat)
    case atStart=>exact⟨0,Nat.zero_le _,rfl,0,rfl⟩
    case round=>
     obtain⟨t,ht,rfl,q,rfl⟩:=hrel
     by_cases hlt:t<nb
     ·obtain⟨b,off,rfl,hb,hcc⟩:=SB.out (by omega)
      obtain⟨b2,off2,rfl,hb2,hcc2⟩:=SA.out (by omega);have ta:t<na:=by omega
      obtain⟨c0,c1⟩:=hcc t hlt;obtain⟨d0,d1⟩:=hcc2 t ta;obtain⟨x1,x2,x3⟩:=L2.out t hlt;rw[x1] at d0;clear hcc hcc2 SA SB L2 x1;generalize (Me.pat PB t).1=p at *;generalize (Me.pat PB t).2=u at *;generalize (Me.pat PA t).2=v at *;have s1:(p != p)=false:=by rw[bne_eq_false_iff_eq]
      have s2:decide (v<u)=false:=decide_eq_false (by omega)
      by_cases lt:t+1<nb
      ·obtain rfl:v=u:=x3 lt
       have s3:(v != v)=false:=by rw[bne_eq_false_iff_eq]
       have s4:decide ((t:Int)<(nb:Int)-1)=true:=decide_eq_true (by omega)
       have s5:(t:Int)<(nb:Int)-1:=by omega
       clear x2 x3;go_wp2
       go_big_quiet (fail)
       go_wp2
       go_roundw
       case rel=>exact⟨t+1,by omega,by go_num,_,rfl⟩
       case measure=>simp[intOf];omega
      ·have s4:decide ((t:Int)<(nb:Int)-1)=false:=decide_eq_false (by omega)
       have s5:(nb:Int)-1≤(t:Int):=by omega
       clear x2 x3;go_wp2
       go_big_quiet (fail)
       go_wp2
       go_roundw
       case rel=>exact⟨t+1,by omega,by go_num,_,rfl⟩
       case measure=>simp[intOf];omega
     ·obtain rfl:nb=t:=by omega
      have BQ:Below w.heap.size w (w6.drewN q):=B6.trans (Below.drewN' _ _ _)
      have SA:=Lib.hid (show 0<na→∃b off,A=some ⟨b,off,none⟩∧b<(w6.drewN q).heap.size∧∀j,j<na→(w6.drewN q).cell? ⟨b,off+j*2,none⟩=some (.int .i64 (Me.pat PA j).1)∧(w6.drewN q).cell? ⟨b,off+j*2+1,none⟩=some (.int .i64 (Me.pat PA j).2) from fun h=>by
       obtain⟨b,off,e,h1,h2⟩:=SA.out h
       exact⟨b,off,e,h1,h2⟩)
      clear SB L2;go_wp2_with fail;refine(first9_is _ (TT.out.on BQ) (HH.out.on BQ)).mono ?_;rintro e w7 ⟨rfl,b7⟩;have B7:=BQ.trans (b7.mono BQ.size)
      by_cases q1:na=nb
      ·subst q1
       clear SA b7;go_wp2;go_ret;exact⟨rfl,B7⟩
      ·have t5:((na:Int)==(nb:Int))=false:=by rw[beq_eq_false_iff_ne];omega
       have t6:nb<na:=by omega
       have t7:=L3.out q1;obtain⟨b2,off2,rfl,hb2,hcc2⟩:=SA.out (by omega);have d0:w7.cell? ⟨b2,off2+nb*2,none⟩=some (.int .i64 (Me.pat PA nb).1):=(b7.cell (p:=⟨b2,_,none⟩) hb2).trans (hcc2 nb t6).1
       clear hcc2 SA L3 b7;generalize (Me.pat PA nb).1=p at *;have t8:decide (hi-less≤p)=true:=decide_eq_true t7
       go_wp2;go_ret;exact⟨rfl,B7⟩
end Go.Proofs.YtehcmodhbmpadaaGreatDoor.Me
