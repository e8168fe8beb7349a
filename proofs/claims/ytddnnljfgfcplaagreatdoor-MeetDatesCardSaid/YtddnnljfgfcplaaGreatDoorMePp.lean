/- The walk of meet.Parse. -/
import Derived.Test.YtddnnljfgfcplaaGreatDoorMeX4
import Derived.Test.YtddnnljfgfcplaaGreatDoorMeFd
set_option linter.unusedVariables false
namespace Go.Proofs.YtddnnljfgfcplaaGreatDoor.Me
open Lib (hid)
open Go.RowKit Cv St Ru Dd
theorem lines_room:∀(n:Nat) (acc:List (List UInt8)) (l:List UInt8),l.length<=n->Fd.Room acc l->(∀z∈Fd.lines acc l,z.length<=4096)/\(Fd.lines acc l).length<=4096
 |0,acc,l,hl,h=>by
  obtain rfl:l=[]:=List.eq_nil_of_length_eq_zero (by omega)
  rw[Fd.lines_nil];exact⟨fun z hz=>by have:=h.1 z hz;simpa using this,by have:=h.2.1;simpa using this⟩
 |n+1,acc,l,hl,h=>by
  by_cases e:l=[]
  ·subst e
   rw[Fd.lines_nil];exact⟨fun z hz=>by have:=h.1 z hz;simpa using this,by have:=h.2.1;simpa using this⟩
  ·rw[Fd.lines_step e]
   exact lines_room n _ _ (by have:=Fd.rest_lt e;omega) (h.next e)
theorem split_room (l:List UInt8):(∀z∈Fd.splitL l,z.length<=4096)/\(Fd.splitL l).length<=4096:=by
 unfold Fd.splitL
 split
 ·exact⟨fun z hz=>by simp at hz,by simp⟩
 ·split
  ·exact⟨fun z hz=>by simp at hz,by simp⟩
  ·rename_i h1 h2
   exact lines_room _ [] l (Nat.le_refl _) ⟨fun z hz=>by simp at hz,by simp;omega,fun _=>by
    unfold Fd.faultB at h2
    split at h2
    ·exact absurd rfl h2
    ·simpa using h2⟩
def zeroM:Mt:=⟨0,0,0,false,Me.zeroR,[],[]⟩
def zeroMS:MS:=⟨zeroS,none,0,0,none,0,0⟩
noncomputable def parseM (m:Mt) (next i:Nat):List (List UInt8)->Mt×Int×Int
 | []=>if next<2 then (zeroM,(i:Int),2) else if mayM m=true then (m,0,0) else (zeroM,0,1)
 |l::t=>if (openR l next).2.2=true then
   match takeM m (openR l next).1 (openR l next).2.1 with
   |some m'=>parseM m' ((openR l next).1+1) (i+1) t
   |none=>(zeroM,(i:Int),4)
  else (zeroM,(i:Int),4)
noncomputable def meetParse (l:List UInt8):Mt×Int×Int:=if Fd.splitE l=0 then parseM zeroM 0 0 (Fd.splitL l) else (zeroM,Fd.splitN l,Fd.splitE l)
def ParseC (w:World) (p:Mt×Int×Int) (e:Ending) (w':World):Prop:=
 ∃S:MS,e= .returned (.tuple #[.agg (mcells S p.1).toArray,.int .i64 p.2.1,.int .i64 p.2.2])/\MtAt w' S p.1/\Below w.heap.size w w'
theorem zeroM_at (w:World):MtAt w zeroMS zeroM:=⟨Me.zero_at w,IsAt.nil _ _,IsAt.nil _ _,by decide,by decide,by decide,by decide,fun _=>rfl⟩
theorem results_cell2 {fn:Func} {p u v:Tmp} {ty:TypeId} (h:fn.results = #[.cell p ty,.tmp u,.tmp v]) (tmps:Array Value) (P:Program) (w:World):
  (results fn tmps).run P w =
   ((asAddr (tmps.getD p undef)).run P w).andThen fun a w₁=>((loadVar ty a).run P w₁).andThen fun x w₂ => .ok (.tuple #[x,tmps.getD u undef,tmps.getD v undef]) w₂:=by
 simp only[results,h]
 simp[Sem.run_bind,Result.andThen]
theorem info_mt21 (S:MS) (m:Mt):(Tryz.prog.info? 27).map (·.size)=some (mcells S m).toArray.size:=by
 rw[show (mcells S m).toArray.size=21 from rfl];kernel_rfl
theorem info_mt21' (S:MS) (m:Mt):(Tryz.prog.info? 27).map (·.size)=some (mcells S m).length:=by
 rw[mcells_len];kernel_rfl
theorem mcells_one (S:MS) (m:Mt):(mcells S m).toArray.all (·.oneCell')=true:=by
 unfold mcells
 simp[Value.oneCell']
theorem res_parse {tm:Array Value} {w:World} {g:Nat} {S:MS} {m:Mt} {b c:Value} (hr:w.rangeAt g 0 (mcells S m)) (t2:tm[2]? = some (.pointer (some ⟨g,0,none⟩))) (t3:tm[3]? = some b) (t4:tm[4]? = some c):
  (results Tryz.f11 tm).run Tryz.prog w= .ok (.tuple #[.agg (mcells S m).toArray,b,c]) w:=by
 have:=run_loadVar_mid w g 0 27 (mcells S m) _ hr Tryz.underlying27 rfl (info_mt21' S m)
 rw[results_cell2 Tryz.results11,getD_of t2,getD_of t3,getD_of t4]
 simp only[asAddr,Sem.run_pure,Result.andThen_ok,this]
theorem take_is (w:World) (T:Tabs w) (g:Nat) (S:MS) (m:Mt) (k:Nat) (hk:k<=4) (s:ByteArray) (hs:s.size<=100000) (h:MBox w g S m) (o:Option Mt) (ho:takeM m k s.data.toList=o):
  Calls Tryz.prog 36 #[.pointer (some ⟨g,0,none⟩),.int .i64 (k:Nat),.string s] w (TakeR w g S o):=by
 match k,hk with
 |0,_=>exact take0 w T g S m s hs h o ho
 |1,_=>exact take1 w T g S m s hs h o ho
 |2,_=>exact take2 w T g S m s hs h o ho
 |3,_=>exact take3 w T g S m s hs h o ho
 |4,_=>exact take4 w T g S m s hs h o ho
theorem openG_le (l:List UInt8):∀(f k:Nat),f+k<=5->(openG l f k).2.2=true->(openG l f k).1<=4/\(openG l f k).2.1.length<=l.length
 |0,k,_,h=>by simp[openG] at h
 |f+1,k,hk,h=>by
  unfold openG at h ⊢
  split at h
  ·rename_i hp
   rw[if_pos hp];refine⟨by show k<=4;omega,?_⟩
   show (Lib.trimPrefix l (headW k)).length<=l.length
   unfold Lib.trimPrefix;rw[if_pos hp,List.length_drop];omega
  ·rename_i hp
   rw[if_neg hp]
   split at h
   ·simp at h
   ·rename_i h2
    rw[if_neg h2];exact openG_le l f (k+1) (by omega) h
theorem there_belowB {B:Nat} {w w':World} {g o n:Nat} (h:w.there g o n) (hg:g<B) (b:Below B w w'):w'.there g o n:=fun j hj=>by
 obtain⟨h1,h2⟩:=h j hj
 exact⟨by rw[b.cell (p:=⟨g,_,none⟩) hg];exact h1,by rw[b.frozen (p:=⟨g,_,none⟩) hg];exact h2⟩
theorem MtAt.cells {S:MS} {m:Mt} {g:Nat} (fr:RFar S.R g) (fd:Far S.ad g) (fe:Far S.ae g) (l:List Value) (i:Nat) (w:World) (h:MtAt w S m):MtAt (w.setCells g i l) S m:=
 ⟨RuAt.cells fr l i w h.rule,IsAt.cells fd l i w h.dates,IsAt.cells fe l i w h.exc,h.ld,h.le,h.dc,h.ec,h.zd⟩
theorem MBox.zero (w:World):MBox (w.alloc (.cells #[.int .i64 0,.int .i64 0,.int .i64 0,.bool false,.int .i64 0,.int .i64 0,.int .i64 0,.int .i64 0,.int .i64 0,.bool false,.slice none 0 0,.slice none 0 0,.slice none 0 0,.slice none 0 0,.slice none 0 0,.slice none 0 0,.slice none 0 0,.slice none 0 0,.slice none 0 0,.slice none 0 0,.slice none 0 0] 27)) w.heap.size zeroMS zeroM where
 lt:=by simp
 cells:=fun j v hv=>by
  rw[Nat.zero_add,World.cell?_alloc_new];rw[<-List.getElem?_toArray] at hv;exact hv
 there:=there_new w _ _ (Nat.le_refl 21)
 at_:=zeroM_at _
 fr:=⟨Far.none _,Far.none _,Far.none _,Far.none _,Far.none _,Far.none _,Far.none _,Far.none _,Far.none _⟩
 fd:=Far.none _
 fe:=Far.none _
theorem MZero.zero (B:Nat):MZero B zeroMS:=⟨⟨Fresh.none _,Fresh.none _,Fresh.none _,Fresh.none _,Fresh.none _,Fresh.none _,Fresh.none _,Fresh.none _,Fresh.none _⟩,Fresh.none _,Fresh.none _⟩
theorem fsat_str {ps:List (List UInt8)} {t:Nat} (h:t<ps.length):Fd.sat (ps.map Fd.str) t=str (Ru.pat ps t):=by
 rw[Fd.sat_lt (by simpa using h),List.getElem_map,Ru.pat_lt h]
 rfl
theorem parse_some {m m':Mt} {next i kk:Nat} {l val:List UInt8} {t:List (List UInt8)} (h:openR l next=(kk,val,true)) (ht:takeM m kk val=some m'):parseM m next i (l::t)=parseM m' (kk+1) (i+1) t:=by
 rw[parseM,h];simp[ht]
theorem parse_none {m:Mt} {next i kk:Nat} {l val:List UInt8} {t:List (List UInt8)} (h:openR l next=(kk,val,true)) (ht:takeM m kk val=none):parseM m next i (l::t)=(zeroM,(i:Int),4):=by
 rw[parseM,h];simp[ht]
theorem parse_no {m:Mt} {next i kk:Nat} {l val:List UInt8} {t:List (List UInt8)} (h:openR l next=(kk,val,false)):parseM m next i (l::t)=(zeroM,(i:Int),4):=by
 rw[parseM,h];simp
set_option maxRecDepth 100000 in
set_option maxHeartbeats 16000000 in
theorem parseM_is (w:World) (T:Tabs w) (H:Heads w) (A:Option Addr) (n c:Nat) (l:List UInt8) (h:Fd.BsAt w A n l) (hnc:n<=c) (hn:n<=9223372036854775807) (p:Mt×Int×Int) (hp:meetParse l=p):
  Calls Tryz.prog 11 #[.slice A n c] w (ParseC w p):=by
 have TT:=hid T
 have HH:=hid H
 have ba:=Ru.alloc_below w (.cells #[.int .i64 0,.int .i64 0,.int .i64 0,.bool false,.int .i64 0,.int .i64 0,.int .i64 0,.int .i64 0,.int .i64 0,.bool false,.slice none 0 0,.slice none 0 0,.slice none 0 0,.slice none 0 0,.slice none 0 0,.slice none 0 0,.slice none 0 0,.slice none 0 0,.slice none 0 0,.slice none 0 0,.slice none 0 0] 27)
 have SP:=hid (Fd.split_any _ A n c l (h.below ba) hnc hn)
 have TH0:=hid (there_new w #[.int .i64 0,.int .i64 0,.int .i64 0,.bool false,.int .i64 0,.int .i64 0,.int .i64 0,.int .i64 0,.int .i64 0,.bool false,.slice none 0 0,.slice none 0 0,.slice none 0 0,.slice none 0 0,.slice none 0 0,.slice none 0 0,.slice none 0 0,.slice none 0 0,.slice none 0 0,.slice none 0 0,.slice none 0 0] 27 (n:=21) (Nat.le_refl _))
 have SZ0:w.heap.size+1=(w.alloc (.cells #[.int .i64 0,.int .i64 0,.int .i64 0,.bool false,.int .i64 0,.int .i64 0,.int .i64 0,.int .i64 0,.int .i64 0,.bool false,.slice none 0 0,.slice none 0 0,.slice none 0 0,.slice none 0 0,.slice none 0 0,.slice none 0 0,.slice none 0 0,.slice none 0 0,.slice none 0 0,.slice none 0 0,.slice none 0 0] 27)).heap.size:=by simp
 have B0:=hid ba
 obtain⟨ps,hps⟩:∃ps,Fd.splitL l=ps:=⟨_,rfl⟩
 obtain⟨sn,hsn⟩:∃sn,Fd.splitN l=sn:=⟨_,rfl⟩
 obtain⟨se,hse⟩:∃se,Fd.splitE l=se:=⟨_,rfl⟩
 have GO:=hid (show (if se=0 then parseM zeroM 0 0 ps else (zeroM,sn,se))=p by rw[<-hp,<-hps,<-hsn,<-hse];rfl)
 have RM:=hid (hps ▸ split_room l)
 have E1:=hid hps;have E2:=hid hsn;have E3:=hid hse
 clear T H h hp ba hps hsn hse
 go_enter Tryz.func11,Tryz.ntmps11
 go_wp2_with fail
 refine SP.out.mono ?_
 rintro e w1 ⟨v,rfl,ow,b1⟩
 rw[E1.out] at ow
 rw[E2.out,E3.out]
 obtain⟨A1,k1,rfl,hA1⟩:=Fd.OwnT.at_ ow
 obtain⟨k,hk⟩:∃k,k=(ps.map Fd.str).length:=⟨_,rfl⟩
 rw[<-hk] at hA1 ⊢
 rw[List.length_map] at hk
 have KP:=hid hk
 have SA:=hid hA1
 have B1:=hid (B0.out.trans (b1.mono B0.out.size))
 have TH:=hid (show w1.there w.heap.size 0 21 from there_belowB TH0.out (by simp) b1)
 have s1':=b1.size
 rw[<-SZ0] at s1'
 clear ow hA1 b1 SP TH0 B0 E1 E2 E3 hk SZ0
 by_cases hE:se=0
 ·subst hE
  have G:=hid (show parseM zeroM 0 0 ps=p by rw[<-GO.out,if_pos rfl]);have ba1:=Ru.alloc_below w1 (.cells #[.int .i64 0,.int .i64 0,.int .i64 0,.bool false,.int .i64 0,.int .i64 0,.int .i64 0,.int .i64 0,.int .i64 0,.bool false,.slice none 0 0,.slice none 0 0,.slice none 0 0,.slice none 0 0,.slice none 0 0,.slice none 0 0,.slice none 0 0,.slice none 0 0,.slice none 0 0,.slice none 0 0,.slice none 0 0] 27);obtain⟨w2,hw2⟩:∃w2:World,w2=w1.alloc (.cells #[.int .i64 0,.int .i64 0,.int .i64 0,.bool false,.int .i64 0,.int .i64 0,.int .i64 0,.int .i64 0,.int .i64 0,.bool false,.slice none 0 0,.slice none 0 0,.slice none 0 0,.slice none 0 0,.slice none 0 0,.slice none 0 0,.slice none 0 0,.slice none 0 0,.slice none 0 0,.slice none 0 0,.slice none 0 0] 27):=⟨_,rfl⟩;have M2:=hid (show MBox w2 w1.heap.size zeroMS zeroM by rw[hw2];exact MBox.zero w1);have B12:=hid (show Below w1.heap.size w1 w2 by rw[hw2];exact ba1);clear ba1 GO
  go_upto_region 5 with fail
  rw[<-hw2];clear hw2;obtain⟨g,hg⟩:∃g,g=w1.heap.size:=⟨_,rfl⟩;rw[<-hg] at M2 B12 s1' ⊢;have GG:=hid hg;have TH2:=hid (there_below TH.out (show w.heap.size<w1.heap.size by omega) (by rw[<-hg];exact B12.out));have B2:=hid (B1.out.trans (B12.out.mono (by omega)));have sz2:g<w2.heap.size:=M2.out.lt
  clear TH B1 hg;go_wp2_with fail
  go_loopw [9,28] (fun nv iv wr=>∃(t next:Nat) (m:Mt) (S:MS),iv= .int .i64 t/\t<=k/\nv= .int .i64 next/\next<=5/\MBox wr g S m/\MZero (w.heap.size+1) S/\Kg g w2 wr/\Hid (parseM m next t (ps.drop t)=p)) (fun _ iv _=>k-(intOf iv).toNat)
  case atStart=>exact⟨0,0,zeroM,zeroMS,rfl,Nat.zero_le _,rfl,Nat.zero_le _,M2.out,MZero.zero _,Kg.refl _ _,hid (by rw[List.drop_zero];exact G.out)⟩
  case round=>
   obtain⟨wo,rfl⟩:∃wo:World,wo=wr:=⟨_,rfl⟩;clear M2 G;obtain⟨t,next,m,S,rfl,ht,rfl,hn5,hM,hZ,hK,PG⟩:=hrel;have MO:=hid hM;have ZO:=hid hZ;have KO:=hid hK;have bo:Below (w.heap.size+1) w2 wo:=hK.below (by omega) (by omega)
   have TH:=hid (there_belowB TH2.out (Nat.lt_succ_self _) bo);have BW:=hid (B2.out.trans (bo.mono (Nat.le_succ _)));have TO:=hid (TT.out.on BW.out);have HO:=hid (HH.out.on BW.out);have szo:=hK.size;clear hM hZ hK bo
   by_cases hlt:t<k
   ·have s0:decide ((t:Int)<k)=true:=decide_eq_true (by omega)
    have s00:decide (t<k)=true:=decide_eq_true hlt
    have i5:(t:Int)<k:=by omega
    have W1:IntKind.i64.wrap ((t:Int)+1)=(t:Int)+1:=IntWalk.i64_in _ (by have:=RM.out.2;have:=KP.out;omega)
    have tp:t<ps.length:=by rw[<-KP.out];exact hlt
    obtain⟨b,off,rfl,hb,hc⟩:=SA.out.2 (by omega);have c0:=(KO.out.cell (o:=off+t) (Nat.lt_of_lt_of_le hb B12.out.size) (by have:=GG.out;omega)).trans ((B12.out.cell (p:=⟨b,off+t,none⟩) (by have:=GG.out;show b<g;omega)).trans (hc t hlt));rw[fsat_str tp] at c0;have DP:=hid (drop_pat tp);have SZ:=hid (RM.out.1 (Ru.pat ps t) (by rw[Ru.pat_lt tp];exact List.getElem_mem _));clear hc tp;obtain⟨z,hz⟩:∃z,Ru.pat ps t=z:=⟨_,rfl⟩;rw[hz] at c0 DP SZ;clear hz;obtain⟨kk,val,okb,hop⟩:∃kk val okb,openR z next=(kk,val,okb):=⟨_,_,_,rfl⟩;have OP:=hid hop
    have OL:=hid (show okb=true->kk<=4/\val.length<=z.length from fun q=>by
     have:=openG_le z (5-next) next (by omega)
     unfold openR at hop;rw[hop] at this
     exact this q)
    clear hop;go_wp2_with fail;refine(open_is (str z) next hn5 wo HO.out (kk,val,okb) (by rw[list_str];exact OP.out)).mono ?_;rintro e w3 ⟨rfl,rfl⟩
    cases okb with
    |false=>
     have G:=hid (show (zeroM,(t:Int),4)=p by rw[<-PG.out,DP.out,parse_no OP.out])
     (go_wp2_with (first
       | (refine wpList_store_mid rfl 27 _ _ rfl w.heap.size 0 (mcells zeroMS zeroM).toArray rfl rfl TH.out (info_mt21 zeroMS zeroM) (mcells_one zeroMS zeroM) ?_)
       |fail)
      exact bodyPost_ret (res_parse (S:=zeroMS) (m:=zeroM) (World.rangeAt_setCells_same _ _ _ _ TH.out) rfl rfl rfl) rfl (by rw[<-G.out];exact⟨zeroMS,rfl,zeroM_at _,cells_below (Nat.le_refl _) _ _ _ BW.out⟩))
    |true=>
     obtain⟨k4,vl⟩:=OL.out rfl;obtain⟨o,ho⟩:∃o,takeM m kk val=o:=⟨_,rfl⟩;have HO2:=hid ho;have OK:=hid (show takeM m kk (str val).data.toList=o by rw[list_str];exact ho);have W2:IntKind.i64.wrap ((kk:Int)+1)=((kk+1:Nat):Int):=by rw[IntWalk.i64_in _ (by omega)];rfl
     clear ho c0;go_wp2_with fail;refine(take_is w3 TO.out g S m kk k4 (str val) (by rw[str_size];have:=SZ.out;omega) MO.out o OK.out).mono ?_;rintro e w4 ⟨k4',hr⟩;have K4:=hid (KO.out.trans k4');have b4:Below (w.heap.size+1) w3 w4:=k4'.below (by omega) (by have:=GG.out;omega)
     have TH:=hid (there_belowB TH.out (Nat.lt_succ_self _) b4);have BW:=hid (BW.out.trans (b4.mono (Nat.le_succ _)));clear k4' b4 MO KO TO HO
     rcases hr with ⟨rfl,rfl⟩|⟨m',S',rfl,rfl,hM,hz⟩
     ·have G:=hid (show (zeroM,(t:Int),4)=p by rw[<-PG.out,DP.out,parse_none OP.out HO2.out])
      (go_wp2_with (first
        | (refine wpList_store_mid rfl 27 _ _ rfl w.heap.size 0 (mcells zeroMS zeroM).toArray rfl rfl TH.out (info_mt21 zeroMS zeroM) (mcells_one zeroMS zeroM) ?_)
        |fail)
       exact bodyPost_ret (res_parse (S:=zeroMS) (m:=zeroM) (World.rangeAt_setCells_same _ _ _ _ TH.out) rfl rfl rfl) rfl (by rw[<-G.out];exact⟨zeroMS,rfl,zeroM_at _,cells_below (Nat.le_refl _) _ _ _ BW.out⟩))
     ·have M4:=hid hM
      have Z4:=hid (hz _ (by omega) ZO.out);have PO:=hid (show parseM m' (kk+1) (t+1) (ps.drop (t+1))=p by rw[<-PG.out,DP.out,parse_some OP.out HO2.out]);clear hM hz ZO;go_wp2
      go_roundw
      case rel=>exact⟨t+1,kk+1,m',S',by go_num,by omega,rfl,by omega,M4.out,Z4.out,K4.out,PO⟩
      case measure=>simp[intOf];omega
   ·obtain rfl:t=k:=by omega
    have s0:decide ((t:Int)<t)=false:=decide_eq_false (by omega)
    have s00:decide (t<t)=false:=decide_eq_false (by omega)
    have PE:=hid (show (if next<2 then (zeroM,(t:Int),2) else if mayM m=true then (m,0,0) else (zeroM,0,1))=p by rw[<-PG.out,List.drop_eq_nil_of_le (by rw[KP.out];exact Nat.le_refl _)];rfl)
    by_cases h2:next<2
    ·have s1:decide ((next:Int)<2)=true:=decide_eq_true (by omega)
     have s11:decide (next<2)=true:=decide_eq_true h2
     have G:=hid (show (zeroM,(t:Int),2)=p by rw[<-PE.out,if_pos h2])
     (go_wp2_with (first
       | (refine wpList_store_mid rfl 27 _ _ rfl w.heap.size 0 (mcells zeroMS zeroM).toArray rfl rfl TH.out (info_mt21 zeroMS zeroM) (mcells_one zeroMS zeroM) ?_)
       |fail)
      exact bodyPost_ret (res_parse (S:=zeroMS) (m:=zeroM) (World.rangeAt_setCells_same _ _ _ _ TH.out) rfl rfl rfl) rfl (by rw[<-G.out];exact⟨zeroMS,rfl,zeroM_at _,cells_below (Nat.le_refl _) _ _ _ BW.out⟩))
    ·have s1:decide ((next:Int)<2)=false:=decide_eq_false (by omega)
     have s11:decide (next<2)=false:=decide_eq_false h2
     obtain⟨mb,hmb⟩:∃mb,mayM m=mb:=⟨_,rfl⟩;have PM:=hid (show (if mb=true then (m,0,0) else (zeroM,0,1))=p by rw[<-PE.out,if_neg h2,hmb]);have MB:=hid hmb;clear hmb PE
     go_wp2_with (first
      | (refine wpList_load_mid rfl 27 _ rfl g 0 rfl (mcells S m) _ MO.out.cells Tryz.underlying27 rfl (info_mt21' S m) ?_)
      |fail)
     refine(mayM_is wo S m mb MO.out.at_ MB.out).mono ?_;rintro e w3 ⟨rfl,b3⟩;have M3:=hid (MO.out.below b3);have TH:=hid (there_below TH.out (show w.heap.size<wo.heap.size by have:=GG.out;omega) b3);have BW:=hid (BW.out.trans (b3.mono BW.out.size));clear b3 MO
     cases mb with
     |false=>
      have G:=hid (show (zeroM,(0:Int),1)=p from PM.out)
      (go_wp2_with (first
        | (refine wpList_store_mid rfl 27 _ _ rfl w.heap.size 0 (mcells zeroMS zeroM).toArray rfl rfl TH.out (info_mt21 zeroMS zeroM) (mcells_one zeroMS zeroM) ?_)
        |fail)
       exact bodyPost_ret (res_parse (S:=zeroMS) (m:=zeroM) (World.rangeAt_setCells_same _ _ _ _ TH.out) rfl rfl rfl) rfl (by rw[<-G.out];exact⟨zeroMS,rfl,zeroM_at _,cells_below (Nat.le_refl _) _ _ _ BW.out⟩))
     |true=>
      have G:=hid (show (m,(0:Int),0)=p from PM.out);have TH':=hid (show w3.there w.heap.size 0 (mcells S m).toArray.size from TH.out);have fr:=far_low ZO.out.r (Nat.lt_succ_self w.heap.size);have fd:=Far.fresh ZO.out.d (Nat.lt_succ_self w.heap.size);have fe:=Far.fresh ZO.out.e (Nat.lt_succ_self w.heap.size);have MX:=hid (MtAt.cells (g:=w.heap.size) fr fd fe (mcells S m) 0 w3 M3.out.at_);clear fr fd fe
      go_wp2_with (first
       | (refine wpList_load_mid rfl 27 _ rfl g 0 rfl (mcells S m) _ M3.out.cells Tryz.underlying27 rfl (info_mt21' S m) ?_)
       | (refine wpList_store_mid rfl 27 _ _ rfl w.heap.size 0 (mcells S m).toArray rfl rfl TH'.out (info_mt21 S m) (mcells_one S m) ?_)
       |fail)
      exact bodyPost_ret (res_parse (S:=S) (m:=m) (World.rangeAt_setCells_same _ _ _ _ TH.out) rfl rfl rfl) rfl (by rw[<-G.out];exact⟨S,rfl,MX.out,cells_below (Nat.le_refl _) _ _ _ BW.out⟩)
 ·have q0:(se != 0)=true:=by rw[bne_iff_ne];exact hE
  have G:=hid (show (zeroM,sn,se)=p by rw[<-GO.out,if_neg hE]);have BW:=B1
  (go_wp2_with (first
    | (refine wpList_store_mid rfl 27 _ _ rfl w.heap.size 0 (mcells zeroMS zeroM).toArray rfl rfl TH.out (info_mt21 zeroMS zeroM) (mcells_one zeroMS zeroM) ?_)
    |fail)
   exact bodyPost_ret (res_parse (S:=zeroMS) (m:=zeroM) (World.rangeAt_setCells_same _ _ _ _ TH.out) rfl rfl rfl) rfl (by rw[<-G.out];exact⟨zeroMS,rfl,zeroM_at _,cells_below (Nat.le_refl _) _ _ _ BW.out⟩))
end Go.Proofs.YtddnnljfgfcplaaGreatDoor.Me
