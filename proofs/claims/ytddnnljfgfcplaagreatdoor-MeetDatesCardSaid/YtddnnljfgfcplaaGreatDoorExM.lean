/- Plain mathematics of chapter 8: the moments of a rule in order. Plain mathematics of chapter 8: periods, and all of a rule's moments. More of chapter 8's plain mathematics: what moments keeps, what Next answers. Plain mathematics of the statements of chapter 8. Plain mathematics of the document's own list of a rule's moments (chapter 8). Plain mathematics of the document's own set of a period (chapters 7 and 8). Plain mathematics of the document's walk over days (chapter 8): what is told so far. -/
import Derived.Test.YtddnnljfgfcplaaGreatDoorMbM
set_option linter.unusedVariables false
namespace Go.Proofs.YtddnnljfgfcplaaGreatDoor.Ex
open Cv St Ru Dd Mb
def selL (q:Int->Bool) (a b:Int):List Int:=(span a (b-a).toNat).filter q
theorem mem_sel {q:Int->Bool} {a b x:Int}:x∈selL q a b↔a<=x/\x<b/\q x=true:=by
 unfold selL
 rw[List.mem_filter,mem_span]
 constructor
 ·rintro⟨⟨h1,h2⟩,h3⟩;exact⟨h1,by omega,h3⟩
 ·rintro⟨h1,h2,h3⟩;exact⟨⟨h1,by omega⟩,h3⟩
theorem sel_rise (q:Int->Bool) (a b:Int):(selL q a b).Pairwise (· < ·):=(rise_span _ _).filter _
theorem sel_eq {q:Int->Bool} {a b:Int} {l:List Int} (hl:l.Pairwise (· < ·)) (h:∀x,x∈l↔a<=x/\x<b/\q x=true):l=selL q a b:=
 rise_ext hl (sel_rise _ _ _) fun x=>(h x).trans mem_sel.symm
theorem sel_nil {q:Int->Bool} {a b:Int} (h:b<=a):selL q a b=[]:=by unfold selL;rw[show (b-a).toNat=0 by omega];rfl
theorem sel_cat {q:Int->Bool} {a b c:Int} (h1:a<=b) (h2:b<=c):selL q a b++selL q b c=selL q a c:=by
 refine rise_ext ?_ (sel_rise _ _ _) ?_
 ·rw[List.pairwise_append]
  exact⟨sel_rise _ _ _,sel_rise _ _ _,fun x hx y hy=>by have:=mem_sel.1 hx;have:=mem_sel.1 hy;omega⟩
 ·intro x
  rw[List.mem_append,mem_sel,mem_sel,mem_sel];constructor
  ·rintro(⟨u,v,w⟩|⟨u,v,w⟩)<;>exact⟨by omega,by omega,w⟩
  ·rintro⟨u,v,w⟩
   by_cases g:x<b
   ·exact .inl ⟨u,g,w⟩
   ·exact .inr ⟨by omega,v,w⟩
theorem sel_congr {q p:Int->Bool} {a b:Int} (h:∀x,a<=x->x<b->q x=p x):selL q a b=selL p a b:=
 sel_eq (sel_rise _ _ _) fun x=>by
  rw[mem_sel];exact⟨fun ⟨u,v,w⟩=>⟨u,v,(h x u v) ▸ w⟩,fun ⟨u,v,w⟩=>⟨u,v,(h x u v).symm ▸ w⟩⟩
theorem sel_filter {q:Int->Bool} {a b c d:Int} (h:d<=c\/(a<=c/\d<=b)):(selL q a b).filter (fun x=>decide (c<=x/\x<d))=selL q c d:=
 sel_eq ((sel_rise _ _ _).filter _) fun x=>by
  rw[List.mem_filter,mem_sel];simp only[decide_eq_true_eq];constructor
  ·rintro⟨⟨u,v,w⟩,p,s⟩;exact⟨p,s,w⟩
  ·rintro⟨p,s,w⟩;exact⟨⟨by omega,by omega,w⟩,p,s⟩
theorem rise_len {l:List Int} {a b:Int} (h:l.Pairwise (· < ·)) (hb:∀x∈l,a<=x/\x<b):l.length<=(b-a).toNat:=by
 have e:l=selL (fun x=>decide (x∈l)) a b:=sel_eq h fun x=>by
  simp only[decide_eq_true_eq];exact⟨fun g=>⟨(hb x g).1,(hb x g).2,g⟩,fun g=>g.2.2⟩
 rw[e]
 refine Nat.le_trans (List.length_filter_le _ _) ?_
 rw[span_len]
 exact Nat.le_refl _
def pickL (pos l:List Int):List Int:=if pos=[] then l else l.filter fun x=>decide (idx l x+1∈pos)||decide (idx l x-l.length∈pos)
theorem mem_pick {pos l:List Int} {x:Int}:x∈pickL pos l↔x∈l/\(pos=[]\/idx l x+1∈pos\/idx l x-l.length∈pos):=by
 unfold pickL
 split
 ·rename_i c;simp[c]
 ·rename_i c;simp[c]
theorem pick_rise {pos l:List Int} (h:l.Pairwise (· < ·)):(pickL pos l).Pairwise (· < ·):=by
 unfold pickL
 split
 ·exact h
 ·exact h.filter _
theorem pick_sub {pos l:List Int} {x:Int} (h:x∈pickL pos l):x∈l:=(mem_pick.1 h).1
theorem pick_len (pos l:List Int):(pickL pos l).length<=l.length:=by
 unfold pickL
 split
 ·exact Nat.le_refl _
 ·exact List.length_filter_le _ _
theorem idx_map (b:Int):∀(l:List Int) (x:Int),idx (l.map fun m=>b+m) (b+x)=idx l x
 | [],_=>rfl
 |y::l,x=>by
  rw[List.map_cons];unfold idx;rw[idx_map b l x]
  by_cases h:y=x
  ·rw[if_pos h,if_pos (by rw[h])]
  ·rw[if_neg h,if_neg (by omega)]
def inA (r:Ru) (start x:Int):Bool:=rawB r start x&&(decide (r.pos=[])||Mb.placeB r start x)
theorem has_inA (r:Ru) (start t:Int):hasM r start t=(decide (start<=t)&&(!r.ends||decide (t<=r.til))&&inA r start t):=by
 unfold hasM inA
 simp only[Bool.and_assoc]
def unitR (r:Ru):Int:=if r.freq=5 then 3600 else if r.freq=6 then 60 else if r.freq=7 then 1 else 86400
def spreadL (T N:List Int) (k:Int):List Int:=T.flatMap fun t=>N.map fun n=>t+n*k
theorem mem_spread {T N:List Int} {k x:Int}:x∈spreadL T N k↔∃t∈T,∃n∈N,t+n*k=x:=by
 unfold spreadL
 simp only[List.mem_flatMap,List.mem_map]
theorem spread_rise {T N:List Int} {k:Int} (g:Int) (hk:0<k) (hT:T.Pairwise (· < ·)) (hN:N.Pairwise (· < ·)) (gT:∀x∈T,∀y∈T,x<y->x+g<=y) (gN:∀n∈N,0<=n*k/\n*k<g):(spreadL T N k).Pairwise (· < ·):=by
 refine rise_flat hT (fun t _ => ?_) ?_
 ·rw[List.pairwise_map]
  exact hN.imp fun q=>by have:=Int.mul_lt_mul_of_pos_right q hk;omega
 ·intro x hx y hy hlt a ha b hb
  obtain⟨n,hn,rfl⟩:=List.mem_map.1 ha;obtain⟨m,hm,rfl⟩:=List.mem_map.1 hb
  have:=gN n hn;have:=gN m hm;have:=gT x hx y hy hlt
  omega
def begA (r:Ru) (start:Int):List Int:=if 5<=r.freq then spreadL [0] (timH r start) 3600 else [0]
def begB (r:Ru) (start:Int):List Int:=if 6<=r.freq then spreadL (begA r start) (timM r start) 60 else begA r start
def begL (r:Ru) (start:Int):List Int:=if 7<=r.freq then spreadL (begB r start) (timS r start) 1 else begB r start
def witA (r:Ru) (start:Int):List Int:=if 5<=r.freq then [0] else spreadL [0] (timH r start) 3600
def witB (r:Ru) (start:Int):List Int:=if 6<=r.freq then witA r start else spreadL (witA r start) (timM r start) 60
def witL (r:Ru) (start:Int):List Int:=if 7<=r.freq then witB r start else spreadL (witB r start) (timS r start) 1
theorem freq_may {r:Ru} (h:mayR r=true):(1<=r.freq/\r.freq<=7)/\1<=r.itv/\r.itv<=1000/\0<=r.cnt/\r.cnt<=4096:=by
 have f:=(mayR_of h).1
 unfold scalB at f
 have f:=of_decide_eq_true f
 omega
theorem unit_cases {r:Ru} (h:mayR r=true):(r.freq<=4/\unitR r=86400)\/(r.freq=5/\unitR r=3600)\/(r.freq=6/\unitR r=60)\/(r.freq=7/\unitR r=1):=by
 have f:=(freq_may h).1
 unfold unitR
 rcases(by omega:r.freq<=4\/r.freq=5\/r.freq=6\/r.freq=7) with c|c|c|c
 ·exact .inl ⟨c,by rw[if_neg (by omega),if_neg (by omega),if_neg (by omega)]⟩
 ·exact .inr (.inl ⟨c,by rw[if_pos c]⟩)
 ·exact .inr (.inr (.inl ⟨c,by rw[if_neg (by omega),if_pos c]⟩))
 ·exact .inr (.inr (.inr ⟨c,by rw[if_neg (by omega),if_neg (by omega),if_pos c]⟩))
theorem beg_4 {r:Ru} {start:Int} (h:r.freq<=4):begL r start=[0]/\witL r start=spreadL (spreadL (spreadL [0] (timH r start) 3600) (timM r start) 60) (timS r start) 1:=by
 unfold begL begB begA witL witB witA
 rw[if_neg (by omega),if_neg (by omega),if_neg (by omega),if_neg (by omega),if_neg (by omega),if_neg (by omega)]
 exact⟨rfl,rfl⟩
theorem beg_5 {r:Ru} {start:Int} (h:r.freq=5):begL r start=spreadL [0] (timH r start) 3600/\witL r start=spreadL (spreadL [0] (timM r start) 60) (timS r start) 1:=by
 unfold begL begB begA witL witB witA
 rw[if_neg (by omega),if_neg (by omega),if_pos (by omega),if_neg (by omega),if_neg (by omega),if_pos (by omega)]
 exact⟨rfl,rfl⟩
theorem beg_6 {r:Ru} {start:Int} (h:r.freq=6):begL r start=spreadL (spreadL [0] (timH r start) 3600) (timM r start) 60/\witL r start=spreadL [0] (timS r start) 1:=by
 unfold begL begB begA witL witB witA
 rw[if_neg (by omega),if_pos (by omega),if_pos (by omega),if_neg (by omega),if_pos (by omega),if_pos (by omega)]
 exact⟨rfl,rfl⟩
theorem beg_7 {r:Ru} {start:Int} (h:r.freq=7):begL r start=spreadL (spreadL (spreadL [0] (timH r start) 3600) (timM r start) 60) (timS r start) 1/\witL r start=[0]:=by
 unfold begL begB begA witL witB witA
 rw[if_pos (by omega),if_pos (by omega),if_pos (by omega),if_pos (by omega),if_pos (by omega),if_pos (by omega)]
 exact⟨rfl,rfl⟩
theorem mem_one {N:List Int} {k x:Int}:x∈spreadL [0] N k↔∃n∈N,n*k=x:=by rw[mem_spread];simp
theorem mem_hms {H M S:List Int} (bH:∀x∈H,0<=x/\x<=23) (bM:∀x∈M,0<=x/\x<=59) (bS:∀x∈S,0<=x/\x<=59) {x:Int}:
  x∈spreadL (spreadL (spreadL [0] H 3600) M 60) S 1↔0<=x/\x<=86399/\ownH x∈H/\ownM x∈M/\ownS x∈S:=by
 simp only[mem_spread,List.mem_singleton]
 constructor
 ·rintro⟨_,⟨_,⟨_,rfl,h,hh,rfl⟩,m,hm,rfl⟩,s,hs,rfl⟩
  have:=bH h hh;have:=bM m hm;have:=bS s hs
  have e1:ownH (0+h*3600+m*60+s*1)=h:=by unfold ownH;omega
  have e2:ownM (0+h*3600+m*60+s*1)=m:=by unfold ownM;omega
  have e3:ownS (0+h*3600+m*60+s*1)=s:=by unfold ownS;omega
  rw[e1,e2,e3];exact⟨by omega,by omega,hh,hm,hs⟩
 ·rintro⟨h1,h2,hh,hm,hs⟩
  refine⟨_,⟨_,⟨0,rfl,_,hh,rfl⟩,_,hm,rfl⟩,_,hs,?_⟩;unfold ownH ownM ownS;omega
theorem mem_hm {H M:List Int} (bH:∀x∈H,0<=x/\x<=23) (bM:∀x∈M,0<=x/\x<=59) {x:Int}:
  x∈spreadL (spreadL [0] H 3600) M 60↔0<=x/\x<=86399/\x % 60=0/\ownH x∈H/\ownM x∈M:=by
 simp only[mem_spread,List.mem_singleton]
 constructor
 ·rintro⟨_,⟨_,rfl,h,hh,rfl⟩,m,hm,rfl⟩
  have:=bH h hh;have:=bM m hm
  have e1:ownH (0+h*3600+m*60)=h:=by unfold ownH;omega
  have e2:ownM (0+h*3600+m*60)=m:=by unfold ownM;omega
  rw[e1,e2];exact⟨by omega,by omega,by omega,hh,hm⟩
 ·rintro⟨h1,h2,h3,hh,hm⟩
  refine⟨_,⟨0,rfl,_,hh,rfl⟩,_,hm,?_⟩;unfold ownH ownM;omega
theorem mem_ms {M S:List Int} (bM:∀x∈M,0<=x/\x<=59) (bS:∀x∈S,0<=x/\x<=59) {x:Int}:
  x∈spreadL (spreadL [0] M 60) S 1↔0<=x/\x<3600/\ownM x∈M/\ownS x∈S:=by
 simp only[mem_spread,List.mem_singleton]
 constructor
 ·rintro⟨_,⟨_,rfl,m,hm,rfl⟩,s,hs,rfl⟩
  have:=bM m hm;have:=bS s hs
  have e2:ownM (0+m*60+s*1)=m:=by unfold ownM;omega
  have e3:ownS (0+m*60+s*1)=s:=by unfold ownS;omega
  rw[e2,e3];exact⟨by omega,by omega,hm,hs⟩
 ·rintro⟨h1,h2,hm,hs⟩
  refine⟨_,⟨0,rfl,_,hm,rfl⟩,_,hs,?_⟩;unfold ownM ownS;omega
theorem mem_beg {r:Ru} {start s:Int} (h:mayR r=true):s∈begL r start↔0<=s/\s<=86399/\s % unitR r=0/\(5<=r.freq->ownH s∈timH r start)/\(6<=r.freq->ownM s∈timM r start)/\(7<=r.freq->ownS s∈timS r start):=by
 have bH:=(timH_ok start h).bd;have bM:=(timM_ok start h).bd;have bS:=(timS_ok start h).bd
 rcases unit_cases h with ⟨c,u⟩|⟨c,u⟩|⟨c,u⟩|⟨c,u⟩<;>rw[u]
 ·rw[(beg_4 c).1,List.mem_singleton]
  exact⟨fun e=>by subst e;exact⟨by omega,by omega,by omega,fun q=>by omega,fun q=>by omega,fun q=>by omega⟩,fun ⟨a,b,d,_⟩=>by omega⟩
 ·rw[(beg_5 c).1,mem_one]
  constructor
  ·rintro⟨n,hn,rfl⟩
   have:=bH n hn
   exact⟨by omega,by omega,by omega,fun _=>by rw[show ownH (n*3600)=n by unfold ownH;omega];exact hn,fun q=>by omega,fun q=>by omega⟩
  ·rintro⟨a,b,d,e,-⟩
   exact⟨_,e (by omega),by unfold ownH;omega⟩
 ·rw[(beg_6 c).1,mem_hm bH bM]
  exact⟨fun ⟨a,b,d,e,f⟩=>⟨a,b,d,fun _=>e,fun _=>f,fun q=>by omega⟩,fun ⟨a,b,d,e,f,_⟩=>⟨a,b,d,e (by omega),f (by omega)⟩⟩
 ·rw[(beg_7 c).1,mem_hms bH bM bS]
  exact⟨fun ⟨a,b,d,e,f⟩=>⟨a,b,by omega,fun _=>d,fun _=>e,fun _=>f⟩,fun ⟨a,b,d,e,f,g⟩=>⟨a,b,e (by omega),f (by omega),g (by omega)⟩⟩
theorem mem_wit {r:Ru} {start m:Int} (h:mayR r=true):m∈witL r start↔0<=m/\m<unitR r/\(r.freq<=4->ownH m∈timH r start)/\(r.freq<=5->ownM m∈timM r start)/\(r.freq<=6->ownS m∈timS r start):=by
 have bH:=(timH_ok start h).bd;have bM:=(timM_ok start h).bd;have bS:=(timS_ok start h).bd
 rcases unit_cases h with ⟨c,u⟩|⟨c,u⟩|⟨c,u⟩|⟨c,u⟩<;>rw[u]
 ·rw[(beg_4 c).2,mem_hms bH bM bS]
  exact⟨fun ⟨a,b,d,e,f⟩=>⟨a,by omega,fun _=>d,fun _=>e,fun _=>f⟩,fun ⟨a,b,d,e,f⟩=>⟨a,by omega,d (by omega),e (by omega),f (by omega)⟩⟩
 ·rw[(beg_5 c).2,mem_ms bM bS]
  exact⟨fun ⟨a,b,d,e⟩=>⟨a,b,fun q=>by omega,fun _=>d,fun _=>e⟩,fun ⟨a,b,d,e,f⟩=>⟨a,b,e (by omega),f (by omega)⟩⟩
 ·rw[(beg_6 c).2,mem_one]
  constructor
  ·rintro⟨n,hn,rfl⟩
   have:=bS n hn
   exact⟨by omega,by omega,fun q=>by omega,fun q=>by omega,fun _=>by rw[show ownS (n*1)=n by unfold ownS;omega];exact hn⟩
  ·rintro⟨a,b,d,e,f⟩
   exact⟨_,f (by omega),by unfold ownS;omega⟩
 ·rw[(beg_7 c).2,List.mem_singleton]
  exact⟨fun e=>by subst e;exact⟨by omega,by omega,fun q=>by omega,fun q=>by omega,fun q=>by omega⟩,fun ⟨a,b,_⟩=>by omega⟩
theorem one_rise {N:List Int} {k:Int} (hk:0<k) (hN:N.Pairwise (· < ·)):(spreadL [0] N k).Pairwise (· < ·):=by
 unfold spreadL
 simp only[List.flatMap_cons,List.flatMap_nil,List.append_nil]
 rw[List.pairwise_map]
 exact hN.imp fun q=>by have:=Int.mul_lt_mul_of_pos_right q hk;omega
theorem one_gap {N:List Int} {k:Int} (hk:0<k):∀x∈spreadL [0] N k,∀y∈spreadL [0] N k,x<y->x+k<=y:=by
 intro x hx y hy hlt
 obtain⟨a,ha,rfl⟩:=mem_one.1 hx
 obtain⟨b,hb,rfl⟩:=mem_one.1 hy
 have:a<b:=Int.lt_of_mul_lt_mul_right hlt (Int.le_of_lt hk)
 have:=Int.mul_le_mul_of_nonneg_right (show a+1<=b by omega) (Int.le_of_lt hk)
 rw[Int.add_mul] at this
 omega
theorem hm_rise {H M:List Int} (rH:H.Pairwise (· < ·)) (rM:M.Pairwise (· < ·)) (bM:∀x∈M,0<=x/\x<=59):(spreadL (spreadL [0] H 3600) M 60).Pairwise (· < ·):=
 spread_rise 3600 (by omega) (one_rise (by omega) rH) rM (one_gap (by omega)) fun n hn=>by have:=bM n hn;omega
theorem hm_gap {H M:List Int} (bH:∀x∈H,0<=x/\x<=23) (bM:∀x∈M,0<=x/\x<=59):∀x∈spreadL (spreadL [0] H 3600) M 60,∀y∈spreadL (spreadL [0] H 3600) M 60,x<y->x+60<=y:=by
 intro x hx y hy hlt
 have:=(mem_hm bH bM).1 hx;have:=(mem_hm bH bM).1 hy
 omega
theorem hms_rise {H M S:List Int} (rH:H.Pairwise (· < ·)) (rM:M.Pairwise (· < ·)) (rS:S.Pairwise (· < ·)) (bH:∀x∈H,0<=x/\x<=23) (bM:∀x∈M,0<=x/\x<=59) (bS:∀x∈S,0<=x/\x<=59):(spreadL (spreadL (spreadL [0] H 3600) M 60) S 1).Pairwise (· < ·):=
 spread_rise 60 (by omega) (hm_rise rH rM bM) rS (hm_gap bH bM) fun n hn=>by have:=bS n hn;omega
theorem beg_rise {r:Ru} (start:Int) (h:mayR r=true):(begL r start).Pairwise (· < ·):=by
 have H:=timH_ok start h;have M:=timM_ok start h;have S:=timS_ok start h
 rcases unit_cases h with ⟨c,u⟩|⟨c,u⟩|⟨c,u⟩|⟨c,u⟩
 ·rw[(beg_4 c).1];simp
 ·rw[(beg_5 c).1];exact one_rise (by omega) H.rise
 ·rw[(beg_6 c).1];exact hm_rise H.rise M.rise M.bd
 ·rw[(beg_7 c).1];exact hms_rise H.rise M.rise S.rise H.bd M.bd S.bd
theorem wit_rise {r:Ru} (start:Int) (h:mayR r=true):(witL r start).Pairwise (· < ·):=by
 have H:=timH_ok start h;have M:=timM_ok start h;have S:=timS_ok start h
 rcases unit_cases h with ⟨c,u⟩|⟨c,u⟩|⟨c,u⟩|⟨c,u⟩
 ·rw[(beg_4 c).2];exact hms_rise H.rise M.rise S.rise H.bd M.bd S.bd
 ·rw[(beg_5 c).2];exact spread_rise 60 (by omega) (one_rise (by omega) M.rise) S.rise (one_gap (by omega)) fun n hn=>by have:=S.bd n hn;omega
 ·rw[(beg_6 c).2];exact one_rise (by omega) S.rise
 ·rw[(beg_7 c).2];simp
theorem beg_bd {r:Ru} {start s:Int} (h:mayR r=true) (hs:s∈begL r start):0<=s/\s<=86399:=⟨((mem_beg h).1 hs).1,((mem_beg h).1 hs).2.1⟩
theorem wit_bd {r:Ru} {start s:Int} (h:mayR r=true) (hs:s∈witL r start):0<=s/\s<=86399:=by
 have:=(mem_wit h).1 hs
 have:=unit_cases h
 omega
theorem beg_len {r:Ru} (start:Int) (h:mayR r=true):(begL r start).length<=86400:=by
 have:=rise_len (a:=0) (b:=86400) (beg_rise start h) fun x hx=>by have:=beg_bd h hx;omega
 omega
theorem wit_len {r:Ru} (start:Int) (h:mayR r=true):(witL r start).length<=86400:=by
 have:=rise_len (a:=0) (b:=86400) (wit_rise start h) fun x hx=>by have:=wit_bd h hx;omega
 omega
def sOf (r:Ru) (y:Int):Int:=y % 86400 / unitR r*unitR r
def mOf (r:Ru) (y:Int):Int:=y % unitR r
theorem parts {r:Ru} (h:mayR r=true) (y:Int):y / 86400*86400+sOf r y+mOf r y=y/\0<=sOf r y/\sOf r y<=86399/\sOf r y % unitR r=0/\0<=mOf r y/\mOf r y<unitR r:=by
 unfold sOf mOf
 rcases unit_cases h with ⟨c,u⟩|⟨c,u⟩|⟨c,u⟩|⟨c,u⟩<;>rw[u]<;>omega
theorem parts_of {r:Ru} (h:mayR r=true) {n s m:Int} (s0:0<=s) (s1:s<=86399) (s2:s % unitR r=0) (m0:0<=m) (m1:m<unitR r):(n*86400+s+m) / 86400=n/\sOf r (n*86400+s+m)=s/\mOf r (n*86400+s+m)=m:=by
 unfold sOf mOf
 rcases unit_cases h with ⟨c,u⟩|⟨c,u⟩|⟨c,u⟩|⟨c,u⟩<;>rw[u] at s2 m1 ⊢<;>omega
theorem perD_4 {r:Ru} (h:4<=r.freq) (n:Int):perD r n=n:=by unfold perD;rw[if_neg (by omega),if_neg (by omega),if_neg (by omega)]
theorem per_split {r:Ru} (h:mayR r=true) (y:Int):per r y=per r (y / 86400*86400)+sOf r y / unitR r:=by
 have f:=(freq_may h).1
 unfold sOf per
 rcases unit_cases h with ⟨c,u⟩|⟨c,u⟩|⟨c,u⟩|⟨c,u⟩<;>rw[u]
 ·rw[if_neg (by omega),if_neg (by omega),if_neg (by omega),if_neg (by omega),if_neg (by omega),if_neg (by omega),show y / 86400*86400 / 86400=y / 86400 by omega]
  omega
 ·rw[if_pos c,if_pos c];omega
 ·rw[if_neg (by omega),if_pos c,if_neg (by omega),if_pos c];omega
 ·rw[if_neg (by omega),if_neg (by omega),if_pos c,if_neg (by omega),if_neg (by omega),if_pos c];omega
theorem own_parts {r:Ru} (h:mayR r=true) (y:Int):(5<=r.freq->ownH (sOf r y)=ownH y)/\(6<=r.freq->ownM (sOf r y)=ownM y)/\(7<=r.freq->ownS (sOf r y)=ownS y)/\(r.freq<=4->ownH (mOf r y)=ownH y)/\(r.freq<=5->ownM (mOf r y)=ownM y)/\(r.freq<=6->ownS (mOf r y)=ownS y):=by
 unfold sOf mOf ownH ownM ownS
 rcases unit_cases h with ⟨c,u⟩|⟨c,u⟩|⟨c,u⟩|⟨c,u⟩<;>rw[u]<;>refine⟨fun q => ?_,fun q => ?_,fun q => ?_,fun q => ?_,fun q => ?_,fun q => ?_⟩<;>omega
theorem raw_parts {r:Ru} {start:Int} (h:mayR r=true) (hs:St.may start=true) (y:Int):
  rawB r start y=true↔fitsB r start (y / 86400)=true/\sOf r y∈begL r start/\mOf r y∈witL r start/\(per r (y / 86400*86400)-per r start+sOf r y / unitR r) % r.itv=0:=by
 obtain⟨p0,p1,p2,p3,p4,p5⟩:=parts h y
 obtain⟨o1,o2,o3,o4,o5,o6⟩:=own_parts h y
 have f:=(freq_may h).1
 rw[mem_beg h,mem_wit h]
 have pe:per r y-per r start=per r (y / 86400*86400)-per r start+sOf r y / unitR r:=by rw[per_split h y];omega
 rw[<-pe]
 unfold rawB inPer
 simp only[Bool.and_eq_true,decide_eq_true_eq,h,hs,true_and]
 constructor
 ·rintro⟨⟨⟨⟨⟨a1,a2⟩,a3⟩,a4⟩,a5⟩,a6⟩
  exact⟨a3,⟨p1,p2,p3,fun q=>by rw[o1 q];exact a4,fun q=>by rw[o2 q];exact a5,fun q=>by rw[o3 q];exact a6⟩,⟨p4,p5,fun q=>by rw[o4 q];exact a4,fun q=>by rw[o5 q];exact a5,fun q=>by rw[o6 q];exact a6⟩,a2⟩
 ·rintro⟨a3,⟨-,-,-,b1,b2,b3⟩,⟨-,-,b4,b5,b6⟩,a2⟩
  have my:St.may y=true:=by
   have:=isday_may (s:=y % 86400) (fits_day a3) (by omega) (by omega)
   rwa [show y / 86400*86400+y % 86400=y by omega] at this
  refine⟨⟨⟨⟨⟨my,a2⟩,a3⟩,?_⟩,?_⟩,?_⟩
  ·by_cases q:r.freq<=4
   ·rw[<-o4 q];exact b4 q
   ·rw[<-o1 (by omega)];exact b1 (by omega)
  ·by_cases q:r.freq<=5
   ·rw[<-o5 q];exact b5 q
   ·rw[<-o2 (by omega)];exact b2 (by omega)
  ·by_cases q:r.freq<=6
   ·rw[<-o6 q];exact b6 q
   ·rw[<-o3 (by omega)];exact b3 (by omega)
theorem per_same {r:Ru} (h:mayR r=true) (h4:4<=r.freq) {x y:Int}:per r x=per r y↔x / 86400=y / 86400/\sOf r x=sOf r y:=by
 have f:=(freq_may h).1
 unfold sOf per
 rcases unit_cases h with ⟨c,u⟩|⟨c,u⟩|⟨c,u⟩|⟨c,u⟩<;>rw[u]
 ·rw[if_neg (by omega),if_neg (by omega),if_neg (by omega),if_neg (by omega),if_neg (by omega),if_neg (by omega),perD_4 h4,perD_4 h4]
  omega
 ·rw[if_pos c,if_pos c];omega
 ·rw[if_neg (by omega),if_pos c,if_neg (by omega),if_pos c];omega
 ·rw[if_neg (by omega),if_neg (by omega),if_pos c,if_neg (by omega),if_neg (by omega),if_pos c];omega
theorem all_wit {r:Ru} {start y:Int} (h:mayR r=true) (hs:St.may start=true) (h4:4<=r.freq) (hr:rawB r start y=true):
  allR r start y=(witL r start).map fun m=>(y / 86400*86400+sOf r y)+m:=by
 obtain⟨f1,f2,f3,f4⟩:=(raw_parts h hs y).1 hr
 have b1:=(mem_beg h).1 f2
 refine rise_ext (all_rise start y h) ?_ fun x => ?_
 ·rw[List.pairwise_map];exact(wit_rise start h).imp fun q=>by omega
 ·rw[mem_allR (raw_may hr),List.mem_map,per_same h h4]
  constructor
  ·rintro⟨rx,d,s⟩
   exact⟨mOf r x,((raw_parts h hs x).1 rx).2.2.1,by have:=(parts h x).1;rw[d,s] at this;exact this⟩
  ·rintro⟨m,hm,rfl⟩
   have b2:=(mem_wit h).1 hm;obtain⟨e1,e2,e3⟩:=parts_of h (n:=y / 86400) b1.1 b1.2.1 b1.2.2.1 b2.1 b2.2.1;refine⟨(raw_parts h hs _).2 ?_,e1,e2⟩;rw[e1,e2,e3];exact⟨f1,f2,hm,f4⟩
theorem place_wit {r:Ru} {start y:Int} (h:mayR r=true) (hs:St.may start=true) (h4:4<=r.freq) (hr:rawB r start y=true):
  Mb.placeB r start y=(decide (idx (witL r start) (mOf r y)+1∈r.pos)||decide (idx (witL r start) (mOf r y)-(witL r start).length∈r.pos)):=by
 have hy:=(inPer_may (raw_may hr)).2.2.1
 have e:setR r start y 100000=(allR r start y,0):=by
  have ok:setOk r start y 100000=true:=by unfold setOk;rw[h,hs,hy];rfl
  refine setR_3 ok (raw_may hr) ?_;rw[<-all_len2,all_wit h hs h4 hr,List.length_map]
  have:=wit_len start h
  omega
 unfold Mb.placeB
 rw[e,all_wit h hs h4 hr]
 have ye:y=(y / 86400*86400+sOf r y)+mOf r y:=by have:=(parts h y).1;omega
 have ei:idx ((witL r start).map fun m=>(y / 86400*86400+sOf r y)+m) y=idx (witL r start) (mOf r y):=by
  conv=>lhs;arg 2;rw[ye]
  exact idx_map _ _ _
 simp only[ei,List.length_map,decide_true,Bool.true_and]
def reachL (r:Ru) (start:Int) (T:List Int):List Int:=T.filter fun s=>decide ((per r (start / 86400*86400)-per r start+s / unitR r) % (Int.gcd r.itv (86400 / unitR r):Int)=0)
def unitC (r:Ru) (start n:Int) (W:List Int) (s:Int):List Int:=if (per r (n*86400)-per r start+s / unitR r) % r.itv=0 then W.map fun m=>n*86400+s+m else []
def dayC (r:Ru) (start n:Int):List Int:=if fitsB r start n=true then (reachL r start (begL r start)).flatMap (unitC r start n (pickL r.pos (witL r start))) else []
theorem per_days {r:Ru} (h:mayR r=true) (n k:Int):(per r (n*86400)-per r (k*86400)) % (Int.gcd r.itv (86400 / unitR r):Int)=0:=by
 have g2:(Int.gcd r.itv (86400 / unitR r):Int) ∣ 86400 / unitR r:=Int.gcd_dvd_right ..
 rcases unit_cases h with ⟨c,u⟩|⟨c,u⟩|⟨c,u⟩|⟨c,u⟩
 ·have:(Int.gcd r.itv (86400 / unitR r):Int)=1:=by rw[u];show ((Int.gcd r.itv 1:Nat):Int)=1;rw[Int.gcd_one];rfl
  rw[this];omega
 all_goals
  have e:per r (n*86400)-per r (k*86400)=(86400 / unitR r)*(n-k):=by
   unfold per;rw[u]
   first
    | (rw[if_pos c,if_pos c];omega)
    | (rw[if_neg (by omega),if_pos c,if_neg (by omega),if_pos c];omega)
    | (rw[if_neg (by omega),if_neg (by omega),if_pos c,if_neg (by omega),if_neg (by omega),if_pos c];omega)
  rw[e];exact Int.emod_eq_zero_of_dvd (Int.dvd_mul_of_dvd_left g2)
theorem reach_of {r:Ru} {start n s:Int} (h:mayR r=true) (hs:s∈begL r start) (hc:(per r (n*86400)-per r start+s / unitR r) % r.itv=0):s∈reachL r start (begL r start):=by
 unfold reachL
 rw[List.mem_filter]
 refine⟨hs,decide_eq_true ?_⟩
 have g1:(Int.gcd r.itv (86400 / unitR r):Int) ∣ r.itv:=Int.gcd_dvd_left ..
 have a:=Int.dvd_trans g1 (Int.dvd_of_emod_eq_zero hc)
 have b:=Int.dvd_of_emod_eq_zero (per_days h n (start / 86400))
 have d:=Int.dvd_sub a b
 refine Int.emod_eq_zero_of_dvd ?_
 rwa [show per r (n*86400)-per r start+s / unitR r-(per r (n*86400)-per r (start / 86400*86400))=per r (start / 86400*86400)-per r start+s / unitR r by omega] at d
theorem day_eq {r:Ru} {start:Int} (h:mayR r=true) (hs:St.may start=true) (h4:4<=r.freq\/r.pos=[]) (n:Int):dayC r start n=selL (inA r start) (n*86400) ((n+1)*86400):=by
 have u0:0<unitR r:=by have:=unit_cases h;omega
 refine sel_eq ?_ fun x => ?_
 ·unfold dayC
  split
  ·refine rise_flat ((beg_rise start h).filter _) (fun s _ => ?_) ?_
   ·unfold unitC
    split
    ·rw[List.pairwise_map];exact(pick_rise (wit_rise start h)).imp fun q=>by omega
    ·simp
   ·intro s hs' t ht hlt a ha b hb
    have s1:=(mem_beg h).1 (List.mem_filter.1 hs').1;have t1:=(mem_beg h).1 (List.mem_filter.1 ht).1
    have gap:s+unitR r<=t:=by
     rcases unit_cases h with ⟨c,u⟩|⟨c,u⟩|⟨c,u⟩|⟨c,u⟩<;>rw[u] at s1 t1 ⊢<;>omega
    unfold unitC at ha hb
    split at ha<;>split at hb<;>try simp at ha hb
    obtain⟨m,hm,rfl⟩:=ha;obtain⟨k,hk,rfl⟩:=hb
    have:=(mem_wit h).1 (pick_sub hm);have:=(mem_wit h).1 (pick_sub hk)
    omega
  ·simp
 ·unfold dayC inA
  constructor
  ·intro hx
   split at hx
   ·rename_i hf
    obtain⟨s,hs',hx⟩:=List.mem_flatMap.1 hx;unfold unitC at hx
    split at hx
    ·rename_i hc
     obtain⟨m,hm,rfl⟩:=List.mem_map.1 hx;have sb:=(List.mem_filter.1 hs').1;have s1:=(mem_beg h).1 sb;obtain⟨mw,mp⟩:=mem_pick.1 hm;have m1:=(mem_wit h).1 mw;obtain⟨e1,e2,e3⟩:=parts_of h (n:=n) s1.1 s1.2.1 s1.2.2.1 m1.1 m1.2.1;have hr:rawB r start (n*86400+s+m)=true:=(raw_parts h hs _).2 (by rw[e1,e2,e3];exact⟨hf,sb,mw,hc⟩)
     have mb:=wit_bd h mw;refine⟨by omega,by omega,?_⟩;rw[hr,Bool.true_and]
     rcases mp with q|q
     ·rw[q];rfl
     ·rcases h4 with h4|h4
      ·rw[place_wit h hs h4 hr,e3]
       rcases q with q|q
       ·rw[decide_eq_true q];simp
       ·rw[decide_eq_true q];simp
      ·rw[h4];rfl
    ·cases hx
   ·cases hx
  ·rintro⟨a,b,hx⟩
   simp only[Bool.and_eq_true,Bool.or_eq_true,decide_eq_true_eq] at hx;obtain⟨hr,hp⟩:=hx;have d:x / 86400=n:=by omega
   obtain⟨f1,f2,f3,f4⟩:=(raw_parts h hs x).1 hr;rw[d] at f1 f4;rw[if_pos f1,List.mem_flatMap];refine⟨sOf r x,reach_of h f2 f4,?_⟩;unfold unitC;rw[if_pos f4,List.mem_map];refine⟨mOf r x,mem_pick.2 ⟨f3,?_⟩,by have:=(parts h x).1;rw[d] at this;exact this⟩
   rcases hp with q|q
   ·exact .inl q
   ·rcases h4 with h4|h4
    ·rw[place_wit h hs h4 hr] at q
     simp only[Bool.or_eq_true,decide_eq_true_eq] at q;exact .inr q
    ·exact .inl h4
end Go.Proofs.YtddnnljfgfcplaaGreatDoor.Ex
namespace Go.Proofs.YtddnnljfgfcplaaGreatDoor.Ex
open Cv St Ru Dd Mb
theorem take_at {l:List Int} {t:Nat} (h:t<l.length):l.take (t+1)=l.take t++[iat l t]:=by
 rw[iat_lt h,List.take_succ_eq_append_getElem h]
theorem tmod_z (a b:Int):((a.tmod b:Int)==0)=decide (a % b=0):=by
 rw[Bool.eq_iff_iff,beq_iff_eq,decide_eq_true_eq]
 constructor
 ·intro h;exact Int.emod_eq_zero_of_dvd (Int.dvd_of_tmod_eq_zero h)
 ·intro h;exact Int.tmod_eq_zero_of_dvd (Int.dvd_of_emod_eq_zero h)
theorem perD_3 {r:Ru} (h:mayR r=true) (h3:r.freq<=4) (y:Int):per r y=perD r (y / 86400):=by
 unfold per;rw[if_neg (by omega),if_neg (by omega),if_neg (by omega)]
theorem set_same {r:Ru} {start x t:Int} (h:mayR r=true) (h3:r.freq<=4) (hx:St.may x=true) (ht:St.may t=true) (e:per r x=per r t) (m:Int):setR r start x m=setR r start t m:=by
 have ip:inPer r start x=inPer r start t:=by unfold inPer;rw[hx,ht,e]
 have so:setOk r start x m=setOk r start t m:=by unfold setOk;rw[hx,ht]
 have ed:perD r (x / 86400)=perD r (t / 86400):=by rw[<-perD_3 h h3,<-perD_3 h h3];exact e
 have hd:dysR r start x=dysR r start t:=rise_ext (dys_rise _ _ _) (dys_rise _ _ _) fun n=>by rw[mem_dys h hx,mem_dys h ht,ed]
 have hh:tmsR r start x=tmsR r start t:=by
  unfold tmsR setH setM setS;rw[if_neg (by omega),if_neg (by omega),if_neg (by omega),if_neg (by omega),if_neg (by omega),if_neg (by omega)]
 have ha:allR r start x=allR r start t:=by unfold allR;rw[hd,hh]
 unfold setR
 rw[so,ip,hd,hh,ha]
theorem day_may {n:Int} (h:isday n=true):St.may (n*86400)=true:=by
 have:=of_decide_eq_true h
 exact decide_eq_true (by omega)
theorem may_day {t:Int} (h:St.may t=true):St.may (t / 86400*86400)=true:=by
 have:=of_decide_eq_true h
 exact decide_eq_true (by omega)
theorem days_eq {r:Ru} {n:Int} (h:mayR r=true) (hn:isday n=true):daysR r (n*86400)=(max (pfirst r n) (-719162),min (plast r n) 2932896):=by
 unfold daysR
 rw[if_pos (by rw[h,day_may hn];rfl),show n*86400 / 86400=n by omega]
theorem days_in {r:Ru} {n:Int} (h:mayR r=true) (hn:isday n=true):(daysR r (n*86400)).1<=n/\n<=(daysR r (n*86400)).2/\(daysR r (n*86400)).2<=2932896/\-719162<=(daysR r (n*86400)).1:=by
 have a:=p_in r n
 have b:=of_decide_eq_true hn
 rw[days_eq h hn]
 simp only
 omega
theorem days_next {r:Ru} {n:Int} (h:mayR r=true) (hn:isday n=true) (hb:isday ((daysR r (n*86400)).2+1)=true):(daysR r (((daysR r (n*86400)).2+1)*86400)).1=(daysR r (n*86400)).2+1:=by
 have a:=p_in r n
 have b:=of_decide_eq_true hn
 have c:=of_decide_eq_true hb
 rw[days_eq h hb]
 have d:(daysR r (n*86400)).2=plast r n:=by
  rw[days_eq h hn] at c ⊢;simp only at c ⊢
  omega
 rw[d] at c ⊢
 simp only
 have e:pfirst r (plast r n+1)=plast r n+1:=by
  have f:=p_in r (plast r n+1)
  by_cases g:pfirst r (plast r n+1)<=plast r n
  ·have k:=p_iff.2 (show pfirst r (plast r n+1)<=plast r n/\plast r n<=plast r (plast r n+1) from ⟨g,by omega⟩)
   rw[p_next] at k;have l:=p_iff.2 (show pfirst r n<=plast r n/\plast r n<=plast r n from ⟨by omega,by omega⟩);omega
  ·omega
 rw[e]
 omega
theorem days_same {r:Ru} {n m:Int} (h:mayR r=true) (hn:isday n=true) (hm:isday m=true):(perD r m=perD r n)↔((daysR r (n*86400)).1<=m/\m<=(daysR r (n*86400)).2):=by
 have b:=of_decide_eq_true hm
 rw[days_eq h hn,p_iff]
 simp only
 omega
theorem per_eq {r:Ru} {start n:Int} (h:mayR r=true) (hs:St.may start=true) (h3:r.freq<=4) (hp:r.pos≠[]) (hn:isday n=true):
  pickL r.pos (setR r start (n*86400) 100000).1=selL (inA r start) ((daysR r (n*86400)).1*86400) (((daysR r (n*86400)).2+1)*86400):=by
 have mn:=day_may hn
 refine sel_eq (pick_rise ones_rise) fun x => ?_
 rw[mem_pick]
 unfold inA
 simp only[Bool.and_eq_true,Bool.or_eq_true,decide_eq_true_eq,hp,false_or]
 have core:rawB r start x=true->per r x=per r (n*86400)->(Mb.placeB r start x=true↔(setR r start (n*86400) 100000).2=0/\(idx (setR r start (n*86400) 100000).1 x+1∈r.pos\/idx (setR r start (n*86400) 100000).1 x-(setR r start (n*86400) 100000).1.length∈r.pos)):=fun hr e=>by
  unfold Mb.placeB;rw[set_same h h3 (inPer_may (raw_may hr)).2.2.1 mn e];simp only[Bool.and_eq_true,Bool.or_eq_true,decide_eq_true_eq]
 constructor
 ·rintro⟨hx,hq⟩
  have z:(setR r start (n*86400) 100000).2=0:=by
   by_cases c:(setR r start (n*86400) 100000).2=0
   ·exact c
   ·rw[setR_no c] at hx;cases hx
  obtain⟨-,-,-,k⟩:=setR_ok z
  rcases k with ⟨-,k⟩|⟨ki,k⟩
  ·rw[k] at hx;cases hx
  ·have hx2:=hx
   rw[k,mem_allR ki] at hx2;obtain⟨hr,e⟩:=hx2;have dx:isday (x / 86400)=true:=may_isday (inPer_may (raw_may hr)).2.2.1
   have e2:=(days_same h hn dx).1 (by rw[<-perD_3 h h3,e,perD_3 h h3,show n*86400 / 86400=n by omega]);exact⟨by omega,by omega,hr,(core hr e).2 ⟨z,hq⟩⟩
 ·rintro⟨a,b,hr,hq⟩
  have dx:isday (x / 86400)=true:=may_isday (inPer_may (raw_may hr)).2.2.1
  have e:per r x=per r (n*86400):=by
   rw[perD_3 h h3,perD_3 h h3,show n*86400 / 86400=n by omega];exact(days_same h hn dx).2 ⟨by omega,by omega⟩
  obtain⟨z,hq⟩:=(core hr e).1 hq;refine⟨?_,hq⟩;obtain⟨-,-,-,k⟩:=setR_ok z
  have ip:inPer r start (n*86400)=true:=by
   have:=raw_may hr
   unfold inPer at this ⊢;rw[mn,<-e];simp only[Bool.and_eq_true] at this ⊢;exact⟨⟨this.1.1,trivial⟩,this.2⟩
  rcases k with ⟨k,-⟩|⟨-,k⟩
  ·rw[ip] at k;cases k
  ·rw[k];exact(mem_allR ip).2 ⟨hr,e⟩
def daysL (r:Ru) (start first last:Int):List Int:=selL (inA r start) (first*86400) ((last+1)*86400)
def persL (r:Ru) (start first last:Int):List Int:=if first<=last then selL (inA r start) ((daysR r (first*86400)).1*86400) (((daysR r (last*86400)).2+1)*86400) else []
def arndL (r:Ru) (start from_ hi:Int):List Int:=if r.freq<=3/\r.pos≠[] then persL r start (from_ / 86400) ((hi-1) / 86400) else daysL r start (from_ / 86400) ((hi-1) / 86400)
def hiR (r:Ru) (end_:Int):Int:=if r.ends=true then min end_ (r.til+1) else end_
def cutL (c:Int) (l:List Int):List Int:=if c=0 then l else l.take c.toNat
def momL (r:Ru) (start from_ end_:Int):List Int:=cutL r.cnt (selL (hasM r start) from_ (hiR r end_))
theorem arnd_rise (r:Ru) (start from_ hi:Int):(arndL r start from_ hi).Pairwise (· < ·):=by
 unfold arndL persL daysL
 split
 ·split
  ·exact sel_rise _ _ _
  ·simp
 ·exact sel_rise _ _ _
theorem has_sel {r:Ru} {start from_ end_:Int} (hf:start<=from_):selL (inA r start) from_ (hiR r end_)=selL (hasM r start) from_ (hiR r end_):=
 sel_congr fun x a b=>by
  have e:(!r.ends||decide (x<=r.til))=true:=by
   unfold hiR at b;cases h:r.ends
   ·rfl
   ·rw[if_pos h] at b
    exact decide_eq_true (by omega)
  rw[has_inA,e,decide_eq_true (show start<=x by omega)];rfl
theorem arnd_win {r:Ru} {start from_ hi:Int} (h:mayR r=true) (hf:St.may from_=true) (hh:hi<=253402300800):
  (arndL r start from_ hi).filter (fun x=>decide (from_<=x/\x<hi))=selL (inA r start) from_ hi:=by
 have a:=of_decide_eq_true hf
 unfold arndL
 split
 ·unfold persL
  split
  ·rename_i c
   have d1:isday (from_ / 86400)=true:=may_isday hf
   have d2:isday ((hi-1) / 86400)=true:=decide_eq_true (by omega)
   have:=days_in h d1;have:=days_in h d2
   exact sel_filter (.inr ⟨by omega,by omega⟩)
  ·rw[sel_nil (by omega)];rfl
 ·unfold daysL
  exact sel_filter (.inr ⟨by omega,by omega⟩)
def mayE (r:Ru) (start end_ most:Int):Bool:=mayR r&&St.may start&&St.may end_&&decide (end_-start<=316224000)&&decide (1<=most/\most<=4096)
def listR (r:Ru) (start end_ most:Int):List Int×Int:=
 if mayE r start end_ most=false then ([],1) else if most<(momL r start start end_).length then ([],10) else (momL r start start end_,0)
end Go.Proofs.YtddnnljfgfcplaaGreatDoor.Ex
namespace Go.Proofs.YtddnnljfgfcplaaGreatDoor.Ex
open Cv St Ru Dd Mb
end Go.Proofs.YtddnnljfgfcplaaGreatDoor.Ex
namespace Go.Proofs.YtddnnljfgfcplaaGreatDoor.Ex
open Cv St Ru Dd Mb
def cntR (r:Ru) (c:Int):Ru:={ r with cnt:=c,ends:=false,til:=0 }
end Go.Proofs.YtddnnljfgfcplaaGreatDoor.Ex
namespace Go.Proofs.YtddnnljfgfcplaaGreatDoor.Ex
open Cv St Ru Dd Mb
end Go.Proofs.YtddnnljfgfcplaaGreatDoor.Ex
namespace Go.Proofs.YtddnnljfgfcplaaGreatDoor.Ex
open Cv St Ru Dd Mb
end Go.Proofs.YtddnnljfgfcplaaGreatDoor.Ex
namespace Go.Proofs.YtddnnljfgfcplaaGreatDoor.Ex
open Cv St Ru Dd Mb
end Go.Proofs.YtddnnljfgfcplaaGreatDoor.Ex
