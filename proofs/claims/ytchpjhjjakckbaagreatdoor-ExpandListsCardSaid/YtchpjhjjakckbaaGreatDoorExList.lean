/- ExpandLists answers true. -/
import Derived.Test.YtchpjhjjakckbaaGreatDoorRuBx
import Derived.Test.YtchpjhjjakckbaaGreatDoorExR4
import Derived.Test.YtchpjhjjakckbaaGreatDoorExN
import Derived.Test.YtchpjhjjakckbaaGreatDoorRuCopyO
import Derived.Test.YtchpjhjjakckbaaGreatDoorRpU
set_option linter.unusedVariables false
namespace Go.Proofs.YtchpjhjjakckbaaGreatDoor.Ex
open Go.RowKit Cv St Ru Dd Mb
theorem ints_hid (w:World) (A B:Option Addr) (n c m d:Nat) (l k:List Int) (hl:IsAt w A n l) (hk:IsAt w B m k) (h1:n≤9223372036854775807) (h2:m≤9223372036854775807) (p:Bool) (hp:decide (l=k)=p):
  Calls Tryz.prog 21 #[.slice A n c,.slice B m d] w fun e w'=>e= .returned (.bool p)∧Below w.heap.size w w':=hp ▸ ints_any w A B n c m d l k hl hk h1 h2
theorem rule_hid (w:World) (S T:RS) (r:Ru) (h:RuAt w S r) (g:RuAt w T r):
  Calls Tryz.prog 44 #[S.val r,T.val r] w fun e w'=>e= .returned (.bool true)∧Below w.heap.size w w':=rrule_is w S T r r true h g (decide_eq_true rfl)
theorem list_len {r:Ru} {start end_ most:Int} {l:List Int} {x:Int} (hp:listR r start end_ most=(l,x)):(l.length:Int)≤4096:=by
 unfold listR at hp
 split at hp
 ·rw[←(Prod.mk.inj hp).1];simp
 ·rename_i c
  split at hp
  ·rw[←(Prod.mk.inj hp).1];simp
  ·rename_i d
   rw[←(Prod.mk.inj hp).1]
   have c:mayE r start end_ most=true:=by simpa using c
   unfold mayE at c
   simp only[Bool.and_eq_true,decide_eq_true_eq] at c
   omega
set_option maxRecDepth 100000 in
set_option maxHeartbeats 16000000 in
theorem lists_walk (w:World) (T:Tabs w) (S:RS) (r:Ru) (start end_ most after:Int) (h:RuIn w S r) (la:-9223372036854775808≤after):
  Calls Tryz.prog 11 #[S.val r,.int .i64 start,.int .i64 end_,.int .i64 most,.int .i64 after] w fun e w'=>e= .returned (.bool true)∧Below w.heap.size w w':=by
 have TT:=Lib.hid T
 have HK:=Lib.hid h
 have FEW:=Lib.hid (fun (e:fewB S=true)=>h.few e)
 obtain⟨⟨l,x⟩,hp⟩:∃p,listR r start end_ most=p:=⟨_,rfl⟩
 obtain⟨⟨nx,ny⟩,hq⟩:∃p,nextR r start after end_=p:=⟨_,rfl⟩
 have HP:=Lib.hid hp
 have HQ:=Lib.hid hq
 have LE:=Lib.hid (list_len hp)
 have AB:=Lib.hid la
 clear hp hq la
 clear h T
 obtain⟨ra6,rn6,rc6,ra7,rn7,rc7,ra8,rn8,rc8,ra9,rn9,rc9,ra10,rn10,rc10,ra11,rn11,rc11,ra12,rn12,rc12,ra13,rn13,rc13,ra14,rn14,rc14⟩:=S
 obtain⟨rfreq,ritv,rcnt,rtil,rwkst,rends,rmon,rweek,ryday,rmday,rday,rhour,rminu,rsec,rpos⟩:=r
 show Calls Tryz.prog 11 #[.agg #[.int .i64 rfreq,.int .i64 ritv,.int .i64 rcnt,.int .i64 rtil,.int .i64 rwkst,.bool rends,.slice ra6 rn6 rc6,.slice ra7 rn7 rc7,.slice ra8 rn8 rc8,.slice ra9 rn9 rc9,.slice ra10 rn10 rc10,.slice ra11 rn11 rc11,.slice ra12 rn12 rc12,.slice ra13 rn13 rc13,.slice ra14 rn14 rc14],.int .i64 start,.int .i64 end_,.int .i64 most,.int .i64 after] w _
 go_enter Tryz.func11,Tryz.ntmps11
 go_upto_region 1 with fail
 obtain⟨B0,Xr0⟩:=box_new w #[.int .i64 rfreq,.int .i64 ritv,.int .i64 rcnt,.int .i64 rtil,.int .i64 rwkst,.bool rends,.slice ra6 rn6 rc6,.slice ra7 rn7 rc7,.slice ra8 rn8 rc8,.slice ra9 rn9 rc9,.slice ra10 rn10 rc10,.slice ra11 rn11 rc11,.slice ra12 rn12 rc12,.slice ra13 rn13 rc13,.slice ra14 rn14 rc14] 25
 generalize w.alloc _=w0 at *
 go_wp2_with fail
 refine(first8_is _ (TT.out.on B0)).mono ?_
 rintro e w1 ⟨rfl,b1⟩
 have B1:=B0.trans (b1.mono B0.size)
 have Xr1:=Xr0.below b1
 clear B0 Xr0
 clear b1
 obtain⟨rz0,rz1,rz2,rz3,rz4,rz5,rz6,rz7,rz8,rz9,rz10,rz11,rz12,rz13,rz14⟩:=cells15 Xr1
 go_wp2_with fail
 refine(light8_is _ ⟨ra6,rn6,rc6,ra7,rn7,rc7,ra8,rn8,rc8,ra9,rn9,rc9,ra10,rn10,rc10,ra11,rn11,rc11,ra12,rn12,rc12,ra13,rn13,rc13,ra14,rn14,rc14⟩ ⟨rfreq,ritv,rcnt,rtil,rwkst,rends,rmon,rweek,ryday,rmday,rday,rhour,rminu,rsec,rpos⟩ start end_ (in_below HK.out B1)).mono ?_
 rintro e w2 ⟨⟨lb,rfl,HB⟩,b2⟩
 clear rz0 rz1 rz2 rz3 rz4 rz5 rz6 rz7 rz8 rz9 rz10 rz11 rz12 rz13 rz14
 have B2:=B1.trans (b2.mono B1.size)
 have Xr2:=Xr1.below b2
 clear B1 Xr1
 clear b2
 have LB:=Lib.hid HB
 clear HB
 cases lb
 ·go_wp2_with fail
  refine(first8_is _ (TT.out.on B2)).mono ?_
  rintro e w3 ⟨rfl,b3⟩
  have B3:=B2.trans (b3.mono B2.size)
  have Xr3:=Xr2.below b3
  clear B2 Xr2
  clear b3
  go_wp2
  go_ret
  exact⟨rfl,B3⟩
 ·have X1:=Lib.hid (LB.out rfl)
  clear LB
  have RA:=Lib.hid (FEW.out X1.out)
  as_aux_lemma=>
   obtain⟨rz0,rz1,rz2,rz3,rz4,rz5,rz6,rz7,rz8,rz9,rz10,rz11,rz12,rz13,rz14⟩:=cells15 Xr2
   go_wp2_with fail
   refine(copyR_own _ ⟨ra6,rn6,rc6,ra7,rn7,rc7,ra8,rn8,rc8,ra9,rn9,rc9,ra10,rn10,rc10,ra11,rn11,rc11,ra12,rn12,rc12,ra13,rn13,rc13,ra14,rn14,rc14⟩ ⟨rfreq,ritv,rcnt,rtil,rwkst,rends,rmon,rweek,ryday,rmday,rday,rhour,rminu,rsec,rpos⟩ (in_below HK.out B2) X1.out).mono ?_
   rintro e w3 ⟨⟨ca6,cn6,cc6,ca7,cn7,cc7,ca8,cn8,cc8,ca9,cn9,cc9,ca10,cn10,cc10,ca11,cn11,cc11,ca12,cn12,cc12,ca13,cn13,cc13,ca14,cn14,cc14⟩,he,hS,b3,ow⟩
   replace he:e= .returned (.agg #[.int .i64 rfreq,.int .i64 ritv,.int .i64 rcnt,.int .i64 rtil,.int .i64 rwkst,.bool rends,.slice ca6 cn6 cc6,.slice ca7 cn7 cc7,.slice ca8 cn8 cc8,.slice ca9 cn9 cc9,.slice ca10 cn10 cc10,.slice ca11 cn11 cc11,.slice ca12 cn12 cc12,.slice ca13 cn13 cc13,.slice ca14 cn14 cc14]):=he
   subst he
   clear rz0 rz1 rz2 rz3 rz4 rz5 rz6 rz7 rz8 rz9 rz10 rz11 rz12 rz13 rz14
   have B3:=B2.trans (b3.mono B2.size)
   have Xr3:=Xr2.below b3
   clear B2 Xr2
   clear b3
   have hQ:RuAt w3 ⟨ca6,cn6,cc6,ca7,cn7,cc7,ca8,cn8,cc8,ca9,cn9,cc9,ca10,cn10,cc10,ca11,cn11,cc11,ca12,cn12,cc12,ca13,cn13,cc13,ca14,cn14,cc14⟩ ⟨rfreq,ritv,rcnt,rtil,rwkst,rends,rmon,rweek,ryday,rmday,rday,rhour,rminu,rsec,rpos⟩:=hS
   clear hS
   go_upto_region 6 with fail
   obtain⟨b4,Xc4⟩:=box_new w3 #[.int .i64 rfreq,.int .i64 ritv,.int .i64 rcnt,.int .i64 rtil,.int .i64 rwkst,.bool rends,.slice ca6 cn6 cc6,.slice ca7 cn7 cc7,.slice ca8 cn8 cc8,.slice ca9 cn9 cc9,.slice ca10 cn10 cc10,.slice ca11 cn11 cc11,.slice ca12 cn12 cc12,.slice ca13 cn13 cc13,.slice ca14 cn14 cc14] 25
   have Rc4:=hQ.below b4
   clear hQ
   generalize w3.alloc (.cells #[.int .i64 rfreq,.int .i64 ritv,.int .i64 rcnt,.int .i64 rtil,.int .i64 rwkst,.bool rends,.slice ca6 cn6 cc6,.slice ca7 cn7 cc7,.slice ca8 cn8 cc8,.slice ca9 cn9 cc9,.slice ca10 cn10 cc10,.slice ca11 cn11 cc11,.slice ca12 cn12 cc12,.slice ca13 cn13 cc13,.slice ca14 cn14 cc14] 25)=w4 at *
   have B4:=B3.trans (b4.mono B3.size)
   have Xr4:=Xr3.below b4
   clear B3 Xr3
   clear b4
   obtain⟨cz0,cz1,cz2,cz3,cz4,cz5,cz6,cz7,cz8,cz9,cz10,cz11,cz12,cz13,cz14⟩:=cells15 Xc4
   go_wp2_with fail
   refine(list_is _ ⟨ca6,cn6,cc6,ca7,cn7,cc7,ca8,cn8,cc8,ca9,cn9,cc9,ca10,cn10,cc10,ca11,cn11,cc11,ca12,cn12,cc12,ca13,cn13,cc13,ca14,cn14,cc14⟩ ⟨rfreq,ritv,rcnt,rtil,rwkst,rends,rmon,rweek,ryday,rmday,rday,rhour,rminu,rsec,rpos⟩ (start) (end_) (most) (l,x) (Rc4) HP.out).mono ?_
   rintro e w5 ⟨A1,c1,he,i5,b5⟩
   replace he:e= .returned (.tuple #[.slice A1 (l:List Int).length c1,.int .i64 x]):=he
   replace i5:IsAt w5 A1 (l:List Int).length l:=i5
   subst he
   clear cz0 cz1 cz2 cz3 cz4 cz5 cz6 cz7 cz8 cz9 cz10 cz11 cz12 cz13 cz14
   have B5:=B4.trans (b5.mono B4.size)
   have Xr5:=Xr4.below b5
   have Xc5:=Xc4.below b5
   have Rc5:=Rc4.below b5
   clear B4 Xr4 Xc4 Rc4
   clear b5
   have K1:=Lib.hid i5
   clear i5
   as_aux_lemma=>
    obtain⟨rz0,rz1,rz2,rz3,rz4,rz5,rz6,rz7,rz8,rz9,rz10,rz11,rz12,rz13,rz14⟩:=cells15 Xr5
    go_wp2_with fail
    refine(list6_is _ ⟨ra6,rn6,rc6,ra7,rn7,rc7,ra8,rn8,rc8,ra9,rn9,rc9,ra10,rn10,rc10,ra11,rn11,rc11,ra12,rn12,rc12,ra13,rn13,rc13,ra14,rn14,rc14⟩ ⟨rfreq,ritv,rcnt,rtil,rwkst,rends,rmon,rweek,ryday,rmday,rday,rhour,rminu,rsec,rpos⟩ start end_ most (l,x) (RA.out.below B5) HP.out).mono ?_
    rintro e w6 ⟨A2,c2,he,i6,b6⟩
    replace he:e= .returned (.tuple #[.slice A2 (l:List Int).length c2,.int .i64 x]):=he
    replace i6:IsAt w6 A2 (l:List Int).length l:=i6
    subst he
    clear rz0 rz1 rz2 rz3 rz4 rz5 rz6 rz7 rz8 rz9 rz10 rz11 rz12 rz13 rz14
    have B6:=B5.trans (b6.mono B5.size)
    have Xr6:=Xr5.below b6
    have Xc6:=Xc5.below b6
    have Rc6:=Rc5.below b6
    clear B5 Xr5 Xc5 Rc5
    have K1:=Lib.hid (K1.out.below b6)
    clear b6
    have K2:=Lib.hid i6
    clear i6
    as_aux_lemma=>
     obtain⟨cz0,cz1,cz2,cz3,cz4,cz5,cz6,cz7,cz8,cz9,cz10,cz11,cz12,cz13,cz14⟩:=cells15 Xc6
     go_wp2_with fail
     refine(count_is _ ⟨ca6,cn6,cc6,ca7,cn7,cc7,ca8,cn8,cc8,ca9,cn9,cc9,ca10,cn10,cc10,ca11,cn11,cc11,ca12,cn12,cc12,ca13,cn13,cc13,ca14,cn14,cc14⟩ ⟨rfreq,ritv,rcnt,rtil,rwkst,rends,rmon,rweek,ryday,rmday,rday,rhour,rminu,rsec,rpos⟩ start end_ most l x Rc6 HP.out).mono ?_
     rintro e w7 ⟨rfl,b7⟩
     clear cz0 cz1 cz2 cz3 cz4 cz5 cz6 cz7 cz8 cz9 cz10 cz11 cz12 cz13 cz14
     have B7:=B6.trans (b7.mono B6.size)
     have Xr7:=Xr6.below b7
     have Xc7:=Xc6.below b7
     have Rc7:=Rc6.below b7
     clear B6 Xr6 Xc6 Rc6
     have K1:=Lib.hid (K1.out.below b7)
     have K2:=Lib.hid (K2.out.below b7)
     clear b7
     as_aux_lemma=>
      obtain⟨cz0,cz1,cz2,cz3,cz4,cz5,cz6,cz7,cz8,cz9,cz10,cz11,cz12,cz13,cz14⟩:=cells15 Xc7
      go_wp2_with fail
      refine(next_is _ ⟨ca6,cn6,cc6,ca7,cn7,cc7,ca8,cn8,cc8,ca9,cn9,cc9,ca10,cn10,cc10,ca11,cn11,cc11,ca12,cn12,cc12,ca13,cn13,cc13,ca14,cn14,cc14⟩ ⟨rfreq,ritv,rcnt,rtil,rwkst,rends,rmon,rweek,ryday,rmday,rday,rhour,rminu,rsec,rpos⟩ start after end_ nx ny Rc7 AB.out HQ.out).mono ?_
      rintro e w8 ⟨rfl,b8⟩
      clear cz0 cz1 cz2 cz3 cz4 cz5 cz6 cz7 cz8 cz9 cz10 cz11 cz12 cz13 cz14
      have B8:=B7.trans (b8.mono B7.size)
      have Xr8:=Xr7.below b8
      have Xc8:=Xc7.below b8
      have Rc8:=Rc7.below b8
      clear B7 Xr7 Xc7 Rc7
      have K1:=Lib.hid (K1.out.below b8)
      have K2:=Lib.hid (K2.out.below b8)
      clear b8
      as_aux_lemma=>
       obtain⟨rz0,rz1,rz2,rz3,rz4,rz5,rz6,rz7,rz8,rz9,rz10,rz11,rz12,rz13,rz14⟩:=cells15 Xr8
       go_wp2_with fail
       refine(next6_is _ ⟨ra6,rn6,rc6,ra7,rn7,rc7,ra8,rn8,rc8,ra9,rn9,rc9,ra10,rn10,rc10,ra11,rn11,rc11,ra12,rn12,rc12,ra13,rn13,rc13,ra14,rn14,rc14⟩ ⟨rfreq,ritv,rcnt,rtil,rwkst,rends,rmon,rweek,ryday,rmday,rday,rhour,rminu,rsec,rpos⟩ start after end_ nx ny (RA.out.below B8) HQ.out).mono ?_
       rintro e w9 ⟨rfl,b9⟩
       clear rz0 rz1 rz2 rz3 rz4 rz5 rz6 rz7 rz8 rz9 rz10 rz11 rz12 rz13 rz14
       have B9:=B8.trans (b9.mono B8.size)
       have Xr9:=Xr8.below b9
       have Xc9:=Xc8.below b9
       have Rc9:=Rc8.below b9
       clear B8 Xr8 Xc8 Rc8
       have K1:=Lib.hid (K1.out.below b9)
       have K2:=Lib.hid (K2.out.below b9)
       clear b9
       as_aux_lemma=>
        go_wp2_with fail
        refine(first8_is _ (TT.out.on B9)).mono ?_
        rintro e w10 ⟨rfl,b10⟩
        have B10:=B9.trans (b10.mono B9.size)
        have Xr10:=Xr9.below b10
        have Xc10:=Xc9.below b10
        have Rc10:=Rc9.below b10
        clear B9 Xr9 Xc9 Rc9
        have K1:=Lib.hid (K1.out.below b10)
        have K2:=Lib.hid (K2.out.below b10)
        clear b10
        have le:=LE.out
        obtain⟨k,hk⟩:∃k,l.length=k:=⟨_,rfl⟩
        have HK9:=Lib.hid hk
        rw[hk] at K1 K2 le ⊢
        clear hk
        go_wp2_with fail
        refine(ints_hid _ A1 A2 k c1 k c2 l l K1.out K2.out (by omega) (by omega) true (decide_eq_true rfl)).mono ?_
        rintro e w11 ⟨rfl,b11⟩
        have B11:=B10.trans (b11.mono B10.size)
        have Xr11:=Xr10.below b11
        have Xc11:=Xc10.below b11
        have Rc11:=Rc10.below b11
        clear B10 Xr10 Xc10 Rc10
        have K1:=Lib.hid (K1.out.below b11)
        have K2:=Lib.hid (K2.out.below b11)
        clear b11
        have q1:(x==x)=true:=by simp
        have q2:((k:Int)==(k:Int))=true:=by simp
        have q3:(nx==nx)=true:=by simp
        have q4:(ny==ny)=true:=by simp
        clear K1 K2
        as_aux_lemma=>
         obtain⟨cz0,cz1,cz2,cz3,cz4,cz5,cz6,cz7,cz8,cz9,cz10,cz11,cz12,cz13,cz14⟩:=cells15 Xc11
         obtain⟨rz0,rz1,rz2,rz3,rz4,rz5,rz6,rz7,rz8,rz9,rz10,rz11,rz12,rz13,rz14⟩:=cells15 Xr11
         go_wp2_with fail
         refine(rule_hid _ ⟨ca6,cn6,cc6,ca7,cn7,cc7,ca8,cn8,cc8,ca9,cn9,cc9,ca10,cn10,cc10,ca11,cn11,cc11,ca12,cn12,cc12,ca13,cn13,cc13,ca14,cn14,cc14⟩ ⟨ra6,rn6,rc6,ra7,rn7,rc7,ra8,rn8,rc8,ra9,rn9,rc9,ra10,rn10,rc10,ra11,rn11,rc11,ra12,rn12,rc12,ra13,rn13,rc13,ra14,rn14,rc14⟩ ⟨rfreq,ritv,rcnt,rtil,rwkst,rends,rmon,rweek,ryday,rmday,rday,rhour,rminu,rsec,rpos⟩ Rc11 (RA.out.below B11)).mono ?_
         rintro e w12 ⟨rfl,b12⟩
         clear cz0 cz1 cz2 cz3 cz4 cz5 cz6 cz7 cz8 cz9 cz10 cz11 cz12 cz13 cz14 rz0 rz1 rz2 rz3 rz4 rz5 rz6 rz7 rz8 rz9 rz10 rz11 rz12 rz13 rz14
         have B12:=B11.trans (b12.mono B11.size)
         have Xr12:=Xr11.below b12
         have Xc12:=Xc11.below b12
         have Rc12:=Rc11.below b12
         clear B11 Xr11 Xc11 Rc11
         go_wp2
         go_ret
         exact⟨rfl,B12⟩
end Go.Proofs.YtchpjhjjakckbaaGreatDoor.Ex
