/- What the iterators of package expand read. -/
import Derived.Test.YtchpjhjjakckbaaGreatDoorExW
import Derived.Test.YtchpjhjjakckbaaGreatDoorExD
set_option linter.unusedVariables false
namespace Go.Proofs.YtchpjhjjakckbaaGreatDoor.Ex
open Go Go.RowKit Cv St Ru Dd Mb
structure InC (W0:World) (p:Nat) (S:RS) (r:Ru) (a b c:Int) (W:World):Prop where
 size:W0.heap.size≤p
 below:Below W0.heap.size W0 W
 four:Four W p S r a b c
def setC (W0:World) (p:Nat):Nat→Prop:=fun k=>k<W0.heap.size∨(p≤k∧k≤p+3)
theorem InC.keeps {W0:World} {p:Nat} {S:RS} {r:Ru} {a b c:Int} {X:Nat→Prop} {W W':World} (h:InC W0 p S r a b c W) (hk:Keeps X W W') (hX:∀k,setC W0 p k→X k):InC W0 p S r a b c W':=
 ⟨h.size,h.below.trans ((hk.mono (Y:=fun k=>k<W0.heap.size) fun k hk=>hX k (.inl hk)).below h.below.size),h.four.keeps hk fun k h1 h2=>hX k (.inr ⟨h1,h2⟩)⟩
theorem InC.on {W0:World} {p:Nat} {S:RS} {r:Ru} {a b c:Int} {W W':World} (h:InC W0 p S r a b c W) (hb:Below W.heap.size W W'):InC W0 p S r a b c W':=h.keeps (Keeps.of_below (X:=fun _=>True) hb) fun _ _=>trivial
theorem is_keeps {X:Nat→Prop} {w w':World} {A:Option Addr} {n B:Nat} {l:List Int} (h:IsAt w A n l) (f:Fresh B A) (hk:Keeps X w w') (hX:∀k,B≤k→k<w.heap.size→X k):IsAt w' A n l:=
 ⟨h.1,fun h0=>by
  obtain⟨b,off,e,hlt,hc⟩:=h.2 h0
  exact⟨b,off,e,Nat.lt_of_lt_of_le hlt hk.size,fun j hj=>hk.cell (p:=⟨b,_,none⟩) (hX b (f b off e).1 hlt) (hc j hj)⟩⟩
theorem Foot.on {J:(Nat→Prop)→List Int→World→Prop} (hJ:Foot J) {X:Nat→Prop} {s:List Int} {W W':World} (h:J X s W) (hb:Below W.heap.size W W'):J X s W':=hJ X X s W W' h (Keeps.of_below hb) fun _ h => .inl h
theorem pos_may {r:Ru} (h:mayR r=true):(∀p∈r.pos,-366≤p∧p≤366)∧r.pos.length≤60:=by
 have l:=(mayR_of h).2.2.1
 unfold listB at l
 simp only[Bool.and_eq_true] at l
 obtain⟨⟨⟨⟨⟨⟨⟨⟨_,_⟩,_⟩,_⟩,a⟩,_⟩,_⟩,_⟩,_⟩:=l
 unfold inB at a
 simp only[Bool.and_eq_true] at a
 have a1:=of_decide_eq_true a.1.1
 exact⟨fun p hp=>⟨(a1 p hp).1,(a1 p hp).2.1⟩,of_decide_eq_true a.1.2⟩
theorem days_none {r:Ru} {start first last:Int} (h:mayR r=true) (hs:St.may start=true) (h4:4≤r.freq∨r.pos=[]) (e:reachL r start (begL r start)=[]∨pickL r.pos (witL r start)=[]):daysL r start first last=[]:=by
 refine List.eq_nil_iff_forall_not_mem.2 fun x hx => ?_
 have q:=(mem_sel.1 hx).2.2
 have d:x∈dayC r start (x / 86400):=by rw[day_eq h hs h4];exact mem_sel.2 ⟨by omega,by omega,q⟩
 unfold dayC at d
 split at d
 ·obtain⟨s,hs',d⟩:=List.mem_flatMap.1 d
  rcases e with e|e
  ·rw[e] at hs';cases hs'
  ·rw[e] at d;unfold unitC at d;simp at d
 ·cases d
theorem day_pre {r:Ru} {start first last n:Int} (h:mayR r=true) (hs:St.may start=true) (h4:4≤r.freq∨r.pos=[]) (n1:first≤n) (n2:n≤last) {a:List Int} (ha:a <+: dayC r start n):
  selL (inA r start) (first*86400) (n*86400)++a <+: daysL r start first last:=by
 rw[day_eq h hs h4] at ha
 obtain⟨b,hb⟩:=ha
 refine⟨b++selL (inA r start) ((n+1)*86400) ((last+1)*86400),?_⟩
 rw[List.append_assoc,←List.append_assoc a,hb,←List.append_assoc,sel_cat (by omega) (by omega),sel_cat (by omega) (by omega)]
 rfl
theorem flat_take {f:Int→List Int} {R:List Int} {t:Nat} (ht:t<R.length):(R.take (t+1)).flatMap f=(R.take t).flatMap f++f (iat R t):=by
 rw[take_at ht,List.flatMap_append];simp
theorem flat_pre {f:Int→List Int} {R:List Int} {t:Nat} (ht:t<R.length) {a:List Int} (ha:a <+: f (iat R t)):(R.take t).flatMap f++a <+: R.flatMap f:=by
 obtain⟨b,hb⟩:=ha
 refine⟨b++(R.drop (t+1)).flatMap f,?_⟩
 have e:R=R.take (t+1)++R.drop (t+1):=(List.take_append_drop _ _).symm
 conv=>rhs;rw[e,List.flatMap_append,flat_take ht,←hb]
 simp
theorem map_take {f:Int→Int} {P:List Int} {t:Nat} (ht:t<P.length):(P.take (t+1)).map f=(P.take t).map f++[f (iat P t)]:=by
 rw[take_at ht,List.map_append];rfl
theorem map_pre {f:Int→Int} {P:List Int} {t:Nat} (ht:t<P.length):(P.take t).map f++[f (iat P t)] <+: P.map f:=by
 rw[←map_take ht]
 exact⟨(P.drop (t+1)).map f,by rw[←List.map_append,List.take_append_drop]⟩
end Go.Proofs.YtchpjhjjakckbaaGreatDoor.Ex
