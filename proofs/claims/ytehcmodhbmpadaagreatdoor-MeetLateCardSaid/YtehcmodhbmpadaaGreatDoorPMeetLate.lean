/- voklaw9.MeetLate answers true, no condition. -/
import Derived.Test.YtehcmodhbmpadaaGreatDoorTie
import Derived.Test.YtehcmodhbmpadaaGreatDoorCards
import Derived.Lay
import Derived.Test.YtehcmodhbmpadaaGreatDoorMeLa
namespace Go.Proofs.YtehcmodhbmpadaaGreatDoor.meetLate
open Go.ChangeShapes Go.WideShapes Go.ChangeAt Go.RowKit Go.ChangeMaps
set_option linter.unusedVariables false
theorem own:ownKnob Tryz.prog.godebug=none:=by kernel_rfl
theorem door_met (os:Os) (args:Array Value):laidMet Tryz.prog Rows.meetLateRow.laid ((World.laidAll Tryz.prog os Rows.meetLateRow.laid).forCall (fun _ _=>0) ⟨#[],args,[]⟩).memory:=
 laidMet_laidAll args (by kernel_rfl) (by kernel_rfl)
set_option maxRecDepth 100000 in
theorem lifted (os:Os) (started:os.Started) (H:Type) (enc:TypeId×Value→H):
 ReturnsInHanded {} Tryz.checked os 8 .any (fun w args=>(Rows.meetLateSpec.pre enc Tryz.prog Tryz.f8 [] false w args∧laidMet Tryz.prog Rows.meetLateRow.laid w)∧sizedMet enc Tryz.prog Tryz.f8 (OpenSpec.ofChange Rows.meetLateSpec) false w args)
  (Rows.meetLateSpec.post enc Tryz.prog Tryz.f8 false true false false):=by
 refine returnsInHanded_of_calls own started (by kernel_rfl)
  (ChangeSpec.witness_shaped (enc:=enc) (C:=Tryz.checked) (os:=os) (X:=fun w _=>laidMet Tryz.prog Rows.meetLateRow.laid w) false (World.laidAll Tryz.prog os Rows.meetLateRow.laid) #[.agg #[.int .i64 0,.int .i64 0,.int .i64 0,.bool false,.int .i64 0,.int .i64 0,.int .i64 0,.int .i64 0,.int .i64 0,.bool false,.slice none 0 0,.slice none 0 0,.slice none 0 0,.slice none 0 0,.slice none 0 0,.slice none 0 0,.slice none 0 0,.slice none 0 0,.slice none 0 0,.slice none 0 0,.slice none 0 0],.slice none 0 0,.int .i64 0,.int .i64 0] 8 (World.laidAll_os _ _ _) (World.shaped_of_ZipB (by kernel_rfl) (by kernel_rfl)) (by kernel_rfl) (by kernel_rfl) (by kernel_rfl) (door_met os _)) ?_
 intro w0 tape inp _ hsh _ hok hpre hholds
 obtain⟨_,_,_,fn',hfn',_,_,_,_,hval1⟩:=hok
 obtain rfl:fn'=Tryz.f8:=Option.some.inj (hfn'.symm.trans Tryz.func8)
 obtain⟨⟨⟨ds,gs,before,hw0,hcnd⟩,hl0⟩,hz0⟩:=hpre
 have hW:=DataW.Whole.of_heap (w':=w0.forCall tape inp) (by rfl) hw0
 have hL:laidMet Tryz.prog Rows.meetLateRow.laid (w0.forCall tape inp):=laidMet.of_heap (by rfl) hl0
 refine Calls.mono (R:=fun e W'=>∃v,e=Ending.returned v∧Rows.meetLateSpec.post enc Tryz.prog Tryz.f8 false true false false (w0.forCall tape inp) inp.args v W') ?_ (fun e W' hh => ?_)
 rotate_left
 ·obtain⟨v,he,hp⟩:=hh
  subst he
  exact ChangeSpec.post_blind hp
 clear hw0 hl0
 have hval0:∀(j:Nat) t v,Tryz.f8.params[j]? = some t→inp.args[j]? = some v→Value.okWide Tryz.prog (w0.forCall tape inp) .any w0.heap.size t v:=hval1
 generalize w0.forCall tape inp=W at *
 generalize inp.args=args at *
 generalize w0.heap.size=base at *
 have T:=Ru.tabs_of hL hsh
 have HD:=Me.heads_of hL
 have hval:=hval0
 have hW':=hW
 have hlt:=hW.lt
 obtain⟨p,q,hA0,hV,rfl,hfz,hnd⟩:=hW
 have hA:DataW.TrodAll enc Tryz.prog W 0 (fun _=>true) true Tryz.f8.params.toList args.toList ds p:=hA0
 have hA1:=hA
 rw[Tryz.params8] at hA hval
 obtain⟨v0,vs0,d0,ds0,p0,q0,hargs,rfl,rfl,h0,r50⟩:=trodAll_cons hA
 obtain⟨v1,vs1,d1,ds1,p1,q1,rfl,rfl,rfl,h1,r51⟩:=trodAll_cons r50
 obtain⟨v2,vs2,d2,ds2,p2,q2,rfl,rfl,rfl,h2,r52⟩:=trodAll_cons r51
 obtain⟨v3,vs3,d3,ds3,p3,q3,rfl,rfl,rfl,h3,r53⟩:=trodAll_cons r52
 obtain⟨rfl,rfl,rfl⟩:=trodAll_nil r53
 obtain rfl:args = #[v0,v1,v2,v3]:=by cases args;simp_all
 obtain⟨rfl,rfl⟩:=trodVars_none hV
 obtain⟨f0,g00⟩:=h0
 obtain⟨cs0,rfl,_⟩:=okWide_struct Tryz.underlying27 (hval 0 27 v0 rfl rfl)
 obtain⟨S0,m0,e0,h0'⟩:=Me.mt_open g00
 obtain rfl:cs0=(Me.mcells S0 m0).toArray:=Value.agg.inj (show Value.agg cs0=Value.agg (Me.mcells S0 m0).toArray from e0)
 obtain⟨f1,g01⟩:=h1
 have e1:v1.cells.toList=[v1]:=Ru.cells_slice Tryz.underlying38 (hval 1 38 v1 rfl rfl)
 rw[e1] at g01
 obtain⟨A1,n1,c1,S1,Z1,rfl,h1',k1⟩:=Me.zs_open g01
 obtain⟨a2,rfl,_,_,w2⟩:=open_int Tryz.underlying3 (hval 2 3 v2 rfl rfl) h2
 obtain⟨l2,u2⟩:=bounds_i64 w2
 obtain⟨a3,rfl,_,_,w3⟩:=open_int Tryz.underlying3 (hval 3 3 v3 rfl rfl) h3
 obtain⟨l3,u3⟩:=bounds_i64 w3
 clear hA0 hval0 hval1
 refine(Me.late_walk W T HD S0 m0 h0' A1 n1 c1 S1 Z1 h1' k1 a2 a3 l2 u2 l3 u3).mono fun e W' ⟨he,hg⟩ => ?_
 subst he
 exact⟨_,rfl,Law.post_bool (b:=true) (pa:=_) (pv:= []) hW' rfl Tryz.underlying4 rfl (fun sp hsp=>Ru.args_stay (by kernel_rfl) hg (fun t ht=>by rw[Tryz.params8] at ht;revert t;decide +kernel) hA1 (fun x hx=>hlt x (List.mem_append_left _ hx)) (fun x hx=>hsp x (List.mem_append_left _ hx))) (fun _ _=>rfl) rfl hg⟩
set_option maxRecDepth 1000000 in
set_option maxHeartbeats 4000000 in
theorem closed:joinedFacts Tryz.pinned.checked.prog 8 Tryz.f8 Rows.meetLateSpec Rows.meetLateRow=true:=by
 unfold joinedFacts
 simp only[Bool.and_eq_true]
 repeat' apply And.intro
 all_goals (as_aux_lemma=>kernel_rfl)
set_option maxHeartbeats 4000000 in
theorem over:Rows.meetLateRow.holds Tryz.pinned (OpenSpec.ofChange Rows.meetLateSpec):=
 OpenClaim.holds_of_wide 8 Tryz.f8 rfl rfl rfl rfl rfl rfl rfl ⟨rfl,rfl,rfl,rfl,rfl⟩ rfl rfl rfl rfl rfl (by as_aux_lemma=>kernel_rfl) Tryz.func8 closed
  (of_decide_eq_true (by as_aux_lemma=>kernel_rfl)) (by unfold Func.isWrapper;first|(rw[if_pos (by decide +kernel)];kernel_rfl)|(rw[if_neg (by decide +kernel)];exact⟨rfl,rfl⟩))
  (fun os started H enc _=>lifted os started H enc)
set_option maxHeartbeats 4000000 in
theorem proved:Rows.MeetLateCardSaid:=
 Claim7.holds_tied_plain_at .later [] [.data, .data, .data, .data, .sentinel, .sentinel, .data, .data, .data, .pinned] true (true, "b88b98e66ef67928ce38902b7be1fb5c963c8e22287b542816d399edb1ec8282") true
  over (fun _ h=>by cases h) (by as_aux_lemma=>kernel_rfl) (fun _ h=>by cases h) meetLate_row_tie rfl ⟨rfl,rfl⟩ (by as_aux_lemma=>kernel_rfl) rfl
  (fun f fn hf hfn=>by
   obtain rfl : f = 8 := Option.some.inj ((show Tryz.prog.funcNamed "convoker/voklaw9.MeetLate" = some 8 by as_aux_lemma => kernel_rfl).symm.trans hf) |>.symm
   obtain rfl:fn=Tryz.f8:=(Option.some.inj (Tryz.func8.symm.trans hfn)).symm
   exact⟨by as_aux_lemma=>kernel_rfl,fun j t ht=>by
    rw[Tryz.params8] at ht
    have hm:t∈([27,38,3,3]:List Nat):=by simpa using Array.mem_of_getElem? ht
    have hall:(([27,38,3,3]:List Nat).all fun u => !Tryz.prog.wantsStandIn u)=true:=by as_aux_lemma=>kernel_rfl
    exact(show Tryz.prog.wantsStandIn t=false by simpa using List.all_eq_true.1 hall t hm)⟩)
  (by as_aux_lemma=>kernel_rfl)
#print axioms proved
end Go.Proofs.YtehcmodhbmpadaaGreatDoor.meetLate
