/- For every list of zones and every four numbers, voklaw9.MeetShifts returns true: a meeting that does not recur is one span, as long as it is, from its start's moment on; a day later it is that of a day later, where no shift lies between. No condition. -/
import Derived.Test.YteahblfomknngaaGreatDoorRows
import Derived.Test.YteahblfomknngaaGreatDoorTie
import Derived.Test.YteahblfomknngaaGreatDoorCards
import Derived.WalkKit
import Derived.ProofKit
import Derived.OpenShut
import Derived.ChangeMaps5
import Derived.ShutString
import Derived.Test.YteahblfomknngaaGreatDoorLawPost
import Derived.Test.YteahblfomknngaaGreatDoorRpZ
import Derived.Test.YteahblfomknngaaGreatDoorMeOpen
import Derived.LaidMore
import Derived.Lay
import Derived.Stop.LaidErr
import Derived.Lib.LaidTab
import Derived.SevenTiedAt
import Derived.Stop.Joined
import Derived.Test.YteahblfomknngaaGreatDoorMeX6
namespace Go.Proofs.YteahblfomknngaaGreatDoor.meetShifts
open Go.ChangeShapes Go.WideShapes Go.ChangeAt Go.RowKit Go.ChangeMaps
set_option linter.unusedVariables false
theorem own:ownKnob Tryz.prog.godebug=none:=by kernel_rfl
theorem door_met (os:Os) (args:Array Value):laidMet Tryz.prog Rows.meetShiftsRow.laid ((World.laidAll Tryz.prog os Rows.meetShiftsRow.laid).forCall (fun _ _=>0) ⟨#[],args,[]⟩).memory:=
 laidMet_laidAll args (by kernel_rfl) (by kernel_rfl)
set_option maxRecDepth 100000 in
theorem lifted (os:Os) (started:os.Started) (H:Type) (enc:TypeId×Value→H):
  ReturnsInHanded {} Tryz.checked os 7 .any (fun w args=>(Rows.meetShiftsSpec.pre enc Tryz.prog Tryz.f7 [] false w args∧laidMet Tryz.prog Rows.meetShiftsRow.laid w)∧sizedMet enc Tryz.prog Tryz.f7 (OpenSpec.ofChange Rows.meetShiftsSpec) false w args)
   (Rows.meetShiftsSpec.post enc Tryz.prog Tryz.f7 false true false false):=by
 refine returnsInHanded_of_calls own started (by kernel_rfl)
  (ChangeSpec.witness_shaped (enc:=enc) (C:=Tryz.checked) (os:=os) (X:=fun w _=>laidMet Tryz.prog Rows.meetShiftsRow.laid w) false (World.laidAll Tryz.prog os Rows.meetShiftsRow.laid) #[.slice none 0 0,.int .i64 0,.int .i64 0,.int .i64 0,.int .i64 0] 8 (World.laidAll_os _ _ _) (World.shaped_of_ZipB (by kernel_rfl) (by kernel_rfl)) (by kernel_rfl) (by kernel_rfl) (by kernel_rfl) (door_met os _)) ?_
 intro w0 tape inp _ hsh _ hok hpre hholds
 obtain⟨_,_,_,fn',hfn',_,_,_,_,hval1⟩:=hok
 obtain rfl:fn'=Tryz.f7:=Option.some.inj (hfn'.symm.trans Tryz.func7)
 obtain⟨⟨⟨ds,gs,before,hw0,hcnd⟩,hl0⟩,hz0⟩:=hpre
 have hW:=DataW.Whole.of_heap (w':=w0.forCall tape inp) (by rfl) hw0
 have hL:laidMet Tryz.prog Rows.meetShiftsRow.laid (w0.forCall tape inp):=laidMet.of_heap (by rfl) hl0
 refine Calls.mono (R:=fun e W'=>∃v,e=Ending.returned v∧Rows.meetShiftsSpec.post enc Tryz.prog Tryz.f7 false true false false (w0.forCall tape inp) inp.args v W') ?_ (fun e W' hh => ?_)
 rotate_left
 ·obtain⟨v,he,hp⟩:=hh
  subst he
  exact ChangeSpec.post_blind hp
 clear hw0 hl0
 have hval0:∀(j:Nat) t v,Tryz.f7.params[j]? = some t→inp.args[j]? = some v→Value.okWide Tryz.prog (w0.forCall tape inp) .any w0.heap.size t v:=hval1
 generalize w0.forCall tape inp=W at *
 generalize inp.args=args at *
 generalize w0.heap.size=base at *
 have T:=Ru.tabs_of hL hsh
 have HD:=Me.heads_of hL
 have hval:=hval0
 have hW':=hW
 have hlt:=hW.lt
 obtain⟨p,q,hA0,hV,rfl,hfz,hnd⟩:=hW
 have hA:DataW.TrodAll enc Tryz.prog W 0 (fun _=>true) true Tryz.f7.params.toList args.toList ds p:=hA0
 have hA1:=hA
 rw[Tryz.params7] at hA hval
 obtain⟨v0,vs0,d0,ds0,p0,q0,hargs,rfl,rfl,h0,r50⟩:=trodAll_cons hA
 obtain⟨v1,vs1,d1,ds1,p1,q1,rfl,rfl,rfl,h1,r51⟩:=trodAll_cons r50
 obtain⟨v2,vs2,d2,ds2,p2,q2,rfl,rfl,rfl,h2,r52⟩:=trodAll_cons r51
 obtain⟨v3,vs3,d3,ds3,p3,q3,rfl,rfl,rfl,h3,r53⟩:=trodAll_cons r52
 obtain⟨v4,vs4,d4,ds4,p4,q4,rfl,rfl,rfl,h4,r54⟩:=trodAll_cons r53
 obtain⟨rfl,rfl,rfl⟩:=trodAll_nil r54
 obtain rfl:args = #[v0,v1,v2,v3,v4]:=by cases args;simp_all
 obtain⟨rfl,rfl⟩:=trodVars_none hV
 obtain⟨f0,g00⟩:=h0
 have e0:v0.cells.toList=[v0]:=Ru.cells_slice Tryz.underlying38 (hval 0 38 v0 rfl rfl)
 rw[e0] at g00
 obtain⟨A0,n0,c0,S0,Z0,rfl,h0',k0⟩:=Me.zs_open g00
 obtain⟨a1,rfl,_,_,w1⟩:=open_int Tryz.underlying3 (hval 1 3 v1 rfl rfl) h1
 obtain⟨l1,u1⟩:=bounds_i64 w1
 obtain⟨a2,rfl,_,_,w2⟩:=open_int Tryz.underlying3 (hval 2 3 v2 rfl rfl) h2
 obtain⟨l2,u2⟩:=bounds_i64 w2
 obtain⟨a3,rfl,_,_,w3⟩:=open_int Tryz.underlying3 (hval 3 3 v3 rfl rfl) h3
 obtain⟨l3,u3⟩:=bounds_i64 w3
 obtain⟨a4,rfl,_,_,w4⟩:=open_int Tryz.underlying3 (hval 4 3 v4 rfl rfl) h4
 obtain⟨l4,u4⟩:=bounds_i64 w4
 clear hA0 hval0 hval1
 refine(Me.shifts_walk W T HD A0 n0 c0 S0 Z0 h0' k0 a1 a2 a3 a4 l1 u1 l2 u2 l3 u3 l4 u4).mono fun e W' ⟨he,hg⟩ => ?_
 subst he
 exact⟨_,rfl,Law.post_bool (b:=true) (pa:=_) (pv:= []) hW' rfl Tryz.underlying4 rfl (fun sp hsp=>Ru.args_stay (by kernel_rfl) hg (fun t ht=>by rw[Tryz.params7] at ht;revert t;decide +kernel) hA1 (fun x hx=>hlt x (List.mem_append_left _ hx)) (fun x hx=>hsp x (List.mem_append_left _ hx))) (fun _ _=>rfl) rfl hg⟩
set_option maxRecDepth 1000000 in
set_option maxHeartbeats 4000000 in
theorem closed:joinedFacts Tryz.pinned.checked.prog 7 Tryz.f7 Rows.meetShiftsSpec Rows.meetShiftsRow=true:=by
 unfold joinedFacts
 simp only[Bool.and_eq_true]
 repeat' apply And.intro
 all_goals (as_aux_lemma=>kernel_rfl)
set_option maxHeartbeats 4000000 in
theorem over:Rows.meetShiftsRow.holds Tryz.pinned (OpenSpec.ofChange Rows.meetShiftsSpec):=
 OpenClaim.holds_of_wide 7 Tryz.f7 rfl rfl rfl rfl rfl rfl rfl ⟨rfl,rfl,rfl,rfl,rfl⟩ rfl rfl rfl rfl rfl (by as_aux_lemma=>kernel_rfl) Tryz.func7 closed
  (of_decide_eq_true (by as_aux_lemma=>kernel_rfl)) (by unfold Func.isWrapper;first|(rw[if_pos (by decide +kernel)];kernel_rfl)|(rw[if_neg (by decide +kernel)];exact⟨rfl,rfl⟩))
  (fun os started H enc _=>lifted os started H enc)
set_option maxHeartbeats 4000000 in
theorem proved:Rows.MeetShiftsCardSaid:=
 Claim7.holds_tied_plain_at .later [] [.data, .data, .data, .data, .sentinel, .sentinel, .data, .data, .data, .pinned] true (true, "b88b98e66ef67928ce38902b7be1fb5c963c8e22287b542816d399edb1ec8282") true
  over (fun _ h=>by cases h) (by as_aux_lemma=>kernel_rfl) (fun _ h=>by cases h) meetShifts_row_tie rfl ⟨rfl,rfl⟩ (by as_aux_lemma=>kernel_rfl) rfl
  (fun f fn hf hfn=>by
   obtain rfl : f = 7 := Option.some.inj ((show Tryz.prog.funcNamed "convoker/voklaw9.MeetShifts" = some 7 by as_aux_lemma => kernel_rfl).symm.trans hf) |>.symm
   obtain rfl:fn=Tryz.f7:=(Option.some.inj (Tryz.func7.symm.trans hfn)).symm
   exact⟨by as_aux_lemma=>kernel_rfl,fun j t ht=>by
    rw[Tryz.params7] at ht
    have hm:t∈([38,3,3,3,3]:List Nat):=by simpa using Array.mem_of_getElem? ht
    have hall:(([38,3,3,3,3]:List Nat).all fun u => !Tryz.prog.wantsStandIn u)=true:=by as_aux_lemma=>kernel_rfl
    exact(show Tryz.prog.wantsStandIn t=false by simpa using List.all_eq_true.1 hall t hm)⟩)
  (by as_aux_lemma=>kernel_rfl)
#print axioms proved
end Go.Proofs.YteahblfomknngaaGreatDoor.meetShifts
