/- For every meeting and every two numbers, voklaw9.MeetDates returns true: a date more is a moment more, one that is left out is one less, if it was there. No condition. -/
import Derived.Test.YtddnnljfgfcplaaGreatDoorTie
import Derived.Test.YtddnnljfgfcplaaGreatDoorCards
import Derived.Lay
import Derived.Test.YtddnnljfgfcplaaGreatDoorMeDa
set_option maxHeartbeats 4000000
namespace Go.Proofs.YtddnnljfgfcplaaGreatDoor.meetDates
open Go.ChangeShapes Go.WideShapes Go.ChangeAt Go.RowKit Go.ChangeMaps
set_option linter.unusedVariables false
theorem own:ownKnob Tryz.prog.godebug=none:=by kernel_rfl
theorem door_met (os:Os) (args:Array Value):laidMet Tryz.prog Rows.meetDatesRow.laid ((World.laidAll Tryz.prog os Rows.meetDatesRow.laid).forCall (fun _ _=>0) ⟨#[],args,[]⟩).memory:=
 laidMet_laidAll args (by kernel_rfl) (by kernel_rfl)
set_option maxRecDepth 100000 in
theorem lifted (os:Os) (started:os.Started) (H:Type) (enc:TypeId×Value->H):
  ReturnsInHanded {} Tryz.checked os 5 .any (fun w args=>(Rows.meetDatesSpec.pre enc Tryz.prog Tryz.f5 [] false w args/\laidMet Tryz.prog Rows.meetDatesRow.laid w)/\sizedMet enc Tryz.prog Tryz.f5 (OpenSpec.ofChange Rows.meetDatesSpec) false w args)
   (Rows.meetDatesSpec.post enc Tryz.prog Tryz.f5 false true false false):=by
 refine returnsInHanded_of_calls own started (by kernel_rfl)
  (ChangeSpec.witness_shaped (enc:=enc) (C:=Tryz.checked) (os:=os) (X:=fun w _=>laidMet Tryz.prog Rows.meetDatesRow.laid w) false (World.laidAll Tryz.prog os Rows.meetDatesRow.laid) #[.agg #[.int .i64 0,.int .i64 0,.int .i64 0,.bool false,.int .i64 0,.int .i64 0,.int .i64 0,.int .i64 0,.int .i64 0,.bool false,.slice none 0 0,.slice none 0 0,.slice none 0 0,.slice none 0 0,.slice none 0 0,.slice none 0 0,.slice none 0 0,.slice none 0 0,.slice none 0 0,.slice none 0 0,.slice none 0 0],.int .i64 0,.int .i64 0] 8 (World.laidAll_os _ _ _) (World.shaped_of_ZipB (by kernel_rfl) (by kernel_rfl)) (by kernel_rfl) (by kernel_rfl) (by kernel_rfl) (door_met os _)) ?_
 intro w0 tape inp _ hsh _ hok hpre hholds
 obtain⟨_,_,_,fn',hfn',_,_,_,_,hval1⟩:=hok
 obtain rfl:fn'=Tryz.f5:=Option.some.inj (hfn'.symm.trans Tryz.func5)
 obtain⟨⟨⟨ds,gs,before,hw0,hcnd⟩,hl0⟩,hz0⟩:=hpre
 have hW:=DataW.Whole.of_heap (w':=w0.forCall tape inp) (by rfl) hw0
 have hL:laidMet Tryz.prog Rows.meetDatesRow.laid (w0.forCall tape inp):=laidMet.of_heap (by rfl) hl0
 refine Calls.mono (R:=fun e W'=>∃v,e=Ending.returned v/\Rows.meetDatesSpec.post enc Tryz.prog Tryz.f5 false true false false (w0.forCall tape inp) inp.args v W') ?_ (fun e W' hh => ?_)
 rotate_left
 ·obtain⟨v,he,hp⟩:=hh
  subst he;exact ChangeSpec.post_blind hp
 clear hw0 hl0
 have hval0:∀(j:Nat) t v,Tryz.f5.params[j]? = some t->inp.args[j]? = some v->Value.okWide Tryz.prog (w0.forCall tape inp) .any w0.heap.size t v:=hval1
 generalize w0.forCall tape inp=W at *
 generalize inp.args=args at *
 generalize w0.heap.size=base at *
 have T:=Ru.tabs_of hL hsh
 have HD:=Me.heads_of hL
 have hval:=hval0
 have hW':=hW
 have hlt:=hW.lt
 obtain⟨p,q,hA0,hV,rfl,hfz,hnd⟩:=hW
 have hA:DataW.TrodAll enc Tryz.prog W 0 (fun _=>true) true Tryz.f5.params.toList args.toList ds p:=hA0
 have hA1:=hA
 rw[Tryz.params5] at hA hval
 obtain⟨v0,vs0,d0,ds0,p0,q0,hargs,rfl,rfl,h0,r50⟩:=trodAll_cons hA
 obtain⟨v1,vs1,d1,ds1,p1,q1,rfl,rfl,rfl,h1,r51⟩:=trodAll_cons r50
 obtain⟨v2,vs2,d2,ds2,p2,q2,rfl,rfl,rfl,h2,r52⟩:=trodAll_cons r51
 obtain⟨rfl,rfl,rfl⟩:=trodAll_nil r52
 obtain rfl:args = #[v0,v1,v2]:=by cases args;simp_all
 obtain⟨rfl,rfl⟩:=trodVars_none hV
 obtain⟨f0,g00⟩:=h0
 obtain⟨cs0,rfl,_⟩:=okWide_struct Tryz.underlying27 (hval 0 27 v0 rfl rfl)
 obtain⟨S0,m0,e0,h0'⟩:=Me.mt_open g00
 obtain rfl:cs0=(Me.mcells S0 m0).toArray:=Value.agg.inj (show Value.agg cs0=Value.agg (Me.mcells S0 m0).toArray from e0)
 obtain⟨a1,rfl,_,_,w1⟩:=open_int Tryz.underlying3 (hval 1 3 v1 rfl rfl) h1
 obtain⟨l1,u1⟩:=bounds_i64 w1
 obtain⟨a2,rfl,_,_,w2⟩:=open_int Tryz.underlying3 (hval 2 3 v2 rfl rfl) h2
 obtain⟨l2,u2⟩:=bounds_i64 w2
 clear hA0 hval0 hval1
 refine(Me.dates_walk W T HD S0 m0 h0' a1 a2 l1 u1 l2 u2).mono fun e W' ⟨he,hg⟩ => ?_
 subst he
 exact⟨_,rfl,Law.post_bool (b:=true) (pa:=_) (pv:= []) hW' rfl Tryz.underlying4 rfl (fun sp hsp=>Ru.args_stay (by kernel_rfl) hg (fun t ht=>by rw[Tryz.params5] at ht;revert t;decide +kernel) hA1 (fun x hx=>hlt x (List.mem_append_left _ hx)) (fun x hx=>hsp x (List.mem_append_left _ hx))) (fun _ _=>rfl) rfl hg⟩
set_option maxRecDepth 1000000 in
theorem closed:joinedFacts Tryz.pinned.checked.prog 5 Tryz.f5 Rows.meetDatesSpec Rows.meetDatesRow=true:=by
 unfold joinedFacts
 simp only[Bool.and_eq_true]
 repeat' apply And.intro
 all_goals (as_aux_lemma=>kernel_rfl)
theorem over:Rows.meetDatesRow.holds Tryz.pinned (OpenSpec.ofChange Rows.meetDatesSpec):=
 OpenClaim.holds_of_wide 5 Tryz.f5 rfl rfl rfl rfl rfl rfl rfl ⟨rfl,rfl,rfl,rfl,rfl⟩ rfl rfl rfl rfl rfl (by as_aux_lemma=>kernel_rfl) Tryz.func5 closed
  (of_decide_eq_true (by as_aux_lemma=>kernel_rfl)) (by unfold Func.isWrapper;first|(rw[if_pos (by decide +kernel)];kernel_rfl)|(rw[if_neg (by decide +kernel)];exact⟨rfl,rfl⟩))
  (fun os started H enc _=>lifted os started H enc)
theorem proved:Rows.MeetDatesCardSaid:=
 Claim7.holds_tied_plain_at .later [] [.data, .data, .data, .data, .sentinel, .sentinel, .data, .data, .data, .pinned] true (true, "d064f7e77e2c705bc6936377bdbf28f3ee8c8f7fd3e98d9f0f123c25656085c1") true
  over (fun _ h=>by cases h) (by as_aux_lemma=>kernel_rfl) (fun _ h=>by cases h) meetDates_row_tie rfl ⟨rfl,rfl⟩ (by as_aux_lemma=>kernel_rfl) rfl
  (fun f fn hf hfn=>by
   obtain rfl : f = 5 := Option.some.inj ((show Tryz.prog.funcNamed "convoker/voklaw9.MeetDates" = some 5 by as_aux_lemma => kernel_rfl).symm.trans hf) |>.symm
   obtain rfl:fn=Tryz.f5:=(Option.some.inj (Tryz.func5.symm.trans hfn)).symm
   exact⟨by as_aux_lemma=>kernel_rfl,fun j t ht=>by
    rw[Tryz.params5] at ht;have hm:t∈([27,3,3]:List Nat):=by simpa using Array.mem_of_getElem? ht
    have hall:(([27,3,3]:List Nat).all fun u => !Tryz.prog.wantsStandIn u)=true:=by as_aux_lemma=>kernel_rfl
    exact(show Tryz.prog.wantsStandIn t=false by simpa using List.all_eq_true.1 hall t hm)⟩)
  (by as_aux_lemma=>kernel_rfl)
#print axioms proved
end Go.Proofs.YtddnnljfgfcplaaGreatDoor.meetDates
