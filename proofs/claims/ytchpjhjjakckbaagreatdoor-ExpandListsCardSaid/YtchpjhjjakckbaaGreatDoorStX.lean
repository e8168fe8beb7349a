/- The walk of package stamp's Parse. The walks of package stamp's durations: seconds, sum, DurText, DurParse. The walk of voklaw2.first: what the chapter's examples fix. -/
import Derived.Test.YtchpjhjjakckbaaGreatDoorStW
import Derived.WalkLawsBesides
set_option linter.unusedVariables false
namespace Go.Proofs.YtchpjhjjakckbaaGreatDoor.St
open Go.RowKit Cv
theorem parse_short (s:ByteArray) (w:World) (h:s.size<15):
  Calls Tryz.prog 45 #[.string s] w fun e w'=>e= .returned (.tuple #[.int .i64 0,.int .i64 2])∧w=w':=by
 go_enter Tryz.func45,Tryz.ntmps45
 go_wp2
 go_ret2
 exact⟨rfl,rfl⟩
theorem parse_long (s:ByteArray) (w:World) (h:15<s.size) (hs:s.size≤maxLen):
  Calls Tryz.prog 45 #[.string s] w fun e w'=>e= .returned (.tuple #[.int .i64 0,.int .i64 4])∧w=w':=by
 unfold maxLen at hs
 go_enter Tryz.func45,Tryz.ntmps45
 go_wp2
 go_ret2
 exact⟨rfl,rfl⟩
theorem parse_t (s:ByteArray) (w:World) (h1:15≤s.size) (h2:s.size≤15) (h:s[8].toNat≠84):
  Calls Tryz.prog 45 #[.string s] w fun e w'=>e= .returned (.tuple #[.int .i64 0,.int .i64 4])∧w=w':=by
 have hb:((s[8].toNat:Int) != 84)=true:=by rw[bne_iff_ne];omega
 clear h
 go_enter Tryz.func45,Tryz.ntmps45
 go_wp2
 go_ret2
 exact⟨rfl,rfl⟩
theorem ext_le (s:ByteArray) (a b:Nat) (h:s.size≤15):(s.extract a b).size≤maxLen:=by rw[ByteArray.size_extract];unfold maxLen;omega
theorem ext_15 (s:ByteArray) (a b:Nat) (h:s.size≤15):(s.extract a b).size≤15:=by rw[ByteArray.size_extract];omega
theorem parse_d1 (s:ByteArray) (w:World) (h1:15≤s.size) (h2:s.size≤15) (h:s[8].toNat=84) (hd:digs (s.extract 0 8).data.toList=false):
  Calls Tryz.prog 45 #[.string s] w fun e w'=>e= .returned (.tuple #[.int .i64 0,.int .i64 4])∧w=w':=by
 have hb:((s[8].toNat:Int) != 84)=false:=by rw[bne_eq_false_iff_eq];omega
 have D:=Lib.hid hd
 clear h hd
 go_enter Tryz.func45,Tryz.ntmps45
 go_wp2_with (go_at_call 92;refine(digits_no (s.extract 0 8) _ (ext_le _ _ _ h2) D.out).mono ?_;rintro e w' ⟨rfl,rfl⟩)
 go_ret2
 exact⟨rfl,rfl⟩
theorem parse_d2 (s:ByteArray) (w:World) (h1:15≤s.size) (h2:s.size≤15) (h:s[8].toNat=84) (hd:digs (s.extract 0 8).data.toList=true) (he:digs (s.extract 9 s.size).data.toList=false):
  Calls Tryz.prog 45 #[.string s] w fun e w'=>e= .returned (.tuple #[.int .i64 0,.int .i64 4])∧w=w':=by
 have hb:((s[8].toNat:Int) != 84)=false:=by rw[bne_eq_false_iff_eq];omega
 have D:=Lib.hid hd;have E:=Lib.hid he
 clear h hd he
 go_enter Tryz.func45,Tryz.ntmps45
 go_wp2_with fail
 refine(digits_yes (s.extract 0 8) _ (ext_le _ _ _ h2) D.out).mono ?_
 rintro e w' ⟨rfl,rfl⟩
 go_wp2_with fail
 refine(digits_no (s.extract 9 s.size) _ (ext_le _ _ _ h2) E.out).mono ?_
 rintro e w' ⟨rfl,rfl⟩
 go_wp2_with fail
 go_ret2
 exact⟨rfl,rfl⟩
set_option maxHeartbeats 1000000 in
theorem parse_yes (s:ByteArray) (a b:Int) (w:World) (h1:15≤s.size) (h2:s.size≤15) (h:s[8].toNat=84) (hd:digs (s.extract 0 8).data.toList=true) (he:digs (s.extract 9 s.size).data.toList=true)
  (hr:makeR (nmb (List.take 4 s.data.toList)) (nmb (List.take 2 (List.drop 4 s.data.toList))) (nmb (List.take 2 (List.drop 6 s.data.toList))) (nmb (List.take 2 (List.drop 9 s.data.toList))) (nmb (List.take 2 (List.drop 11 s.data.toList))) (nmb (List.take (s.size-13) (List.drop 13 s.data.toList)))=(a,b)):
  Calls Tryz.prog 45 #[.string s] w fun e w'=>e= .returned (.tuple #[.int .i64 a,.int .i64 b])∧∃n,w'=w.drewN n:=by
 have hb:((s[8].toNat:Int) != 84)=false:=by rw[bne_eq_false_iff_eq];omega
 have D:=Lib.hid hd;have E:=Lib.hid he;have R:=Lib.hid hr
 have d1:=Lib.hid (digs_ext (a:=0) (b:=4) hd (by omega) (by omega))
 have d2:=Lib.hid (digs_ext (a:=4) (b:=6) hd (by omega) (by omega))
 have d3:=Lib.hid (digs_ext (a:=6) (b:=8) hd (by omega) (by omega))
 have d4:=Lib.hid (digs_ext (a:=9) (b:=11) he (by omega) (by omega))
 have d5:=Lib.hid (digs_ext (a:=11) (b:=13) he (by omega) (by omega))
 have d6:=Lib.hid (digs_ext (a:=13) (b:=s.size) he (by omega) (by omega))
 have i4:(4:Int)≤(s.size:Int):=by omega
 have i6:(6:Int)≤(s.size:Int):=by omega
 have i8:(8:Int)≤(s.size:Int):=by omega
 have i9:(9:Int)≤(s.size:Int):=by omega
 have i11:(11:Int)≤(s.size:Int):=by omega
 have i13:(13:Int)≤(s.size:Int):=by omega
 clear h hd he hr
 go_enter Tryz.func45,Tryz.ntmps45
 go_wp2_with fail
 refine(digits_yes (s.extract 0 8) _ (ext_le _ _ _ h2) D.out).mono ?_
 rintro e w' ⟨rfl,rfl⟩
 go_wp2_with fail
 refine(digits_yes (s.extract 9 s.size) _ (ext_le _ _ _ h2) E.out).mono ?_
 rintro e w' ⟨rfl,rfl⟩
 go_wp2_with fail
 go_quiet ((first
  | (go_at_call 94;with_reducible exact Calls.quiet_of_same (number_quiet (s.extract 0 4) _ (ext_15 _ _ _ h2) d1.out))
  | (go_at_call 94;with_reducible exact Calls.quiet_of_same (number_quiet (s.extract 4 6) _ (ext_15 _ _ _ h2) d2.out))
  | (go_at_call 94;with_reducible exact Calls.quiet_of_same (number_quiet (s.extract 6 8) _ (ext_15 _ _ _ h2) d3.out))
  | (go_at_call 94;with_reducible exact Calls.quiet_of_same (number_quiet (s.extract 9 11) _ (ext_15 _ _ _ h2) d4.out))
  | (go_at_call 94;with_reducible exact Calls.quiet_of_same (number_quiet (s.extract 11 13) _ (ext_15 _ _ _ h2) d5.out))
  | (go_at_call 94;with_reducible exact Calls.quiet_of_same (number_quiet (s.extract 13 s.size) _ (ext_15 _ _ _ h2) d6.out))
  | (go_at_call 93;exact Calls.quiet_of_same (make_quiet _ _ _ _ _ _ a b _ R.out))))
 go_wp2
 go_ret2
 exact⟨rfl,_,rfl⟩
theorem parse_any (s:ByteArray) (W w:World) (hs:s.size≤maxLen) (h:At W w):
  Calls Tryz.prog 45 #[.string s] w fun e w'=>e= .returned (.tuple #[.int .i64 (parse s.data.toList).1,.int .i64 (parse s.data.toList).2])∧At W w':=by
 have hl:s.data.toList.length=s.size:=by simp
 by_cases h1:s.size<15
 ·rw[parse_1 (by omega)]
  exact(parse_short s w h1).mono fun _ _ g=>⟨g.1,g.2 ▸ h⟩
 by_cases h2:15<s.size
 ·rw[parse_2 (by omega)]
  exact(parse_long s w h2 hs).mono fun _ _ g=>⟨g.1,g.2 ▸ h⟩
 have h8:s.data.toList.getD 8 0=s[8]:=by
  rw[List.getD_eq_getElem?_getD,List.getElem?_eq_getElem (by omega)];rfl
 by_cases h3:s[8].toNat=84
 case neg=>
  rw[parse_3 (by omega) (by rw[h8];exact h3)]
  exact(parse_t s w (by omega) (by omega) h3).mono fun _ _ g=>⟨g.1,g.2 ▸ h⟩
 cases h4:digs (s.extract 0 8).data.toList
 case false=>
  rw[parse_4 (by omega) (by simpa using h4)]
  exact(parse_d1 s w (by omega) (by omega) h3 h4).mono fun _ _ g=>⟨g.1,g.2 ▸ h⟩
 cases h5:digs (s.extract 9 s.size).data.toList
 case false=>
  rw[parse_5 (by omega) (by rw[ext_list,List.take_of_length_le (by simp)] at h5;exact h5)]
  exact(parse_d2 s w (by omega) (by omega) h3 h4 h5).mono fun _ _ g=>⟨g.1,g.2 ▸ h⟩
 rw[parse_6 (by omega) (by rw[h8];exact h3) (by simpa using h4) (by rw[ext_list,List.take_of_length_le (by simp)] at h5;exact h5)]
 refine(parse_yes s _ _ w (by omega) (by omega) h3 h4 h5 (by rw[List.take_of_length_le (i:=s.size-13) (by simp)])).mono ?_
 rintro e w' ⟨rfl,n,rfl⟩
 exact⟨rfl,h.drewN n⟩
end Go.Proofs.YtchpjhjjakckbaaGreatDoor.St
namespace Go.Proofs.YtchpjhjjakckbaaGreatDoor.St
open Go.RowKit Cv
end Go.Proofs.YtchpjhjjakckbaaGreatDoor.St
namespace Go.Proofs.YtchpjhjjakckbaaGreatDoor.St
open Go.RowKit Cv
theorem parse_is (s:ByteArray) (W w:World) (hs:s.size≤maxLen) (h:At W w) (a b:Int) (hp:parse s.data.toList=(a,b)):
  Calls Tryz.prog 45 #[.string s] w fun e w'=>e= .returned (.tuple #[.int .i64 a,.int .i64 b])∧At W w':=by
 have:=parse_any s W w hs h;rwa [hp] at this
end Go.Proofs.YtchpjhjjakckbaaGreatDoor.St
