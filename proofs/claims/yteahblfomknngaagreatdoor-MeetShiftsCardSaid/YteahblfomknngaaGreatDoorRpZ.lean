/- A rule that came in, opened: its numbers, its slices as lists; a slice of numbers; and behind a law that makes memory of its own the arguments read as they did. What the row's list of package variables, and the world's shape, give the walks. What vokref.FewRule answers. Two boxes of a law's own. voklaw5.first answers true. -/
import Derived.Test.YteahblfomknngaaGreatDoorRuB
import Derived.Test.YteahblfomknngaaGreatDoorLawPost
import Derived.Lib.SmallJoins
import Derived.Deep.Slices
import Derived.Deep.Fields
import Derived.WideKeyArgs
import Derived.Below
import Derived.ProofKit
import Derived.Test.YteahblfomknngaaGreatDoorRuX1
import Derived.Test.YteahblfomknngaaGreatDoorRows
import Derived.LaidMore
import Derived.Stop.LaidErr
import Derived.Lib.LaidTab
import Derived.Lib.LaidU8
import Derived.Shelf.Vars
import Derived.WideShapes
import Derived.Test.YteahblfomknngaaGreatDoorRpP
set_option linter.unusedVariables false
namespace Go.Proofs.YteahblfomknngaaGreatDoor.Ru
open Go.ChangeShapes Go.WideShapes Go.RowKit Go.Deep Cv St
theorem list_of {α:Type} (d:α) {Q:Nat→α→Prop}:∀ {n:Nat},(∀i,i<n→∃s,Q i s)→∃l:List α,l.length=n∧∀i,i<n→Q i (l.getD i d)
 |0,_=>⟨[],rfl,fun i h=>by omega⟩
 |n+1,h=>by
  obtain⟨l,hl,hq⟩:=list_of (n:=n) d fun i hi=>h i (by omega)
  obtain⟨s,hs⟩:=h n (by omega)
  refine⟨l++[s],by simp[hl],fun i hi => ?_⟩
  rw[List.getD_eq_getElem?_getD]
  by_cases e:i=n
  ·subst e;rw[←hl,List.getElem?_append_right (Nat.le_refl _)];simpa [hl] using hs
  ·rw[List.getElem?_append_left (by omega),←List.getD_eq_getElem?_getD];exact hq i (by omega)
section
variable {H:Type} {enc:TypeId×Value→H} {P:Program} {W:World} {base:Nat} {spare:Nat→Bool} {held:Bool}
end
section
variable {H:Type} {enc:TypeId×Value→H} {W:World} {base:Nat} {spare:Nat→Bool} {held:Bool}
end
theorem cells_slice {P:Program} {w:World} {r:Reach} {base:Nat} {t e:TypeId} {v:Value} (ht:P.underlying t=some (.slice e)) (h:Value.okWide P w r base t v):v.cells.toList=[v]:=by
 obtain⟨a,n,c,rfl⟩:=okWide_slice ht h;rfl
section
variable {H:Type} {enc:TypeId×Value→H} {P:Program}
theorem args_stay (hl:laidOutB P=true) {W W':World} {sp:Nat→Bool} (hb:Below W.heap.size W W'):∀ {ts:List TypeId} {vs:List Value} {ds:List (DataW H)} {ps:List MemPlace},(∀t∈ts,P.readableRec t=true∧t<P.types.size)→
  DataW.TrodAll enc P W 0 (fun _=>true) true ts vs ds ps→(∀p∈ps,p.block<W.heap.size)→(∀p∈ps,sp p.block=true)→DataW.TrodAll enc P W' 0 sp true ts vs ds ps
 | [],[],[],_,_,h,_,_=>h
 |t::_,_::_,_::_,_,ht,⟨p,q,h1,h2,e⟩,hlt,hs=>by
  subst e
  obtain⟨hr,hrow⟩:=ht t (List.mem_cons_self ..)
  refine⟨p,q,Go.WideElems.Trod_stays hl hr hrow h1 (fun x hx => ?_) (fun x hx=>hs x (List.mem_append_left _ hx)),args_stay hl hb (fun u hu=>ht u (List.mem_cons_of_mem _ hu)) h2 (fun x hx=>hlt x (List.mem_append_right _ hx)) (fun x hx=>hs x (List.mem_append_right _ hx)),rfl⟩
  have:=hlt x (List.mem_append_left _ hx)
  cases x with
  |cell b off=>exact hb.cell (p:=⟨b,off,none⟩) this
  |map b=>exact hb.block b this
end
end Go.Proofs.YteahblfomknngaaGreatDoor.Ru
set_option linter.unusedVariables false
namespace Go.Proofs.YteahblfomknngaaGreatDoor.Ru
open Go.RowKit Go.ChangeShapes Go.WideShapes Cv St
theorem strs_tab {W:World} {base:Nat} {sp:Nat→Bool} {held:Bool} {fuel:Nat} {t e:TypeId} {n:Nat} {cs:List Value} {ls:List (List UInt8)} {p:List MemPlace} (ht:Tryz.prog.underlying t=some (.array n e)) (he:Tryz.prog.underlying e=some .string) (hce:Tryz.prog.cellsOf e=1)
  (h:DataW.trod (fun _=>()) Tryz.prog W base sp held fuel t cs=some (.agg (ls.map fun s=>(.lit (.string s):DataW Unit)),p)) (i:Nat) (hi:i<n) (s:List UInt8) (hs:ls[i]? = some s):cs[i]? = some (.string (str s)):=by
 obtain⟨f,d,q,hd,h1⟩:=Lib.array_elem ht h i hi
 rw[List.getElem?_map,hs] at hd
 obtain rfl:(DataW.lit (.string s):DataW Unit)=d:=by simpa using hd
 rw[hce,Nat.mul_one] at h1
 obtain⟨z,hz,e1,_⟩:=DataW.trod_string he h1
 have e2:s=z.data.toList:=by
  have:=congrArg Prod.fst e1
  simpa using this
 have e3:cs[i]? = some (.string z):=by
  have:=congrArg (·[0]?) hz
  simpa [List.getElem?_take,List.getElem?_drop] using this
 rw[e3,e2,str_list]
theorem gWords : Tryz.prog.globalNamed "convoker/rule.words" = some 1 := by kernel_rfl
theorem gWdays : Tryz.prog.globalNamed "convoker/rule.weekdays" = some 2 := by kernel_rfl
theorem gErrS : Tryz.prog.globalNamed "strconv.ErrSyntax" = some 7 := by kernel_rfl
theorem gErrR : Tryz.prog.globalNamed "strconv.ErrRange" = some 8 := by kernel_rfl
theorem tWords:(Tryz.prog.globals[1]?).map (·.type)=some 111:=by kernel_rfl
theorem tWdays:(Tryz.prog.globals[2]?).map (·.type)=some 111:=by kernel_rfl
theorem tErrS:(Tryz.prog.globals[7]?).map (·.type)=some 157:=by kernel_rfl
theorem tErrR:(Tryz.prog.globals[8]?).map (·.type)=some 157:=by kernel_rfl
theorem tPow20:(Tryz.prog.globals[4]?).map (·.type)=some 216:=by kernel_rfl
theorem gBru : Tryz.prog.globalNamed "math/bits.deBruijn64tab" = some 6 := by kernel_rfl
theorem cStr:Tryz.prog.cellsOf 9=1:=by kernel_rfl
theorem read_strs {W:World} {n:String} {g:Nat} {ls:List (List UInt8)} (hg:Tryz.prog.globalNamed n=some g) (hy:(Tryz.prog.globals[g]?).map (·.type)=some 111) (h:Lib.VarReads Tryz.prog W n (.agg (ls.map fun s=>(.lit (.string s):DataW Unit)))) (i:Nat) (hi:i<7) (s:List UInt8) (hs:ls[i]? = some s):
  W.cell? ⟨g,i,none⟩=some (.string (str s)):=by
 obtain⟨g',t',cs,fuel,p,h1,h2,hv,hd⟩:=h
 obtain rfl:=Option.some.inj (hg.symm.trans h1)
 obtain rfl:=Option.some.inj (hy.symm.trans h2)
 rw[World.var?_cell hg hv i,←Array.getElem?_toList]
 exact strs_tab Tryz.underlying111 Tryz.underlying9 cStr hd i hi s hs
theorem read_err {W:World} {n nm:String} {g:Nat} {d:DataW Unit} (hg:Tryz.prog.globalNamed n=some g) (hy:(Tryz.prog.globals[g]?).map (·.type)=some 157) (h:Lib.VarReads Tryz.prog W n (.iface nm d)):
  ∃te pe,W.cell? ⟨g,0,none⟩=some (.iface te pe):=by
 obtain⟨g',t',cs,fuel,p,h1,h2,hv,hd⟩:=h
 obtain rfl:=Option.some.inj (hg.symm.trans h1)
 obtain rfl:=Option.some.inj (hy.symm.trans h2)
 obtain⟨_,u,v,e,_,_⟩:=iface_of_trod Tryz.underlying157 hd
 refine⟨u,v,?_⟩
 rw[World.var?_cell hg hv 0,←Array.getElem?_toList,e];rfl
theorem low_of {W:World} {n:String} {g:Nat} {d:DataW Unit} (hg:Tryz.prog.globalNamed n=some g) (h:Lib.VarReads Tryz.prog W n d) (h8:8≤g):8<W.heap.size:=by
 obtain⟨g',t',cs,fuel,p,h1,h2,hv,hd⟩:=h
 obtain rfl:=Option.some.inj (hg.symm.trans h1)
 rcases Nat.lt_or_ge g W.heap.size with k|k
 ·omega
 ·exfalso
  unfold World.var? at hv
  rw[hg] at hv
  simp[Array.getElem?_eq_none k] at hv
theorem tabs_of {W:World} (h:laidMet Tryz.prog Rows.meetShiftsRow.laid W) (hS:W.ShapedOpen Tryz.prog):Tabs W where
 pow:=Lib.tabIs_of_head gPow tPow20 Tryz.underlying216 Tryz.underlying179 (by kernel_rfl) (by kernel_rfl) (laidMet.tail (laidMet.tail h))
 low:=by
  first
   | exact low_of gBru (Lib.laidMet.reads h (n := "math/bits.deBruijn64tab") (d := Rows.laid_math_bits_deBruijn64tab) (List.mem_of_getElem? (i := 1) rfl)) (by decide)
   | exact low_of gErrR (Lib.laidMet.reads h (n := "strconv.ErrRange") (d := Rows.laid_strconv_ErrRange) (List.mem_of_getElem? (i := 4) rfl)) (by decide)
 words:=fun k hk=>by
  have r := Lib.laidMet.reads h (n := "convoker/rule.words") (d := Rows.laid_convoker_rule_words) (List.mem_of_getElem? (i := 6) rfl)
  have r' : Lib.VarReads Tryz.prog W "convoker/rule.words" (.agg ([freqW 1, freqW 2, freqW 3, freqW 4, freqW 5, freqW 6, freqW 7].map fun s => (.lit (.string s) : DataW Unit))) := r
  have h7:k=0∨k=1∨k=2∨k=3∨k=4∨k=5∨k=6:=by omega
  rcases h7 with rfl|rfl|rfl|rfl|rfl|rfl|rfl<;>exact read_strs gWords tWords r' _ (by decide) _ rfl
 wdays:=fun k hk=>by
  have r := Lib.laidMet.reads h (n := "convoker/rule.weekdays") (d := Rows.laid_convoker_rule_weekdays) (List.mem_of_getElem? (i := 7) rfl)
  have r' : Lib.VarReads Tryz.prog W "convoker/rule.weekdays" (.agg ([wdayW 0, wdayW 1, wdayW 2, wdayW 3, wdayW 4, wdayW 5, wdayW 6].map fun s => (.lit (.string s) : DataW Unit))) := r
  have h7:k=0∨k=1∨k=2∨k=3∨k=4∨k=5∨k=6:=by omega
  rcases h7 with rfl|rfl|rfl|rfl|rfl|rfl|rfl<;>exact read_strs gWdays tWdays r' _ (by decide) _ rfl
 maxl:=Go.Proofs.cell_of_shapedOpen_int (P:=Tryz.prog) (g:=3) (t:=3) (zero:=#[.int .i64 0]) hS (of_decide_eq_true (by kernel_rfl)) (by kernel_rfl) rfl (by kernel_rfl) (by kernel_rfl) Tryz.underlying3
 errS := read_err gErrS tErrS (Lib.laidMet.reads h (n := "strconv.ErrSyntax") (d := Rows.laid_strconv_ErrSyntax) (List.mem_of_getElem? (i := 5) rfl))
 errR := read_err gErrR tErrR (Lib.laidMet.reads h (n := "strconv.ErrRange") (d := Rows.laid_strconv_ErrRange) (List.mem_of_getElem? (i := 4) rfl))
end Go.Proofs.YteahblfomknngaaGreatDoor.Ru
set_option linter.unusedVariables false
namespace Go.Proofs.YteahblfomknngaaGreatDoor.Ru
open Go.RowKit Cv St
end Go.Proofs.YteahblfomknngaaGreatDoor.Ru
set_option linter.unusedVariables false
namespace Go.Proofs.YteahblfomknngaaGreatDoor.Ru
open Go.RowKit Cv St
theorem RuAt.past {W:World} {S:RS} {r:Ru} (h:RuAt W S r) (v:In (Past W)):RuAt v.w S r:=h.below (show Below _ _ _ from v.h)
end Go.Proofs.YteahblfomknngaaGreatDoor.Ru
set_option linter.unusedVariables false
namespace Go.Proofs.YteahblfomknngaaGreatDoor.Ru
open Go.RowKit Cv St
theorem parse_okF (s:ByteArray) (w:World) (T:Tabs w) (r:Ru) (a x:Int) (h:ruParse s.data.toList=(r,a,x)):
  Calls Tryz.prog 124 #[.string s] w fun e w'=>∃S:RS,e= .returned (.tuple #[S.val r,.int .i64 a,.int .i64 x])∧RuAt w' S r∧RZero w.heap.size S∧Below w.heap.size w w':=by
 have:=parse_anyF w T s
 rw[h] at this
 exact this
end Go.Proofs.YteahblfomknngaaGreatDoor.Ru
