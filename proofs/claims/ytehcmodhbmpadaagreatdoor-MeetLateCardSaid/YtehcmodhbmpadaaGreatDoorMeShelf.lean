/- More contracts of the shelf at this dump (made by the kit's own tools, in plain words). -/
import Derived.Test.YtehcmodhbmpadaaGreatDoorShelf
import Derived.Shelf.Bytes.SlCut
set_option linter.unusedVariables false
namespace Go.Proofs
open Go.Shelf
def Tryz.lays185_ren:Go.Shelf.Ren:=⟨fun|185=>102|187=>147|115=>146|253=>148|224=>149|254=>150|255=>188|291=>189|n=>n,fun|37=>28|3=>3|4=>4|0=>0|5=>5|46=>135|9=>9|146=>212|51=>177|n=>n,fun|1=>3|n=>n⟩
theorem Tryz.lays185:Go.Proofs.Lays.n185 Tryz.prog Tryz.lays185_ren:={
 mixed:=by kernel_rfl
 f115:=Tryz.func146.trans (congrArg some (by kernel_rfl))
 f185:=Tryz.func102.trans (congrArg some (by kernel_rfl))
 f187:=Tryz.func147.trans (congrArg some (by kernel_rfl))
 f224:=Tryz.func149.trans (congrArg some (by kernel_rfl))
 f253:=Tryz.func148.trans (congrArg some (by kernel_rfl))
 f254:=Tryz.func150.trans (congrArg some (by kernel_rfl))
 f255:=Tryz.func188.trans (congrArg some (by kernel_rfl))
 f291:=Tryz.func189.trans (congrArg some (by kernel_rfl))
 t0:=Tryz.underlying0
 a0:=Tryz.isAgg0
 z0:=Tryz.sizeOf0
 v0:=Tryz.zeroValue0
 t3:=Tryz.underlying3
 a3:=Tryz.isAgg3
 z3:=Tryz.sizeOf3
 v3:=Tryz.zeroValue3
 t4:=Tryz.underlying4
 a4:=Tryz.isAgg4
 z4:=Tryz.sizeOf4
 v4:=Tryz.zeroValue4
 t5:=Tryz.underlying5
 a5:=Tryz.isAgg5
 z5:=Tryz.sizeOf5
 v5:=Tryz.zeroValue5
 t9:=Tryz.underlying9
 a9:=Tryz.isAgg9
 z9:=Tryz.sizeOf9
 v9:=Tryz.zeroValue9
 t37:=Tryz.underlying28
 a37:=Tryz.isAgg28
 z37:=Tryz.sizeOf28
 v37:=Tryz.zeroValue28
 t46:=Tryz.underlying135
 a46:=Tryz.isAgg135
 z46:=Tryz.sizeOf135
 v46:=Tryz.zeroValue135
 t51:=Tryz.underlying177
 a51:=Tryz.isAgg177
 z51:=Tryz.sizeOf177
 v51:=Tryz.zeroValue177
 t146:=Tryz.underlying212
 a146:=Tryz.isAgg212
 z146:=Tryz.sizeOf212
 v146:=Tryz.zeroValue212
 g1:=by kernel_rfl }
open Go.RowKit Go.Lib in
theorem Tryz.bytes_Index_one (b o n c b2 o2 d:Nat) (xs:List Int) (cv:Int) (w:World) (hx:xs.length=n) (hc:∀i,i<n→w.cell? ⟨b,o+i,none⟩=some (.int .u8 (xs.getD i 0))) (hc2:w.cell? ⟨b2,o2,none⟩=some (.int .u8 cv)):
 Calls Tryz.prog 102 #[.slice (some ⟨b,o,none⟩) n c,.slice (some ⟨b2,o2,none⟩) 1 d] w fun e w'=>e= .returned (.int .i64 (Lib.indexByte (Lib.bytesOf xs) cv.toNat.toUInt8))∧w'=w:=Any.bytes_Index_one Tryz.lays185 b o n c b2 o2 d xs cv w hx hc hc2
def Tryz.laysSlT4_ren:Go.Shelf.Ren:=⟨fun|4=>60|5=>102|6=>147|7=>146|8=>148|9=>149|10=>150|11=>188|12=>189|n=>n,fun|22=>28|4=>4|3=>3|0=>0|5=>5|29=>135|9=>9|31=>212|30=>177|n=>n,fun|0=>3|n=>n⟩
theorem Tryz.laysSlT4:Go.Proofs.SlLaysT.n4 Tryz.prog Tryz.laysSlT4_ren:={
 mixed:=by kernel_rfl
 f4:=Tryz.func60.trans (congrArg some (by kernel_rfl))
 f5:=Tryz.func102.trans (congrArg some (by kernel_rfl))
 f6:=Tryz.func147.trans (congrArg some (by kernel_rfl))
 f7:=Tryz.func146.trans (congrArg some (by kernel_rfl))
 f8:=Tryz.func148.trans (congrArg some (by kernel_rfl))
 f9:=Tryz.func149.trans (congrArg some (by kernel_rfl))
 f10:=Tryz.func150.trans (congrArg some (by kernel_rfl))
 f11:=Tryz.func188.trans (congrArg some (by kernel_rfl))
 f12:=Tryz.func189.trans (congrArg some (by kernel_rfl))
 t0:=Tryz.underlying0
 a0:=Tryz.isAgg0
 z0:=Tryz.sizeOf0
 v0:=Tryz.zeroValue0
 t3:=Tryz.underlying3
 a3:=Tryz.isAgg3
 z3:=Tryz.sizeOf3
 v3:=Tryz.zeroValue3
 t4:=Tryz.underlying4
 a4:=Tryz.isAgg4
 z4:=Tryz.sizeOf4
 v4:=Tryz.zeroValue4
 t5:=Tryz.underlying5
 a5:=Tryz.isAgg5
 z5:=Tryz.sizeOf5
 v5:=Tryz.zeroValue5
 t9:=Tryz.underlying9
 a9:=Tryz.isAgg9
 z9:=Tryz.sizeOf9
 v9:=Tryz.zeroValue9
 t22:=Tryz.underlying28
 a22:=Tryz.isAgg28
 z22:=Tryz.sizeOf28
 v22:=Tryz.zeroValue28
 t29:=Tryz.underlying135
 a29:=Tryz.isAgg135
 z29:=Tryz.sizeOf135
 v29:=Tryz.zeroValue135
 t30:=Tryz.underlying177
 a30:=Tryz.isAgg177
 z30:=Tryz.sizeOf177
 v30:=Tryz.zeroValue177
 t31:=Tryz.underlying212
 a31:=Tryz.isAgg212
 z31:=Tryz.sizeOf212
 v31:=Tryz.zeroValue212
 g0:=by kernel_rfl }
theorem Tryz.bytes_Cut_of (p1 p2:Option Addr) (n c1 k c2:Nat) (i:Int) (w:World) (hcap:n≤c1) (hlo:-1≤i) (hroom:0≤i→i+k≤n) (hn:n≤4611686018427387904) (hidx:Calls Tryz.prog 102 #[.slice p1 n c1,.slice p2 k c2] w fun e w'=>e= .returned (.int .i64 i)∧∃q,w'=w.drewN q):
 Calls Tryz.prog 60 #[.slice p1 n c1,.slice p2 k c2] w fun e w'=>e= .returned (Lib.cutV p1 n c1 k i)∧∃q,w'=w.drewN q:=Any.bytes_Cut_of Tryz.laysSlT4 p1 p2 n c1 k c2 i w hcap hlo hroom hn hidx
end Go.Proofs
