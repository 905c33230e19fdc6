/- The library's slices.Sorted(maps.Keys(m)) and maps.Clone at this program's map (what the g -/
import Derived.Test.YthkfkhejjmhomaaGreatDoorDb3
import Derived.Shelf.SlIterI.Nil
import Derived.Shelf.SlIterI.Sorted
import Derived.Shelf.SortM.Plain
import Derived.Shelf.SortM.SortNone
import Derived.Shelf.SlMaps.Clone
namespace Go.Proofs.YthkfkhejjmhomaaGreatDoor
open Go Go.RowKit Go.Proofs
open Go.Maps Go.Sort Go.Shelf
def qgo:Go.Shelf.Ren:=⟨fun|5=>69|7=>113|n=>n,fun|23=>123|25=>3|3=>48|4=>4|20=>20|n=>n,fun|n=>n⟩
theorem qvk:Go.Proofs.SlLaysW.n5 Tryz.prog qgo where
 mixed:=by kernel_rfl
 f5:=⟨ "maps.Clone[map[int][]byte,int,[]byte]",by decide,Tryz.func69.trans (congrArg some (by kernel_rfl))⟩
 f7:=Tryz.func113.trans (congrArg some (by kernel_rfl))
 t4:=Tryz.underlying4
 a4:=Tryz.isAgg4
 z4:=Tryz.sizeOf4
 v4:=Tryz.zeroValue4
 t20:=Tryz.underlying20
 a20:=Tryz.isAgg20
 z20:=Tryz.sizeOf20
 v20:=Tryz.zeroValue20
 t23:=Tryz.underlying123
 a23:=Tryz.isAgg123
 z23:=Tryz.sizeOf123
 v23:=Tryz.zeroValue123
theorem qii {w:World}{b clock:Nat}{l:List MapEntry}(d:w.1[b]?=some (.map l.toArray clock)):Calls Tryz.prog 69 #[.map (some b)] w λe f=>e=.returned (.map (some w.1.size))/\f=w.alloc (.map l.toArray clock):=
 AnyW.maps_Clone qvk b l.toArray clock w d
