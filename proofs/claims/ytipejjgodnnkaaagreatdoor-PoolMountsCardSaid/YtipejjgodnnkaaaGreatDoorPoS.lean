/- The library's slices.Sorted(maps.Keys(m)) and maps.Clone at this program's map (what the g -/
import Derived.Test.YtipejjgodnnkaaaGreatDoorPm12
import Derived.Shelf.SlIterI.Nil
import Derived.Shelf.SlIterI.Sorted
import Derived.Shelf.SortM.Plain
import Derived.Shelf.SortM.SortNone
import Derived.Shelf.SlMaps.Clone
namespace Go.Proofs.YtipejjgodnnkaaaGreatDoor
open Go Go.RowKit Go.Proofs
set_option maxRecDepth 100000
open Go.Maps Go.Sort Go.Shelf
def q9i:Go.Shelf.Ren:=⟨fun|7=>116|10=>173|n=>n,fun|23=>108|26=>3|3=>30|28=>168|0=>0|27=>167|33=>105|4=>4|n=>n,fun|n=>n⟩
theorem qmy:Go.Proofs.SlLaysZI.n7 Tryz.prog q9i where
 mixed:=by kernel_rfl
 f7:=⟨ "maps.Keys[map[int][]byte,int,[]byte]",by decide,Tryz.func116.trans (congrArg some (by kernel_rfl))⟩
 f10:=⟨ "maps.Keys[map[int][]byte,int,[]byte]$1",by decide,Tryz.func173.trans (congrArg some (by kernel_rfl))⟩
 t0:=Tryz.underlying0
 a0:=Tryz.isAgg0
 z0:=Tryz.sizeOf0
 v0:=Tryz.zeroValue0
 t4:=Tryz.underlying4
 a4:=Tryz.isAgg4
 z4:=Tryz.sizeOf4
 v4:=Tryz.zeroValue4
 t23:=Tryz.underlying108
 a23:=Tryz.isAgg108
 z23:=Tryz.sizeOf108
 v23:=Tryz.zeroValue108
 t26:=Tryz.underlying3
 a26:=Tryz.isAgg3
 z26:=Tryz.sizeOf3
 v26:=Tryz.zeroValue3
 t27:=Tryz.underlying167
 a27:=Tryz.isAgg167
 z27:=Tryz.sizeOf167
 v27:=Tryz.zeroValue167
 t28:=Tryz.underlying168
 a28:=Tryz.isAgg168
 z28:=Tryz.sizeOf168
 v28:=Tryz.zeroValue168
 t33:=Tryz.underlying105
 a33:=Tryz.isAgg105
 z33:=Tryz.sizeOf105
 v33:=Tryz.zeroValue105
def q6e:Go.Shelf.Ren:=⟨fun|6=>115|8=>171|9=>172|11=>198|13=>200|12=>199|23=>224|24=>225|14=>215|15=>216|16=>217|17=>218|18=>219|19=>220|20=>221|21=>222|22=>223|25=>230|26=>231|27=>232|28=>233|29=>234|30=>235|31=>236|n=>n,fun|26=>3|28=>168|24=>33|0=>0|3=>3|37=>241|48=>176|50=>218|4=>4|40=>255|39=>254|45=>130|5=>5|9=>9|51=>267|55=>228|57=>273|58=>91|33=>105|n=>n,fun|n=>n⟩
theorem qmz:Go.Proofs.SlLaysZI.n6 Tryz.prog q6e where
 mixed:=by kernel_rfl
 f6:=⟨ "slices.Sorted[int]",by decide,Tryz.func115.trans (congrArg some (by kernel_rfl))⟩
 f8:=⟨ "slices.Collect[int]",by decide,Tryz.func171.trans (congrArg some (by kernel_rfl))⟩
 f11:=⟨ "slices.AppendSeq[[]int,int]",by decide,Tryz.func198.trans (congrArg some (by kernel_rfl))⟩
 t0:=Tryz.underlying0
 a0:=Tryz.isAgg0
 z0:=Tryz.sizeOf0
 v0:=Tryz.zeroValue0
 t24:=Tryz.underlying33
 a24:=Tryz.isAgg33
 z24:=Tryz.sizeOf33
 v24:=Tryz.zeroValue33
 t26:=Tryz.underlying3
 a26:=Tryz.isAgg3
 z26:=Tryz.sizeOf3
 v26:=Tryz.zeroValue3
 t28:=Tryz.underlying168
 a28:=Tryz.isAgg168
 z28:=Tryz.sizeOf168
 v28:=Tryz.zeroValue168
 i26:=by kernel_rfl
def qfw:Go.Shelf.Ren:=⟨fun|5=>172|8=>200|7=>199|19=>224|20=>225|10=>215|11=>216|12=>217|13=>218|14=>219|15=>220|16=>221|17=>222|18=>223|30=>230|31=>231|32=>232|33=>233|34=>234|35=>235|40=>236|n=>n,fun|23=>33|25=>3|3=>3|32=>241|22=>33|0=>0|44=>176|46=>218|4=>4|36=>255|35=>254|41=>130|5=>5|9=>9|53=>267|57=>228|63=>273|64=>91|n=>n,fun|n=>n⟩
theorem qn0:Go.Proofs.SlLaysM.n5 Tryz.prog qfw where
 mixed:=by kernel_rfl
 f5:=⟨ "slices.Sort[[]int,int]",by decide,Tryz.func172.trans (congrArg some (by kernel_rfl))⟩
 f7:=⟨ "slices.pdqsortOrdered[int]",by decide,Tryz.func199.trans (congrArg some (by kernel_rfl))⟩
 f8:=Tryz.func200.trans (congrArg some (by kernel_rfl))
 f10:=⟨ "slices.insertionSortOrdered[int]",by decide,Tryz.func215.trans (congrArg some (by kernel_rfl))⟩
 f11:=⟨ "slices.heapSortOrdered[int]",by decide,Tryz.func216.trans (congrArg some (by kernel_rfl))⟩
 f12:=⟨ "slices.breakPatternsOrdered[int]",by decide,Tryz.func217.trans (congrArg some (by kernel_rfl))⟩
 f13:=⟨ "slices.choosePivotOrdered[int]",by decide,Tryz.func218.trans (congrArg some (by kernel_rfl))⟩
 f14:=⟨ "slices.reverseRangeOrdered[int]",by decide,Tryz.func219.trans (congrArg some (by kernel_rfl))⟩
 f15:=⟨ "slices.partialInsertionSortOrdered[int]",by decide,Tryz.func220.trans (congrArg some (by kernel_rfl))⟩
 f16:=⟨ "cmp.Less[int]",by decide,Tryz.func221.trans (congrArg some (by kernel_rfl))⟩
 f17:=⟨ "slices.partitionEqualOrdered[int]",by decide,Tryz.func222.trans (congrArg some (by kernel_rfl))⟩
 f18:=⟨ "slices.partitionOrdered[int]",by decide,Tryz.func223.trans (congrArg some (by kernel_rfl))⟩
 f19:=Tryz.func224.trans (congrArg some (by kernel_rfl))
 f20:=Tryz.func225.trans (congrArg some (by kernel_rfl))
 f30:=⟨ "slices.siftDownOrdered[int]",by decide,Tryz.func230.trans (congrArg some (by kernel_rfl))⟩
 f31:=Tryz.func231.trans (congrArg some (by kernel_rfl))
 f32:=Tryz.func232.trans (congrArg some (by kernel_rfl))
 f33:=⟨ "slices.medianAdjacentOrdered[int]",by decide,Tryz.func233.trans (congrArg some (by kernel_rfl))⟩
 f34:=⟨ "slices.medianOrdered[int]",by decide,Tryz.func234.trans (congrArg some (by kernel_rfl))⟩
 f35:=⟨ "cmp.isNaN[int]",by decide,Tryz.func235.trans (congrArg some (by kernel_rfl))⟩
 f40:=⟨ "slices.order2Ordered[int]",by decide,Tryz.func236.trans (congrArg some (by kernel_rfl))⟩
 t0:=Tryz.underlying0
 a0:=Tryz.isAgg0
 z0:=Tryz.sizeOf0
 v0:=Tryz.zeroValue0
 t3:=Tryz.underlying3
 a3:=Tryz.isAgg3
 z3:=Tryz.sizeOf3
 v3:=Tryz.zeroValue3
 t4:=Tryz.underlying4
 a4:=Tryz.isAgg4
 z4:=Tryz.sizeOf4
 v4:=Tryz.zeroValue4
 t5:=Tryz.underlying5
 a5:=Tryz.isAgg5
 z5:=Tryz.sizeOf5
 v5:=Tryz.zeroValue5
 t9:=Tryz.underlying9
 a9:=Tryz.isAgg9
 z9:=Tryz.sizeOf9
 v9:=Tryz.zeroValue9
 t22:=Tryz.underlying33
 a22:=Tryz.isAgg33
 z22:=Tryz.sizeOf33
 v22:=Tryz.zeroValue33
 t23:=Tryz.underlying33
 a23:=Tryz.isAgg33
 z23:=Tryz.sizeOf33
 v23:=Tryz.zeroValue33
 t25:=Tryz.underlying3
 a25:=Tryz.isAgg3
 z25:=Tryz.sizeOf3
 v25:=Tryz.zeroValue3
 t32:=Tryz.underlying241
 a32:=Tryz.isAgg241
 z32:=Tryz.sizeOf241
 v32:=Tryz.zeroValue241
 t35:=Tryz.underlying254
 a35:=Tryz.isAgg254
 z35:=Tryz.sizeOf254
 v35:=Tryz.zeroValue254
 t36:=Tryz.underlying255
 a36:=Tryz.isAgg255
 z36:=Tryz.sizeOf255
 v36:=Tryz.zeroValue255
 t41:=Tryz.underlying130
 a41:=Tryz.isAgg130
 z41:=Tryz.sizeOf130
 v41:=Tryz.zeroValue130
 t44:=Tryz.underlying176
 a44:=Tryz.isAgg176
 z44:=Tryz.sizeOf176
 v44:=Tryz.zeroValue176
 t46:=Tryz.underlying218
 a46:=Tryz.isAgg218
 z46:=Tryz.sizeOf218
 v46:=Tryz.zeroValue218
 t53:=Tryz.underlying267
 a53:=Tryz.isAgg267
 z53:=Tryz.sizeOf267
 v53:=Tryz.zeroValue267
 t57:=Tryz.underlying228
 a57:=Tryz.isAgg228
 z57:=Tryz.sizeOf228
 v57:=Tryz.zeroValue228
 t63:=Tryz.underlying273
 a63:=Tryz.isAgg273
 z63:=Tryz.sizeOf273
 v63:=Tryz.zeroValue273
 t64:=Tryz.underlying91
 a64:=Tryz.isAgg91
 z64:=Tryz.sizeOf91
 v64:=Tryz.zeroValue91
theorem qsk (m:Nat):AnyZI.SortsIn Tryz.prog q6e Fence.wide m:=
 ⟨fun blk off cap ss W hH hblk hsz=>callsIn_wide.2 (AnyM.slices_Sort_int qn0 blk off cap ss W hH hblk hsz),
  fun p cap W=>callsIn_wide.2 (AnyM.slices_Sort_int_none qn0 p cap W)⟩
def noR:Value→Option (DataW Unit × List MemPlace):=fun _=>some (.nil,[])
theorem qtt {P:Program}{k:TypeId}(hk:P.underlying k=some (.int .i64)){z:Int}(h0:0≤z)(h1:z≤100000):Go.keyOf P k (.int .i64 z)=some (.int .i64 z):=by
 have hw:(Lit.int .i64 z).wf=true:=by
  show (decide (IntKind.i64.min≤z)&&decide (z≤IntKind.i64.max))=true
  rw[Bool.and_eq_true]
  have e1:IntKind.i64.min=-9223372036854775808:=by decide
  have e2:IntKind.i64.max=9223372036854775807:=by decide
  rw[e1,e2]
  exact⟨decide_eq_true (by omega),decide_eq_true (by omega)⟩
 simp[Go.keyOf,hk,mapKey,hw]
theorem qn1 {P:Program}{k:TypeId}(hk:P.underlying k=some (.int .i64)){w:World}{b clock:Nat}{l:List MapEntry}(hb:w.heap[b]?=some (.map l.toArray clock))(E:Ents l clock)(hr:∀e∈l,0≤kI e∧kI e≤100000)(hl:l.length≤100000) :
  ∃D0:DataW Unit,w.ownsMap P k noR b l.length D0∧(intKeys D0).Perm (l.map kI)∧Maps.size D0=l.length:=by
 have hrd:∀e∈l,WideElems.rd P k noR e=some (.int .i64 (kI e),.nil):=fun e he=>by
  unfold WideElems.rd
  rw[E.key e he,qtt hk (hr e he).1 (hr e he).2]
  rfl
 have hrg:l.map (WideElems.rg P k noR)=l.map fun e=>((.int .i64 (kI e),.nil):Lit × DataW Unit):=List.map_congr_left fun e he=>WideElems.rg_of (hrd e he)
 refine⟨_,⟨l.toArray,clock,hb,⟨by rw[List.size_toArray];unfold maxLen;omega,⟨fun x hx=>E.clock x hx,E.born,?_⟩,fun x hx=>⟨_,hrd x hx⟩⟩,Nat.le_refl _,rfl⟩,?_,?_⟩
 ·show (l.map (·.key)).Nodup
  have:l.map (·.key)=(l.map kI).map (Value.int .i64):=by
   rw[List.map_map]
   exact List.map_congr_left fun e he=>E.key e he
  rw[this]
  exact List.Pairwise.map _ (fun a b hab h=>hab (by injection h)) E.one
 ·show (((l.map (WideElems.rg P k noR)).foldr DataW.insert []).map fun p=>_root_.Go.intOf p.1).Perm (l.map kI)
  rw[hrg]
  refine ((Go.WideShapes.sorted_perm _).map _).trans ?_
  rw[List.map_map]
  exact List.Perm.refl _
 ·show ((l.map (WideElems.rg P k noR)).foldr DataW.insert []).length=l.length
  rw[length_sorted,List.length_map]
theorem qje (mb:Option Nat)(w:World):Calls Tryz.prog 116 #[.map mb] w fun e w'=>e=.returned (.func (.func 173) #[] #[.pointer (some ⟨w.heap.size,0,none⟩)])∧w'=w.alloc (.cells #[.map mb] 108):=
 (callsIn_wide (n:=5)).1 (AnyZI.keys_in qmy Fence.wide 5 trivial rfl mb w)
def keysZ (l:List MapEntry):List Int:=(l.map kI).mergeSort fun x y=>decide (x≤y)
theorem qec {w:World}{b clock Bm:Nat}{l:List MapEntry}(hb:w.heap[b]?=some (.map l.toArray clock))(E:Ents l clock)(hr:∀e∈l,0≤kI e∧kI e≤100000)(hl:l.length≤100000)(hm:w.heap[Bm]?=some (.cells #[.map (some b)] 108 (0,0))) :
  Calls Tryz.prog 115 #[.func (.func 173) #[] #[.pointer (some ⟨Bm,0,none⟩)]] w fun e w'=>∃v:Value,e=.returned v∧w'.ownsRow w.heap.size 3 1 v l.length ((keysZ l).map (Value.int .i64))∧Below w.heap.size w w':=by
 obtain⟨D0,hown,hperm,hsz⟩:=qn1 Tryz.underlying3 hb E hr hl
 have hcell:w.cell? ⟨Bm,0,none⟩=some (.map (some b)):=by rw[cell_of_row _ _ _ _ _ _ hm];rfl
 have hseq:SeqGives Fence.wide 2 Tryz.prog 173 #[.pointer (some ⟨Bm,0,none⟩)] encZ (fun ss=>ss.Perm (intKeys D0)) (Maps.size D0) w:=
  AnyZI.keys_gives (ρ:=q9i) { qmy with } Fence.wide _ trivial rfl (by omega) Bm b l.length D0 _ (q01 hm) hcell hown
 have cS:=AnyZI.sorted_in qmz Fence.wide 5 trivial trivial trivial trivial rfl (by omega) (qsk _) (enters_of Tryz.func172 (by kernel_rfl) rfl) 173 #[.pointer (some ⟨Bm,0,none⟩)] trivial (enters_of Tryz.func173 (by kernel_rfl) rfl) _ _ (by rw[hsz];unfold maxLen;omega) (by rw[hsz];omega) w hseq
 refine ((callsIn_wide (n:=5)).1 cS).mono ?_
 rintro e w' ⟨v,ss,rfl,hS,hrow,_,hB⟩
 have hp:ss.Perm (l.map kI):=hS.trans hperm
 have hlen:ss.length=l.length:=by rw[hp.length_eq,List.length_map]
 rw[hlen,mergeSort_of_perm_i hp] at hrow
 exact⟨v,rfl,hrow,hB⟩
theorem qed:∀{l m:List Nat},l.Pairwise (· < ·)→m.Pairwise (· < ·)→(∀x,x∈l↔x∈m)→l=m
 |[],[],_,_,_=>rfl
 |[],b::m,_,_,h=>by have:=(h b).2 (by simp);cases this
 |a::l,[],_,_,h=>by have:=(h a).1 (by simp);cases this
 |a::l,b::m,hl,hm,h=>by
  rw[List.pairwise_cons] at hl hm
  have hab:a=b:=by
   rcases List.mem_cons.1 ((h a).1 (by simp)) with e|e
   ·exact e
   ·rcases List.mem_cons.1 ((h b).2 (by simp)) with e2|e2
    ·exact e2.symm
    ·have:=hm.1 a e;have:=hl.1 b e2;omega
  subst hab
  rw[qed hl.2 hm.2 fun x=>?_]
  constructor
  ·intro hx
   rcases List.mem_cons.1 ((h x).1 (by simp[hx])) with e|e
   ·subst e;have:=hl.1 x hx;omega
   ·exact e
  ·intro hx
   rcases List.mem_cons.1 ((h x).2 (by simp[hx])) with e|e
   ·subst e;have:=hm.1 x hx;omega
   ·exact e
theorem qpl {l:List MapEntry}{clock n:Nat}(E:Ents l clock)(f:Nat→Bool)(h1:∀e∈l,∃a:Nat,a<n∧kI e=a)(h2:∀a:Nat,a<n→((getE a l).isSome=f a)):keysZ l=((List.range n).filter f).map fun a:Nat=>(a:Int):=by
 have hp:(keysZ l).Perm (l.map kI):=List.mergeSort_perm _ _
 have hnd:(keysZ l).Nodup:=(List.Perm.nodup_iff hp).2 E.one
 have hso:(keysZ l).Pairwise fun a b=>decide (a≤b)=true:=List.pairwise_mergeSort (fun a b c h1 h2=>by simp at *;omega) (fun a b=>by simp;omega) _
 have hmem:∀z,z∈keysZ l↔∃a:Nat,a<n∧f a=true∧z=a:=fun z=>by
  rw[hp.mem_iff,List.mem_map]
  constructor
  ·rintro⟨e,he,rfl⟩
   obtain⟨a,ha,hk⟩:=h1 e he
   refine⟨a,ha,?_,hk⟩
   rw[←h2 a ha,←hk,q2q E.one he]
   rfl
  ·rintro⟨a,ha,hf,rfl⟩
   rw[←h2 a ha] at hf
   obtain⟨v,hv⟩:=Option.isSome_iff_exists.1 hf
   obtain⟨e,he,hk,_⟩:=q7g hv
   exact⟨e,he,hk⟩
 have hnat:∀z∈keysZ l,((z.toNat:Nat):Int)=z:=fun z hz=>by
  obtain⟨a,_,_,rfl⟩:=(hmem z).1 hz
  simp
 have hkey:keysZ l=((keysZ l).map Int.toNat).map fun a:Nat=>(a:Int):=by
  rw[List.map_map]
  conv=>lhs;rw[←List.map_id (keysZ l)]
  exact List.map_congr_left fun z hz=>(hnat z hz).symm
 rw[hkey]
 congr 1
 refine qed ?_ ?_ fun x=>?_
 ·refine List.pairwise_map.2 ?_
  refine (hso.and hnd).imp_of_mem fun {a b} ha hb h=>?_
  have h3:=hnat a ha
  have h4:=hnat b hb
  have h5:a≤b:=of_decide_eq_true h.1
  have h6:a≠b:=h.2
  omega
 ·exact List.Pairwise.filter _ List.pairwise_lt_range
 ·rw[List.mem_map,List.mem_filter,List.mem_range]
  constructor
  ·rintro⟨z,hz,rfl⟩
   obtain⟨a,ha,hf,rfl⟩:=(hmem z).1 hz
   exact⟨by simpa using ha,by simpa using hf⟩
  ·rintro⟨ha,hf⟩
   exact⟨(x:Int),(hmem _).2 ⟨x,ha,hf,rfl⟩,by simp⟩
end Go.Proofs.YtipejjgodnnkaaaGreatDoor
