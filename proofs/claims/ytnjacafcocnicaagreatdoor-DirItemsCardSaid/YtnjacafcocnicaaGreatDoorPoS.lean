/- The library's slices.Sorted(maps.Keys(m)) and maps.Clone at this program's map (what the g -/
import Derived.Test.YtnjacafcocnicaaGreatDoorDv5
import Derived.Shelf.SlIterI.Nil
import Derived.Shelf.SlIterI.Sorted
import Derived.Shelf.SortM.Plain
import Derived.Shelf.SortM.SortNone
import Derived.Shelf.SlMaps.Clone
namespace Go.Proofs.YtnjacafcocnicaaGreatDoor
open Go Go.RowKit Go.Proofs Tryz
set_option maxRecDepth 100000
open Go.Maps Go.Sort Go.Shelf
def qce:Go.Shelf.Ren:=⟨fun|7=>90|10=>152|n=>n,fun|23=>111|26=>3|3=>48|28=>167|0=>0|27=>166|33=>115|4=>4|n=>n,fun|n=>n⟩
theorem quj:Go.Proofs.SlLaysZI.n7 prog qce where
 mixed:=by kernel_rfl
 f7:=⟨ "maps.Keys[map[int][]byte,int,[]byte]",by decide,func90.trans (congrArg some (by kernel_rfl))⟩
 f10:=⟨ "maps.Keys[map[int][]byte,int,[]byte]$1",by decide,func152.trans (congrArg some (by kernel_rfl))⟩
 t0:=underlying0
 a0:=Tryz.isAgg0
 z0:=Tryz.sizeOf0
 v0:=Tryz.zeroValue0
 t4:=underlying4
 a4:=Tryz.isAgg4
 z4:=Tryz.sizeOf4
 v4:=Tryz.zeroValue4
 t23:=underlying111
 a23:=Tryz.isAgg111
 z23:=Tryz.sizeOf111
 v23:=Tryz.zeroValue111
 t26:=underlying3
 a26:=Tryz.isAgg3
 z26:=Tryz.sizeOf3
 v26:=Tryz.zeroValue3
 t27:=underlying166
 a27:=Tryz.isAgg166
 z27:=Tryz.sizeOf166
 v27:=Tryz.zeroValue166
 t28:=underlying167
 a28:=Tryz.isAgg167
 z28:=Tryz.sizeOf167
 v28:=Tryz.zeroValue167
 t33:=underlying115
 a33:=Tryz.isAgg115
 z33:=Tryz.sizeOf115
 v33:=Tryz.zeroValue115
def q7r:Go.Shelf.Ren:=⟨fun|6=>89|8=>150|9=>151|11=>184|13=>56|12=>185|23=>102|24=>103|14=>202|15=>203|16=>204|17=>205|18=>206|19=>207|20=>208|21=>209|22=>210|25=>228|26=>156|27=>157|28=>229|29=>230|30=>231|31=>235|n=>n,fun|26=>3|28=>167|24=>108|0=>0|3=>3|37=>118|48=>179|50=>181|4=>4|40=>173|39=>172|45=>122|5=>5|9=>9|51=>237|55=>204|57=>272|58=>148|33=>115|n=>n,fun|n=>n⟩
theorem quk:Go.Proofs.SlLaysZI.n6 prog q7r where
 mixed:=by kernel_rfl
 f6:=⟨ "slices.Sorted[int]",by decide,func89.trans (congrArg some (by kernel_rfl))⟩
 f8:=⟨ "slices.Collect[int]",by decide,func150.trans (congrArg some (by kernel_rfl))⟩
 f11:=⟨ "slices.AppendSeq[[]int,int]",by decide,func184.trans (congrArg some (by kernel_rfl))⟩
 t0:=underlying0
 a0:=Tryz.isAgg0
 z0:=Tryz.sizeOf0
 v0:=Tryz.zeroValue0
 t24:=underlying108
 a24:=Tryz.isAgg108
 z24:=Tryz.sizeOf108
 v24:=Tryz.zeroValue108
 t26:=underlying3
 a26:=Tryz.isAgg3
 z26:=Tryz.sizeOf3
 v26:=Tryz.zeroValue3
 t28:=underlying167
 a28:=Tryz.isAgg167
 z28:=Tryz.sizeOf167
 v28:=Tryz.zeroValue167
 i26:=by kernel_rfl
def qkr:Go.Shelf.Ren:=⟨fun|5=>151|8=>56|7=>185|19=>102|20=>103|10=>202|11=>203|12=>204|13=>205|14=>206|15=>207|16=>208|17=>209|18=>210|30=>228|31=>156|32=>157|33=>229|34=>230|35=>231|40=>235|n=>n,fun|23=>108|25=>3|3=>3|32=>118|22=>108|0=>0|44=>179|46=>181|4=>4|36=>173|35=>172|41=>122|5=>5|9=>9|53=>237|57=>204|63=>272|64=>148|n=>n,fun|n=>n⟩
theorem qul:Go.Proofs.SlLaysM.n5 prog qkr where
 mixed:=by kernel_rfl
 f5:=⟨ "slices.Sort[[]int,int]",by decide,func151.trans (congrArg some (by kernel_rfl))⟩
 f7:=⟨ "slices.pdqsortOrdered[int]",by decide,func185.trans (congrArg some (by kernel_rfl))⟩
 f8:=func56.trans (congrArg some (by kernel_rfl))
 f10:=⟨ "slices.insertionSortOrdered[int]",by decide,func202.trans (congrArg some (by kernel_rfl))⟩
 f11:=⟨ "slices.heapSortOrdered[int]",by decide,func203.trans (congrArg some (by kernel_rfl))⟩
 f12:=⟨ "slices.breakPatternsOrdered[int]",by decide,func204.trans (congrArg some (by kernel_rfl))⟩
 f13:=⟨ "slices.choosePivotOrdered[int]",by decide,func205.trans (congrArg some (by kernel_rfl))⟩
 f14:=⟨ "slices.reverseRangeOrdered[int]",by decide,func206.trans (congrArg some (by kernel_rfl))⟩
 f15:=⟨ "slices.partialInsertionSortOrdered[int]",by decide,func207.trans (congrArg some (by kernel_rfl))⟩
 f16:=⟨ "cmp.Less[int]",by decide,func208.trans (congrArg some (by kernel_rfl))⟩
 f17:=⟨ "slices.partitionEqualOrdered[int]",by decide,func209.trans (congrArg some (by kernel_rfl))⟩
 f18:=⟨ "slices.partitionOrdered[int]",by decide,func210.trans (congrArg some (by kernel_rfl))⟩
 f19:=func102.trans (congrArg some (by kernel_rfl))
 f20:=func103.trans (congrArg some (by kernel_rfl))
 f30:=⟨ "slices.siftDownOrdered[int]",by decide,func228.trans (congrArg some (by kernel_rfl))⟩
 f31:=func156.trans (congrArg some (by kernel_rfl))
 f32:=func157.trans (congrArg some (by kernel_rfl))
 f33:=⟨ "slices.medianAdjacentOrdered[int]",by decide,func229.trans (congrArg some (by kernel_rfl))⟩
 f34:=⟨ "slices.medianOrdered[int]",by decide,func230.trans (congrArg some (by kernel_rfl))⟩
 f35:=⟨ "cmp.isNaN[int]",by decide,func231.trans (congrArg some (by kernel_rfl))⟩
 f40:=⟨ "slices.order2Ordered[int]",by decide,func235.trans (congrArg some (by kernel_rfl))⟩
 t0:=underlying0
 a0:=Tryz.isAgg0
 z0:=Tryz.sizeOf0
 v0:=Tryz.zeroValue0
 t3:=underlying3
 a3:=Tryz.isAgg3
 z3:=Tryz.sizeOf3
 v3:=Tryz.zeroValue3
 t4:=underlying4
 a4:=Tryz.isAgg4
 z4:=Tryz.sizeOf4
 v4:=Tryz.zeroValue4
 t5:=underlying5
 a5:=Tryz.isAgg5
 z5:=Tryz.sizeOf5
 v5:=Tryz.zeroValue5
 t9:=underlying9
 a9:=Tryz.isAgg9
 z9:=Tryz.sizeOf9
 v9:=Tryz.zeroValue9
 t22:=underlying108
 a22:=Tryz.isAgg108
 z22:=Tryz.sizeOf108
 v22:=Tryz.zeroValue108
 t23:=underlying108
 a23:=Tryz.isAgg108
 z23:=Tryz.sizeOf108
 v23:=Tryz.zeroValue108
 t25:=underlying3
 a25:=Tryz.isAgg3
 z25:=Tryz.sizeOf3
 v25:=Tryz.zeroValue3
 t32:=underlying118
 a32:=Tryz.isAgg118
 z32:=Tryz.sizeOf118
 v32:=Tryz.zeroValue118
 t35:=underlying172
 a35:=Tryz.isAgg172
 z35:=Tryz.sizeOf172
 v35:=Tryz.zeroValue172
 t36:=underlying173
 a36:=Tryz.isAgg173
 z36:=Tryz.sizeOf173
 v36:=Tryz.zeroValue173
 t41:=underlying122
 a41:=Tryz.isAgg122
 z41:=Tryz.sizeOf122
 v41:=Tryz.zeroValue122
 t44:=underlying179
 a44:=Tryz.isAgg179
 z44:=Tryz.sizeOf179
 v44:=Tryz.zeroValue179
 t46:=underlying181
 a46:=Tryz.isAgg181
 z46:=Tryz.sizeOf181
 v46:=Tryz.zeroValue181
 t53:=underlying237
 a53:=Tryz.isAgg237
 z53:=Tryz.sizeOf237
 v53:=Tryz.zeroValue237
 t57:=underlying204
 a57:=Tryz.isAgg204
 z57:=Tryz.sizeOf204
 v57:=Tryz.zeroValue204
 t63:=underlying272
 a63:=Tryz.isAgg272
 z63:=Tryz.sizeOf272
 v63:=Tryz.zeroValue272
 t64:=underlying148
 a64:=Tryz.isAgg148
 z64:=Tryz.sizeOf148
 v64:=Tryz.zeroValue148
theorem qBh (m:Nat):AnyZI.SortsIn prog q7r Fence.wide m:=
 ⟨λblk off cap u W q e f=>callsIn_wide.2 (AnyM.slices_Sort_int qul blk off cap u W q e f),
  λp cap W=>callsIn_wide.2 (AnyM.slices_Sort_int_none qul p cap W)⟩
def noR:Value->Option (DataW Unit × List MemPlace):=λ_=>some (.nil,[])
theorem qCq {P:Program}{k:TypeId}(m:P.underlying k=some (.int .i64)){z:Int}(h0:0<=z)(h1:z<=100000):Go.keyOf P k (.int .i64 z)=some (.int .i64 z):=by
 have p:(Lit.int .i64 z).wf=true:=by
  show (decide (IntKind.i64.min<=z)&&decide (z<=IntKind.i64.max))=true;rw[BN];have e:IntKind.i64.min=-9223372036854775808:=by decide
  have f:IntKind.i64.max=9223372036854775807:=by decide
  rw[e,f];exact⟨AL (by omega),AL (by omega)⟩
 simp[Go.keyOf,m,mapKey,p]
theorem qum {P:Program}{k:TypeId}(F:P.underlying k=some (.int .i64)){w:WD}{b clock:Nat}{l:List MapEntry}(D:w.1[b]?=some (.map l.toArray clock))(E:Uo l clock)(B:∀e∈l,0<=kI e/\kI e<=100000)(G:l.length<=100000) :
  ∃q:DataW Unit,w.ownsMap P k noR b l.length q/\(intKeys q).Perm (l.map kI)/\Maps.size q=l.length:=by
 have m:∀e∈l,WideElems.rd P k noR e=some (.int .i64 (kI e),.nil):=λe f=>by
  unfold WideElems.rd;rw[E.key e f,qCq F (B e f).1 (B e f).2];rfl
 have y:l.map (WideElems.rg P k noR)=l.map λe=>((.int .i64 (kI e),.nil):Lit × DataW Unit):=List.map_congr_left λe f=>WideElems.rg_of (m e f)
 refine⟨_,⟨l.toArray,clock,D,⟨by rw[List.size_toArray];unfold maxLen;omega,⟨λx A=>E.clock x A,E.born,?_⟩,λx A=>⟨_,m x A⟩⟩,AE _,rfl⟩,?_,?_⟩
 ·show (l.map (·.key)).Nodup;have:l.map (·.key)=(l.map kI).map (Value.int .i64):=by
   rw[List.map_map];exact List.map_congr_left λe f=>E.key e f
  rw[this];exact List.Pairwise.map _ (λa b u h=>u (by injection h)) E.one
 ·show (((l.map (WideElems.rg P k noR)).foldr DataW.insert []).map λp=>_root_.Go.intOf p.1).Perm (l.map kI);rw[y];refine ((Go.WideShapes.sorted_perm _).map _).trans ?_;rw[List.map_map];exact List.Perm.refl _
 ·show ((l.map (WideElems.rg P k noR)).foldr DataW.insert []).length=l.length;rw[length_sorted,AF]
theorem qpr (mb:Option Nat)(w:WD):Calls prog 90 #[.map mb] w λe f=>e=.returned (.func (.func 152) #[] #[.pointer (some ⟨w.1.size,0,none⟩)])/\f=w.alloc (.cells #[.map mb] 111):=
 (callsIn_wide (n:=5)).1 (AnyZI.keys_in quj Fence.wide 5 trivial rfl mb w)
def Vh (l:List MapEntry):LI:=(l.map kI).mergeSort λx y=>decide (x<=y)
theorem qiq {w:WD}{b clock q:Nat}{l:List MapEntry}(M:w.1[b]?=some (.map l.toArray clock))(E:Uo l clock)(P:∀e∈l,0<=kI e/\kI e<=100000)(O:l.length<=100000)(hm:w.1[q]?=some (.cells #[.map (some b)] 111 (0,0))) :
  Calls prog 89 #[.func (.func 152) #[] #[.pointer (some ⟨q,0,none⟩)]] w λe G=>∃v:Value,e=.returned v/\G.ownsRow w.1.size 3 1 v l.length ((Vh l).map (Value.int .i64))/\Below w.1.size w G:=by
 obtain⟨F,y,p,B⟩:=qum underlying3 M E P O;have m:w.cell? ⟨q,0,none⟩=some (.map (some b)):=by rw[cell_of_row _ _ _ _ _ _ hm];rfl
 have A:SeqGives Fence.wide 2 prog 152 #[.pointer (some ⟨q,0,none⟩)] encZ (λD=>D.Perm (intKeys F)) (Maps.size F) w:=
  AnyZI.keys_gives (ρ:=qce) { quj with } Fence.wide _ trivial rfl (by omega) q b l.length F _ (Ky hm) m y
 have I:=AnyZI.sorted_in quk Fence.wide 5 trivial trivial trivial trivial rfl (by omega) (qBh _) (enters_of func151 (by kernel_rfl) rfl) 152 #[.pointer (some ⟨q,0,none⟩)] trivial (enters_of func152 (by kernel_rfl) rfl) _ _ (by rw[B];unfold maxLen;omega) (by rw[B];omega) w A;refine ((callsIn_wide (n:=5)).1 I).mono ?_;rintro e G ⟨v,D,rfl,K,f,_,J⟩;have H:D.Perm (l.map kI):=K.trans p;have u:D.length=l.length:=by rw[H.length_eq,AF]
 rw[u,mergeSort_of_perm_i H] at f;exact⟨v,rfl,f,J⟩
theorem qir:∀{l m:List Nat},l.Pairwise (· < ·)->m.Pairwise (· < ·)->(∀x,x∈l↔x∈m)->l=m
 |[],[],_,_,_=>rfl
 |[],b::m,_,_,h=>by have:=(h b).2 (by simp);cases this
 |a::l,[],_,_,h=>by have:=(h a).1 (by simp);cases this
 |a::l,b::m,hl,hm,h=>by
  rw[List.pairwise_cons] at hl hm;have q:a=b:=by
   rcases List.mem_cons.1 ((h a).1 (by simp)) with e|e
   ·exact e
   ·rcases List.mem_cons.1 ((h b).2 (by simp)) with p|p
    ·exact p.symm
    ·have:=hm.1 a e;have:=hl.1 b p;omega
  subst q;rw[qir hl.2 hm.2 λx=>?_];constructor
  ·intro f;rcases List.mem_cons.1 ((h x).1 (by simp[f])) with e|e
   ·subst e;have:=hl.1 x f;omega
   ·exact e
  ·intro f;rcases List.mem_cons.1 ((h x).2 (by simp[f])) with e|e
   ·subst e;have:=hm.1 x f;omega
   ·exact e
theorem qye {l:List MapEntry}{clock n:Nat}(E:Uo l clock)(f:Nat->Bool)(h1:∀e∈l,∃a:Nat,a<n/\kI e=a)(h2:∀a:Nat,a<n->((Zf a l).isSome=f a)):Vh l=((List.range n).filter f).map λa:Nat=>(a:Int):=by
 have H:(Vh l).Perm (l.map kI):=List.mergeSort_perm _ _;have F:(Vh l).Nodup:=(List.Perm.nodup_iff H).2 E.one;have G:(Vh l).Pairwise λa b=>decide (a<=b)=true:=List.pairwise_mergeSort (λa b c h1 h2=>by simp at *;omega) (λa b=>by simp;omega) _
 have m:∀z,z∈Vh l↔∃a:Nat,a<n/\f a=true/\z=a:=λz=>by
  rw[H.mem_iff,List.mem_map];constructor
  ·rintro⟨e,B,rfl⟩;obtain⟨a,q,D⟩:=h1 e B;refine⟨a,q,?_,D⟩;rw[<-h2 a q,<-D,q43 E.one B];rfl
  ·rintro⟨a,q,u,rfl⟩;rw[<-h2 a q] at u;obtain⟨v,J⟩:=Option.isSome_iff_exists.1 u;obtain⟨e,B,D,_⟩:=qea J;exact⟨e,B,D⟩
 have p:∀z∈Vh l,((z.toNat:Nat):Int)=z:=λz A=>by
  obtain⟨a,_,_,rfl⟩:=(m z).1 A;simp
 have y:Vh l=((Vh l).map Int.toNat).map λa:Nat=>(a:Int):=by
  rw[List.map_map];conv=>lhs;rw[<-List.map_id (Vh l)]
  exact List.map_congr_left λz A=>(p z A).symm
 rw[y];congr 1
 refine qir ?_ ?_ λx=>?_
 ·refine List.pairwise_map.2 ?_;refine (G.and F).imp_of_mem λ{a b} q I h=>?_
  have K:=p a q;have M:=p b I;have O:a<=b:=AK h.1;have P:a≠b:=h.2;omega
 ·exact List.Pairwise.filter _ List.pairwise_lt_range
 ·rw[List.mem_map,List.mem_filter,List.mem_range];constructor
  ·rintro⟨z,A,rfl⟩;obtain⟨a,q,u,rfl⟩:=(m z).1 A;exact⟨by simpa using q,by simpa using u⟩
  ·rintro⟨q,u⟩;exact⟨(x:Int),(m _).2 ⟨x,q,u,rfl⟩,by simp⟩
