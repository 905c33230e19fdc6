/- The library's slices.Sorted(maps.Keys(m)) and maps.Clone at this program's map (what the g -/
import Derived.Test.YtnnbaihfboacoaaGreatDoorEu3
import Derived.Shelf.SlIterI.Nil
import Derived.Shelf.SlIterI.Sorted
import Derived.Shelf.SortM.Plain
import Derived.Shelf.SortM.SortNone
import Derived.Shelf.SlMaps.Clone
namespace Go.Proofs.YtnnbaihfboacoaaGreatDoor
open Go Go.RowKit Go.Proofs
set_option maxRecDepth 100000
open Go.Maps Go.Sort Go.Shelf
def qbm:Go.Shelf.Ren:=⟨fun|7=>92|10=>131|n=>n,fun|23=>101|26=>3|3=>31|28=>160|0=>0|27=>159|33=>114|4=>4|n=>n,fun|n=>n⟩
theorem qrx:Go.Proofs.SlLaysZI.n7 Tryz.prog qbm where
 mixed:=by kernel_rfl
 f7:=⟨ "maps.Keys[map[int][]byte,int,[]byte]",by decide,Tryz.func92.trans (congrArg some (by kernel_rfl))⟩
 f10:=⟨ "maps.Keys[map[int][]byte,int,[]byte]$1",by decide,Tryz.func131.trans (congrArg some (by kernel_rfl))⟩
 t0:=Tryz.underlying0
 a0:=Tryz.isAgg0
 z0:=Tryz.sizeOf0
 v0:=Tryz.zeroValue0
 t4:=Tryz.underlying4
 a4:=Tryz.isAgg4
 z4:=Tryz.sizeOf4
 v4:=Tryz.zeroValue4
 t23:=Tryz.underlying101
 a23:=Tryz.isAgg101
 z23:=Tryz.sizeOf101
 v23:=Tryz.zeroValue101
 t26:=Tryz.underlying3
 a26:=Tryz.isAgg3
 z26:=Tryz.sizeOf3
 v26:=Tryz.zeroValue3
 t27:=Tryz.underlying159
 a27:=Tryz.isAgg159
 z27:=Tryz.sizeOf159
 v27:=Tryz.zeroValue159
 t28:=Tryz.underlying160
 a28:=Tryz.isAgg160
 z28:=Tryz.sizeOf160
 v28:=Tryz.zeroValue160
 t33:=Tryz.underlying114
 a33:=Tryz.isAgg114
 z33:=Tryz.sizeOf114
 v33:=Tryz.zeroValue114
def q7f:Go.Shelf.Ren:=⟨fun|6=>91|8=>129|9=>130|11=>161|13=>163|12=>162|23=>187|24=>188|14=>178|15=>179|16=>180|17=>181|18=>182|19=>183|20=>184|21=>185|22=>186|25=>204|26=>205|27=>206|28=>207|29=>208|30=>209|31=>214|n=>n,fun|26=>3|28=>160|24=>36|0=>0|3=>3|37=>243|48=>235|50=>266|4=>4|40=>259|39=>258|45=>89|5=>5|9=>9|51=>276|55=>229|57=>286|58=>145|33=>114|n=>n,fun|n=>n⟩
theorem qry:Go.Proofs.SlLaysZI.n6 Tryz.prog q7f where
 mixed:=by kernel_rfl
 f6:=⟨ "slices.Sorted[int]",by decide,Tryz.func91.trans (congrArg some (by kernel_rfl))⟩
 f8:=⟨ "slices.Collect[int]",by decide,Tryz.func129.trans (congrArg some (by kernel_rfl))⟩
 f11:=⟨ "slices.AppendSeq[[]int,int]",by decide,Tryz.func161.trans (congrArg some (by kernel_rfl))⟩
 t0:=Tryz.underlying0
 a0:=Tryz.isAgg0
 z0:=Tryz.sizeOf0
 v0:=Tryz.zeroValue0
 t24:=Tryz.underlying36
 a24:=Tryz.isAgg36
 z24:=Tryz.sizeOf36
 v24:=Tryz.zeroValue36
 t26:=Tryz.underlying3
 a26:=Tryz.isAgg3
 z26:=Tryz.sizeOf3
 v26:=Tryz.zeroValue3
 t28:=Tryz.underlying160
 a28:=Tryz.isAgg160
 z28:=Tryz.sizeOf160
 v28:=Tryz.zeroValue160
 i26:=by kernel_rfl
def qj3:Go.Shelf.Ren:=⟨fun|5=>130|8=>163|7=>162|19=>187|20=>188|10=>178|11=>179|12=>180|13=>181|14=>182|15=>183|16=>184|17=>185|18=>186|30=>204|31=>205|32=>206|33=>207|34=>208|35=>209|40=>214|n=>n,fun|23=>36|25=>3|3=>3|32=>243|22=>36|0=>0|44=>235|46=>266|4=>4|36=>259|35=>258|41=>89|5=>5|9=>9|53=>276|57=>229|63=>286|64=>145|n=>n,fun|n=>n⟩
theorem qrz:Go.Proofs.SlLaysM.n5 Tryz.prog qj3 where
 mixed:=by kernel_rfl
 f5:=⟨ "slices.Sort[[]int,int]",by decide,Tryz.func130.trans (congrArg some (by kernel_rfl))⟩
 f7:=⟨ "slices.pdqsortOrdered[int]",by decide,Tryz.func162.trans (congrArg some (by kernel_rfl))⟩
 f8:=Tryz.func163.trans (congrArg some (by kernel_rfl))
 f10:=⟨ "slices.insertionSortOrdered[int]",by decide,Tryz.func178.trans (congrArg some (by kernel_rfl))⟩
 f11:=⟨ "slices.heapSortOrdered[int]",by decide,Tryz.func179.trans (congrArg some (by kernel_rfl))⟩
 f12:=⟨ "slices.breakPatternsOrdered[int]",by decide,Tryz.func180.trans (congrArg some (by kernel_rfl))⟩
 f13:=⟨ "slices.choosePivotOrdered[int]",by decide,Tryz.func181.trans (congrArg some (by kernel_rfl))⟩
 f14:=⟨ "slices.reverseRangeOrdered[int]",by decide,Tryz.func182.trans (congrArg some (by kernel_rfl))⟩
 f15:=⟨ "slices.partialInsertionSortOrdered[int]",by decide,Tryz.func183.trans (congrArg some (by kernel_rfl))⟩
 f16:=⟨ "cmp.Less[int]",by decide,Tryz.func184.trans (congrArg some (by kernel_rfl))⟩
 f17:=⟨ "slices.partitionEqualOrdered[int]",by decide,Tryz.func185.trans (congrArg some (by kernel_rfl))⟩
 f18:=⟨ "slices.partitionOrdered[int]",by decide,Tryz.func186.trans (congrArg some (by kernel_rfl))⟩
 f19:=Tryz.func187.trans (congrArg some (by kernel_rfl))
 f20:=Tryz.func188.trans (congrArg some (by kernel_rfl))
 f30:=⟨ "slices.siftDownOrdered[int]",by decide,Tryz.func204.trans (congrArg some (by kernel_rfl))⟩
 f31:=Tryz.func205.trans (congrArg some (by kernel_rfl))
 f32:=Tryz.func206.trans (congrArg some (by kernel_rfl))
 f33:=⟨ "slices.medianAdjacentOrdered[int]",by decide,Tryz.func207.trans (congrArg some (by kernel_rfl))⟩
 f34:=⟨ "slices.medianOrdered[int]",by decide,Tryz.func208.trans (congrArg some (by kernel_rfl))⟩
 f35:=⟨ "cmp.isNaN[int]",by decide,Tryz.func209.trans (congrArg some (by kernel_rfl))⟩
 f40:=⟨ "slices.order2Ordered[int]",by decide,Tryz.func214.trans (congrArg some (by kernel_rfl))⟩
 t0:=Tryz.underlying0
 a0:=Tryz.isAgg0
 z0:=Tryz.sizeOf0
 v0:=Tryz.zeroValue0
 t3:=Tryz.underlying3
 a3:=Tryz.isAgg3
 z3:=Tryz.sizeOf3
 v3:=Tryz.zeroValue3
 t4:=Tryz.underlying4
 a4:=Tryz.isAgg4
 z4:=Tryz.sizeOf4
 v4:=Tryz.zeroValue4
 t5:=Tryz.underlying5
 a5:=Tryz.isAgg5
 z5:=Tryz.sizeOf5
 v5:=Tryz.zeroValue5
 t9:=Tryz.underlying9
 a9:=Tryz.isAgg9
 z9:=Tryz.sizeOf9
 v9:=Tryz.zeroValue9
 t22:=Tryz.underlying36
 a22:=Tryz.isAgg36
 z22:=Tryz.sizeOf36
 v22:=Tryz.zeroValue36
 t23:=Tryz.underlying36
 a23:=Tryz.isAgg36
 z23:=Tryz.sizeOf36
 v23:=Tryz.zeroValue36
 t25:=Tryz.underlying3
 a25:=Tryz.isAgg3
 z25:=Tryz.sizeOf3
 v25:=Tryz.zeroValue3
 t32:=Tryz.underlying243
 a32:=Tryz.isAgg243
 z32:=Tryz.sizeOf243
 v32:=Tryz.zeroValue243
 t35:=Tryz.underlying258
 a35:=Tryz.isAgg258
 z35:=Tryz.sizeOf258
 v35:=Tryz.zeroValue258
 t36:=Tryz.underlying259
 a36:=Tryz.isAgg259
 z36:=Tryz.sizeOf259
 v36:=Tryz.zeroValue259
 t41:=Tryz.underlying89
 a41:=Tryz.isAgg89
 z41:=Tryz.sizeOf89
 v41:=Tryz.zeroValue89
 t44:=Tryz.underlying235
 a44:=Tryz.isAgg235
 z44:=Tryz.sizeOf235
 v44:=Tryz.zeroValue235
 t46:=Tryz.underlying266
 a46:=Tryz.isAgg266
 z46:=Tryz.sizeOf266
 v46:=Tryz.zeroValue266
 t53:=Tryz.underlying276
 a53:=Tryz.isAgg276
 z53:=Tryz.sizeOf276
 v53:=Tryz.zeroValue276
 t57:=Tryz.underlying229
 a57:=Tryz.isAgg229
 z57:=Tryz.sizeOf229
 v57:=Tryz.zeroValue229
 t63:=Tryz.underlying286
 a63:=Tryz.isAgg286
 z63:=Tryz.sizeOf286
 v63:=Tryz.zeroValue286
 t64:=Tryz.underlying145
 a64:=Tryz.isAgg145
 z64:=Tryz.sizeOf145
 v64:=Tryz.zeroValue145
theorem qxd (m:Nat):AnyZI.SortsIn Tryz.prog q7f Fence.wide m:=
 ⟨λblk off cap f W e b d=>callsIn_wide.2 (AnyM.slices_Sort_int qrz blk off cap f W e b d),
  λp cap W=>callsIn_wide.2 (AnyM.slices_Sort_int_none qrz p cap W)⟩
def noR:Value->Option (DataW Unit × List MemPlace):=λ_=>some (.nil,[])
theorem qyi {P:Program}{k:TypeId}(e:P.underlying k=some (.int .i64)){z:Int}(h0:0<=z)(h1:z<=100000):Go.keyOf P k (.int .i64 z)=some (.int .i64 z):=by
 have f:(Lit.int .i64 z).wf=true:=by
  show (decide (IntKind.i64.min<=z)&&decide (z<=IntKind.i64.max))=true;rw[Bool.and_eq_true];have b:IntKind.i64.min=-9223372036854775808:=by decide
  have d:IntKind.i64.max=9223372036854775807:=by decide
  rw[b,d];exact⟨decide_eq_true (by omega),decide_eq_true (by omega)⟩
 simp[Go.keyOf,e,mapKey,f]
theorem qs0 {P:Program}{k:TypeId}(F:P.underlying k=some (.int .i64)){w:World}{b clock:Nat}{l:List MapEntry}(D:w.1[b]?=some (.map l.toArray clock))(E:Vy l clock)(B:∀e∈l,0<=kI e/\kI e<=100000)(G:l.length<=100000) :
  ∃m:DataW Unit,w.ownsMap P k noR b l.length m/\(intKeys m).Perm (l.map kI)/\Maps.size m=l.length:=by
 have f:∀e∈l,WideElems.rd P k noR e=some (.int .i64 (kI e),.nil):=λe d=>by
  unfold WideElems.rd;rw[E.key e d,qyi F (B e d).1 (B e d).2];rfl
 have y:l.map (WideElems.rg P k noR)=l.map λe=>((.int .i64 (kI e),.nil):Lit × DataW Unit):=List.map_congr_left λe d=>WideElems.rg_of (f e d)
 refine⟨_,⟨l.toArray,clock,D,⟨by rw[List.size_toArray];unfold maxLen;omega,⟨λx A=>E.clock x A,E.born,?_⟩,λx A=>⟨_,f x A⟩⟩,Nat.le_refl _,rfl⟩,?_,?_⟩
 ·show (l.map (·.key)).Nodup;have:l.map (·.key)=(l.map kI).map (Value.int .i64):=by
   rw[List.map_map];exact List.map_congr_left λe d=>E.key e d
  rw[this];exact List.Pairwise.map _ (λa b u h=>u (by injection h)) E.one
 ·show (((l.map (WideElems.rg P k noR)).foldr DataW.insert []).map λp=>_root_.Go.intOf p.1).Perm (l.map kI);rw[y];refine ((Go.WideShapes.sorted_perm _).map _).trans ?_;rw[List.map_map];exact List.Perm.refl _
 ·show ((l.map (WideElems.rg P k noR)).foldr DataW.insert []).length=l.length;rw[length_sorted,List.length_map]
theorem qne (b:Option Nat)(w:World):Calls Tryz.prog 92 #[.map b] w λe d=>e=.returned (.func (.func 131) #[] #[.pointer (some ⟨w.1.size,0,none⟩)])/\d=w.alloc (.cells #[.map b] 101):=
 (callsIn_wide (n:=5)).1 (AnyZI.keys_in qrx Fence.wide 5 trivial rfl b w)
def Kz (l:List MapEntry):List Int:=(l.map kI).mergeSort λx y=>decide (x<=y)
theorem qhe {w:World}{b clock p:Nat}{l:List MapEntry}(M:w.1[b]?=some (.map l.toArray clock))(E:Vy l clock)(P:∀e∈l,0<=kI e/\kI e<=100000)(O:l.length<=100000)(hm:w.1[p]?=some (.cells #[.map (some b)] 101 (0,0))) :
  Calls Tryz.prog 91 #[.func (.func 131) #[] #[.pointer (some ⟨p,0,none⟩)]] w λe G=>∃v:Value,e=.returned v/\G.ownsRow w.1.size 3 1 v l.length ((Kz l).map (Value.int .i64))/\Below w.1.size w G:=by
 obtain⟨F,y,m,B⟩:=qs0 Tryz.underlying3 M E P O;have f:w.cell? ⟨p,0,none⟩=some (.map (some b)):=by rw[cell_of_row _ _ _ _ _ _ hm];rfl
 have A:SeqGives Fence.wide 2 Tryz.prog 131 #[.pointer (some ⟨p,0,none⟩)] encZ (λD=>D.Perm (intKeys F)) (Maps.size F) w:=
  AnyZI.keys_gives (ρ:=qbm) { qrx with } Fence.wide _ trivial rfl (by omega) p b l.length F _ (Wi hm) f y
 have I:=AnyZI.sorted_in qry Fence.wide 5 trivial trivial trivial trivial rfl (by omega) (qxd _) (enters_of Tryz.func130 (by kernel_rfl) rfl) 131 #[.pointer (some ⟨p,0,none⟩)] trivial (enters_of Tryz.func131 (by kernel_rfl) rfl) _ _ (by rw[B];unfold maxLen;omega) (by rw[B];omega) w A;refine ((callsIn_wide (n:=5)).1 I).mono ?_;rintro e G ⟨v,D,rfl,K,d,_,J⟩;have H:D.Perm (l.map kI):=K.trans m;have u:D.length=l.length:=by rw[H.length_eq,List.length_map]
 rw[u,mergeSort_of_perm_i H] at d;exact⟨v,rfl,d,J⟩
theorem qhf:∀{l m:List Nat},l.Pairwise (· < ·)->m.Pairwise (· < ·)->(∀x,x∈l↔x∈m)->l=m
 |[],[],_,_,_=>rfl
 |[],b::m,_,_,h=>by have:=(h b).2 (by simp);cases this
 |a::l,[],_,_,h=>by have:=(h a).1 (by simp);cases this
 |a::l,b::m,hl,hm,h=>by
  rw[List.pairwise_cons] at hl hm;have p:a=b:=by
   rcases List.mem_cons.1 ((h a).1 (by simp)) with e|e
   ·exact e
   ·rcases List.mem_cons.1 ((h b).2 (by simp)) with f|f
    ·exact f.symm
    ·have:=hm.1 a e;have:=hl.1 b f;omega
  subst p;rw[qhf hl.2 hm.2 λx=>?_];constructor
  ·intro d;rcases List.mem_cons.1 ((h x).1 (by simp[d])) with e|e
   ·subst e;have:=hl.1 x d;omega
   ·exact e
  ·intro d;rcases List.mem_cons.1 ((h x).2 (by simp[d])) with e|e
   ·subst e;have:=hm.1 x d;omega
   ·exact e
theorem quy {l:List MapEntry}{clock n:Nat}(E:Vy l clock)(f:Nat->Bool)(h1:∀e∈l,∃a:Nat,a<n/\kI e=a)(h2:∀a:Nat,a<n->((Zf a l).isSome=f a)):Kz l=((List.range n).filter f).map λa:Nat=>(a:Int):=by
 have H:(Kz l).Perm (l.map kI):=List.mergeSort_perm _ _;have F:(Kz l).Nodup:=(List.Perm.nodup_iff H).2 E.one;have G:(Kz l).Pairwise λa b=>decide (a<=b)=true:=List.pairwise_mergeSort (λa b c h1 h2=>by simp at *;omega) (λa b=>by simp;omega) _
 have d:∀z,z∈Kz l↔∃a:Nat,a<n/\f a=true/\z=a:=λz=>by
  rw[H.mem_iff,List.mem_map];constructor
  ·rintro⟨e,B,rfl⟩;obtain⟨a,p,D⟩:=h1 e B;refine⟨a,p,?_,D⟩;rw[<-h2 a p,<-D,q2t E.one B];rfl
  ·rintro⟨a,p,u,rfl⟩;rw[<-h2 a p] at u;obtain⟨v,J⟩:=Option.isSome_iff_exists.1 u;obtain⟨e,B,D,_⟩:=q8z J;exact⟨e,B,D⟩
 have m:∀z∈Kz l,((z.toNat:Nat):Int)=z:=λz A=>by
  obtain⟨a,_,_,rfl⟩:=(d z).1 A;simp
 have y:Kz l=((Kz l).map Int.toNat).map λa:Nat=>(a:Int):=by
  rw[List.map_map];conv=>lhs;rw[<-List.map_id (Kz l)]
  exact List.map_congr_left λz A=>(m z A).symm
 rw[y];congr 1
 refine qhf ?_ ?_ λx=>?_
 ·refine List.pairwise_map.2 ?_;refine (G.and F).imp_of_mem λ{a b} p I h=>?_
  have K:=m a p;have M:=m b I;have O:a<=b:=of_decide_eq_true h.1;have P:a≠b:=h.2;omega
 ·exact List.Pairwise.filter _ List.pairwise_lt_range
 ·rw[List.mem_map,List.mem_filter,List.mem_range];constructor
  ·rintro⟨z,A,rfl⟩;obtain⟨a,p,u,rfl⟩:=(d z).1 A;exact⟨by simpa using p,by simpa using u⟩
  ·rintro⟨p,u⟩;exact⟨(x:Int),(d _).2 ⟨x,p,u,rfl⟩,by simp⟩
