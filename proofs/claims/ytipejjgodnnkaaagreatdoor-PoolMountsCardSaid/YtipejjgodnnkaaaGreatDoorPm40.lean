/- Laws of the pool: a call as it comes in, and what is left of it -/
import Derived.Test.YtipejjgodnnkaaaGreatDoorPm39
namespace Go.Proofs.YtipejjgodnnkaaaGreatDoor
open Go Go.RowKit Go.Proofs
set_option maxHeartbeats 8000000
set_option maxRecDepth 100000
structure OpV where
 K:Int
 A:Int
 V:Int
 N:Nd
 ia:Option Addr
 i:Nat
 ic:Nat
 ka:Option Addr
 k:Nat
 kc:Nat
 B:List UInt8
 ba:Option Addr
 b:Nat
 bc:Nat
 vol:Vl
 keep:List Int
 pa:Option Addr
 p:Nat
 pc:Nat
def OpV.vs (o:OpV):List Value:=[.int .i64 o.K,.int .i64 o.A,.int .i64 o.V,.int .i64 o.N.lvl,.slice o.ia o.i o.ic,.slice o.ka o.k o.kc,.slice o.ba o.b o.bc,.string o.vol.name,.bool o.vol.ro,.int .i64 o.vol.root,.int .i64 o.vol.next,.slice o.pa o.p o.pc]
theorem OpV.len (o:OpV):o.vs.length=12:=rfl
theorem OpV.one (o:OpV):∀x∈o.vs,x.oneCell'=true:=fun x hx=>by
 unfold OpV.vs at hx
 simp only[List.mem_cons,List.not_mem_nil,or_false] at hx
 rcases hx with rfl|rfl|rfl|rfl|rfl|rfl|rfl|rfl|rfl|rfl|rfl|rfl<;>rfl
structure OpV.here (o:OpV)(w:World):Prop where
 iK:-9223372036854775808≤o.K∧o.K≤9223372036854775807
 iA:-9223372036854775808≤o.A∧o.A≤9223372036854775807
 iV:-9223372036854775808≤o.V∧o.V≤9223372036854775807
 items:Itms w o.ia o.i o.ic o.N.items
 kids:Kidl w o.ka o.k o.kc o.N.kids
 bytes:Sl w o.ba o.b o.bc o.B
 name:o.vol.name.size≤maxLen
 keeps:Ints w o.pa o.p o.pc o.keep
def OpV.few (o:OpV):OpV:={ o with N:=⟨o.N.lvl,o.N.items.take 20,o.N.kids.take 20⟩,i:=min o.i 20,k:=min o.k 20,B:=o.B.take 300,b:=min o.b 300 }
theorem OpV.few_here {o:OpV}{w:World}(h:o.here w):o.few.here w:=by
 refine⟨h.iK,h.iA,h.iV,?_,?_,?_,h.name,h.keeps⟩
 ·show Itms w o.ia (min o.i 20) o.ic (o.N.items.take 20)
  have hl:=h.items.len
  by_cases e:20≤o.i
  ·rw[Nat.min_eq_right e];exact h.items.take e
  ·rw[Nat.min_eq_left (by omega),List.take_of_length_le (by omega)];exact h.items
 ·show Kidl w o.ka (min o.k 20) o.kc (o.N.kids.take 20)
  have hl:=h.kids.len
  by_cases e:20≤o.k
  ·rw[Nat.min_eq_right e];exact h.kids.take e
  ·rw[Nat.min_eq_left (by omega),List.take_of_length_le (by omega)];exact h.kids
 ·show Sl w o.ba (min o.b 300) o.bc (o.B.take 300)
  have hl:=h.bytes.len
  by_cases e:300≤o.b
  ·rw[Nat.min_eq_right e];exact h.bytes.take e
  ·rw[Nat.min_eq_left (by omega),List.take_of_length_le (by omega)];exact h.bytes
def OB (w:World)(b:Nat)(vs:List Value):Prop:=∃t,w.heap[b]?=some (.cells vs.toArray t (0,0))
theorem OB.cell {w:World}{b:Nat}{vs:List Value}(H:OB w b vs){j:Nat}{x:Value}(h:vs[j]?=some x):w.cell? ⟨b,j,none⟩=some x:=by
 obtain⟨t,h1⟩:=H
 rw[cell_of_row _ _ _ _ _ _ h1,List.getElem?_toArray]
 exact h
theorem OB.fz {w:World}{b:Nat}{vs:List Value}(H:OB w b vs)(j:Nat):w.frozen? ⟨b,j,none⟩=false:=by
 obtain⟨t,h1⟩:=H
 unfold World.frozen?;rw[h1];simp
theorem OB.set {w:World}{b:Nat}{vs:List Value}(H:OB w b vs)(j:Nat)(v:Value):OB (w.setCell ⟨b,j,none⟩ v) b (vs.set j v):=by
 obtain⟨t,h1⟩:=H
 exact⟨t,by rw[heap_setCell_same w b j _ t v h1,List.setIfInBounds_toArray]⟩
theorem OB.keep {w w':World}{b:Nat}{vs:List Value}(H:OB w b vs)(h:w'.heap[b]?=w.heap[b]?):OB w' b vs:=by
 obtain⟨t,h1⟩:=H
 exact⟨t,h.trans h1⟩
theorem OB.range {w:World}{b:Nat}{vs:List Value}(H:OB w b vs):w.rangeAt b 0 vs:=fun j x hx=>by rw[Nat.zero_add];exact H.cell hx
theorem OB.lt {w:World}{b:Nat}{vs:List Value}(H:OB w b vs):b<w.heap.size:=by
 obtain⟨t,h1⟩:=H
 exact q01 h1
theorem qai {ops:Array Oper}{rest:List Oper}{o:Oper}{a:Act}{w:World}{Q:Exit→Act→World→Prop}(hg:o.guard=none)(x:Operand)(hop:o.op=Op.load 35 x)
  (b j:Nat) (hx:a.eval x=.pointer (some ⟨b,j,none⟩)) (vs:List Value) (hl:vs.length=12) (hr:w.rangeAt b j vs) (hK:wpList Tryz.prog ops Q rest (a.put o.dst (.agg vs.toArray)) w):wpList Tryz.prog ops Q (o::rest) a w:=
 wpList_load_mid hg _ x hop b j hx vs _ hr Tryz.underlying35 rfl (by rw[hl];kernel_rfl) hK
theorem qfq {ops:Array Oper}{rest:List Oper}{o:Oper}{a:Act}{w:World}{Q:Exit→Act→World→Prop}(hg:o.guard=none)(x z:Operand)(hop:o.op=Op.store 35 x z)
  (b:Nat) (hx:a.eval x=.pointer (some ⟨b,0,none⟩)) (vs vs0:List Value) (hl:vs.length=12) (h1:∀x∈vs,x.oneCell'=true) (hl0:vs0.length=12) (H:OB w b vs0) (hy:a.eval z=.agg vs.toArray)
  (hK:∀w',OB w' b vs→Turn (fun k=>k=b) w w'→wpList Tryz.prog ops Q rest (a.put o.dst undef) w'):wpList Tryz.prog ops Q (o::rest) a w:=by
 obtain⟨t,h2⟩:=H
 have ht:w.there b 0 vs.toArray.size:=fun j hj=>by
  rw[List.size_toArray,hl] at hj
  refine⟨?_,by unfold World.frozen?;rw[h2];simp⟩
  rw[Nat.zero_add,cell_of_row _ _ _ _ _ _ h2,List.getElem?_toArray,List.getElem?_eq_getElem (by omega)]
  rfl
 refine wpList_store_mid hg _ x z hop b 0 vs.toArray hx hy ht (by rw[List.size_toArray,hl];kernel_rfl) (all_oneCell_toArray h1) ?_
 have e:=q0h b t vs 0 w vs0 h2 (by omega)
 rw[q24 vs0 vs (by omega)] at e
 exact hK _ ⟨t,e⟩ (q0d (S:=fun k=>k=b) rfl vs 0 w)
def zeroOp:List Value:=[.int .i64 0,.int .i64 0,.int .i64 0,.int .i64 0,.slice none 0 0,.slice none 0 0,.slice none 0 0,.string ⟨#[]⟩,.bool false,.int .i64 0,.int .i64 0,.slice none 0 0]
theorem q4n {w:World}{b:Nat}{vs:List Value}(hl:vs.length=12)(H:OB w b vs):(loadVar 35 ⟨b,0,none⟩).run Tryz.prog w=.ok (.agg vs.toArray) w:=
 q4l w ⟨b,0,none⟩ 35 vs _ (fun j v hv=>by
  rw[show (⟨b,0,none⟩:Addr).add j=⟨b,0+j,none⟩ from Addr.add_mid _ _ _,Nat.zero_add]
  exact H.cell hv) Tryz.underlying35 rfl (by rw[hl];kernel_rfl)
theorem qs7 (o:OpV)(w:World)(h:o.here w) :
  Calls Tryz.prog 11 #[.agg o.vs.toArray] w fun e w'=>e=.returned (.agg o.few.vs.toArray)∧Below w.heap.size w w':=by
 obtain⟨K,A,V,⟨lv,its,kds⟩,ia,i,ic,ka,k,kc,B,ba,b,bc,⟨nm,ro,rt,nx⟩,keep,pa,p,pc⟩:=o
 have hi:=h.items.bounds
 have hk:=h.kids.bounds
 have hb1:=h.bytes.cap
 have hb2:=h.bytes.max
 unfold maxLen at hi hk hb2
 dsimp only at hi hk hb1 hb2
 clear h
 show Calls Tryz.prog 11 #[.agg #[.int .i64 K,.int .i64 A,.int .i64 V,.int .i64 lv,.slice ia i ic,.slice ka k kc,.slice ba b bc,.string nm,.bool ro,.int .i64 rt,.int .i64 nx,.slice pa p pc]] w _
 have O1:OB (w.alloc (.cells #[.int .i64 K,.int .i64 A,.int .i64 V,.int .i64 lv,.slice ia i ic,.slice ka k kc,.slice ba b bc,.string nm,.bool ro,.int .i64 rt,.int .i64 nx,.slice pa p pc] 35)) w.heap.size [.int .i64 K,.int .i64 A,.int .i64 V,.int .i64 lv,.slice ia i ic,.slice ka k kc,.slice ba b bc,.string nm,.bool ro,.int .i64 rt,.int .i64 nx,.slice pa p pc]:=⟨35,heap_alloc_new w _⟩
 have b1:Below w.heap.size w (w.alloc (.cells #[.int .i64 K,.int .i64 A,.int .i64 V,.int .i64 lv,.slice ia i ic,.slice ka k kc,.slice ba b bc,.string nm,.bool ro,.int .i64 rt,.int .i64 nx,.slice pa p pc] 35)):=blA
 have z1:(w.alloc (.cells #[.int .i64 K,.int .i64 A,.int .i64 V,.int .i64 lv,.slice ia i ic,.slice ka k kc,.slice ba b bc,.string nm,.bool ro,.int .i64 rt,.int .i64 nx,.slice pa p pc] 35)).heap.size=w.heap.size+1:=World.size_alloc ..
 have O2:OB ((w.alloc (.cells #[.int .i64 K,.int .i64 A,.int .i64 V,.int .i64 lv,.slice ia i ic,.slice ka k kc,.slice ba b bc,.string nm,.bool ro,.int .i64 rt,.int .i64 nx,.slice pa p pc] 35)).alloc (.cells zeroOp.toArray 35)) (w.heap.size+1) zeroOp:=⟨35,by rw[←z1];exact heap_alloc_new _ _⟩
 have b2:Below (w.heap.size+1) (w.alloc (.cells #[.int .i64 K,.int .i64 A,.int .i64 V,.int .i64 lv,.slice ia i ic,.slice ka k kc,.slice ba b bc,.string nm,.bool ro,.int .i64 rt,.int .i64 nx,.slice pa p pc] 35)) ((w.alloc (.cells #[.int .i64 K,.int .i64 A,.int .i64 V,.int .i64 lv,.slice ia i ic,.slice ka k kc,.slice ba b bc,.string nm,.bool ro,.int .i64 rt,.int .i64 nx,.slice pa p pc] 35)).alloc (.cells zeroOp.toArray 35)):=(Below.refl _ _).alloc (by rw[z1];exact Nat.le_refl _) _
 have O1':=O1.keep (b2.block w.heap.size (Nat.lt_succ_self _))
 have B2:=b1.trans (b2.mono (Nat.le_succ _))
 go_enter Tryz.func11,Tryz.ntmps11
 go_wp2_with fail
 all_goals (
  first
   |refine bodyPost_ret (q0l Tryz.results11 rfl (q4n (vs:=[.int .i64 K,.int .i64 A,.int .i64 V,.int .i64 lv,.slice ia i ic,.slice ka k kc,.slice ba b bc,.string nm,.bool ro,.int .i64 rt,.int .i64 nx,.slice pa p pc]) rfl ⟨_,by rw[show w.heap.size+1=(w.alloc _).heap.size from (World.size_alloc ..).symm];exact heap_alloc_new _ _⟩)) rfl ?_
   |refine bodyPost_ret (q0l Tryz.results11 rfl (q4n (vs:=[.int .i64 K,.int .i64 A,.int .i64 V,.int .i64 lv,.slice ia i ic,.slice ka k kc,.slice ba 300 bc,.string nm,.bool ro,.int .i64 rt,.int .i64 nx,.slice pa p pc]) rfl ⟨_,by rw[show w.heap.size+1=(w.alloc _).heap.size from (World.size_alloc ..).symm];exact heap_alloc_new _ _⟩)) rfl ?_
   |refine bodyPost_ret (q0l Tryz.results11 rfl (q4n (vs:=[.int .i64 K,.int .i64 A,.int .i64 V,.int .i64 lv,.slice ia i ic,.slice ka 20 kc,.slice ba b bc,.string nm,.bool ro,.int .i64 rt,.int .i64 nx,.slice pa p pc]) rfl ⟨_,by rw[show w.heap.size+1=(w.alloc _).heap.size from (World.size_alloc ..).symm];exact heap_alloc_new _ _⟩)) rfl ?_
   |refine bodyPost_ret (q0l Tryz.results11 rfl (q4n (vs:=[.int .i64 K,.int .i64 A,.int .i64 V,.int .i64 lv,.slice ia i ic,.slice ka 20 kc,.slice ba 300 bc,.string nm,.bool ro,.int .i64 rt,.int .i64 nx,.slice pa p pc]) rfl ⟨_,by rw[show w.heap.size+1=(w.alloc _).heap.size from (World.size_alloc ..).symm];exact heap_alloc_new _ _⟩)) rfl ?_
   |refine bodyPost_ret (q0l Tryz.results11 rfl (q4n (vs:=[.int .i64 K,.int .i64 A,.int .i64 V,.int .i64 lv,.slice ia 20 ic,.slice ka k kc,.slice ba b bc,.string nm,.bool ro,.int .i64 rt,.int .i64 nx,.slice pa p pc]) rfl ⟨_,by rw[show w.heap.size+1=(w.alloc _).heap.size from (World.size_alloc ..).symm];exact heap_alloc_new _ _⟩)) rfl ?_
   |refine bodyPost_ret (q0l Tryz.results11 rfl (q4n (vs:=[.int .i64 K,.int .i64 A,.int .i64 V,.int .i64 lv,.slice ia 20 ic,.slice ka k kc,.slice ba 300 bc,.string nm,.bool ro,.int .i64 rt,.int .i64 nx,.slice pa p pc]) rfl ⟨_,by rw[show w.heap.size+1=(w.alloc _).heap.size from (World.size_alloc ..).symm];exact heap_alloc_new _ _⟩)) rfl ?_
   |refine bodyPost_ret (q0l Tryz.results11 rfl (q4n (vs:=[.int .i64 K,.int .i64 A,.int .i64 V,.int .i64 lv,.slice ia 20 ic,.slice ka 20 kc,.slice ba b bc,.string nm,.bool ro,.int .i64 rt,.int .i64 nx,.slice pa p pc]) rfl ⟨_,by rw[show w.heap.size+1=(w.alloc _).heap.size from (World.size_alloc ..).symm];exact heap_alloc_new _ _⟩)) rfl ?_
   |refine bodyPost_ret (q0l Tryz.results11 rfl (q4n (vs:=[.int .i64 K,.int .i64 A,.int .i64 V,.int .i64 lv,.slice ia 20 ic,.slice ka 20 kc,.slice ba 300 bc,.string nm,.bool ro,.int .i64 rt,.int .i64 nx,.slice pa p pc]) rfl ⟨_,by rw[show w.heap.size+1=(w.alloc _).heap.size from (World.size_alloc ..).symm];exact heap_alloc_new _ _⟩)) rfl ?_
  refine⟨?_,(blA).alloc (by rw[World.size_alloc];exact Nat.le_succ _) _⟩
  unfold OpV.few OpV.vs
  dsimp only
  first
   |rw[Nat.min_eq_left (a:=i) (b:=20) (by omega)]
   |rw[Nat.min_eq_right (a:=i) (b:=20) (by omega)]
  first
   |rw[Nat.min_eq_left (a:=k) (b:=20) (by omega)]
   |rw[Nat.min_eq_right (a:=k) (b:=20) (by omega)]
  first
   |rw[Nat.min_eq_left (a:=b) (b:=300) (by omega)]
   |rw[Nat.min_eq_right (a:=b) (b:=300) (by omega)])
def q35 (b i xb:Nat)(kd:Nat)(w:World)(e:Ending)(w':World):Prop:=
 e=.returned (.bool true)∧Tab w'∧Below b w w'∧((∃d y p q S0 S S1 S2 T D P,Two b w' xb d y p q S0 S S1 S2 T D P∧PInv (i+1) D P)∨(12≤kd∧Gone w' xb))
theorem put_n {P:Pl}(k:Int)(l:List UInt8):(P.put k l).C.n=P.C.n∧(P.put k l).S=P.S:=by unfold Pl.put;split;exact⟨qim _,ql8 _⟩;exact⟨rfl,rfl⟩
theorem qq9 {P:Pl}(N:Nd):(P.putN N).C.n=P.C.n∧(P.putN N).S=P.S:=by unfold Pl.putN;split;exact⟨qim _,ql8 _⟩;exact⟨rfl,rfl⟩
theorem qqa {P:Pl}(a:Int)(N:Nd):(P.setN a N).C.n=P.C.n∧(P.setN a N).S=P.S:=by unfold Pl.setN;split<;>exact⟨rfl,rfl⟩
theorem qmk {P:Pl}(S':Sp)(hg:S'.gen=P.S.gen):(P.setS S').C.n=P.C.n∧(P.setS S').S.gen=P.S.gen:=by unfold Pl.setS;split;exact⟨rfl,hg⟩;exact⟨rfl,rfl⟩
theorem qqb {P:Pl}(i:Int)(v:Vl):(P.volP i v).C.n=P.C.n∧(P.volP i v).S.gen=P.S.gen:=by unfold Pl.volP;split;exact qmk _ rfl;exact⟨rfl,rfl⟩
theorem Two.commits {b:Nat}{w w' w'':World}{xb d y p q b0:Nat}{S0 S S1 S2 T:Nat→Prop}{D D':DM}{P P':Pl}(H:Two b w xb d y p q S0 S S1 S2 T D P)(C:SysAt b w' d p (grow S0 w w') S (grow T w w') D' P')(X:Turn (fun k=>S0 k∨S k) w w')
  (hb0:w'.heap.size≤b0) (hb1:b0≤w''.heap.size) (R1:RDrv w'' y (fun k=>(S1 k∨w'.heap.size≤k)∧k<b0) D') (R2:RPool w'' q y (fun k=>S2 k∨b0≤k) (fun k=>grow T w w' k∨w'.heap.size≤k) P') (X2:Turn (fun k=>S1 k∨S2 k) w' w'') :
  (∃S0 S S1 S2 T',Two b w'' xb d y p q S0 S S1 S2 T' D' P'∧∀k,T' k→T k∨w.heap.size≤k)∧Turn T w w'':=by
 have htt:=H.code.tight
 have hz:=X.size
 have hz2:=X2.size
 have hxl:=H.ref.xlt
 have hin:∀k,T k→grow (grow T w w') w' w'' k:=fun k h=>⟨.inl ⟨.inl h,by have:=(htt k h).2;omega⟩,by have:=(htt k h).2;omega⟩
 have hS12:∀k,S1 k∨S2 k→T k:=fun k h=>h.elim (H.ref.sub1 k) (H.ref.sub2 k)
 have C2:=C.ownGrow X2 (fun k h=>⟨.inl (hS12 k h),by have:=(htt k (hS12 k h)).2;omega⟩) (fun k h h0=>h0.1.elim (fun h1=>h.elim (H.sep k (.inl h1)).1 (H.sep k (.inl h1)).2.1) fun h1=>by have:=(htt k (hS12 k h)).2;omega) (fun k h h0=>h.elim (H.sep k (.inr h0)).1 (H.sep k (.inr h0)).2.1)
 have hme1:=(X.block xb hxl fun h=>(H.sep xb h).2.2 rfl).trans H.ref.me
 have hme2:=(X2.block xb (by omega) fun h=>h.elim H.ref.x1 H.ref.x2).trans hme1
 refine⟨⟨_,_,fun k=>(S1 k∨w'.heap.size≤k)∧k<b0,fun k=>(S2 k∨b0≤k)∧k<w''.heap.size,_,⟨C2,⟨hme2,R1,R2.mono (fun k hk h=>⟨h,hk⟩) (fun k hk h=>h.1) (fun k h=>⟨h.1.elim (fun h=>.inl ⟨.inl (H.ref.sub2 k h),by have:=(htt k (H.ref.sub2 k h)).2;omega⟩) fun h=>.inr (by omega),h.2⟩),fun k h=>⟨h.1.elim (fun h=>.inl ⟨.inl (H.ref.sub1 k h),by have:=(htt k (H.ref.sub1 k h)).2;omega⟩) fun h=>.inr h,by omega⟩,fun k h=>⟨h.1.elim (fun h=>.inl ⟨.inl (H.ref.sub2 k h),by have:=(htt k (H.ref.sub2 k h)).2;omega⟩) fun h=>.inr (by omega),h.2⟩,fun k h h2=>?_,C2.tight,hin xb H.ref.xT,fun h=>h.1.elim H.ref.x1 fun h=>by omega,fun h=>h.1.elim H.ref.x2 fun h=>by omega⟩,fun k hk=>⟨fun h=>?_,fun h=>?_,?_⟩⟩,fun k h=>h.1.elim (fun h=>h.1) fun h=>.inr (by omega)⟩,(X.mono fun k h=>h.elim (H.code.sub k) (H.code.subS k)).trans X2 fun k hk=>.inl (hS12 k hk)⟩
 ·rcases h2.1 with h3|h3
  ·rcases h.1 with h4|h4
   ·exact H.ref.apart k h4 h3
   ·have:=(htt k (H.ref.sub2 k h3)).2;omega
  ·omega
 ·rcases hk with hk|hk
  ·rcases hk.1 with h1|h1
   ·rcases h.1 with h2|h2
    ·exact (H.sep k (.inl h1)).1 h2
    ·have:=(htt k (H.code.sub k h1)).2;omega
   ·rcases h.1 with h2|h2
    ·have:=(htt k (H.ref.sub1 k h2)).2;omega
    ·have:=hk.2;omega
  ·rcases h.1 with h2|h2
   ·exact (H.sep k (.inr hk)).1 h2
   ·have:=(htt k (H.code.subS k hk)).2;omega
 ·rcases hk with hk|hk
  ·rcases hk.1 with h1|h1
   ·rcases h.1 with h2|h2
    ·exact (H.sep k (.inl h1)).2.1 h2
    ·have:=(htt k (H.code.sub k h1)).2;omega
   ·rcases h.1 with h2|h2
    ·have:=(htt k (H.ref.sub2 k h2)).2;omega
    ·have:=hk.2;omega
  ·rcases h.1 with h2|h2
   ·exact (H.sep k (.inr hk)).2.1 h2
   ·have:=(htt k (H.code.subS k hk)).2;omega
 ·rcases hk with hk|hk
  ·rcases hk.1 with h1|h1
   ·exact (H.sep k (.inl h1)).2.2
   ·omega
  ·exact (H.sep k (.inr hk)).2.2
theorem PInv.commit {i:Nat}{D:DM}{P:Pl}(I:PInv i D P)(h:P.ok):PInv (i+1) (D.runD P.steps) (D.cmtP P):=by
 have hg:P.g=P.S.gen+1:=rfl
 have hgen:=I.gen
 have hl:P.steps.length≤70:=by
  rw[Pl.steps_len]
  have h1:=qrp P
  have h2:=I.small
  have h3:areaN P.C.n≤1:=by unfold areaN;omega
  omega
 have hlow:(D.runD P.steps).all2 (lowQ (i+1+1)):=qfh P.steps (q7s I.low fun s x hx h2=>Nat.le_succ_of_le (hx h2)) (qmb h (by rw[hg];omega))
 refine⟨qrx I.inv D,?_,?_,(q2k _ I.tame).mono (by omega),hlow,?_⟩
 ·rw[qdj,I.n];unfold DM.cmtP;split<;>rfl
 ·have e:(D.cmtP P).C.n=P.C.n:=by unfold DM.cmtP;split<;>rfl
  rw[e];exact I.small
 ·unfold DM.cmtP
  split
  ·show P.g≤_
   rw[hg];omega
  ·omega
theorem PInv.mounted {i:Nat}{D:DM}{P:Pl}(I:PInv i D P):PInv i D (Pl.mounted D.newest D.n):=by
 have hn:(Pl.mounted D.newest D.n).C.n=D.n:=q6t _ _
 exact⟨q97 _ _,hn.symm,by rw[hn,I.n];exact I.small,I.tame,I.low,qth I.low⟩
theorem PInv.up {i:Nat}{D:DM}{P:Pl}(h:PInv i D P):PInv (i+1) D P:=h.next h.inv rfl rfl
structure DIn (b i:Nat)(w0 w:World)(xb d y p q:Nat)(S0 S S1 S2 T:Nat→Prop)(D:DM)(P:Pl)(o:OpV):Prop where
 H:Two b w xb d y p q S0 S S1 S2 T D P
 I:PInv i D P
 hi:i≤60
 hb:1<b
 ht:Tab w
 ho:o.here w0
 hi20:o.i≤20
 hk20:o.k≤20
 hb300:o.b≤300
 hw0:w0.heap.size≤b
 B0:Below w0.heap.size w0 w
theorem q2l {b:Nat}{w0 w w1:World}{xb d y p q:Nat}{S0 S S1 S2 T:Nat→Prop}{D:DM}{P:Pl}{vs:List Value}{t:TypeId}(H:Two b w xb d y p q S0 S S1 S2 T D P)(hb:1<b)(ht:Tab w)(hw0:w0.heap.size≤b)(B0:Below w0.heap.size w0 w)(hw1:w1=w.alloc (.cells vs.toArray t)) :
  OB w1 w.heap.size vs∧Below w.heap.size w w1∧Two b w1 xb d y p q S0 S S1 S2 T D P∧w.heap.size<w1.heap.size∧Tab w1∧(∀k,T k→k<w1.heap.size)∧Below w0.heap.size w0 w1∧¬T w.heap.size∧Below b w w1∧(∀w',Turn T w1 w'→Tab w'∧Below b w w')∧
   b≤w.heap.size∧xb<w.heap.size∧(∀k,T k→b≤k∧k<w.heap.size)∧(∀k,T k→k<w.heap.size)∧(∀k,T k→w0.heap.size≤k)∧¬T 1∧(∀k,S k→T k)∧(∀k,S2 k→T k)∧P.ok:=by
 have hbs:=H.code.base
 have htt:=H.code.tight
 have hT1:∀k,T k→k<w.heap.size:=fun k hk=>(htt k hk).2
 have hG:¬T 1:=fun h=>by have:=(htt _ h).1;omega
 have z1:w1.heap.size=w.heap.size+1:=by rw[hw1];exact World.size_alloc ..
 have b1:Below w.heap.size w w1:=by rw[hw1];exact blA
 have O1:OB w1 w.heap.size vs:=⟨t,by rw[hw1];exact heap_alloc_new w _⟩
 have t1:=ht.below b1 ht.1
 have b1':Below b w w1:=b1.mono hbs
 have H1:=H.below b1
 exact⟨O1,b1,H1,by omega,t1,fun k hk=>by have:=hT1 k hk;omega,B0.trans (b1.mono B0.size),fun h=>by have:=hT1 _ h;omega,b1',fun w' X=>⟨t1.turned X hG,b1'.trans (H1.bel X)⟩,hbs,H.ref.xlt,htt,hT1,fun k hk=>Nat.le_trans hw0 (htt k hk).1,hG,H.code.subS,H.ref.sub2,H.code.pool.ok⟩
theorem q66 {K k:Int}(iK:-9223372036854775808≤K∧K≤9223372036854775807)(hkk:(md K 16:Int)=k) :
  Hid (∀w,Calls Tryz.prog 14 #[.int .i64 K,.int .i64 16] w fun e w'=>e=.returned (.int .i64 k)∧w=w'):=
 Lib.hid (fun w=>by
  have h:=q3a K 16 iK (by omega) (by omega) w
  rw[hkk] at h
  exact h)
theorem qqc {b i w0 w xb d y p q S0 S S1 S2 T D P}(o:OpV)(Z:DIn b i w0 w xb d y p q S0 S S1 S2 T D P o)(kd:Nat)(kz:Int)(hkk:(md o.K 16:Int)=kz)(hk2:kz=2∨kz=3) :
  Calls Tryz.prog 12 #[.pointer (some ⟨xb,0,none⟩),.agg o.vs.toArray] w fun e w'=>q35 b i xb kd w e w':=by
 obtain⟨H,I,_hi,hb,ht,ho,hi20,hk20,hb300,hw0,B0⟩:=Z
 obtain⟨K,A,V,⟨lv,its,kds⟩,ia,i0,ic,ka,k0,kc,B,ba,b0,bc,⟨nm,ro,rt,nx⟩,keep,pa,p0,pc⟩:=o
 obtain⟨iK,iA,iV,hIt,hKt,hBy,hNm,hKe⟩:=ho
 dsimp only at iK iA iV hIt hKt hBy hNm hKe hi20 hk20 hb300 hkk
 rcases hk2 with rfl|rfl
 all_goals (
  obtain⟨w1,hw1⟩:∃w1,w1=w.alloc (.cells #[.int .i64 K,.int .i64 A,.int .i64 V,.int .i64 lv,.slice ia i0 ic,.slice ka k0 kc,.slice ba b0 bc,.string nm,.bool ro,.int .i64 rt,.int .i64 nx,.slice pa p0 pc] 35):=⟨_,rfl⟩
  obtain⟨O1,b1,H1,z1a,t1,hT1',B1,hbo,b1',hfin,hbs,hxl,htt,hT1,hT0,hG,hST,hS2T,hok⟩:=q2l H hb ht hw0 B0 hw1
  have c2:=H1.ref.c2
  have c3:=H1.ref.c3
  rw[hw1] at c2 c3
  have Hkd:=q66 iK hkk
  clear hkk iK
  show Calls Tryz.prog 12 #[.pointer (some ⟨xb,0,none⟩),.agg #[.int .i64 K,.int .i64 A,.int .i64 V,.int .i64 lv,.slice ia i0 ic,.slice ka k0 kc,.slice ba b0 bc,.string nm,.bool ro,.int .i64 rt,.int .i64 nx,.slice pa p0 pc]] w _
  go_enter Tryz.func12,Tryz.ntmps12
  go_wp2_with fail
  rw[←hw1] at c2 c3 ⊢
  clear hw1
  refine (Hkd.out w1).mono ?_
  rintro e w1' ⟨rfl,rfl⟩
  have o2:=O1.cell (j:=2) rfl
  obtain⟨kv,hkv⟩:∃k:Nat,md V 2=k:=⟨_,rfl⟩
  have hkv2:=fun w=>q3a V 2 iV (by omega) (by omega) w
  have cz2:((2:Nat):Int)=2:=rfl
  simp only[cz2,hkv] at hkv2
  have hkvl:kv<2:=by rw[←hkv];exact qqn V (by omega)
  have Hkv:=Lib.hid hkv2
  obtain⟨kk,hkk2⟩:∃k:Int,5+(kv:Int)=k:=⟨_,rfl⟩
  have hkb:5≤kk∧kk≤6:=by omega
  have o6:=O1.cell (j:=6) rfl
  have hBl:=hBy.len
  have bl:Below w1.heap.size w1 (w1.alloc (.cells #[] 5)):=blA
  have own0:Own (w1.alloc (.cells #[] 5)) w1.heap.size 5 (some ⟨w1.heap.size,0,none⟩) 0 0 []:=q11 w1 _
  have zl:=bl.size
  have s1:=(hBy.below B1).below bl
  have O1l:=O1.keep (bl.block w.heap.size (by omega))
  have o6':=O1l.cell (j:=6) rfl
  have H1l:=H1.below bl
  obtain⟨V1,hV1⟩:∃X,P.putV kk B.length=X:=⟨_,rfl⟩
  obtain⟨E1,hE1⟩:∃X,P.putE kk B.length=X:=⟨_,rfl⟩
  have hc:=fun (w2:World) (bb:Below w1.heap.size w1 w2) (A':Option Addr) (c':Nat) (own:Own w2 w1.heap.size 5 A' b0 c' B)=>q61 (H1.code.pool.below bb) (fun k hk=>by have h1:=hT1' k hk;have h2:=bb.size;omega) hG kk A' b0 c' B own.sl (fun _ ad e h=>by have h1:=(own.block ad e).1;have h2:=hT1' _ (hST _ h);omega) (t1.below bb t1.1)
  have hr:=fun (w2:World) (R:RPool w2 q y S2 T P) (hz:w1.heap.size≤w2.heap.size) (bb:Below w0.heap.size w0 w2)=>qbs R (fun k hk=>by have:=hT1' k hk;omega) kk ba b0 bc B (hBy.below bb)
  simp only[hV1,hE1] at hc hr
  have Hc:=Lib.hid hc
  have Hr:=Lib.hid hr
  clear hc hr hV1 hE1 hkv hkv2 cz2 hkvl
  go_wp2_with fail
  refine (Hkv.out w1).mono ?_
  rintro e w1' ⟨rfl,rfl⟩
  go_wp2_with (first
   |(at_builtin;refine q1q _ T22 rfl _ _ rfl w1.heap.size w1.heap.size rfl own0 ba b0 bc B rfl s1 (by omega) zl ?_;intro A' c' w2 own2 b2)
   |fail)
  have bb2:=bl.trans (b2.mono bl.size)
  refine (Hc.out w2 bb2 A' c' own2).mono ?_
  rintro e w3 ⟨rfl,R3,X3⟩
  have H2:=H1.below bb2
  have z2:=bb2.size
  have O2:=O1.keep (bb2.block w.heap.size (by omega))
  have O3:=O2.keep (X3.block w.heap.size (by omega) fun h=>hbo (hST _ h))
  have o6'':=O3.cell (j:=6) rfl
  have B3:Below w0.heap.size w0 w3:=(B1.trans (bb2.mono B1.size)).trans (X3.below (fun k hk=>hT0 k (hST k hk)) (by have:=B1.size;omega))
  clear o6 o6' o2
  go_wp2_with fail
  refine (Hr.out w3 (H2.refOther X3).pool (by have:=X3.size;omega) B3).mono ?_
  rintro e w4 ⟨rfl,R4,X4⟩
  have nV:(V1==V1)=true:=by simp
  have nE:(E1==E1)=true:=by simp
  obtain⟨F1,F2⟩:=H2.pools (H2.code.turned R3 X3) X3 R4 X4
  have F3:=hfin w4 ((q00 bb2).trans F2 fun k hk=>.inl hk)
  clear O2 O3 o6'' O1 O1l R3 R4 X3 X4 own2 own0 s1
  go_wp2
  go_ret
  exact⟨rfl,F3.1,F3.2,.inl ⟨_,_,_,_,_,_,_,_,_,_,_,F1,I.next (qrv I.inv _ _) (put_n _ _).1 (by rw[(put_n _ _).2])⟩⟩)
theorem qtk {b i w0 w xb d y p q S0 S S1 S2 T D P}(o:OpV)(Z:DIn b i w0 w xb d y p q S0 S S1 S2 T D P o)(hkk:(md o.K 16:Int)=8) :
  Calls Tryz.prog 12 #[.pointer (some ⟨xb,0,none⟩),.agg o.vs.toArray] w fun e w'=>q35 b i xb 8 w e w':=by
 obtain⟨H,I,_hi,hb,ht,ho,hi20,hk20,hb300,hw0,B0⟩:=Z
 obtain⟨K,A,V,⟨lv,its,kds⟩,ia,i0,ic,ka,k0,kc,B,ba,b0,bc,⟨nm,ro,rt,nx⟩,keep,pa,p0,pc⟩:=o
 obtain⟨iK,iA,iV,hIt,hKt,hBy,hNm,hKe⟩:=ho
 dsimp only at iK iA iV hIt hKt hBy hNm hKe hi20 hk20 hb300 hkk
 obtain⟨w1,hw1⟩:∃w1,w1=w.alloc (.cells #[.int .i64 K,.int .i64 A,.int .i64 V,.int .i64 lv,.slice ia i0 ic,.slice ka k0 kc,.slice ba b0 bc,.string nm,.bool ro,.int .i64 rt,.int .i64 nx,.slice pa p0 pc] 35):=⟨_,rfl⟩
 obtain⟨O1,b1,H1,z1a,t1,hT1',B1,hbo,b1',hfin,hbs,hxl,htt,hT1,hT0,hG,hST,hS2T,hok⟩:=q2l H hb ht hw0 B0 hw1
 have c2:=H1.ref.c2
 have c3:=H1.ref.c3
 rw[hw1] at c2 c3
 have Hkd:=q66 iK hkk
 clear hkk iK
 show Calls Tryz.prog 12 #[.pointer (some ⟨xb,0,none⟩),.agg #[.int .i64 K,.int .i64 A,.int .i64 V,.int .i64 lv,.slice ia i0 ic,.slice ka k0 kc,.slice ba b0 bc,.string nm,.bool ro,.int .i64 rt,.int .i64 nx,.slice pa p0 pc]] w _
 go_enter Tryz.func12,Tryz.ntmps12
 go_wp2_with fail
 rw[←hw1] at c2 c3 ⊢
 clear hw1
 refine (Hkd.out w1).mono ?_
 rintro e w1' ⟨rfl,rfl⟩
 obtain⟨cc,g,Sc,L⟩:=H1.ref.pool
 have hql:=L.qlt
 have hqS:¬S q:=fun h=>(H.sep q (.inr h)).2.1 L.inS.1
 have q36:=L.c36
 have hO:∀w':World,w'.heap[w.heap.size]?=w1.heap[w.heap.size]?∧w'.heap[q]?=w1.heap[q]?→w'.cell? ⟨w.heap.size,1,none⟩=some (.int .i64 A)∧w'.cell? ⟨q,36,none⟩=some (.pointer (some ⟨cc,0,none⟩)):=fun w' h=>⟨(O1.keep h.1).cell (j:=1) rfl,(World.cell?_of_block (a:=⟨q,36,none⟩) h.2).trans q36⟩
 obtain⟨E1,hE1⟩:∃X,P.C.refE A=X:=⟨_,rfl⟩
 have BD:Below w1.heap.size w1 w1.drew:=(Below.refl _ _).drew
 have HD:=H1.below BD
 have hc:=qop HD.code.pool A
 have hr:=fun (w2:World) (R:RQ w2 q y cc g Sc S2 T P)=>qem R.ct A
 rw[hE1] at hc
 simp only[hE1] at hr
 have Hc:=Lib.hid hc
 have Hr:=Lib.hid hr
 have nE:(E1==E1)=true:=by simp
 have zD:w1.drew.heap.size=w1.heap.size:=rfl
 have ZD:=Lib.hid zD
 have LD:=L.below BD
 have HLO:=Lib.hid (fun (w2:World) (X2:Turn S w1.drew w2)=>LD.other X2 hST (fun k h=>(H.sep k (.inr h)).2.1))
 clear hc hr hE1 zD
 go_wp2_with fail
 go_region_held3 (fun w'=>w'.cell? ⟨w.heap.size,1,none⟩=some (.int .i64 A)∧w'.cell? ⟨q,36,none⟩=some (.pointer (some ⟨cc,0,none⟩)))
  (first|assumption|exact hO _ ⟨rfl,rfl⟩|exact hO _ h2|exact hO _ h3)
  (first
   |(go_at_call 50;have hh:=X2;refine (Hr.out w2 (HLO.out w2 X2)).mono ?_;rintro e w3 ⟨rfl,C3,X3⟩;have h3:w3.heap[w.heap.size]?=w1.heap[w.heap.size]?∧w3.heap[q]?=w1.heap[q]?:=⟨(X3.block w.heap.size (by have h1:=X2.size;have h2:=ZD.out;omega) fun h=>hbo (hS2T _ (L.inS.2.2 _ h))).trans h2.1,(X3.block q (by have h1:=X2.size;have h2:=ZD.out;omega) fun h=>(L.ne.2 q h).1 rfl).trans h2.2⟩)
   |(go_at_call 49;refine Hc.out.mono ?_;rintro e w2 ⟨rfl,R2,X2⟩;have h2:w2.heap[w.heap.size]?=w1.heap[w.heap.size]?∧w2.heap[q]?=w1.heap[q]?:=⟨X2.block w.heap.size (by have h2:=ZD.out;omega) fun h=>hbo (hST _ h),X2.block q (by have h2:=ZD.out;omega) hqS⟩)
   |fail)
 have R3:RPool w3 q y S2 T ⟨P.S,P.C.ref A,P.L⟩:=⟨cc,g,Sc,(HLO.out w2 X2).setC X3 C3 (Ct.ref_n _ _)⟩
 obtain⟨F1,F2⟩:=HD.pools (HD.code.turned R2 X2) X2 R3 (X3.mono L.inS.2.2)
 have F3:=hfin w3 ((q00 BD).trans F2 fun k hk=>.inl hk)
 clear R2 R3 X2 X3 O1 hO
 go_wp2
 go_ret
 exact⟨rfl,F3.1,F3.2,.inl ⟨_,_,_,_,_,_,_,_,_,_,_,F1,I.next (qrw I.inv hok.c _) (Ct.ref_n _ _) rfl⟩⟩
theorem qtl {b i w0 w xb d y p q S0 S S1 S2 T D P}(o:OpV)(Z:DIn b i w0 w xb d y p q S0 S S1 S2 T D P o)(hkk:(md o.K 16:Int)=9) :
  Calls Tryz.prog 12 #[.pointer (some ⟨xb,0,none⟩),.agg o.vs.toArray] w fun e w'=>q35 b i xb 9 w e w':=by
 obtain⟨H,I,_hi,hb,ht,ho,hi20,hk20,hb300,hw0,B0⟩:=Z
 obtain⟨K,A,V,⟨lv,its,kds⟩,ia,i0,ic,ka,k0,kc,B,ba,b0,bc,⟨nm,ro,rt,nx⟩,keep,pa,p0,pc⟩:=o
 obtain⟨iK,iA,iV,hIt,hKt,hBy,hNm,hKe⟩:=ho
 dsimp only at iK iA iV hIt hKt hBy hNm hKe hi20 hk20 hb300 hkk
 obtain⟨w1,hw1⟩:∃w1,w1=w.alloc (.cells #[.int .i64 K,.int .i64 A,.int .i64 V,.int .i64 lv,.slice ia i0 ic,.slice ka k0 kc,.slice ba b0 bc,.string nm,.bool ro,.int .i64 rt,.int .i64 nx,.slice pa p0 pc] 35):=⟨_,rfl⟩
 obtain⟨O1,b1,H1,z1a,t1,hT1',B1,hbo,b1',hfin,hbs,hxl,htt,hT1,hT0,hG,hST,hS2T,hok⟩:=q2l H hb ht hw0 B0 hw1
 have c2:=H1.ref.c2
 have c3:=H1.ref.c3
 rw[hw1] at c2 c3
 have Hkd:=q66 iK hkk
 clear hkk iK
 show Calls Tryz.prog 12 #[.pointer (some ⟨xb,0,none⟩),.agg #[.int .i64 K,.int .i64 A,.int .i64 V,.int .i64 lv,.slice ia i0 ic,.slice ka k0 kc,.slice ba b0 bc,.string nm,.bool ro,.int .i64 rt,.int .i64 nx,.slice pa p0 pc]] w _
 go_enter Tryz.func12,Tryz.ntmps12
 go_wp2_with fail
 rw[←hw1] at c2 c3 ⊢
 clear hw1
 refine (Hkd.out w1).mono ?_
 rintro e w1' ⟨rfl,rfl⟩
 have o1:=O1.cell (j:=1) rfl
 obtain⟨cc,g,Sc,L⟩:=H1.ref.pool
 have hql:=L.qlt
 obtain⟨V1,hV1⟩:∃X,P.C.unrefV A=X:=⟨_,rfl⟩
 obtain⟨E1,hE1⟩:∃X,P.C.unrefE A=X:=⟨_,rfl⟩
 have hc:=qa7 H1.code.pool A
 have hr:=fun (w2:World) (R:RQ w2 q y cc g Sc S2 T P)=>qax R.ct A
 rw[hE1,hV1] at hc
 simp only[hE1,hV1] at hr
 have Hc:=Lib.hid hc
 have Hr:=Lib.hid hr
 have nV:(V1==V1)=true:=by simp
 have nE:(E1==E1)=true:=by simp
 clear hc hr hE1 hV1
 go_wp2_with fail
 refine Hc.out.mono ?_
 rintro e w2 ⟨rfl,R2,X2⟩
 have z2:=X2.size
 have O2:=O1.keep (X2.block w.heap.size (by omega) fun h=>hbo (hST _ h))
 have L2:=L.other X2 hST (fun k h=>(H.sep k (.inr h)).2.1)
 have o1':=O2.cell (j:=1) rfl
 have q36:=L2.c36
 have BD:Below w2.heap.size w2 w2.drew:=(Below.refl _ _).drew
 have hO:∀w':World,w'.heap[w.heap.size]?=w2.heap[w.heap.size]?∧w'.heap[q]?=w2.heap[q]?→w'.cell? ⟨w.heap.size,1,none⟩=some (.int .i64 A)∧w'.cell? ⟨q,36,none⟩=some (.pointer (some ⟨cc,0,none⟩)):=fun w' h=>⟨(O2.keep h.1).cell (j:=1) rfl,(World.cell?_of_block (a:=⟨q,36,none⟩) h.2).trans q36⟩
 have L2D:=L2.below BD
 have zD:w2.drew.heap.size=w2.heap.size:=rfl
 have ZD:=Lib.hid zD
 have hq2:=L2.qlt
 clear o1 zD
 go_wp2_with fail
 go_region_held3 (fun w'=>w'.cell? ⟨w.heap.size,1,none⟩=some (.int .i64 A)∧w'.cell? ⟨q,36,none⟩=some (.pointer (some ⟨cc,0,none⟩)))
  (first|assumption|exact hO _ ⟨rfl,rfl⟩|exact hO _ h3)
  (first
   |(go_at_call 51;refine (Hr.out _ L2D).mono ?_;rintro e w3 ⟨rfl,C3,X3⟩;have h3:w3.heap[w.heap.size]?=w2.heap[w.heap.size]?∧w3.heap[q]?=w2.heap[q]?:=⟨X3.block w.heap.size (by have h2:=ZD.out;omega) fun h=>hbo (hS2T _ (L.inS.2.2 _ h)),X3.block q (by have h2:=ZD.out;omega) fun h=>(L.ne.2 q h).1 rfl⟩)
   |fail)
 have R3:RPool w3 q y S2 T ⟨P.S,P.C.unref A,P.L⟩:=⟨cc,g,Sc,L2D.setC X3 C3 (Ct.unref_n _ _)⟩
 obtain⟨F1,F2⟩:=H1.pools (H1.code.turned R2 X2) X2 R3 (((q00 (S:=S2) BD)).trans (X3.mono L.inS.2.2) fun k hk=>.inl hk)
 have F3:=hfin w3 F2
 clear R2 R3 X2 X3 O1 hO O2 o1'
 go_wp2
 go_ret
 exact⟨rfl,F3.1,F3.2,.inl ⟨_,_,_,_,_,_,_,_,_,_,_,F1,I.next (qm6 I.inv _) (Ct.unref_n _ _) rfl⟩⟩
end Go.Proofs.YtipejjgodnnkaaaGreatDoor
