/- Laws of the pool: a call as it comes in, and what is left of it -/
import Derived.Test.YtipejjgodnnkaaaGreatDoorPz36
namespace Go.Proofs.YtipejjgodnnkaaaGreatDoor
open Go Go.RowKit Go.Proofs
set_option maxHeartbeats 8000000
set_option maxRecDepth 100000
structure OpV where
 K:Int
 A:Int
 V:Int
 N:Nd
 ia:Option Addr
 i:Nat
 ic:Nat
 ka:Option Addr
 k:Nat
 kc:Nat
 B:List UInt8
 ba:Option Addr
 b:Nat
 bc:Nat
 vol:Vl
 keep:List Int
 pa:Option Addr
 p:Nat
 pc:Nat
def OpV.vs (o:OpV):List Value:=[.int .i64 o.K,.int .i64 o.A,.int .i64 o.V,.int .i64 o.N.lvl,.slice o.ia o.i o.ic,.slice o.ka o.k o.kc,.slice o.ba o.b o.bc,.string o.vol.name,.bool o.vol.ro,.int .i64 o.vol.root,.int .i64 o.vol.next,.slice o.pa o.p o.pc]
theorem OpV.len (o:OpV):o.vs.length=12:=rfl
theorem OpV.one (o:OpV):∀x∈o.vs,x.oneCell'=true:=fun x hx=>by
 unfold OpV.vs at hx
 simp only[List.mem_cons,List.not_mem_nil,or_false] at hx
 rcases hx with rfl|rfl|rfl|rfl|rfl|rfl|rfl|rfl|rfl|rfl|rfl|rfl<;>rfl
structure OpV.here (o:OpV)(w:World):Prop where
 iK:-9223372036854775808≤o.K∧o.K≤9223372036854775807
 iA:-9223372036854775808≤o.A∧o.A≤9223372036854775807
 iV:-9223372036854775808≤o.V∧o.V≤9223372036854775807
 items:Itms w o.ia o.i o.ic o.N.items
 kids:Kidl w o.ka o.k o.kc o.N.kids
 bytes:Sl w o.ba o.b o.bc o.B
 name:o.vol.name.size≤maxLen
 keeps:Ints w o.pa o.p o.pc o.keep
def OpV.few (o:OpV):OpV:={ o with N:=⟨o.N.lvl,o.N.items.take 20,o.N.kids.take 20⟩,i:=min o.i 20,k:=min o.k 20,B:=o.B.take 300,b:=min o.b 300 }
theorem OpV.few_here {o:OpV}{w:World}(h:o.here w):o.few.here w:=by
 refine⟨h.iK,h.iA,h.iV,?_,?_,?_,h.name,h.keeps⟩
 ·show Itms w o.ia (min o.i 20) o.ic (o.N.items.take 20)
  have hl:=h.items.len
  by_cases e:20≤o.i
  ·rw[Nat.min_eq_right e];exact h.items.take e
  ·rw[Nat.min_eq_left (by omega),List.take_of_length_le (by omega)];exact h.items
 ·show Kidl w o.ka (min o.k 20) o.kc (o.N.kids.take 20)
  have hl:=h.kids.len
  by_cases e:20≤o.k
  ·rw[Nat.min_eq_right e];exact h.kids.take e
  ·rw[Nat.min_eq_left (by omega),List.take_of_length_le (by omega)];exact h.kids
 ·show Sl w o.ba (min o.b 300) o.bc (o.B.take 300)
  have hl:=h.bytes.len
  by_cases e:300≤o.b
  ·rw[Nat.min_eq_right e];exact h.bytes.take e
  ·rw[Nat.min_eq_left (by omega),List.take_of_length_le (by omega)];exact h.bytes
def OB (w:World)(b:Nat)(vs:List Value):Prop:=∃t,w.heap[b]?=some (.cells vs.toArray t (0,0))
theorem OB.cell {w:World}{b:Nat}{vs:List Value}(H:OB w b vs){j:Nat}{x:Value}(h:vs[j]?=some x):w.cell? ⟨b,j,none⟩=some x:=by
 obtain⟨t,h1⟩:=H
 rw[cell_of_row _ _ _ _ _ _ h1,List.getElem?_toArray]
 exact h
theorem OB.set {w:World}{b:Nat}{vs:List Value}(H:OB w b vs)(j:Nat)(v:Value):OB (w.setCell ⟨b,j,none⟩ v) b (vs.set j v):=by
 obtain⟨t,h1⟩:=H
 exact⟨t,by rw[heap_setCell_same w b j _ t v h1,List.setIfInBounds_toArray]⟩
theorem OB.keep {w w':World}{b:Nat}{vs:List Value}(H:OB w b vs)(h:w'.heap[b]?=w.heap[b]?):OB w' b vs:=by
 obtain⟨t,h1⟩:=H
 exact⟨t,h.trans h1⟩
theorem OB.range {w:World}{b:Nat}{vs:List Value}(H:OB w b vs):w.rangeAt b 0 vs:=fun j x hx=>by rw[Nat.zero_add];exact H.cell hx
theorem OB.lt {w:World}{b:Nat}{vs:List Value}(H:OB w b vs):b<w.heap.size:=by
 obtain⟨t,h1⟩:=H
 exact q01 h1
theorem q5b {ops:Array Oper}{rest:List Oper}{o:Oper}{a:Act}{w:World}{Q:Exit→Act→World→Prop}(hg:o.guard=none)(x:Operand)(hop:o.op=Op.load 35 x)
  (b j:Nat) (hx:a.eval x=.pointer (some ⟨b,j,none⟩)) (vs:List Value) (hl:vs.length=12) (hr:w.rangeAt b j vs) (hK:wpList Tryz.prog ops Q rest (a.put o.dst (.agg vs.toArray)) w):wpList Tryz.prog ops Q (o::rest) a w:=
 wpList_load_mid hg _ x hop b j hx vs _ hr Tryz.underlying35 rfl (by rw[hl];kernel_rfl) hK
theorem q9s {ops:Array Oper}{rest:List Oper}{o:Oper}{a:Act}{w:World}{Q:Exit→Act→World→Prop}(hg:o.guard=none)(x z:Operand)(hop:o.op=Op.store 35 x z)
  (b:Nat) (hx:a.eval x=.pointer (some ⟨b,0,none⟩)) (vs vs0:List Value) (hl:vs.length=12) (h1:∀x∈vs,x.oneCell'=true) (hl0:vs0.length=12) (H:OB w b vs0) (hy:a.eval z=.agg vs.toArray)
  (hK:∀w',OB w' b vs→Turn (fun k=>k=b) w w'→wpList Tryz.prog ops Q rest (a.put o.dst undef) w'):wpList Tryz.prog ops Q (o::rest) a w:=by
 obtain⟨t,h2⟩:=H
 have ht:w.there b 0 vs.toArray.size:=fun j hj=>by
  rw[List.size_toArray,hl] at hj
  refine⟨?_,by unfold World.frozen?;rw[h2];simp⟩
  rw[Nat.zero_add,cell_of_row _ _ _ _ _ _ h2,List.getElem?_toArray,List.getElem?_eq_getElem (by omega)]
  rfl
 refine wpList_store_mid hg _ x z hop b 0 vs.toArray hx hy ht (by rw[List.size_toArray,hl];kernel_rfl) (all_oneCell_toArray h1) ?_
 have e:=q0g b t vs 0 w vs0 h2 (by omega)
 rw[q1p vs0 vs (by omega)] at e
 exact hK _ ⟨t,e⟩ (q0e (S:=fun k=>k=b) rfl vs 0 w)
def zeroOp:List Value:=[.int .i64 0,.int .i64 0,.int .i64 0,.int .i64 0,.slice none 0 0,.slice none 0 0,.slice none 0 0,.string ⟨#[]⟩,.bool false,.int .i64 0,.int .i64 0,.slice none 0 0]
theorem q4r {w:World}{b:Nat}{vs:List Value}(hl:vs.length=12)(H:OB w b vs):(loadVar 35 ⟨b,0,none⟩).run Tryz.prog w=.ok (.agg vs.toArray) w:=
 q4p w ⟨b,0,none⟩ 35 vs _ (fun j v hv=>by
  rw[show (⟨b,0,none⟩:Addr).add j=⟨b,0+j,none⟩ from Addr.add_mid _ _ _,Nat.zero_add]
  exact H.cell hv) Tryz.underlying35 rfl (by rw[hl];kernel_rfl)
theorem qnu (o:OpV)(w:World)(h:o.here w) :
  Calls Tryz.prog 11 #[.agg o.vs.toArray] w fun e w'=>e=.returned (.agg o.few.vs.toArray)∧Below w.heap.size w w':=by
 obtain⟨K,A,V,⟨lv,its,kds⟩,ia,i,ic,ka,k,kc,B,ba,b,bc,⟨nm,ro,rt,nx⟩,keep,pa,p,pc⟩:=o
 have hi:=h.items.bounds
 have hk:=h.kids.bounds
 have hb1:=h.bytes.cap
 have hb2:=h.bytes.max
 unfold maxLen at hi hk hb2
 dsimp only at hi hk hb1 hb2
 clear h
 show Calls Tryz.prog 11 #[.agg #[.int .i64 K,.int .i64 A,.int .i64 V,.int .i64 lv,.slice ia i ic,.slice ka k kc,.slice ba b bc,.string nm,.bool ro,.int .i64 rt,.int .i64 nx,.slice pa p pc]] w _
 have O1:OB (w.alloc (.cells #[.int .i64 K,.int .i64 A,.int .i64 V,.int .i64 lv,.slice ia i ic,.slice ka k kc,.slice ba b bc,.string nm,.bool ro,.int .i64 rt,.int .i64 nx,.slice pa p pc] 35)) w.heap.size [.int .i64 K,.int .i64 A,.int .i64 V,.int .i64 lv,.slice ia i ic,.slice ka k kc,.slice ba b bc,.string nm,.bool ro,.int .i64 rt,.int .i64 nx,.slice pa p pc]:=⟨35,heap_alloc_new w _⟩
 have b1:Below w.heap.size w (w.alloc (.cells #[.int .i64 K,.int .i64 A,.int .i64 V,.int .i64 lv,.slice ia i ic,.slice ka k kc,.slice ba b bc,.string nm,.bool ro,.int .i64 rt,.int .i64 nx,.slice pa p pc] 35)):=blA
 have z1:(w.alloc (.cells #[.int .i64 K,.int .i64 A,.int .i64 V,.int .i64 lv,.slice ia i ic,.slice ka k kc,.slice ba b bc,.string nm,.bool ro,.int .i64 rt,.int .i64 nx,.slice pa p pc] 35)).heap.size=w.heap.size+1:=World.size_alloc ..
 have O2:OB ((w.alloc (.cells #[.int .i64 K,.int .i64 A,.int .i64 V,.int .i64 lv,.slice ia i ic,.slice ka k kc,.slice ba b bc,.string nm,.bool ro,.int .i64 rt,.int .i64 nx,.slice pa p pc] 35)).alloc (.cells zeroOp.toArray 35)) (w.heap.size+1) zeroOp:=⟨35,by rw[←z1];exact heap_alloc_new _ _⟩
 have b2:Below (w.heap.size+1) (w.alloc (.cells #[.int .i64 K,.int .i64 A,.int .i64 V,.int .i64 lv,.slice ia i ic,.slice ka k kc,.slice ba b bc,.string nm,.bool ro,.int .i64 rt,.int .i64 nx,.slice pa p pc] 35)) ((w.alloc (.cells #[.int .i64 K,.int .i64 A,.int .i64 V,.int .i64 lv,.slice ia i ic,.slice ka k kc,.slice ba b bc,.string nm,.bool ro,.int .i64 rt,.int .i64 nx,.slice pa p pc] 35)).alloc (.cells zeroOp.toArray 35)):=(Below.refl _ _).alloc (by rw[z1];exact Nat.le_refl _) _
 have O1':=O1.keep (b2.block w.heap.size (Nat.lt_succ_self _))
 have B2:=b1.trans (b2.mono (Nat.le_succ _))
 go_enter Tryz.func11,Tryz.ntmps11
 go_wp2_with fail
 all_goals (
  first
   |refine bodyPost_ret (q0n Tryz.results11 rfl (q4r (vs:=[.int .i64 K,.int .i64 A,.int .i64 V,.int .i64 lv,.slice ia i ic,.slice ka k kc,.slice ba b bc,.string nm,.bool ro,.int .i64 rt,.int .i64 nx,.slice pa p pc]) rfl ⟨_,by rw[show w.heap.size+1=(w.alloc _).heap.size from (World.size_alloc ..).symm];exact heap_alloc_new _ _⟩)) rfl ?_
   |refine bodyPost_ret (q0n Tryz.results11 rfl (q4r (vs:=[.int .i64 K,.int .i64 A,.int .i64 V,.int .i64 lv,.slice ia i ic,.slice ka k kc,.slice ba 300 bc,.string nm,.bool ro,.int .i64 rt,.int .i64 nx,.slice pa p pc]) rfl ⟨_,by rw[show w.heap.size+1=(w.alloc _).heap.size from (World.size_alloc ..).symm];exact heap_alloc_new _ _⟩)) rfl ?_
   |refine bodyPost_ret (q0n Tryz.results11 rfl (q4r (vs:=[.int .i64 K,.int .i64 A,.int .i64 V,.int .i64 lv,.slice ia i ic,.slice ka 20 kc,.slice ba b bc,.string nm,.bool ro,.int .i64 rt,.int .i64 nx,.slice pa p pc]) rfl ⟨_,by rw[show w.heap.size+1=(w.alloc _).heap.size from (World.size_alloc ..).symm];exact heap_alloc_new _ _⟩)) rfl ?_
   |refine bodyPost_ret (q0n Tryz.results11 rfl (q4r (vs:=[.int .i64 K,.int .i64 A,.int .i64 V,.int .i64 lv,.slice ia i ic,.slice ka 20 kc,.slice ba 300 bc,.string nm,.bool ro,.int .i64 rt,.int .i64 nx,.slice pa p pc]) rfl ⟨_,by rw[show w.heap.size+1=(w.alloc _).heap.size from (World.size_alloc ..).symm];exact heap_alloc_new _ _⟩)) rfl ?_
   |refine bodyPost_ret (q0n Tryz.results11 rfl (q4r (vs:=[.int .i64 K,.int .i64 A,.int .i64 V,.int .i64 lv,.slice ia 20 ic,.slice ka k kc,.slice ba b bc,.string nm,.bool ro,.int .i64 rt,.int .i64 nx,.slice pa p pc]) rfl ⟨_,by rw[show w.heap.size+1=(w.alloc _).heap.size from (World.size_alloc ..).symm];exact heap_alloc_new _ _⟩)) rfl ?_
   |refine bodyPost_ret (q0n Tryz.results11 rfl (q4r (vs:=[.int .i64 K,.int .i64 A,.int .i64 V,.int .i64 lv,.slice ia 20 ic,.slice ka k kc,.slice ba 300 bc,.string nm,.bool ro,.int .i64 rt,.int .i64 nx,.slice pa p pc]) rfl ⟨_,by rw[show w.heap.size+1=(w.alloc _).heap.size from (World.size_alloc ..).symm];exact heap_alloc_new _ _⟩)) rfl ?_
   |refine bodyPost_ret (q0n Tryz.results11 rfl (q4r (vs:=[.int .i64 K,.int .i64 A,.int .i64 V,.int .i64 lv,.slice ia 20 ic,.slice ka 20 kc,.slice ba b bc,.string nm,.bool ro,.int .i64 rt,.int .i64 nx,.slice pa p pc]) rfl ⟨_,by rw[show w.heap.size+1=(w.alloc _).heap.size from (World.size_alloc ..).symm];exact heap_alloc_new _ _⟩)) rfl ?_
   |refine bodyPost_ret (q0n Tryz.results11 rfl (q4r (vs:=[.int .i64 K,.int .i64 A,.int .i64 V,.int .i64 lv,.slice ia 20 ic,.slice ka 20 kc,.slice ba 300 bc,.string nm,.bool ro,.int .i64 rt,.int .i64 nx,.slice pa p pc]) rfl ⟨_,by rw[show w.heap.size+1=(w.alloc _).heap.size from (World.size_alloc ..).symm];exact heap_alloc_new _ _⟩)) rfl ?_
  refine⟨?_,(blA).alloc (by rw[World.size_alloc];exact Nat.le_succ _) _⟩
  unfold OpV.few OpV.vs
  dsimp only
  first
   |rw[Nat.min_eq_left (a:=i) (b:=20) (by omega)]
   |rw[Nat.min_eq_right (a:=i) (b:=20) (by omega)]
  first
   |rw[Nat.min_eq_left (a:=k) (b:=20) (by omega)]
   |rw[Nat.min_eq_right (a:=k) (b:=20) (by omega)]
  first
   |rw[Nat.min_eq_left (a:=b) (b:=300) (by omega)]
   |rw[Nat.min_eq_right (a:=b) (b:=300) (by omega)])
def q1r (b i xb:Nat)(kd:Nat)(w:World)(e:Ending)(w':World):Prop:=
 e=.returned (.bool true)∧Tab w'∧Below b w w'∧((∃d y p q S0 S S1 S2 T D P,Two b w' xb d y p q S0 S S1 S2 T D P∧PInv (i+1) D P)∨(12≤kd∧Gone w' xb))
theorem Ints.lower {w0 w:World}{A:Option Addr}{n c:Nat}{zs:List Int}(h:Ints w0 A n c zs)(hb:Below w0.heap.size w0 w):Ints w A n c zs:=
 h.turn2 (q00 (S:=fun _=>False) hb) fun _ _ _ h=>h
theorem put_n {P:Pl}(k:Int)(l:List UInt8):(P.put k l).C.n=P.C.n∧(P.put k l).S=P.S:=by unfold Pl.put;split;exact⟨qjx _,qml _⟩;exact⟨rfl,rfl⟩
theorem qrn {P:Pl}(N:Nd):(P.putN N).C.n=P.C.n∧(P.putN N).S=P.S:=by unfold Pl.putN;split;exact⟨qjx _,qml _⟩;exact⟨rfl,rfl⟩
theorem qro {P:Pl}(a:Int)(N:Nd):(P.setN a N).C.n=P.C.n∧(P.setN a N).S=P.S:=by unfold Pl.setN;split<;>exact⟨rfl,rfl⟩
theorem qnv {P:Pl}(S':Sp)(hg:S'.gen=P.S.gen):(P.setS S').C.n=P.C.n∧(P.setS S').S.gen=P.S.gen:=by unfold Pl.setS;split;exact⟨rfl,hg⟩;exact⟨rfl,rfl⟩
theorem qrp {P:Pl}(i:Int)(v:Vl):(P.volP i v).C.n=P.C.n∧(P.volP i v).S.gen=P.S.gen:=by unfold Pl.volP;split;exact qnv _ rfl;exact⟨rfl,rfl⟩
theorem Two.commits {b:Nat}{w w' w'':World}{xb d y p q b0:Nat}{S0 S S1 S2 T:Nat→Prop}{D D':DM}{P P':Pl}(H:Two b w xb d y p q S0 S S1 S2 T D P)(C:SysAt b w' d p (grow S0 w w') S (grow T w w') D' P')(X:Turn (fun k=>S0 k∨S k) w w')
  (hb0:w'.heap.size≤b0) (hb1:b0≤w''.heap.size) (R1:RDrv w'' y (fun k=>(S1 k∨w'.heap.size≤k)∧k<b0) D') (R2:RPool w'' q y (fun k=>S2 k∨b0≤k) (fun k=>grow T w w' k∨w'.heap.size≤k) P') (X2:Turn (fun k=>S1 k∨S2 k) w' w'') :
  (∃S0 S S1 S2 T',Two b w'' xb d y p q S0 S S1 S2 T' D' P'∧∀k,T' k→T k∨w.heap.size≤k)∧Turn T w w'':=by
 have htt:=H.code.tight
 have hz:=X.size
 have hz2:=X2.size
 have hxl:=H.ref.xlt
 have hin:∀k,T k→grow (grow T w w') w' w'' k:=fun k h=>⟨.inl ⟨.inl h,by have:=(htt k h).2;omega⟩,by have:=(htt k h).2;omega⟩
 have hS12:∀k,S1 k∨S2 k→T k:=fun k h=>h.elim (H.ref.sub1 k) (H.ref.sub2 k)
 have C2:=C.ownGrow X2 (fun k h=>⟨.inl (hS12 k h),by have:=(htt k (hS12 k h)).2;omega⟩) (fun k h h0=>h0.1.elim (fun h1=>h.elim (H.sep k (.inl h1)).1 (H.sep k (.inl h1)).2.1) fun h1=>by have:=(htt k (hS12 k h)).2;omega) (fun k h h0=>h.elim (H.sep k (.inr h0)).1 (H.sep k (.inr h0)).2.1)
 have hme1:=(X.block xb hxl fun h=>(H.sep xb h).2.2 rfl).trans H.ref.me
 have hme2:=(X2.block xb (by omega) fun h=>h.elim H.ref.x1 H.ref.x2).trans hme1
 refine⟨⟨_,_,fun k=>(S1 k∨w'.heap.size≤k)∧k<b0,fun k=>(S2 k∨b0≤k)∧k<w''.heap.size,_,⟨C2,⟨hme2,R1,R2.mono (fun k hk h=>⟨h,hk⟩) (fun k hk h=>h.1) (fun k h=>⟨h.1.elim (fun h=>.inl ⟨.inl (H.ref.sub2 k h),by have:=(htt k (H.ref.sub2 k h)).2;omega⟩) fun h=>.inr (by omega),h.2⟩),fun k h=>⟨h.1.elim (fun h=>.inl ⟨.inl (H.ref.sub1 k h),by have:=(htt k (H.ref.sub1 k h)).2;omega⟩) fun h=>.inr h,by omega⟩,fun k h=>⟨h.1.elim (fun h=>.inl ⟨.inl (H.ref.sub2 k h),by have:=(htt k (H.ref.sub2 k h)).2;omega⟩) fun h=>.inr (by omega),h.2⟩,fun k h h2=>?_,C2.tight,hin xb H.ref.xT,fun h=>h.1.elim H.ref.x1 fun h=>by omega,fun h=>h.1.elim H.ref.x2 fun h=>by omega⟩,fun k hk=>⟨fun h=>?_,fun h=>?_,?_⟩⟩,fun k h=>h.1.elim (fun h=>h.1) fun h=>.inr (by omega)⟩,(X.mono fun k h=>h.elim (H.code.sub k) (H.code.subS k)).trans X2 fun k hk=>.inl (hS12 k hk)⟩
 ·rcases h2.1 with h3|h3
  ·rcases h.1 with h4|h4
   ·exact H.ref.apart k h4 h3
   ·have:=(htt k (H.ref.sub2 k h3)).2;omega
  ·omega
 ·rcases hk with hk|hk
  ·rcases hk.1 with h1|h1
   ·rcases h.1 with h2|h2
    ·exact (H.sep k (.inl h1)).1 h2
    ·have:=(htt k (H.code.sub k h1)).2;omega
   ·rcases h.1 with h2|h2
    ·have:=(htt k (H.ref.sub1 k h2)).2;omega
    ·have:=hk.2;omega
  ·rcases h.1 with h2|h2
   ·exact (H.sep k (.inr hk)).1 h2
   ·have:=(htt k (H.code.subS k hk)).2;omega
 ·rcases hk with hk|hk
  ·rcases hk.1 with h1|h1
   ·rcases h.1 with h2|h2
    ·exact (H.sep k (.inl h1)).2.1 h2
    ·have:=(htt k (H.code.sub k h1)).2;omega
   ·rcases h.1 with h2|h2
    ·have:=(htt k (H.ref.sub2 k h2)).2;omega
    ·have:=hk.2;omega
  ·rcases h.1 with h2|h2
   ·exact (H.sep k (.inr hk)).2.1 h2
   ·have:=(htt k (H.code.subS k hk)).2;omega
 ·rcases hk with hk|hk
  ·rcases hk.1 with h1|h1
   ·exact (H.sep k (.inl h1)).2.2
   ·omega
  ·exact (H.sep k (.inr hk)).2.2
theorem PInv.commit {i:Nat}{D:DM}{P:Pl}(I:PInv i D P)(h:P.ok):PInv (i+1) (D.runD P.steps) (D.cmtP P):=by
 have hg:P.g=P.S.gen+1:=rfl
 have hgen:=I.gen
 have hl:P.steps.length≤70:=by
  rw[Pl.steps_len]
  have h1:=qt4 P
  have h2:=I.small
  have h3:areaN P.C.n≤1:=by unfold areaN;omega
  omega
 have hlow:(D.runD P.steps).all2 (lowQ (i+1+1)):=qgk P.steps (q87 I.low fun s x hx h2=>Nat.le_succ_of_le (hx h2)) (qns h (by rw[hg];omega))
 refine⟨qtg I.inv D,?_,?_,(q2p _ I.tame).mono (by omega),hlow,?_⟩
 ·rw[qei,I.n];unfold DM.cmtP;split<;>rfl
 ·have e:(D.cmtP P).C.n=P.C.n:=by unfold DM.cmtP;split<;>rfl
  rw[e];exact I.small
 ·unfold DM.cmtP
  split
  ·show P.g≤_
   rw[hg];omega
  ·omega
theorem qtm (D:DM)(kp:List Int):(D.crash kp).n=D.n:=q2i D kp D.n
theorem PInv.crash {i:Nat}{D:DM}{P:Pl}(I:PInv i D P)(kp:List Int):PInv i (D.crash kp) P:=
 ⟨I.inv,by rw[qtm];exact I.n,I.small,qk5 I.tame kp,qnn I.low kp,I.gen⟩
theorem PInv.fuse {i:Nat}{D:DM}{P:Pl}(I:PInv i D P)(n:Int):PInv i (D.fuse n) P:=⟨I.inv,I.n,I.small,⟨I.tame.steps,I.tame.rows⟩,I.low,I.gen⟩
theorem PInv.mounted {i:Nat}{D:DM}{P:Pl}(I:PInv i D P):PInv i D (Pl.mounted D.newest D.n):=by
 have hn:(Pl.mounted D.newest D.n).C.n=D.n:=q77 _ _
 exact⟨q9n _ _,hn.symm,by rw[hn,I.n];exact I.small,I.tame,I.low,qnr I.low⟩
theorem PInv.up {i:Nat}{D:DM}{P:Pl}(h:PInv i D P):PInv (i+1) D P:=h.next h.inv rfl rfl
structure DIn (b i:Nat)(w0 w:World)(xb d y p q:Nat)(S0 S S1 S2 T:Nat→Prop)(D:DM)(P:Pl)(o:OpV):Prop where
 H:Two b w xb d y p q S0 S S1 S2 T D P
 I:PInv i D P
 hi:i≤60
 hb:1<b
 ht:Tab w
 ho:o.here w0
 hi20:o.i≤20
 hk20:o.k≤20
 hb300:o.b≤300
 hw0:w0.heap.size≤b
 B0:Below w0.heap.size w0 w
theorem q1j {b:Nat}{w0 w w1:World}{xb d y p q:Nat}{S0 S S1 S2 T:Nat→Prop}{D:DM}{P:Pl}{vs:List Value}{t:TypeId}(H:Two b w xb d y p q S0 S S1 S2 T D P)(hb:1<b)(ht:Tab w)(hw0:w0.heap.size≤b)(B0:Below w0.heap.size w0 w)(hw1:w1=w.alloc (.cells vs.toArray t)) :
  OB w1 w.heap.size vs∧Below w.heap.size w w1∧Two b w1 xb d y p q S0 S S1 S2 T D P∧w.heap.size<w1.heap.size∧Tab w1∧(∀k,T k→k<w1.heap.size)∧Below w0.heap.size w0 w1∧¬T w.heap.size∧Below b w w1∧(∀w',Turn T w1 w'→Tab w'∧Below b w w')∧
   b≤w.heap.size∧xb<w.heap.size∧(∀k,T k→b≤k∧k<w.heap.size)∧(∀k,T k→k<w.heap.size)∧(∀k,T k→w0.heap.size≤k)∧¬T 1∧(∀k,S k→T k)∧(∀k,S2 k→T k)∧P.ok:=by
 have hbs:=H.code.base
 have htt:=H.code.tight
 have hT1:∀k,T k→k<w.heap.size:=fun k hk=>(htt k hk).2
 have hG:¬T 1:=fun h=>by have:=(htt _ h).1;omega
 have z1:w1.heap.size=w.heap.size+1:=by rw[hw1];exact World.size_alloc ..
 have b1:Below w.heap.size w w1:=by rw[hw1];exact blA
 have O1:OB w1 w.heap.size vs:=⟨t,by rw[hw1];exact heap_alloc_new w _⟩
 have t1:=ht.below b1 ht.1
 have b1':Below b w w1:=b1.mono hbs
 have H1:=H.below b1
 exact⟨O1,b1,H1,by omega,t1,fun k hk=>by have:=hT1 k hk;omega,B0.trans (b1.mono B0.size),fun h=>by have:=hT1 _ h;omega,b1',fun w' X=>⟨t1.turned X hG,b1'.trans (H1.bel X)⟩,hbs,H.ref.xlt,htt,hT1,fun k hk=>Nat.le_trans hw0 (htt k hk).1,hG,H.code.subS,H.ref.sub2,H.code.pool.ok⟩
theorem q3h {K k:Int}(iK:-9223372036854775808≤K∧K≤9223372036854775807)(hkk:(md K 16:Int)=k) :
  Hid (∀w,Calls Tryz.prog 14 #[.int .i64 K,.int .i64 16] w fun e w'=>e=.returned (.int .i64 k)∧w=w'):=
 Lib.hid (fun w=>by
  have h:=q31 K 16 iK (by omega) (by omega) w
  rw[hkk] at h
  exact h)
theorem qv8 {b i w0 w xb d y p q S0 S S1 S2 T D P}(o:OpV)(Z:DIn b i w0 w xb d y p q S0 S S1 S2 T D P o)(hkk:(md o.K 16:Int)=4) :
  Calls Tryz.prog 12 #[.pointer (some ⟨xb,0,none⟩),.agg o.vs.toArray] w fun e w'=>q1r b i xb 4 w e w':=by
 obtain⟨H,I,_hi,hb,ht,ho,hi20,hk20,hb300,hw0,B0⟩:=Z
 obtain⟨K,A,V,⟨lv,its,kds⟩,ia,i0,ic,ka,k0,kc,B,ba,b0,bc,⟨nm,ro,rt,nx⟩,keep,pa,p0,pc⟩:=o
 obtain⟨iK,iA,iV,hIt,hKt,hBy,hNm,hKe⟩:=ho
 dsimp only at iK iA iV hIt hKt hBy hNm hKe hi20 hk20 hb300 hkk
 obtain⟨w1,hw1⟩:∃w1,w1=w.alloc (.cells #[.int .i64 K,.int .i64 A,.int .i64 V,.int .i64 lv,.slice ia i0 ic,.slice ka k0 kc,.slice ba b0 bc,.string nm,.bool ro,.int .i64 rt,.int .i64 nx,.slice pa p0 pc] 35):=⟨_,rfl⟩
 obtain⟨O1,b1,H1,z1a,t1,hT1',B1,hbo,b1',hfin,hbs,hxl,htt,hT1,hT0,hG,hST,hS2T,hok⟩:=q1j H hb ht hw0 B0 hw1
 have c2:=H1.ref.c2
 have c3:=H1.ref.c3
 rw[hw1] at c2 c3
 have Hkd:=q3h iK hkk
 clear hkk iK
 show Calls Tryz.prog 12 #[.pointer (some ⟨xb,0,none⟩),.agg #[.int .i64 K,.int .i64 A,.int .i64 V,.int .i64 lv,.slice ia i0 ic,.slice ka k0 kc,.slice ba b0 bc,.string nm,.bool ro,.int .i64 rt,.int .i64 nx,.slice pa p0 pc]] w _
 go_enter Tryz.func12,Tryz.ntmps12
 go_wp2_with fail
 rw[←hw1] at c2 c3 ⊢
 clear hw1
 refine (Hkd.out w1).mono ?_
 rintro e w1' ⟨rfl,rfl⟩
 have hO:∀w':World,w'.heap[w.heap.size]?=w1.heap[w.heap.size]?→w'.cell? ⟨w.heap.size,1,none⟩=some (.int .i64 A)∧w'.cell? ⟨w.heap.size,3,none⟩=some (.int .i64 lv)∧w'.cell? ⟨w.heap.size,4,none⟩=some (.slice ia i0 ic)∧w'.cell? ⟨w.heap.size,5,none⟩=some (.slice ka k0 kc):=fun w' h=>⟨(O1.keep h).cell (j:=1) rfl,(O1.keep h).cell (j:=3) rfl,(O1.keep h).cell (j:=4) rfl,(O1.keep h).cell (j:=5) rfl⟩
 obtain⟨E1,hE1⟩:∃X,P.setNE A ⟨lv,its,kds⟩=X:=⟨_,rfl⟩
 have BD:Below w1.heap.size w1 w1.drew:=(Below.refl _ _).drew
 have HD:=H1.below BD
 have td:=t1.below BD t1.1
 have BBD:=B1.trans (BD.mono B1.size)
 have hc:=qeu HD.code.drv HD.code.pool I.inv.kind I.inv.fresh (fun k hk=>hT1' k hk) hG BBD (fun k hk=>hT0 k (hST k hk)) A ⟨lv,its,kds⟩ ia i0 ic ka k0 kc hIt hKt (by omega) (by omega) td
 have hr:=fun (w2:World) (R:RPool w2 q y S2 T P) (hz:w1.heap.size≤w2.heap.size) (bb:Below w0.heap.size w0 w2)=>qev R I.inv.kind A ⟨lv,its,kds⟩ ia i0 ic ka k0 kc bb (fun k hk=>by have:=hT1' k hk;omega) hT0 hIt hKt (by omega) (by omega)
 rw[hE1] at hc
 simp only[hE1] at hr
 have Hc:=Lib.hid hc
 have Hr:=Lib.hid hr
 have nE:(E1==E1)=true:=by simp
 have zD:w1.drew.heap.size=w1.heap.size:=rfl
 have ZD:=Lib.hid zD
 clear hc hr hE1 zD
 go_wp2_with fail
 go_region_held3 (fun w'=>w'.cell? ⟨w.heap.size,1,none⟩=some (.int .i64 A)∧w'.cell? ⟨w.heap.size,3,none⟩=some (.int .i64 lv)∧w'.cell? ⟨w.heap.size,4,none⟩=some (.slice ia i0 ic)∧w'.cell? ⟨w.heap.size,5,none⟩=some (.slice ka k0 kc))
  (first|assumption|exact hO _ rfl|exact hO _ h2|exact hO _ h3)
  (first
   |(go_at_call 48;have hh:=X2;refine (Hr.out w2 (HD.refOther X2).pool (by have h1:=X2.size;have h2:=ZD.out;omega) (BBD.trans (X2.below (fun k hk=>hT0 k (hST k hk)) BBD.size))).mono ?_;rintro e w3 ⟨rfl,R3,X3⟩;have h3:w3.heap[w.heap.size]?=w1.heap[w.heap.size]?:=(X3.block w.heap.size (by have h1:=X2.size;have h2:=ZD.out;omega) fun h=>hbo (hS2T _ h)).trans h2)
   |(go_at_call 47;refine Hc.out.mono ?_;rintro e w2 ⟨rfl,R2,X2⟩;have h2:w2.heap[w.heap.size]?=w1.heap[w.heap.size]?:=X2.block w.heap.size (by have h2:=ZD.out;omega) fun h=>hbo (hST _ h))
   |fail)
 obtain⟨F1,F2⟩:=HD.pools (HD.code.turned R2 X2) X2 R3 X3
 have F3:=hfin w3 ((q00 BD).trans F2 fun k hk=>.inl hk)
 clear R2 R3 X2 X3 O1 hO
 go_wp2
 go_ret
 exact⟨rfl,F3.1,F3.2,.inl ⟨_,_,_,_,_,_,_,_,_,_,_,F1,I.next (qqg I.inv _ _) (qro _ _).1 (by rw[(qro _ _).2])⟩⟩
theorem qv9 {b i w0 w xb d y p q S0 S S1 S2 T D P}(o:OpV)(Z:DIn b i w0 w xb d y p q S0 S S1 S2 T D P o)(hkk:(md o.K 16:Int)=5) :
  Calls Tryz.prog 12 #[.pointer (some ⟨xb,0,none⟩),.agg o.vs.toArray] w fun e w'=>q1r b i xb 5 w e w':=by
 obtain⟨H,I,_hi,hb,ht,ho,hi20,hk20,hb300,hw0,B0⟩:=Z
 obtain⟨K,A,V,⟨lv,its,kds⟩,ia,i0,ic,ka,k0,kc,B,ba,b0,bc,⟨nm,ro,rt,nx⟩,keep,pa,p0,pc⟩:=o
 obtain⟨iK,iA,iV,hIt,hKt,hBy,hNm,hKe⟩:=ho
 dsimp only at iK iA iV hIt hKt hBy hNm hKe hi20 hk20 hb300 hkk
 obtain⟨w1,hw1⟩:∃w1,w1=w.alloc (.cells #[.int .i64 K,.int .i64 A,.int .i64 V,.int .i64 lv,.slice ia i0 ic,.slice ka k0 kc,.slice ba b0 bc,.string nm,.bool ro,.int .i64 rt,.int .i64 nx,.slice pa p0 pc] 35):=⟨_,rfl⟩
 obtain⟨O1,b1,H1,z1a,t1,hT1',B1,hbo,b1',hfin,hbs,hxl,htt,hT1,hT0,hG,hST,hS2T,hok⟩:=q1j H hb ht hw0 B0 hw1
 have c2:=H1.ref.c2
 have c3:=H1.ref.c3
 rw[hw1] at c2 c3
 have Hkd:=q3h iK hkk
 clear hkk iK
 show Calls Tryz.prog 12 #[.pointer (some ⟨xb,0,none⟩),.agg #[.int .i64 K,.int .i64 A,.int .i64 V,.int .i64 lv,.slice ia i0 ic,.slice ka k0 kc,.slice ba b0 bc,.string nm,.bool ro,.int .i64 rt,.int .i64 nx,.slice pa p0 pc]] w _
 go_enter Tryz.func12,Tryz.ntmps12
 go_wp2_with fail
 rw[←hw1] at c2 c3 ⊢
 clear hw1
 refine (Hkd.out w1).mono ?_
 rintro e w1' ⟨rfl,rfl⟩
 have o1:=O1.cell (j:=1) rfl
 obtain⟨M,hM⟩:∃X,P.nodeN D A=X:=⟨_,rfl⟩
 obtain⟨E1,hE1⟩:∃X,P.nodeE D A=X:=⟨_,rfl⟩
 have hc:=q9l H1.code.drv H1.code.pool I.inv.kind t1 A
 have hr:=fun (w2:World) (bb:Below w1.heap.size w1 w2)=>qew (H1.ref.drv.below bb) (H1.ref.pool.below bb) I.inv.kind I.inv.good A
 rw[hM,hE1] at hc
 simp only[hM,hE1] at hr
 have Hc:=Lib.hid hc
 have Hr:=Lib.hid hr
 have nE:(E1==E1)=true:=by simp
 clear hc hr hM hE1
 go_wp2_with fail
 refine Hc.out.mono ?_
 rintro e w2 ⟨A2,n2,q2,B2,m2,d2,rfl,_,_,hI2,hK2,bb2⟩
 have z2:=bb2.size
 have X2a:NB (w2.alloc (.cells #[.int .i64 0,.slice none 0 0,.slice none 0 0] 29)) w2.heap.size 0 none 0 0 none 0 0:=NB.new w2 _ _ _ _ _ _ _ _
 have b2a:Below w2.heap.size w2 (w2.alloc (.cells #[.int .i64 0,.slice none 0 0,.slice none 0 0] 29)):=blA
 have z2a:=b2a.size
 go_wp2_with (first
  |(refine q07 rfl _ _ rfl w2.heap.size rfl M.lvl A2 n2 q2 B2 m2 d2 rfl X2a ?_;intro w3 X3 T3;have bb3:Below w1.heap.size w1 w3:=(bb2.trans (b2a.mono z2)).trans (T3.below (fun k hk=>by omega) (by omega));have O3:=O1.keep (bb3.block w.heap.size (by omega));have o1':=O3.cell (j:=1) rfl;have hI3:=q2y X2a T3 (hI2.below b2a);have hK3:=q38 X2a T3 (hK2.below b2a))
  |fail)
 refine (Hr.out w3 bb3).mono ?_
 rintro e w4 ⟨A4,n4,q4,B4,m4,d4,rfl,_,_,hI4,hK4,bb4⟩
 have z3:=T3.size
 have z4:=bb4.size
 have X4:=X3.below bb4 X3.lt
 have X4a:NB (w4.alloc (.cells #[.int .i64 0,.slice none 0 0,.slice none 0 0] 29)) w4.heap.size 0 none 0 0 none 0 0:=NB.new w4 _ _ _ _ _ _ _ _
 have b4a:Below w4.heap.size w4 (w4.alloc (.cells #[.int .i64 0,.slice none 0 0,.slice none 0 0] 29)):=blA
 have z4a:=b4a.size
 have X4':=X4.below b4a X4.lt
 have hl4:=X4.lt
 clear o1
 go_wp2_with (first
  |(refine q07 rfl _ _ rfl w4.heap.size rfl M.lvl A4 n4 q4 B4 m4 d4 rfl X4a ?_;intro w5 X5 T5;have X35:NB w5 w2.heap.size M.lvl A2 n2 q2 B2 m2 d2:=X4'.keep (T5.block _ X4'.lt (by omega));have hI5:=q2y X4a T5 (hI4.below b4a);have hK5:=q38 X4a T5 (hK4.below b4a);have hI35:=q2y X4a T5 ((hI3.below bb4).below b4a);have hK35:=q38 X4a T5 ((Kidl.below hK3 bb4).below b4a);have e0:=X35.c0;have e1:=X35.c1;have e2:=X35.c2;have e3:=X5.c0;have e4:=X5.c1;have e5:=X5.c2)
  |fail)
 have hn1:=hI35.len
 have hn2:=hI5.len
 have hm1:=Kidl.len hK35
 have hm2:=Kidl.len hK5
 obtain rfl:n4=n2:=by omega
 obtain rfl:m4=m2:=by omega
 refine (q8p M A2 n4 q2 B2 m4 d2 A4 q4 B4 d4 w5 hI35 hK35 hI5 hK5).mono ?_
 rintro e w6 ⟨rfl,bb6⟩
 have z5:=T5.size
 have bb5:Below w1.heap.size w1 w5:=(bb3.trans ((bb4.trans (b4a.mono z4)).mono (by omega))).trans (T5.below (fun k hk=>by omega) (by omega))
 have bbb:=bb5.trans (bb6.mono bb5.size)
 have F3:=hfin w6 (q00 bbb)
 have F1:=H1.below bbb
 go_wp2
 go_ret
 exact⟨rfl,F3.1,F3.2,.inl ⟨_,_,_,_,_,_,_,_,_,_,_,F1,I.up⟩⟩
theorem qrq {b i w0 w xb d y p q S0 S S1 S2 T D P}(o:OpV)(Z:DIn b i w0 w xb d y p q S0 S S1 S2 T D P o)(kd:Nat)(kz:Int)(hkk:(md o.K 16:Int)=kz)(hk2:kz=6∨kz=7) :
  Calls Tryz.prog 12 #[.pointer (some ⟨xb,0,none⟩),.agg o.vs.toArray] w fun e w'=>q1r b i xb kd w e w':=by
 obtain⟨H,I,_hi,hb,ht,ho,hi20,hk20,hb300,hw0,B0⟩:=Z
 obtain⟨K,A,V,⟨lv,its,kds⟩,ia,i0,ic,ka,k0,kc,B,ba,b0,bc,⟨nm,ro,rt,nx⟩,keep,pa,p0,pc⟩:=o
 obtain⟨iK,iA,iV,hIt,hKt,hBy,hNm,hKe⟩:=ho
 dsimp only at iK iA iV hIt hKt hBy hNm hKe hi20 hk20 hb300 hkk
 rcases hk2 with rfl|rfl
 all_goals (
  obtain⟨w1,hw1⟩:∃w1,w1=w.alloc (.cells #[.int .i64 K,.int .i64 A,.int .i64 V,.int .i64 lv,.slice ia i0 ic,.slice ka k0 kc,.slice ba b0 bc,.string nm,.bool ro,.int .i64 rt,.int .i64 nx,.slice pa p0 pc] 35):=⟨_,rfl⟩
  obtain⟨O1,b1,H1,z1a,t1,hT1',B1,hbo,b1',hfin,hbs,hxl,htt,hT1,hT0,hG,hST,hS2T,hok⟩:=q1j H hb ht hw0 B0 hw1
  have c2:=H1.ref.c2
  have c3:=H1.ref.c3
  rw[hw1] at c2 c3
  have Hkd:=q3h iK hkk
  clear hkk iK
  show Calls Tryz.prog 12 #[.pointer (some ⟨xb,0,none⟩),.agg #[.int .i64 K,.int .i64 A,.int .i64 V,.int .i64 lv,.slice ia i0 ic,.slice ka k0 kc,.slice ba b0 bc,.string nm,.bool ro,.int .i64 rt,.int .i64 nx,.slice pa p0 pc]] w _
  go_enter Tryz.func12,Tryz.ntmps12
  go_wp2_with fail
  rw[←hw1] at c2 c3 ⊢
  clear hw1
  refine (Hkd.out w1).mono ?_
  rintro e w1' ⟨rfl,rfl⟩
  have o1:=O1.cell (j:=1) rfl
  have o2:=O1.cell (j:=2) rfl
  obtain⟨M,hM⟩:∃X,P.bytesL D A V=X:=⟨_,rfl⟩
  obtain⟨E1,hE1⟩:∃X,P.bytesE D A V=X:=⟨_,rfl⟩
  have hc:=q7b H1.code.drv H1.code.pool t1 A V
  unfold q2d at hc
  have hr:=fun (w2:World) (bb:Below w1.heap.size w1 w2)=>qb2 (H1.ref.drv.below bb) (H1.ref.pool.below bb) I.inv.kind I.inv.good A V
  rw[hM,hE1] at hc
  simp only[hM,hE1] at hr
  have Hc:=Lib.hid hc
  have Hr:=Lib.hid hr
  have nE:(E1==E1)=true:=by simp
  clear hc hr hM hE1
  go_wp2_with fail
  refine Hc.out.mono ?_
  rintro e w2 ⟨A2,n2,q2,rfl,s2,bb2,_⟩
  have z2:=bb2.size
  have O2:=O1.keep (bb2.block w.heap.size (by omega))
  have o1':=O2.cell (j:=1) rfl
  have o2':=O2.cell (j:=2) rfl
  clear o1 o2
  go_wp2_with fail
  refine (Hr.out w2 bb2).mono ?_
  rintro e w3 ⟨A3,n3,q3,rfl,s3,bb3⟩
  have k2:=q2h (s2.below bb3)
  have k3:=q2h s3
  have bbb:=bb2.trans (bb3.mono z2)
  have F3:=hfin w3 (q00 bbb)
  have F1:=H1.below bbb
  clear o1' o2' O2 s2 s3
  go_wp2
  go_ret
  exact⟨rfl,F3.1,F3.2,.inl ⟨_,_,_,_,_,_,_,_,_,_,_,F1,I.up⟩⟩)
theorem qtn {b i w0 w xb d y p q S0 S S1 S2 T D P}(o:OpV)(Z:DIn b i w0 w xb d y p q S0 S S1 S2 T D P o)(hkk:(md o.K 16:Int)=11) :
  Calls Tryz.prog 12 #[.pointer (some ⟨xb,0,none⟩),.agg o.vs.toArray] w fun e w'=>q1r b i xb 11 w e w':=by
 obtain⟨H,I,_hi,hb,ht,ho,hi20,hk20,hb300,hw0,B0⟩:=Z
 obtain⟨K,A,V,⟨lv,its,kds⟩,ia,i0,ic,ka,k0,kc,B,ba,b0,bc,⟨nm,ro,rt,nx⟩,keep,pa,p0,pc⟩:=o
 obtain⟨iK,iA,iV,hIt,hKt,hBy,hNm,hKe⟩:=ho
 dsimp only at iK iA iV hIt hKt hBy hNm hKe hi20 hk20 hb300 hkk
 obtain⟨w1,hw1⟩:∃w1,w1=w.alloc (.cells #[.int .i64 K,.int .i64 A,.int .i64 V,.int .i64 lv,.slice ia i0 ic,.slice ka k0 kc,.slice ba b0 bc,.string nm,.bool ro,.int .i64 rt,.int .i64 nx,.slice pa p0 pc] 35):=⟨_,rfl⟩
 obtain⟨O1,b1,H1,z1a,t1,hT1',B1,hbo,b1',hfin,hbs,hxl,htt,hT1,hT0,hG,hST,hS2T,hok⟩:=q1j H hb ht hw0 B0 hw1
 have c2:=H1.ref.c2
 have c3:=H1.ref.c3
 rw[hw1] at c2 c3
 have Hkd:=q3h iK hkk
 clear hkk iK
 show Calls Tryz.prog 12 #[.pointer (some ⟨xb,0,none⟩),.agg #[.int .i64 K,.int .i64 A,.int .i64 V,.int .i64 lv,.slice ia i0 ic,.slice ka k0 kc,.slice ba b0 bc,.string nm,.bool ro,.int .i64 rt,.int .i64 nx,.slice pa p0 pc]] w _
 go_enter Tryz.func12,Tryz.ntmps12
 go_wp2_with fail
 rw[←hw1] at c2 c3 ⊢
 clear hw1
 refine (Hkd.out w1).mono ?_
 rintro e w1' ⟨rfl,rfl⟩
 have hO:∀w':World,w'.heap[w.heap.size]?=w1.heap[w.heap.size]?→w'.cell? ⟨w.heap.size,1,none⟩=some (.int .i64 A):=fun w' h=>(O1.keep h).cell (j:=1) rfl
 obtain⟨E1,hE1⟩:∃X,P.logE A=X:=⟨_,rfl⟩
 have BD:Below w1.heap.size w1 w1.drew:=(Below.refl _ _).drew
 have HD:=H1.below BD
 have hc:=q9i HD.code.pool A
 have hr:=fun (w2:World) (R:RPool w2 q y S2 T P)=>qgc R A
 rw[hE1] at hc
 simp only[hE1] at hr
 have Hc:=Lib.hid hc
 have Hr:=Lib.hid hr
 have nE:(E1==E1)=true:=by simp
 have zD:w1.drew.heap.size=w1.heap.size:=rfl
 have ZD:=Lib.hid zD
 clear hc hr hE1 zD
 go_wp2_with fail
 go_region_held3 (fun w'=>w'.cell? ⟨w.heap.size,1,none⟩=some (.int .i64 A))
  (first|assumption|exact hO _ rfl|exact hO _ h2|exact hO _ h3)
  (first
   |(go_at_call 55;have hh:=X2;refine (Hr.out w2 (HD.refOther X2).pool).mono ?_;rintro e w3 ⟨rfl,R3,X3⟩;have h3:w3.heap[w.heap.size]?=w1.heap[w.heap.size]?:=(X3.block w.heap.size (by have h1:=X2.size;have h2:=ZD.out;omega) fun h=>hbo (hS2T _ h)).trans h2)
   |(go_at_call 54;refine Hc.out.mono ?_;rintro e w2 ⟨rfl,R2,X2⟩;have h2:w2.heap[w.heap.size]?=w1.heap[w.heap.size]?:=X2.block w.heap.size (by have h2:=ZD.out;omega) fun h=>hbo (hST _ h))
   |fail)
 obtain⟨F1,F2⟩:=HD.pools (HD.code.turned R2 X2) X2 R3 X3
 have F3:=hfin w3 ((q00 BD).trans F2 fun k hk=>.inl hk)
 clear R2 R3 X2 X3 O1 hO
 go_wp2
 go_ret
 exact⟨rfl,F3.1,F3.2,.inl ⟨_,_,_,_,_,_,_,_,_,_,_,F1,I.next (qig I.inv _) (qnv (P:=P) (P.S.setLog A) rfl).1 (qnv (P:=P) (P.S.setLog A) rfl).2⟩⟩
end Go.Proofs.YtipejjgodnnkaaaGreatDoor
