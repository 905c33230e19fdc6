/- The reference's pool: lay, PutNode, PutBytes, SetNode -/
import Derived.Test.YtipejjgodnnkaaaGreatDoorPm35
namespace Go.Proofs.YtipejjgodnnkaaaGreatDoor
open Go Go.RowKit Go.Proofs
set_option maxHeartbeats 4000000
set_option maxRecDepth 100000
theorem qp0 {α:Type}:∀{l:List α},l.length=5→∃a b c d e,l=[a,b,c,d,e]
 |[a,b,c,d,e],_=>⟨a,b,c,d,e,rfl⟩
theorem qfi {ops:Array Oper}{rest:List Oper}{o:Oper}{a:Act}{w:World}{Q:Exit→Act→World→Prop}(hg:o.guard=none)(x z:Operand)(hop:o.op=Op.store 115 x z)
  {q y c g:Nat} {Sc S T:Nat→Prop} {P:Pl} (L:RQ w q y c g Sc S T P) {k:Nat} (hk:k<P.C.n) (hx:a.eval x=.pointer (some ⟨g,k*5,none⟩)) (v:List Value) (b:Bk) (hb:QB w T v (some b)) (hy:a.eval z=.agg v.toArray)
  (hK:∀w',RQ w' q y c g Sc S T ⟨P.S,P.C,upd P.L k (some b)⟩→Turn (fun k=>k=g) w w'→wpList Tryz.prog ops Q rest (a.put o.dst undef) w'):wpList Tryz.prog ops Q (o::rest) a w:=by
 obtain⟨hl,h1⟩:=hb.one
 have ht:w.there g (k*5) v.toArray.size:=by rw[List.size_toArray,hl];exact L.row.there (by omega)
 refine wpList_store_mid hg _ x z hop g (k*5) v.toArray hx hy ht (by rw[List.size_toArray,hl];kernel_rfl) (all_oneCell_toArray h1) ?_
 have Tn:=q0d (S:=fun k=>k=g) rfl v (k*5) w
 obtain⟨v0,hv0,hr0,_⟩:=L.row.at_ hk
 refine hK _ (L.setL Tn ?_) Tn
 refine L.row.set_ (o:=0) (xs:=v) (v':=v) hk hr0 hv0 ?_ (by omega) hb (by rw[Nat.add_zero]) (L.sub g L.inS.2.1)
 exact (q24 v0 v (by omega)).symm
theorem qfj {ops:Array Oper}{rest:List Oper}{o:Oper}{a:Act}{w:World}{Q:Exit→Act→World→Prop}(hg:o.guard=none)(x z:Operand)(hop:o.op=Op.store 29 x z)
  {q y c g:Nat} {Sc S T:Nat→Prop} {P:Pl} (L:RQ w q y c g Sc S T P) {k:Nat} (hk:k<P.C.n) (hx:a.eval x=.pointer (some ⟨g,k*5+1,none⟩)) (M N:Nd) (hM:P.L k=some (.node M)) (A:Option Addr) (n cc:Nat) (B:Option Addr) (m e:Nat)
  (hn:n≤1000) (hm:m≤1000) (hI:Stay w (fun k=>¬T k) fun w=>Itms w A n cc N.items∧Kidl w B m e N.kids) (hy:a.eval z=.agg #[.int .i64 N.lvl,.slice A n cc,.slice B m e])
  (hK:∀w',RQ w' q y c g Sc S T ⟨P.S,P.C,upd P.L k (some (.node N))⟩→Turn (fun k=>k=g) w w'→wpList Tryz.prog ops Q rest (a.put o.dst undef) w'):wpList Tryz.prog ops Q (o::rest) a w:=by
 have ht:w.there g (k*5+1) 3:=L.row.there (by omega)
 refine wpList_store_mid hg _ x z hop g (k*5+1) #[.int .i64 N.lvl,.slice A n cc,.slice B m e] hx hy ht (by kernel_rfl) (by simp[Value.oneCell']) ?_
 have Tn:=q0d (S:=fun k=>k=g) rfl [.int .i64 N.lvl,.slice A n cc,.slice B m e] (k*5+1) w
 obtain⟨v0,hv0,hr0,hq⟩:=L.row.at_ hk
 rw[hM] at hq
 obtain⟨A0,n0,c0,B0,m0,e0,rfl,_⟩:=hq
 refine hK _ (L.setL Tn ?_) Tn
 exact L.row.set_ (o:=1) (xs:=[.int .i64 N.lvl,.slice A n cc,.slice B m e]) (v':=[.int .i64 3,.int .i64 N.lvl,.slice A n cc,.slice B m e,.slice none 0 0]) hk hr0 rfl rfl (by show 1+3≤5;omega) ⟨A,n,cc,B,m,e,rfl,hn,hm,hI⟩ rfl (L.sub g L.inS.2.1)
def ldK (p:Value):Sem Value:=Instr.loadAt 115 p
theorem qp1 (p:Value):Instr.loadAt 115 p=ldK p:=rfl
theorem qs0 {w:World}{b j:Nat}{v:List Value}(hl:v.length=5)(hr:w.rangeAt b j v):(ldK (.pointer (some ⟨b,j,none⟩))).run Tryz.prog w=.ok (.agg v.toArray) w:=
 run_loadAt_mid (P:=Tryz.prog) w b j 115 v _ hr Tryz.underlying115 rfl (by rw[hl];kernel_rfl)
section
variable {w:World}{q y:Nat}{S T:Nat→Prop}{P:Pl}
attribute [local go_sem ↓] qp1
theorem qhd (H:RPool w q y S T P)(hT:∀k,T k→k<w.heap.size)(v:List Value)(b:Bk)(hb:QB w T v (some b)) :
  Calls Tryz.prog 106 #[.pointer (some ⟨q,0,none⟩),.agg v.toArray] w fun e w'=>e=.returned (.tuple #[.int .i64 P.C.allocV,.int .i64 P.C.allocE])∧RPool w' q y S T (P.lay b)∧Turn S w w':=by
 obtain⟨c,g,Sc,L⟩:=H
 obtain⟨hl5,_⟩:=hb.one
 obtain⟨x0,x1,x2,x3,x4,rfl⟩:=qp0 hl5
 show Calls Tryz.prog 106 #[.pointer (some ⟨q,0,none⟩),.agg #[x0,x1,x2,x3,x4]] w _
 have b1:Below w.heap.size w (w.alloc (.cells #[x0,x1,x2,x3,x4] 115)):=blA
 have z1:(w.alloc (.cells #[x0,x1,x2,x3,x4] 115)).heap.size=w.heap.size+1:=by simp
 have hn1:(w.alloc (.cells #[x0,x1,x2,x3,x4] 115)).heap[w.heap.size]?=some (.cells #[x0,x1,x2,x3,x4] 115 (0,0)):=heap_alloc_new w _
 have L1:=L.below b1
 have hb1:QB (w.alloc (.cells #[x0,x1,x2,x3,x4] 115)) T [x0,x1,x2,x3,x4] (some b):=hb.on (q5h b1 _) fun _ _ h=>h
 have h36:=L1.c36
 have hcn:=L.ct.ok.1
 cases hp:P.C.pick with
 |none=>
  obtain⟨a1,a2,a3⟩:=Ct.alloc_none hp
  have hal:=fun (w2:World) (C2:RC w2 c Sc P.C)=>q5q C2
  rw[a1,a2,a3] at hal
  have hlay:P.lay b=P:=by unfold Pl.lay;rw[hp]
  rw[a1,a2,hlay]
  have Hal:=Lib.hid hal
  clear a1 a2 a3 hp hlay hal
  go_enter Tryz.func106,Tryz.ntmps106
  go_wp2_with fail
  generalize w.alloc (.cells #[x0,x1,x2,x3,x4] 115)=w1 at b1 z1 hn1 L1 hb1 h36 ⊢
  refine (Hal.out w1 L1.ct).mono ?_
  rintro e w3 ⟨rfl,C3,T3⟩
  go_wp2
  go_ret2
  exact⟨rfl,⟨c,g,Sc,L1.setC T3 C3 rfl⟩,(q00 (S:=S) b1).trans (T3.mono L.inS.2.2) fun k hk=>.inl hk⟩
 |some a=>
  obtain⟨a1,a2,a3⟩:=Ct.alloc_some hp
  have han:=(Ct.pick_in hp).1
  have hal:=fun (w2:World) (C2:RC w2 c Sc P.C)=>q5q C2
  rw[a1,a2] at hal
  have hn:=Ct.alloc_n P.C
  have hlay:P.lay b=⟨P.S,P.C.alloc,upd P.L a (some b)⟩:=q3s hp b
  rw[a1,a2,hlay]
  have Hal:=Lib.hid hal
  have Hn:=Lib.hid hn
  clear a1 a2 a3 hp hlay hal hn
  go_enter Tryz.func106,Tryz.ntmps106
  go_wp2_with fail
  generalize w.alloc (.cells #[x0,x1,x2,x3,x4] 115)=w1 at b1 z1 hn1 L1 hb1 h36 ⊢
  refine (Hal.out w1 L1.ct).mono ?_
  rintro e w3 ⟨rfl,C3,T3⟩
  have L3:=L1.setC T3 C3 Hn.out
  have hbx:¬Sc w.heap.size:=fun h=>by have:=hT _ (L.sub _ (L.inS.2.2 _ h));omega
  have n3:=(T3.block w.heap.size (by omega) hbx).trans hn1
  have r3:w3.rangeAt w.heap.size 0 [x0,x1,x2,x3,x4]:=fun j x hx=>by
   rw[Nat.zero_add,cell_of_row _ _ _ _ _ _ n3]
   simpa using hx
  have q37:=L3.c37
  have e37:(⟨P.S,P.C.alloc,P.L⟩:Pl).C.n=P.C.n:=Hn.out
  rw[e37] at q37
  have hb3:=hb1.on (T3.agree fun k hk h=>hk (L.sub k (L.inS.2.2 k h))) fun _ _ h=>h
  have i0:(0:Int)≤(a:Int):=by omega
  have i1:(a:Int)<(P.C.n:Int):=by omega
  have i2:a<P.C.n:=han
  have hk3:a<(⟨P.S,P.C.alloc,P.L⟩:Pl).C.n:=by rw[e37];exact han
  have X3:Turn S w w3:=(q00 (S:=S) b1).trans (T3.mono L.inS.2.2) fun k hk=>.inl hk
  clear e37 h36 hn1 n3
  have hld:(ldK (.pointer (some ⟨w.heap.size,0,none⟩))).run Tryz.prog w3.drew=.ok (.agg #[x0,x1,x2,x3,x4]) w3.drew:=qs0 (v:=[x0,x1,x2,x3,x4]) rfl r3
  go_wp2_with fail
  go_still_tail 7,(by kernel_rfl)
  change wpList _ _ _ _ _ w3.drew
  have bD:Below w3.heap.size w3 w3.drew:=(Below.refl _ _).drew
  have L3d:=L3.below bD
  have hb3d:=hb3.on (q5h bD _) fun _ _ h=>h
  have X3d:Turn S w w3.drew:=X3.then (q00 bD)
  generalize w3.drew=w4 at L3d hb3d X3d ⊢
  refine qfi rfl _ _ rfl L3d hk3 (by rfl) [x0,x1,x2,x3,x4] b hb3d rfl ?_
  intro w5 L5 T5
  go_wp2
  go_ret2
  exact⟨rfl,⟨c,g,Sc,L5⟩,X3d.trans T5 fun k hk=>.inl (hk▸L.inS.2.1)⟩
theorem q1o {w0:World}(H:RPool w q y S T P)(hT:∀k,T k→k<w.heap.size)(N:Nd)(A:Option Addr)(n c:Nat)(B:Option Addr)(m d:Nat)(B0:Below w0.heap.size w0 w)(hT0:∀k,T k→w0.heap.size≤k)(hI:Itms w0 A n c N.items)(hK:Kidl w0 B m d N.kids)(hn:n≤1000)(hm:m≤1000) :
  Calls Tryz.prog 45 #[.pointer (some ⟨q,0,none⟩),.agg #[.int .i64 N.lvl,.slice A n c,.slice B m d]] w fun e w'=>e=.returned (.tuple #[.int .i64 (P.putNV N),.int .i64 (P.putNE N)])∧RPool w' q y S T (P.putN N)∧Turn S w w':=by
 have N1:NB (w.alloc (.cells #[.int .i64 N.lvl,.slice A n c,.slice B m d] 29)) w.heap.size N.lvl A n c B m d:=NB.new w _ _ _ _ _ _ _ _
 have b1:Below w.heap.size w (w.alloc (.cells #[.int .i64 N.lvl,.slice A n c,.slice B m d] 29)):=blA
 have c0:=N1.c0
 have c1:=N1.c1
 have c2:=N1.c2
 have B1:=B0.trans (b1.mono B0.size)
 obtain⟨r,hr⟩:∃r,N.may=r:=⟨_,rfl⟩
 have hmy:=fun (w1:World) (hb:Below w0.heap.size w0 w1)=>q5b N A n c B m d w1 (hI.below hb) (hK.below hb) hn hm
 rw[hr] at hmy
 have Hmy:=Lib.hid hmy
 have hst:=fun (w2:World) (hb:Below w0.heap.size w0 w2)=>show Stay w2 (fun k=>¬T k) fun w=>Itms w A n c N.items∧Kidl w B m d N.kids from fun w' a=>
  have hz:Below w0.heap.size w0 w'→Itms w' A n c N.items∧Kidl w' B m d N.kids:=fun h=>⟨hI.below h,hK.below h⟩
  ⟨stay_itms hI hb a hT0,stay_kidl hK hb a hT0⟩
 have Hst:=Lib.hid hst
 clear hmy hst
 cases r with
 |false=>
  have e1:P.putNV N=0:=by unfold Pl.putNV;rw[hr];rfl
  have e2:P.putNE N=1:=by unfold Pl.putNE;rw[hr];rfl
  have e3:P.putN N=P:=by unfold Pl.putN;rw[hr];rfl
  rw[e1,e2,e3]
  clear hr e1 e2 e3
  go_enter Tryz.func45,Tryz.ntmps45
  go_wp2_with fail
  generalize w.alloc (.cells #[.int .i64 N.lvl,.slice A n c,.slice B m d] 29)=w1 at b1 N1 c0 c1 c2 B1 ⊢
  refine (Hmy.out w1 B1).mono ?_
  rintro e w2 ⟨rfl,b2⟩
  go_wp2
  go_ret2
  have BB:=b1.trans (b2.mono b1.size)
  exact⟨rfl,H.below BB,q00 BB⟩
 |true=>
  have e1:P.putNV N=P.C.allocV:=by unfold Pl.putNV;rw[hr];rfl
  have e2:P.putNE N=P.C.allocE:=by unfold Pl.putNE;rw[hr];rfl
  have e3:P.putN N=P.lay (.node N):=by unfold Pl.putN;rw[hr];rfl
  rw[e1,e2,e3]
  obtain⟨V,hV⟩:∃V,P.C.allocV=V:=⟨_,rfl⟩
  obtain⟨E,hE⟩:∃E,P.C.allocE=E:=⟨_,rfl⟩
  obtain⟨P',hP'⟩:∃P',P.lay (.node N)=P':=⟨_,rfl⟩
  have hla:=fun (w2:World) (bb:Below w.heap.size w w2)=>qhd (H.below bb) (fun k hk=>by have h1:=hT k hk;have h2:=bb.size;omega) [.int .i64 3,.int .i64 N.lvl,.slice A n c,.slice B m d,.slice none 0 0] (.node N) ⟨A,n,c,B,m,d,rfl,hn,hm,Hst.out w2 (B0.trans (bb.mono B0.size))⟩
  rw[hV,hE,hP'] at hla ⊢
  have Hla:=Lib.hid hla
  clear hr e1 e2 e3 hV hE hP' hla
  go_enter Tryz.func45,Tryz.ntmps45
  go_wp2_with fail
  generalize w.alloc (.cells #[.int .i64 N.lvl,.slice A n c,.slice B m d] 29)=w1 at b1 N1 c0 c1 c2 B1 ⊢
  refine (Hmy.out w1 B1).mono ?_
  rintro e w2 ⟨rfl,b2⟩
  have N2:=N1.below b2 N1.lt
  have d0:=N2.c0
  have d1:=N2.c1
  have d2:=N2.c2
  have BB:=b1.trans (b2.mono b1.size)
  clear c0 c1 c2
  go_wp2_with fail
  refine (Hla.out w2 BB).mono ?_
  rintro e w3 ⟨rfl,H3,X3⟩
  go_wp2
  go_ret2
  exact⟨rfl,H3,(q00 (S:=S) BB).trans X3 fun k hk=>.inl hk⟩
 where
 stay_cell {w0 w2 w':World} {T:Nat→Prop} {g:Nat} (hb:Below w0.heap.size w0 w2) (a:Agree w2 w' fun k=>¬T k) (hT0:∀k,T k→w0.heap.size≤k) (hg:g<w0.heap.size):w'.heap[g]?=w0.heap[g]?:=
  (a.2 g (Nat.lt_of_lt_of_le hg hb.size) fun h=>Nat.not_le_of_lt hg (hT0 g h)).trans (hb.block g hg)
 stay_kidl {w0 w2 w':World} {T:Nat→Prop} {A:Option Addr} {n c:Nat} {xs:List Kidd} (h:Kidl w0 A n c xs) (hb:Below w0.heap.size w0 w2) (a:Agree w2 w' fun k=>¬T k) (hT0:∀k,T k→w0.heap.size≤k):Kidl w' A n c xs:=
  Sls.keep h (Nat.le_trans hb.size a.1) fun g o _ hg=>q1o.stay_cell hb a hT0 hg
 stay_itms {w0 w2 w':World} {T:Nat→Prop} {A:Option Addr} {n c:Nat} {xs:List Itm} (h:Itms w0 A n c xs) (hb:Below w0.heap.size w0 w2) (a:Agree w2 w' fun k=>¬T k) (hT0:∀k,T k→w0.heap.size≤k):Itms w' A n c xs:=by
  obtain⟨raw,h1,h2,h3⟩:=h
  refine⟨raw,h1.keep (Nat.le_trans hb.size a.1) fun g o _ hg=>q1o.stay_cell hb a hT0 hg,h2,fun j r x hr hx=>?_⟩
  obtain⟨D,p,e,e1,hs⟩:=h3 j r x hr hx
  refine⟨D,p,e,e1,hs.1,hs.2.1,hs.2.2.1,fun j u hu=>?_⟩
  obtain⟨ad,e2,hl,hc⟩:=hs.2.2.2 j u hu
  exact⟨ad,e2,Nat.lt_of_lt_of_le hl (Nat.le_trans hb.size a.1),(World.cell?_of_block (a:=ad.add j) (by rw[q0n];exact q1o.stay_cell hb a hT0 hl)).trans hc⟩
end
def kdB:Option Bk→Int
 |none=>0
 |some (.node _)=>3
 |some (.bytes k _)=>k
theorem QB.kind {w:World}{T:Nat→Prop}{v:List Value}{b:Option Bk}(h:QB w T v b):v[0]?=some (.int .i64 (kdB b)):=by
 match b,h with
 |none,⟨a,b,c,d,h,_⟩=>subst h;rfl
 |some (.node N),⟨A,n,c,B,m,e,h1,_⟩=>subst h1;rfl
 |some (.bytes k l),⟨A,n,c,h1,_⟩=>subst h1;rfl
theorem RQ.kd {w:World}{q y c g:Nat}{Sc S T:Nat→Prop}{P:Pl}(L:RQ w q y c g Sc S T P){a:Nat}(ha:a<P.C.n):w.cell? ⟨g,a*5,none⟩=some (.int .i64 (kdB (P.L a))):=by
 obtain⟨v,_,hr,hb⟩:=L.row.at_ ha
 have:=hr 0 _ hb.kind
 rwa [Nat.add_zero] at this
section
variable {w:World}{q y:Nat}{S T:Nat→Prop}{P:Pl}
theorem qbs (H:RPool w q y S T P)(hT:∀k,T k→k<w.heap.size)(k:Int)(A:Option Addr)(n c:Nat)(x:List UInt8)(hs:Sl w A n c x) :
  Calls Tryz.prog 46 #[.pointer (some ⟨q,0,none⟩),.int .i64 k,.slice A n c] w fun e w'=>e=.returned (.tuple #[.int .i64 (P.putV k x.length),.int .i64 (P.putE k x.length)])∧RPool w' q y S T (P.put k x)∧Turn S w w':=by
 have hl:=hs.len
 have hcap:=hs.cap
 have hmx:=hs.max
 unfold maxLen at hmx
 rw[hl]
 cases hk:mostK k with
 |none=>
  have e0:mostN k=-1:=by unfold mostK at hk;unfold mostN;split at hk;cases hk;split at hk;cases hk;rename_i h1 h2;rw[if_neg h1,if_neg h2]
  have m5:Pl.may5 k n=false:=by unfold Pl.may5;rw[hk]
  have e1:P.putV k n=0:=by unfold Pl.putV;rw[m5];rfl
  have e2:P.putE k n=1:=by unfold Pl.putE;rw[hk];rfl
  have e3:P.put k x=P:=by unfold Pl.put;rw[hl,m5];rfl
  rw[e1,e2,e3]
  have hmo:=fun w=>q3d k w
  rw[e0] at hmo
  clear hk e0 m5 e1 e2 e3
  go_enter Tryz.func46,Tryz.ntmps46
  go_wp2_with fail
  refine (hmo w).mono ?_
  rintro e w1 ⟨rfl,rfl⟩
  go_wp2
  go_ret2
  exact⟨rfl,H,Turn.refl _ _⟩
 |some most=>
  have e0:mostN k=(most:Int):=by unfold mostK at hk;unfold mostN;split at hk;rename_i h1;injection hk with hk;subst hk;rw[if_pos h1];rfl;split at hk;rename_i h1 h2;injection hk with hk;subst hk;rw[if_neg h1,if_pos h2];rfl;cases hk
  obtain⟨hk56,hm236⟩:=q0p hk
  have hmo:=fun w=>q3d k w
  rw[e0] at hmo
  have p0:¬(most:Int)<0:=by omega
  by_cases hle:n≤most
  ·have m5:Pl.may5 k n=true:=by unfold Pl.may5;rw[hk];exact decide_eq_true hle
   have e1:P.putV k n=P.C.allocV:=by unfold Pl.putV;rw[m5];rfl
   have e2:P.putE k n=P.C.allocE:=by unfold Pl.putE;rw[hk,m5];rfl
   have e3:P.put k x=P.lay (.bytes k x):=by unfold Pl.put;rw[hl,m5];rfl
   rw[e1,e2,e3]
   obtain⟨V,hV⟩:∃V,P.C.allocV=V:=⟨_,rfl⟩
   obtain⟨E,hE⟩:∃E,P.C.allocE=E:=⟨_,rfl⟩
   obtain⟨P',hP'⟩:∃P',P.lay (.bytes k x)=P':=⟨_,rfl⟩
   have hla:=fun (w2:World) (bb:Below w.heap.size w w2) (A':Option Addr) (c':Nat) (own:Own w2 w.heap.size 5 A' n c' x)=>qhd (H.below bb) (fun k hk=>by have h1:=hT k hk;have h2:=bb.size;omega) [.int .i64 k,.int .i64 0,.slice none 0 0,.slice none 0 0,.slice A' n c'] (.bytes k x) ⟨A',n,c',rfl,qrg own.sl fun _ ad e h=>by have h1:=(own.block ad e).1;have h2:=hT _ h;omega⟩
   rw[hV,hE,hP'] at hla ⊢
   have Hla:=Lib.hid hla
   have p1:¬(most:Int)<(n:Int):=by omega
   have bl:Below w.heap.size w (w.alloc (.cells #[] 5)):=blA
   have own0:Own (w.alloc (.cells #[] 5)) w.heap.size 5 (some ⟨w.heap.size,0,none⟩) 0 0 []:=rq_lit0 w
   have s1:=hs.below bl
   have z1:(w.alloc (.cells #[] 5)).heap.size=w.heap.size+1:=by simp
   clear hk e0 m5 e1 e2 e3 hV hE hP' hla hle hk56
   go_enter Tryz.func46,Tryz.ntmps46
   go_wp2_with fail
   refine (hmo w).mono ?_
   rintro e w1 ⟨rfl,rfl⟩
   go_wp2_with (first
    |(at_builtin;refine q1q _ T22 rfl _ _ rfl w.heap.size w.heap.size rfl own0 A n c x rfl s1 (by omega) (by omega) ?_;intro A' c' w2 own2 b2)
    |fail)
   have BB:=bl.trans (b2.mono bl.size)
   refine (Hla.out w2 BB A' c' own2).mono ?_
   rintro e w3 ⟨rfl,H3,X3⟩
   go_wp2
   go_ret2
   exact⟨rfl,H3,(q00 (S:=S) BB).trans X3 fun k hk=>.inl hk⟩
  ·have m5:Pl.may5 k n=false:=by unfold Pl.may5;rw[hk];exact decide_eq_false hle
   have e1:P.putV k n=0:=by unfold Pl.putV;rw[m5];rfl
   have e2:P.putE k n=7:=by unfold Pl.putE;rw[hk,m5];rfl
   have e3:P.put k x=P:=by unfold Pl.put;rw[hl,m5];rfl
   rw[e1,e2,e3]
   have p1:(most:Int)<(n:Int):=by omega
   clear hk e0 m5 e1 e2 e3 hle hk56
   go_enter Tryz.func46,Tryz.ntmps46
   go_wp2_with fail
   refine (hmo w).mono ?_
   rintro e w1 ⟨rfl,rfl⟩
   go_wp2
   go_ret2
   exact⟨rfl,H,Turn.refl _ _⟩
 where
 rq_lit0 (w:World):Own (w.alloc (.cells #[] 5)) w.heap.size 5 (some ⟨w.heap.size,0,none⟩) 0 0 []:=q11 w _
theorem qdv {w0:World}(H:RPool w q y S T P)(hkd:∀a b,P.L a=some b→b.kindOk)(a:Int)(N:Nd)(A:Option Addr)(n c:Nat)(B:Option Addr)(m d:Nat)(B0:Below w0.heap.size w0 w)(_hT:∀k,T k→k<w.heap.size)(hT0:∀k,T k→w0.heap.size≤k)(hI:Itms w0 A n c N.items)(hK:Kidl w0 B m d N.kids)(hn:n≤1000)(hm:m≤1000) :
  Calls Tryz.prog 48 #[.pointer (some ⟨q,0,none⟩),.int .i64 a,.agg #[.int .i64 N.lvl,.slice A n c,.slice B m d]] w fun e w'=>e=.returned (.int .i64 (P.setNE a N))∧RPool w' q y S T (P.setN a N)∧Turn S w w':=by
 obtain⟨cc,g,Sc,L⟩:=H
 have N1:NB (w.alloc (.cells #[.int .i64 N.lvl,.slice A n c,.slice B m d] 29)) w.heap.size N.lvl A n c B m d:=NB.new w _ _ _ _ _ _ _ _
 have b1:Below w.heap.size w (w.alloc (.cells #[.int .i64 N.lvl,.slice A n c,.slice B m d] 29)):=blA
 have c0:=N1.c0
 have c1:=N1.c1
 have c2:=N1.c2
 have B1:=B0.trans (b1.mono B0.size)
 obtain⟨r,hr⟩:∃r,N.may=r:=⟨_,rfl⟩
 obtain⟨f,hf⟩:∃f,P.C.fresh a=f:=⟨_,rfl⟩
 have hmy:=fun (w1:World) (hb:Below w0.heap.size w0 w1)=>q5b N A n c B m d w1 (hI.below hb) (hK.below hb) hn hm
 rw[hr] at hmy
 have Hmy:=Lib.hid hmy
 have hfr:=fun (w1:World) (C1:RC w1 cc Sc P.C)=>qay C1 a f hf
 have Hfr:=Lib.hid hfr
 have hst:=fun (w2:World) (hb:Below w0.heap.size w0 w2)=>show Stay w2 (fun k=>¬T k) fun w=>Itms w A n c N.items∧Kidl w B m d N.kids from fun w' a=>⟨q1o.stay_itms hI hb a hT0,q1o.stay_kidl hK hb a hT0⟩
 have Hst:=Lib.hid hst
 clear hmy hst hfr
 have hE:P.setNE a N=if (r&&(f&&isNode (P.L a.toNat)))=true then 0 else 1:=by unfold Pl.setNE Pl.setNB;rw[hr,hf]
 have hP:P.setN a N=if (r&&(f&&isNode (P.L a.toNat)))=true then ⟨P.S,P.C,upd P.L a.toNat (some (.node N))⟩ else P:=by unfold Pl.setN Pl.setNB;rw[hr,hf]
 rw[hE,hP]
 clear hE hP hr
 cases r with
 |false=>
  clear hf
  go_enter Tryz.func48,Tryz.ntmps48
  go_wp2_with fail
  generalize w.alloc (.cells #[.int .i64 N.lvl,.slice A n c,.slice B m d] 29)=w1 at b1 N1 c0 c1 c2 B1 ⊢
  refine (Hmy.out w1 B1).mono ?_
  rintro e w2 ⟨rfl,b2⟩
  have BB:=b1.trans (b2.mono b1.size)
  have L2:=L.below BB
  have h36:=L2.c36
  go_wp2_with fail
  refine (Hfr.out w2 L2.ct).mono ?_
  rintro e w3 ⟨rfl,rfl⟩
  go_wp2
  go_ret
  exact⟨rfl,⟨cc,g,Sc,L2⟩,q00 BB⟩
 |true=>
  cases f with
  |false=>
   clear hf
   go_enter Tryz.func48,Tryz.ntmps48
   go_wp2_with fail
   generalize w.alloc (.cells #[.int .i64 N.lvl,.slice A n c,.slice B m d] 29)=w1 at b1 N1 c0 c1 c2 B1 ⊢
   refine (Hmy.out w1 B1).mono ?_
   rintro e w2 ⟨rfl,b2⟩
   have BB:=b1.trans (b2.mono b1.size)
   have L2:=L.below BB
   have h36:=L2.c36
   go_wp2_with fail
   refine (Hfr.out w2 L2.ct).mono ?_
   rintro e w3 ⟨rfl,rfl⟩
   go_wp2
   go_ret
   exact⟨rfl,⟨cc,g,Sc,L2⟩,q00 BB⟩
  |true=>
   obtain⟨k,rfl,hk⟩:=q6w (qdt hf)
   rw[Int.toNat_natCast]
   have hcn:=L.ct.ok.1
   have i0:(0:Int)≤(k:Int):=by omega
   have i1:(k:Int)<(P.C.n:Int):=by omega
   obtain⟨kd,hkdv⟩:∃kd,kdB (P.L k)=kd:=⟨_,rfl⟩
   clear hf
   cases hi:isNode (P.L k) with
   |false=>
    have hne:(kd != 3)=true:=by
     rw[←hkdv]
     cases hL:P.L k with
     |none=>rfl
     |some b=>
      rw[hL] at hi
      cases b with
      |node N=>cases hi
      |bytes k' l=>
       obtain⟨mm,h1,_⟩:=hkd k _ hL
       have:=(q0p h1).1
       show (k' != 3)=true
       simp;omega
    clear hi
    go_enter Tryz.func48,Tryz.ntmps48
    go_wp2_with fail
    generalize w.alloc (.cells #[.int .i64 N.lvl,.slice A n c,.slice B m d] 29)=w1 at b1 N1 c0 c1 c2 B1 ⊢
    refine (Hmy.out w1 B1).mono ?_
    rintro e w2 ⟨rfl,b2⟩
    have BB:=b1.trans (b2.mono b1.size)
    have L2:=L.below BB
    have h36:=L2.c36
    have h37:=L2.c37
    have hc:=L2.kd hk
    rw[hkdv] at hc
    go_wp2_with fail
    refine (Hfr.out w2 L2.ct).mono ?_
    rintro e w3 ⟨rfl,rfl⟩
    go_wp2
    go_ret
    exact⟨rfl,⟨cc,g,Sc,L2⟩,q00 BB⟩
   |true=>
    obtain⟨M,hM⟩:∃M,P.L k=some (.node M):=by
     cases hL:P.L k with
     |none=>rw[hL] at hi;cases hi
     |some b=>
      cases b with
      |node M=>exact⟨M,rfl⟩
      |bytes k' l=>rw[hL] at hi;cases hi
    have hk3:kd=3:=by rw[←hkdv,hM];rfl
    subst hk3
    have HM:=Lib.hid hM
    have Hkd:=Lib.hid hkdv
    clear hi hM hkdv
    go_enter Tryz.func48,Tryz.ntmps48
    go_wp2_with fail
    generalize w.alloc (.cells #[.int .i64 N.lvl,.slice A n c,.slice B m d] 29)=w1 at b1 N1 c0 c1 c2 B1 ⊢
    refine (Hmy.out w1 B1).mono ?_
    rintro e w2 ⟨rfl,b2⟩
    have BB:=b1.trans (b2.mono b1.size)
    have L2:=L.below BB
    have h36:=L2.c36
    have h37:=L2.c37
    have hc:=L2.kd hk
    rw[Hkd.out] at hc
    have N2:=N1.below b2 N1.lt
    have d0:=N2.c0
    have d1:=N2.c1
    have d2:=N2.c2
    clear c0 c1 c2
    go_wp2_with fail
    refine (Hfr.out w2 L2.ct).mono ?_
    rintro e w3 ⟨rfl,rfl⟩
    have X2:Turn S w w2:=q00 BB
    go_wp2_with fail
    go_still_tail 8,(by kernel_rfl)
    change wpList _ _ _ _ _ w2.drew
    have bD:Below w2.heap.size w2 w2.drew:=(Below.refl _ _).drew
    have L2d:=L2.below bD
    have X2d:Turn S w w2.drew:=X2.then (q00 bD)
    have BBd:=(B1.trans (b2.mono B1.size)).trans (bD.mono (Nat.le_trans B1.size b2.size))
    generalize w2.drew=w4 at L2d X2d BBd ⊢
    refine qfj rfl _ _ rfl L2d hk (by rfl) M N HM.out A n c B m d hn hm (Hst.out _ BBd) rfl ?_
    intro w5 L5 T5
    go_wp2
    go_ret
    exact⟨rfl,⟨cc,g,Sc,L5⟩,X2d.trans T5 fun k hk=>.inl (hk▸L.inS.2.1)⟩
end
theorem qmc {P:Pl}{a:Nat}(h:P.C.get (a:Int)≠0):P.live a=P.L a:=by unfold Pl.live;rw[if_neg h]
theorem q6z {ops:Array Oper}{rest:List Oper}{o:Oper}{a:Act}{w:World}{Q:Exit→Act→World→Prop}(hg:o.guard=none)(x:Operand)(hop:o.op=Op.load 29 x)
  (b j:Nat) (hx:a.eval x=.pointer (some ⟨b,j,none⟩)) (v:List Value) (hl:v.length=3) (hr:w.rangeAt b j v) (hK:wpList Tryz.prog ops Q rest (a.put o.dst (.agg v.toArray)) w):wpList Tryz.prog ops Q (o::rest) a w:=
 wpList_load_mid hg _ x hop b j hx v _ hr Tryz.underlying29 rfl (by rw[hl];kernel_rfl) hK
section
variable {w:World}{q y:Nat}{S0 S T:Nat→Prop}{P:Pl}{D:DM}
theorem qdw (L0:RDrv w y S0 D)(H:RPool w q y S T P)(hkd:∀a b,P.L a=some b→b.kindOk)(hgd:∀a b,P.L a=some b→b.good)(a:Int) :
  Calls Tryz.prog 23 #[.pointer (some ⟨q,0,none⟩),.int .i64 a] w fun e w'=>q6y (P.nodeN D a) (P.nodeE D a) w e w':=by
 obtain⟨cc,g,Sc,L⟩:=H
 have R1:NB (w.alloc (.cells #[.int .i64 0,.slice none 0 0,.slice none 0 0] 29)) w.heap.size 0 none 0 0 none 0 0:=NB.new w _ _ _ _ _ _ _ _
 have b1:Below w.heap.size w (w.alloc (.cells #[.int .i64 0,.slice none 0 0,.slice none 0 0] 29)):=blA
 have L1:=L.below b1
 have h36:=L1.c36
 obtain⟨G,hG⟩:∃G,P.C.get a=G:=⟨_,rfl⟩
 have hge:=fun (w1:World) (C1:RC w1 cc Sc P.C)=>q0u C1 a G hG
 have Hge:=Lib.hid hge
 clear hge
 by_cases h0:G=0
 ·have e1:P.nodeE D a=1:=if_pos (hG.trans h0)
  have e2:P.nodeN D a=nodeZ:=if_pos (hG.trans h0)
  rw[e1,e2]
  subst h0
  clear hG e1 e2
  go_enter Tryz.func23,Tryz.ntmps23
  go_wp2_with fail
  generalize w.alloc (.cells #[.int .i64 0,.slice none 0 0,.slice none 0 0] 29)=w1 at b1 R1 L1 h36 ⊢
  refine (Hge.out w1 L1.ct).mono ?_
  rintro e w1' ⟨rfl,rfl⟩
  go_wp2_with (first
   |(refine q07 rfl _ _ rfl w.heap.size rfl 0 none 0 0 none 0 0 rfl R1 ?_;intro w9 R9 T9)
   |fail)
  refine bodyPost_ret (q0r Tryz.results23 rfl (q0i R9)) rfl ?_
  exact⟨none,0,0,none,0,0,rfl,by omega,by omega,q1b _,q1c _,(b1).trans (T9.below (fun k hk=>by omega) (by have:=(b1).size;omega))⟩
 ·have hG0:P.C.get a≠0:=fun h=>h0 (hG.symm.trans h)
  obtain⟨k,rfl,hk⟩:=q6w hG0
  have nG:(G==0)=false:=by simpa using h0
  have hcn:=L.ct.ok.1
  have i0:(0:Int)≤(k:Int):=by omega
  have i1:(k:Int)<(P.C.n:Int):=by omega
  have h00:=L1.c0
  have h37:=L1.c37
  have hc:=L1.kd hk
  have Hlo:=Lib.hid (qmc hG0)
  have HG0:=Lib.hid hG0
  clear hG hG0 h0
  cases hL:P.L k with
  |some b=>
   have hg:=hgd k b hL
   have hkk:=hkd k b hL
   rw[hL] at hc
   cases b with
   |node N=>
    have eE:P.nodeE D (k:Int)=0:=by unfold Pl.nodeE;rw[if_neg HG0.out,Int.toNat_natCast,Hlo.out,hL]
    have eN:P.nodeN D (k:Int)=N:=by unfold Pl.nodeN;rw[if_neg HG0.out,Int.toNat_natCast,Hlo.out,hL]
    rw[eE,eN]
    obtain⟨v,hv5,hvr,hvb⟩:=L1.row.at_ hk
    rw[hL] at hvb
    obtain⟨A,n,c,B,m,e,rfl,_,_,hI⟩:=hvb
    obtain⟨hI,hK⟩:=hI.now
    have hm:=q1v (q95 hg)
    have hr3:(w.alloc (.cells #[.int .i64 0,.slice none 0 0,.slice none 0 0] 29)).rangeAt g (k*5+1) [.int .i64 N.lvl,.slice A n c,.slice B m e]:=fun j x hx=>by
     have:=hvr (1+j) x (by rw[Nat.add_comm,List.getElem?_cons_succ];exact (List.getElem?_append_left (l₂:=[Value.slice none 0 0]) (List.getElem?_eq_some_iff.1 hx).1).trans hx)
     rwa [←Nat.add_assoc] at this
    have hn1:=hI.len
    have hm1:=hK.len
    replace hc:(w.alloc (.cells #[.int .i64 0,.slice none 0 0,.slice none 0 0] 29)).cell? ⟨g,k*5,none⟩=some (.int .i64 3):=hc
    clear hL hvr hg hkk hv5 eE eN
    go_enter Tryz.func23,Tryz.ntmps23
    go_wp2_with fail
    generalize w.alloc (.cells #[.int .i64 0,.slice none 0 0,.slice none 0 0] 29)=w1 at b1 R1 L1 h36 h37 h00 hc hr3 hI hK ⊢
    refine (Hge.out w1 L1.ct).mono ?_
    rintro e w1' ⟨rfl,rfl⟩
    go_wp2_with (first
     |(refine q6z rfl _ rfl g (k*5+1) rfl [.int .i64 N.lvl,.slice A n c,.slice B m e] rfl hr3 ?_)
     |(refine q07 rfl _ _ rfl w.heap.size rfl N.lvl A n c B m e rfl R1 ?_;intro w9 R9 T9)
     |fail)
    refine bodyPost_ret (q0r Tryz.results23 rfl (q0i R9)) rfl ?_
    exact⟨A,n,c,B,m,e,rfl,by omega,by omega,q2v R1 T9 hI,q32 R1 T9 hK,b1.trans (T9.below (fun k hk=>by omega) (by have:=b1.size;omega))⟩
   |bytes k' l=>
    have eE:P.nodeE D (k:Int)=1:=by unfold Pl.nodeE;rw[if_neg HG0.out,Int.toNat_natCast,Hlo.out,hL]
    have eN:P.nodeN D (k:Int)=nodeZ:=by unfold Pl.nodeN;rw[if_neg HG0.out,Int.toNat_natCast,Hlo.out,hL]
    rw[eE,eN]
    obtain⟨mm,h1,_⟩:=hkk
    have hk56:=(q0p h1).1
    have n3:(k'==3)=false:=by simp;omega
    have n0:(k' != 0)=true:=by simp;omega
    replace hc:(w.alloc (.cells #[.int .i64 0,.slice none 0 0,.slice none 0 0] 29)).cell? ⟨g,k*5,none⟩=some (.int .i64 k'):=hc
    clear hL hg h1 hk56 eE eN
    go_enter Tryz.func23,Tryz.ntmps23
    go_wp2_with fail
    generalize w.alloc (.cells #[.int .i64 0,.slice none 0 0,.slice none 0 0] 29)=w1 at b1 R1 L1 h36 h37 h00 hc ⊢
    refine (Hge.out w1 L1.ct).mono ?_
    rintro e w1' ⟨rfl,rfl⟩
    go_wp2_with (first
     |(refine q07 rfl _ _ rfl w.heap.size rfl 0 none 0 0 none 0 0 rfl R1 ?_;intro w9 R9 T9)
     |fail)
    refine bodyPost_ret (q0r Tryz.results23 rfl (q0i R9)) rfl ?_
    exact⟨none,0,0,none,0,0,rfl,by omega,by omega,q1b _,q1c _,(b1).trans (T9.below (fun k hk=>by omega) (by have:=(b1).size;omega))⟩
  |none=>
   have eE:P.nodeE D (k:Int)=if D.readE (k:Int)=0 then nodeRE (D.readL (k:Int)) (k:Int) 5 else D.readE (k:Int):=by unfold Pl.nodeE;rw[if_neg HG0.out,Int.toNat_natCast,Hlo.out,hL]
   have eN:P.nodeN D (k:Int)=if D.readE (k:Int)=0 then nodeRN (D.readL (k:Int)) (k:Int) else nodeZ:=by unfold Pl.nodeN;rw[if_neg HG0.out,Int.toNat_natCast,Hlo.out,hL]
   rw[eE,eN]
   rw[hL] at hc
   replace hc:(w.alloc (.cells #[.int .i64 0,.slice none 0 0,.slice none 0 0] 29)).cell? ⟨g,k*5,none⟩=some (.int .i64 0):=hc
   have hrd:=fun (w1:World) (bb:Below w.heap.size w w1)=>show Calls Tryz.prog 82 #[.pointer (some ⟨y,0,none⟩),.int .i64 (k:Int)] w1 fun e w'=>∃A n c,e=.returned (.tuple #[.slice A n c,.int .i64 (D.readE (k:Int))])∧Sl w' A n c (D.readL (k:Int))∧Below w1.heap.size w1 w' from by
    obtain⟨ro,oc,iv,vs,R⟩:=L0
    exact q8l (R.keep fun k hk _=>bb.block k hk) (k:Int)
   obtain⟨E,hE⟩:∃E,D.readE (k:Int)=E:=⟨_,rfl⟩
   obtain⟨x,hx⟩:∃x,D.readL (k:Int)=x:=⟨_,rfl⟩
   rw[hE,hx] at hrd ⊢
   have Hrd:=Lib.hid hrd
   clear hL hrd hE hx eE eN
   by_cases hz:E=0
   ·subst hz
    rw[if_pos rfl,if_pos rfl]
    have hrr:=fun (A:Option Addr) (n c:Nat) (w2:World) (s2:Sl w2 A n c x)=>qei A n c x (k:Int) w2 s2
    unfold qat at hrr
    unfold nodeRN nodeRE
    rw[qir]
    unfold rnN rnE at hrr
    cases hN:readN x (k:Int) with
    |none=>
     rw[hN] at hrr
     have Hrr:=Lib.hid hrr
     clear hrr hN
     show Calls _ _ _ _ fun e w'=>q6y nodeZ 5 w e w'
     go_enter Tryz.func23,Tryz.ntmps23
     go_wp2_with fail
     generalize w.alloc (.cells #[.int .i64 0,.slice none 0 0,.slice none 0 0] 29)=w1 at b1 R1 L1 h36 h37 h00 hc ⊢
     refine (Hge.out w1 L1.ct).mono ?_
     rintro e w1' ⟨rfl,rfl⟩
     go_wp2_with fail
     refine (Hrd.out w1 b1).mono ?_
     rintro e w2 ⟨A,n,c,rfl,s2,b2⟩
     have R2:=R1.below b2 R1.lt
     go_wp2_with fail
     refine (Hrr.out A n c w2 s2).mono ?_
     rintro e w3 ⟨A1,n1,c1,B1,m1,d1,rfl,_,_,_,_,b3⟩
     have R3:=R2.below b3 R2.lt
     have BB:=b1.trans ((b2.trans (b3.mono b2.size)).mono b1.size)
     have b4:Below w3.heap.size w3 (w3.alloc (.cells #[.int .i64 0,.slice none 0 0,.slice none 0 0] 29)):=blA
     have X4:NB (w3.alloc (.cells #[.int .i64 0,.slice none 0 0,.slice none 0 0] 29)) w3.heap.size 0 none 0 0 none 0 0:=NB.new w3 _ _ _ _ _ _ _ _
     have R4:=R3.below b4 R3.lt
     have hlt:=R3.lt
     go_wp2_with (first
      |(refine q07 rfl _ _ rfl w3.heap.size rfl _ A1 n1 c1 B1 m1 d1 rfl X4 ?_;intro w5 X5 T5;have R5:NB w5 w.heap.size 0 none 0 0 none 0 0:=R4.keep (T5.block _ R4.lt (by omega)))
      |(refine q07 rfl _ _ rfl w.heap.size rfl 0 none 0 0 none 0 0 rfl R5 ?_;intro w9 R9 T9)
      |fail)
     refine bodyPost_ret (q0r Tryz.results23 rfl (q0i R9)) rfl ?_
     have zB:=BB.size
     have z4:=b4.size
     have z5:=T5.size
     have B5:=(BB.trans (b4.mono zB)).trans (T5.below (fun k hk=>by omega) (by omega))
     exact⟨none,0,0,none,0,0,rfl,by omega,by omega,q1b _,q1c _,B5.trans (T9.below (fun k hk=>by omega) (by have:=B5.size;omega))⟩
    |some N=>
     rw[hN] at hrr
     have Hrr:=Lib.hid hrr
     clear hrr hN
     show Calls _ _ _ _ fun e w'=>q6y N 0 w e w'
     go_enter Tryz.func23,Tryz.ntmps23
     go_wp2_with fail
     generalize w.alloc (.cells #[.int .i64 0,.slice none 0 0,.slice none 0 0] 29)=w1 at b1 R1 L1 h36 h37 h00 hc ⊢
     refine (Hge.out w1 L1.ct).mono ?_
     rintro e w1' ⟨rfl,rfl⟩
     go_wp2_with fail
     refine (Hrd.out w1 b1).mono ?_
     rintro e w2 ⟨A,n,c,rfl,s2,b2⟩
     have R2:=R1.below b2 R1.lt
     go_wp2_with fail
     refine (Hrr.out A n c w2 s2).mono ?_
     rintro e w3 ⟨A1,n1,c1,B1,m1,d1,rfl,hn1,hm1,hI,hK,b3⟩
     have hI:Itms w3 A1 n1 c1 N.items:=hI
     have hK:Kidl w3 B1 m1 d1 N.kids:=hK
     have hl:((some N:Option Nd).getD ⟨0,[],[]⟩).lvl=N.lvl:=rfl
     simp only[hl]
     have R3:=R2.below b3 R2.lt
     have BB:=b1.trans ((b2.trans (b3.mono b2.size)).mono b1.size)
     have b4:Below w3.heap.size w3 (w3.alloc (.cells #[.int .i64 0,.slice none 0 0,.slice none 0 0] 29)):=blA
     have X4:NB (w3.alloc (.cells #[.int .i64 0,.slice none 0 0,.slice none 0 0] 29)) w3.heap.size 0 none 0 0 none 0 0:=NB.new w3 _ _ _ _ _ _ _ _
     have R4:=R3.below b4 R3.lt
     have hlt:=R3.lt
     have hI4:=hI.below b4
     have hK4:=hK.below b4
     go_wp2_with (first
      |(refine q07 rfl _ _ rfl w3.heap.size rfl N.lvl A1 n1 c1 B1 m1 d1 rfl X4 ?_;intro w5 X5 T5;have R5:NB w5 w.heap.size 0 none 0 0 none 0 0:=R4.keep (T5.block _ R4.lt (by omega));have hI5:=q2v X4 T5 hI4;have hK5:=q32 X4 T5 hK4;have x50:=X5.c0;have x51:=X5.c1;have x52:=X5.c2)
      |(refine q07 rfl _ _ rfl w.heap.size rfl N.lvl A1 n1 c1 B1 m1 d1 rfl R5 ?_;intro w9 R9 T9)
      |fail)
     refine bodyPost_ret (q0r Tryz.results23 rfl (q0i R9)) rfl ?_
     have zB:=BB.size
     have z4:=b4.size
     have z5:=T5.size
     have B5:=(BB.trans (b4.mono zB)).trans (T5.below (fun k hk=>by omega) (by omega))
     exact⟨A1,n1,c1,B1,m1,d1,rfl,hn1,hm1,q2v R5 T9 hI5,q32 R5 T9 hK5,B5.trans (T9.below (fun k hk=>by omega) (by have:=B5.size;omega))⟩
   ·have nE:(E != 0)=true:=by simpa using hz
    rw[if_neg hz,if_neg hz]
    go_enter Tryz.func23,Tryz.ntmps23
    go_wp2_with fail
    generalize w.alloc (.cells #[.int .i64 0,.slice none 0 0,.slice none 0 0] 29)=w1 at b1 R1 L1 h36 h37 h00 hc ⊢
    refine (Hge.out w1 L1.ct).mono ?_
    rintro e w1' ⟨rfl,rfl⟩
    go_wp2_with fail
    refine (Hrd.out w1 b1).mono ?_
    rintro e w2 ⟨A,n,c,rfl,s2,b2⟩
    have R2:=R1.below b2 R1.lt
    have BB:=b1.trans (b2.mono b1.size)
    go_wp2_with (first
     |(refine q07 rfl _ _ rfl w.heap.size rfl 0 none 0 0 none 0 0 rfl R2 ?_;intro w9 R9 T9)
     |fail)
    refine bodyPost_ret (q0r Tryz.results23 rfl (q0i R9)) rfl ?_
    exact⟨none,0,0,none,0,0,rfl,by omega,by omega,q1b _,q1c _,(BB).trans (T9.below (fun k hk=>by omega) (by have:=(BB).size;omega))⟩
end
end Go.Proofs.YtipejjgodnnkaaaGreatDoor
