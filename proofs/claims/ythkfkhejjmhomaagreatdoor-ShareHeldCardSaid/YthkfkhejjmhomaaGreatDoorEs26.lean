/- The code's find: what a node that was read holds; kid -/
import Derived.Test.YthkfkhejjmhomaaGreatDoorEs25
namespace Go.Proofs.YthkfkhejjmhomaaGreatDoor
open Go Go.RowKit Go.Proofs
set_option maxHeartbeats 16000000
set_option maxRecDepth 100000
def Rx (w:World)(lo hi:Nat)(A:Option Addr)(n:Nat)(xs:List Qg):Prop:=
 ∀j,j<n->∃g o V p q,A=some ⟨g,o,none⟩/\g<w.1.size/\w.cell? ⟨g,o+j*4,none⟩=some (.int .i64 (Qz xs j).k.obj)/\w.cell? ⟨g,o+j*4+1,none⟩=some (.int .i64 (Qz xs j).k.kind)/\
  w.cell? ⟨g,o+j*4+2,none⟩=some (.int .i64 (Qz xs j).k.off)/\w.cell? ⟨g,o+j*4+3,none⟩=some (.slice V p q)/\Sl w V p q (Qz xs j).v/\((Qz xs j).v≠[]->∀b,q01 V=some b->lo<=b/\b<hi)
def Held (w:World)(lo hi:Nat)(A:Option Addr)(n c:Nat)(B:Option Addr)(m d:Nat)(M:Nd):Prop:=
 hi<=w.1.size/\n<=20/\m<=20/\∀w',w.1.size<=w'.1.size->(∀k,lo<=k->k<hi->w'.1[k]?=w.1[k]?)->Jt w' lo A n c M.items/\Zp w' B m d M.kids/\Rx w' lo hi A n M.items
section
variable {w w':World}{lo hi n c m d:Nat}{A B:Option Addr}{M:Nd}
theorem Held.rows (h:Held w lo hi A n c B m d M):Jt w lo A n c M.items/\Zp w B m d M.kids:=by
 obtain⟨a,b,_⟩:=h.2.2.2 w (Nat.le_refl _) λ_ _ _=>rfl
 exact⟨a,b⟩
theorem Held.turn {S:Nat->Prop}(h:Held w lo hi A n c B m d M)(t:Turn S w w')(hS:∀k,lo<=k->k<hi->¬S k):Held w' lo hi A n c B m d M:=by
 obtain⟨h1,h2,p,u⟩:=h;have y:∀k,lo<=k->k<hi->w'.1[k]?=w.1[k]?:=λk e f=>t.block k (by omega) (hS k e f)
 exact⟨Nat.le_trans h1 t.size,h2,p,λF E D=>u F (Nat.le_trans t.size E) λk a b=>(D k a b).trans (y k a b)⟩
theorem Held.below (h:Held w lo hi A n c B m d M)(hb:Below w.1.size w w'):Held w' lo hi A n c B m d M:=h.turn (Qu (S:=λ_=>False) hb) λ_ _ _ h=>h
end
theorem qg2 {w w':World}{base n c:Nat}{A:Option Addr}{xs:List Qg}(h:Jt w base A n c xs)(T:w.1.size<=w'.1.size)(H:∀k,base<=k->k<w.1.size->w'.1[k]?=w.1[k]?):Jt w' base A n c xs:=by
 obtain⟨F,h1,h2,K⟩:=h;refine⟨F,h1.keep λg a b=>H g a b,h2,λj r x P R=>?_⟩;obtain⟨V,p,q,e,y,f⟩:=K j r x P R;refine⟨V,p,q,e,⟨y.1,y.2.1,y.2.2.1,λi u E=>?_⟩,f⟩;obtain⟨D,G,I,J⟩:=y.2.2.2 i u E;have Q:x.v≠[]:=λe=>by rw[e] at E;simp at E
 have O:=(f Q D.block (by rw[G];rfl)).1;exact⟨D,G,by omega,(World.cell?_of_block (a:=D.add i) (by rw[Nl];exact H _ O I)).trans J⟩
theorem qpx {w w':World}{lo n c:Nat}{A:Option Addr}{xs:List Qg}(h:Jt w lo A n c xs)(hz:w.1.size<=w'.1.size)(P:∀k,lo<=k->k<w.1.size->w'.1[k]?=w.1[k]?):Rx w' lo w.1.size A n xs:=λj Y=>by
 obtain⟨f,h1,h2,U⟩:=h;have Z:f.length=n:=h1.len (by omega);have Q:f[j]?=some (f[j]'(by omega)):=List.getElem?_eq_getElem (by omega);have X:=q1x (xs:=xs) (j:=j) (by omega);obtain⟨V,p,q,e,E,D⟩:=U j _ _ Q X;obtain⟨g,o,K,W,_,O⟩:=(h1.Kt (by omega)).2.2.2 j _ Q;rw[e] at O;have H:=(h1.Qc g (by rw[K];rfl)).1;have cell:∀i v,(Vh (Qz xs j).k V p q)[i]?=some v->w'.cell? ⟨g,o+j*4+i,none⟩=some v:=λi v y=>(World.cell?_of_block (a:=⟨g,_,none⟩) (P g H W)).trans (O i v y)
 refine⟨g,o,V,p,q,K,by omega,cell 0 _ rfl,cell 1 _ rfl,cell 2 _ rfl,cell 3 _ rfl,⟨E.1,E.2.1,E.2.2.1,λi u I=>?_⟩,λy b F=>⟨(D y b F).1,E.Qc y b F⟩⟩;obtain⟨G,J,R,T⟩:=E.2.2.2 i u I;have y:(Qz xs j).v≠[]:=λe=>by rw[e] at I;simp at I
 have F:=(D y G.block (by rw[J];rfl)).1;exact⟨G,J,by omega,(World.cell?_of_block (a:=G.add i) (by rw[Nl];exact P _ F R)).trans T⟩
theorem qe3 {w w':World}{A B:Option Addr}{n c m d:Nat}{M:Nd}(hn:n<=20)(hm:m<=20)(f:Jt w' w.1.size A n c M.items)(u:Qo w' w.1.size 148 4 B m d (M.kids.map Qm.vs)):Held w' w.1.size w'.1.size A n c B m d M:=
 ⟨Nat.le_refl _,hn,hm,λy p e=>⟨qg2 f p e,(u.keep λg a b=>e g a b).Kt (by omega),qpx f p e⟩⟩
theorem NB.turned {w w':World}{b:Nat}{l:Int}{A B:Option Addr}{n c m d:Nat}(H:NB w b l A n c B m d){S:Nat->Prop}(T:Turn S w w')(hb:¬S b):NB w' b l A n c B m d:=H.keep (T.block b H.lt hb)
def Ad (R:Int->Nd × Int)(l a:Int):Int:=if (R a).2≠0 then (R a).2 else if (R a).1.lvl≠l-1 then 5 else 0
def Df (R:Int->Nd × Int)(l a:Int):Nd:=if (R a).2≠0 then Zk else if (R a).1.lvl≠l-1 then Zk else (R a).1
theorem qkh {w0 w:World}{p:Nat}{R:Int->Nd × Int}(H:Src w0 p R)(B0:Below w0.1.size w0 w)(ht:Tab w)(l:Int)(a4:1<=l)(a5:l<8)(kids:List Qm)(A:Option Addr)(n c:Nat)(B:Option Addr)(m d:Nat)(hK:Zp w B m d kids)(i:Nat)(hi:i<m)(x:Int)(D:(Qh kids i).a=x) :
  Calls Tryz.prog 98 #[.pointer (some ⟨p,0,none⟩),.agg #[.int .i64 l,.slice A n c,.slice B m d],.int .i64 (i:Int)] w λe w'=>q6f (Df R l x) (Ad R l x) w e w':=by
 obtain⟨g,o,rfl,hg,-,-,-,k3⟩:=hK.cell hi;rw[D] at k3;have I:NB ((w.alloc (.cells #[.int .i64 l,.slice A n c,.slice (some ⟨g,o,none⟩) m d] 77)).alloc (.cells #[.int .i64 0,.slice none 0 0,.slice none 0 0] 77)) w.1.size l A n c (some ⟨g,o,none⟩) m d:=(NB.new w _ _ _ _ _ _ _ _).below (Qn) (by simp);have P:NB ((w.alloc (.cells #[.int .i64 l,.slice A n c,.slice (some ⟨g,o,none⟩) m d] 77)).alloc (.cells #[.int .i64 0,.slice none 0 0,.slice none 0 0] 77)) (w.1.size+1) 0 none 0 0 none 0 0:=by
  have:=NB.new (w.alloc (.cells #[.int .i64 l,.slice A n c,.slice (some ⟨g,o,none⟩) m d] 77)) 0 none 0 0 none 0 0 77;rwa [World.size_alloc] at this
 have f:Below w.1.size w ((w.alloc (.cells #[.int .i64 l,.slice A n c,.slice (some ⟨g,o,none⟩) m d] 77)).alloc (.cells #[.int .i64 0,.slice none 0 0,.slice none 0 0] 77)):=(Qn).alloc (by simp) _;have z1:((w.alloc (.cells #[.int .i64 l,.slice A n c,.slice (some ⟨g,o,none⟩) m d] 77)).alloc (.cells #[.int .i64 0,.slice none 0 0,.slice none 0 0] 77)).1.size=w.1.size+2:=by simp
 have q2:=I.c2;have F:=(f.cell (p:=⟨g,_,none⟩) hg).trans k3;have Hn:=Lib.hid (λu hu tu=>H.node u hu tu x);have zw:=B0.size;have hj:(0:Int)<=(i:Int):=by omega
 have a3:(i:Int)<(m:Int):=by omega
 obtain⟨_,a6⟩:=hK.bounds;clear k3 hK;obtain⟨M,E,hR⟩:∃M E,R x=(M,E):=⟨_,_,rfl⟩;rw[hR] at Hn;unfold Df Ad;rw[hR];dsimp only;clear hR;by_cases O:E=0
 ·have g1:(E==0)=true:=by simp[O]
  have g2:(E != 0)=false:=by simp[O]
  by_cases U:M.lvl=l-1
  ·have g3:(M.lvl==l-1)=true:=by simp[U]
   have g4:(M.lvl != l-1)=false:=by simp[U]
   simp only[if_neg (show ¬E≠0 by simpa using O),if_neg (show ¬M.lvl≠l-1 by simpa using U)];clear U O;go_enter Tryz.func98,Tryz.ntmps98
   go_wp2_with fail
   generalize (w.alloc (.cells #[.int .i64 l,.slice A n c,.slice (some ⟨g,o,none⟩) m d] 77)).alloc (.cells #[.int .i64 0,.slice none 0 0,.slice none 0 0] 77)=w1 at I P f z1 q2 F ⊢;have t1:=ht.below f ht.1;refine (Hn.out w1 (B0.trans (f.mono zw)) t1).mono ?_;clear q2 F;rintro e b ⟨W,n1,c1,X,m1,Y,rfl,a1,a0,hI,Z,y⟩;have z2:=y.size;have N2:=I.below y I.lt;have G:=P.below y P.lt;have Q:=f.trans (y.mono f.size);have N3:NB (b.alloc (.cells #[.int .i64 0,.slice none 0 0,.slice none 0 0] 77)) b.1.size 0 none 0 0 none 0 0:=NB.new b _ _ _ _ _ _ _ _;have K:Below b.1.size b (b.alloc (.cells #[.int .i64 0,.slice none 0 0,.slice none 0 0] 77)):=Qn;have R3:=G.below K G.lt;have zz:=G.lt;have X2:NB b w.1.size l A n c (some ⟨g,o,none⟩) m d:=N2;go_wp2_with (first
    |(refine Ub rfl (.tmp 6) _ rfl (w.1.size+1) rfl M.lvl W n1 c1 X m1 Y rfl R4 ?_;intro w5 R5 T5)
    |(refine Ub rfl (.tmp 8) _ rfl b.1.size rfl M.lvl W n1 c1 X m1 Y rfl N3 ?_;intro w4 N4 J;have R4:NB w4 (w.1.size+1) 0 none 0 0 none 0 0:=R3.turned J (λh=>by have h:w.1.size+1=b.1.size:=h;omega);have p0:=N4.c0;have a2:=((X2.below K X2.lt).turned J (λh=>by have h:w.1.size=b.1.size:=h;omega)).c0;have p1:=N4.c1;have p2:=N4.c2)
    |fail)
   have T:Turn (λk=>k=w.1.size+1) b w5:=((Qu (S:=λk=>k=w.1.size+1) K).trans J (λx D=>.inr (by have:x=b.1.size:=D;omega))).trans T5 (λx D=>.inl D);refine bodyPost_ret (Gi Tryz.results98 rfl (Ew R5)) rfl ?_;exact⟨W,n1,c1,X,m1,Y,rfl,a1,a0,(qg2 hI T.size λk h1 h2=>T.block k h2 (by intro (h:k=w.1.size+1);omega)).less (by omega),(Z.keep λk h1 h2=>T.block k h2 (by intro (h:k=w.1.size+1);omega)).less (by omega),Q.trans (T.below (λk hk=>by have:k=w.1.size+1:=hk;omega) Q.size)⟩
  ·have g3:(M.lvl==l-1)=false:=by simp[U]
   have g4:(M.lvl != l-1)=true:=by simp[U]
   simp only[if_neg (show ¬E≠0 by simpa using O),if_pos (show M.lvl≠l-1 from U)];clear U O;go_enter Tryz.func98,Tryz.ntmps98
   go_wp2_with fail
   generalize (w.alloc (.cells #[.int .i64 l,.slice A n c,.slice (some ⟨g,o,none⟩) m d] 77)).alloc (.cells #[.int .i64 0,.slice none 0 0,.slice none 0 0] 77)=w1 at I P f z1 q2 F ⊢;have t1:=ht.below f ht.1;refine (Hn.out w1 (B0.trans (f.mono zw)) t1).mono ?_;clear q2 F;rintro e b ⟨W,n1,c1,X,m1,Y,rfl,a1,a0,hI,Z,y⟩;have z2:=y.size;have N2:=I.below y I.lt;have G:=P.below y P.lt;have Q:=f.trans (y.mono f.size);have N3:NB (b.alloc (.cells #[.int .i64 0,.slice none 0 0,.slice none 0 0] 77)) b.1.size 0 none 0 0 none 0 0:=NB.new b _ _ _ _ _ _ _ _;have K:Below b.1.size b (b.alloc (.cells #[.int .i64 0,.slice none 0 0,.slice none 0 0] 77)):=Qn;have R3:=G.below K G.lt;have zz:=G.lt;have X2:NB b w.1.size l A n c (some ⟨g,o,none⟩) m d:=N2;go_wp2_with (first
    |(refine Ub rfl (.tmp 6) _ rfl (w.1.size+1) rfl 0 none 0 0 none 0 0 rfl R4 ?_;intro w5 R5 T5)
    |(refine Ub rfl (.tmp 8) _ rfl b.1.size rfl M.lvl W n1 c1 X m1 Y rfl N3 ?_;intro w4 N4 J;have R4:NB w4 (w.1.size+1) 0 none 0 0 none 0 0:=R3.turned J (λh=>by have h:w.1.size+1=b.1.size:=h;omega);have p0:=N4.c0;have a2:=((X2.below K X2.lt).turned J (λh=>by have h:w.1.size=b.1.size:=h;omega)).c0)
    |fail)
   have T:Turn (λk=>k=w.1.size+1) b w5:=((Qu (S:=λk=>k=w.1.size+1) K).trans J (λx D=>.inr (by have:x=b.1.size:=D;omega))).trans T5 (λx D=>.inl D);refine bodyPost_ret (Gi Tryz.results98 rfl (Ew R5)) rfl ?_;exact⟨none,0,0,none,0,0,rfl,by omega,by omega,Pq _ _,Ir _ _ _ _,Q.trans (T.below (λk hk=>by have:k=w.1.size+1:=hk;omega) Q.size)⟩
 ·have g1:(E==0)=false:=by simp[O]
  have g2:(E != 0)=true:=by simp[O]
  simp only[if_pos (show E≠0 from O)];clear O;go_enter Tryz.func98,Tryz.ntmps98
  go_wp2_with fail
  generalize (w.alloc (.cells #[.int .i64 l,.slice A n c,.slice (some ⟨g,o,none⟩) m d] 77)).alloc (.cells #[.int .i64 0,.slice none 0 0,.slice none 0 0] 77)=w1 at I P f z1 q2 F ⊢;have t1:=ht.below f ht.1;refine (Hn.out w1 (B0.trans (f.mono zw)) t1).mono ?_;clear q2 F;rintro e b ⟨W,n1,c1,X,m1,Y,rfl,a1,a0,hI,Z,y⟩;have z2:=y.size;have N2:=I.below y I.lt;have G:=P.below y P.lt;have Q:=f.trans (y.mono f.size);have N3:NB (b.alloc (.cells #[.int .i64 0,.slice none 0 0,.slice none 0 0] 77)) b.1.size 0 none 0 0 none 0 0:=NB.new b _ _ _ _ _ _ _ _;have K:Below b.1.size b (b.alloc (.cells #[.int .i64 0,.slice none 0 0,.slice none 0 0] 77)):=Qn;have R3:=G.below K G.lt;have zz:=G.lt;have X2:NB b w.1.size l A n c (some ⟨g,o,none⟩) m d:=N2;go_wp2_with (first
   |(refine Ub rfl (.tmp 6) _ rfl (w.1.size+1) rfl 0 none 0 0 none 0 0 rfl R4 ?_;intro w5 R5 T5)
   |(refine Ub rfl (.tmp 8) _ rfl b.1.size rfl M.lvl W n1 c1 X m1 Y rfl N3 ?_;intro w4 N4 J;have R4:NB w4 (w.1.size+1) 0 none 0 0 none 0 0:=R3.turned J (λh=>by have h:w.1.size+1=b.1.size:=h;omega))
   |fail)
  have T:Turn (λk=>k=w.1.size+1) b w5:=((Qu (S:=λk=>k=w.1.size+1) K).trans J (λx D=>.inr (by have:x=b.1.size:=D;omega))).trans T5 (λx D=>.inl D);refine bodyPost_ret (Gi Tryz.results98 rfl (Ew R5)) rfl ?_;exact⟨none,0,0,none,0,0,rfl,by omega,by omega,Pq _ _,Ir _ _ _ _,Q.trans (T.below (λk hk=>by have:k=w.1.size+1:=hk;omega) Q.size)⟩
def Zy (R:Int->Nd × Int)(k:Kd):Nat->Int->List (Int × Nd) × Int
 |0,a=>if (R a).2≠0 then ([],(R a).2) else if (R a).1.lvl≠0 then ([],5) else ([(a,(R a).1)],0)
 |l+1,a=>if (R a).2≠0 then ([],(R a).2) else if (R a).1.lvl≠((l+1:Nat):Int) then ([],5) else
   ((a,(R a).1)::(Zy R k l (Qh (R a).1.kids ((R a).1.Zb k)).a).1,(Zy R k l (Qh (R a).1.kids ((R a).1.Zb k)).a).2)
def Yi (R:Int->Nd × Int)(k:Kd)(root:Int):List (Int × Nd) × Int:=if root=0 then ([],0) else Zy R k (Ug R root) root
theorem q3l {R:Int->Nd × Int}{k:Kd}{a:Int}(h:(R a).2≠0):∀l,Zy R k l a=([],(R a).2)
 |0=>by unfold Zy;rw[if_pos h]
 |l+1=>by unfold Zy;rw[if_pos h]
theorem q4x {R:Int->Nd × Int}{k:Kd}{a:Int}(h:(R a).2=0):∀l:Nat,(R a).1.lvl≠(l:Int)->Zy R k l a=([],5)
 |0,h2=>by unfold Zy;rw[if_neg (by simpa using h),if_pos (by simpa using h2)]
 |l+1,h2=>by unfold Zy;rw[if_neg (by simpa using h),if_pos h2]
theorem q87 {R:Int->Nd × Int}{k:Kd}{a:Int}{M:Nd}(h:R a=(M,0))(h2:M.lvl=0):Zy R k 0 a=([(a,M)],0):=by
 unfold Zy;rw[h];dsimp only;rw[if_neg (by simp),if_neg (by simpa using h2)]
theorem q88 {R:Int->Nd × Int}{k:Kd}{a:Int}{M:Nd}{l:Nat}(h:R a=(M,0))(h2:M.lvl=((l+1:Nat):Int)):Zy R k (l+1) a=((a,M)::(Zy R k l (Qh M.kids (M.Zb k)).a).1,(Zy R k l (Qh M.kids (M.Zb k)).a).2):=by
 conv=>lhs;unfold Zy
 rw[h];dsimp only;rw[if_neg (by simp),if_neg (by simpa using h2)]
structure Visit (w0:World)(f:Nat)(cap:Array Value)(Inv:List (Int × Nd)->(Nat->Prop)->World->Prop):Prop where
 ent:∀(args:Array Value) (w:World),(callFunc f args).run Tryz.prog w=.ok (.enter f args) w
 in_:∀{vs T w},Inv vs T w->∀k,T k->w0.heap.size<=k/\k<w.heap.size
 keep:∀{vs T w w' S},Inv vs T w->Turn S w w'->(∀k,S k->¬T k)->Inv vs T w'
 call:∀{vs T w lo hi a M A n c B m d},Inv vs T w->Held w lo hi A n c B m d M->(∀k,lo<=k->k<hi->¬T k)->w0.heap.size<=lo->vs.length<=10->
  Calls Tryz.prog f (#[.int .i64 a,.agg #[.int .i64 M.lvl,.slice A n c,.slice B m d]]++cap) w λe w'=>e=.returned (.tuple #[])/\∃T',Inv (vs++[(a,M)]) T' w'/\Turn T w w'/\∀k,T' k->T k\/w.heap.size<=k\/(lo<=k/\k<hi)
def Qae (w:World)(b:Nat):Nat:=match w.cell? ⟨b,0,none⟩ with
 |some (.int _ z)=>z.toNat
 |_=>0
theorem qpy {w:World}{b:Nat}{l:Int}{A B:Option Addr}{n c m d:Nat}(H:NB w b l A n c B m d):Qae w b=l.toNat:=by
 unfold Qae;rw[H.c0]
structure Ru (w0 wb:World)(T0:Nat->Prop)(R:Int->Nd × Int)(k:Kd)(Inv:List (Int × Nd)->(Nat->Prop)->World->Prop)(F:List (Int × Nd) × Int)(nb:Nat)(av ev:Value)(w:World)(vs:List (Int × Nd))(T:Nat->Prop):Prop where
 inv:Inv vs T w
 low:Below w0.heap.size w0 w
 key:KB w wb.heap.size k
 kge:w0.heap.size<=wb.heap.size/\wb.heap.size<nb
 node:∃l A n c B m d,NB w nb l A n c B m d
 old:Turn T0 wb w
 sub:∀k,T k->T0 k\/wb.heap.size<=k
 noT:¬T nb/\¬T wb.heap.size
 at_:(∃E:Int,E≠0/\ev=.int .i64 E/\F=(vs,E))\/
  (∃(l:Nat) (a:Int) (M:Nd) (lo hi:Nat) (A:Option Addr) (n c:Nat) (B:Option Addr) (m d:Nat),ev=.int .i64 0/\av=.int .i64 a/\R a=(M,0)/\M.lvl=(l:Int)/\l+vs.length<=8/\NB w nb M.lvl A n c B m d/\Held w lo hi A n c B m d M/\
   (∀k,lo<=k->k<hi->¬T k)/\(hi<=nb\/nb<lo)/\wb.heap.size<lo/\w0.heap.size<=lo/\F=(vs++(Zy R k l a).1,(Zy R k l a).2))
theorem qpz {W w:World}{p f:Nat}{cap:Array Value}{R:Int->Nd × Int}{Z:List (Int × Nd)->(Nat->Prop)->World->Prop}(H:Src W p R)(V:Visit W f cap Z)(B0:Below W.1.size W w)(b0:Tab W)(root:Int)(k:Kd)(T0:Nat->Prop)(hI:Z [] T0 w) :
  Calls Tryz.prog 118 #[.pointer (some ⟨p,0,none⟩),.int .i64 root,.agg #[.int .i64 k.obj,.int .i64 k.kind,.int .i64 k.off],.func (.func f) #[] cap] w λe w'=>e=.returned (.int .i64 (Yi R k root).2)/\∃T,Z (Yi R k root).1 T w'/\Below W.1.size W w'/\Turn T0 w w':=by
 obtain⟨K0,bB⟩:=Ym w k;have zw:=B0.size;have d3:=V.in_ hI;by_cases hr:root=0
 ·subst hr;have e:Yi R k 0=([],0):=if_pos rfl;rw[e];clear e;go_enter Tryz.func118,Tryz.ntmps118
  go_wp2_with fail
  go_ret;exact⟨rfl,T0,V.keep hI (Qu (S:=λ_=>False) bB) (λ_ h=>h.elim),B0.trans (bB.mono zw),Qu bB⟩
 ·have k4:(root==0)=false:=by simp[hr]
  have k5:decide (root=0)=false:=decide_eq_false hr;have hF:Yi R k root=Zy R k (Ug R root) root:=if_neg hr;obtain⟨F,d9⟩:∃F,Yi R k root=F:=⟨_,rfl⟩;rw[d9] at hF ⊢;clear d9;have I1:=V.keep hI (Qu (S:=λ_=>False) bB) (λ_ h=>h.elim);have z1:(w.alloc (.cells #[.int .i64 k.obj,.int .i64 k.kind,.int .i64 k.off] 45)).1.size=w.1.size+1:=by simp
  have Hn:=Lib.hid (λu hu tu=>H.node u hu tu root);obtain⟨M,E,hR⟩:∃M E,R root=(M,E):=⟨_,_,rfl⟩;have HR:=Lib.hid hR;rw[hR] at Hn;have HF:=Lib.hid hF;clear hF hR;go_enter Tryz.func118,Tryz.ntmps118
  go_wp2_with fail
  generalize w.alloc (.cells #[.int .i64 k.obj,.int .i64 k.kind,.int .i64 k.off] 45)=w1 at K0 bB I1 z1 ⊢;have B1:=B0.trans (bB.mono zw);refine (Hn.out w1 B1 (b0.below B1 b0.1)).mono ?_;rintro e w2 ⟨A1,n1,c1,d4,m1,d1,rfl,i4,i2,e2,e4,b2⟩;have k6:=b2.size;have Hd:=qe3 i4 i2 e2 e4;have N3:NB (w2.alloc (.cells #[.int .i64 0,.slice none 0 0,.slice none 0 0] 77)) w2.1.size 0 none 0 0 none 0 0:=NB.new w2 _ _ _ _ _ _ _ _;have b3:Below w2.1.size w2 (w2.alloc (.cells #[.int .i64 0,.slice none 0 0,.slice none 0 0] 77)):=Qn;clear e2 e4;go_wp2_with (first
   |(refine Ub rfl (.tmp 10) _ rfl w2.1.size rfl M.lvl A1 n1 c1 d4 m1 d1 rfl N3 ?_;intro w4 N4 T4)
   |fail)
  have XX:Turn (λ_=>False) w1 w4:=((Qu (S:=λ_=>False) b2).trans (Qu (S:=λ_=>False) b3) (λ_ h=>.inl h)).trans T4 (λx X=>.inr (by have:x=w2.1.size:=X;omega));have X2:Turn (λ_=>False) w2 w4:=(Qu (S:=λ_=>False) b3).trans T4 (λx X=>.inr (by have:x=w2.1.size:=X;omega));have I4:=V.keep I1 XX (λ_ h=>h.elim);have B4:Below W.1.size W w4:=B1.trans (XX.below (λ_ h=>h.elim) B1.size);have K4:=K0.keep (XX.block _ K0.lt (λh=>h));have b8:=Hd.turn X2 (λ_ _ _ h=>h);obtain⟨I,f2⟩:∃I,w2.1.size=I:=⟨_,rfl⟩;rw[f2] at N4 b8 ⊢;have D0:Ru W w T0 R k Z F I (.int .i64 root) (.int .i64 E) w4 [] T0:=by
   have hR:=HR.out;have hF:=HF.out;refine⟨I4,B4,K4,⟨zw,by omega⟩,⟨_,_,_,_,_,_,_,N4⟩,(Qu (S:=T0) bB).trans XX (λ_ h=>h.elim),λk h=>.inl h,⟨λh=>by have:=(d3 _ h).2;omega,λh=>by have:=(d3 _ h).2;omega⟩,?_⟩;by_cases J:E=0
   ·subst J;have hm:=H.may root (by rw[hR]);rw[hR] at hm;have hm:M.may=true:=hm;have hl:0<=M.lvl/\M.lvl<8:=by
     by_cases h0:M.lvl=0
     ·omega
     ·have:=Fe hm h0;omega
    have a9:M.lvl=(Ug R root:Int):=by unfold Ug;rw[hR];exact (Int.toNat_of_nonneg hl.1).symm
    refine .inr ⟨Ug R root,root,M,w1.1.size,I,A1,n1,c1,d4,m1,d1,rfl,rfl,hR,a9,by simp;omega,N4,b8,λk h1 h2 h=>by have:=(d3 _ h).2;omega,.inl (Nat.le_refl _),by omega,by omega,by rw[hF];rfl⟩
   ·refine .inl ⟨E,J,rfl,?_⟩;rw[hF,q3l (by rw[hR];exact J),hR]
  clear I4 B4 K4 N4 b8 Hd N3 b3 b2 XX X2 T4 I1 K0 f2 HR HF Hn;have i8:=V.ent;go_loopw [9,11,12,13] (λav ev _ _ wr=>∃vs T,Ru W w T0 R k Z F I av ev wr vs T) (λ_ ev _ _ wr=>if intOf ev=0 then Qae wr I+1 else 0)
  case atStart=>exact⟨[],T0,D0⟩
  case round=>
   obtain⟨vs,T,D⟩:=hrel;obtain⟨P,K,Q,f0,i6,hold,a3,O,g6⟩:=D;have f6:=K.size;have g9:=Q.lt;clear D0;rcases g6 with⟨E',c6,rfl,a0⟩|⟨l,a,b,lo,hi,A,n,c,Bq,m,d,rfl,rfl,a8,a9,i9,hN,c9,a2,f3,k3,i1,a0⟩
   ·have g1:(E'==0)=false:=by simp[c6]
    have g2:decide (E'=0)=false:=decide_eq_false c6;have HF:=Lib.hid a0;clear c6 a0;go_wp2_with fail
    go_ret;exact⟨by rw[HF.out];rfl,T,by rw[HF.out];exact P,K,hold⟩
   ·have b4:b.may=true:=by have:=H.may a (by rw[a8]);rwa [a8] at this
    have j8:=hN.lt;have g5:=hN;have e8:=V.in_ P;have p0:=hN.c0;have p1:=hN.c1;have p2:=hN.c2;have Y:=Lib.hid (V.call (a:=a) P c9 a2 i1 (by omega));have d7:=Lib.hid a8;have G:=Lib.hid a9;have HF:=Lib.hid a0;clear a0 a8 a9 P
    cases l with
    |zero=>
     have d8:F=(vs++[(a,b)],0):=by rw[HF.out,q87 d7.out G.out]
     have g1:(b.lvl==0)=true:=by rw[G.out];rfl
     have g2:decide (b.lvl=0)=true:=decide_eq_true G.out;have d5:=Lib.hid d8;clear d8;go_wp2_with fail
     refine Y.out.mono ?_;rintro e w5 ⟨rfl,T',a7,T5,a1⟩;have q0:=(hN.turned T5 O.1).c0;clear p0 p1 p2;go_wp2_with fail
     go_ret;exact⟨by rw[d5.out];rfl,T',by rw[d5.out];exact a7,K.trans (T5.below (λx X=>(e8 x X).1) f6),hold.trans T5 a3⟩
    |succ l=>
     obtain⟨-,g7,g8,-,-,f5⟩:=Fe b4 (by rw[G.out];omega);have g1:(b.lvl==0)=false:=by rw[G.out];simp;omega
     have g2:decide (b.lvl=0)=false:=decide_eq_false (by rw[G.out];omega);have k0:=Q.c0;go_wp2_with fail
     refine Y.out.mono ?_;rintro e w5 ⟨rfl,T',a7,T5,a1⟩;have N5:=hN.turned T5 O.1;have K5:=Q.keep (T5.block _ g9 O.2);have a6:=c9.turn T5 a2;have U:=K.trans (T5.below (λx X=>(e8 x X).1) f6);have e9:=V.in_ a7;have z5:=T5.size;have f8:=hold.trans T5 a3;have f9:∀k,T' k->T0 k\/w.1.size<=k:=λk h=>by
      have hh:=hold.size;rcases a1 k h with h|h|h
      ·exact a3 k h
      ·exact .inr (by omega)
      ·exact .inr (by omega)
     have b5:¬T' I/\¬T' w.1.size:=⟨λh=>by rcases a1 I h with h|h|h;exact O.1 h;omega;omega,λh=>by rcases a1 _ h with h|h|h;exact O.2 h;omega;omega⟩;clear p0 p1 p2 k0 hN Q c9 a2 f3 a1 T5 K;have p0:=N5.c0;have p1:=N5.c1;have p2:=N5.c2;have k0:=K5.c0;have k1:=K5.c1;have k2:=K5.c2;obtain⟨r5,s5⟩:=a6.rows;obtain⟨x,X⟩:∃x,b.Zb k=x:=⟨_,rfl⟩;have i7:=f5 k;rw[X] at i7;have f1:b.kids.length=m:=Js.len s5 |> λh=>by rw[List.length_map] at h;exact h
     obtain⟨rr,f4⟩:∃rr,Kz b.keys k x=rr:=⟨_,rfl⟩;have g4:=Lib.hid (q28 b (q1n b4) k x X rr f4 A n c Bq m d w5 r5.J5 s5 (by have:=a6.2.1;omega) (by have:=a6.2.2.1;omega));have Hx:=Lib.hid X;clear f4 X f5;go_wp2_with fail
     refine g4.out.mono ?_;rintro e w6 ⟨rfl,b6⟩;have N6:=N5.below b6 N5.lt;have K6:=K5.below b6 K5.lt;obtain⟨r6,s6⟩:=(a6.below b6).rows;have a4:=U.trans (b6.mono U.size);have z6:=b6.size;clear p0 p1 p2 k0 k1 k2 r5 s5 r6;have p0:=N6.c0;have p1:=N6.c1;have p2:=N6.c2;obtain⟨g,o,rfl,hg,-,-,-,y3⟩:=s6.cell (j:=x) (by omega);obtain⟨y,hy⟩:∃y,(Qh b.kids x).a=y:=⟨_,rfl⟩;rw[hy] at y3;have e1:(x:Int)<(m:Int):=by omega
     have e0:(0:Int)<=(x:Int):=by omega
     obtain⟨_,j9⟩:=Zp.bounds s6;have b1:=Lib.hid (qkh H a4 (b0.below a4 b0.1) b.lvl g7 g8 b.kids A n c (some ⟨g,o,none⟩) m d s6 x (by omega) y hy);have Hy:=Lib.hid hy;have j0:=Lib.hid f1;clear hy f1 s6;go_wp2_with fail
     refine b1.out.mono ?_;clear b1;obtain⟨M2,d0⟩:∃M2,Df R b.lvl y=M2:=⟨_,rfl⟩;obtain⟨E2,c7⟩:∃E2,Ad R b.lvl y=E2:=⟨_,rfl⟩;rw[d0,c7];have d6:=Lib.hid d0;have a5:=Lib.hid c7;clear d0 c7;rintro e w7 ⟨A2,n2,c2,B2,m2,d2,rfl,i5,i3,e3,e7,b7⟩;have g0:=qe3 i5 i3 e3 e7;have z7:=b7.size;have N7:=N6.below b7 N6.lt;have K7:=K6.below b7 K6.lt;clear p0 p1 p2 e3 e7 y3;go_wp2_with (first
      |(refine Ub rfl (.tmp 10) _ rfl I rfl M2.lvl A2 n2 c2 B2 m2 d2 rfl N7 ?_;intro w8 N8 T8)
      |fail)
     have z8:=T8.size;have j7:=N5.lt;have b9:Turn (λg=>g=I) w5 w8:=((Qu (S:=λg=>g=I) b6).trans (Qu (S:=λg=>g=I) b7) (λ_ h=>.inl h)).trans T8 (λ_ h=>.inl h);have I8:=V.keep a7 b9 (λk hk h=>by have hk:k=I:=hk;rw[hk] at h;exact b5.1 h);have g3:=g0.turn T8 (λk h1 h2 h=>by have h:k=I:=h;omega);have K8:=K7.keep (T8.block _ K7.lt (by show ¬w.1.size=I;omega));have f7:Below W.1.size W w8:=U.trans (b9.below (λk hk=>by have:k=I:=hk;omega) U.size);refine⟨⟨vs++[(a,b)],T',I8,f7,K8,f0,⟨_,_,_,_,_,_,_,N8⟩,f8.trans b9 (λk h=>.inr (by have h:k=I:=h;omega)),f9,b5,?_⟩,?_⟩
     ·have c8:F=((vs++[(a,b)])++(Zy R k l y).1,(Zy R k l y).2):=by
       rw[HF.out,q88 d7.out G.out,Hx.out,Hy.out,List.append_assoc];rfl
      by_cases h1:(R y).2=0
      ·have J:Ad R b.lvl y=if (R y).1.lvl≠b.lvl-1 then 5 else 0:=if_neg (by simpa using h1)
       have hM:Df R b.lvl y=if (R y).1.lvl≠b.lvl-1 then Zk else (R y).1:=if_neg (by simpa using h1)
       by_cases h2:(R y).1.lvl=b.lvl-1
       ·rw[if_neg (by simpa using h2)] at J hM;rw[a5.out] at J;rw[d6.out] at hM;subst J;have i0:M2.lvl=(l:Int):=by rw[hM,h2,G.out];omega
        exact .inr ⟨l,y,M2,w6.1.size,w7.1.size,A2,n2,c2,B2,m2,d2,rfl,rfl,by rw[hM];exact Prod.ext rfl h1,i0,by rw[List.length_append,List.length_singleton];omega,N8,g3,λk h3 h4 h5=>by have:=(e9 k h5).2;omega,.inr (by omega),by omega,by have:=a4.size;omega,c8⟩
       ·rw[if_pos h2] at J;rw[a5.out] at J;subst J;refine .inl ⟨5,by omega,rfl,?_⟩;rw[c8,q4x h1 l (λh=>h2 (by rw[h,G.out];omega)),List.append_nil]
      ·have J:Ad R b.lvl y=(R y).2:=if_pos h1;rw[a5.out] at J;refine .inl ⟨E2,by rw[J];exact h1,rfl,?_⟩;rw[c8,q3l h1,List.append_nil,J]
     ·have e5:Qae wr I=l+1:=by rw[qpy g5,G.out];omega
      rw[e5];by_cases J:E2=0
      ·have e6:Qae w8 I=l:=by
        rw[qpy N8];have h1:=a5.out;rw[J] at h1;unfold Ad at h1;have h2:=d6.out;unfold Df at h2;split at h1
        ·rename_i h;exact absurd h1 h
        ·rename_i h;rw[if_neg h] at h2;split at h1
         ·cases h1
         ·rename_i h3;rw[if_neg h3] at h2;have h3:(R y).1.lvl=b.lvl-1:=by simpa using h3
          rw[<-h2,h3,G.out];omega
       rw[e6];simp[intOf,J]
      ·simp[intOf,J]
