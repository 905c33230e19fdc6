/- What Put and Delete do, as plain data: nodes at their places, what is laid down instead, s -/
import Derived.Test.YtnnbaihfboacoaaGreatDoorEu26
namespace Go.Proofs.YtnnbaihfboacoaaGreatDoor
open Go Go.RowKit Go.Proofs
set_option maxHeartbeats 16000000
set_option maxRecDepth 100000
structure Qu where
 N:Nd
 addr:Int
 next:Nat
 held:Bool
 shared:Bool
def Um:List Int->Pl->Option Pl
 |[],P=>some P
 |a::l,P=>if P.C.Y8 a=0 then Um l ⟨P.S,P.C.ref a,P.L⟩ else none
def q3g:List Int->Pl->Option Pl
 |[],P=>some P
 |a::l,P=>if P.C.Jz a=0 then q3g l ⟨P.S,P.C.Qy a,P.L⟩ else none
def Pl.Qx (P:Pl)(s:Qu)(i j:Nat):Option Pl:=
 if s.shared=true then Um (Jd s.N.lvl [s.N.cut 0 i,s.N.cut j s.N.size]).named P else if 0<s.N.lvl then some P else q3g (s.N.cut i j).named P
def Pl.spot (P:Pl)(D:DM)(a:Int)(held:Bool):Qu:=⟨P.Qh D a,a,0,held,held||decide (1<P.C.get a)⟩
def Pl.Wn (P:Pl)(D:DM)(above:Qu)(i:Nat):Bool:=decide (i<above.N.kids.length/\P.Zh D (Qg above.N.kids i).a=0/\(P.Qh D (Qg above.N.kids i).a).lvl=above.N.lvl-1)
def Pl.Jj (P:Pl)(D:DM)(above:Qu)(i:Nat):Qu:=P.spot D (Qg above.N.kids i).a above.shared
def Pl.near (P:Pl)(D:DM)(above:Qu)(i:Nat):Option Pl:=if P.Wn D above i=true then P.Qx (P.Jj D above i) 0 0 else none
structure Px where
 N:Nd
 olds:List Qu
 i:Nat
 j:Nat
def Pl.have_ (P:Pl)(D:DM)(s:Qu)(b:Nd)(above:Qu):Option (Px × Pl):=
 if Qr b.lvl<=b.size then some (⟨b,[s],above.next,above.next+1⟩,P)
 else if 0<above.next then (P.near D above (above.next-1)).map λe=>(⟨Jd (P.Jj D above (above.next-1)).N.lvl [(P.Jj D above (above.next-1)).N,b],[P.Jj D above (above.next-1),s],above.next-1,above.next+1⟩,e)
 else (P.near D above (above.next+1)).map λe=>(⟨Jd b.lvl [b,(P.Jj D above (above.next+1)).N],[s,P.Jj D above (above.next+1)],above.next,above.next+2⟩,e)
def Pl.leave (P:Pl)(s:Qu):Option Pl:=if s.held=true then some P else if P.C.Jz s.addr=0 then some ⟨P.S,P.C.Qy s.addr,P.L⟩ else none
def Gu:List Qu->Pl->List Nd->List Ql->Option (Pl × List Nd × List Ql)
 |[],P,rest,ks=>some (P,rest,ks)
 |s::olds,P,[],ks=>match P.leave s with
  |some P'=>Gu olds P' [] ks
  |none=>none
 |s::olds,P,b::rest,ks=>if s.shared=true\/P.C.fresh s.addr=false then match P.leave s with
   |some P'=>Gu olds P' (b::rest) ks
   |none=>none
  else if P.Gw s.addr b=0 then Gu olds (P.Vq s.addr b) rest (ks++[⟨b.least,s.addr⟩]) else none
def Xe:List Nd->Pl->List Ql->Option (Pl × Option (List Ql))
 |[],P,ks=>some (P,some ks)
 |b::rest,P,ks=>if P.Jq b=0 then Xe rest (P.Zn b) (ks++[⟨b.least,P.Xg b⟩]) else if P.Jq b=6 then some (P.Zn b,none) else none
def Pl.Y7 (P:Pl)(x:Px):Option (Pl × Option (List Ql)):=match Gu x.olds P (pieces x.N) [] with
 |some (P',rest,ks)=>Xe rest P' ks
 |none=>none
def Pl.top (P:Pl)(s:Qu)(b:Nd):Option (Pl × Option Int):=
 if b.kids.length=1 then (P.leave s).map λe=>(e,some (Qg b.kids 0).a)
 else match P.Y7 ⟨b,[s],0,0⟩ with
  |some (e,some ks)=>if ks.length=0 then some (e,some 0) else if ks.length=1 then some (e,some (Qg ks 0).a) else
    if e.Jq ⟨b.lvl+1,[],ks⟩=0 then some (e.Zn ⟨b.lvl+1,[],ks⟩,some (e.Xg ⟨b.lvl+1,[],ks⟩)) else if e.Jq ⟨b.lvl+1,[],ks⟩=6 then some (e.Zn ⟨b.lvl+1,[],ks⟩,none) else none
  |some (e,none)=>some (e,none)
  |none=>none
def Ye (s:Qu)(i j:Nat)(b:Nd):Nd:=Jd s.N.lvl [s.N.cut 0 i,b,s.N.cut j s.N.size]
def Wj (D:DM):List Qu->Pl->Qu->Nat->Nat->Nd->Option (Pl × Option Int)
 |[],P,s,i,j,come=>match P.Qx s i j with
  |some P1=>P1.top s (Ye s i j come)
  |none=>none
 |above::way,P,s,i,j,come=>match P.Qx s i j with
  |some P1=>match P1.have_ D s (Ye s i j come) above with
   |some (x,P2)=>match P2.Y7 x with
    |some (P3,some ks)=>Wj D way P3 above x.i x.j ⟨x.N.lvl+1,[],ks⟩
    |some (P3,none)=>some (P3,none)
    |none=>none
   |none=>none
  |none=>none
def Pl.Gx (P:Pl)(D:DM)(k:Kd):Nat->Qu->List Qu->Option (List Qu × Qu)
 |0,s,up=>if s.N.lvl<=0 then some (up,s) else none
 |f+1,s,up=>if s.N.lvl<=0 then some (up,s) else if P.Wn D s (s.N.Za k)=true then P.Gx D k f (P.Jj D s (s.N.Za k)) ({ s with next:=s.N.Za k }::up) else none
def q46:Qu:=⟨Jh,0,0,true,true⟩
def Pl.way (P:Pl)(D:DM)(root:Int)(k:Kd):Option (List Qu × Qu):=if root=0 then some ([],q46) else if P.Zh D root=0 then P.Gx D k 8 (P.spot D root false) [] else none
def Pl.O6 (P:Pl)(D:DM)(root:Int)(x:Qc):Option (Pl × Option Int):=match P.way D root x.k with
 |some (up,s)=>Wj D up P s (s.N.Za x.k) (s.N.Za x.k+if Vb s.N.keys x.k (s.N.Za x.k)=true then 1 else 0) ⟨0,[x],[]⟩
 |none=>none
def Pl.Oq (P:Pl)(D:DM)(root:Int)(k:Kd):Option (Pl × Option Int):=match P.way D root k with
 |some (up,s)=>Wj D up P s (s.N.Za k) (s.N.Za k+1) ⟨0,[],[]⟩
 |none=>none
def Rq (w:World)(lo hi:Nat)(A:Option Addr)(n:Nat)(xs:List Qc):Prop:=
 ∀j,j<n->∃g o V p q,A=some ⟨g,o,none⟩/\g<w.1.size/\w.cell? ⟨g,o+j*4,none⟩=some (.int .i64 (Qj xs j).k.obj)/\w.cell? ⟨g,o+j*4+1,none⟩=some (.int .i64 (Qj xs j).k.kind)/\
  w.cell? ⟨g,o+j*4+2,none⟩=some (.int .i64 (Qj xs j).k.off)/\w.cell? ⟨g,o+j*4+3,none⟩=some (.slice V p q)/\Sl w V p q (Qj xs j).v/\((Qj xs j).v≠[]->∀b,q01 V=some b->lo<=b/\b<hi)
def Held (w:World)(lo hi:Nat)(A:Option Addr)(n c:Nat)(B:Option Addr)(m d:Nat)(M:Nd):Prop:=
 hi<=w.1.size/\n<=20/\m<=20/\∀w',w.1.size<=w'.1.size->(∀k,lo<=k->k<hi->w'.1[k]?=w.1[k]?)->J4 w' lo A n c M.items/\Zm w' B m d M.kids/\Rq w' lo hi A n M.items
section
variable {w w':World}{lo hi n c m d:Nat}{A B:Option Addr}{M:Nd}
theorem Held.rows (h:Held w lo hi A n c B m d M):J4 w lo A n c M.items/\Zm w B m d M.kids:=by
 obtain⟨a,b,_⟩:=h.2.2.2 w (Nat.le_refl _) λ_ _ _=>rfl
 exact⟨a,b⟩
theorem Held.turn {S:Nat->Prop}(h:Held w lo hi A n c B m d M)(t:Turn S w w')(hS:∀k,lo<=k->k<hi->¬S k):Held w' lo hi A n c B m d M:=by
 obtain⟨h1,h2,p,u⟩:=h;have y:∀k,lo<=k->k<hi->w'.1[k]?=w.1[k]?:=λk e f=>t.block k (by omega) (hS k e f)
 exact⟨Nat.le_trans h1 t.size,h2,p,λF E D=>u F (Nat.le_trans t.size E) λk a b=>(D k a b).trans (y k a b)⟩
theorem Held.below (h:Held w lo hi A n c B m d M)(hb:Below w.1.size w w'):Held w' lo hi A n c B m d M:=h.turn (Qv (S:=λ_=>False) hb) λ_ _ _ h=>h
end
theorem qg3 {w w':World}{base n c:Nat}{A:Option Addr}{xs:List Qc}(h:J4 w base A n c xs)(U:w.1.size<=w'.1.size)(H:∀k,base<=k->k<w.1.size->w'.1[k]?=w.1[k]?):J4 w' base A n c xs:=by
 obtain⟨F,h1,h2,K⟩:=h;refine⟨F,h1.keep λg a b=>H g a b,h2,λj r x P T=>?_⟩;obtain⟨V,p,q,e,y,f⟩:=K j r x P T;refine⟨V,p,q,e,⟨y.1,y.2.1,y.2.2.1,λi u E=>?_⟩,f⟩;obtain⟨D,G,I,J⟩:=y.2.2.2 i u E;have R:x.v≠[]:=λe=>by rw[e] at E;simp at E
 have O:=(f R D.block (by rw[G];rfl)).1;exact⟨D,G,by omega,(World.cell?_of_block (a:=D.add i) (by rw[q0n];exact H _ O I)).trans J⟩
theorem qpf {w w':World}{lo n c:Nat}{A:Option Addr}{xs:List Qc}(h:J4 w lo A n c xs)(hz:w.1.size<=w'.1.size)(P:∀k,lo<=k->k<w.1.size->w'.1[k]?=w.1[k]?):Rq w' lo w.1.size A n xs:=λj Z=>by
 obtain⟨f,h1,h2,W⟩:=h;have hl:f.length=n:=h1.len (by omega);have R:f[j]?=some (f[j]'(by omega)):=List.getElem?_eq_getElem (by omega);have Y:=q11 (xs:=xs) (j:=j) (by omega);obtain⟨V,p,q,e,E,D⟩:=W j _ _ R Y;obtain⟨g,o,K,X,_,O⟩:=(h1.Vs (by omega)).2.2.2 j _ R;rw[e] at O;have H:=(h1.Qa g (by rw[K];rfl)).1;have cell:∀i v,(Yi (Qj xs j).k V p q)[i]?=some v->w'.cell? ⟨g,o+j*4+i,none⟩=some v:=λi v y=>(World.cell?_of_block (a:=⟨g,_,none⟩) (P g H X)).trans (O i v y)
 refine⟨g,o,V,p,q,K,by omega,cell 0 _ rfl,cell 1 _ rfl,cell 2 _ rfl,cell 3 _ rfl,⟨E.1,E.2.1,E.2.2.1,λi u I=>?_⟩,λy b F=>⟨(D y b F).1,E.Qa y b F⟩⟩;obtain⟨G,J,T,U⟩:=E.2.2.2 i u I;have y:(Qj xs j).v≠[]:=λe=>by rw[e] at I;simp at I
 have F:=(D y G.block (by rw[J];rfl)).1;exact⟨G,J,by omega,(World.cell?_of_block (a:=G.add i) (by rw[q0n];exact P _ F T)).trans U⟩
theorem qe8 {w w':World}{A B:Option Addr}{n c m d:Nat}{M:Nd}(hn:n<=20)(hm:m<=20)(f:J4 w' w.1.size A n c M.items)(u:Qs w' w.1.size 81 4 B m d (M.kids.map Ql.vs)):Held w' w.1.size w'.1.size A n c B m d M:=
 ⟨Nat.le_refl _,hn,hm,λy p e=>⟨qg3 f p e,(u.keep λg a b=>e g a b).Vs (by omega),qpf f p e⟩⟩
theorem NB.turned {w w':World}{b:Nat}{l:Int}{A B:Option Addr}{n c m d:Nat}(H:NB w b l A n c B m d){S:Nat->Prop}(T:Turn S w w')(hb:¬S b):NB w' b l A n c B m d:=H.keep (T.block b H.lt hb)
def Ap (R:Int->Nd × Int)(l a:Int):Int:=if (R a).2≠0 then (R a).2 else if (R a).1.lvl≠l-1 then 5 else 0
def Dl (R:Int->Nd × Int)(l a:Int):Nd:=if (R a).2≠0 then Jh else if (R a).1.lvl≠l-1 then Jh else (R a).1
theorem qjz {w0 w:World}{p:Nat}{R:Int->Nd × Int}(H:Src w0 p R)(B0:Below w0.1.size w0 w)(ht:Tab w)(l:Int)(b0:1<=l)(b4:l<8)(kids:List Ql)(A:Option Addr)(n c:Nat)(B:Option Addr)(m d:Nat)(hK:Zm w B m d kids)(i:Nat)(hi:i<m)(x:Int)(D:(Qg kids i).a=x) :
  Calls Tryz.prog 72 #[.pointer (some ⟨p,0,none⟩),.agg #[.int .i64 l,.slice A n c,.slice B m d],.int .i64 (i:Int)] w λe w'=>q68 (Dl R l x) (Ap R l x) w e w':=by
 obtain⟨g,o,rfl,hg,-,-,-,k3⟩:=hK.cell hi;rw[D] at k3;have I:NB ((w.alloc (.cells #[.int .i64 l,.slice A n c,.slice (some ⟨g,o,none⟩) m d] 75)).alloc (.cells #[.int .i64 0,.slice none 0 0,.slice none 0 0] 75)) w.1.size l A n c (some ⟨g,o,none⟩) m d:=(NB.new w _ _ _ _ _ _ _ _).below (Qm) (by simp);have P:NB ((w.alloc (.cells #[.int .i64 l,.slice A n c,.slice (some ⟨g,o,none⟩) m d] 75)).alloc (.cells #[.int .i64 0,.slice none 0 0,.slice none 0 0] 75)) (w.1.size+1) 0 none 0 0 none 0 0:=by
  have:=NB.new (w.alloc (.cells #[.int .i64 l,.slice A n c,.slice (some ⟨g,o,none⟩) m d] 75)) 0 none 0 0 none 0 0 75;rwa [World.size_alloc] at this
 have f:Below w.1.size w ((w.alloc (.cells #[.int .i64 l,.slice A n c,.slice (some ⟨g,o,none⟩) m d] 75)).alloc (.cells #[.int .i64 0,.slice none 0 0,.slice none 0 0] 75)):=(Qm).alloc (by simp) _;have z1:((w.alloc (.cells #[.int .i64 l,.slice A n c,.slice (some ⟨g,o,none⟩) m d] 75)).alloc (.cells #[.int .i64 0,.slice none 0 0,.slice none 0 0] 75)).1.size=w.1.size+2:=by simp
 have q2:=I.c2;have F:=(f.cell (p:=⟨g,_,none⟩) hg).trans k3;have Hn:=Lib.hid (λu hu tu=>H.node u hu tu x);have zw:=B0.size;have hj:(0:Int)<=(i:Int):=by omega
 have a8:(i:Int)<(m:Int):=by omega
 obtain⟨_,b5⟩:=hK.bounds;clear k3 hK;obtain⟨M,E,hR⟩:∃M E,R x=(M,E):=⟨_,_,rfl⟩;rw[hR] at Hn;unfold Dl Ap;rw[hR];dsimp only;clear hR;by_cases O:E=0
 ·have g1:(E==0)=true:=by simp[O]
  have g2:(E != 0)=false:=by simp[O]
  by_cases W:M.lvl=l-1
  ·have g3:(M.lvl==l-1)=true:=by simp[W]
   have g4:(M.lvl != l-1)=false:=by simp[W]
   simp only[if_neg (show ¬E≠0 by simpa using O),if_neg (show ¬M.lvl≠l-1 by simpa using W)];clear W O;go_enter Tryz.func72,Tryz.ntmps72
   go_wp2_with fail
   generalize (w.alloc (.cells #[.int .i64 l,.slice A n c,.slice (some ⟨g,o,none⟩) m d] 75)).alloc (.cells #[.int .i64 0,.slice none 0 0,.slice none 0 0] 75)=w1 at I P f z1 q2 F ⊢;have t1:=ht.below f ht.1;refine (Hn.out w1 (B0.trans (f.mono zw)) t1).mono ?_;clear q2 F;rintro e b ⟨X,n1,c1,Y,m1,Z,rfl,a6,a2,hI,a1,y⟩;have z2:=y.size;have N2:=I.below y I.lt;have G:=P.below y P.lt;have T:=f.trans (y.mono f.size);have N3:NB (b.alloc (.cells #[.int .i64 0,.slice none 0 0,.slice none 0 0] 75)) b.1.size 0 none 0 0 none 0 0:=NB.new b _ _ _ _ _ _ _ _;have K:Below b.1.size b (b.alloc (.cells #[.int .i64 0,.slice none 0 0,.slice none 0 0] 75)):=Qm;have R3:=G.below K G.lt;have zz:=G.lt;have X2:NB b w.1.size l A n c (some ⟨g,o,none⟩) m d:=N2;go_wp2_with (first
    |(refine Gt rfl (.tmp 6) _ rfl (w.1.size+1) rfl M.lvl X n1 c1 Y m1 Z rfl R4 ?_;intro w5 R5 T5)
    |(refine Gt rfl (.tmp 8) _ rfl b.1.size rfl M.lvl X n1 c1 Y m1 Z rfl N3 ?_;intro w4 N4 J;have R4:NB w4 (w.1.size+1) 0 none 0 0 none 0 0:=R3.turned J (λh=>by have h:w.1.size+1=b.1.size:=h;omega);have p0:=N4.c0;have a7:=((X2.below K X2.lt).turned J (λh=>by have h:w.1.size=b.1.size:=h;omega)).c0;have p1:=N4.c1;have p2:=N4.c2)
    |fail)
   have U:Turn (λk=>k=w.1.size+1) b w5:=((Qv (S:=λk=>k=w.1.size+1) K).trans J (λx D=>.inr (by have:x=b.1.size:=D;omega))).trans T5 (λx D=>.inl D);refine bodyPost_ret (q16 Tryz.results72 rfl (Ii R5)) rfl ?_;exact⟨X,n1,c1,Y,m1,Z,rfl,a6,a2,(qg3 hI U.size λk h1 h2=>U.block k h2 (by intro (h:k=w.1.size+1);omega)).less (by omega),(a1.keep λk h1 h2=>U.block k h2 (by intro (h:k=w.1.size+1);omega)).less (by omega),T.trans (U.below (λk hk=>by have:k=w.1.size+1:=hk;omega) T.size)⟩
  ·have g3:(M.lvl==l-1)=false:=by simp[W]
   have g4:(M.lvl != l-1)=true:=by simp[W]
   simp only[if_neg (show ¬E≠0 by simpa using O),if_pos (show M.lvl≠l-1 from W)];clear W O;go_enter Tryz.func72,Tryz.ntmps72
   go_wp2_with fail
   generalize (w.alloc (.cells #[.int .i64 l,.slice A n c,.slice (some ⟨g,o,none⟩) m d] 75)).alloc (.cells #[.int .i64 0,.slice none 0 0,.slice none 0 0] 75)=w1 at I P f z1 q2 F ⊢;have t1:=ht.below f ht.1;refine (Hn.out w1 (B0.trans (f.mono zw)) t1).mono ?_;clear q2 F;rintro e b ⟨X,n1,c1,Y,m1,Z,rfl,a6,a2,hI,a1,y⟩;have z2:=y.size;have N2:=I.below y I.lt;have G:=P.below y P.lt;have T:=f.trans (y.mono f.size);have N3:NB (b.alloc (.cells #[.int .i64 0,.slice none 0 0,.slice none 0 0] 75)) b.1.size 0 none 0 0 none 0 0:=NB.new b _ _ _ _ _ _ _ _;have K:Below b.1.size b (b.alloc (.cells #[.int .i64 0,.slice none 0 0,.slice none 0 0] 75)):=Qm;have R3:=G.below K G.lt;have zz:=G.lt;have X2:NB b w.1.size l A n c (some ⟨g,o,none⟩) m d:=N2;go_wp2_with (first
    |(refine Gt rfl (.tmp 6) _ rfl (w.1.size+1) rfl 0 none 0 0 none 0 0 rfl R4 ?_;intro w5 R5 T5)
    |(refine Gt rfl (.tmp 8) _ rfl b.1.size rfl M.lvl X n1 c1 Y m1 Z rfl N3 ?_;intro w4 N4 J;have R4:NB w4 (w.1.size+1) 0 none 0 0 none 0 0:=R3.turned J (λh=>by have h:w.1.size+1=b.1.size:=h;omega);have p0:=N4.c0;have a7:=((X2.below K X2.lt).turned J (λh=>by have h:w.1.size=b.1.size:=h;omega)).c0)
    |fail)
   have U:Turn (λk=>k=w.1.size+1) b w5:=((Qv (S:=λk=>k=w.1.size+1) K).trans J (λx D=>.inr (by have:x=b.1.size:=D;omega))).trans T5 (λx D=>.inl D);refine bodyPost_ret (q16 Tryz.results72 rfl (Ii R5)) rfl ?_;exact⟨none,0,0,none,0,0,rfl,by omega,by omega,O8 _ _,q10 _ _ _ _,T.trans (U.below (λk hk=>by have:k=w.1.size+1:=hk;omega) T.size)⟩
 ·have g1:(E==0)=false:=by simp[O]
  have g2:(E != 0)=true:=by simp[O]
  simp only[if_pos (show E≠0 from O)];clear O;go_enter Tryz.func72,Tryz.ntmps72
  go_wp2_with fail
  generalize (w.alloc (.cells #[.int .i64 l,.slice A n c,.slice (some ⟨g,o,none⟩) m d] 75)).alloc (.cells #[.int .i64 0,.slice none 0 0,.slice none 0 0] 75)=w1 at I P f z1 q2 F ⊢;have t1:=ht.below f ht.1;refine (Hn.out w1 (B0.trans (f.mono zw)) t1).mono ?_;clear q2 F;rintro e b ⟨X,n1,c1,Y,m1,Z,rfl,a6,a2,hI,a1,y⟩;have z2:=y.size;have N2:=I.below y I.lt;have G:=P.below y P.lt;have T:=f.trans (y.mono f.size);have N3:NB (b.alloc (.cells #[.int .i64 0,.slice none 0 0,.slice none 0 0] 75)) b.1.size 0 none 0 0 none 0 0:=NB.new b _ _ _ _ _ _ _ _;have K:Below b.1.size b (b.alloc (.cells #[.int .i64 0,.slice none 0 0,.slice none 0 0] 75)):=Qm;have R3:=G.below K G.lt;have zz:=G.lt;have X2:NB b w.1.size l A n c (some ⟨g,o,none⟩) m d:=N2;go_wp2_with (first
   |(refine Gt rfl (.tmp 6) _ rfl (w.1.size+1) rfl 0 none 0 0 none 0 0 rfl R4 ?_;intro w5 R5 T5)
   |(refine Gt rfl (.tmp 8) _ rfl b.1.size rfl M.lvl X n1 c1 Y m1 Z rfl N3 ?_;intro w4 N4 J;have R4:NB w4 (w.1.size+1) 0 none 0 0 none 0 0:=R3.turned J (λh=>by have h:w.1.size+1=b.1.size:=h;omega))
   |fail)
  have U:Turn (λk=>k=w.1.size+1) b w5:=((Qv (S:=λk=>k=w.1.size+1) K).trans J (λx D=>.inr (by have:x=b.1.size:=D;omega))).trans T5 (λx D=>.inl D);refine bodyPost_ret (q16 Tryz.results72 rfl (Ii R5)) rfl ?_;exact⟨none,0,0,none,0,0,rfl,by omega,by omega,O8 _ _,q10 _ _ _ _,T.trans (U.below (λk hk=>by have:k=w.1.size+1:=hk;omega) T.size)⟩
theorem RB.stored {w:World}{b:Nat}{r:List Value}(H:RB w b r)(vs:List Value)(h:r.length=vs.length):RB (w.setCells b 0 vs) b vs:=by
 obtain⟨t,H⟩:=H;have:=q0o b t vs 0 w r H (by omega);rw[q4g r vs h] at this;exact⟨t,this⟩
theorem RB.cell {w:World}{b:Nat}{r:List Value}(H:RB w b r)(j:Nat){v:Value}(h:r[j]?=some v):w.cell? ⟨b,j,none⟩=some v:=by
 have:=H.range j v h;rwa [Nat.zero_add] at this
theorem RB.turned {w w':World}{b:Nat}{r:List Value}(H:RB w b r){S:Nat->Prop}(T:Turn S w w')(hb:¬S b):RB w' b r:=H.keep (T.block b H.lt hb)
def Pv (Q:World->Prop)(A:Option Addr)(n c:Nat)(xs:List Qc):Prop:=∃b,(∀w,Q w->Jf w 4 A n c b)/\b.length=xs.length/\∀(j:Nat) r x,b[j]?=some r->xs[j]?=some x->∃V p q,r=Yi x.k V p q/\∀w,Q w->Sl w V p q x.v
def Rw (Q:World->Prop)(B:Option Addr)(m d:Nat)(ks:List Ql):Prop:=∀w,Q w->Zm w B m d ks
structure Jl (Q:World->Prop)(N:Nd)(A:Option Addr)(n c:Nat)(B:Option Addr)(m d:Nat):Prop where
 its:Pv Q A n c N.items
 Bo:Rw Q B m d N.kids
 ln:N.items.length=n
 lm:N.kids.length=m
 hn:n<=60/\n<=c/\c<=maxLen
 hm:m<=60/\m<=d/\d<=maxLen
section
variable {Q Q':World->Prop}{w w':World}{A B:Option Addr}{n c m d:Nat}{N:Nd}
theorem Pv.mono {xs:List Qc}(h:Pv Q A n c xs)(hq:∀w,Q' w->Q w):Pv Q' A n c xs:=by
 obtain⟨f,h1,h2,u⟩:=h;refine⟨f,λw b=>h1 w (hq w b),h2,λj r x y E=>?_⟩;obtain⟨V,p,q,e,D⟩:=u j r x y E;exact⟨V,p,q,e,λw b=>D w (hq w b)⟩
theorem Jl.mono (h:Jl Q N A n c B m d)(hq:∀w,Q' w->Q w):Jl Q' N A n c B m d:=⟨h.its.mono hq,λw b=>h.Bo w (hq w b),h.ln,h.lm,h.hn,h.hm⟩
theorem Pv.Zq {xs:List Qc}(h:Pv Q A n c xs)(hw:Q w):Zl w A n c xs:=by
 obtain⟨b,h1,h2,f⟩:=h;refine⟨b,h1 w hw,h2,λj r x u D=>?_⟩;obtain⟨V,p,q,e,y⟩:=f j r x u D;exact⟨V,p,q,e,y w hw⟩
theorem qpg (Q:World->Prop):Pv Q none 0 0 []:=⟨[],λw _=>q67 w 4,rfl,λj r x b=>by simp at b⟩
theorem qph (Q:World->Prop)(l:Int):Jl Q ⟨l,[],[]⟩ none 0 0 none 0 0:=⟨qpg Q,λw _=>q67 w 4,rfl,rfl,⟨by omega,by omega,by unfold maxLen;omega⟩,⟨by omega,by omega,by unfold maxLen;omega⟩⟩
def F8 (A:Option Addr)(c i:Nat):Option Addr:=if c=i then A else A.map (·.add (i*4))
theorem Pv.sub {xs:List Qc}(h:Pv Q A n c xs){i j:Nat}(hi:i<=j)(hj:j<=n)(_hc:n<=c):Pv Q (F8 A c i) (j-i) (c-i) ((xs.drop i).take (j-i)):=by
 obtain⟨f,h1,h2,p⟩:=h;refine⟨(f.drop i).take (j-i),λw y=>((h1 w y).drop (by omega)).take (by omega),by rw[List.length_take,List.length_take,List.length_drop,List.length_drop,h2],λk r x b e=>?_⟩;rw[List.getElem?_take] at b e;split at b
 ·rename_i u;rw[if_pos u] at e;rw[List.getElem?_drop] at b e;exact p _ r x b e
 ·cases b
theorem Rw.sub {ks:List Ql}(h:Rw Q B m d ks){i j:Nat}(hi:i<=j)(hj:j<=m):Rw Q (F8 B d i) (j-i) (d-i) ((ks.drop i).take (j-i)):=λw b=>(h w b).sub hi hj
def Xy (l:Int)(A:Option Addr)(n c:Nat)(B:Option Addr)(m d:Nat):Value:=.agg #[.int .i64 l,.slice A n c,.slice B m d]
theorem qtb (h:Jl Q N A n c B m d)(h0:N.lvl=0){i j:Nat}(hi:i<=j)(b:j<=n):Jl Q (N.cut i j) (F8 A c i) (j-i) (c-i) B m d:=by
 have e:N.cut i j=⟨N.lvl,(N.items.drop i).take (j-i),N.kids⟩:=if_pos h0;rw[e];have h1:=h.hn;have h2:=h.ln;refine⟨h.its.sub hi b h1.2.1,h.Bo,?_,h.lm,⟨by omega,by omega,by omega⟩,h.hm⟩;show ((N.items.drop i).take (j-i)).length=_;rw[List.length_take,List.length_drop];omega
theorem qtc (h:Jl Q N A n c B m d)(h0:N.lvl≠0){i j:Nat}(hi:i<=j)(b:j<=m):Jl Q (N.cut i j) A n c (F8 B d i) (j-i) (d-i):=by
 have e:N.cut i j=⟨N.lvl,N.items,(N.kids.drop i).take (j-i)⟩:=if_neg h0;rw[e];have h1:=h.hm;have h2:=h.lm;refine⟨h.its,h.Bo.sub hi b,h.ln,?_,h.hn,⟨by omega,by omega,by omega⟩⟩;show ((N.kids.drop i).take (j-i)).length=_;rw[List.length_take,List.length_drop];omega
theorem Jl.size (h:Jl Q N A n c B m d):N.size=n+m:=by unfold Nd.size;rw[h.ln,h.lm]
end
theorem q29 (l:Int)(A:Option Addr)(n c:Nat)(B:Option Addr)(m d:Nat)(hn:n<=1000)(hm:m<=1000)(w:World) :
  Calls Tryz.prog 108 #[Xy l A n c B m d] w λe w'=>e=.returned (.int .i64 ((n+m:Nat):Int))/\Below w.1.size w w':=by
 have b:NB (w.alloc (.cells #[.int .i64 l,.slice A n c,.slice B m d] 127)) w.1.size l A n c B m d:=NB.new w _ _ _ _ _ _ _ _;have f:Below w.1.size w (w.alloc (.cells #[.int .i64 l,.slice A n c,.slice B m d] 127)):=Qm;have c1:=b.c1;have c2:=b.c2;unfold Xy;go_enter Tryz.func108,Tryz.ntmps108
 go_wp2;go_ret;exact⟨rfl,f⟩
theorem q3d (l:Int)(A:Option Addr)(n c:Nat)(B:Option Addr)(m d:Nat)(w:World) :
  Calls Tryz.prog 141 #[Xy l A n c B m d] w λe w'=>e=.returned (.tuple #[.int .i64 (Qr l:Int),.int .i64 (Qq l:Int)])/\Below w.1.size w w':=by
 have f:NB (w.alloc (.cells #[.int .i64 l,.slice A n c,.slice B m d] 127)) w.1.size l A n c B m d:=NB.new w _ _ _ _ _ _ _ _;have b:Below w.1.size w (w.alloc (.cells #[.int .i64 l,.slice A n c,.slice B m d] 127)):=Qm;have c0:=f.c0;unfold Xy Qr Qq;by_cases h:l=0
 ·have p:(l==0)=true:=by simp[h]
  rw[if_pos h,if_pos h];clear h;go_enter Tryz.func141,Tryz.ntmps141
  go_wp2;go_ret2;exact⟨rfl,b⟩
 ·have p:(l==0)=false:=by simp[h]
  rw[if_neg h,if_neg h];clear h;go_enter Tryz.func141,Tryz.ntmps141
  go_wp2;go_ret2;exact⟨rfl,b⟩
def Jb (R:Int->Nd × Int)(k:Kd):Nat->Int->List (Int × Nd) × Int
 |0,a=>if (R a).2≠0 then ([],(R a).2) else if (R a).1.lvl≠0 then ([],5) else ([(a,(R a).1)],0)
 |l+1,a=>if (R a).2≠0 then ([],(R a).2) else if (R a).1.lvl≠((l+1:Nat):Int) then ([],5) else
   ((a,(R a).1)::(Jb R k l (Qg (R a).1.kids ((R a).1.Za k)).a).1,(Jb R k l (Qg (R a).1.kids ((R a).1.Za k)).a).2)
def Yh (R:Int->Nd × Int)(k:Kd)(root:Int):List (Int × Nd) × Int:=if root=0 then ([],0) else Jb R k (Ub R root) root
theorem q3r {R:Int->Nd × Int}{k:Kd}{a:Int}(h:(R a).2≠0):∀l,Jb R k l a=([],(R a).2)
 |0=>by unfold Jb;rw[if_pos h]
 |l+1=>by unfold Jb;rw[if_pos h]
theorem q4x {R:Int->Nd × Int}{k:Kd}{a:Int}(h:(R a).2=0):∀l:Nat,(R a).1.lvl≠(l:Int)->Jb R k l a=([],5)
 |0,h2=>by unfold Jb;rw[if_neg (by simpa using h),if_pos (by simpa using h2)]
 |l+1,h2=>by unfold Jb;rw[if_neg (by simpa using h),if_pos h2]
theorem q80 {R:Int->Nd × Int}{k:Kd}{a:Int}{M:Nd}(h:R a=(M,0))(h2:M.lvl=0):Jb R k 0 a=([(a,M)],0):=by
 unfold Jb;rw[h];dsimp only;rw[if_neg (by simp),if_neg (by simpa using h2)]
theorem q81 {R:Int->Nd × Int}{k:Kd}{a:Int}{M:Nd}{l:Nat}(h:R a=(M,0))(h2:M.lvl=((l+1:Nat):Int)):Jb R k (l+1) a=((a,M)::(Jb R k l (Qg M.kids (M.Za k)).a).1,(Jb R k l (Qg M.kids (M.Za k)).a).2):=by
 conv=>lhs;unfold Jb
 rw[h];dsimp only;rw[if_neg (by simp),if_neg (by simpa using h2)]
structure Visit (w0:World)(f:Nat)(cap:Array Value)(Inv:List (Int × Nd)->(Nat->Prop)->World->Prop):Prop where
 ent:∀(args:Array Value) (w:World),(callFunc f args).run Tryz.prog w=.ok (.enter f args) w
 in_:∀{vs T w},Inv vs T w->∀k,T k->w0.heap.size<=k/\k<w.heap.size
 keep:∀{vs T w w' S},Inv vs T w->Turn S w w'->(∀k,S k->¬T k)->Inv vs T w'
 call:∀{vs T w lo hi a M A n c B m d},Inv vs T w->Held w lo hi A n c B m d M->(∀k,lo<=k->k<hi->¬T k)->w0.heap.size<=lo->vs.length<=10->
  Calls Tryz.prog f (#[.int .i64 a,.agg #[.int .i64 M.lvl,.slice A n c,.slice B m d]]++cap) w λe w'=>e=.returned (.tuple #[])/\∃T',Inv (vs++[(a,M)]) T' w'/\Turn T w w'/\∀k,T' k->T k\/w.heap.size<=k\/(lo<=k/\k<hi)
def Qac (w:World)(b:Nat):Nat:=match w.cell? ⟨b,0,none⟩ with
 |some (.int _ z)=>z.toNat
 |_=>0
theorem qqa {w:World}{b:Nat}{l:Int}{A B:Option Addr}{n c m d:Nat}(H:NB w b l A n c B m d):Qac w b=l.toNat:=by
 unfold Qac;rw[H.c0]
structure Rn (w0 wb:World)(T0:Nat->Prop)(R:Int->Nd × Int)(k:Kd)(Inv:List (Int × Nd)->(Nat->Prop)->World->Prop)(F:List (Int × Nd) × Int)(nb:Nat)(av ev:Value)(w:World)(vs:List (Int × Nd))(T:Nat->Prop):Prop where
 inv:Inv vs T w
 low:Below w0.heap.size w0 w
 key:KB w wb.heap.size k
 kge:w0.heap.size<=wb.heap.size/\wb.heap.size<nb
 node:∃l A n c B m d,NB w nb l A n c B m d
 old:Turn T0 wb w
 sub:∀k,T k->T0 k\/wb.heap.size<=k
 noT:¬T nb/\¬T wb.heap.size
 at_:(∃E:Int,E≠0/\ev=.int .i64 E/\F=(vs,E))\/
  (∃(l:Nat) (a:Int) (M:Nd) (lo hi:Nat) (A:Option Addr) (n c:Nat) (B:Option Addr) (m d:Nat),ev=.int .i64 0/\av=.int .i64 a/\R a=(M,0)/\M.lvl=(l:Int)/\l+vs.length<=8/\NB w nb M.lvl A n c B m d/\Held w lo hi A n c B m d M/\
   (∀k,lo<=k->k<hi->¬T k)/\(hi<=nb\/nb<lo)/\wb.heap.size<lo/\w0.heap.size<=lo/\F=(vs++(Jb R k l a).1,(Jb R k l a).2))
theorem qgh {Y w:World}{p f:Nat}{cap:Array Value}{R:Int->Nd × Int}{a2:List (Int × Nd)->(Nat->Prop)->World->Prop}(H:Src Y p R)(V:Visit Y f cap a2)(B0:Below Y.1.size Y w)(c7:Tab Y)(root:Int)(k:Kd)(T0:Nat->Prop)(hI:a2 [] T0 w) :
  Calls Tryz.prog 40 #[.pointer (some ⟨p,0,none⟩),.int .i64 root,.agg #[.int .i64 k.obj,.int .i64 k.kind,.int .i64 k.off],.func (.func f) #[] cap] w λe w'=>e=.returned (.int .i64 (Yh R k root).2)/\∃T,a2 (Yh R k root).1 T w'/\Below Y.1.size Y w'/\Turn T0 w w':=by
 obtain⟨K0,bB⟩:=Xb w k;have zw:=B0.size;have e2:=V.in_ hI;by_cases hr:root=0
 ·subst hr;have e:Yh R k 0=([],0):=if_pos rfl;rw[e];clear e;go_enter Tryz.func40,Tryz.ntmps40
  go_wp2_with fail
  go_ret;exact⟨rfl,T0,V.keep hI (Qv (S:=λ_=>False) bB) (λ_ h=>h.elim),B0.trans (bB.mono zw),Qv bB⟩
 ·have l5:(root==0)=false:=by simp[hr]
  have l6:decide (root=0)=false:=decide_eq_false hr;have hF:Yh R k root=Jb R k (Ub R root) root:=if_neg hr;obtain⟨F,f0⟩:∃F,Yh R k root=F:=⟨_,rfl⟩;rw[f0] at hF ⊢;clear f0;have I1:=V.keep hI (Qv (S:=λ_=>False) bB) (λ_ h=>h.elim);have z1:(w.alloc (.cells #[.int .i64 k.obj,.int .i64 k.kind,.int .i64 k.off] 30)).1.size=w.1.size+1:=by simp
  have Hn:=Lib.hid (λu hu tu=>H.node u hu tu root);obtain⟨M,E,hR⟩:∃M E,R root=(M,E):=⟨_,_,rfl⟩;have HR:=Lib.hid hR;rw[hR] at Hn;have HF:=Lib.hid hF;clear hF hR;go_enter Tryz.func40,Tryz.ntmps40
  go_wp2_with fail
  generalize w.alloc (.cells #[.int .i64 k.obj,.int .i64 k.kind,.int .i64 k.off] 30)=w1 at K0 bB I1 z1 ⊢;have B1:=B0.trans (bB.mono zw);refine (Hn.out w1 B1 (c7.below B1 c7.1)).mono ?_;rintro e w2 ⟨A1,n1,c1,e3,m1,d1,rfl,k4,j9,f1,f3,b2⟩;have l7:=b2.size;have Hd:=qe8 k4 j9 f1 f3;have N3:NB (w2.alloc (.cells #[.int .i64 0,.slice none 0 0,.slice none 0 0] 75)) w2.1.size 0 none 0 0 none 0 0:=NB.new w2 _ _ _ _ _ _ _ _;have b3:Below w2.1.size w2 (w2.alloc (.cells #[.int .i64 0,.slice none 0 0,.slice none 0 0] 75)):=Qm;clear f1 f3;go_wp2_with (first
   |(refine Gt rfl (.tmp 10) _ rfl w2.1.size rfl M.lvl A1 n1 c1 e3 m1 d1 rfl N3 ?_;intro w4 N4 T4)
   |fail)
  have XX:Turn (λ_=>False) w1 w4:=((Qv (S:=λ_=>False) b2).trans (Qv (S:=λ_=>False) b3) (λ_ h=>.inl h)).trans T4 (λx Z=>.inr (by have:x=w2.1.size:=Z;omega));have X2:Turn (λ_=>False) w2 w4:=(Qv (S:=λ_=>False) b3).trans T4 (λx Z=>.inr (by have:x=w2.1.size:=Z;omega));have I4:=V.keep I1 XX (λ_ h=>h.elim);have B4:Below Y.1.size Y w4:=B1.trans (XX.below (λ_ h=>h.elim) B1.size);have K4:=K0.keep (XX.block _ K0.lt (λh=>h));have d3:=Hd.turn X2 (λ_ _ _ h=>h);obtain⟨I,g5⟩:∃I,w2.1.size=I:=⟨_,rfl⟩;rw[g5] at N4 d3 ⊢;have D0:Rn Y w T0 R k a2 F I (.int .i64 root) (.int .i64 E) w4 [] T0:=by
   have hR:=HR.out;have hF:=HF.out;refine⟨I4,B4,K4,⟨zw,by omega⟩,⟨_,_,_,_,_,_,_,N4⟩,(Qv (S:=T0) bB).trans XX (λ_ h=>h.elim),λk h=>.inl h,⟨λh=>by have:=(e2 _ h).2;omega,λh=>by have:=(e2 _ h).2;omega⟩,?_⟩;by_cases J:E=0
   ·subst J;have hm:=H.may root (by rw[hR]);rw[hR] at hm;have hm:M.may=true:=hm;have hl:0<=M.lvl/\M.lvl<8:=by
     by_cases h0:M.lvl=0
     ·omega
     ·have:=Py hm h0;omega
    have c6:M.lvl=(Ub R root:Int):=by unfold Ub;rw[hR];exact (Int.toNat_of_nonneg hl.1).symm
    refine .inr ⟨Ub R root,root,M,w1.1.size,I,A1,n1,c1,e3,m1,d1,rfl,rfl,hR,c6,by simp;omega,N4,d3,λk h1 h2 h=>by have:=(e2 _ h).2;omega,.inl (Nat.le_refl _),by omega,by omega,by rw[hF];rfl⟩
   ·refine .inl ⟨E,J,rfl,?_⟩;rw[hF,q3r (by rw[hR];exact J),hR]
  clear I4 B4 K4 N4 d3 Hd N3 b3 b2 XX X2 T4 I1 K0 g5 HR HF Hn;have k8:=V.ent;go_loopw [9,11,12,13] (λav ev _ _ wr=>∃vs T,Rn Y w T0 R k a2 F I av ev wr vs T) (λ_ ev _ _ wr=>if intOf ev=0 then Qac wr I+1 else 0)
  case atStart=>exact⟨[],T0,D0⟩
  case round=>
   obtain⟨vs,T,D⟩:=hrel;obtain⟨P,K,U,g3,k6,W,b0,O,i7⟩:=D;have g9:=K.size;have j0:=U.lt;clear D0;rcases i7 with⟨E',d5,rfl,a6⟩|⟨l,a,b,lo,hi,A,n,c,Bq,m,d,rfl,rfl,b9,c6,k9,hN,d8,a8,g6,l4,j8,a6⟩
   ·have g1:(E'==0)=false:=by simp[d5]
    have g2:decide (E'=0)=false:=decide_eq_false d5;have HF:=Lib.hid a6;clear d5 a6;go_wp2_with fail
    go_ret;exact⟨by rw[HF.out];rfl,T,by rw[HF.out];exact P,K,W⟩
   ·have c9:b.may=true:=by have:=H.may a (by rw[b9]);rwa [b9] at this
    have l2:=hN.lt;have i6:=hN;have f9:=V.in_ P;have p0:=hN.c0;have p1:=hN.c1;have p2:=hN.c2;have a1:=Lib.hid (V.call (a:=a) P d8 a8 j8 (by omega));have e8:=Lib.hid b9;have G:=Lib.hid c6;have HF:=Lib.hid a6;clear a6 b9 c6 P
    cases l with
    |zero=>
     have e9:F=(vs++[(a,b)],0):=by rw[HF.out,q80 e8.out G.out]
     have g1:(b.lvl==0)=true:=by rw[G.out];rfl
     have g2:decide (b.lvl=0)=true:=decide_eq_true G.out;have e4:=Lib.hid e9;clear e9;go_wp2_with fail
     refine a1.out.mono ?_;rintro e w5 ⟨rfl,T',b8,T5,a7⟩;have q0:=(hN.turned T5 O.1).c0;clear p0 p1 p2;go_wp2_with fail
     go_ret;exact⟨by rw[e4.out];rfl,T',by rw[e4.out];exact b8,K.trans (T5.below (λx Z=>(f9 x Z).1) g9),W.trans T5 b0⟩
    |succ l=>
     obtain⟨-,i8,i9,-,-,g8⟩:=Py c9 (by rw[G.out];omega);have g1:(b.lvl==0)=false:=by rw[G.out];simp;omega
     have g2:decide (b.lvl=0)=false:=decide_eq_false (by rw[G.out];omega);have k0:=U.c0;go_wp2_with fail
     refine a1.out.mono ?_;rintro e w5 ⟨rfl,T',b8,T5,a7⟩;have N5:=hN.turned T5 O.1;have K5:=U.keep (T5.block _ j0 O.2);have b5:=d8.turn T5 a8;have X:=K.trans (T5.below (λx Z=>(f9 x Z).1) g9);have g0:=V.in_ b8;have z5:=T5.size;have i1:=W.trans T5 b0;have i2:∀k,T' k->T0 k\/w.1.size<=k:=λk h=>by
      have hh:=W.size;rcases a7 k h with h|h|h
      ·exact b0 k h
      ·exact .inr (by omega)
      ·exact .inr (by omega)
     have d0:¬T' I/\¬T' w.1.size:=⟨λh=>by rcases a7 I h with h|h|h;exact O.1 h;omega;omega,λh=>by rcases a7 _ h with h|h|h;exact O.2 h;omega;omega⟩;clear p0 p1 p2 k0 hN U d8 a8 g6 a7 T5 K;have p0:=N5.c0;have p1:=N5.c1;have p2:=N5.c2;have k0:=K5.c0;have k1:=K5.c1;have k2:=K5.c2;obtain⟨r5,s5⟩:=b5.rows;obtain⟨x,Z⟩:∃x,b.Za k=x:=⟨_,rfl⟩;have k7:=g8 k;rw[Z] at k7;have g4:b.kids.length=m:=Jf.len s5 |> λh=>by rw[List.length_map] at h;exact h
     obtain⟨rr,g7⟩:∃rr,Vb b.keys k x=rr:=⟨_,rfl⟩;have i5:=Lib.hid (q22 b (Nj c9) k x Z rr g7 A n c Bq m d w5 r5.Zq s5 (by have:=b5.2.1;omega) (by have:=b5.2.2.1;omega));have Hx:=Lib.hid Z;clear g7 Z g8;go_wp2_with fail
     refine i5.out.mono ?_;rintro e w6 ⟨rfl,b6⟩;have N6:=N5.below b6 N5.lt;have K6:=K5.below b6 K5.lt;obtain⟨r6,s6⟩:=(b5.below b6).rows;have b1:=X.trans (b6.mono X.size);have z6:=b6.size;clear p0 p1 p2 k0 k1 k2 r5 s5 r6;have p0:=N6.c0;have p1:=N6.c1;have p2:=N6.c2;obtain⟨g,o,rfl,hg,-,-,-,y3⟩:=s6.cell (j:=x) (by omega);obtain⟨y,hy⟩:∃y,(Qg b.kids x).a=y:=⟨_,rfl⟩;rw[hy] at y3;have e1:(x:Int)<(m:Int):=by omega
     have e0:(0:Int)<=(x:Int):=by omega
     obtain⟨_,l3⟩:=Zm.bounds s6;have c8:=Lib.hid (qjz H b1 (c7.below b1 c7.1) b.lvl i8 i9 b.kids A n c (some ⟨g,o,none⟩) m d s6 x (by omega) y hy);have Hy:=Lib.hid hy;have l0:=Lib.hid g4;clear hy g4 s6;go_wp2_with fail
     refine c8.out.mono ?_;clear c8;obtain⟨M2,d9⟩:∃M2,Dl R b.lvl y=M2:=⟨_,rfl⟩;obtain⟨E2,d6⟩:∃E2,Ap R b.lvl y=E2:=⟨_,rfl⟩;rw[d9,d6];have e7:=Lib.hid d9;have b4:=Lib.hid d6;clear d9 d6;rintro e w7 ⟨A2,n2,c2,B2,m2,d2,rfl,k5,k3,f2,f4,b7⟩;have i3:=qe8 k5 k3 f2 f4;have z7:=b7.size;have N7:=N6.below b7 N6.lt;have K7:=K6.below b7 K6.lt;clear p0 p1 p2 f2 f4 y3;go_wp2_with (first
      |(refine Gt rfl (.tmp 10) _ rfl I rfl M2.lvl A2 n2 c2 B2 m2 d2 rfl N7 ?_;intro w8 N8 T8)
      |fail)
     have z8:=T8.size;have l1:=N5.lt;have d4:Turn (λg=>g=I) w5 w8:=((Qv (S:=λg=>g=I) b6).trans (Qv (S:=λg=>g=I) b7) (λ_ h=>.inl h)).trans T8 (λ_ h=>.inl h);have I8:=V.keep b8 d4 (λk hk h=>by have hk:k=I:=hk;rw[hk] at h;exact d0.1 h);have i4:=i3.turn T8 (λk h1 h2 h=>by have h:k=I:=h;omega);have K8:=K7.keep (T8.block _ K7.lt (by show ¬w.1.size=I;omega));have i0:Below Y.1.size Y w8:=X.trans (d4.below (λk hk=>by have:k=I:=hk;omega) X.size);refine⟨⟨vs++[(a,b)],T',I8,i0,K8,g3,⟨_,_,_,_,_,_,_,N8⟩,i1.trans d4 (λk h=>.inr (by have h:k=I:=h;omega)),i2,d0,?_⟩,?_⟩
     ·have d7:F=((vs++[(a,b)])++(Jb R k l y).1,(Jb R k l y).2):=by
       rw[HF.out,q81 e8.out G.out,Hx.out,Hy.out,List.append_assoc];rfl
      by_cases h1:(R y).2=0
      ·have J:Ap R b.lvl y=if (R y).1.lvl≠b.lvl-1 then 5 else 0:=if_neg (by simpa using h1)
       have hM:Dl R b.lvl y=if (R y).1.lvl≠b.lvl-1 then Jh else (R y).1:=if_neg (by simpa using h1)
       by_cases h2:(R y).1.lvl=b.lvl-1
       ·rw[if_neg (by simpa using h2)] at J hM;rw[b4.out] at J;rw[e7.out] at hM;subst J;have j7:M2.lvl=(l:Int):=by rw[hM,h2,G.out];omega
        exact .inr ⟨l,y,M2,w6.1.size,w7.1.size,A2,n2,c2,B2,m2,d2,rfl,rfl,by rw[hM];exact Prod.ext rfl h1,j7,by rw[List.length_append,List.length_singleton];omega,N8,i4,λk h3 h4 h5=>by have:=(g0 k h5).2;omega,.inr (by omega),by omega,by have:=b1.size;omega,d7⟩
       ·rw[if_pos h2] at J;rw[b4.out] at J;subst J;refine .inl ⟨5,by omega,rfl,?_⟩;rw[d7,q4x h1 l (λh=>h2 (by rw[h,G.out];omega)),List.append_nil]
      ·have J:Ap R b.lvl y=(R y).2:=if_pos h1;rw[b4.out] at J;refine .inl ⟨E2,by rw[J];exact h1,rfl,?_⟩;rw[d7,q3r h1,List.append_nil,J]
     ·have e5:Qac wr I=l+1:=by rw[qqa i6,G.out];omega
      rw[e5];by_cases J:E2=0
      ·have e6:Qac w8 I=l:=by
        rw[qqa N8];have h1:=b4.out;rw[J] at h1;unfold Ap at h1;have h2:=e7.out;unfold Dl at h2;split at h1
        ·rename_i h;exact absurd h1 h
        ·rename_i h;rw[if_neg h] at h2;split at h1
         ·cases h1
         ·rename_i h3;rw[if_neg h3] at h2;have h3:(R y).1.lvl=b.lvl-1:=by simpa using h3
          rw[<-h2,h3,G.out];omega
       rw[e6];simp[intOf,J]
      ·simp[intOf,J]
