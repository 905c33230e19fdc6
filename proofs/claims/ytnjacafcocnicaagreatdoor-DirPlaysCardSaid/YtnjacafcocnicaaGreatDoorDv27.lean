/- Laws of the pool: a pool, its drive, and blocks of the law's own; rows of numbers -/
import Derived.Test.YtnjacafcocnicaaGreatDoorDv26
namespace Go.Proofs.YtnjacafcocnicaaGreatDoor
open Go Go.RowKit Go.Proofs Tryz
set_option maxHeartbeats 8000000
set_option maxRecDepth 100000
section
variable {b:Nat}{w w':WD}{d p:Nat}{S0 S T S':NP}{D:DM}{P:Pl}
theorem Ql.below (H:Ql b w d p S0 S T D P)(hb:Below w.1.size w w'):Ql b w' d p S0 S T D P:=
 ⟨H.Aq.below hb,H.pool.below hb,H.sub,H.apart,λk e=>⟨(H.tight k e).1,by have:=(H.tight k e).2;have:=hb.size;omega⟩⟩
theorem Ql.more (H:Ql b w d p S0 S T D P)(hb:Below w.1.size w w'):Ql b w' d p S0 S (grow T w w') D P:=by
 have q:=H.base;have f:=H.Dz;have u:=hb.size;refine⟨H.Aq.below hb,(H.pool.mono (S':=S) (T':=grow T w w') (λk _ h=>h) (λk e h=>?_) (λk h=>⟨.inl (f k h),by have:=(H.tight k (f k h)).2;omega⟩)).below hb,λk e=>⟨.inl (H.sub k e),by have:=(H.tight k (H.sub k e)).2;omega⟩,H.apart,λk e=>⟨e.1.elim (λh=>(H.tight k h).1) λh=>by omega,e.2⟩⟩;exact h.1.elim id λh=>by omega
theorem Ql.own (H:Ql b w d p S0 S T D P)(t:Turn S' w w')(hT:∀k,S' k->T k)(h0:∀k,S' k->¬S0 k)(h1:∀k,S' k->¬S k):Ql b w' d p S0 S T D P:=
 ⟨H.Aq.keep λk e f=>t.block k e λh=>h0 k h f,H.pool.other t hT h1,H.sub,H.apart,λk e=>⟨(H.tight k e).1,by have:=(H.tight k e).2;have:=t.size;omega⟩⟩
theorem qrq (H:Ql b w d p S0 S T D P)(K:1<b)(F:Tab w){G:Nat}(E:D.Ya G)(y:G<=500000)(u:P.g<1099511627775) :
  Calls prog 25 #[.pointer (some ⟨p,0,none⟩)] w λe w'=>e=.returned (.int .i64 (D.Oy P))/\Ql b w' d p (grow S0 w w') S (grow T w w') (D.Qj P.steps) (D.Oz P)/\Turn (λk=>S0 k\/S k) w w'/\Tab w':=by
 have q:=H.Dz;have J:=H.base;refine (qjo H.Aq H.pool H.sub H.apart (λk f=>(H.tight k f).2) (λh=>by have:=(H.tight _ h).1;omega) F E y u).mono ?_;rintro e w' ⟨rfl,R,Q,X⟩;have O:=X.size;have I:∀k,S0 k\/S k->T k:=λk f=>f.elim (H.sub k) (q k)
 refine⟨rfl,⟨R.tight,?_,λk f=>⟨f.1.imp (H.sub k) id,f.2⟩,λk f h=>?_,λk f=>⟨f.1.elim (λh=>(H.tight k h).1) λh=>by omega,f.2⟩⟩,X,F.turned X λh=>by have:=(H.tight _ (I _ h)).1;omega⟩
 ·exact Q.mono (λk _ h=>h) (λk f h=>h.1) λk f=>⟨.inl (q k f),by have:=(H.tight k (q k f)).2;omega⟩
 ·exact f.1.elim (λh2=>H.apart k h2 h) λh2=>by have:=(H.tight k (q k h)).2;omega
end
section
variable {w w':WD}{base:Nat}{A:OA}{n c:Nat}{an:List Nat}
end
theorem qh7 {b:LU}{a:Int}{N:Nd}(h:Zb b a=some N):N.may=true:=by
 unfold Zb at h;split at h
 ·unfold Di at h
  cases f:Jy (Yz b).level (U8 b) (Yz b).count.toNat with
  |none=>rw[f] at h;cases h
  |some x=>
   obtain⟨M,r⟩:=x;rw[f] at h;dsimp only at h;by_cases e:(Yz b).kind=(if (Yz b).level=0 then 3 else 4)/\(Yz b).addr=a/\Y9 r=true/\M.may=true
   ·rw[AA e] at h;obtain rfl:=OI h;exact e.2.2.2
   ·rw[AB e] at h
    cases h
 ·cases h
theorem qrr {P:Pl}{D:DM}(E:∀a b,P.L a=some b->b.good)(a:Int)(h:(P.store D a).2=0):(P.store D a).1.may=true:=by
 obtain⟨n,rfl,hn,h0⟩:=qh4 h
 cases u:P.live n with
 |some b=>
  obtain⟨N,rfl,e⟩:=qd8 h0 u h;rw[e];exact q38 (E n _ (q5j u).2)
 |none=>
  have f:P.Qh D (n:Int)=0:=h;unfold Pl.Qh at f;rw[AB h0,AJ,u] at f;dsimp only at f;by_cases q:D.Xp (n:Int)=0
  ·rw[q86 h0 u q];rw[AA q] at f;unfold J4 at f;unfold Xn
   cases y:Zb (D.Xv (n:Int)) (n:Int) with
   |some N=>exact qh7 y
   |none=>rw[y] at f;simp at f
  ·rw[AB q] at f;exact absurd f q
structure Src (w0:WD)(p:Nat)(R:Int->Nd × Int):Prop where
 node:∀u,Below w0.heap.size w0 u->Tab u->∀a,Calls prog 31 #[.pointer (some ⟨p,0,none⟩),.int .i64 a] u λe w'=>q6g (R a).1 (R a).2 u e w'
 may:∀a,(R a).2=0->(R a).1.may=true
theorem qCa {w:WD}{p d:Nat}{S0 S T:NP}{D:DM}{P:Pl}(f:Vk w d S0 D)(H:Pool w p d S T P)(u:∀a b,P.L a=some b->b.kindOk)(q:∀a b,P.L a=some b->b.good):Src w p (P.store D):=
 ⟨λ_ e y a=>qaw (f.below e) (H.below e) u y a,λa h=>qrr q a h⟩
theorem Src.below {w0 w1:WD}{p:Nat}{R:Int->Nd × Int}(h:Src w0 p R)(hb:Below w0.1.size w0 w1):Src w1 p R:=
 ⟨λu f e a=>h.node u (hb.trans (f.mono hb.size)) e a,h.may⟩
def Qaa (w:WD)(lo hi:Nat)(A:OA)(n:Nat)(xs:List Qc):Prop:=
 ∀j,j<n->∃g o V p q,A=some ⟨g,o,none⟩/\g<w.1.size/\w.cell? ⟨g,o+j*4,none⟩=some (.int .i64 (Zc xs j).k.obj)/\w.cell? ⟨g,o+j*4+1,none⟩=some (.int .i64 (Zc xs j).k.kind)/\
  w.cell? ⟨g,o+j*4+2,none⟩=some (.int .i64 (Zc xs j).k.off)/\w.cell? ⟨g,o+j*4+3,none⟩=some (.slice V p q)/\Sl w V p q (Zc xs j).v/\((Zc xs j).v≠[]->∀b,q01 V=some b->lo<=b/\b<hi)
def Held (w:WD)(lo hi:Nat)(A:OA)(n c:Nat)(B:OA)(m d:Nat)(M:Nd):Prop:=
 hi<=w.1.size/\n<=20/\m<=20/\∀w',w.1.size<=w'.1.size->(∀k,lo<=k->k<hi->w'.1[k]?=w.1[k]?)->Xe w' lo A n c M.items/\Zr w' B m d M.kids/\Qaa w' lo hi A n M.items
section
variable {w w':WD}{lo hi n c m d:Nat}{A B:OA}{M:Nd}
theorem Held.rows (h:Held w lo hi A n c B m d M):Xe w lo A n c M.items/\Zr w B m d M.kids:=by
 obtain⟨a,b,_⟩:=h.2.2.2 w (AE _) λ_ _ _=>rfl
 exact⟨a,b⟩
theorem Held.vals (h:Held w lo hi A n c B m d M):Qaa w lo hi A n M.items:=(h.2.2.2 w (AE _) λ_ _ _=>rfl).2.2
theorem Held.turn {S:NP}(h:Held w lo hi A n c B m d M)(t:Turn S w w')(hS:∀k,lo<=k->k<hi->¬S k):Held w' lo hi A n c B m d M:=by
 obtain⟨h1,h2,q,u⟩:=h;have y:∀k,lo<=k->k<hi->w'.1[k]?=w.1[k]?:=λk e f=>t.block k (by omega) (hS k e f)
 exact⟨AZ h1 t.size,h2,q,λG F E=>u G (AZ t.size F) λk a b=>(E k a b).trans (y k a b)⟩
theorem Held.below (h:Held w lo hi A n c B m d M)(hb:Below w.1.size w w'):Held w' lo hi A n c B m d M:=h.turn (Qz (S:=λ_=>False) hb) λ_ _ _ h=>h
end
theorem qh8 {w w':WD}{base n c:Nat}{A:OA}{xs:List Qc}(h:Xe w base A n c xs)(X:w.1.size<=w'.1.size)(I:∀k,base<=k->k<w.1.size->w'.1[k]?=w.1[k]?):Xe w' base A n c xs:=by
 obtain⟨G,h1,h2,O⟩:=h;refine⟨G,h1.keep λg a b=>I g a b,h2,λj r x R W=>?_⟩;obtain⟨V,p,q,e,y,f⟩:=O j r x R W;refine⟨V,p,q,e,⟨y.1,y.2.1,y.2.2.1,λi u F=>?_⟩,f⟩;obtain⟨E,H,J,K⟩:=y.2.2.2 i u F;have U:x.v≠[]:=λe=>by rw[e] at F;simp at F
 have Q:=(f U E.block (by rw[H];rfl)).1;exact⟨E,H,by omega,(AY (a:=E.add i) (by rw[q14];exact I _ Q J)).trans K⟩
theorem qrs {w w':WD}{lo n c:Nat}{A:OA}{xs:List Qc}(h:Xe w lo A n c xs)(hz:w.1.size<=w'.1.size)(R:∀k,lo<=k->k<w.1.size->w'.1[k]?=w.1[k]?):Qaa w' lo w.1.size A n xs:=λj hj=>by
 obtain⟨f,h1,h2,Y⟩:=h;have hl:f.length=n:=h1.len (by omega);have U:f[j]?=some (f[j]'(by omega)):=AC (by omega);have hx:=q22 (xs:=xs) (j:=j) (by omega);obtain⟨V,p,q,e,F,E⟩:=Y j _ _ U hx;obtain⟨g,o,O,Z,_,Q⟩:=(h1.Gn (by omega)).2.2.2 j _ U;rw[e] at Q;have I:=(h1.Qa g (by rw[O];rfl)).1;have cell:∀i v,(Vx (Zc xs j).k V p q)[i]?=some v->w'.cell? ⟨g,o+j*4+i,none⟩=some v:=λi v y=>(AY (a:=⟨g,_,none⟩) (R g I Z)).trans (Q i v y)
 refine⟨g,o,V,p,q,O,by omega,cell 0 _ rfl,cell 1 _ rfl,cell 2 _ rfl,cell 3 _ rfl,⟨F.1,F.2.1,F.2.2.1,λi u J=>?_⟩,λy b G=>⟨(E y b G).1,F.Qa y b G⟩⟩;obtain⟨H,K,W,X⟩:=F.2.2.2 i u J;have y:(Zc xs j).v≠[]:=λe=>by rw[e] at J;simp at J
 have G:=(E y H.block (by rw[K];rfl)).1;exact⟨H,K,by omega,(AY (a:=H.add i) (by rw[q14];exact R _ G W)).trans X⟩
theorem qrt {w w':WD}{A B:OA}{n c m d:Nat}{M:Nd}(hn:n<=20)(hm:m<=20)(f:Xe w' w.1.size A n c M.items)(u:Q8 w' w.1.size 125 4 B m d (M.kids.map Qn.vs)):Held w' w.1.size w'.1.size A n c B m d M:=
 ⟨AE _,hn,hm,λy q e=>⟨qh8 f q e,(u.keep λg a b=>e g a b).Gn (by omega),qrs f q e⟩⟩
theorem NB.turned {w w':WD}{b:Nat}{l:Int}{A B:OA}{n c m d:Nat}(H:NB w b l A n c B m d){S:NP}(T:Turn S w w')(hb:¬S b):NB w' b l A n c B m d:=H.keep (T.block b H.lt hb)
def Md (R:Int->Nd × Int)(l a:Int):Int:=if (R a).2≠0 then (R a).2 else if (R a).1.lvl≠l-1 then 5 else 0
def O0 (R:Int->Nd × Int)(l a:Int):Nd:=if (R a).2≠0 then Je else if (R a).1.lvl≠l-1 then Je else (R a).1
theorem qwb {w0 w:WD}{p:Nat}{R:Int->Nd × Int}(H:Src w0 p R)(B0:Below w0.1.size w0 w)(ht:Tab w)(l:Int)(b0:1<=l)(b4:l<8)(kids:List Qn)(A:OA)(n c:Nat)(B:OA)(m d:Nat)(hK:Zr w B m d kids)(i:Nat)(hi:i<m)(x:Int)(F:(Qk kids i).a=x) :
  Calls prog 61 #[.pointer (some ⟨p,0,none⟩),.agg #[.int .i64 l,.slice A n c,.slice B m d],.int .i64 (i:Int)] w λe w'=>q6g (O0 R l x) (Md R l x) w e w':=by
 obtain⟨g,o,rfl,hg,-,-,-,k3⟩:=hK.cell hi;rw[F] at k3;have J:NB ((w.alloc (.cells #[.int .i64 l,.slice A n c,.slice (some ⟨g,o,none⟩) m d] 74)).alloc (.cells #[.int .i64 0,.slice none 0 0,.slice none 0 0] 74)) w.1.size l A n c (some ⟨g,o,none⟩) m d:=(NB.new w _ _ _ _ _ _ _ _).below (Qi) (by simp);have U:NB ((w.alloc (.cells #[.int .i64 l,.slice A n c,.slice (some ⟨g,o,none⟩) m d] 74)).alloc (.cells #[.int .i64 0,.slice none 0 0,.slice none 0 0] 74)) (w.1.size+1) 0 none 0 0 none 0 0:=by
  have:=NB.new (w.alloc (.cells #[.int .i64 l,.slice A n c,.slice (some ⟨g,o,none⟩) m d] 74)) 0 none 0 0 none 0 0 74;rwa [BH] at this
 have q:Below w.1.size w ((w.alloc (.cells #[.int .i64 l,.slice A n c,.slice (some ⟨g,o,none⟩) m d] 74)).alloc (.cells #[.int .i64 0,.slice none 0 0,.slice none 0 0] 74)):=(Qi).alloc (by simp) _;have z1:((w.alloc (.cells #[.int .i64 l,.slice A n c,.slice (some ⟨g,o,none⟩) m d] 74)).alloc (.cells #[.int .i64 0,.slice none 0 0,.slice none 0 0] 74)).1.size=w.1.size+2:=by simp
 have q2:=J.c2;have G:=(q.cell (p:=⟨g,_,none⟩) hg).trans k3;have Hn:=HI (λu hu tu=>H.node u hu tu x);have zw:=B0.size;have hj:(0:Int)<=(i:Int):=by omega
 have a8:(i:Int)<(m:Int):=by omega
 obtain⟨_,b5⟩:=hK.bounds;clear k3 hK;obtain⟨M,E,hR⟩:∃M E,R x=(M,E):=⟨_,_,rfl⟩;rw[hR] at Hn;unfold O0 Md;rw[hR];dsimp only;clear hR;by_cases Q:E=0
 ·have g1:(E==0)=true:=by simp[Q]
  have g2:(E != 0)=false:=by simp[Q]
  by_cases X:M.lvl=l-1
  ·have g3:(M.lvl==l-1)=true:=by simp[X]
   have g4:(M.lvl != l-1)=false:=by simp[X]
   simp only[AB (show ¬E≠0 by simpa using Q),AB (show ¬M.lvl≠l-1 by simpa using X)];clear X Q;go_enter func61,ntmps61
   go_wp2_with fail
   generalize (w.alloc (.cells #[.int .i64 l,.slice A n c,.slice (some ⟨g,o,none⟩) m d] 74)).alloc (.cells #[.int .i64 0,.slice none 0 0,.slice none 0 0] 74)=w1 at J U q z1 q2 G ⊢;have t1:=ht.below q ht.1;refine (Hn.out w1 (B0.trans (q.mono zw)) t1).mono ?_;clear q2 G;rintro e f ⟨Y,n1,c1,Z,m1,d1,rfl,a6,a2,hI,a1,y⟩;have z2:=y.size;have N2:=J.below y J.lt;have I:=U.below y U.lt;have V:=q.trans (y.mono q.size);have N3:NB (f.alloc (.cells #[.int .i64 0,.slice none 0 0,.slice none 0 0] 74)) f.1.size 0 none 0 0 none 0 0:=NB.new f _ _ _ _ _ _ _ _;have O:Below f.1.size f (f.alloc (.cells #[.int .i64 0,.slice none 0 0,.slice none 0 0] 74)):=Qi;have R3:=I.below O I.lt;have zz:=I.lt;have X2:NB f w.1.size l A n c (some ⟨g,o,none⟩) m d:=N2;go_wp2_with (first
    |(refine Bj rfl (.tmp 6) _ rfl (w.1.size+1) rfl M.lvl Y n1 c1 Z m1 d1 rfl R4 ?_;intro w5 R5 T5)
    |(refine Bj rfl (.tmp 8) _ rfl f.1.size rfl M.lvl Y n1 c1 Z m1 d1 rfl N3 ?_;intro w4 N4 K;have R4:NB w4 (w.1.size+1) 0 none 0 0 none 0 0:=R3.turned K (λh=>by have h:w.1.size+1=f.1.size:=h;omega);have p0:=N4.c0;have a7:=((X2.below O X2.lt).turned K (λh=>by have h:w.1.size=f.1.size:=h;omega)).c0;have p1:=N4.c1;have p2:=N4.c2)
    |fail)
   have W:Turn (λk=>k=w.1.size+1) f w5:=((Qz (S:=λk=>k=w.1.size+1) O).trans K (λx F=>.inr (by have:x=f.1.size:=F;omega))).trans T5 (λx F=>.inl F);refine bodyPost_ret (Bl Tryz.results61 rfl (Nh R5)) rfl ?_;exact⟨Y,n1,c1,Z,m1,d1,rfl,a6,a2,(qh8 hI W.size λk h1 h2=>W.block k h2 (by intro (h:k=w.1.size+1);omega)).less (by omega),(a1.keep λk h1 h2=>W.block k h2 (by intro (h:k=w.1.size+1);omega)).less (by omega),V.trans (W.below (λk hk=>by have:k=w.1.size+1:=hk;omega) V.size)⟩
  ·have g3:(M.lvl==l-1)=false:=by simp[X]
   have g4:(M.lvl != l-1)=true:=by simp[X]
   simp only[AB (show ¬E≠0 by simpa using Q),AA (show M.lvl≠l-1 from X)];clear X Q;go_enter func61,ntmps61
   go_wp2_with fail
   generalize (w.alloc (.cells #[.int .i64 l,.slice A n c,.slice (some ⟨g,o,none⟩) m d] 74)).alloc (.cells #[.int .i64 0,.slice none 0 0,.slice none 0 0] 74)=w1 at J U q z1 q2 G ⊢;have t1:=ht.below q ht.1;refine (Hn.out w1 (B0.trans (q.mono zw)) t1).mono ?_;clear q2 G;rintro e f ⟨Y,n1,c1,Z,m1,d1,rfl,a6,a2,hI,a1,y⟩;have z2:=y.size;have N2:=J.below y J.lt;have I:=U.below y U.lt;have V:=q.trans (y.mono q.size);have N3:NB (f.alloc (.cells #[.int .i64 0,.slice none 0 0,.slice none 0 0] 74)) f.1.size 0 none 0 0 none 0 0:=NB.new f _ _ _ _ _ _ _ _;have O:Below f.1.size f (f.alloc (.cells #[.int .i64 0,.slice none 0 0,.slice none 0 0] 74)):=Qi;have R3:=I.below O I.lt;have zz:=I.lt;have X2:NB f w.1.size l A n c (some ⟨g,o,none⟩) m d:=N2;go_wp2_with (first
    |(refine Bj rfl (.tmp 6) _ rfl (w.1.size+1) rfl 0 none 0 0 none 0 0 rfl R4 ?_;intro w5 R5 T5)
    |(refine Bj rfl (.tmp 8) _ rfl f.1.size rfl M.lvl Y n1 c1 Z m1 d1 rfl N3 ?_;intro w4 N4 K;have R4:NB w4 (w.1.size+1) 0 none 0 0 none 0 0:=R3.turned K (λh=>by have h:w.1.size+1=f.1.size:=h;omega);have p0:=N4.c0;have a7:=((X2.below O X2.lt).turned K (λh=>by have h:w.1.size=f.1.size:=h;omega)).c0)
    |fail)
   have W:Turn (λk=>k=w.1.size+1) f w5:=((Qz (S:=λk=>k=w.1.size+1) O).trans K (λx F=>.inr (by have:x=f.1.size:=F;omega))).trans T5 (λx F=>.inl F);refine bodyPost_ret (Bl Tryz.results61 rfl (Nh R5)) rfl ?_;exact⟨none,0,0,none,0,0,rfl,by omega,by omega,q1o _ _,q0z _ _ _ _,V.trans (W.below (λk hk=>by have:k=w.1.size+1:=hk;omega) V.size)⟩
 ·have g1:(E==0)=false:=by simp[Q]
  have g2:(E != 0)=true:=by simp[Q]
  simp only[AA (show E≠0 from Q)];clear Q;go_enter func61,ntmps61
  go_wp2_with fail
  generalize (w.alloc (.cells #[.int .i64 l,.slice A n c,.slice (some ⟨g,o,none⟩) m d] 74)).alloc (.cells #[.int .i64 0,.slice none 0 0,.slice none 0 0] 74)=w1 at J U q z1 q2 G ⊢;have t1:=ht.below q ht.1;refine (Hn.out w1 (B0.trans (q.mono zw)) t1).mono ?_;clear q2 G;rintro e f ⟨Y,n1,c1,Z,m1,d1,rfl,a6,a2,hI,a1,y⟩;have z2:=y.size;have N2:=J.below y J.lt;have I:=U.below y U.lt;have V:=q.trans (y.mono q.size);have N3:NB (f.alloc (.cells #[.int .i64 0,.slice none 0 0,.slice none 0 0] 74)) f.1.size 0 none 0 0 none 0 0:=NB.new f _ _ _ _ _ _ _ _;have O:Below f.1.size f (f.alloc (.cells #[.int .i64 0,.slice none 0 0,.slice none 0 0] 74)):=Qi;have R3:=I.below O I.lt;have zz:=I.lt;have X2:NB f w.1.size l A n c (some ⟨g,o,none⟩) m d:=N2;go_wp2_with (first
   |(refine Bj rfl (.tmp 6) _ rfl (w.1.size+1) rfl 0 none 0 0 none 0 0 rfl R4 ?_;intro w5 R5 T5)
   |(refine Bj rfl (.tmp 8) _ rfl f.1.size rfl M.lvl Y n1 c1 Z m1 d1 rfl N3 ?_;intro w4 N4 K;have R4:NB w4 (w.1.size+1) 0 none 0 0 none 0 0:=R3.turned K (λh=>by have h:w.1.size+1=f.1.size:=h;omega))
   |fail)
  have W:Turn (λk=>k=w.1.size+1) f w5:=((Qz (S:=λk=>k=w.1.size+1) O).trans K (λx F=>.inr (by have:x=f.1.size:=F;omega))).trans T5 (λx F=>.inl F);refine bodyPost_ret (Bl Tryz.results61 rfl (Nh R5)) rfl ?_;exact⟨none,0,0,none,0,0,rfl,by omega,by omega,q1o _ _,q0z _ _ _ _,V.trans (W.below (λk hk=>by have:k=w.1.size+1:=hk;omega) V.size)⟩
section
open Go.ChangeMaps (setBlock)
theorem qey {w:WD}{p d:Nat}{S T:NP}{P:Pl}(H:Pool w p d S T P)(hT:∀k,T k->k<w.1.size)(hG:¬T 1)(N:Nd)(A:OA)(n c:Nat)(B:OA)(F G:Nat)(a6:∀w',Turn S w w'->J3 w' A n c N.items/\Zr w' B F G N.kids)(hn:n<=1000)(hm:F<=1000)(ht:Tab w) :
  Calls prog 172 #[.pointer (some ⟨p,0,none⟩),.agg #[.int .i64 N.lvl,.slice A n c,.slice B F G]] w λe w'=>e=.returned (.tuple #[.int .i64 (P.Wi N),.int .i64 (P.Jt N)])/\Pool w' p d S T (P.Js N)/\Turn S w w'/\Tab w':=by
 have b0:=H.ok;have N1:NB (w.alloc (.cells #[.int .i64 N.lvl,.slice A n c,.slice B F G] 74)) w.1.size N.lvl A n c B F G:=NB.new w _ _ _ _ _ _ _ _;have V:Below w.1.size w (w.alloc (.cells #[.int .i64 N.lvl,.slice A n c,.slice B F G] 74)):=Qi;have z1:(w.alloc (.cells #[.int .i64 N.lvl,.slice A n c,.slice B F G] 74)).1.size=w.1.size+1:=by simp
 have Z:=λr hr w' (hw:Turn S w w')=>q2g N r hr A n c B F G w' (a6 w' hw).1 (a6 w' hw).2 hn hm
 have c0:=N1.c0;have c1:=N1.c1;have c2:=N1.c2;have t1:=ht.below V ht.1;have H1:=H.below V;have B1:Turn S w (w.alloc (.cells #[.int .i64 N.lvl,.slice A n c,.slice B F G] 74)):=Qz V
 cases f:N.may with
 |false=>
  have e1:P.Wi N=0:=by unfold Pl.Wi;rw[f];rfl
  have Y:P.Jt N=1:=by unfold Pl.Jt;rw[f];rfl
  have e3:P.Js N=P:=by unfold Pl.Js;rw[f];rfl
  rw[e1,Y,e3];have W:=HI (Z false f);clear f e1 Y e3 Z;go_enter func172,ntmps172
  go_wp2_with fail
  generalize w.alloc (.cells #[.int .i64 N.lvl,.slice A n c,.slice B F G] 74)=w1 at V N1 z1 c0 c1 c2 t1 H1 B1 ⊢;refine (W.out w1 B1).mono ?_;rintro e w2 ⟨rfl,J⟩;go_wp2;go_ret2;have BB:=V.trans (J.mono (by omega));exact⟨rfl,H.below BB,Qz BB,ht.below BB ht.1⟩
 |true=>
  have a8:=q4s f;have e1:P.Wi N=P.C.Gs:=by unfold Pl.Wi;rw[f];rfl
  have Y:P.Jt N=P.C.Gq:=by unfold Pl.Jt;rw[f];rfl
  have e3:P.Js N=P.lay (.node N):=by unfold Pl.Js;rw[f];rfl
  have c8:=λ(a:Nat) (ha:a<=2047)=>q5i f ha q2h
  have W:=HI (Z true f);have d3:=HI c8;rw[e1,Y,e3];clear f Z c8 e1 Y e3;have H0:=H;obtain⟨m,d4,l,clock,v,Sc,L⟩:=H1;have b9:=L.Nw;have b7:=L.mlt
  cases hp:P.C.pick with
  |none=>
   obtain⟨a1,a2,a3⟩:=Ct.Vt hp;have E:=λ(w2:WD) (C2:Y1 w2 p 36 Sc P.C)=>qcw C2
   rw[a1,a2,a3] at E;rw[a1,a2,qev hp];have E:=HI E;clear a1 a2 a3 hp;go_enter func172,ntmps172
   go_wp2_with fail
   generalize w.alloc (.cells #[.int .i64 N.lvl,.slice A n c,.slice B F G] 74)=w1 at V N1 z1 c0 c1 c2 t1 B1 L b9 b7 ⊢;refine (W.out w1 B1).mono ?_;rintro e w2 ⟨rfl,J⟩;have u:=L.below J;go_wp2_with fail
   refine (E.out w2 u.ct).mono ?_;rintro e y ⟨rfl,C3,U⟩;go_wp2;go_ret2;have BB:=V.trans (J.mono (by omega));have X3:Turn S w y:=(Qz (S:=S) BB).trans (U.mono u.Yl.2.2) λk hk=>.inl hk
   exact⟨rfl,⟨m,d4,l,clock,v,Sc,u.Qb7 U C3 rfl (λ_=>Iff.rfl) b0⟩,X3,ht.turned X3 λh=>hG (u.sub _ h)⟩
  |some a=>
   obtain⟨a1,a2,a3⟩:=Ct.Yd hp;have d6:=(Ct.Yw hp).1;have K:P.C.get (a:Int)=0:=by unfold Ct.get;rw[AA (by omega),AJ];exact (Ct.Yw hp).2.2.1
   have Q:Zf (a:Int) l=none:=by rw[L.look a];unfold Pl.live;rw[AA K];rfl
   have I:=HI Q;have e9:=b0.c.1;have hS:=qC0 (P:=P) (.node N);have b8:=qvr (P:=P) (.node N);have a7:=qyq b0 a8.fine;have b4:P.C.alloc=(P.lay (.node N)).C:=by rw[q49 hp]
   have b6:=qw1 hp (.node N);have b5:=qw2 a8 L.good;have E:=λ(w2:WD) (C2:Y1 w2 p 36 Sc P.C)=>qcw C2
   rw[a1,a2,b4] at E;rw[a1,a2];obtain⟨c6,e6,_⟩:=d3.out a (by omega);have O:=a8.len (a:=a) (g:=0) (by omega) q2h;have c7:(Bk.node N).out a 0=Jo N (a:Int) 0:=rfl;rw[c7] at O;have d1:=HI c6;have e8:=HI O;have E:=HI E;have d0:=HI b6;have c9:=HI b5;have b3:=HI a7;have HS:=HI hS;have Hn:=HI b8;clear a1 a2 a3 hp b4 hS b8 a7 b6 b5 c6 e6 O Q K c7;go_enter func172,ntmps172
   go_wp2_with fail
   generalize w.alloc (.cells #[.int .i64 N.lvl,.slice A n c,.slice B F G] 74)=w1 at V N1 z1 c0 c1 c2 t1 B1 L b9 b7 ⊢;refine (W.out w1 B1).mono ?_;rintro e w2 ⟨rfl,J⟩;have u:=L.below J;go_wp2_with fail
   refine (E.out w2 u.ct).mono ?_;rintro e y ⟨rfl,C3,U⟩;have z2:=J.size;have z3:=U.size;have N2:=N1.below J (by omega);have e5:=U.block p u.Nw λh=>(u.ne p h).1 rfl
   have e4:=U.block m u.mlt λh=>(u.ne m h).2 rfl
   have B3:Turn S w y:=(Qz (S:=S) (V.trans (J.mono (by omega)))).trans (U.mono u.Yl.2.2) λk hk=>.inl hk
   have d9:¬Sc w.1.size:=λh=>by have:=hT _ (u.sub _ (u.Yl.2.2 _ h));omega
   have n3:=U.block w.1.size N2.lt d9;have N3:NB y w.1.size N.lvl A n c B F G:=by
    obtain⟨t,h⟩:=N2;exact⟨t,n3.trans h⟩
   have e7:y.cell? ⟨p,40,none⟩=some (.map (some m)):=(AY (a:=⟨p,40,none⟩) e5).trans u.c40;have t3:Tab y:=(t1.below J t1.1).turned U λh=>hG (u.sub _ (u.Yl.2.2 _ h))
   have d8:w.1.size≠m:=λe=>by have h1:=hT m (u.sub _ u.Yl.2.1);omega
   have hF:∀w',Below y.1.size y w'->w'.cell? ⟨p,40,none⟩=some (.map (some m))/\w'.cell? ⟨w.1.size,0,none⟩=some (.int .i64 N.lvl)/\w'.cell? ⟨w.1.size,1,none⟩=some (.slice A n c)/\w'.cell? ⟨w.1.size,2,none⟩=some (.slice B F G):=λw' hb=>
    have N':=N3.below hb N3.lt;⟨(hb.cell (p:=⟨p,40,none⟩) (by show p<_;omega)).trans e7,N'.c0,N'.c1,N'.c2⟩
   have d5:∀w' (o:Obj),Below y.1.size y w'->(setBlock w' m o).cell? ⟨p,40,none⟩=some (.map (some m))/\(setBlock w' m o).cell? ⟨w.1.size,0,none⟩=some (.int .i64 N.lvl)/\(setBlock w' m o).cell? ⟨w.1.size,1,none⟩=some (.slice A n c)/\(setBlock w' m o).cell? ⟨w.1.size,2,none⟩=some (.slice B F G):=λw' o hb=>by
    have hz:=hb.size;have TB:Turn (λk=>k=m) w' (setBlock w' m o):=q0t _ rfl;obtain⟨h1,h2,h3,h4⟩:=hF w' hb;have e1:=TB.block p (by omega) u.p_m;have Y:=TB.block w.1.size (by omega) d8;exact⟨(AY (a:=⟨p,40,none⟩) e1).trans h1,(AY (a:=⟨w.1.size,0,none⟩) Y).trans h2,(AY (a:=⟨w.1.size,1,none⟩) Y).trans h3,(AY (a:=⟨w.1.size,2,none⟩) Y).trans h4⟩
   have BD:Below y.1.size y y.drew:=(AI _ _).drew;have d2:=HI (λ(w':WD) (hb:Below y.1.size y w') (v':Value)=>(congrArg (λz:Nat=>Result.ok () (setBlock w' m (.map (Xc (a:Int) v' clock l).toArray z))) (AA I.out)).subst (motive:=λr=>(Instr.mapUpdate 111 (.map (some m)) (.int .i64 (a:Int)) v').run prog w'=r) (q30 L.ents underlying111 underlying3 ((hb.block m (by omega)).trans (e4.trans u.map)) (a:Int) v'));have BI:Turn S w y.drew:=B3.drew;go_wp2_with fail
   go_region_held3 (λw'=>w'.cell? ⟨p,40,none⟩=some (.map (some m))/\w'.cell? ⟨w.1.size,0,none⟩=some (.int .i64 N.lvl)/\w'.cell? ⟨w.1.size,1,none⟩=some (.slice A n c)/\w'.cell? ⟨w.1.size,2,none⟩=some (.slice B F G))
    (first|assumption|exact hF _ BD|exact hF _ X|exact d5 _ _ X)
    (first
     |(go_at_call 195;refine (qd5 N (a:Int) 0 A n c B F G _ (a6 _ BI).1 (a6 _ BI).2 hn hm (t3.below BD t3.1)).mono ?_;rw[d1.out];rintro e w4 ⟨A3,n3,c3,rfl,R,e0,d7⟩;have X:Below y.1.size y w4:=BD.trans d7;have f0:=d2.out w4 X)
     |fail)
   obtain⟨q,rfl,rfl,rfl⟩:=e0 (by first|trivial|rfl);have hq:=(R.block ⟨q,0,none⟩ rfl).1;obtain⟨R1,R2⟩:=u.store (P':=P.lay (.node N)) (b:=.node N) U C3 X Hn.out HS.out d6 d0.out c9.out b3.out R.sl (λh=>by have h1:=hT q h;have h2:y.drew.1.size=y.1.size:=rfl;have h3:y.drew.1.size<=q:=hq;omega);rw[AA I.out] at R1 R2;go_wp2;go_ret2;have BB:=V.trans (J.mono (by omega));have X3:=(Qz (S:=S) BB).trans R2 λk hk=>.inl hk
   exact⟨rfl,R1,X3,ht.turned X3 λh=>hG (u.sub _ h)⟩
section
variable {b:Nat}{w:WD}{d p:Nat}{S0 S T:NP}{D:DM}{P:Pl}
theorem qdb (H:Ql b w d p S0 S T D P)(E:1<b)(y:Tab w)(N:Nd)(A:OA)(n c:Nat)(B:OA)(m k:Nat)(q:∀w',Turn S w w'->J3 w' A n c N.items/\Zr w' B m k N.kids)(hn:n<=1000)(hm:m<=1000) :
  Calls prog 172 #[.pointer (some ⟨p,0,none⟩),.agg #[.int .i64 N.lvl,.slice A n c,.slice B m k]] w λe w'=>e=.returned (.tuple #[.int .i64 (P.Wi N),.int .i64 (P.Jt N)])/\Ql b w' d p S0 S T D (P.Js N)/\Turn S w w'/\Tab w':=by
 refine (qey H.pool (λk f=>(H.tight k f).2) (λh=>by have:=(H.tight _ h).1;omega) N A n c B m k q hn hm y).mono ?_;rintro e w' ⟨rfl,R,X,t⟩;have F:=X.size;exact⟨rfl,⟨H.Aq.keep λk f u=>X.block k f (H.apart k u),R,H.sub,H.apart,λk f=>⟨(H.tight k f).1,by have:=(H.tight k f).2;omega⟩⟩,X,t⟩
end
end
structure Oi (w:WD)(lim base vb mb tb:Nat)(most:Int)(tk:Kd)(A:OA)(acc:List Qc):Prop where
 var:∃t c,w.heap[vb]?=some (.cells #[.slice A acc.length c] t (0,0))/\Xe w lim A acc.length c acc/\∀k,q01 A=some k->base<=k
 many:∃t,w.heap[mb]?=some (.cells #[.int .i64 most] t (0,0))
 last:KB w tb tk
 Qdg:lim<=base
 lt:vb<base/\mb<base/\tb<base/\base<=w.heap.size/\mb≠vb/\tb≠vb
theorem Oi.below {w w':WD}{lim base vb mb tb:Nat}{most:Int}{tk:Kd}{A:OA}{acc:List Qc}(h:Oi w lim base vb mb tb most tk A acc)(hb:Below w.1.size w w'):Oi w' lim base vb mb tb most tk A acc:=by
 obtain⟨⟨t,c,h1,h2,f⟩,⟨E,q⟩,u,y,e⟩:=h;exact⟨⟨t,c,(hb.block vb (Ky h1)).trans h1,h2.below hb,f⟩,⟨E,(hb.block mb (Ky q)).trans q⟩,u.below hb u.lt,y,⟨e.1,e.2.1,e.2.2.1,AZ e.2.2.2.1 hb.size,e.2.2.2.2⟩⟩
theorem qCb {w:WD}{vb:Nat}{A:OA}{n c:Nat}{t:TypeId}(G:w.1[vb]?=some (.cells #[.slice A n c] t (0,0))){V:OA}{p q:Nat}{x:LU}(h:Sl w V p q x)(H:x≠[]):∀k,q01 V=some k->k≠vb:=λk f e=>by
 subst e;have F:0<x.length:=List.length_pos_iff.2 H;obtain⟨u,y,J,E⟩:=h.2.2.2 0 (bv x[0]) (by rw[BA,AC F];rfl);rw[y] at f;have f:u.block=k:=OI f;have h1:w.1[(u.add 0).block]?=some (.cells #[.slice A n c] t (0,0)):=by rw[q14,f];exact G
 have h2:=qjq h1 E;obtain⟨z,I⟩:∃z,(u.add 0).off=z:=⟨_,rfl⟩;rw[I] at h2;match z,h2 with
 |0,h2=>injection h2 with h2;cases h2
 |z+1,h2=>simp at h2
theorem qru {w w':WD}{base vb n c O c2:Nat}{A G:OA}{t:TypeId}{xs:List Qc}(h:Xe w base A n c xs)(K:w.1[vb]?=some (.cells #[.slice G O c2] t (0,0)))(I:∀k,q01 A=some k->k≠vb)(T:Turn (λk=>k=vb) w w'):Xe w' base A n c xs:=by
 obtain⟨E,h1,h2,H⟩:=h;refine⟨E,h1.turned T (λk f=>I k f),h2,λj r x J y=>?_⟩;obtain⟨V,p,q,e,F,u⟩:=H j r x J y;exact⟨V,p,q,e,F.turned' T (λy k f=>qCb K F y k f),u⟩
theorem qaz {w:WD}{lim base vb mb tb:Nat}{most:Int}{«to»:Kd}{A:OA}{f:List Qc}(h:Oi w lim base vb mb tb most «to» A f)(k:Kd)(r:Bool)(q:(decide ((f.length:Int)<most)&&!(«to».less k))=r) :
  Calls prog 32 #[.agg #[.int .i64 k.obj,.int .i64 k.kind,.int .i64 k.off],.pointer (some ⟨vb,0,none⟩),.pointer (some ⟨mb,0,none⟩),.pointer (some ⟨tb,0,none⟩)] w λe w'=>e=.returned (.bool r)/\Below w.1.size w w':=by
 obtain⟨E,u⟩:=Ws w k;have h1:=h.below u;obtain⟨⟨t,c,F,-⟩,⟨V,hm⟩,y,-,-⟩:=h1;have c0:=cell_of_one F;have c1:=cell_of_one hm;have J:=E.c0;have K:=E.c1;have O:=E.c2;have Q:=y.c0;have R:=y.c1;have U:=y.c2;clear F hm y h;by_cases hn:(f.length:Int)<most
 ·rw[AL hn,Bool.true_and] at q;have G:=HI (qna «to» k (w.alloc (.cells #[.int .i64 k.obj,.int .i64 k.kind,.int .i64 k.off] 45)));have H:=HI q;clear q;go_enter func32,ntmps32
  go_wp2_with fail
  refine G.out.mono ?_;rintro e W ⟨rfl,I⟩;go_wp2_with fail
  go_ret;exact⟨by rw[<-H.out];rfl,u.trans (I.mono u.size)⟩
 ·rw[AH hn,Bool.false_and] at q;subst q;go_enter func32,ntmps32
  go_wp2_with fail
  go_ret;exact⟨rfl,u⟩
theorem qrv {w:WD}{lim base vb mb tb:Nat}{most:Int}{«to»:Kd}{A:OA}{f:List Qc}(h:Oi w lim base vb mb tb most «to» A f)(x:Qc)(V:OA)(p q:Nat)(hs:Sl w V p q x.v)(hV:x.v≠[]->∀g,q01 V=some g->lim<=g/\q01 A≠some g)(hn:f.length<=100000) :
  Calls prog 35 #[.agg #[.int .i64 x.k.obj,.int .i64 x.k.kind,.int .i64 x.k.off,.slice V p q],.pointer (some ⟨vb,0,none⟩)] w λe w'=>e=.returned (.tuple #[])/\∃K,Oi w' lim base vb mb tb most «to» K (f++[x])/\Turn (λk=>k=vb\/q01 A=some k) w w'/\∀k,q01 K=some k->q01 A=some k\/w.1.size<=k:=by
 have O:Below w.1.size w ((w.alloc (.cells #[.int .i64 x.k.obj,.int .i64 x.k.kind,.int .i64 x.k.off,.slice V p q] 50)).alloc (.cells #[.int .i64 x.k.obj,.int .i64 x.k.kind,.int .i64 x.k.off,.slice V p q] 50)):=(Qi).alloc (by simp) _;have b0:Below w.1.size w (w.alloc (.cells #[.int .i64 x.k.obj,.int .i64 x.k.kind,.int .i64 x.k.off,.slice V p q] 50)):=Qi;have z1:((w.alloc (.cells #[.int .i64 x.k.obj,.int .i64 x.k.kind,.int .i64 x.k.off,.slice V p q] 50)).alloc (.cells #[.int .i64 x.k.obj,.int .i64 x.k.kind,.int .i64 x.k.off,.slice V p q] 50)).1.size=w.1.size+2:=by simp
 have u:(w.alloc (.cells #[.int .i64 x.k.obj,.int .i64 x.k.kind,.int .i64 x.k.off,.slice V p q] 50)).1[w.1.size]?=some (.cells #[.int .i64 x.k.obj,.int .i64 x.k.kind,.int .i64 x.k.off,.slice V p q] 50 (0,0)):=BE w _;have q0:(w.alloc (.cells #[.int .i64 x.k.obj,.int .i64 x.k.kind,.int .i64 x.k.off,.slice V p q] 50)).cell? ⟨w.1.size,0,none⟩=some (.int .i64 x.k.obj):=by rw[cell_of_row _ _ _ _ _ _ u];rfl
 have q1:(w.alloc (.cells #[.int .i64 x.k.obj,.int .i64 x.k.kind,.int .i64 x.k.off,.slice V p q] 50)).cell? ⟨w.1.size,1,none⟩=some (.int .i64 x.k.kind):=by rw[cell_of_row _ _ _ _ _ _ u];rfl
 have q2:(w.alloc (.cells #[.int .i64 x.k.obj,.int .i64 x.k.kind,.int .i64 x.k.off,.slice V p q] 50)).cell? ⟨w.1.size,2,none⟩=some (.int .i64 x.k.off):=by rw[cell_of_row _ _ _ _ _ _ u];rfl
 have q3:(w.alloc (.cells #[.int .i64 x.k.obj,.int .i64 x.k.kind,.int .i64 x.k.off,.slice V p q] 50)).cell? ⟨w.1.size,3,none⟩=some (.slice V p q):=by rw[cell_of_row _ _ _ _ _ _ u];rfl
 have H:Jp ((w.alloc (.cells #[.int .i64 x.k.obj,.int .i64 x.k.kind,.int .i64 x.k.off,.slice V p q] 50)).alloc (.cells #[.int .i64 x.k.obj,.int .i64 x.k.kind,.int .i64 x.k.off,.slice V p q] 50)) 4 (some ⟨w.1.size+1,0,none⟩) 1 1 [Vx x.k V p q]:=by
  have:=(q1n (w.alloc (.cells #[.int .i64 x.k.obj,.int .i64 x.k.kind,.int .i64 x.k.off,.slice V p q] 50)) 50 4 (Vx x.k V p q) _ rfl rfl).Gn (by omega);rwa [BH] at this
 obtain⟨⟨t,c,hv,row,G⟩,⟨t2,hm⟩,E,Y,⟨l1,l2,l3,l4,l5,l6⟩⟩:=h;have a7:=Ky hv;have b4:=Ky hm;have b3:=E.lt;have c0:=cell_of_one ((b0.block vb a7).trans hv);have a6:=(O.block vb a7).trans hv;have Z:=(O.block mb b4).trans hm;have W:=E.below O b3;have b2:=row.below O;have U:∀k,q01 A=some k->base<=k/\k<w.1.size:=λk y=>⟨G k y,(row.Qa k y).2⟩
 have b6:=hs.below O;clear row hv hm E hs u;go_enter func35,ntmps35
 go_wp2_with (first
  |(at_builtin;refine q63 rfl _ _ rfl lim A f.length c f rfl b2 (some ⟨w.1.size+1,0,none⟩) 1 x V p q rfl H b6 hV hn (by omega) ?_)
  |fail)
 intro K c6 w3 a8 Q I;have J:∀b,b<base->¬q01 A=some b:=λb hb h=>by have:=(U b h).1;omega
 have F:=(Q.block vb (by omega) (J vb l1)).trans a6;have h3:=cell_of_one F;have f3:=free_of_one F;have b5:∀k,q01 K=some k->k≠vb:=λk y e=>by
  rcases I with h|h
  ·rw[h] at y;have:=(U k y).1;omega
  ·rw[h] at y;have:=OI y;omega
 have R:Turn (λk=>k=vb) w3 (w3.setCell ⟨vb,0,none⟩ (.slice K (f.length+1) c6)):=Gw (a:=⟨vb,0,none⟩) _ rfl;have z3:=Q.size;have a1:=(Q.block mb (by omega) (J mb l2)).trans Z;have X:=W.keep (Q.block tb (by omega) (J tb l3));have a2:=Ky a1;clear c0 q0 q1 q2 q3 H Z W a6;go_wp2;go_end0
 have e:(f++[x]).length=f.length+1:=by simp
 refine⟨rfl,K,⟨⟨t,c6,by rw[e];exact one_setCell F,by rw[e];exact qru a8 F b5 R,λk y=>?_⟩,⟨t2,(R.block mb a2 l5).trans a1⟩,X.keep (R.block tb X.lt l6),Y,⟨l1,l2,l3,by have:=R.size;omega,l5,l6⟩⟩,((Qz (S:=λk=>k=vb\/q01 A=some k) O).trans Q (λk h=>.inl (.inr h))).trans R (λk h=>.inl (.inl h)),λk y=>?_⟩
 ·rcases I with h|h
  ·exact G k (h▸y)
  ·rw[h] at y;have:=OI y;omega
 ·rcases I with h|h
  ·exact .inl (h▸y)
  ·rw[h] at y;have:=OI y;exact .inr (by omega)
