/- What is laid down in the place of some kids of a node, and what that node is «to» have then -/
import Derived.Test.YtnjacafcocnicaaGreatDoorDv29
namespace Go.Proofs.YtnjacafcocnicaaGreatDoor
open Go Go.RowKit Go.Proofs
section
variable {D:DM}{S0:Sp}{C0:Ct}{O H H0:LI}{P:Pl}
theorem qf1 {R:Int->Nd × Int}{l:Nat}{N:Nd}{A B C:List Jc}(h:N=⟨((l+1:Nat):Int),[],(A++(B++C)).map Qr⟩)(f:∀x∈A,good1 R l x)(m:∀x∈C,good1 R l x):Outside R (l+1) N A.length (A.length+B.length) (A.map (·.2)) (C.map (·.2)):=by
 refine⟨⟨A,?_,rfl,f⟩,⟨C,?_,rfl,m⟩,by rw[h],by rw[AF],by rw[h];unfold Nd.size;simp[Nat.add_assoc],by omega⟩
 ·rw[h,q2j];simp
 ·rw[h,q2j];have e:(A++(B++C)).drop (A.length+B.length)=C:=by
   rw[<-AM,<-AD,List.drop_left]
  rw[e,AN];unfold Nd.size;simp only[List.length_nil,AF,AD];omega
theorem qoo {R R':Int->Nd × Int}{l:Nat}{N:Nd}{M:List (List Qc)}(G:Y7 R l N M)(h1:Qv (l:Int)<=M.length)(h2:M.length<=2*Qu (l:Int))(e:Ext R R'){m:LI}(f:m.length=(pieces N).length)(q:Gj R' (pieces N) m) :
  ∃T:List Jc,List.zipWith Ku (pieces N) m=T.map Qr/\(∀x∈T,good1 R' l x)/\(T.map (·.2)).flatten=M.flatten/\T.map (·.1)=m/\1<=T.length/\T.length<=2:=by
 have I:Qv (l:Int)*2=Qu (l:Int)/\3<=Qv (l:Int):=by unfold Qv Qu;split<;>omega
 rcases q8a G h2 with⟨p,_⟩|⟨J,k2,p,y⟩|⟨J,E,F,rfl,p,y,K,Q,U⟩
 ·rw[p] at h1;simp at h1;omega
 ·rw[p] at f q ⊢;match m,f with
  |[a],_=>
   obtain⟨j1,j2⟩:=q (N.cut 0 M.length,a) (List.mem_singleton.2 rfl);obtain⟨A,B⟩:=q3v y h1 e j1 j2;refine⟨[(a,M.flatten)],?_,λx u=>?_,by simp,rfl,by simp,by simp⟩
   ·show [Ku _ a]=_;rw[B];rfl
   ·rw[List.mem_singleton.1 u];exact A
  |[],f=>cases f
  |_::_::_,f=>cases f
 ·rw[p] at f q ⊢;match m,f with
  |[a1,a2],_=>
   obtain⟨V,X⟩:=q (_,a1) (AP ..);obtain⟨W,Y⟩:=q (_,a2) (AO _ (List.mem_singleton.2 rfl));obtain⟨A,B⟩:=q3v y Q e V X;obtain⟨Z,u2⟩:=q3v K U e W Y;refine⟨[(a1,E.flatten),(a2,F.flatten)],?_,λx u=>?_,by simp,rfl,by simp,by simp⟩
   ·show [Ku _ a1,Ku _ a2]=_;rw[B,u2];rfl
   ·rcases List.mem_cons.1 u with rfl|u
    ·exact A
    ·rw[List.mem_singleton.1 u];exact Z
  |[],f=>cases f
  |[_],f=>cases f
  |_::_::_::_,f=>cases f
structure Since (D:DM)(O O' H0:LI)(P P':Pl)(k:Nat):Prop where
 old:∀l a t,a∈H0->Qs (P.hide D O) l a t->Qs (P'.hide D O') l a t
 Pe:∀a,a∈H0->P.hide D O a=(Yk,0)->P'.hide D O' a=(Yk,0)
 free:P.C.free<=P'.C.free+k
 n:P'.C.n=P.C.n
theorem Since.trans {O' O'':LI}{P' P'':Pl}{k k':Nat}(h:Since D O O' H0 P P' k)(h2:Since D O' O'' H0 P' P'' k'):Since D O O'' H0 P P'' (k+k'):=
 ⟨λl a t e f=>h2.old l a t e (h.old l a t e f),λa e hd=>h2.Pe a e (h.Pe a e hd),by have:=h.free;have:=h2.free;omega,h2.n.trans h.n⟩
theorem Since.fin {O':LI}{P' P'':Pl}{k k':Nat}{r:Int}{its:List Qc}(h:Since D O O' H0 P P' k)(f:Qa1 D S0 C0 O' H0 P' P'' r its k'):Qa1 D S0 C0 O H0 P P'' r its (k+k'):=
 ⟨f.keep,f.tree,λl a t e m=>f.old l a t e (h.old l a t e m),λa e hd=>f.Pe a e (h.Pe a e hd),by have:=h.free;have:=f.free;omega,f.n.trans h.n⟩
theorem q5o {e:LI}{P':Pl}{l:Int}{k:Nat}(m:Move l D O e P P' k)(H0:LI):Since D O e H0 P P' k:=⟨λ_ _ _ _ f=>q10 m.ext f,λ_ _ hd=>q7p m.ext hd,m.free,m.n⟩
def Ko (s:Qy)(l i j:Nat):LI:=if s.shared=true then [] else if l=0 then (s.N.cut i j).named else []
structure F9 (D:DM)(S0:Sp)(C0:Ct)(O H H0:LI)(P:Pl)(l:Nat)(s:Qy)(way:List Qy)(L Rr:List Qc)(i j:Nat)(come:Nd)(ML Mc MR:List (List Qc)):Prop where
 keep:Keep D S0 C0 O H P
 spot:Zl P D O (l:Int) s
 up:Yr P D O l s way L Rr
 out:Outside (P.hide D O) l s.N i j ML MR
 Qai:Y7 (P.hide D O) l come Mc
 gone:(Ko s l i j).length<=1/\∀c∈Ko s l i j,P.hide D O c=(Yk,0)
 held:∀a:Nat,0<a->a<P.C.n->H.count (a:Int)=(own s++((if s.shared=true then [] else (Zp s i j).named)++(Ko s l i j++(come.named++Zj way H0)))).count (a:Int)
 dat:∀x∈(ML++(Mc++MR)).flatten,Dat (P.hide D O) x
 opens:∀y∈O,(s.shared=false/\y=s.addr)\/∃t∈way,t.shared=false/\y=t.addr
 rise:Qo (L++((ML++(Mc++MR)).flatten++Rr))
 fine:∀x∈L++((ML++(Mc++MR)).flatten++Rr),Zx x
 few:(L++((ML++(Mc++MR)).flatten++Rr)).length<=1000
 H0s:H0.length<=10000
 most:(ML++(Mc++MR)).length<=Qu (l:Int)+1
 least:way≠[]->Qv (l:Int)<=(ML++(Mc++MR)).length+1
 one:0<l->1<=(ML++(Mc++MR)).length
 high:l+way.length<=7
theorem qb5:∀{way:List Qy} {l:Nat} {s:Qy} {L Rr:List Qc},Yr P D O l s way L Rr->(Zj way H0).length<=H0.length+14*way.length
 |[],l,s,L,Rr,_=>by show H0.length<=_;omega
 |t::way,l,s,L,Rr,h=>by
  obtain⟨p,q,x,E,F,f,A,G,I,B,J,K,M,Q,m,u,y⟩:=h;have U:=qb5 m;have e:=(q0n B (by rw[f];show ¬((l+1:Nat):Int)=0;omega)).2.2.2.2.1;rw[f] at e;have e:((p++x::q).map Qr).length<=12:=e;simp only[AF,AD,AX] at e;have R:(own t).length<=1:=by unfold own;split<;>simp
  have T:(if t.shared=true then [] else (Zp t t.next (t.next+1)).named).length<=12:=by
   split
   ·simp
   ·rw[q2k f A,AD,AF,AF];omega
  show (own t++((if t.shared=true then [] else (Zp t t.next (t.next+1)).named)++Zj way H0)).length<=_;rw[AD,AD,AX];omega
theorem qhb (s:Qy)(i j:Nat)(e:Nd)(a:Int):(Yg s i j e).named.count a=(Zp s i j).named.count a+e.named.count a:=by
 unfold Yg Zp;rw[q5m,q5m];simp only[BJ,List.map_nil,List.sum_cons,List.sum_nil];omega
theorem qop {O:LI}{c:Int}(h:c∉O):less1 (c::O) c=O:=by
 unfold less1;rw[List.filter_cons_of_neg (by simp)];exact List.filter_eq_self.2 λx f=>by
  have:x≠c:=λe=>h (e▸f)
  simpa using this
theorem qm4 {R:Int->Nd × Int}{l:Nat}{a c:Int}{t:List Qc}(h:Qs R l a t)(hd:R c=(Yk,0)):a≠c:=λe=>by
 have h1:=(Fz h).2.1;rw[e,hd] at h1;have h2:(-1:Int)=(l:Int):=h1;omega
theorem qm5:∀(way:List Qy) {a:Int},a∈H0->a∈Zj way H0
 |[],_,h=>h
 |_::way,_,h=>AU _ (AU _ (qm5 way h))
theorem qsa (K:Keep D S0 C0 O H P){s:Qy}{way:List Qy}{L Rr:List Qc}(Y:Zl P D O ((0:Nat):Int) s)(u:Yr P D O 0 s way L Rr)(y:s.shared=false){c:Int}(hd:P.hide D O c=(Yk,0)){X:LI}
  (G:∀a:Nat,0<a->a<P.C.n->H.count (a:Int)=(c::X).count (a:Int)) (W:∀a∈Zj way H0,a∈X) :
  P.C.Jw c=0/\Keep D S0 C0 O X ⟨P.S,P.C.Qw c,P.L⟩/\Zl ⟨P.S,P.C.Qw c,P.L⟩ D O ((0:Nat):Int) s/\Yr ⟨P.S,P.C.Qw c,P.L⟩ D O 0 s way L Rr/\Since D O O H0 P ⟨P.S,P.C.Qw c,P.L⟩ 0/\
   ∀x,Dat (P.hide D O) x->(∀d,Vz x=some d->d∈X)->Dat (Pl.hide ⟨P.S,P.C.Qw c,P.L⟩ D O) x:=by
 obtain⟨T,n,rfl,hn,h0⟩:=q3g (P:=P) (D:=D) (O:=O) (x:=c) (by rw[hd]);have V:P.Qh D (n:Int)≠0:=by
  rw[q24 T] at hd;exact (qfw K.Zo hd).2
 have a1:(P.Qd D (n:Int)).lvl=0:=by rw[qay V];rfl
 obtain⟨c0,_⟩:=K.first h0
 have m:(n:Int)∈H:=List.count_pos_iff.1 (by rw[G n c0 hn,List.count_cons];simp);obtain⟨m1,m2,m3,m4⟩:=Y.mine y;have p:s.addr≠(n:Int):=λe=>V (by rw[<-e];exact m4)
 have M:=q9w u m1;have other:∀x:Int,x≠(n:Int)->(P.C.Qw (n:Int)).get x=P.C.get x/\Pl.store ⟨P.S,P.C.Qw (n:Int),P.L⟩ D x=P.store D x:=λx p=>by
  rw[(qa5 h0).2];exact qcd p
 have A:Zl ⟨P.S,P.C.Qw (n:Int),P.L⟩ D O ((0:Nat):Int) s:=Y.other (s:=⟨Je,(n:Int),0,false,false⟩) (.inr p) (λx E=>other x E) λ_ _=>Iff.rfl
 by_cases h1:P.C.get (n:Int)=1
 ·have I:=K.open_ h1 m T;rw[q8z hd,BG] at I;obtain⟨J,F,U⟩:=I.drop (H0:=X) (AP ..) G;have f:=U 0 (by omega);rw[qop T] at F f;have q:(n:Int)∉X:=λhm=>by
   have h2:=(K.once h1 m).1;rw[G n c0 hn,List.count_cons] at h2;have:=List.count_pos_iff.2 hm;simp at h2;omega
  have B:=u.open_ K h1 m M y (H0:=H0) (λhm=>q (W _ hm));refine⟨J,F,A,B.ext I f.ext f.above (AE _),⟨λl a t _ Z=>q10 f.ext (q41 K h1 m l a t (qm4 Z hd) Z),λa ha Q=>q7p f.ext ((q1d λe:a=(n:Int)=>q (W _ (e▸qm5 way ha))).trans Q),by have:=f.free;omega,f.n⟩,λx E R=>(qne E λe=>q (R _ e)).ext f.ext⟩
 ·have h2:2<=P.C.get (n:Int):=by
   have:=K.nonneg (n:Int);omega
  obtain⟨J,F,U⟩:=K.Qw (H0:=X) h2 G;have f:=U 0 (by omega);exact⟨J,F,A,u.ext K f.ext f.above (AE _),q5o f H0,λx E _=>E.ext f.ext⟩
theorem qdh {l:Nat}{s:Qy}{way:List Qy}{L Rr:List Qc}{i j:Nat}{f:Nd}{J M K:List (List Qc)}(h:F9 D S0 C0 O H H0 P l s way L Rr i j f J M K) :
  ∃u,P.Q9 s i j=some u/\Keep D S0 C0 O (own s++((Yg s i j f).named++Zj way H0)) u/\Y7 (u.hide D O) l (Yg s i j f) (J++(M++K))/\Zl u D O (l:Int) s/\Yr u D O l s way L Rr/\Since D O O H0 P u 0/\∀x∈(J++(M++K)).flatten,Dat (u.hide D O) x:=by
 have F:∀x∈(J++K).flatten,Dat (P.hide D O) x:=λx q=>h.dat x (by
  simp only[List.flatten_append,List.mem_append] at q ⊢;rcases q with h|h
  ·exact .inl h
  ·exact .inr (.inr h))
 have V:∀x∈M.flatten,Dat (P.hide D O) x:=λx q=>h.dat x (by
  simp only[List.flatten_append,List.mem_append];exact .inr (.inl q))
 have a2:Qu (l:Int)<=12:=by unfold Qu;split<;>omega
 have Z:=h.most;simp only[AD] at Z;have A:=h.keep.perm λa h1 h2=>(h.held a h1 h2).symm
 have n1:=(q9v (qlx h.out) F).2;have n2:=(q9v h.Qai V).2;have n3:=qb5 (H0:=H0) h.up;have n4:(own s).length<=1:=by unfold own;split<;>simp
 have n5:=h.high;have n6:=h.H0s;have R:=h.gone.1;rw[AD] at n1;by_cases y:Ko s l i j=[]
 ·rw[y,BG] at A;obtain⟨u,E,T,B⟩:=q98 A h.out F (λh1 h2=>by
   unfold Ko at y;rw[h1,AB (by decide),AA h2] at y;exact y) (by omega) (by
   have R:(if s.shared=true then [] else (Zp s i j).named).length<=(Zp s i j).named.length:=by
    split
    ·exact AW _
    ·exact AE _
   rw[AD,AD,AD];omega)
  refine⟨u,E,T.perm λa _ _=>?_,qrw (qs0 h.out h.Qai) (B 0).ext,h.spot.above A (B ((l:Int)-1)).above (by omega),h.up.ext A (B (l:Int)).ext (B (l:Int)).above (AE _),q5o (B 0) H0,λx q=>(h.dat x q).ext (B 0).ext⟩;simp only[A_,qhb];by_cases Q:s.shared=true
  ·rw[AA Q,AA Q];simp only[List.count_nil];omega
  ·rw[AB Q,AB Q];simp only[List.count_nil];omega
 ·obtain⟨c,m⟩:∃c,Ko s l i j=[c]:=by
   match Ko s l i j,y,R with
   |[c],_,_=>exact⟨c,rfl⟩
   |[],y,_=>exact absurd rfl y
   |_::_::_,_,R=>simp at R
  have p:s.shared=false:=by
   cases e:s.shared with
   |false=>rfl
   |true=>unfold Ko at m;rw[e,AA rfl] at m;cases m
  have hl:l=0:=by
   refine Classical.byContradiction λe=>?_
   unfold Ko at m;rw[p,AB (by decide),AB e] at m
   cases m
  subst hl;have hcut:(s.N.cut i j).named=[c]:=by
   unfold Ko at m;rw[p,AB (by decide),AA rfl] at m;exact m
  have hd:=h.gone.2 c (by rw[m];exact List.mem_singleton.2 rfl);rw[m,p,AB (by decide)] at A;obtain⟨e0,T,Y,a1,I,G⟩:=qsa (H0:=H0) (X:=own s++((Yg s i j f).named++Zj way H0)) A h.spot h.up p hd (λa _ _=>by
   simp only[A_,List.count_cons,List.count_nil,qhb];omega) (λa ha=>AU _ (AU _ ha))
  have hB:=qs0 h.out h.Qai;refine⟨_,?_,T,?_,Y,a1,I,λx q=>G x (h.dat x q) λd W=>?_⟩
  ·unfold Pl.Q9;rw[p,AB (by decide),h.out.lvl,AB (by decide),hcut];show (if P.C.Jw c=0 then _ else none)=_;rw[AA e0];rfl
  ·obtain⟨its,E,U⟩:=hB;exact⟨its,E,U⟩
  ·obtain⟨its,E,U⟩:=hB;rw[U,Sz] at q;refine AU _ (List.mem_append_left _ ?_);rw[E];exact AU _ (List.mem_filterMap.2 ⟨x,q,W⟩)
theorem qm6 (K:Keep D S0 C0 O H P){l:Nat}{t:Qy}{way:List Qy}{L' R':List Qc}{N:Nd}{M:List (List Qc)}{olds:List Qy}{A B C:List Jc}
  (hb:Y7 (P.hide D O) l N M) (h1:Qv (l:Int)<=M.length) (h2:M.length<=2*Qu (l:Int)) (hs:∀s∈olds,Zl P D O (l:Int) s) (hd:olds.Pairwise λs o=>o.held=true\/o.addr≠s.addr)
  (hG:t.N=⟨((l+1:Nat):Int),[],(A++(B++C)).map Qr⟩) (hA:∀x∈A,good1 (P.hide D O) l x) (hC:∀x∈C,good1 (P.hide D O) l x) (ht:Zl P D O ((l+1:Nat):Int) t) (b3:Yr P D O (l+1) t way L' R')
  (hH:∀a:Nat,0<a->a<P.C.n->H.count (a:Int)=(olds.flatMap own++(N.named++(own t++((if t.shared=true then [] else A.map (·.1)++C.map (·.1))++Zj way H0)))).count (a:Int))
  (hO:∀y∈O,(∃s∈olds,s.shared=false/\y=s.addr)\/(t.shared=false/\y=t.addr)\/∃t'∈way,t'.shared=false/\y=t'.addr)
  (hB:1<=B.length/\B.length<=2) (hm:A.length+B.length+C.length<=12) (b5:2<=A.length+B.length+C.length) (b0:way≠[]->6<=A.length+B.length+C.length)
  (hr:Qo ((L'++rowOf A)++(M.flatten++(rowOf C++R')))) (hf:∀x∈(L'++rowOf A)++(M.flatten++(rowOf C++R')),Zx x) (a1:((L'++rowOf A)++(M.flatten++(rowOf C++R'))).length<=1000) (m:∀x∈M.flatten,Dat (P.hide D O) x) (a6:H0.length<=10000) (hi:l+1+way.length<=7) :
  (∃q ks I H3 Mc,P.Wl ⟨N,olds,A.length,A.length+B.length⟩=some (q,some ks)/\F9 D S0 C0 I H3 H0 q (l+1) t way L' R' A.length (A.length+B.length) ⟨N.lvl+1,[],ks⟩ (A.map (·.2)) Mc (C.map (·.2))/\Since D O I H0 P q 2/\
   L'++((A.map (·.2)++(Mc++C.map (·.2))).flatten++R')=(L'++rowOf A)++(M.flatten++(rowOf C++R')))\/(∃q,P.Wl ⟨N,olds,A.length,A.length+B.length⟩=some (q,none)/\P.C.free<2):=by
 have b4:Qv (l:Int)*2=Qu (l:Int)/\3<=Qv (l:Int):=by unfold Qv Qu;split<;>omega
 have J:∀x∈M.flatten,Zx x:=λx f=>hf x (AU _ (List.mem_append_left _ f))
 have U:Qo M.flatten:=(Pm (Pm hr).2).1;have b1:=q99 hb h2;have a2:=q8a hb h2;have W:∀p∈pieces N,Fits (P.hide D O) p:=λp R=>by
  rcases a2 with⟨_,e⟩|⟨k1,k2,e,k3⟩|⟨k1,M1,M2,rfl,e,k3,k4,k5,k6⟩
  ·rw[e] at R;cases R
  ·rw[e,AQ] at R;rw[R];exact k3.fits (by omega) (λ_=>by omega) U J m
  ·rw[List.flatten_append] at U J m;rw[e] at R;rcases List.mem_cons.1 R with rfl|R
   ·exact k3.fits (by omega) (λ_=>by omega) (Pm U).1 (λx f=>J x (List.mem_append_left _ f)) λx f=>m x (List.mem_append_left _ f)
   ·rw[AQ] at R;rw[R];exact k4.fits (by omega) (λ_=>by omega) (Pm U).2 (λx f=>J x (AU _ f)) λx f=>m x (AU _ f)
 have Z:(pieces N).length<=2:=by
  rcases a2 with⟨_,e⟩|⟨k1,k2,e,k3⟩|⟨k1,M1,M2,_,e,k3,k4,k5,k6⟩<;>rw[e]<;>simp
 rcases qlz (l:=(l:Int)) K ⟨N,olds,A.length,A.length+B.length⟩ (own t++((if t.shared=true then [] else A.map (·.1)++C.map (·.1))++Zj way H0)) hs hd W (λa h1 h2=>by
   rw[hH a h1 h2,b1]) with⟨q,I,az,g1,V,K3,F,gO,gl⟩|⟨q,g1,V⟩
 ·left
  have g1:az.length=(pieces N).length:=g1;have gl:Gj (q.hide D I) (pieces N) az:=gl;have F:Move (l:Int) D O I P q (pieces N).length:=F;obtain⟨T,t1,t2,t3,t4,t5,t6⟩:=qoo hb h1 h2 F.ext g1 gl;have V:P.Wl ⟨N,olds,A.length,A.length+B.length⟩=some (q,some (List.zipWith Ku (pieces N) az)):=V;rw[t1] at V;have a7:=q4t hb;have eN:(⟨N.lvl+1,[],T.map Qr⟩:Nd)=⟨((l+1:Nat):Int),[],T.map Qr⟩:=by rw[a7];rfl
  have u:L'++((A.map (·.2)++(T.map (·.2)++C.map (·.2))).flatten++R')=(L'++rowOf A)++(M.flatten++(rowOf C++R')):=by
   rw[List.flatten_append,List.flatten_append,t3];unfold rowOf;simp only[AM]
  have a8:Move (l:Int) D O I P q 2:=F.more Z;have X:Ko t (l+1) A.length (A.length+B.length)=[]:=by
   unfold Ko;split
   ·rfl
   ·rfl
  have Y:Qu ((l+1:Nat):Int)=12:=AB (by omega);have Q:Qv ((l+1:Nat):Int)=6:=AB (by omega);refine⟨q,_,I,az++(own t++((if t.shared=true then [] else A.map (·.1)++C.map (·.1))++Zj way H0)),T.map (·.2),V,?_,q5o a8 H0,u⟩;rw[eN];refine⟨K3,ht.above K F.above (by omega),b3.ext K F.ext F.above (by omega),qf1 hG (λx f=>q2i (hA x f) F.ext) (λx f=>q2i (hC x f) F.ext),⟨T,rfl,rfl,t2⟩,⟨by rw[X];exact AW _,λc hc=>by rw[X] at hc;cases hc⟩,λa _ _=>?_,λx f=>?_,λy hy=>?_,by rw[u];exact hr,by rw[u];exact hf,by rw[u];exact a1,a6,?_,λhw=>?_,λ_=>?_,hi⟩
  ·have e1:(Zp t A.length (A.length+B.length)).named=A.map (·.1)++C.map (·.1):=by
    rw[q89 hG,q13,List.take_left,<-AM,<-AD,List.drop_left,List.map_append]
   rw[e1,q13,t4,X];simp only[A_];split<;>simp only[A_,List.count_nil]<;>omega
  ·obtain⟨r,b2,f⟩:=List.mem_flatten.1 f;have E:∀G:List Jc,(∀x∈G,good1 (q.hide D I) l x)->r∈G.map (·.2)->Dat (q.hide D I) x:=λG hG hm=>by
    obtain⟨y,hy,rfl⟩:=List.mem_map.1 hm;exact K3.dat l _ _ (hG y hy).1 x f
   rcases List.mem_append.1 b2 with h|h
   ·exact E A (λx f=>q2i (hA x f) F.ext) h
   ·rcases List.mem_append.1 h with h|h
    ·exact E T t2 h
    ·exact E C (λx f=>q2i (hC x f) F.ext) h
  ·obtain⟨j1,j2⟩:=gO y hy;rcases hO y j1 with⟨s,k1,k2,k3⟩|h|h
   ·exact absurd k3 (j2 s k1 k2)
   ·exact .inl h
   ·exact .inr h
  ·rw[Y];simp only[AD,AF];omega
  ·rw[Q];have:=b0 hw;simp only[AD,AF];omega
  ·simp only[AD,AF];omega
 ·right
  have V:P.C.free<(pieces N).length:=V;exact⟨q,g1,by omega⟩
end
section
variable {D:DM}{S0:Sp}{C0:Ct}{O H H0:LI}{P:Pl}
theorem qsb {R:Int->Nd × Int}{l:Nat}{N:Nd}{M:List (List Qc)}(m:Y7 R l N M){y:Jc}(q:Qs R l y.1 y.2):y.1∉N.kids.map (·.a):=by
 cases l with
 |zero=>
  obtain⟨its,rfl,_⟩:=m;simp
 |succ l=>
  obtain⟨G,rfl,_,p⟩:=m;intro h;obtain⟨z,u,e⟩:=List.mem_map.1 h;obtain⟨g,f,rfl⟩:=List.mem_map.1 u;have h1:=(Fz (p g f).1).2.1;have h2:=(Fz q).2.1;have e:g.1=y.1:=e;rw[e] at h1;omega
theorem q4x {a:Int}{X:LI}(h:X.count a=0):a∉X:=λhm=>by
 have:=List.count_pos_iff.2 hm;omega
theorem q9x (left:Bool){l:Nat}{s t:Qy}{way:List Qy}{L' R':List Qc}{b:Nd}{M:List (List Qc)}{A C:List Jc}{x y:Jc}(K:Keep D S0 C0 O (own s++(b.named++Zj (t::way) H0)) P)(c6:H0.length<=10000)(hi:l+1+way.length<=7)
  (hG:t.N=⟨((l+1:Nat):Int),[],(A++((if left=true then [y,x] else [x,y])++C)).map Qr⟩) (hn:t.next=A.length+if left=true then 1 else 0) (d8:s.held=t.shared) (hm:A.length+2+C.length<=12) (c7:way≠[]->6<=A.length+2+C.length)
  (hA:∀z∈A,good1 (P.hide D O) l z) (hC:∀z∈C,good1 (P.hide D O) l z) (hy:good1 (P.hide D O) l y) (a2:y.1≠s.addr) (ht:Zl P D O ((l+1:Nat):Int) t) (hs:Zl P D O (l:Int) s) (b8:Yr P D O (l+1) t way L' R')
  (hb:Y7 (P.hide D O) l b M) (d2:Qv (l:Int)<=M.length+1) (d3:M.length<Qv (l:Int))
  (hO:∀z∈O,(s.shared=false/\z=s.addr)\/(t.shared=false/\z=t.addr)\/∃t'∈way,t'.shared=false/\z=t'.addr)
  (hr:Qo ((L'++rowOf A)++((if left=true then y.2++M.flatten else M.flatten++y.2)++(rowOf C++R')))) (hf:∀z∈(L'++rowOf A)++((if left=true then y.2++M.flatten else M.flatten++y.2)++(rowOf C++R')),Zx z) (b4:((L'++rowOf A)++((if left=true then y.2++M.flatten else M.flatten++y.2)++(rowOf C++R'))).length<=1000) (b3:∀z∈M.flatten,Dat (P.hide D O) z) :
  ∃p F m,P.near D t (if left=true then t.next-1 else t.next+1)=some p/\m=P.Jk D t (if left=true then t.next-1 else t.next+1)/\m.N.lvl=(l:Int)/\Since D O F H0 P p 0/\
   ((∃P3 ks O3 H3 Mc,p.Wl ⟨Jb (l:Int) (if left=true then [m.N,b] else [b,m.N]),(if left=true then [m,s] else [s,m]),A.length,A.length+2⟩=some (P3,some ks)/\F9 D S0 C0 O3 H3 H0 P3 (l+1) t way L' R' A.length (A.length+2) ⟨(l:Int)+1,[],ks⟩ (A.map (·.2)) Mc (C.map (·.2))/\Since D F O3 H0 p P3 2/\
   L'++((A.map (·.2)++(Mc++C.map (·.2))).flatten++R')=(L'++rowOf A)++((if left=true then y.2++M.flatten else M.flatten++y.2)++(rowOf C++R')))\/(∃P3,p.Wl ⟨Jb (l:Int) (if left=true then [m.N,b] else [b,m.N]),(if left=true then [m,s] else [s,m]),A.length,A.length+2⟩=some (P3,none)/\p.C.free<2)):=by
 have d6:Qv (l:Int)*2=Qu (l:Int)/\3<=Qv (l:Int)/\Qu (l:Int)<=12:=by unfold Qv Qu;split<;>omega
 have d5:∀z∈y.2,Zx z:=λz f=>hf z (by
  refine AU _ (List.mem_append_left _ ?_);split
  ·exact List.mem_append_left _ f
  ·exact AU _ f)
 have d4:∀z∈M.flatten,Zx z:=λz f=>hf z (by
  refine AU _ (List.mem_append_left _ ?_);split
  ·exact AU _ f
  ·exact List.mem_append_left _ f)
 have hq:(A++((if left=true then [y,x] else [x,y])++C))[if left=true then t.next-1 else t.next+1]?=some y:=by
  rw[hn]
  cases left
  ·simp
  ·simp
 have J:∀a,(Zp t t.next (t.next+1)).named.count a=(A.map (·.1)).count a + [y.1].count a+(C.map (·.1)).count a:=λa=>by
  cases left
  ·have e:=q2k (l:=l) (GL:=A) (GR:=y::C) (x:=x) (by rw[hG];simp) (by rw[hn];rfl);rw[e];simp only[BJ,A_,List.count_cons,List.count_nil];omega
  ·have e:=q2k (l:=l) (GL:=A++[y]) (GR:=C) (x:=x) (by rw[hG];simp) (by rw[hn];simp);rw[e];simp only[List.map_append,BJ,List.map_nil,A_,List.count_cons,List.count_nil]
 have b7:∀a,(Zj (t::way) H0).count a=(own t).count a+((if t.shared=true then [] else (Zp t t.next (t.next+1)).named).count a+(Zj way H0).count a):=λa=>by
  show (own t++((if t.shared=true then [] else (Zp t t.next (t.next+1)).named)++Zj way H0)).count a=_;rw[A_,A_]
 have X:t.shared=false->∀a,(own s++(b.named++Zj (t::way) H0)).count a=(own s).count a+(b.named.count a+((own t).count a+(((A.map (·.1)).count a + [y.1].count a+(C.map (·.1)).count a)+(Zj way H0).count a))):=λh a=>by
  rw[A_,A_,b7,h,AB (by decide),J]
 have Z:([y.1]:LI).count y.1=1:=by simp
 have Y:t.shared=false->y.1∈own s++(b.named++Zj (t::way) H0):=λh=>by
  refine List.count_pos_iff.1 ?_;rw[X h,Z];omega
 have q:t.shared=false->(own s++(b.named++Zj (t::way) H0)).count y.1=1->y.1∉A.map (·.1)/\y.1∉C.map (·.1)/\y.1∉Zj way H0/\y.1∉own t:=λh h1=>by
  rw[X h,Z] at h1;exact⟨q4x (by omega),q4x (by omega),q4x (by omega),q4x (by omega)⟩
 obtain⟨_,n,en,_,d1⟩:=q3g (Fz hy.1).2.2;have a6:t.shared=false->P.C.get y.1=1->(own s++(b.named++Zj (t::way) H0)).count y.1=1:=λh h1=>by
  have:=Y h;rw[en] at this h1 ⊢;exact (K.once h1 this).1
 have n3:=qb5 (H0:=H0) b8;have n4:(own s).length<=1:=by unfold own;split<;>simp
 have n5:=(q9v hb b3).2;have n6:(own t).length<=1:=by unfold own;split<;>simp
 have n7:(Zp t t.next (t.next+1)).named.length<=12:=by
  cases left
  ·have e:=q2k (l:=l) (GL:=A) (GR:=y::C) (x:=x) (by rw[hG];simp) (by rw[hn];rfl);rw[e];simp;omega
  ·have e:=q2k (l:=l) (GL:=A++[y]) (GR:=C) (x:=x) (by rw[hG];simp) (by rw[hn];simp);rw[e];simp;omega
 have b5:(own s++(b.named++Zj (t::way) H0)).length<=20000:=by
  have e:(Zj (t::way) H0).length<=1+(12+(Zj way H0).length):=by
   show (own t++((if t.shared=true then [] else (Zp t t.next (t.next+1)).named)++Zj way H0)).length<=_;rw[AD,AD];split
   ·rw[List.length_nil];omega
   ·omega
  rw[AD,AD];omega
 obtain⟨p,F,E,e1,NB,a1,u,b0,b1,b6⟩:=qs5 K (H0:=H0) hG hq hy ht hs a2 b8 b5 (λh1 h2=>by
  obtain⟨_,_,j3,j4⟩:=q h1 (a6 h1 h2);refine⟨Y h1,j3,λe=>j4 ?_⟩;unfold own;rw[(ht.mine h1).1,AB (by decide),e];exact List.mem_singleton.2 rfl)
 generalize d7:P.Jk D t (if left=true then t.next-1 else t.next+1)=m at e1 NB a1 u b0 b1 b6;have I:∀z∈A++C,good1 (P.hide D O) l z->good1 (p.hide D F) l z:=λz f hg=>by
  rcases NB.once with⟨j1,_,j3,j4⟩|⟨_,j2⟩
  ·obtain⟨i1,i2,_,_⟩:=q j4 j3;refine NB.near.good (λe=>?_) hg;rcases List.mem_append.1 f with h|h
   ·exact i1 (e▸List.mem_map_of_mem h)
   ·exact i2 (e▸List.mem_map_of_mem h)
  ·exact q2i hg j2
 have b2:Y7 (p.hide D F) l b M:=NB.near.Iw (qsb hb hy.1) hb;have W:Since D O F H0 P p 0:=⟨λl a its ha V=>by
  rcases NB.once with⟨j1,_,j3,j4⟩|⟨_,j2⟩
  ·obtain⟨_,_,i3,_⟩:=q j4 j3;exact NB.near.tree l a its (λe=>i3 (e▸restH_sub way ha)) V
  ·exact q10 j2 V,λa _ hd=>by
  obtain⟨_,n,rfl,hn,_⟩:=q3g (P:=P) (D:=D) (O:=O) (x:=a) (by rw[hd]);have hc:=K.c.1.2;exact qy7 (by omega) (λx hx=>NB.near.dat (by rw[(Fz hy.1).2.1];exact Int.natCast_nonneg l) hx) hd,by have:=NB.free;omega,NB.n⟩
 have b9:0<=(P.hide D O y.1).1.lvl:=by rw[(Fz hy.1).2.1];exact Int.natCast_nonneg l
 have T:∀z∈(E++M).flatten,Dat (p.hide D F) z:=λz f=>by
  rw[List.flatten_append,u] at f;rcases List.mem_append.1 f with h|h
  ·exact NB.near.dat b9 (K.dat l _ _ hy.1 z h)
  ·exact NB.near.dat b9 (b3 z h)
 have hJ:Y7 (p.hide D F) l (Jb (l:Int) (if left=true then [m.N,b] else [b,m.N])) (if left=true then E++M else M++E):=by
  cases left
  ·have:=q78 (R:=p.hide D F) (l:=l) [(b,M),(m.N,E)] (λz f=>by
    rcases List.mem_cons.1 f with rfl|f
    ·exact b2
    ·rw[List.mem_singleton.1 f];exact a1)
   simpa using this
  ·have:=q78 (R:=p.hide D F) (l:=l) [(m.N,E),(b,M)] (λz f=>by
    rcases List.mem_cons.1 f with rfl|f
    ·exact a1
    ·rw[List.mem_singleton.1 f];exact b2)
   simpa using this
 have e0:∀z∈(if left=true then E++M else M++E).flatten,Dat (p.hide D F) z:=λz f=>T z (by
  rw[List.flatten_append];split at f
  ·rw[List.flatten_append] at f;exact f
  ·rw[List.flatten_append] at f;rcases List.mem_append.1 f with h|h
   ·exact AU _ h
   ·exact List.mem_append_left _ h)
 have c8:∀a,(Jb (l:Int) (if left=true then [m.N,b] else [b,m.N])).named.count a=m.N.named.count a+b.named.count a:=λa=>by
  rw[q5m]
  cases left
  ·simp only[Bool.false_eq_true,if_false,BJ,List.map_nil,List.sum_cons,List.sum_nil];omega
  ·simp only[if_true,BJ,List.map_nil,List.sum_cons,List.sum_nil];omega
 have U:(if left=true then E++M else M++E).flatten=if left=true then y.2++M.flatten else M.flatten++y.2:=by
  cases left
  ·simp[u]
  ·simp[u]
 have a8:(if left=true then E++M else M++E).length=E.length+M.length:=by
  cases left
  ·simp[Nat.add_comm]
  ·simp
 have G:(if left=true then [y,x] else [x,y]).length=2:=by cases left<;>rfl
 have a7:(own m).count=λa=>if t.shared=true then 0 else [y.1].count a:=by
  funext a
  unfold own;rw[NB.held,NB.addr];split<;>simp
 have Q:=qm6 (H0:=H0) NB.keep (l:=l) (t:=t) (way:=way) (L':=L') (R':=R') (olds:=if left=true then [m,s] else [s,m]) (A:=A) (B:=if left=true then [y,x] else [x,y]) (C:=C) hJ (by rw[a8];omega) (by rw[a8];omega)
  (λz f=>by
   have:z=m\/z=s:=by
    split at f
    ·rcases List.mem_cons.1 f with h|h
     ·exact .inl h
     ·exact .inr (List.mem_singleton.1 h)
    ·rcases List.mem_cons.1 f with h|h
     ·exact .inr h
     ·exact .inl (List.mem_singleton.1 h)
   rcases this with rfl|rfl
   ·exact NB.nbk
   ·exact NB.sk)
  (by
   split
   ·exact List.pairwise_cons.2 ⟨λz f=>by rw[List.mem_singleton.1 f];exact .inr (by rw[NB.addr];exact λe=>a2 e.symm),List.pairwise_singleton _ _⟩
   ·exact List.pairwise_cons.2 ⟨λz f=>by rw[List.mem_singleton.1 f];exact .inr (by rw[NB.addr];exact a2),List.pairwise_singleton _ _⟩)
  hG (λz f=>I z (List.mem_append_left _ f) (hA z f)) (λz f=>I z (AU _ f) (hC z f)) NB.tk NB.up (λa _ _=>by
   have ho:((if left=true then [m,s] else [s,m]).flatMap own).count (a:Int)=(own m).count (a:Int)+(own s).count (a:Int):=by
    cases left
    ·simp[List.count_append,Nat.add_comm]
    ·simp[List.count_append]
   have c9:(own m).count (a:Int)=if t.shared=true then 0 else [y.1].count (a:Int):=congrFun a7 (a:Int)
   simp only[A_,ho,c9,c8,b7];by_cases V:t.shared=true
   ·rw[AA V,AA V,AA V];omega
   ·rw[AB V,AB V,AB V,J,A_];omega)
  (λz f=>by
   have d0:z=y.1/\m.shared=false\/z∈O:=by
    rcases NB.once with⟨j1,j2,_⟩|⟨j1,_⟩
    ·rw[j1] at f;rcases List.mem_cons.1 f with h|h
     ·exact .inl ⟨h,j2⟩
     ·exact .inr h
    ·rw[j1] at f;exact .inr f
   rcases d0 with⟨h1,h2⟩|h
   ·exact .inl ⟨m,by split<;>simp,h2,by rw[NB.addr];exact h1⟩
   ·rcases hO z h with⟨h1,h2⟩|h
    ·exact .inl ⟨s,by split<;>simp,h1,h2⟩
    ·exact .inr h)
  (by rw[G];omega) (by rw[G];exact hm) (by rw[G];omega) (by rw[G];exact c7) (by rw[U];exact hr) (by rw[U];exact hf) (by rw[U];exact b4) e0 c6 hi
 rw[G,U] at Q;refine⟨p,F,m,e1,rfl,b6,W,?_⟩;exact Q
where
 restH_sub {H0:LI}:∀(way:List Qy) {a:Int},a∈H0->a∈Zj way H0
  |[],a,h=>h
  |t::way,a,h=>AU _ (AU _ (restH_sub way h))
end
section
variable {D:DM}{S0:Sp}{C0:Ct}{H0:LI}
def Yq (D:DM)(S0:Sp)(C0:Ct)(O H0:LI)(P:Pl)(its:List Qc)(k:Nat)(E:Option (Pl × Option Int)):Prop:=
 (∃e r,E=some (e,some r)/\Qa1 D S0 C0 O H0 P e r its k)\/(∃e,E=some (e,none)/\P.C.free<k)
theorem Yq.since {O O':LI}{P P':Pl}{its:List Qc}{k k':Nat}{E:Option (Pl × Option Int)}(h:Since D O O' H0 P P' k)(e:Yq D S0 C0 O' H0 P' its k' E):Yq D S0 C0 O H0 P its (k+k') E:=by
 rcases e with⟨f,r,m,p⟩|⟨f,m,p⟩
 ·exact .inl ⟨f,r,m,h.fin p⟩
 ·exact .inr ⟨f,m,by have:=h.free;omega⟩
theorem Yq.more {O:LI}{P:Pl}{its:List Qc}{k k':Nat}{E:Option (Pl × Option Int)}(e:Yq D S0 C0 O H0 P its k E)(hk:k<=k'):Yq D S0 C0 O H0 P its k' E:=by
 rcases e with⟨m,r,p,f⟩|⟨m,p,f⟩
 ·exact .inl ⟨m,r,p,⟨f.keep,f.tree,f.old,f.Pe,by have:=f.free;omega,f.n⟩⟩
 ·exact .inr ⟨m,p,by omega⟩
theorem q8b {l:Nat}{t:Qy}{way:List Qy}{L' R' its:List Qc}{O:LI}{P:Pl}{x:Tv}{a b:Nat}{B E:List (List Qc)}{n:Int}
  (p:(∃e q u A m,P.Wl x=some (e,some q)/\F9 D S0 C0 u A H0 e (l+1) t way L' R' a b ⟨n,[],q⟩ B m E/\Since D O u H0 P e 2/\L'++((B++(m++E)).flatten++R')=its)\/(∃e,P.Wl x=some (e,none)/\P.C.free<2))
  (M:∀{O H:LI} {P:Pl} {i j:Nat} {f:Nd} {F m G:List (List Qc)},F9 D S0 C0 O H H0 P (l+1) t way L' R' i j f F m G->Yq D S0 C0 O H0 P (L'++((F++(m++G)).flatten++R')) (2*way.length+3) (Wu D way P t i j f)) :
  Yq D S0 C0 O H0 P its (2*way.length+5) (match P.Wl x with
    |some (e,some q)=>Wu D way e t a b ⟨n,[],q⟩
    |some (e,none)=>some (e,none)
    |none=>none):=by
 rcases p with⟨e,q,u,A,m,y,I,J,K⟩|⟨e,y,I⟩
 ·rw[y];have:=Yq.since J (M I);rw[K] at this;exact this.more (by omega)
 ·rw[y];exact .inr ⟨e,rfl,by omega⟩
theorem q2s (A B:List Jc):rowOf (A++B)=rowOf A++rowOf B:=by unfold rowOf;simp
theorem q6h (y:Jc):rowOf [y]=y.2:=by unfold rowOf;simp
theorem qb6:∀(way:List Qy) {l:Nat} {s:Qy} {O H:LI} {P:Pl} {L Rr:List Qc} {i j:Nat} {f:Nd} {X Z Y:List (List Qc)},F9 D S0 C0 O H H0 P l s way L Rr i j f X Z Y->
  Yq D S0 C0 O H0 P (L++((X++(Z++Y)).flatten++Rr)) (2*way.length+3) (Wu D way P s i j f)
 |[],l,s,O,H,P,L,Rr,i,j,f,X,Z,Y,h=>by
  obtain⟨P1,e1,K1,K,hs,b2,u,G⟩:=qdh h;obtain⟨rfl,rfl⟩:=h.up;have J:=h.rise;have I:=h.fine;have m:=h.few;simp only[BG,BM] at J I m;have ht:=qwf K1 K hs (H0:=H0) (λ_ _ _=>rfl) J I G (by have:=h.high;omega) m h.most h.one (λy hy=>by
   rcases h.opens y hy with h|⟨t,ht,_⟩
   ·exact h
   ·cases ht)
  have ee:Wu D [] P s i j f=P1.top s (Yg s i j f):=by
   show (match P.Q9 s i j with|some P1=>P1.top s (Yg s i j f)|none=>none)=_;rw[e1]
  rw[ee,BG,BM];exact (Yq.since (k:=0) (k':=3) u ht).more (by simp)
 |t::way,l,s,O,H,P,L,Rr,i,j,f,X,Z,Y,h=>by
  obtain⟨P1,e1,K1,K,hs,b2,u,G⟩:=qdh h;have b5:Qv (l:Int)*2=Qu (l:Int)/\3<=Qv (l:Int):=by unfold Qv Qu;split<;>omega
  obtain⟨U,V,x,L',R',g1,W,g3,g4,g5,g6,g7,g8,g9,a1,a2,a6,b1⟩:=b2;have Q:=q4t K;have R:=q5l K;have hk:=q0n g5 (by rw[g1];show ¬((l+1:Nat):Int)=0;omega);have p:=hk.2.2.2.2.1;have F:=hk.2.2.2.1;rw[g1] at p F;have p:((U++x::V).map Qr).length<=12:=p;have F:2<=((U++x::V).map Qr).length:=F;simp only[AF,AD,AX] at p F;have hi:=h.high;rw[AX] at hi;have T:=h.least (by simp);have a8:=h.most;have hO:∀z∈O,(s.shared=false/\z=s.addr)\/(t.shared=false/\z=t.addr)\/∃t'∈way,t'.shared=false/\z=t'.addr:=λz E=>by
   rcases h.opens z E with hx|⟨t',b0,hx⟩
   ·exact .inl hx
   ·rcases List.mem_cons.1 b0 with e|b0
    ·rw[e] at hx;exact .inr (.inl hx)
    ·exact .inr (.inr ⟨t',b0,hx⟩)
  have ih:=λ{O H:LI} {P:Pl} {i j:Nat} {f:Nd} {X Z Y:List (List Qc)} (e:F9 D S0 C0 O H H0 P (l+1) t way L' R' i j f X Z Y)=>qb6 way e
  have J:=h.rise;have I:=h.fine;have m:=h.few;have a7:=h.H0s;have ee:Wu D (t::way) P s i j f=match P1.have_ D s (Yg s i j f) t with
    |some (x,P2)=>match P2.Wl x with
     |some (P3,some ks)=>Wu D way P3 t x.i x.j ⟨x.N.lvl+1,[],ks⟩
     |some (P3,none)=>some (P3,none)
     |none=>none
    |none=>none:=by
   show (match P.Q9 s i j with|some P1=>_|none=>none)=_;rw[e1];rfl
  generalize hM:X++(Z++Y)=M at K R T a8 J I m G;generalize b4:Yg s i j f=b at K Q R K1 ee;rw[ee];unfold Pl.have_;by_cases c1:Qv b.lvl<=b.size
  ·-- enough
   rw[AA c1];dsimp only;have q:L++(M.flatten++Rr)=(L'++rowOf U)++(M.flatten++(rowOf V++R')):=by rw[a2,a6]
   rw[q] at J I m ⊢;have b3:=qm6 (H0:=H0) K1 (l:=l) (t:=t) (way:=way) (L':=L') (R':=R') (N:=b) (M:=M) (olds:=[s]) (A:=U) (B:=[x]) (C:=V) K (by rw[Q,R] at c1;exact c1) (by omega) (λz E=>by rw[List.mem_singleton.1 E];exact hs) (List.pairwise_singleton _ _)
    (by rw[g1];rfl) (λz E=>g7 z (List.mem_append_left _ E)) (λz E=>g7 z (AU _ E)) g9 a1 (λa _ _=>by
     have e:(Zj (t::way) H0).count (a:Int)=(own t).count (a:Int)+((if t.shared=true then [] else (Zp t t.next (t.next+1)).named).count (a:Int)+(Zj way H0).count (a:Int)):=by
      show (own t++((if t.shared=true then [] else (Zp t t.next (t.next+1)).named)++Zj way H0)).count _=_;rw[A_,A_]
     rw[q2k g1 W] at e;rw[BC,List.flatMap_nil,BM];simp only[A_,e])
    (λz E=>by
     rcases hO z E with h|h
     ·exact .inl ⟨s,List.mem_singleton.2 rfl,h⟩
     ·exact .inr h)
    (by simp) (by simp;omega) (by simp;omega) (λhw=>by have:=g6 hw;simp;omega) J I m G a7 (by omega)
   have:=q8b (x:=⟨b,[s],t.next,t.next+1⟩) (n:=b.lvl+1) (by rw[W];exact b3) ih;rw[<-W] at this;exact (Yq.since (k:=0) u this).more (by rw[AX];omega)
  ·rw[AB c1];rw[Q,R] at c1;by_cases c2:0<t.next
   ·-- the neighbour ahead
    rw[AA c2];obtain⟨A,y,rfl⟩:∃A y,U=A++[y]:=⟨U.dropLast,U.getLast (λe=>by rw[W,e] at c2;cases c2),(List.dropLast_concat_getLast _).symm⟩;have q:L++(M.flatten++Rr)=(L'++rowOf A)++((if true=true then y.2++M.flatten else M.flatten++y.2)++(rowOf V++R')):=by
     rw[a2,a6,q2s,q6h,AA rfl];simp only[AM]
    rw[q] at J I m ⊢;simp only[AD,AX,List.length_nil] at W g6 p F;obtain⟨P2,O2,nb,j1,j2,j3,j4,j5⟩:=q9x (H0:=H0) true (x:=x) (y:=y) (A:=A) (C:=V) K1 a7 (by omega) (by rw[g1];simp) (by rw[W];rfl) g4 (by omega) (λhw=>by have:=g6 hw;omega) (λz E=>g7 z (by simp[E])) (λz E=>g7 z (by simp[E])) (g7 y (by simp)) (b1 y (by simp)) g9 hs a1 K (by omega) (by omega) hO J I m G;rw[AA rfl] at j1 j2;rw[j1,<-j2];simp only[if_true] at j5;simp only[Option.map_some];have en:t.next-1=A.length/\t.next+1=A.length+2:=by omega
    rw[en.1,en.2,j3];have:=q8b (n:=(l:Int)+1) j5 ih;exact (Yq.since (k:=0+0) (u.trans j4) this).more (by rw[AX];omega)
   ·-- the neighbour behind
    rw[AB c2];obtain rfl:U=[]:=BF (by omega);obtain⟨y,C,rfl⟩:∃y C,V=y::C:=by
     match V,F with
     |y::C,_=>exact⟨y,C,rfl⟩
     |[],h=>simp at h
    have q:L++(M.flatten++Rr)=(L'++rowOf [])++((if false=true then y.2++M.flatten else M.flatten++y.2)++(rowOf C++R')):=by
     rw[a2,a6,AB (by decide)];have:rowOf (y::C)=y.2++rowOf C:=by rw[show y::C=[y]++C from rfl,q2s,q6h]
     rw[this];simp only[AM]
    rw[q] at J I m ⊢;simp only[AX,List.length_nil] at W g6 p F;obtain⟨P2,O2,nb,j1,j2,j3,j4,j5⟩:=q9x (H0:=H0) false (x:=x) (y:=y) (A:=[]) (C:=C) K1 a7 (by omega) (by rw[g1];simp) (by rw[W];rfl) g4 (by simp;omega) (λhw=>by have:=g6 hw;simp;omega) (λz E=>by cases E) (λz E=>g7 z (by simp[E])) (g7 y (by simp)) (b1 y (by simp)) g9 hs a1 K (by omega) (by omega) hO J I m G;rw[AB (by decide)] at j1 j2;rw[j1,<-j2];simp only[Bool.false_eq_true,if_false] at j5;simp only[Option.map_some];have en:t.next=([]:List Jc).length/\t.next+2=([]:List Jc).length+2:=by simp;omega
    rw[en.2,Q];have e3:t.next=([]:List Jc).length:=en.1;rw[e3];have:=q8b (n:=(l:Int)+1) j5 ih;exact (Yq.since (k:=0+0) (u.trans j4) this).more (by rw[AX];omega)
end
