/- What is laid down in the place of some kids of a node, and what that node is «to» have then -/
import Derived.Test.YtloolbmdiimanaaGreatDoorGv32
namespace Go.Proofs.YtloolbmdiimanaaGreatDoor
open Go Go.RowKit Go.Proofs
section
variable {D:DM}{S0:Sp}{C0:Ct}{O H H0:LI}{P:Pl}
theorem qej {R:Int->Nd × Int}{l:Nat}{N:Nd}{A B C:List Zx}(h:N=⟨((l+1:Nat):Int),[],(A++(B++C)).map Qn⟩)(e:∀x∈A,good1 R l x)(f:∀x∈C,good1 R l x):Outside R (l+1) N A.length (A.length+B.length) (A.map (·.2)) (C.map (·.2)):=by
 refine⟨⟨A,?_,rfl,e⟩,⟨C,?_,rfl,f⟩,by rw[h],by rw[AF],by rw[h];unfold Nd.size;simp[Nat.add_assoc],by omega⟩
 ·rw[h,q2c];simp
 ·rw[h,q2c];have d:(A++(B++C)).drop (A.length+B.length)=C:=by
   rw[<-AM,<-AD,List.drop_left]
  rw[d,AN];unfold Nd.size;simp only[List.length_nil,AF,AD];omega
theorem qmt {R R':Int->Nd × Int}{l:Nat}{N:Nd}{M:List (List Qb)}(F:Yt R l N M)(h1:Qs (l:Int)<=M.length)(h2:M.length<=2*Qo (l:Int))(e:Ext R R'){f:LI}(d:f.length=(pieces N).length)(m:Uy R' (pieces N) f) :
  ∃T:List Zx,List.zipWith Wn (pieces N) f=T.map Qn/\(∀x∈T,good1 R' l x)/\(T.map (·.2)).flatten=M.flatten/\T.map (·.1)=f/\1<=T.length/\T.length<=2:=by
 have G:Qs (l:Int)*2=Qo (l:Int)/\3<=Qs (l:Int):=by unfold Qs Qo;split<;>omega
 rcases q7z F h2 with⟨g,_⟩|⟨I,k2,g,u⟩|⟨I,B,E,rfl,g,u,J,K,Q⟩
 ·rw[g] at h1;simp at h1;omega
 ·rw[g] at d m ⊢;match f,d with
  |[a],_=>
   obtain⟨j1,j2⟩:=m (N.cut 0 M.length,a) (List.mem_singleton.2 rfl);obtain⟨y,A⟩:=q3q u h1 e j1 j2;refine⟨[(a,M.flatten)],?_,λx p=>?_,by simp,rfl,by simp,by simp⟩
   ·show [Wn _ a]=_;rw[A];rfl
   ·rw[List.mem_singleton.1 p];exact y
  |[],d=>cases d
  |_::_::_,d=>cases d
 ·rw[g] at d m ⊢;match f,d with
  |[a1,a2],_=>
   obtain⟨U,X⟩:=m (_,a1) (AP ..);obtain⟨W,Y⟩:=m (_,a2) (AO _ (List.mem_singleton.2 rfl));obtain⟨y,A⟩:=q3q u K e U X;obtain⟨Z,u2⟩:=q3q J Q e W Y;refine⟨[(a1,B.flatten),(a2,E.flatten)],?_,λx p=>?_,by simp,rfl,by simp,by simp⟩
   ·show [Wn _ a1,Wn _ a2]=_;rw[A,u2];rfl
   ·rcases List.mem_cons.1 p with rfl|p
    ·exact y
    ·rw[List.mem_singleton.1 p];exact Z
  |[],d=>cases d
  |[_],d=>cases d
  |_::_::_::_,d=>cases d
structure Since (D:DM)(O O' H0:LI)(P P':Pl)(k:Nat):Prop where
 old:∀l a t,a∈H0->Qm (P.hide D O) l a t->Qm (P'.hide D O') l a t
 Ig:∀a,a∈H0->P.hide D O a=(Jc,0)->P'.hide D O' a=(Jc,0)
 free:P.C.free<=P'.C.free+k
 n:P'.C.n=P.C.n
theorem Since.trans {O' O'':LI}{P' P'':Pl}{k k':Nat}(h:Since D O O' H0 P P' k)(h2:Since D O' O'' H0 P' P'' k'):Since D O O'' H0 P P'' (k+k'):=
 ⟨λl a t d e=>h2.old l a t d (h.old l a t d e),λa d hd=>h2.Ig a d (h.Ig a d hd),by have:=h.free;have:=h2.free;omega,h2.n.trans h.n⟩
theorem Since.fin {O':LI}{P' P'':Pl}{k k':Nat}{r:Int}{its:List Qb}(h:Since D O O' H0 P P' k)(f:Qaf D S0 C0 O' H0 P' P'' r its k'):Qaf D S0 C0 O H0 P P'' r its (k+k'):=
 ⟨f.keep,f.tree,λl a t d e=>f.old l a t d (h.old l a t d e),λa d hd=>f.Ig a d (h.Ig a d hd),by have:=h.free;have:=f.free;omega,f.n.trans h.n⟩
theorem q5k {d:LI}{P':Pl}{l:Int}{k:Nat}(m:Move l D O d P P' k)(H0:LI):Since D O d H0 P P' k:=⟨λ_ _ _ _ e=>q11 m.ext e,λ_ _ hd=>q52 m.ext hd,m.free,m.n⟩
def Wi (s:Qr)(l i j:Nat):LI:=if s.shared=true then [] else if l=0 then (s.N.cut i j).named else []
structure Eb (D:DM)(S0:Sp)(C0:Ct)(O H H0:LI)(P:Pl)(l:Nat)(s:Qr)(way:List Qr)(L Rr:List Qb)(i j:Nat)(come:Nd)(ML Mc MR:List (List Qb)):Prop where
 keep:Keep D S0 C0 O H P
 spot:Zj P D O (l:Int) s
 up:Ye P D O l s way L Rr
 out:Outside (P.hide D O) l s.N i j ML MR
 Si:Yt (P.hide D O) l come Mc
 gone:(Wi s l i j).length<=1/\∀c∈Wi s l i j,P.hide D O c=(Jc,0)
 held:∀a:Nat,0<a->a<P.C.n->H.count (a:Int)=(own s++((if s.shared=true then [] else (Zm s i j).named)++(Wi s l i j++(come.named++Zi way H0)))).count (a:Int)
 dat:∀x∈(ML++(Mc++MR)).flatten,Dat (P.hide D O) x
 opens:∀y∈O,(s.shared=false/\y=s.addr)\/∃t∈way,t.shared=false/\y=t.addr
 rise:Qg (L++((ML++(Mc++MR)).flatten++Rr))
 fine:∀x∈L++((ML++(Mc++MR)).flatten++Rr),Jb x
 few:(L++((ML++(Mc++MR)).flatten++Rr)).length<=1000
 H0s:H0.length<=10000
 most:(ML++(Mc++MR)).length<=Qo (l:Int)+1
 least:way≠[]->Qs (l:Int)<=(ML++(Mc++MR)).length+1
 one:0<l->1<=(ML++(Mc++MR)).length
 high:l+way.length<=7
theorem qay:∀{way:List Qr} {l:Nat} {s:Qr} {L Rr:List Qb},Ye P D O l s way L Rr->(Zi way H0).length<=H0.length+14*way.length
 |[],l,s,L,Rr,_=>by show H0.length<=_;omega
 |t::way,l,s,L,Rr,h=>by
  obtain⟨g,m,x,B,E,e,y,F,G,A,I,J,K,M,f,p,u⟩:=h;have T:=qay f;have d:=(q0o A (by rw[e];show ¬((l+1:Nat):Int)=0;omega)).2.2.2.2.1;rw[e] at d;have d:((g++x::m).map Qn).length<=12:=d;simp only[AF,AD,AX] at d;have Q:(own t).length<=1:=by unfold own;split<;>simp
  have R:(if t.shared=true then [] else (Zm t t.next (t.next+1)).named).length<=12:=by
   split
   ·simp
   ·rw[q2d e y,AD,AF,AF];omega
  show (own t++((if t.shared=true then [] else (Zm t t.next (t.next+1)).named)++Zi way H0)).length<=_;rw[AD,AD,AX];omega
theorem qgg (s:Qr)(i j:Nat)(d:Nd)(a:Int):(Xy s i j d).named.count a=(Zm s i j).named.count a+d.named.count a:=by
 unfold Xy Zm;rw[q5f,q5f];simp only[BJ,List.map_nil,List.sum_cons,List.sum_nil];omega
theorem qmu {O:LI}{c:Int}(h:c∉O):less1 (c::O) c=O:=by
 unfold less1;rw[List.filter_cons_of_neg (by simp)];exact List.filter_eq_self.2 λx d=>by
  have:x≠c:=λe=>h (e▸d)
  simpa using this
theorem qko {R:Int->Nd × Int}{l:Nat}{a c:Int}{t:List Qb}(h:Qm R l a t)(hd:R c=(Jc,0)):a≠c:=λe=>by
 have h1:=(D7 h).2.1;rw[e,hd] at h1;have h2:(-1:Int)=(l:Int):=h1;omega
theorem qkp:∀(way:List Qr) {a:Int},a∈H0->a∈Zi way H0
 |[],_,h=>h
 |_::way,_,h=>AU _ (AU _ (qkp way h))
theorem qqe (K:Keep D S0 C0 O H P){s:Qr}{way:List Qr}{L Rr:List Qb}(Z:Zj P D O ((0:Nat):Int) s)(u:Ye P D O 0 s way L Rr)(y:s.shared=false){c:Int}(hd:P.hide D O c=(Jc,0)){X:LI}
  (G:∀a:Nat,0<a->a<P.C.n->H.count (a:Int)=(c::X).count (a:Int)) (Y:∀a∈Zi way H0,a∈X) :
  P.C.Jp c=0/\Keep D S0 C0 O X ⟨P.S,P.C.Qp c,P.L⟩/\Zj ⟨P.S,P.C.Qp c,P.L⟩ D O ((0:Nat):Int) s/\Ye ⟨P.S,P.C.Qp c,P.L⟩ D O 0 s way L Rr/\Since D O O H0 P ⟨P.S,P.C.Qp c,P.L⟩ 0/\
   ∀x,Dat (P.hide D O) x->(∀d,Ky x=some d->d∈X)->Dat (Pl.hide ⟨P.S,P.C.Qp c,P.L⟩ D O) x:=by
 obtain⟨T,n,rfl,hn,h0⟩:=q2r (P:=P) (D:=D) (O:=O) (x:=c) (by rw[hd]);have W:P.Qe D (n:Int)≠0:=by
  rw[O8 T] at hd;exact (q53 K.Zl hd).2
 have a0:(P.Qd D (n:Int)).lvl=0:=by rw[qah W];rfl
 obtain⟨c0,_⟩:=K.first h0
 have g:(n:Int)∈H:=List.count_pos_iff.1 (by rw[G n c0 hn,List.count_cons];simp);obtain⟨m1,m2,m3,m4⟩:=Z.mine y;have m:s.addr≠(n:Int):=λe=>W (by rw[<-e];exact m4)
 have M:=q99 u m1;have other:∀x:Int,x≠(n:Int)->(P.C.Qp (n:Int)).get x=P.C.get x/\Pl.store ⟨P.S,P.C.Qp (n:Int),P.L⟩ D x=P.store D x:=λx m=>by
  rw[(q90 h0).2];exact q9t m
 have A:Zj ⟨P.S,P.C.Qp (n:Int),P.L⟩ D O ((0:Nat):Int) s:=Z.other (s:=⟨Zz,(n:Int),0,false,false⟩) (.inr m) (λx E=>other x E) λ_ _=>Iff.rfl
 by_cases h1:P.C.get (n:Int)=1
 ·have I:=K.open_ h1 g T;rw[q7g hd,BG] at I;obtain⟨J,F,U⟩:=I.drop (H0:=X) (AP ..) G;have f:=U 0 (by omega);rw[qmu T] at F f;have p:(n:Int)∉X:=λhm=>by
   have h2:=(K.once h1 g).1;rw[G n c0 hn,List.count_cons] at h2;have:=List.count_pos_iff.2 hm;simp at h2;omega
  have B:=u.open_ K h1 g M y (H0:=H0) (λhm=>p (Y _ hm));refine⟨J,F,A,B.ext I f.ext f.above (AE _),⟨λl a t _ ht=>q11 f.ext (q3g K h1 g l a t (qko ht hd) ht),λa ha Q=>q52 f.ext ((Py λe:a=(n:Int)=>p (Y _ (e▸qkp way ha))).trans Q),by have:=f.free;omega,f.n⟩,λx E R=>(qjc E λe=>p (R _ e)).ext f.ext⟩
 ·have h2:2<=P.C.get (n:Int):=by
   have:=K.nonneg (n:Int);omega
  obtain⟨J,F,U⟩:=K.Qp (H0:=X) h2 G;have f:=U 0 (by omega);exact⟨J,F,A,u.ext K f.ext f.above (AE _),q5k f H0,λx E _=>E.ext f.ext⟩
theorem qcw {l:Nat}{s:Qr}{way:List Qr}{L Rr:List Qb}{i j:Nat}{f:Nd}{J M K:List (List Qb)}(h:Eb D S0 C0 O H H0 P l s way L Rr i j f J M K) :
  ∃u,P.Qw s i j=some u/\Keep D S0 C0 O (own s++((Xy s i j f).named++Zi way H0)) u/\Yt (u.hide D O) l (Xy s i j f) (J++(M++K))/\Zj u D O (l:Int) s/\Ye u D O l s way L Rr/\Since D O O H0 P u 0/\∀x∈(J++(M++K)).flatten,Dat (u.hide D O) x:=by
 have F:∀x∈(J++K).flatten,Dat (P.hide D O) x:=λx p=>h.dat x (by
  simp only[List.flatten_append,List.mem_append] at p ⊢;rcases p with h|h
  ·exact .inl h
  ·exact .inr (.inr h))
 have W:∀x∈M.flatten,Dat (P.hide D O) x:=λx p=>h.dat x (by
  simp only[List.flatten_append,List.mem_append];exact .inr (.inl p))
 have a2:Qo (l:Int)<=12:=by unfold Qo;split<;>omega
 have a0:=h.most;simp only[AD] at a0;have A:=h.keep.perm λa h1 h2=>(h.held a h1 h2).symm
 have n1:=(q97 (qk9 h.out) F).2;have n2:=(q97 h.Si W).2;have n3:=qay (H0:=H0) h.up;have n4:(own s).length<=1:=by unfold own;split<;>simp
 have n5:=h.high;have n6:=h.H0s;have R:=h.gone.1;rw[AD] at n1;by_cases y:Wi s l i j=[]
 ·rw[y,BG] at A;obtain⟨u,E,T,B⟩:=q8m A h.out F (λh1 h2=>by
   unfold Wi at y;rw[h1,AB (by decide),AA h2] at y;exact y) (by omega) (by
   have R:(if s.shared=true then [] else (Zm s i j).named).length<=(Zm s i j).named.length:=by
    split
    ·exact AW _
    ·exact AE _
   rw[AD,AD,AD];omega)
  refine⟨u,E,T.perm λa _ _=>?_,qpu (qq0 h.out h.Si) (B 0).ext,h.spot.above A (B ((l:Int)-1)).above (by omega),h.up.ext A (B (l:Int)).ext (B (l:Int)).above (AE _),q5k (B 0) H0,λx p=>(h.dat x p).ext (B 0).ext⟩;simp only[A_,qgg];by_cases Q:s.shared=true
  ·rw[AA Q,AA Q];simp only[List.count_nil];omega
  ·rw[AB Q,AB Q];simp only[List.count_nil];omega
 ·obtain⟨c,g⟩:∃c,Wi s l i j=[c]:=by
   match Wi s l i j,y,R with
   |[c],_,_=>exact⟨c,rfl⟩
   |[],y,_=>exact absurd rfl y
   |_::_::_,_,R=>simp at R
  have m:s.shared=false:=by
   cases e:s.shared with
   |false=>rfl
   |true=>unfold Wi at g;rw[e,AA rfl] at g;cases g
  have hl:l=0:=by
   refine Classical.byContradiction λe=>?_
   unfold Wi at g;rw[m,AB (by decide),AB e] at g
   cases g
  subst hl;have hcut:(s.N.cut i j).named=[c]:=by
   unfold Wi at g;rw[m,AB (by decide),AA rfl] at g;exact g
  have hd:=h.gone.2 c (by rw[g];exact List.mem_singleton.2 rfl);rw[g,m,AB (by decide)] at A;obtain⟨e0,T,Z,a1,I,G⟩:=qqe (H0:=H0) (X:=own s++((Xy s i j f).named++Zi way H0)) A h.spot h.up m hd (λa _ _=>by
   simp only[A_,List.count_cons,List.count_nil,qgg];omega) (λa ha=>AU _ (AU _ ha))
  have hB:=qq0 h.out h.Si;refine⟨_,?_,T,?_,Z,a1,I,λx p=>G x (h.dat x p) λd Y=>?_⟩
  ·unfold Pl.Qw;rw[m,AB (by decide),h.out.lvl,AB (by decide),hcut];show (if P.C.Jp c=0 then _ else none)=_;rw[AA e0];rfl
  ·obtain⟨its,E,U⟩:=hB;exact⟨its,E,U⟩
  ·obtain⟨its,E,U⟩:=hB;rw[U,O7] at p;refine AU _ (List.mem_append_left _ ?_);rw[E];exact AU _ (List.mem_filterMap.2 ⟨x,p,Y⟩)
theorem qkq (K:Keep D S0 C0 O H P){l:Nat}{t:Qr}{way:List Qr}{L' R':List Qb}{N:Nd}{M:List (List Qb)}{olds:List Qr}{A B C:List Zx}
  (hb:Yt (P.hide D O) l N M) (h1:Qs (l:Int)<=M.length) (h2:M.length<=2*Qo (l:Int)) (hs:∀s∈olds,Zj P D O (l:Int) s) (hd:olds.Pairwise λs o=>o.held=true\/o.addr≠s.addr)
  (hG:t.N=⟨((l+1:Nat):Int),[],(A++(B++C)).map Qn⟩) (hA:∀x∈A,good1 (P.hide D O) l x) (hC:∀x∈C,good1 (P.hide D O) l x) (ht:Zj P D O ((l+1:Nat):Int) t) (a8:Ye P D O (l+1) t way L' R')
  (hH:∀a:Nat,0<a->a<P.C.n->H.count (a:Int)=(olds.flatMap own++(N.named++(own t++((if t.shared=true then [] else A.map (·.1)++C.map (·.1))++Zi way H0)))).count (a:Int))
  (hO:∀y∈O,(∃s∈olds,s.shared=false/\y=s.addr)\/(t.shared=false/\y=t.addr)\/∃t'∈way,t'.shared=false/\y=t'.addr)
  (hB:1<=B.length/\B.length<=2) (hm:A.length+B.length+C.length<=12) (b0:2<=A.length+B.length+C.length) (a5:way≠[]->6<=A.length+B.length+C.length)
  (hr:Qg ((L'++rowOf A)++(M.flatten++(rowOf C++R')))) (hf:∀x∈(L'++rowOf A)++(M.flatten++(rowOf C++R')),Jb x) (a0:((L'++rowOf A)++(M.flatten++(rowOf C++R'))).length<=1000) (f:∀x∈M.flatten,Dat (P.hide D O) x) (a2:H0.length<=10000) (hi:l+1+way.length<=7) :
  (∃g ks F H3 Mc,P.Yo ⟨N,olds,A.length,A.length+B.length⟩=some (g,some ks)/\Eb D S0 C0 F H3 H0 g (l+1) t way L' R' A.length (A.length+B.length) ⟨N.lvl+1,[],ks⟩ (A.map (·.2)) Mc (C.map (·.2))/\Since D O F H0 P g 2/\
   L'++((A.map (·.2)++(Mc++C.map (·.2))).flatten++R')=(L'++rowOf A)++(M.flatten++(rowOf C++R')))\/(∃g,P.Yo ⟨N,olds,A.length,A.length+B.length⟩=some (g,none)/\P.C.free<2):=by
 have a9:Qs (l:Int)*2=Qo (l:Int)/\3<=Qs (l:Int):=by unfold Qs Qo;split<;>omega
 have I:∀x∈M.flatten,Jb x:=λx d=>hf x (AU _ (List.mem_append_left _ d))
 have R:Qg M.flatten:=(q10 (q10 hr).2).1;have a6:=q8q hb h2;have a1:=q7z hb h2;have W:∀p∈pieces N,Fits (P.hide D O) p:=λp Q=>by
  rcases a1 with⟨_,e⟩|⟨k1,k2,e,k3⟩|⟨k1,M1,M2,rfl,e,k3,k4,k5,k6⟩
  ·rw[e] at Q;cases Q
  ·rw[e,AQ] at Q;rw[Q];exact k3.fits (by omega) (λ_=>by omega) R I f
  ·rw[List.flatten_append] at R I f;rw[e] at Q;rcases List.mem_cons.1 Q with rfl|Q
   ·exact k3.fits (by omega) (λ_=>by omega) (q10 R).1 (λx d=>I x (List.mem_append_left _ d)) λx d=>f x (List.mem_append_left _ d)
   ·rw[AQ] at Q;rw[Q];exact k4.fits (by omega) (λ_=>by omega) (q10 R).2 (λx d=>I x (AU _ d)) λx d=>f x (AU _ d)
 have Z:(pieces N).length<=2:=by
  rcases a1 with⟨_,e⟩|⟨k1,k2,e,k3⟩|⟨k1,M1,M2,_,e,k3,k4,k5,k6⟩<;>rw[e]<;>simp
 rcases qkl (l:=(l:Int)) K ⟨N,olds,A.length,A.length+B.length⟩ (own t++((if t.shared=true then [] else A.map (·.1)++C.map (·.1))++Zi way H0)) hs hd W (λa h1 h2=>by
   rw[hH a h1 h2,a6]) with⟨g,F,az,g1,U,K3,E,gO,gl⟩|⟨g,g1,U⟩
 ·left
  have g1:az.length=(pieces N).length:=g1;have gl:Uy (g.hide D F) (pieces N) az:=gl;have E:Move (l:Int) D O F P g (pieces N).length:=E;obtain⟨T,t1,t2,t3,t4,t5,t6⟩:=qmt hb h1 h2 E.ext g1 gl;have U:P.Yo ⟨N,olds,A.length,A.length+B.length⟩=some (g,some (List.zipWith Wn (pieces N) az)):=U;rw[t1] at U;have a3:=q4r hb;have eN:(⟨N.lvl+1,[],T.map Qn⟩:Nd)=⟨((l+1:Nat):Int),[],T.map Qn⟩:=by rw[a3];rfl
  have m:L'++((A.map (·.2)++(T.map (·.2)++C.map (·.2))).flatten++R')=(L'++rowOf A)++(M.flatten++(rowOf C++R')):=by
   rw[List.flatten_append,List.flatten_append,t3];unfold rowOf;simp only[AM]
  have a4:Move (l:Int) D O F P g 2:=E.more Z;have X:Wi t (l+1) A.length (A.length+B.length)=[]:=by
   unfold Wi;split
   ·rfl
   ·rfl
  have Y:Qo ((l+1:Nat):Int)=12:=AB (by omega);have J:Qs ((l+1:Nat):Int)=6:=AB (by omega);refine⟨g,_,F,az++(own t++((if t.shared=true then [] else A.map (·.1)++C.map (·.1))++Zi way H0)),T.map (·.2),U,?_,q5k a4 H0,m⟩;rw[eN];refine⟨K3,ht.above K E.above (by omega),a8.ext K E.ext E.above (by omega),qej hG (λx d=>q2a (hA x d) E.ext) (λx d=>q2a (hC x d) E.ext),⟨T,rfl,rfl,t2⟩,⟨by rw[X];exact AW _,λc hc=>by rw[X] at hc;cases hc⟩,λa _ _=>?_,λx d=>?_,λy hy=>?_,by rw[m];exact hr,by rw[m];exact hf,by rw[m];exact a0,a2,?_,λhw=>?_,λ_=>?_,hi⟩
  ·have e1:(Zm t A.length (A.length+B.length)).named=A.map (·.1)++C.map (·.1):=by
    rw[q7y hG,q13,List.take_left,<-AM,<-AD,List.drop_left,List.map_append]
   rw[e1,q13,t4,X];simp only[A_];split<;>simp only[A_,List.count_nil]<;>omega
  ·obtain⟨r,a7,d⟩:=List.mem_flatten.1 d;have u:∀G:List Zx,(∀x∈G,good1 (g.hide D F) l x)->r∈G.map (·.2)->Dat (g.hide D F) x:=λG hG hm=>by
    obtain⟨y,hy,rfl⟩:=List.mem_map.1 hm;exact K3.dat l _ _ (hG y hy).1 x d
   rcases List.mem_append.1 a7 with h|h
   ·exact u A (λx d=>q2a (hA x d) E.ext) h
   ·rcases List.mem_append.1 h with h|h
    ·exact u T t2 h
    ·exact u C (λx d=>q2a (hC x d) E.ext) h
  ·obtain⟨j1,j2⟩:=gO y hy;rcases hO y j1 with⟨s,k1,k2,k3⟩|h|h
   ·exact absurd k3 (j2 s k1 k2)
   ·exact .inl h
   ·exact .inr h
  ·rw[Y];simp only[AD,AF];omega
  ·rw[J];have:=a5 hw;simp only[AD,AF];omega
  ·simp only[AD,AF];omega
 ·right
  have U:P.C.free<(pieces N).length:=U;exact⟨g,g1,by omega⟩
end
section
variable {D:DM}{S0:Sp}{C0:Ct}{O H H0:LI}{P:Pl}
theorem qqf {R:Int->Nd × Int}{l:Nat}{N:Nd}{M:List (List Qb)}(f:Yt R l N M){y:Zx}(p:Qm R l y.1 y.2):y.1∉N.kids.map (·.a):=by
 cases l with
 |zero=>
  obtain⟨its,rfl,_⟩:=f;simp
 |succ l=>
  obtain⟨G,rfl,_,m⟩:=f;intro h;obtain⟨z,u,e⟩:=List.mem_map.1 h;obtain⟨g,d,rfl⟩:=List.mem_map.1 u;have h1:=(D7 (m g d).1).2.1;have h2:=(D7 p).2.1;have e:g.1=y.1:=e;rw[e] at h1;omega
theorem q4t {a:Int}{X:LI}(h:X.count a=0):a∉X:=λhm=>by
 have:=List.count_pos_iff.2 hm;omega
theorem q9a (left:Bool){l:Nat}{s t:Qr}{way:List Qr}{L' R':List Qb}{b:Nd}{M:List (List Qb)}{A C:List Zx}{x y:Zx}(K:Keep D S0 C0 O (own s++(b.named++Zi (t::way) H0)) P)(b5:H0.length<=10000)(hi:l+1+way.length<=7)
  (hG:t.N=⟨((l+1:Nat):Int),[],(A++((if left=true then [y,x] else [x,y])++C)).map Qn⟩) (hn:t.next=A.length+if left=true then 1 else 0) (d6:s.held=t.shared) (hm:A.length+2+C.length<=12) (b6:way≠[]->6<=A.length+2+C.length)
  (hA:∀z∈A,good1 (P.hide D O) l z) (hC:∀z∈C,good1 (P.hide D O) l z) (hy:good1 (P.hide D O) l y) (a1:y.1≠s.addr) (ht:Zj P D O ((l+1:Nat):Int) t) (hs:Zj P D O (l:Int) s) (b3:Ye P D O (l+1) t way L' R')
  (hb:Yt (P.hide D O) l b M) (d0:Qs (l:Int)<=M.length+1) (d1:M.length<Qs (l:Int))
  (hO:∀z∈O,(s.shared=false/\z=s.addr)\/(t.shared=false/\z=t.addr)\/∃t'∈way,t'.shared=false/\z=t'.addr)
  (hr:Qg ((L'++rowOf A)++((if left=true then y.2++M.flatten else M.flatten++y.2)++(rowOf C++R')))) (hf:∀z∈(L'++rowOf A)++((if left=true then y.2++M.flatten else M.flatten++y.2)++(rowOf C++R')),Jb z) (a9:((L'++rowOf A)++((if left=true then y.2++M.flatten else M.flatten++y.2)++(rowOf C++R'))).length<=1000) (a8:∀z∈M.flatten,Dat (P.hide D O) z) :
  ∃g E f,P.near D t (if left=true then t.next-1 else t.next+1)=some g/\f=P.Jd D t (if left=true then t.next-1 else t.next+1)/\f.N.lvl=(l:Int)/\Since D O E H0 P g 0/\
   ((∃P3 ks O3 H3 Mc,g.Yo ⟨Zw (l:Int) (if left=true then [f.N,b] else [b,f.N]),(if left=true then [f,s] else [s,f]),A.length,A.length+2⟩=some (P3,some ks)/\Eb D S0 C0 O3 H3 H0 P3 (l+1) t way L' R' A.length (A.length+2) ⟨(l:Int)+1,[],ks⟩ (A.map (·.2)) Mc (C.map (·.2))/\Since D E O3 H0 g P3 2/\
   L'++((A.map (·.2)++(Mc++C.map (·.2))).flatten++R')=(L'++rowOf A)++((if left=true then y.2++M.flatten else M.flatten++y.2)++(rowOf C++R')))\/(∃P3,g.Yo ⟨Zw (l:Int) (if left=true then [f.N,b] else [b,f.N]),(if left=true then [f,s] else [s,f]),A.length,A.length+2⟩=some (P3,none)/\g.C.free<2)):=by
 have d4:Qs (l:Int)*2=Qo (l:Int)/\3<=Qs (l:Int)/\Qo (l:Int)<=12:=by unfold Qs Qo;split<;>omega
 have d3:∀z∈y.2,Jb z:=λz d=>hf z (by
  refine AU _ (List.mem_append_left _ ?_);split
  ·exact List.mem_append_left _ d
  ·exact AU _ d)
 have d2:∀z∈M.flatten,Jb z:=λz d=>hf z (by
  refine AU _ (List.mem_append_left _ ?_);split
  ·exact AU _ d
  ·exact List.mem_append_left _ d)
 have hq:(A++((if left=true then [y,x] else [x,y])++C))[if left=true then t.next-1 else t.next+1]?=some y:=by
  rw[hn]
  cases left
  ·simp
  ·simp
 have I:∀a,(Zm t t.next (t.next+1)).named.count a=(A.map (·.1)).count a + [y.1].count a+(C.map (·.1)).count a:=λa=>by
  cases left
  ·have e:=q2d (l:=l) (GL:=A) (GR:=y::C) (x:=x) (by rw[hG];simp) (by rw[hn];rfl);rw[e];simp only[BJ,A_,List.count_cons,List.count_nil];omega
  ·have e:=q2d (l:=l) (GL:=A++[y]) (GR:=C) (x:=x) (by rw[hG];simp) (by rw[hn];simp);rw[e];simp only[List.map_append,BJ,List.map_nil,A_,List.count_cons,List.count_nil]
 have b2:∀a,(Zi (t::way) H0).count a=(own t).count a+((if t.shared=true then [] else (Zm t t.next (t.next+1)).named).count a+(Zi way H0).count a):=λa=>by
  show (own t++((if t.shared=true then [] else (Zm t t.next (t.next+1)).named)++Zi way H0)).count a=_;rw[A_,A_]
 have X:t.shared=false->∀a,(own s++(b.named++Zi (t::way) H0)).count a=(own s).count a+(b.named.count a+((own t).count a+(((A.map (·.1)).count a + [y.1].count a+(C.map (·.1)).count a)+(Zi way H0).count a))):=λh a=>by
  rw[A_,A_,b2,h,AB (by decide),I]
 have Z:([y.1]:LI).count y.1=1:=by simp
 have Y:t.shared=false->y.1∈own s++(b.named++Zi (t::way) H0):=λh=>by
  refine List.count_pos_iff.1 ?_;rw[X h,Z];omega
 have m:t.shared=false->(own s++(b.named++Zi (t::way) H0)).count y.1=1->y.1∉A.map (·.1)/\y.1∉C.map (·.1)/\y.1∉Zi way H0/\y.1∉own t:=λh h1=>by
  rw[X h,Z] at h1;exact⟨q4t (by omega),q4t (by omega),q4t (by omega),q4t (by omega)⟩
 obtain⟨_,n,en,_,c9⟩:=q2r (D7 hy.1).2.2;have a2:t.shared=false->P.C.get y.1=1->(own s++(b.named++Zi (t::way) H0)).count y.1=1:=λh h1=>by
  have:=Y h;rw[en] at this h1 ⊢;exact (K.once h1 this).1
 have n3:=qay (H0:=H0) b3;have n4:(own s).length<=1:=by unfold own;split<;>simp
 have n5:=(q97 hb a8).2;have n6:(own t).length<=1:=by unfold own;split<;>simp
 have n7:(Zm t t.next (t.next+1)).named.length<=12:=by
  cases left
  ·have e:=q2d (l:=l) (GL:=A) (GR:=y::C) (x:=x) (by rw[hG];simp) (by rw[hn];rfl);rw[e];simp;omega
  ·have e:=q2d (l:=l) (GL:=A++[y]) (GR:=C) (x:=x) (by rw[hG];simp) (by rw[hn];simp);rw[e];simp;omega
 have b0:(own s++(b.named++Zi (t::way) H0)).length<=20000:=by
  have e:(Zi (t::way) H0).length<=1+(12+(Zi way H0).length):=by
   show (own t++((if t.shared=true then [] else (Zm t t.next (t.next+1)).named)++Zi way H0)).length<=_;rw[AD,AD];split
   ·rw[List.length_nil];omega
   ·omega
  rw[AD,AD];omega
 obtain⟨g,E,u,e1,NB,a0,p,a5,a6,b1⟩:=qqd K (H0:=H0) hG hq hy ht hs a1 b3 b0 (λh1 h2=>by
  obtain⟨_,_,j3,j4⟩:=m h1 (a2 h1 h2);refine⟨Y h1,j3,λe=>j4 ?_⟩;unfold own;rw[(ht.mine h1).1,AB (by decide),e];exact List.mem_singleton.2 rfl)
 generalize d5:P.Jd D t (if left=true then t.next-1 else t.next+1)=f at e1 NB a0 p a5 a6 b1;have G:∀z∈A++C,good1 (P.hide D O) l z->good1 (g.hide D E) l z:=λz d hg=>by
  rcases NB.once with⟨j1,_,j3,j4⟩|⟨_,j2⟩
  ·obtain⟨i1,i2,_,_⟩:=m j4 j3;refine NB.near.good (λe=>?_) hg;rcases List.mem_append.1 d with h|h
   ·exact i1 (e▸List.mem_map_of_mem h)
   ·exact i2 (e▸List.mem_map_of_mem h)
  ·exact q2a hg j2
 have a7:Yt (g.hide D E) l b M:=NB.near.Fa (qqf hb hy.1) hb;have W:Since D O E H0 P g 0:=⟨λl a its ha U=>by
  rcases NB.once with⟨j1,_,j3,j4⟩|⟨_,j2⟩
  ·obtain⟨_,_,i3,_⟩:=m j4 j3;exact NB.near.tree l a its (λe=>i3 (e▸restH_sub way ha)) U
  ·exact q11 j2 U,λa _ hd=>by
  obtain⟨_,n,rfl,hn,_⟩:=q2r (P:=P) (D:=D) (O:=O) (x:=a) (by rw[hd]);have hc:=K.c.1.2;exact qse (by omega) (λx hx=>NB.near.dat (by rw[(D7 hy.1).2.1];exact Int.natCast_nonneg l) hx) hd,by have:=NB.free;omega,NB.n⟩
 have b4:0<=(P.hide D O y.1).1.lvl:=by rw[(D7 hy.1).2.1];exact Int.natCast_nonneg l
 have Q:∀z∈(u++M).flatten,Dat (g.hide D E) z:=λz d=>by
  rw[List.flatten_append,p] at d;rcases List.mem_append.1 d with h|h
  ·exact NB.near.dat b4 (K.dat l _ _ hy.1 z h)
  ·exact NB.near.dat b4 (a8 z h)
 have hJ:Yt (g.hide D E) l (Zw (l:Int) (if left=true then [f.N,b] else [b,f.N])) (if left=true then u++M else M++u):=by
  cases left
  ·have:=q6z (R:=g.hide D E) (l:=l) [(b,M),(f.N,u)] (λz d=>by
    rcases List.mem_cons.1 d with rfl|d
    ·exact a7
    ·rw[List.mem_singleton.1 d];exact a0)
   simpa using this
  ·have:=q6z (R:=g.hide D E) (l:=l) [(f.N,u),(b,M)] (λz d=>by
    rcases List.mem_cons.1 d with rfl|d
    ·exact a0
    ·rw[List.mem_singleton.1 d];exact a7)
   simpa using this
 have e0:∀z∈(if left=true then u++M else M++u).flatten,Dat (g.hide D E) z:=λz d=>Q z (by
  rw[List.flatten_append];split at d
  ·rw[List.flatten_append] at d;exact d
  ·rw[List.flatten_append] at d;rcases List.mem_append.1 d with h|h
   ·exact AU _ h
   ·exact List.mem_append_left _ h)
 have b7:∀a,(Zw (l:Int) (if left=true then [f.N,b] else [b,f.N])).named.count a=f.N.named.count a+b.named.count a:=λa=>by
  rw[q5f]
  cases left
  ·simp only[Bool.false_eq_true,if_false,BJ,List.map_nil,List.sum_cons,List.sum_nil];omega
  ·simp only[if_true,BJ,List.map_nil,List.sum_cons,List.sum_nil];omega
 have T:(if left=true then u++M else M++u).flatten=if left=true then y.2++M.flatten else M.flatten++y.2:=by
  cases left
  ·simp[p]
  ·simp[p]
 have a4:(if left=true then u++M else M++u).length=u.length+M.length:=by
  cases left
  ·simp[Nat.add_comm]
  ·simp
 have F:(if left=true then [y,x] else [x,y]).length=2:=by cases left<;>rfl
 have a3:(own f).count=λa=>if t.shared=true then 0 else [y.1].count a:=by
  funext a
  unfold own;rw[NB.held,NB.addr];split<;>simp
 have J:=qkq (H0:=H0) NB.keep (l:=l) (t:=t) (way:=way) (L':=L') (R':=R') (olds:=if left=true then [f,s] else [s,f]) (A:=A) (B:=if left=true then [y,x] else [x,y]) (C:=C) hJ (by rw[a4];omega) (by rw[a4];omega)
  (λz d=>by
   have:z=f\/z=s:=by
    split at d
    ·rcases List.mem_cons.1 d with h|h
     ·exact .inl h
     ·exact .inr (List.mem_singleton.1 h)
    ·rcases List.mem_cons.1 d with h|h
     ·exact .inr h
     ·exact .inl (List.mem_singleton.1 h)
   rcases this with rfl|rfl
   ·exact NB.nbk
   ·exact NB.sk)
  (by
   split
   ·exact List.pairwise_cons.2 ⟨λz d=>by rw[List.mem_singleton.1 d];exact .inr (by rw[NB.addr];exact λe=>a1 e.symm),List.pairwise_singleton _ _⟩
   ·exact List.pairwise_cons.2 ⟨λz d=>by rw[List.mem_singleton.1 d];exact .inr (by rw[NB.addr];exact a1),List.pairwise_singleton _ _⟩)
  hG (λz d=>G z (List.mem_append_left _ d) (hA z d)) (λz d=>G z (AU _ d) (hC z d)) NB.tk NB.up (λa _ _=>by
   have ho:((if left=true then [f,s] else [s,f]).flatMap own).count (a:Int)=(own f).count (a:Int)+(own s).count (a:Int):=by
    cases left
    ·simp[List.count_append,Nat.add_comm]
    ·simp[List.count_append]
   have b8:(own f).count (a:Int)=if t.shared=true then 0 else [y.1].count (a:Int):=congrFun a3 (a:Int)
   simp only[A_,ho,b8,b7,b2];by_cases U:t.shared=true
   ·rw[AA U,AA U,AA U];omega
   ·rw[AB U,AB U,AB U,I,A_];omega)
  (λz d=>by
   have b9:z=y.1/\f.shared=false\/z∈O:=by
    rcases NB.once with⟨j1,j2,_⟩|⟨j1,_⟩
    ·rw[j1] at d;rcases List.mem_cons.1 d with h|h
     ·exact .inl ⟨h,j2⟩
     ·exact .inr h
    ·rw[j1] at d;exact .inr d
   rcases b9 with⟨h1,h2⟩|h
   ·exact .inl ⟨f,by split<;>simp,h2,by rw[NB.addr];exact h1⟩
   ·rcases hO z h with⟨h1,h2⟩|h
    ·exact .inl ⟨s,by split<;>simp,h1,h2⟩
    ·exact .inr h)
  (by rw[F];omega) (by rw[F];exact hm) (by rw[F];omega) (by rw[F];exact b6) (by rw[T];exact hr) (by rw[T];exact hf) (by rw[T];exact a9) e0 b5 hi
 rw[F,T] at J;refine⟨g,E,f,e1,rfl,b1,W,?_⟩;exact J
where
 restH_sub {H0:LI}:∀(way:List Qr) {a:Int},a∈H0->a∈Zi way H0
  |[],a,h=>h
  |t::way,a,h=>AU _ (AU _ (restH_sub way h))
end
section
variable {D:DM}{S0:Sp}{C0:Ct}{H0:LI}
def Yd (D:DM)(S0:Sp)(C0:Ct)(O H0:LI)(P:Pl)(its:List Qb)(k:Nat)(E:Option (Pl × Option Int)):Prop:=
 (∃d r,E=some (d,some r)/\Qaf D S0 C0 O H0 P d r its k)\/(∃d,E=some (d,none)/\P.C.free<k)
theorem Yd.since {O O':LI}{P P':Pl}{its:List Qb}{k k':Nat}{E:Option (Pl × Option Int)}(h:Since D O O' H0 P P' k)(e:Yd D S0 C0 O' H0 P' its k' E):Yd D S0 C0 O H0 P its (k+k') E:=by
 rcases e with⟨d,r,f,g⟩|⟨d,f,g⟩
 ·exact .inl ⟨d,r,f,h.fin g⟩
 ·exact .inr ⟨d,f,by have:=h.free;omega⟩
theorem Yd.more {O:LI}{P:Pl}{its:List Qb}{k k':Nat}{E:Option (Pl × Option Int)}(e:Yd D S0 C0 O H0 P its k E)(hk:k<=k'):Yd D S0 C0 O H0 P its k' E:=by
 rcases e with⟨f,r,g,d⟩|⟨f,g,d⟩
 ·exact .inl ⟨f,r,g,⟨d.keep,d.tree,d.old,d.Ig,by have:=d.free;omega,d.n⟩⟩
 ·exact .inr ⟨f,g,by omega⟩
theorem q80 {l:Nat}{t:Qr}{way:List Qr}{L' R' its:List Qb}{O:LI}{P:Pl}{x:Nl}{a b:Nat}{A B:List (List Qb)}{n:Int}
  (g:(∃d m p y f,P.Yo x=some (d,some m)/\Eb D S0 C0 p y H0 d (l+1) t way L' R' a b ⟨n,[],m⟩ A f B/\Since D O p H0 P d 2/\L'++((A++(f++B)).flatten++R')=its)\/(∃d,P.Yo x=some (d,none)/\P.C.free<2))
  (K:∀{O H:LI} {P:Pl} {i j:Nat} {e:Nd} {E f F:List (List Qb)},Eb D S0 C0 O H H0 P (l+1) t way L' R' i j e E f F->Yd D S0 C0 O H0 P (L'++((E++(f++F)).flatten++R')) (2*way.length+3) (Yy D way P t i j e)) :
  Yd D S0 C0 O H0 P its (2*way.length+5) (match P.Yo x with
    |some (d,some m)=>Yy D way d t a b ⟨n,[],m⟩
    |some (d,none)=>some (d,none)
    |none=>none):=by
 rcases g with⟨d,m,p,y,f,u,G,I,J⟩|⟨d,u,G⟩
 ·rw[u];have:=Yd.since I (K G);rw[J] at this;exact this.more (by omega)
 ·rw[u];exact .inr ⟨d,rfl,by omega⟩
theorem Ri (A B:List Zx):rowOf (A++B)=rowOf A++rowOf B:=by unfold rowOf;simp
theorem q6b (y:Zx):rowOf [y]=y.2:=by unfold rowOf;simp
theorem qaz:∀(way:List Qr) {l:Nat} {s:Qr} {O H:LI} {P:Pl} {L Rr:List Qb} {i j:Nat} {d:Nd} {X Z Y:List (List Qb)},Eb D S0 C0 O H H0 P l s way L Rr i j d X Z Y->
  Yd D S0 C0 O H0 P (L++((X++(Z++Y)).flatten++Rr)) (2*way.length+3) (Yy D way P s i j d)
 |[],l,s,O,H,P,L,Rr,i,j,d,X,Z,Y,h=>by
  obtain⟨P1,e1,K1,J,hs,a7,p,F⟩:=qcw h;obtain⟨rfl,rfl⟩:=h.up;have I:=h.rise;have G:=h.fine;have f:=h.few;simp only[BG,BM] at I G f;have ht:=qu9 K1 J hs (H0:=H0) (λ_ _ _=>rfl) I G F (by have:=h.high;omega) f h.most h.one (λy hy=>by
   rcases h.opens y hy with h|⟨t,ht,_⟩
   ·exact h
   ·cases ht)
  have ee:Yy D [] P s i j d=P1.top s (Xy s i j d):=by
   show (match P.Qw s i j with|some P1=>P1.top s (Xy s i j d)|none=>none)=_;rw[e1]
  rw[ee,BG,BM];exact (Yd.since (k:=0) (k':=3) p ht).more (by simp)
 |t::way,l,s,O,H,P,L,Rr,i,j,d,X,Z,Y,h=>by
  obtain⟨P1,e1,K1,J,hs,a7,p,F⟩:=qcw h;have b0:Qs (l:Int)*2=Qo (l:Int)/\3<=Qs (l:Int):=by unfold Qs Qo;split<;>omega
  obtain⟨T,U,x,L',R',g1,W,g3,g4,g5,g6,g7,g8,g9,a0,a1,a2,a6⟩:=a7;have K:=q4r J;have Q:=q5e J;have hk:=q0o g5 (by rw[g1];show ¬((l+1:Nat):Int)=0;omega);have g:=hk.2.2.2.2.1;have E:=hk.2.2.2.1;rw[g1] at g E;have g:((T++x::U).map Qn).length<=12:=g;have E:2<=((T++x::U).map Qn).length:=E;simp only[AF,AD,AX] at g E;have hi:=h.high;rw[AX] at hi;have R:=h.least (by simp);have a4:=h.most;have hO:∀z∈O,(s.shared=false/\z=s.addr)\/(t.shared=false/\z=t.addr)\/∃t'∈way,t'.shared=false/\z=t'.addr:=λz u=>by
   rcases h.opens z u with hx|⟨t',a5,hx⟩
   ·exact .inl hx
   ·rcases List.mem_cons.1 a5 with e|a5
    ·rw[e] at hx;exact .inr (.inl hx)
    ·exact .inr (.inr ⟨t',a5,hx⟩)
  have ih:=λ{O H:LI} {P:Pl} {i j:Nat} {d:Nd} {X Z Y:List (List Qb)} (e:Eb D S0 C0 O H H0 P (l+1) t way L' R' i j d X Z Y)=>qaz way e
  have I:=h.rise;have G:=h.fine;have f:=h.few;have a3:=h.H0s;have ee:Yy D (t::way) P s i j d=match P1.have_ D s (Xy s i j d) t with
    |some (x,P2)=>match P2.Yo x with
     |some (P3,some ks)=>Yy D way P3 t x.i x.j ⟨x.N.lvl+1,[],ks⟩
     |some (P3,none)=>some (P3,none)
     |none=>none
    |none=>none:=by
   show (match P.Qw s i j with|some P1=>_|none=>none)=_;rw[e1];rfl
  generalize hM:X++(Z++Y)=M at J Q R a4 I G f F;generalize a9:Xy s i j d=b at J K Q K1 ee;rw[ee];unfold Pl.have_;by_cases c1:Qs b.lvl<=b.size
  ·-- enough
   rw[AA c1];dsimp only;have m:L++(M.flatten++Rr)=(L'++rowOf T)++(M.flatten++(rowOf U++R')):=by rw[a1,a2]
   rw[m] at I G f ⊢;have a8:=qkq (H0:=H0) K1 (l:=l) (t:=t) (way:=way) (L':=L') (R':=R') (N:=b) (M:=M) (olds:=[s]) (A:=T) (B:=[x]) (C:=U) J (by rw[K,Q] at c1;exact c1) (by omega) (λz u=>by rw[List.mem_singleton.1 u];exact hs) (List.pairwise_singleton _ _)
    (by rw[g1];rfl) (λz u=>g7 z (List.mem_append_left _ u)) (λz u=>g7 z (AU _ u)) g9 a0 (λa _ _=>by
     have e:(Zi (t::way) H0).count (a:Int)=(own t).count (a:Int)+((if t.shared=true then [] else (Zm t t.next (t.next+1)).named).count (a:Int)+(Zi way H0).count (a:Int)):=by
      show (own t++((if t.shared=true then [] else (Zm t t.next (t.next+1)).named)++Zi way H0)).count _=_;rw[A_,A_]
     rw[q2d g1 W] at e;rw[BC,List.flatMap_nil,BM];simp only[A_,e])
    (λz u=>by
     rcases hO z u with h|h
     ·exact .inl ⟨s,List.mem_singleton.2 rfl,h⟩
     ·exact .inr h)
    (by simp) (by simp;omega) (by simp;omega) (λhw=>by have:=g6 hw;simp;omega) I G f F a3 (by omega)
   have:=q80 (x:=⟨b,[s],t.next,t.next+1⟩) (n:=b.lvl+1) (by rw[W];exact a8) ih;rw[<-W] at this;exact (Yd.since (k:=0) p this).more (by rw[AX];omega)
  ·rw[AB c1];rw[K,Q] at c1;by_cases c2:0<t.next
   ·-- the neighbour ahead
    rw[AA c2];obtain⟨A,y,rfl⟩:∃A y,T=A++[y]:=⟨T.dropLast,T.getLast (λe=>by rw[W,e] at c2;cases c2),(List.dropLast_concat_getLast _).symm⟩;have m:L++(M.flatten++Rr)=(L'++rowOf A)++((if true=true then y.2++M.flatten else M.flatten++y.2)++(rowOf U++R')):=by
     rw[a1,a2,Ri,q6b,AA rfl];simp only[AM]
    rw[m] at I G f ⊢;simp only[AD,AX,List.length_nil] at W g6 g E;obtain⟨P2,O2,nb,j1,j2,j3,j4,j5⟩:=q9a (H0:=H0) true (x:=x) (y:=y) (A:=A) (C:=U) K1 a3 (by omega) (by rw[g1];simp) (by rw[W];rfl) g4 (by omega) (λhw=>by have:=g6 hw;omega) (λz u=>g7 z (by simp[u])) (λz u=>g7 z (by simp[u])) (g7 y (by simp)) (a6 y (by simp)) g9 hs a0 J (by omega) (by omega) hO I G f F;rw[AA rfl] at j1 j2;rw[j1,<-j2];simp only[if_true] at j5;simp only[Option.map_some];have en:t.next-1=A.length/\t.next+1=A.length+2:=by omega
    rw[en.1,en.2,j3];have:=q80 (n:=(l:Int)+1) j5 ih;exact (Yd.since (k:=0+0) (p.trans j4) this).more (by rw[AX];omega)
   ·-- the neighbour behind
    rw[AB c2];obtain rfl:T=[]:=BF (by omega);obtain⟨y,C,rfl⟩:∃y C,U=y::C:=by
     match U,E with
     |y::C,_=>exact⟨y,C,rfl⟩
     |[],h=>simp at h
    have m:L++(M.flatten++Rr)=(L'++rowOf [])++((if false=true then y.2++M.flatten else M.flatten++y.2)++(rowOf C++R')):=by
     rw[a1,a2,AB (by decide)];have:rowOf (y::C)=y.2++rowOf C:=by rw[show y::C=[y]++C from rfl,Ri,q6b]
     rw[this];simp only[AM]
    rw[m] at I G f ⊢;simp only[AX,List.length_nil] at W g6 g E;obtain⟨P2,O2,nb,j1,j2,j3,j4,j5⟩:=q9a (H0:=H0) false (x:=x) (y:=y) (A:=[]) (C:=C) K1 a3 (by omega) (by rw[g1];simp) (by rw[W];rfl) g4 (by simp;omega) (λhw=>by have:=g6 hw;simp;omega) (λz u=>by cases u) (λz u=>g7 z (by simp[u])) (g7 y (by simp)) (a6 y (by simp)) g9 hs a0 J (by omega) (by omega) hO I G f F;rw[AB (by decide)] at j1 j2;rw[j1,<-j2];simp only[Bool.false_eq_true,if_false] at j5;simp only[Option.map_some];have en:t.next=([]:List Zx).length/\t.next+2=([]:List Zx).length+2:=by simp;omega
    rw[en.2,K];have e3:t.next=([]:List Zx).length:=en.1;rw[e3];have:=q80 (n:=(l:Int)+1) j5 ih;exact (Yd.since (k:=0+0) (p.trans j4) this).more (by rw[AX];omega)
end
