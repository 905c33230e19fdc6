/- What is told of a tree from its root on -/
import Derived.Test.YtloolbmdiimanaaGreatDoorGv26
namespace Go.Proofs.YtloolbmdiimanaaGreatDoor
open Go Go.RowKit Go.Proofs Tryz
set_option maxHeartbeats 8000000
set_option maxRecDepth 100000
def Bh (R:Int->Nd × Int)(a:Int):Nat:=(R a).1.lvl.toNat
def D8 (R:Int->Nd × Int)(fr «to»:Kd)(most root:Int):List Qb × Int:=if root=0\/most<1 then ([],0) else Jo R fr «to» most.toNat (Bh R root) root []
theorem D7 {R:Int->Nd × Int}:∀{l:Nat} {a:Int} {its:List Qb},Qm R l a its->Bh R a=l/\(R a).1.lvl=(l:Int)/\(R a).2=0
 |0,a,its,h=>by
  unfold Bh;rw[h.1];exact⟨rfl,rfl,rfl⟩
 |l+1,a,its,h=>by
  obtain⟨kids,parts,h1,_⟩:=h;unfold Bh;rw[h1];exact⟨AJ _,rfl,rfl⟩
theorem qpn {R:Int->Nd × Int}{root:Int}{its:List Qb}(h:Xk R root its)(e:Qg its)(fr «to»:Kd)(most:Int):D8 R fr «to» most root=((within fr «to» its).take most.toNat,0):=by
 unfold D8;rcases h with⟨rfl,rfl⟩|⟨l,_,h,h1,_⟩
 ·rw[AA (.inl rfl)];simp[within]
 ·by_cases hm:most<1
  ·rw[AA (.inr hm),show most.toNat=0 by omega,List.take_zero]
  ·rw[AB (by omega),(D7 h).1,qdp fr «to» _ l root its [] h e (AW _),BG]
theorem qcn {ks:List Kd}(h:rises ks=true):∀(j i:Nat),i<j->j<ks.length->(keyAt ks i).less (keyAt ks j)=true
 |0,i,hi,_=>absurd hi (Nat.not_lt_zero _)
 |j+1,i,hi,hj=>by
  have h1:Ws ks (j+1)=true:=by
   unfold rises at h;rw[List.all_eq_true] at h;exact h _ (List.mem_range.2 hj)
  have h2:(keyAt ks j).less (keyAt ks (j+1))=true:=by
   unfold Ws at h1;simp at h1;exact h1.2
  by_cases e:i=j
  ·rw[e];exact h2
  ·exact Kd.trans _ _ _ (qcn h j i (by omega) (by omega)) h2
theorem q1c {N:Nd}(hm:N.may=true)(h0:N.lvl=0):N=⟨0,N.items,[]⟩/\Qg N.items/\1<=N.items.length/\N.items.length<=6:=by
 have E:=(Pe hm).1 h0;unfold Nd.may at hm;rw[AA h0,BN,BN] at hm;obtain⟨_,h2,f⟩:=hm;have f:=AK f;refine⟨by cases N;simp_all,?_,f.2⟩;have y:N.keys=N.items.map (·.k):=by unfold Nd.keys;rw[E];simp
 rw[y] at h2;unfold Qg;rw[List.pairwise_iff_getElem];intro i j hi p g;have:=qcn h2 j i g (by rw[AF];exact p);rw[q18 _ hi,q18 _ p] at this;have e:∀q (u:q<N.items.length),Qu N.items q=N.items[q]:=λq u=>by unfold Qu;rw[AG,AC u];rfl
 rwa [e i hi,e j p] at this
theorem q0o {N:Nd}(hm:N.may=true)(h0:N.lvl≠0):N=⟨N.lvl,[],N.kids⟩/\1<=N.lvl/\N.lvl<8/\2<=N.kids.length/\N.kids.length<=12/\∀k,N.Zo k<N.kids.length:=by
 have F:=(Pe hm).2 h0;unfold Nd.may at hm;rw[AB h0,BN,BN] at hm;obtain⟨_,h2,E⟩:=hm;obtain⟨g,p,_,u,y⟩:=AK E;refine⟨by cases N;simp_all,g,p,u,y,λk=>?_⟩;have f:N.keys=N.kids.map (·.k):=by unfold Nd.keys;rw[F];simp
 unfold Nd.Zo;rw[AB h0,f,AF];rcases qbm (N.kids.map (·.k)) k N.kids.length with e|e<;>omega
def Gl («to»:Kd)(most:Nat):List Qb->List Qb->List Qb
 |[],acc=>acc
 |x::r,acc=>if «to».less x.k=true\/most<=acc.length then acc else Gl «to» most r (acc++[x])
theorem qco {fr «to»:Kd}{most:Nat}:∀(r e:List Qb),Qg r->(∀x∈r,x.k.less fr=false)->e.length<=most->Gl «to» most r e=(e++within fr «to» r).take most
 |[],e,_,_,ha=>by
  show e=_;rw[show within fr «to» []=[] from rfl,BM,AN ha]
 |x::r,e,hr,hf,ha=>by
  obtain⟨u,E⟩:=List.pairwise_cons.1 hr;unfold Gl;by_cases f:«to».less x.k=true
  ·rw[AA (.inl f),q4f λz g=>.inr (by
    rcases List.mem_cons.1 g with rfl|g
    ·exact f
    ·exact Kd.trans _ _ _ f (u z g)),BM,AN ha]
  ·by_cases hm:most<=e.length
   ·rw[AA (.inr hm),q4g hm,AN ha]
   ·rw[AB (by rintro (h|h);exact f h;exact hm h),qco r _ E (λy p=>hf y (AO _ p)) (by rw[AD,List.length_singleton];omega)];have:within fr «to» (x::r)=x::within fr «to» r:=by
     unfold within;rw[List.filter_cons,hf x (AP ..),AA (by simp;simpa using f)]
    rw[this,AM];rfl
theorem qpo {its:List Qb}(O:Qg its)(fr «to»:Kd){most:Nat}(g:List Qb)(I:g.length<=most):Gl «to» most (its.drop (lead (its.map (·.k)) fr)) g=(g++within fr «to» its).take most:=by
 obtain⟨j,F⟩:∃j,lead (its.map (·.k)) fr=j:=⟨_,rfl⟩;have K:j<=its.length:=by have:=qbl (its.map (·.k)) fr;rw[AF] at this;omega
 have e:∀q (y:q<its.length),Qu its q=its[q]:=λq y=>by unfold Qu;rw[AG,AC y];rfl
 have h1:within fr «to» (its.take j)=[]:=q4f λx p=>.inl (by
  obtain⟨q,y,H⟩:=List.getElem_of_mem p;rw[AR] at y;have:=q6g (its.map (·.k)) fr q (by omega);rw[q18 its (by omega),e q (by omega)] at this;rw[<-H,List.getElem_take];exact this)
 have h2:within fr «to» its=within fr «to» (its.drop j):=by
  conv=>lhs;rw[<-AV j its]
  have:within fr «to» (its.take j++its.drop j)=within fr «to» (its.take j)++within fr «to» (its.drop j):=by unfold within;rw[List.filter_append]
  rw[this,h1,BG]
 rw[F,h2];have u:Qg (its.drop j):=by
  have:Qg (its.take j++its.drop j):=by rw[AV];exact O
  exact (List.pairwise_append.1 this).2.1
 refine qco _ g u (λx p=>?_) I;by_cases f:j<its.length
 ·have E:(Qu its j).k.less fr=false:=by
   have:=qbn (its.map (·.k)) fr (by rw[F,AF];exact f);rwa [F,q18 its f] at this
  rw[List.drop_eq_getElem_cons f] at p u;rcases List.mem_cons.1 p with rfl|p
  ·rw[<-e j f];exact E
  ·have G:=(List.pairwise_cons.1 u).1 x p;rw[<-e j f] at G
   cases J:x.k.less fr with
   |false=>rfl
   |true=>rw[Kd.trans _ _ _ G J] at E;cases E
 ·rw[List.drop_eq_nil_of_le (by omega)] at p
  cases p
theorem qah {P:Pl}{D:DM}{a:Int}(h:P.Qe D a≠0):P.Qd D a=Zz:=by
 unfold Pl.Qe at h;unfold Pl.Qd;by_cases h0:P.C.get a=0
 ·rw[AA h0]
 ·rw[AB h0] at h ⊢;split at h
  ·exact absurd rfl h
  ·rfl
  ·by_cases e:D.Jw a=0
   ·rw[AA e] at h ⊢;unfold Xm at h;unfold Xn
    cases f:Zd (D.Xh a) a with
    |none=>rfl
    |some N=>rw[f] at h;exact absurd rfl h
   ·rw[AB e]
structure Pl.Vr (P:Pl)(D:DM):Prop where
 may:∀a:Nat,a<P.C.n->P.C.get (a:Int)≠0->P.Qe D (a:Int)=0->(P.Qd D (a:Int)).may=true
 data:∀a:Nat,a<P.C.n->P.C.get (a:Int)≠0->P.Qe D (a:Int)=0->∀x∈(P.Qd D (a:Int)).items,∀c:Int,Ky x=some c->P.Qe D c≠0
 kids:∀a:Nat,a<P.C.n->P.C.get (a:Int)≠0->P.Qe D (a:Int)=0->∀x∈(P.Qd D (a:Int)).kids,∃c:Nat,x.a=(c:Int)/\0<c/\c<P.C.n/\P.C.get (c:Int)≠0/\P.Qe D (c:Int)=0/\(P.Qd D (c:Int)).lvl+1=(P.Qd D (a:Int)).lvl/\(P.Qd D (c:Int)).least=x.k
def Pl.Nw (P:Pl)(D:DM)(a:Nat):Nat:=if P.Qe D (a:Int)=0 then (P.Qd D (a:Int)).lvl.toNat+1 else 0
theorem q7t {N:Nd}(h:N.may=true):0<=N.lvl/\N.lvl<8:=by
 by_cases h0:N.lvl=0
 ·omega
 ·have:=(q0o h h0).2;omega
section
variable {P:Pl}{D:DM}
theorem q2t {b a:Nat}(hm:(a:Int)∈P.names D b):P.Qe D (b:Int)=0:=by
 by_cases h:P.Qe D (b:Int)=0
 ·exact h
 ·unfold Pl.names at hm;rw[qah h] at hm
  cases hm
theorem q5d {b:Nat}(h:P.Qe D (b:Int)=0):P.C.get (b:Int)≠0:=λe=>by
 unfold Pl.Qe at h;rw[AA e] at h
 cases h
theorem q7u (h:P.Vr D){b a:Nat}(p:b<P.C.n)(hm:(a:Int)∈P.names D b):((∃x∈(P.Qd D (b:Int)).kids,x.a=(a:Int))/\0<a/\a<P.C.n/\P.C.get (a:Int)≠0/\P.Qe D (a:Int)=0/\(P.Qd D (a:Int)).lvl+1=(P.Qd D (b:Int)).lvl)\/P.Qe D (a:Int)≠0:=by
 have g:=q2t hm;have h0:=q5d g;unfold Pl.names Nd.named at hm;rcases List.mem_append.1 hm with hm|hm
 ·obtain⟨x,f,e⟩:=List.mem_map.1 hm;obtain⟨c,h1,h2,u,y,E,F,_⟩:=h.kids b p h0 g x f;have:a=c:=by rw[h1] at e;omega
  subst this;exact .inl ⟨⟨x,f,e⟩,h2,u,y,E,F⟩
 ·obtain⟨x,f,e⟩:=List.mem_filterMap.1 hm;exact .inr (h.data b p h0 g x f _ e)
theorem qmn (h:P.Vr D)(b a:Nat)(g:b<P.C.n)(hm:(a:Int)∈P.names D b):P.Nw D a<P.Nw D b:=by
 have f:=q2t hm;unfold Pl.Nw;rw[AA f];rcases q7u h g hm with⟨_,y,p,u,e,E⟩|k
 ·have F:=q7t (h.may a p u e);rw[AA e];omega
 ·rw[AB k];omega
theorem qx6 (h:P.Vr D)(b:Nat):P.Nw D b<=8:=by
 unfold Pl.Nw;by_cases f:P.Qe D (b:Int)=0
 ·rw[AA f];have h0:=q5d f;obtain⟨c,e,g⟩:=Uh h0;have e:b=c:=by omega
  subst e;have p:=q7t (h.may b g h0 f);omega
 ·rw[AB f];omega
theorem qbw {H:LI}(O:P.Gi D H)(h:P.Vr D)(K:P.C.ok)(f:P.C.res){S:NP}(I:∀a:Nat,0<a->a<P.C.n->(a:Int)∈H->P.Qe D (a:Int)=0->S a)
  (G:∀b a:Nat,0<b->b<P.C.n->0<a->a<P.C.n->P.Qe D (b:Int)=0->S b->(∃x∈(P.Qd D (b:Int)).kids,x.a=(a:Int))->S a) (a:Nat) (h1:a<P.C.n) (h2:P.Qe D (a:Int)=0):S a:=by
 have y:1<=P.cnt a:=(qib K).2 (q5d h2);have g:0<a:=by
  rcases Nat.eq_zero_or_pos a with e|e
  ·subst e;have:=qk7 f;omega
  ·exact e
 exact J3.reached O (B:=8) (P.Nw D) (λb a p _ hm=>qmn h b a p hm) (qx6 h) (qk7 f) (S:=λa=>P.Qe D (a:Int)=0->S a) I (λb a E p g J _ u hm F=>by
  rcases q7u h p hm with⟨Q,_⟩|k
  ·exact G b a E p g J (q2t hm) (u (q2t hm)) Q
  ·exact absurd F k) (8-P.Nw D a) a (AE _) g h1 y h2
end
theorem qg7 {b:LU}{a:Int}{N:Nd}(h:Zd b a=some N):N.may=true:=by
 unfold Zd at h;split at h
 ·unfold Ci at h
  cases f:Js (Xo b).level (Un b) (Xo b).count.toNat with
  |none=>rw[f] at h;cases h
  |some x=>
   obtain⟨M,r⟩:=x;rw[f] at h;dsimp only at h;by_cases e:(Xo b).kind=(if (Xo b).level=0 then 3 else 4)/\(Xo b).addr=a/\Yc r=true/\M.may=true
   ·rw[AA e] at h;obtain rfl:=OI h;exact e.2.2.2
   ·rw[AB e] at h
    cases h
 ·cases h
theorem qpp {P:Pl}{D:DM}(y:∀a b,P.L a=some b->b.good)(a:Int)(h:(P.store D a).2=0):(P.store D a).1.may=true:=by
 obtain⟨n,rfl,hn,h0⟩:=qpk h
 cases p:P.live n with
 |some b=>
  obtain⟨N,rfl,e⟩:=qml h0 p h;rw[e];exact q43 (y n _ (q6y p).2)
 |none=>
  have f:P.Qe D (n:Int)=0:=h;unfold Pl.Qe at f;rw[AB h0,AJ,p] at f;dsimp only at f;by_cases g:D.Jw (n:Int)=0
  ·rw[qmk h0 p g];rw[AA g] at f;unfold Xm at f;unfold Xn
   cases u:Zd (D.Xh (n:Int)) (n:Int) with
   |some N=>exact qg7 u
   |none=>rw[u] at f;simp at f
  ·rw[AB g] at f;exact absurd f g
structure Src (w0:WD)(p:Nat)(R:Int->Nd × Int):Prop where
 node:∀u,Below w0.heap.size w0 u->Tab u->∀a,Calls prog 49 #[.pointer (some ⟨p,0,none⟩),.int .i64 a] u λe w'=>q6a (R a).1 (R a).2 u e w'
 may:∀a,(R a).2=0->(R a).1.may=true
theorem qyu {w:WD}{p d:Nat}{g S T:NP}{D:DM}{P:Pl}(f:Vp w d g D)(H:Pool w p d S T P)(y:∀a b,P.L a=some b->b.kindOk)(u:∀a b,P.L a=some b->b.good):Src w p (P.store D):=
 ⟨λ_ e E a=>qaf (f.below e) (H.below e) y E a,λa h=>qpp u a h⟩
theorem Src.below {w0 w1:WD}{p:Nat}{R:Int->Nd × Int}(h:Src w0 p R)(hb:Below w0.1.size w0 w1):Src w1 p R:=
 ⟨λu f e a=>h.node u (hb.trans (f.mono hb.size)) e a,h.may⟩
def Rl (w:WD)(lo hi:Nat)(A:OA)(n:Nat)(xs:List Qb):Prop:=
 ∀j,j<n->∃g o V p q,A=some ⟨g,o,none⟩/\g<w.1.size/\w.cell? ⟨g,o+j*4,none⟩=some (.int .i64 (Qu xs j).k.obj)/\w.cell? ⟨g,o+j*4+1,none⟩=some (.int .i64 (Qu xs j).k.kind)/\
  w.cell? ⟨g,o+j*4+2,none⟩=some (.int .i64 (Qu xs j).k.off)/\w.cell? ⟨g,o+j*4+3,none⟩=some (.slice V p q)/\Sl w V p q (Qu xs j).v/\((Qu xs j).v≠[]->∀b,q01 V=some b->lo<=b/\b<hi)
def Held (w:WD)(lo hi:Nat)(A:OA)(n c:Nat)(B:OA)(m d:Nat)(M:Nd):Prop:=
 hi<=w.1.size/\n<=20/\m<=20/\∀w',w.1.size<=w'.1.size->(∀k,lo<=k->k<hi->w'.1[k]?=w.1[k]?)->J5 w' lo A n c M.items/\Zn w' B m d M.kids/\Rl w' lo hi A n M.items
section
variable {w w':WD}{lo hi n c m d:Nat}{A B:OA}{M:Nd}
theorem Held.rows (h:Held w lo hi A n c B m d M):J5 w lo A n c M.items/\Zn w B m d M.kids:=by
 obtain⟨a,b,_⟩:=h.2.2.2 w (AE _) λ_ _ _=>rfl
 exact⟨a,b⟩
theorem Held.vals (h:Held w lo hi A n c B m d M):Rl w lo hi A n M.items:=(h.2.2.2 w (AE _) λ_ _ _=>rfl).2.2
theorem Held.turn {S:NP}(h:Held w lo hi A n c B m d M)(t:Turn S w w')(hS:∀k,lo<=k->k<hi->¬S k):Held w' lo hi A n c B m d M:=by
 obtain⟨h1,h2,g,p⟩:=h;have u:∀k,lo<=k->k<hi->w'.1[k]?=w.1[k]?:=λk e f=>t.block k (by omega) (hS k e f)
 exact⟨AZ h1 t.size,h2,g,λF E y=>p F (AZ t.size E) λk a b=>(y k a b).trans (u k a b)⟩
theorem Held.below (h:Held w lo hi A n c B m d M)(hb:Below w.1.size w w'):Held w' lo hi A n c B m d M:=h.turn (Zb (S:=λ_=>False) hb) λ_ _ _ h=>h
end
theorem qg8 {w w':WD}{base n c:Nat}{A:OA}{xs:List Qb}(h:J5 w base A n c xs)(W:w.1.size<=w'.1.size)(I:∀k,base<=k->k<w.1.size->w'.1[k]?=w.1[k]?):J5 w' base A n c xs:=by
 obtain⟨G,h1,h2,O⟩:=h;refine⟨G,h1.keep λg a b=>I g a b,h2,λj r x R U=>?_⟩;obtain⟨V,p,q,e,y,f⟩:=O j r x R U;refine⟨V,p,q,e,⟨y.1,y.2.1,y.2.2.1,λi u F=>?_⟩,f⟩;obtain⟨E,H,J,K⟩:=y.2.2.2 i u F;have T:x.v≠[]:=λe=>by rw[e] at F;simp at F
 have Q:=(f T E.block (by rw[H];rfl)).1;exact⟨E,H,by omega,(AY (a:=E.add i) (by rw[Oa];exact I _ Q J)).trans K⟩
theorem qpq {w w':WD}{lo n c:Nat}{A:OA}{xs:List Qb}(h:J5 w lo A n c xs)(hz:w.1.size<=w'.1.size)(R:∀k,lo<=k->k<w.1.size->w'.1[k]?=w.1[k]?):Rl w' lo w.1.size A n xs:=λj hj=>by
 obtain⟨f,h1,h2,X⟩:=h;have hl:f.length=n:=h1.len (by omega);have T:f[j]?=some (f[j]'(by omega)):=AC (by omega);have Z:=Et (xs:=xs) (j:=j) (by omega);obtain⟨V,p,q,e,F,E⟩:=X j _ _ T Z;obtain⟨g,o,O,Y,_,Q⟩:=(h1.Um (by omega)).2.2.2 j _ T;rw[e] at Q;have I:=(h1.Qc g (by rw[O];rfl)).1;have cell:∀i v,(Vg (Qu xs j).k V p q)[i]?=some v->w'.cell? ⟨g,o+j*4+i,none⟩=some v:=λi v y=>(AY (a:=⟨g,_,none⟩) (R g I Y)).trans (Q i v y)
 refine⟨g,o,V,p,q,O,by omega,cell 0 _ rfl,cell 1 _ rfl,cell 2 _ rfl,cell 3 _ rfl,⟨F.1,F.2.1,F.2.2.1,λi u J=>?_⟩,λy b G=>⟨(E y b G).1,F.Qc y b G⟩⟩;obtain⟨H,K,U,W⟩:=F.2.2.2 i u J;have y:(Qu xs j).v≠[]:=λe=>by rw[e] at J;simp at J
 have G:=(E y H.block (by rw[K];rfl)).1;exact⟨H,K,by omega,(AY (a:=H.add i) (by rw[Oa];exact R _ G U)).trans W⟩
theorem qpr {w w':WD}{A B:OA}{n c m d:Nat}{M:Nd}(hn:n<=20)(hm:m<=20)(f:J5 w' w.1.size A n c M.items)(u:Qz w' w.1.size 159 4 B m d (M.kids.map Qk.vs)):Held w' w.1.size w'.1.size A n c B m d M:=
 ⟨AE _,hn,hm,λy p e=>⟨qg8 f p e,(u.keep λg a b=>e g a b).Um (by omega),qpq f p e⟩⟩
theorem NB.turned {w w':WD}{b:Nat}{l:Int}{A B:OA}{n c m d:Nat}(H:NB w b l A n c B m d){S:NP}(T:Turn S w w')(hb:¬S b):NB w' b l A n c B m d:=H.keep (T.block b H.lt hb)
def Ie (R:Int->Nd × Int)(l a:Int):Int:=if (R a).2≠0 then (R a).2 else if (R a).1.lvl≠l-1 then 5 else 0
def Lu (R:Int->Nd × Int)(l a:Int):Nd:=if (R a).2≠0 then Zz else if (R a).1.lvl≠l-1 then Zz else (R a).1
theorem qtw {w0 w:WD}{p:Nat}{R:Int->Nd × Int}(H:Src w0 p R)(B0:Below w0.1.size w0 w)(ht:Tab w)(l:Int)(a5:1<=l)(a6:l<8)(kids:List Qk)(A:OA)(n c:Nat)(B:OA)(m d:Nat)(hK:Zn w B m d kids)(i:Nat)(hi:i<m)(x:Int)(G:(Qi kids i).a=x) :
  Calls prog 88 #[.pointer (some ⟨p,0,none⟩),.agg #[.int .i64 l,.slice A n c,.slice B m d],.int .i64 (i:Int)] w λe w'=>q6a (Lu R l x) (Ie R l x) w e w':=by
 obtain⟨g,o,rfl,hg,-,-,-,k3⟩:=hK.cell hi;rw[G] at k3;have K:NB ((w.alloc (.cells #[.int .i64 l,.slice A n c,.slice (some ⟨g,o,none⟩) m d] 108)).alloc (.cells #[.int .i64 0,.slice none 0 0,.slice none 0 0] 108)) w.1.size l A n c (some ⟨g,o,none⟩) m d:=(NB.new w _ _ _ _ _ _ _ _).below (Ql) (by simp);have U:NB ((w.alloc (.cells #[.int .i64 l,.slice A n c,.slice (some ⟨g,o,none⟩) m d] 108)).alloc (.cells #[.int .i64 0,.slice none 0 0,.slice none 0 0] 108)) (w.1.size+1) 0 none 0 0 none 0 0:=by
  have:=NB.new (w.alloc (.cells #[.int .i64 l,.slice A n c,.slice (some ⟨g,o,none⟩) m d] 108)) 0 none 0 0 none 0 0 108;rwa [BH] at this
 have y:Below w.1.size w ((w.alloc (.cells #[.int .i64 l,.slice A n c,.slice (some ⟨g,o,none⟩) m d] 108)).alloc (.cells #[.int .i64 0,.slice none 0 0,.slice none 0 0] 108)):=(Ql).alloc (by simp) _;have z1:((w.alloc (.cells #[.int .i64 l,.slice A n c,.slice (some ⟨g,o,none⟩) m d] 108)).alloc (.cells #[.int .i64 0,.slice none 0 0,.slice none 0 0] 108)).1.size=w.1.size+2:=by simp
 have q2:=K.c2;have I:=(y.cell (p:=⟨g,_,none⟩) hg).trans k3;have Hn:=HI (λu hu tu=>H.node u hu tu x);have zw:=B0.size;have hj:(0:Int)<=(i:Int):=by omega
 have a4:(i:Int)<(m:Int):=by omega
 obtain⟨_,a7⟩:=hK.bounds;clear k3 hK;obtain⟨M,E,hR⟩:∃M E,R x=(M,E):=⟨_,_,rfl⟩;rw[hR] at Hn;unfold Lu Ie;rw[hR];dsimp only;clear hR;by_cases T:E=0
 ·have g1:(E==0)=true:=by simp[T]
  have g2:(E != 0)=false:=by simp[T]
  by_cases Y:M.lvl=l-1
  ·have g3:(M.lvl==l-1)=true:=by simp[Y]
   have g4:(M.lvl != l-1)=false:=by simp[Y]
   simp only[AB (show ¬E≠0 by simpa using T),AB (show ¬M.lvl≠l-1 by simpa using Y)];clear Y T;go_enter func88,ntmps88
   go_wp2_with fail
   generalize (w.alloc (.cells #[.int .i64 l,.slice A n c,.slice (some ⟨g,o,none⟩) m d] 108)).alloc (.cells #[.int .i64 0,.slice none 0 0,.slice none 0 0] 108)=w1 at K U y z1 q2 I ⊢;have t1:=ht.below y ht.1;refine (Hn.out w1 (B0.trans (y.mono zw)) t1).mono ?_;clear q2 I;rintro e f ⟨Z,n1,c1,B1,m1,d1,rfl,a2,a1,hI,a0,F⟩;have z2:=F.size;have N2:=K.below F K.lt;have J:=U.below F U.lt;have W:=y.trans (F.mono y.size);have N3:NB (f.alloc (.cells #[.int .i64 0,.slice none 0 0,.slice none 0 0] 108)) f.1.size 0 none 0 0 none 0 0:=NB.new f _ _ _ _ _ _ _ _;have Q:Below f.1.size f (f.alloc (.cells #[.int .i64 0,.slice none 0 0,.slice none 0 0] 108)):=Ql;have R3:=J.below Q J.lt;have zz:=J.lt;have X2:NB f w.1.size l A n c (some ⟨g,o,none⟩) m d:=N2;go_wp2_with (first
    |(refine Ae rfl (.tmp 6) _ rfl (w.1.size+1) rfl M.lvl Z n1 c1 B1 m1 d1 rfl R4 ?_;intro w5 R5 T5)
    |(refine Ae rfl (.tmp 8) _ rfl f.1.size rfl M.lvl Z n1 c1 B1 m1 d1 rfl N3 ?_;intro w4 N4 O;have R4:NB w4 (w.1.size+1) 0 none 0 0 none 0 0:=R3.turned O (λh=>by have h:w.1.size+1=f.1.size:=h;omega);have p0:=N4.c0;have a3:=((X2.below Q X2.lt).turned O (λh=>by have h:w.1.size=f.1.size:=h;omega)).c0;have p1:=N4.c1;have p2:=N4.c2)
    |fail)
   have X:Turn (λk=>k=w.1.size+1) f w5:=((Zb (S:=λk=>k=w.1.size+1) Q).trans O (λx G=>.inr (by have:x=f.1.size:=G;omega))).trans T5 (λx G=>.inl G);refine bodyPost_ret (Ag Tryz.results88 rfl (Ik R5)) rfl ?_;exact⟨Z,n1,c1,B1,m1,d1,rfl,a2,a1,(qg8 hI X.size λk h1 h2=>X.block k h2 (by intro (h:k=w.1.size+1);omega)).less (by omega),(a0.keep λk h1 h2=>X.block k h2 (by intro (h:k=w.1.size+1);omega)).less (by omega),W.trans (X.below (λk hk=>by have:k=w.1.size+1:=hk;omega) W.size)⟩
  ·have g3:(M.lvl==l-1)=false:=by simp[Y]
   have g4:(M.lvl != l-1)=true:=by simp[Y]
   simp only[AB (show ¬E≠0 by simpa using T),AA (show M.lvl≠l-1 from Y)];clear Y T;go_enter func88,ntmps88
   go_wp2_with fail
   generalize (w.alloc (.cells #[.int .i64 l,.slice A n c,.slice (some ⟨g,o,none⟩) m d] 108)).alloc (.cells #[.int .i64 0,.slice none 0 0,.slice none 0 0] 108)=w1 at K U y z1 q2 I ⊢;have t1:=ht.below y ht.1;refine (Hn.out w1 (B0.trans (y.mono zw)) t1).mono ?_;clear q2 I;rintro e f ⟨Z,n1,c1,B1,m1,d1,rfl,a2,a1,hI,a0,F⟩;have z2:=F.size;have N2:=K.below F K.lt;have J:=U.below F U.lt;have W:=y.trans (F.mono y.size);have N3:NB (f.alloc (.cells #[.int .i64 0,.slice none 0 0,.slice none 0 0] 108)) f.1.size 0 none 0 0 none 0 0:=NB.new f _ _ _ _ _ _ _ _;have Q:Below f.1.size f (f.alloc (.cells #[.int .i64 0,.slice none 0 0,.slice none 0 0] 108)):=Ql;have R3:=J.below Q J.lt;have zz:=J.lt;have X2:NB f w.1.size l A n c (some ⟨g,o,none⟩) m d:=N2;go_wp2_with (first
    |(refine Ae rfl (.tmp 6) _ rfl (w.1.size+1) rfl 0 none 0 0 none 0 0 rfl R4 ?_;intro w5 R5 T5)
    |(refine Ae rfl (.tmp 8) _ rfl f.1.size rfl M.lvl Z n1 c1 B1 m1 d1 rfl N3 ?_;intro w4 N4 O;have R4:NB w4 (w.1.size+1) 0 none 0 0 none 0 0:=R3.turned O (λh=>by have h:w.1.size+1=f.1.size:=h;omega);have p0:=N4.c0;have a3:=((X2.below Q X2.lt).turned O (λh=>by have h:w.1.size=f.1.size:=h;omega)).c0)
    |fail)
   have X:Turn (λk=>k=w.1.size+1) f w5:=((Zb (S:=λk=>k=w.1.size+1) Q).trans O (λx G=>.inr (by have:x=f.1.size:=G;omega))).trans T5 (λx G=>.inl G);refine bodyPost_ret (Ag Tryz.results88 rfl (Ik R5)) rfl ?_;exact⟨none,0,0,none,0,0,rfl,by omega,by omega,P6 _ _,I5 _ _ _ _,W.trans (X.below (λk hk=>by have:k=w.1.size+1:=hk;omega) W.size)⟩
 ·have g1:(E==0)=false:=by simp[T]
  have g2:(E != 0)=true:=by simp[T]
  simp only[AA (show E≠0 from T)];clear T;go_enter func88,ntmps88
  go_wp2_with fail
  generalize (w.alloc (.cells #[.int .i64 l,.slice A n c,.slice (some ⟨g,o,none⟩) m d] 108)).alloc (.cells #[.int .i64 0,.slice none 0 0,.slice none 0 0] 108)=w1 at K U y z1 q2 I ⊢;have t1:=ht.below y ht.1;refine (Hn.out w1 (B0.trans (y.mono zw)) t1).mono ?_;clear q2 I;rintro e f ⟨Z,n1,c1,B1,m1,d1,rfl,a2,a1,hI,a0,F⟩;have z2:=F.size;have N2:=K.below F K.lt;have J:=U.below F U.lt;have W:=y.trans (F.mono y.size);have N3:NB (f.alloc (.cells #[.int .i64 0,.slice none 0 0,.slice none 0 0] 108)) f.1.size 0 none 0 0 none 0 0:=NB.new f _ _ _ _ _ _ _ _;have Q:Below f.1.size f (f.alloc (.cells #[.int .i64 0,.slice none 0 0,.slice none 0 0] 108)):=Ql;have R3:=J.below Q J.lt;have zz:=J.lt;have X2:NB f w.1.size l A n c (some ⟨g,o,none⟩) m d:=N2;go_wp2_with (first
   |(refine Ae rfl (.tmp 6) _ rfl (w.1.size+1) rfl 0 none 0 0 none 0 0 rfl R4 ?_;intro w5 R5 T5)
   |(refine Ae rfl (.tmp 8) _ rfl f.1.size rfl M.lvl Z n1 c1 B1 m1 d1 rfl N3 ?_;intro w4 N4 O;have R4:NB w4 (w.1.size+1) 0 none 0 0 none 0 0:=R3.turned O (λh=>by have h:w.1.size+1=f.1.size:=h;omega))
   |fail)
  have X:Turn (λk=>k=w.1.size+1) f w5:=((Zb (S:=λk=>k=w.1.size+1) Q).trans O (λx G=>.inr (by have:x=f.1.size:=G;omega))).trans T5 (λx G=>.inl G);refine bodyPost_ret (Ag Tryz.results88 rfl (Ik R5)) rfl ?_;exact⟨none,0,0,none,0,0,rfl,by omega,by omega,P6 _ _,I5 _ _ _ _,W.trans (X.below (λk hk=>by have:k=w.1.size+1:=hk;omega) W.size)⟩
structure Le (w:WD)(lim base vb mb tb:Nat)(most:Int)(tk:Kd)(A:OA)(acc:List Qb):Prop where
 var:∃t c,w.heap[vb]?=some (.cells #[.slice A acc.length c] t (0,0))/\J5 w lim A acc.length c acc/\∀k,q01 A=some k->base<=k
 many:∃t,w.heap[mb]?=some (.cells #[.int .i64 most] t (0,0))
 last:KB w tb tk
 Qda:lim<=base
 lt:vb<base/\mb<base/\tb<base/\base<=w.heap.size/\mb≠vb/\tb≠vb
theorem Le.below {w w':WD}{lim base vb mb tb:Nat}{most:Int}{tk:Kd}{A:OA}{acc:List Qb}(h:Le w lim base vb mb tb most tk A acc)(hb:Below w.1.size w w'):Le w' lim base vb mb tb most tk A acc:=by
 obtain⟨⟨t,c,h1,h2,f⟩,⟨y,g⟩,p,u,e⟩:=h;exact⟨⟨t,c,(hb.block vb (Kw h1)).trans h1,h2.below hb,f⟩,⟨y,(hb.block mb (Kw g)).trans g⟩,p.below hb p.lt,u,⟨e.1,e.2.1,e.2.2.1,AZ e.2.2.2.1 hb.size,e.2.2.2.2⟩⟩
theorem qyv {w:WD}{vb:Nat}{A:OA}{n c:Nat}{t:TypeId}(F:w.1[vb]?=some (.cells #[.slice A n c] t (0,0))){V:OA}{p q:Nat}{x:LU}(h:Sl w V p q x)(G:x≠[]):∀k,q01 V=some k->k≠vb:=λk f e=>by
 subst e;have E:0<x.length:=List.length_pos_iff.2 G;obtain⟨g,u,I,y⟩:=h.2.2.2 0 (bv x[0]) (by rw[BA,AC E];rfl);rw[u] at f;have f:g.block=k:=OI f;have h1:w.1[(g.add 0).block]?=some (.cells #[.slice A n c] t (0,0)):=by rw[Oa,f];exact F
 have h2:=qia h1 y;obtain⟨z,H⟩:∃z,(g.add 0).off=z:=⟨_,rfl⟩;rw[H] at h2;match z,h2 with
 |0,h2=>injection h2 with h2;cases h2
 |z+1,h2=>simp at h2
theorem qps {w w':WD}{base vb n c K c2:Nat}{A F:OA}{t:TypeId}{xs:List Qb}(h:J5 w base A n c xs)(J:w.1[vb]?=some (.cells #[.slice F K c2] t (0,0)))(H:∀k,q01 A=some k->k≠vb)(T:Turn (λk=>k=vb) w w'):J5 w' base A n c xs:=by
 obtain⟨y,h1,h2,G⟩:=h;refine⟨y,h1.turned T (λk f=>H k f),h2,λj r x I u=>?_⟩;obtain⟨V,p,q,e,E,g⟩:=G j r x I u;exact⟨V,p,q,e,E.turned' T (λu k f=>qyv J E u k f),g⟩
theorem qai {w:WD}{lim base vb mb tb:Nat}{most:Int}{«to»:Kd}{A:OA}{f:List Qb}(h:Le w lim base vb mb tb most «to» A f)(k:Kd)(r:Bool)(g:(decide ((f.length:Int)<most)&&!(«to».less k))=r) :
  Calls prog 50 #[.agg #[.int .i64 k.obj,.int .i64 k.kind,.int .i64 k.off],.pointer (some ⟨vb,0,none⟩),.pointer (some ⟨mb,0,none⟩),.pointer (some ⟨tb,0,none⟩)] w λe w'=>e=.returned (.bool r)/\Below w.1.size w w':=by
 obtain⟨y,p⟩:=Y3 w k;have h1:=h.below p;obtain⟨⟨t,c,E,-⟩,⟨T,hm⟩,u,-,-⟩:=h1;have c0:=cell_of_one E;have c1:=cell_of_one hm;have I:=y.c0;have J:=y.c1;have K:=y.c2;have O:=u.c0;have Q:=u.c1;have R:=u.c2;clear E hm u h;by_cases hn:(f.length:Int)<most
 ·rw[AL hn,Bool.true_and] at g;have F:=HI (qlc «to» k (w.alloc (.cells #[.int .i64 k.obj,.int .i64 k.kind,.int .i64 k.off] 81)));have G:=HI g;clear g;go_enter func50,ntmps50
  go_wp2_with fail
  refine F.out.mono ?_;rintro e U ⟨rfl,H⟩;go_wp2_with fail
  go_ret;exact⟨by rw[<-G.out];rfl,p.trans (H.mono p.size)⟩
 ·rw[AH hn,Bool.false_and] at g;subst g;go_enter func50,ntmps50
  go_wp2_with fail
  go_ret;exact⟨rfl,p⟩
theorem qpt {w:WD}{lim base vb mb tb:Nat}{most:Int}{«to»:Kd}{A:OA}{f:List Qb}(h:Le w lim base vb mb tb most «to» A f)(x:Qb)(V:OA)(p q:Nat)(hs:Sl w V p q x.v)(hV:x.v≠[]->∀g,q01 V=some g->lim<=g/\q01 A≠some g)(hn:f.length<=100000) :
  Calls prog 53 #[.agg #[.int .i64 x.k.obj,.int .i64 x.k.kind,.int .i64 x.k.off,.slice V p q],.pointer (some ⟨vb,0,none⟩)] w λe w'=>e=.returned (.tuple #[])/\∃K,Le w' lim base vb mb tb most «to» K (f++[x])/\Turn (λk=>k=vb\/q01 A=some k) w w'/\∀k,q01 K=some k->q01 A=some k\/w.1.size<=k:=by
 have O:Below w.1.size w ((w.alloc (.cells #[.int .i64 x.k.obj,.int .i64 x.k.kind,.int .i64 x.k.off,.slice V p q] 84)).alloc (.cells #[.int .i64 x.k.obj,.int .i64 x.k.kind,.int .i64 x.k.off,.slice V p q] 84)):=(Ql).alloc (by simp) _;have b0:Below w.1.size w (w.alloc (.cells #[.int .i64 x.k.obj,.int .i64 x.k.kind,.int .i64 x.k.off,.slice V p q] 84)):=Ql;have z1:((w.alloc (.cells #[.int .i64 x.k.obj,.int .i64 x.k.kind,.int .i64 x.k.off,.slice V p q] 84)).alloc (.cells #[.int .i64 x.k.obj,.int .i64 x.k.kind,.int .i64 x.k.off,.slice V p q] 84)).1.size=w.1.size+2:=by simp
 have u:(w.alloc (.cells #[.int .i64 x.k.obj,.int .i64 x.k.kind,.int .i64 x.k.off,.slice V p q] 84)).1[w.1.size]?=some (.cells #[.int .i64 x.k.obj,.int .i64 x.k.kind,.int .i64 x.k.off,.slice V p q] 84 (0,0)):=BE w _;have q0:(w.alloc (.cells #[.int .i64 x.k.obj,.int .i64 x.k.kind,.int .i64 x.k.off,.slice V p q] 84)).cell? ⟨w.1.size,0,none⟩=some (.int .i64 x.k.obj):=by rw[cell_of_row _ _ _ _ _ _ u];rfl
 have q1:(w.alloc (.cells #[.int .i64 x.k.obj,.int .i64 x.k.kind,.int .i64 x.k.off,.slice V p q] 84)).cell? ⟨w.1.size,1,none⟩=some (.int .i64 x.k.kind):=by rw[cell_of_row _ _ _ _ _ _ u];rfl
 have q2:(w.alloc (.cells #[.int .i64 x.k.obj,.int .i64 x.k.kind,.int .i64 x.k.off,.slice V p q] 84)).cell? ⟨w.1.size,2,none⟩=some (.int .i64 x.k.off):=by rw[cell_of_row _ _ _ _ _ _ u];rfl
 have q3:(w.alloc (.cells #[.int .i64 x.k.obj,.int .i64 x.k.kind,.int .i64 x.k.off,.slice V p q] 84)).cell? ⟨w.1.size,3,none⟩=some (.slice V p q):=by rw[cell_of_row _ _ _ _ _ _ u];rfl
 have H:Jy ((w.alloc (.cells #[.int .i64 x.k.obj,.int .i64 x.k.kind,.int .i64 x.k.off,.slice V p q] 84)).alloc (.cells #[.int .i64 x.k.obj,.int .i64 x.k.kind,.int .i64 x.k.off,.slice V p q] 84)) 4 (some ⟨w.1.size+1,0,none⟩) 1 1 [Vg x.k V p q]:=by
  have:=(q1n (w.alloc (.cells #[.int .i64 x.k.obj,.int .i64 x.k.kind,.int .i64 x.k.off,.slice V p q] 84)) 84 4 (Vg x.k V p q) _ rfl rfl).Um (by omega);rwa [BH] at this
 obtain⟨⟨t,c,hv,row,G⟩,⟨t2,hm⟩,E,X,⟨l1,l2,l3,l4,l5,l6⟩⟩:=h;have a2:=Kw hv;have a6:=Kw hm;have a5:=E.lt;have c0:=cell_of_one ((b0.block vb a2).trans hv);have a1:=(O.block vb a2).trans hv;have Y:=(O.block mb a6).trans hm;have U:=E.below O a5;have a4:=row.below O;have T:∀k,q01 A=some k->base<=k/\k<w.1.size:=λk y=>⟨G k y,(row.Qc k y).2⟩
 have a8:=hs.below O;clear row hv hm E hs u;go_enter func53,ntmps53
 go_wp2_with (first
  |(at_builtin;refine q5w rfl _ _ rfl lim A f.length c f rfl a4 (some ⟨w.1.size+1,0,none⟩) 1 x V p q rfl H a8 hV hn (by omega) ?_)
  |fail)
 intro K c6 w3 a3 Q I;have J:∀b,b<base->¬q01 A=some b:=λb hb h=>by have:=(T b h).1;omega
 have F:=(Q.block vb (by omega) (J vb l1)).trans a1;have h3:=cell_of_one F;have f3:=free_of_one F;have a7:∀k,q01 K=some k->k≠vb:=λk y e=>by
  rcases I with h|h
  ·rw[h] at y;have:=(T k y).1;omega
  ·rw[h] at y;have:=OI y;omega
 have R:Turn (λk=>k=vb) w3 (w3.setCell ⟨vb,0,none⟩ (.slice K (f.length+1) c6)):=Cc (a:=⟨vb,0,none⟩) _ rfl;have z3:=Q.size;have Z:=(Q.block mb (by omega) (J mb l2)).trans Y;have W:=U.keep (Q.block tb (by omega) (J tb l3));have a0:=Kw Z;clear c0 q0 q1 q2 q3 H Y U a1;go_wp2;go_end0
 have e:(f++[x]).length=f.length+1:=by simp
 refine⟨rfl,K,⟨⟨t,c6,by rw[e];exact one_setCell F,by rw[e];exact qps a3 F a7 R,λk y=>?_⟩,⟨t2,(R.block mb a0 l5).trans Z⟩,W.keep (R.block tb W.lt l6),X,⟨l1,l2,l3,by have:=R.size;omega,l5,l6⟩⟩,((Zb (S:=λk=>k=vb\/q01 A=some k) O).trans Q (λk h=>.inl (.inr h))).trans R (λk h=>.inl (.inl h)),λk y=>?_⟩
 ·rcases I with h|h
  ·exact G k (h▸y)
  ·rw[h] at y;have:=OI y;omega
 ·rcases I with h|h
  ·exact .inl (h▸y)
  ·rw[h] at y;have:=OI y;exact .inr (by omega)
