/- The way down «to» a key's leaf: each node that is the tree's own is opened -/
import Derived.Test.YtnjacafcocnicaaGreatDoorDv30
namespace Go.Proofs.YtnjacafcocnicaaGreatDoor
open Go Go.RowKit Go.Proofs
theorem qhc {R:Int->Nd × Int}:∀{l:Nat} {a:Int} {its f:List Qc},Qs R l a its->Qs R l a f->its=f
 |0,a,its,f,h,h'=>by
  have e:=h.1.symm.trans h'.1;injection e with p _;injection p
 |l+1,a,its,f,h,h'=>by
  obtain⟨kids,parts,h1,h2,M,rfl,G⟩:=h;obtain⟨A,m,q,E,F,rfl,u⟩:=h';have e:=h1.symm.trans q;injection e with p _;injection p with _ _ B;subst B;congr 1
  apply List.ext_getElem
  ·omega
  ·intro j I y;have J:=(G j (by omega)).1;have K:=(u j (by omega)).1;have:=qhc J K;rw[AG,AC I,AG,AC y] at this;exact this
theorem qsc {G:List Jc}{x:Qc}(h:x∈rowOf G):∃q,∃f:q<G.length,x∈(G[q]).2:=by
 obtain⟨t,m,p⟩:=qrn.1 h;obtain⟨q,f,e⟩:=List.getElem_of_mem m;exact⟨q,f,by rw[e];exact p⟩
theorem qsd {R:Int->Nd × Int}{l:Nat}{G:List Jc}(Q:∀x∈G,good1 R l x)(E:Qo (rowOf G))(h0:G≠[])(k:Kd) :
  ∃j,(⟨((l+1:Nat):Int),[],G.map Qr⟩:Nd).Zw k=j/\j<G.length/\(∀x∈rowOf (G.take j),x.k.less k=true)/\(∀x∈rowOf (G.drop (j+1)),k.less x.k=true):=by
 have U:(⟨((l+1:Nat):Int),[],G.map Qr⟩:Nd).Zw k=lastTo ((G.map Qr).map (·.k)) k (G.map Qr).length:=by
  unfold Nd.Zw;have:¬((l+1:Nat):Int)=0:=by omega
  dsimp only;rw[AB this,q7o,AF]
 obtain⟨j,J⟩:∃j,lastTo ((G.map Qr).map (·.k)) k (G.map Qr).length=j:=⟨_,rfl⟩;have V:0<G.length:=List.length_pos_iff.2 h0;have T:(G.map Qr).length=G.length:=AF ..;have m:j<G.length:=by
  rcases qc5 ((G.map Qr).map (·.k)) k (G.map Qr).length with e|e<;>omega
 have u:∀q (p:q<G.length),keyAt ((G.map Qr).map (·.k)) q=(Zc (G[q]).2 0).k:=λq p=>by
  rw[qc8 _ (by omega),qed p];rfl
 have A:∀q (p:q<G.length),∃y r,(G[q]).2=y::r:=λq p=>q6u (Q _ (List.getElem_mem p)).1
 have E:Qo (G.map (·.2)).flatten:=E;refine⟨j,by rw[U,J],m,λx f=>?_,λx f=>?_⟩
 ·obtain⟨q,p,f⟩:=qsc f;rw[List.getElem_take] at f;rw[AR] at p;obtain⟨z,s,I⟩:=A j m;have M:x.k.less z.k=true:=q8y (parts:=G.map (·.2)) E (i:=q) (j:=j) (by omega) (by rw[AF];omega) (by rw[q58 (by omega)];exact f) (by rw[q58 m,I];exact AP ..);have B:k.less z.k=false:=by
   have:=q8x ((G.map Qr).map (·.k)) k (G.map Qr).length (by omega);rw[J,u j m,I] at this;exact this
  exact qe7 M B
 ·obtain⟨q,p,f⟩:=qsc f;rw[List.getElem_drop] at f;rw[AS] at p;obtain⟨y,r,F⟩:=A (j+1+q) (by omega);have B:k.less y.k=true:=by
   have:=q9m ((G.map Qr).map (·.k)) k (G.map Qr).length (j+1+q) (by omega) (by omega);rw[u _ (by omega),F] at this;exact this
  rw[F] at f;rcases List.mem_cons.1 f with rfl|f
  ·exact B
  ·have K:=qe8 E (j+1+q);rw[q58 (by omega),F] at K;exact Kd.trans _ _ _ B ((List.pairwise_cons.1 K).1 x f)
theorem qjt {R:Int->Nd × Int}{l:Nat}{GL GR:List Jc}{x:Jc}(E:∀y∈GL++x::GR,good1 R l y)(p:Qo (rowOf (GL++x::GR))):∀y∈GL++GR,y.1≠x.1:=λy F e=>by
 have m:=(E y (by rcases List.mem_append.1 F with h|h<;>simp[h])).1;have f:=(E x (by simp)).1;rw[e] at m;have q:=qhc m f;obtain⟨z,s,u⟩:=q6u f;rcases List.mem_append.1 F with h|h
 ·obtain⟨A,B,rfl⟩:=List.append_of_mem h;rw[AM,q2s] at p;have h1:=(Pm p).2;have h2:rowOf (y::B++x::GR)=y.2++(rowOf B++(x.2++rowOf GR)):=by
   rw[q2s,show y::B=[y]++B from rfl,q2s,q6h,show x::GR=[x]++GR from rfl,q2s,q6h,AM]
  rw[h2,q,u] at h1;have:=(List.pairwise_append.1 h1).2.2 z (AP ..) z (AU _ (List.mem_append_left _ (AP ..)));rw[q60] at this
  cases this
 ·obtain⟨A,B,rfl⟩:=List.append_of_mem h;rw[q2s] at p;have h1:=(Pm p).2;have h2:rowOf (x::(A++y::B))=x.2++(rowOf A++(y.2++rowOf B)):=by
   rw[show x::(A++y::B)=[x]++(A++([y]++B)) from rfl,q2s,q6h,q2s,q2s,q6h]
  rw[h2,q,u] at h1;have:=(List.pairwise_append.1 h1).2.2 z (AP ..) z (AU _ (List.mem_append_left _ (AP ..)));rw[q60] at this
  cases this
section
variable {D:DM}{S0:Sp}{C0:Ct}{O H H0:LI}{P:Pl}
theorem Yr.next {l:Nat}{s:Qy}{way:List Qy}{L Rr:List Qc}(h:Yr P D O l s way L Rr)(j:Nat):Yr P D O l { s with next:=j } way L Rr:=by
 cases way with
 |nil=>exact h
 |cons t way=>exact h
structure At (D:DM)(S0:Sp)(C0:Ct)(O H H0:LI)(P:Pl)(l:Nat)(s:Qy)(up:List Qy)(L Rr:List Qc)(M:List (List Qc)):Prop where
 keep:Keep D S0 C0 O H P
 spot:Zl P D O (l:Int) s
 way:Yr P D O l s up L Rr
 held:∀a:Nat,0<a->a<P.C.n->H.count (a:Int)=(own s++((if s.shared=true then [] else s.N.named)++Zj up H0)).count (a:Int)
 opens:∀y∈O,(s.shared=false/\y=s.addr)\/∃t∈up,t.shared=false/\y=t.addr
 Iw:Y7 (P.hide D O) l s.N M
 may:s.N.may=true
 dat:∀x∈M.flatten,Dat (P.hide D O) x
 ne:M≠[]
 enough:up≠[]->Qv (l:Int)<=M.length
theorem qhd (K:Keep D S0 C0 O H P){l:Nat}{a:Int}{hd:Bool}{up:List Qy}{L Rr its:List Qc}(T:Qs (P.hide D O) l a its)(J:Yr P D O l (P.spot D a hd) up L Rr)
  (U:∀b:Nat,0<b->b<P.C.n->H.count (b:Int)=(own (P.spot D a hd)++Zj up H0).count (b:Int)) (hO:∀y∈O,∃t∈up,t.shared=false/\y=t.addr) (F:up≠[]->(P.hide D O a).1.enough) :
  ∃O' H' M,At D S0 C0 O' H' H0 P l (P.spot D a hd) up L Rr M/\M.flatten=its/\Since D O O' H0 P P 0:=by
 obtain⟨ho,n,hn,a6,h0⟩:=q3g (Fz T).2.2;obtain⟨X,hE⟩:=q3z T;have E:∀x∈its,Dat (P.hide D O) x:=K.dat l a its T;obtain⟨M,B,u,hL,V⟩:=K.Iw T;have hN:(P.hide D O a).1=P.Qd D a:=by rw[X];rfl
 rw[hN] at B F;have q:=hL.may;rw[hN] at q;have W:(P.Qd D a).lvl=(l:Int):=q4t B;by_cases f:(P.spot D a hd).shared=true
 ·refine⟨O,H,M,⟨K,⟨λ_ h2=>⟨?_,ho,W⟩,λh=>by rw[f] at h;cases h⟩,J,λb h1 h2=>?_,λy Y=>.inr (hO y Y),B,q,by rw[u];exact E,V,λhu=>(q3u B).1 (F hu)⟩,u,q5o (Move.refl (l:Int) D O P) H0⟩
  ·have h2:hd=false:=h2;have Q:(hd||decide (1<P.C.get a))=true:=f;rw[h2,Bool.false_or] at Q;have:=AK Q;show 2<=P.C.get a;omega
  ·rw[AA f];exact U b h1 h2
 ·have Q:(hd||decide (1<P.C.get a))=false:=by
   cases e:(hd||decide (1<P.C.get a)) with
   |false=>rfl
   |true=>exact absurd e f
  obtain⟨h4,h5⟩:=Bool.or_eq_false_iff.1 Q;have h5:=of_decide_eq_false h5;subst hn;have m:P.C.get (n:Int)=1:=by
   have:=K.nonneg (n:Int);omega
  obtain⟨c0,cn⟩:=K.first h0
  have A:own (P.spot D (n:Int) hd)=[(n:Int)]:=AB (by show ¬hd=true;rw[h4];decide);rw[A] at U;have p:(n:Int)∈H:=List.count_pos_iff.1 (by rw[U n c0 cn,A_];simp;omega);have Z:=K.open_ m p ho;obtain⟨o1,o2⟩:=K.once m p;have G:(n:Int)∉Zj up H0:=q4x (by
   rw[U n c0 cn,A_] at o1;simp at o1;omega)
  rw[X] at Z;have Z:Keep D S0 C0 ((n:Int)::O) ((P.Qd D (n:Int)).named++H) P:=Z;have I:(n:Int)∉(P.Qd D (n:Int)).kids.map (·.a):=qsb (y:=((n:Int),its)) B T;have a1:=q9w J h4;refine⟨(n:Int)::O,_,M,⟨Z,⟨λh=>absurd h f,λ_=>⟨h4,AP ..,W,hE⟩⟩,J.open_ K m p a1 Q G,λb h1 h2=>?_,λy Y=>?_,qwg K m p I B,q,by
   rw[u];exact λx hx=>qne (E x hx) λe=>qm4 T (E x hx _ e) rfl,V,λhu=>(q3u B).1 (F hu)⟩,u,⟨λl' a' t ha ht=>q41 K m p l' a' t (λe=>G (e▸q9x.restH_sub up ha)) ht,λa' ha a2=>(q1d λe:a'=(n:Int)=>G (e▸q9x.restH_sub up ha)).trans a2,AE _,rfl⟩⟩
  ·rw[AB f,A,A_,U b h1 h2];show (P.Qd D (n:Int)).named.count _+_=(_++((P.Qd D (n:Int)).named++_)).count _;simp only[A_];omega
  ·rcases List.mem_cons.1 Y with rfl|Y
   ·exact .inl ⟨Q,rfl⟩
   ·exact .inr (hO y Y)
structure Qag (D:DM)(S0:Sp)(C0:Ct)(O H0:LI)(P:Pl)(k:Kd)(row:List Qc)(n:Nat)(W:Option (List Qy × Qy)):Prop where
 is:∃up s O' H' L Rr its A B,W=some (up,s)/\At D S0 C0 O' H' H0 P 0 s up L Rr (its.map λx=>[x])/\s.N=⟨0,its,[]⟩/\row=L++(its++Rr)/\Since D O O' H0 P P 0/\up.length<=n/\L=A/\Rr=B/\(∀x∈A,x.k.less k=true)/\∀x∈B,k.less x.k=true
theorem qm7 (k:Kd):∀(l f:Nat) {O H:LI} {a:Int} {hd:Bool} {up:List Qy} {L Rr its:List Qc},l<=f->Keep D S0 C0 O H P->Qs (P.hide D O) l a its->Qo its->Yr P D O l (P.spot D a hd) up L Rr->
  (∀b:Nat,0<b->b<P.C.n->H.count (b:Int)=(own (P.spot D a hd)++Zj up H0).count (b:Int))->(∀y∈O,∃t∈up,t.shared=false/\y=t.addr)->(up≠[]->(P.hide D O a).1.enough)->(∀x∈L,x.k.less k=true)->(∀x∈Rr,k.less x.k=true)->
  Qag D S0 C0 O H0 P k (L++(its++Rr)) (up.length+l) (P.Ai D k f (P.spot D a hd) up)
 |0,f,O,H,a,hd,up,L,Rr,its,hf,K,hT,hr,hup,hH,hO,hen,hL,hR=>by
  obtain⟨V,H',M,p,Z,J⟩:=qhd K hT hup hH hO hen;obtain⟨Q,u,e2⟩:=p.Iw;subst e2;rw[Sz] at Z;subst Z;have ew:P.Ai D k f (P.spot D a hd) up=some (up,P.spot D a hd):=by
   cases f with
   |zero=>show (if _ then _ else none)=_;rw[AA (by rw[u];exact Int.le_refl 0)]
   |succ f=>show (if _ then _ else _)=_;rw[AA (by rw[u];exact Int.le_refl 0)]
  exact⟨⟨up,_,V,H',L,Rr,Q,L,Rr,ew,p,u,rfl,J,by omega,rfl,rfl,hL,hR⟩⟩
 |l+1,0,_,_,_,_,_,_,_,_,hf,_,_,_,_,_,_,_,_,_=>by omega
 |l+1,f+1,O,H,a,hd,up,L,Rr,its,hf,K,hT,hr,hup,hH,hO,hen,hL,hR=>by
  obtain⟨V,H',M,p,Z,J⟩:=qhd K hT hup hH hO hen;generalize hs:P.spot D a hd=s at p hup;obtain⟨G,u,e2,hg⟩:=p.Iw;subst e2;have a7:G≠[]:=λe=>p.ne (by rw[e];rfl)
  have F:rowOf G=its:=Z;obtain⟨j,hj,b0,b1,b2⟩:=qsd hg (by rw[F];exact hr) a7 k;rw[<-u] at hj;obtain⟨x,hx⟩:∃x,G[j]?=some x:=⟨_,AC b0⟩;obtain⟨k1,k2⟩:=qyy u hx;have m:G=G.take j++x::G.drop (j+1):=by
   obtain⟨_,ex⟩:=List.getElem?_eq_some_iff.1 hx;rw[<-ex,List.getElem_cons_drop,AV]
  have E:=hg x (List.mem_of_getElem? hx);obtain⟨b7,hE⟩:=q3z E.1;have b3:(P.Qd D x.1).lvl=(l:Int):=by
   have:=(Fz E.1).2.1;rw[b7] at this;exact this
  have W:(Qk s.N.kids j).a=x.1:=by rw[k2];rfl
  have b5:P.Kq D s j=true:=by
   unfold Pl.Kq;rw[W];refine AL ⟨k1,hE,?_⟩;rw[b3,u];show (l:Int)=((l+1:Nat):Int)-1;omega
  have a6:P.Jk D s j=P.spot D x.1 s.shared:=by unfold Pl.Jk;rw[W]
  have ew:P.Ai D k (f+1) s up=P.Ai D k f (P.spot D x.1 s.shared) ({ s with next:=j }::up):=by
   show (if s.N.lvl<=0 then _ else if P.Kq D s (s.N.Zw k)=true then P.Ai D k f (P.Jk D s (s.N.Zw k)) ({ s with next:=s.N.Zw k }::up) else none)=_;rw[AB (by rw[u];show ¬((l+1:Nat):Int)<=0;omega),hj,AA b5,a6]
  rw[ew];have X:∀y∈G.take j++G.drop (j+1),y∈G:=λy T=>by
   rcases List.mem_append.1 T with h|h
   ·exact List.mem_of_mem_take h
   ·exact List.mem_of_mem_drop h
  have a8:∀y∈G.take j++G.drop (j+1),y.1≠x.1:=qjt (R:=P.hide D V) (l:=l) (by rw[<-m];exact hg) (by rw[<-m,F];exact hr);have I:its=rowOf (G.take j)++(x.2++rowOf (G.drop (j+1))):=by
   rw[<-F,<-q6h x,<-q2s,<-q2s];exact congrArg rowOf m
  have U:Zl P D V ((l+1:Nat):Int) { s with next:=j }:=⟨p.spot.shared,p.spot.mine⟩;have Y:Yr P D V l (P.spot D x.1 s.shared) ({ s with next:=j }::up) (L++rowOf (G.take j)) (rowOf (G.drop (j+1))++Rr):=by
   refine⟨G.take j,G.drop (j+1),x,L,Rr,?_,?_,rfl,rfl,p.may,λhu=>?_,λy T=>hg y (X y T),λ_=>E.1,U,p.way.next j,rfl,rfl,a8⟩
   ·show s.N=_;rw[u,<-m]
   ·show j=(G.take j).length;rw[AR];omega
   ·have h1:=p.enough hu;have e6:Qv ((l+1:Nat):Int)=6:=AB (by omega);rw[e6,AF] at h1;rw[AR,AS];omega
  have b6:(Zp { s with next:=j } j (j+1)).named=(G.take j).map (·.1)++(G.drop (j+1)).map (·.1):=by
   have:=q2k (t:={ s with next:=j }) (l:=l) (GL:=G.take j) (GR:=G.drop (j+1)) (x:=x) (by show s.N=_;rw[u,<-m]) (by show j=_;rw[AR];omega);exact this
  have b4:s.N.named=G.map (·.1):=by rw[u,q13]
  have ih:=qm7 k l f (O:=V) (H:=H') (a:=x.1) (hd:=s.shared) (up:={ s with next:=j }::up) (L:=L++rowOf (G.take j)) (Rr:=rowOf (G.drop (j+1))++Rr) (its:=x.2) (by omega) p.keep E.1 (by
    rw[I] at hr;exact (Pm (Pm hr).2).1) Y (λb h1 h2=>by
    rw[p.held b h1 h2];show _=(own (P.spot D x.1 s.shared)++(own s++((if s.shared=true then [] else (Zp { s with next:=j } j (j+1)).named)++Zj up H0))).count _;have ho:own (P.spot D x.1 s.shared)=if s.shared=true then [] else [x.1]:=rfl
    rw[ho,b6,b4];have hc:(G.map (·.1)).count (b:Int)=((G.take j).map (·.1)).count (b:Int)+([x.1].count (b:Int)+((G.drop (j+1)).map (·.1)).count (b:Int)):=by
     rw[<-A_,<-A_];refine congrArg (List.count (b:Int)) ?_;conv=>lhs;rw[m]
     simp
    by_cases q:s.shared=true
    ·rw[AA q,AA q,AA q];simp only[BG]
    ·rw[AB q,AB q,AB q];simp only[A_,hc];omega) (λy T=>by
    rcases p.opens y T with⟨h1,h2⟩|⟨t,h1,h2⟩
    ·exact⟨{ s with next:=j },AP ..,h1,h2⟩
    ·exact⟨t,AO _ h1,h2⟩) (λ_=>E.2.1) (λy T=>by
    rcases List.mem_append.1 T with h|h
    ·exact hL y h
    ·exact b1 y h) (λy T=>by
    rcases List.mem_append.1 T with h|h
    ·exact b2 y h
    ·exact hR y h)
  obtain⟨b9,s',a2,a1,L',R',Q,A,B,i1,i2,i3,i4,i5,i6,i7,i8,i9,b8⟩:=ih.is;refine⟨⟨b9,s',a2,a1,L',R',Q,A,B,i1,i2,i3,?_,(J.trans i5),by rw[AX] at i6;omega,i7,i8,i9,b8⟩⟩;rw[<-i4,I];simp only[AM]
end
def U2 (k:Kd)(l:List Qc):List Qc:=l.filter λx=>!(x.k.same k)
theorem qAf {a b:Kd}(h:a.same b=true):a=b:=by
 obtain⟨h1,h2,e⟩:=(Kd.same_iff a b).1 h
 cases a;cases b;simp only at h1 h2 e;subst h1;subst h2;subst e;rfl
theorem qm8 {k:Kd}{v:LU}:∀{B C:List Qc},(∀x∈C,k.less x.k=true)->Qo (B++C)->Yh k v false (B++C)=Yh k v false B++C
 |[],C,hC,hr=>by
  cases C with
  |nil=>simp
  |cons c r=>
   rw[BG] at hr ⊢;rw[q2e hr,AA (hC c (AP ..))];rfl
 |b::B,C,hC,hr=>by
  have e:=(Pm hr).1;rw[List.cons_append] at hr ⊢;rw[q2e hr,q2e e];split
  ·rfl
  ·split
   ·rfl
   ·rw[qm8 hC (List.pairwise_cons.1 hr).2];rfl
theorem qf2 {k:Kd}{v:LU}{B C:List Qc}:∀{A:List Qc},(∀x∈A,x.k.less k=true)->(∀x∈C,k.less x.k=true)->Qo (A++(B++C))->Yh k v false (A++(B++C))=A++(Yh k v false B++C)
 |[],_,hC,hr=>qm8 hC hr
 |a::A,hA,hC,hr=>by
  rw[List.cons_append] at hr ⊢;have h1:=hA a (AP ..);rw[q2e hr,AB (by rw[qil h1];decide),AB (by rw[(q0d h1).1];decide),qf2 (λx e=>hA x (AO _ e)) hC (List.pairwise_cons.1 hr).2];rfl
theorem qhe (x:Qc)(r:List Qc)(k:Kd):lead ((x::r).map (·.k)) k=if x.k.less k=true then lead (r.map (·.k)) k+1 else 0:=by
 unfold lead;rw[BJ,List.takeWhile_cons];split<;>simp
theorem qdi (x:Qc)(r:List Qc)(k:Kd)(i:Nat):U6 ((x::r).map (·.k)) k (i+1)=U6 (r.map (·.k)) k i:=by
 unfold U6 keyAt;rw[BJ,AX,List.getD_cons_succ];congr 1
 exact decide_eq_decide.2 ⟨λh=>Nat.lt_of_succ_lt_succ h,λh=>Nat.succ_lt_succ h⟩
theorem q8c (x:Qc)(r:List Qc)(k:Kd):U6 ((x::r).map (·.k)) k 0=x.k.same k:=by
 unfold U6 keyAt;rw[BJ,AX,List.getD_cons_zero,AL (Nat.succ_pos _),Bool.true_and]
theorem qm9 {k:Kd}{v:LU}:∀{B:List Qc},Qo B->Yh k v false B=B.take (lead (B.map (·.k)) k)++(⟨k,v⟩::B.drop (lead (B.map (·.k)) k+if U6 (B.map (·.k)) k (lead (B.map (·.k)) k)=true then 1 else 0))
 |[],_=>by
  have e:lead (([]:List Qc).map (·.k)) k=0:=rfl;rw[e];simp[Yh]
 |x::r,hr=>by
  rw[q2e hr,qhe];by_cases h1:k.less x.k=true
  ·rw[AA h1,AB (by rw[qil h1];decide),q8c,AB (by rw[(q0d h1).2];decide)];rfl
  ·rw[AB h1];by_cases h2:x.k.same k=true
   ·have f:x.k.less k=false:=by rw[q7n h2];exact q60 _
    rw[AA h2,AB (by rw[f];decide),q8c,AA h2];rfl
   ·rw[AB h2];have f:x.k.less k=true:=by
     rcases Kd.total x.k k with h|h|h
     ·exact h.1
     ·exact absurd h.2.1 h1
     ·exact absurd (by rw[h.2.2];exact qBf _) h2
    rw[AA f,qdi,qm9 (List.pairwise_cons.1 hr).2,List.take_succ_cons,Nat.add_right_comm,List.drop_succ_cons];rfl
theorem qf3 {k:Kd}{l:List Qc}(h:∀x∈l,x.k.same k=false):U2 k l=l:=List.filter_eq_self.2 λx e=>by rw[h x e];rfl
theorem qse {k:Kd}{A B C:List Qc}(p:∀x∈A,x.k.less k=true)(q:∀x∈C,k.less x.k=true):U2 k (A++(B++C))=A++(U2 k B++C):=by
 have f:U2 k A=A:=qf3 λx e=>(q0d (p x e)).1
 have m:U2 k C=C:=qf3 λx e=>(q0d (q x e)).2
 unfold U2 at f m ⊢;rw[List.filter_append,List.filter_append,f,m]
theorem qma {k:Kd}:∀{B:List Qc},Qo B->U6 (B.map (·.k)) k (lead (B.map (·.k)) k)=true->U2 k B=B.take (lead (B.map (·.k)) k)++B.drop (lead (B.map (·.k)) k+1)/\lead (B.map (·.k)) k<B.length
 |[],_,h=>by cases h
 |x::r,hr,h=>by
  obtain⟨p,f⟩:=List.pairwise_cons.1 hr;rw[qhe] at h ⊢;by_cases e:x.k.less k=true
  ·rw[AA e] at h ⊢;rw[qdi] at h;obtain⟨m,u⟩:=qma f h;refine⟨?_,by rw[AX];omega⟩;rw[List.take_succ_cons,List.drop_succ_cons];unfold U2 at m ⊢;rw[List.filter_cons_of_pos (by rw[(q0d e).1];rfl),m];rfl
  ·rw[AB e] at h ⊢;rw[q8c] at h;refine⟨?_,by rw[AX];omega⟩;unfold U2;rw[List.filter_cons_of_neg (by rw[h];decide)];show U2 k r=_;rw[qf3]
   ·rfl
   ·intro y q;have:k=x.k:=(qAf h).symm;rw[this];exact (q0d (p y q)).2
theorem qsf {k:Kd}{l:List Qc}(h:Qo l):Qo (U2 k l):=List.Pairwise.filter _ h
theorem qAg {k:Kd}{l:List Qc}{x:Qc}(h:x∈U2 k l):x∈l:=(List.mem_filter.1 h).1
theorem qAh (k:Kd)(l:List Qc):(U2 k l).length<=l.length:=List.length_filter_le _ _
theorem qsg {l:List Qc}(m:Qo l)(k:Kd):U6 (l.map (·.k)) k (lead (l.map (·.k)) k)=true↔∃x∈l,x.k.same k=true:=by
 constructor
 ·intro h;unfold U6 at h;rw[BN] at h;obtain⟨h1,h2⟩:=h;have h1:=AK h1;rw[AF] at h1;rw[q1b l h1] at h2;have e:Zc l (lead (l.map (·.k)) k)=l[lead (l.map (·.k)) k]:=by unfold Zc;rw[AG,AC h1];rfl
  exact⟨_,by rw[e];exact List.getElem_mem h1,h2⟩
 ·rintro⟨x,q,p⟩
  cases f:U6 (l.map (·.k)) k (lead (l.map (·.k)) k) with
  |true=>rfl
  |false=>
   have h:=qy5 m k;rw[f,AB (by decide)] at h;unfold valOf at h;have h2:=List.find?_eq_none.1 (Option.map_eq_none_iff.1 h) x q;exact absurd p h2
section
variable {D:DM}{S0:Sp}{C0:Ct}{H0:LI}{P:Pl}{root:Int}
theorem qhf (X:LI):∀(way:List Qy) (a:Int),(Zj way (X++H0)).count a=X.count a+(Zj way H0).count a
 |[],a=>A_
 |t::way,a=>by
  show (own t++((if t.shared=true then [] else (Zp t t.next (t.next+1)).named)++Zj way (X++H0))).count a=_+(own t++((if t.shared=true then [] else (Zp t t.next (t.next+1)).named)++Zj way H0)).count a;have e:=qhf X way a;simp only[A_];omega
theorem qhg {O:LI}:∀{way:List Qy} {l:Nat} {s:Qy} {L Rr:List Qc},Yr P D O l s way L Rr->∀t∈way,∃u:Int,Zl P D O u t
 |[],_,_,_,_,_,t,ht=>by cases ht
 |t::way,l,s,L,Rr,h,t',e=>by
  obtain⟨y,A,x,B,E,h1,h2,F,G,I,J,K,M,q,f,m,p⟩:=h;rcases List.mem_cons.1 e with rfl|e
  ·exact⟨_,q⟩
  ·exact qhg f t' e
theorem Since.sub {O O' X:LI}{P':Pl}{k:Nat}(h:Since D O O' (X++H0) P P' k):Since D O O' H0 P P' k:=⟨λl a t e f=>h.old l a t (AU _ e) f,λa e hd=>h.Pe a (AU _ e) hd,h.free,h.n⟩
def nmI (x:Qc):LI:=(Vz x).toList
theorem q27 (its:List Qc):(⟨0,its,[]⟩:Nd).named=its.filterMap Vz:=by unfold Nd.named;simp
theorem qhh (x:Qc):(⟨0,[x],[]⟩:Nd).named=nmI x:=by
 rw[q27];unfold nmI
 cases h:Vz x with
 |none=>rw[List.filterMap_cons_none h];rfl
 |some c=>rw[List.filterMap_cons_some h];rfl
theorem qf4 (its:List Qc)(i j:Nat):(⟨0,its,[]⟩:Nd).cut i j=⟨0,(its.drop i).take (j-i),[]⟩:=AA rfl
theorem qCc {O H:LI}{l:Nat}{s:Qy}{up:List Qy}{L Rr:List Qc}{M:List (List Qc)}{X:LI}(e:At D S0 C0 O H X P l s up L Rr M){x:Qc}(A:Dat (P.hide D []) x):Dat (P.hide D O) x:=λc q=>by
 have h1:=A c q;rw[q24 (by simp)] at h1;rw[q24 (λu=>?_)]
 ·exact h1
 ·have p:=(qfw e.keep.Zo h1).2;rcases e.opens c u with⟨h2,f⟩|⟨t,y,h2,f⟩
  ·exact p (by rw[f];exact (e.spot.mine h2).2.2.2)
  ·obtain⟨B,m⟩:=qhg e.way t y;exact p (by rw[f];exact (m.mine h2).2.2.2)
theorem qhi {_k:Kd}{row:List Qc}{n:Nat}{O:LI}{up:List Qy}{s:Qy}{G H' X:LI}{L Rr its:List Qc}(q:At D S0 C0 G H' (X++H0) P 0 s up L Rr (its.map λx=>[x]))(V:s.N=⟨0,its,[]⟩)(T:Since D O G (X++H0) P P 0)(hn:up.length<=n)(a2:n<=7)
  {i j:Nat} (hi:i<=j) (hj:j<=its.length) {new:List Qc} (a1:new.length<=1) (hX:new.filterMap Vz=X) (W:∀x∈new,Dat (P.hide D []) x) (Z:j<=i+1) (f:L++((its.take i++(new++its.drop j))++Rr)=row) (hr:Qo row) (hf:∀x∈row,Zx x) (J:row.length<=1000) (U:H0.length<=10000) :
  Yq D S0 C0 O H0 P row (2*n+3) (Wu D up P s i j ⟨0,new,[]⟩):=by
 have hb:=q.Iw;have p:∀x∈its,Dat (P.hide D G) x:=λx F=>q.dat x (by rw[Sz];exact F)
 have B:Y7 (P.hide D G) 0 ⟨0,new,[]⟩ (new.map λx=>[x]):=⟨new,rfl,rfl⟩;have m:((its.map λx=>[x]).take i++((new.map λx=>[x])++(its.map λx=>[x]).drop j)).flatten=its.take i++(new++its.drop j):=by
  rw[<-List.map_take,<-List.map_drop,List.flatten_append,List.flatten_append,Sz,Sz,Sz]
 have Q:=qb3 hb (i:=i) (j:=j) hi (by rw[AF];exact hj);have y:((its.map λx=>[x]).take i++((new.map λx=>[x])++(its.map λx=>[x]).drop j)).length=i+new.length+(its.length-j):=by
  simp only[AD,AR,AS,AF];omega
 have M:Qu ((0:Nat):Int)=6:=rfl;have K:Qv ((0:Nat):Int)=3:=rfl;have Y:its.length<=6:=by
  have:=(qm0 hb q.may).1;rw[AF,M] at this;exact this
 have A:(s.N.cut i j).named=((its.drop i).take (j-i)).filterMap Vz:=by rw[V,qf4,q27]
 have u:its=its.take i++((its.drop i).take (j-i)++its.drop j):=by
  have e:its.drop j=(its.drop i).drop (j-i):=by rw[List.drop_drop,show i+(j-i)=j by omega]
  rw[e,AV,AV]
 have hE:F9 D S0 C0 G H' H0 P 0 s up L Rr i j ⟨0,new,[]⟩ ((its.map λx=>[x]).take i) (new.map λx=>[x]) ((its.map λx=>[x]).drop j):=by
  refine⟨q.keep,q.spot,q.way,Q,B,⟨?_,λc I=>?_⟩,λa h1 h2=>?_,λx F=>?_,q.opens,by rw[m,f];exact hr,by rw[m,f];exact hf,by rw[m,f];exact J,U,by rw[y,M];omega,λhu=>?_,λh=>by omega,by omega⟩
  ·unfold Ko;split
   ·exact AW _
   ·rw[AA rfl,A];refine AZ (List.length_filterMap_le _ _) ?_;rw[AR];omega
  ·unfold Ko at I;split at I
   ·cases I
   ·rw[AA rfl,A] at I;obtain⟨x,F,e⟩:=List.mem_filterMap.1 I;exact p x (List.mem_of_mem_drop (List.mem_of_mem_take F)) c e
  ·have e1:(Zp s i j).named.count (a:Int)=((its.take i).filterMap Vz).count (a:Int)+((its.drop j).filterMap Vz).count (a:Int):=by
    unfold Zp;rw[q5m,V,qf4,qf4];simp only[BJ,List.map_nil,List.sum_cons,List.sum_nil,q27,List.drop_zero,Nat.sub_zero];have e2:(its.drop j).take ((⟨0,its,[]⟩:Nd).size-j)=its.drop j:=AN (by unfold Nd.size;simp);rw[e2];omega
   have e3:s.N.named.count (a:Int)=((its.take i).filterMap Vz).count (a:Int)+((((its.drop i).take (j-i)).filterMap Vz).count (a:Int)+((its.drop j).filterMap Vz).count (a:Int)):=by
    rw[V,q27];conv=>lhs;rw[u]
    rw[List.filterMap_append,List.filterMap_append,A_,A_]
   have e4:=qhf (H0:=H0) X up (a:Int);rw[q.held a h1 h2];unfold Ko;rw[q27,hX];by_cases E:s.shared=true
   ·rw[AA E,AA E,AA E];simp only[A_,List.count_nil,e4];omega
   ·rw[AB E,AB E,AB E,AA rfl,A];simp only[A_,e1,e3,e4];omega
  ·rw[m] at F;rcases List.mem_append.1 F with h|h
   ·exact p x (List.mem_of_mem_take h)
   ·rcases List.mem_append.1 h with h|h
    ·exact qCc q (W x h)
    ·exact p x (List.mem_of_mem_drop h)
  ·have h1:=q.enough hu;rw[AF,K] at h1;rw[y,K];omega
 have:=qb6 up hE;rw[m,f] at this;exact (Yq.since T.sub this).more (by omega)
theorem q7a {its:List Qc}{k:Kd}:(⟨0,its,[]⟩:Nd).Zw k=lead (its.map (·.k)) k:=by
 unfold Nd.Zw;rw[AA rfl,q2z]
theorem qmb (K:Keep D S0 C0 [] ((if root=0 then [] else [root])++H0) P){its:List Qc}(J:Jg (P.hide D []) root its)(M:Qo its)(e:root≠0)(k:Kd):Qag D S0 C0 [] H0 P k its 6 (P.way D root k)/\P.Qh D root=0:=by
 rcases J with⟨_,h⟩|⟨l,hl,u,h1,h2⟩
 ·exact absurd h e
 ·rw[AB e] at K;have q:P.Qh D root=0:=(q3z u).2;refine⟨?_,q⟩;unfold Pl.way;rw[AB e,AA q];have m:Yr P D [] l (P.spot D root false) [] [] []:=⟨rfl,rfl⟩;have Q:=qm7 (H0:=H0) k l 8 (hd:=false) (by omega) K u M m (λ_ _ _=>rfl) (λy T=>by cases T) (λh=>absurd rfl h) (λx p=>by cases p) (λx p=>by cases p);obtain⟨up,s,G,F,L,I,f,A,B,U,V,W,E,X,Y,Z⟩:=Q.is;rw[BG,BM] at E;exact⟨⟨up,s,G,F,L,I,f,A,B,U,V,W,E,X,by rw[List.length_nil] at Y;omega,Z⟩⟩
theorem qwk {k:Kd}{v:LU}(K:Keep D S0 C0 [] ((if root=0 then [] else [root])++(nmI ⟨k,v⟩++H0)) P){its:List Qc}(Q:Jg (P.hide D []) root its)(u:Qo its)(hf:∀x∈its,Zx x)(V:Zx ⟨k,v⟩)(q:Dat (P.hide D []) ⟨k,v⟩)(U:its.length<1000)(p:H0.length<=10000) :
  Yq D S0 C0 [] H0 P (Yh k v false its) 17 (P.Ii D root ⟨k,v⟩):=by
 have F:∀x∈Yh k v false its,Zx x:=λx J=>by
  rcases qeg u x J with rfl|h
  ·exact V
  ·exact hf x h
 have a2:=ql6 (k:=k) (v:=v) u;have I:=qcr (k:=k) (v:=v) u;unfold Pl.Ii;by_cases f:root=0
 ·rcases Q with⟨rfl,_⟩|⟨l,_,_,h1,_⟩
  ·have ew:P.way D root k=some ([],q4u):=AA f;rw[ew];dsimp only;have es:q4u.N.Zw k=0:=rfl;have Y:U6 q4u.N.keys k 0=false:=rfl;rw[es,Y,AB (by decide)];rw[AA f,BG] at K;have T:Y7 (P.hide D []) 0 q4u.N []:=⟨[],rfl,rfl⟩;have hE:F9 D S0 C0 [] (nmI ⟨k,v⟩++H0) H0 P 0 q4u [] [] [] 0 0 ⟨0,[⟨k,v⟩],[]⟩ [] [[⟨k,v⟩]] []:=by
    refine⟨K,⟨λ_ h=>(by cases h),λh=>(by cases h)⟩,⟨rfl,rfl⟩,⟨T,T,rfl,rfl,rfl,AE _⟩,⟨[⟨k,v⟩],rfl,rfl⟩,⟨AW _,λc hc=>(by cases hc)⟩,λa _ _=>?_,λx h=>?_,λy hy=>(by cases hy),?_,?_,by simp,p,Nat.le_add_left 1 _,λh=>absurd rfl h,λh=>(by omega),by simp⟩
    ·rw[qhh];rfl
    ·have:x=⟨k,v⟩:=by simpa using h
     rw[this];exact q
    ·exact List.pairwise_singleton _ _
    ·intro x h;have:x=⟨k,v⟩:=by simpa using h
     rw[this];exact V
   have:=qb6 [] hE;exact this.more (by decide)
  ·omega
 ·obtain⟨hw,_⟩:=qmb (H0:=nmI ⟨k,v⟩++H0) K Q u f k;obtain⟨up,s,O',H',L,Rr,e,A,B,i1,i2,W,X,i5,i6,rfl,rfl,i9,M⟩:=hw.is;rw[i1];dsimp only;have m:=u;rw[X] at m;have G:=(Pm (Pm m).2).1;have Z:(⟨0,e,[]⟩:Nd).keys=e.map (·.k):=q2z e;rw[W,q7a,Z];have a1:lead (e.map (·.k)) k<=e.length:=by have:=qc4 (e.map (·.k)) k;rw[AF] at this;exact this
  have E:U6 (e.map (·.k)) k (lead (e.map (·.k)) k)=true->lead (e.map (·.k)) k<e.length:=λh=>by
   unfold U6 at h;rw[BN] at h;have:=AK h.1;rw[AF] at this;exact this
  refine (qhi (_k:=k) (n:=6) i2 W i5 i6 (by omega) (by split<;>omega) (by
   split
   ·rename_i h;have:=E h;omega
   ·omega) (new:=[⟨k,v⟩]) (by simp) (by rw[<-q27,qhh]) (λx h=>by rw[List.mem_singleton.1 h];exact q) (by split<;>omega) ?_ I F (by omega) p).more (by omega)
  rw[X,qf2 i9 M m,qm9 G];rfl
theorem qwl (K:Keep D S0 C0 [] ((if root=0 then [] else [root])++H0) P){its:List Qc}(W:Jg (P.hide D []) root its)(J:Qo its)(Y:∀x∈its,Zx x)(I:root≠0)(k:Kd)(Q:its.length<1000)(G:H0.length<=10000) :
  ∃up s,P.way D root k=some (up,s)/\s.N.lvl=0/\(U6 s.N.keys k (s.N.Zw k)=true↔∃x∈its,x.k.same k=true)/\(U6 s.N.keys k (s.N.Zw k)=true->Yq D S0 C0 [] H0 P (U2 k its) 17 (P.Lj D root k)):=by
 obtain⟨hw,_⟩:=qmb K W J I k;obtain⟨up,s,O',H',L,Rr,f,A,B,T,i2,E,F,i5,i6,rfl,rfl,U,y⟩:=hw.is;have q:=J;rw[F] at q;have u:=(Pm (Pm q).2).1;have M:(⟨0,f,[]⟩:Nd).keys=f.map (·.k):=q2z f;refine⟨up,s,T,by rw[E],?_,λp=>?_⟩
 ·rw[E,q7a,M,qsg u];constructor
  ·rintro⟨x,m,e⟩;exact⟨x,by rw[F];simp[m],e⟩
  ·rintro⟨x,m,e⟩;rw[F] at m;rcases List.mem_append.1 m with h|h
   ·rw[(q0d (U x h)).1] at e;cases e
   ·rcases List.mem_append.1 h with h|h
    ·exact⟨x,h,e⟩
    ·rw[(q0d (y x h)).2] at e;cases e
 ·unfold Pl.Lj;rw[T];dsimp only;rw[E,q7a,M] at p;rw[E,q7a];obtain⟨V,d2⟩:=qma u p;have Z:=qAh k its;refine (qhi (_k:=k) (n:=6) (X:=[]) i2 E i5 i6 (by omega) (by omega) (by omega) (new:=[]) (by simp) rfl (λx h=>by cases h) (by omega) ?_ (qsf J) (λx m=>Y x (qAg m)) (by omega) G).more (by omega);rw[F,qse U y,V];rfl
end
structure Qc4 (R:Int->Nd × Int)(roots:LI)(Ns:List (Int × Nd))(seen:Nat->Bool)(todo:LI):Prop where
 got:∀x∈Ns,R x.1=(x.2,0)/\∃c:Nat,x.1=(c:Int)/\seen c=true
 all:∀c:Nat,seen c=true->(R (c:Int)).2=0->((c:Int),(R (c:Int)).1)∈Ns
 one:Ns.Pairwise λx y=>x.1≠y.1
 root:∀a:Nat,0<a->a<2048->(a:Int)∈roots->seen a=true\/(a:Int)∈todo
 kid:∀x∈Ns,∀y∈x.2.kids,∀a:Nat,y.a=(a:Int)->0<a->a<2048->seen a=true\/(a:Int)∈todo
section
variable {R:Int->Nd × Int}{roots:LI}{Ns:List (Int × Nd)}{seen:Nat->Bool}{r:LI}{x:Int}
end
theorem qwm (n:Nat)(a:Int):(Ct.zero n).get a=0:=by
 unfold Ct.get Ct.zero nm;split
 ·show (List.replicate n (0:Int)).getD a.toNat 0=0;rw[AG,List.getElem?_replicate];split<;>rfl
 ·rfl
theorem q2d (P:Pl)(D:DM):P.hide D []=P.tell D:=by
 funext a
 exact AB (by simp)
theorem qoq (P:Pl)(D:DM)(a:Int):(P.tell D a).1.named=(P.Qd D a).named:=by
 by_cases e:P.Qh D a=0
 ·rw[Iy e];rfl
 ·rw[qay e];by_cases h0:P.C.get a=0
  ·rw[q2q h0]
  ·rw[q7q h0 e];rfl
theorem q6i {P:Pl}{D:DM}:∀{l:Nat} {a:Int} {its:List Qc},Qs (P.tell D) l a its↔Qs (P.store D) l a its
 |0,a,its=>by
  constructor
  ·intro h;have e:P.Qh D a=0:=qfv (by rw[h.1]) (by rw[h.1];exact Int.le_refl 0);exact⟨by rw[<-Iy e];exact h.1,h.2⟩
  ·intro h;have e:P.Qh D a=0:=congrArg Prod.snd h.1;exact⟨by rw[Iy e];exact h.1,h.2⟩
 |l+1,a,its=>by
  constructor
  ·rintro⟨kids,parts,h1,h2,p,q,f⟩;have e:P.Qh D a=0:=qfv (by rw[h1]) (by rw[h1];exact Int.natCast_nonneg (l+1));exact⟨kids,parts,by rw[<-Iy e];exact h1,h2,p,q,λj m=>⟨q6i.1 (f j m).1,(f j m).2⟩⟩
  ·rintro⟨kids,parts,h1,h2,p,q,f⟩;have e:P.Qh D a=0:=congrArg Prod.snd h1;exact⟨kids,parts,by rw[Iy e];exact h1,h2,p,q,λj m=>⟨q6i.2 (f j m).1,(f j m).2⟩⟩
theorem q4y {P:Pl}{D:DM}{l:Nat}{a:Int}{its:List Qc}:Qs (P.hide D []) l a its↔Qs (P.store D) l a its:=by rw[q2d];exact q6i
theorem qf5 {P:Pl}{D:DM}{root:Int}{its:List Qc}:Jg (P.hide D []) root its↔Jg (P.store D) root its:=by
 unfold Jg;constructor
 ·rintro (h|⟨l,h1,h2,e⟩)
  ·exact .inl h
  ·exact .inr ⟨l,h1,q4y.1 h2,e⟩
 ·rintro (h|⟨l,h1,h2,e⟩)
  ·exact .inl h
  ·exact .inr ⟨l,h1,q4y.2 h2,e⟩
theorem qju {k:Int}{l:LU}(q:k=5\/k=6)(m:(Bk.bytes k l).good){a:Nat}(p:a<=2047){g:Int}(h0:Em g)(b:Int):Zb (Zn (Rt k a l.length g) l) b=none:=by
 obtain⟨e,_,f⟩:=q5a _ _ (m.hd a g p h0) m.body;have e:Yz (Zn (Rt k a l.length g) l)=Rt k a l.length g:=e;have f:Nv (Zn (Rt k a l.length g) l)=0:=f;unfold Zb;rw[AA f,e];unfold Di;split
 ·rw[AB];rintro⟨h1,_⟩;have h1:k=if (0:Int)=0 then 3 else 4:=h1
  rw[AA rfl] at h1;omega
 ·rfl
theorem qor {n:Nat}(h1:32<=n)(h2:n<=2048):Keep ((DM.mk0 n).Qj (Yp n)) (fmtS n) (Ct.zero n) [] [] (Pl.fresh n):=by
 obtain⟨_,h,_⟩:=qll (D:=DM.mk0 n) h1 h2 rfl ⟨rfl,rfl⟩;have e:∀a:Int,(Pl.fresh n).C.get a=0:=qwm n;refine⟨⟨qvq h1 h2,h,λa b p=>(by cases p)⟩,λa m=>absurd (e a) (q39 m),⟨λa _ _=>?_⟩,λx q=>(by cases q),λa _ h0=>absurd (e a) h0⟩;have f:∀b,(Pl.fresh n).cnt b=0:=λb=>by unfold Pl.cnt;rw[e];rfl
 rw[f];have:refs (λb=>((Pl.fresh n).hide ((DM.mk0 n).Qj (Yp n)) [] (b:Int)).1.named) (Pl.fresh n).C.n (Pl.fresh n).cnt a=0:=qe6 λb _=>by rw[f];rfl
 rw[this];rfl
section
variable {D:DM}{S0:Sp}{C0:Ct}{H:LI}{P:Pl}
theorem qjv {D:DM}{P:Pl}(h:P.ok){S0:Sp}{C0:Ct}(A:Sound D P S0 C0)(E:∀a b,P.L a=some b->b.good)(F:∀a b,P.L a=some b->b.kindOk)(a:Int)(h0:P.C.get a≠0)(f:P.Qh D a≠0):P.done.Qh (D.Qj P.steps) a≠0:=by
 obtain⟨n,rfl,hn⟩:=G5 h0;obtain⟨_,J,_,s4,s5⟩:=qar h A;have T:=h.c.1.2;have B:P.done.C.get (n:Int)≠0:=h0;have G:P.done.live n=none:=by
  unfold Pl.live;split<;>rfl
 have M:∀(D:DM),D.free->n<D.n->D.Xp (n:Int)=0/\D.Xv (n:Int)=D.newest n:=λD U hl=>by
  have m:(0:Int)<=(n:Int)/\(n:Int)<(D.n:Int):=by omega
  unfold DM.Xp DM.Xv;rw[U.on,AB Bool.false_ne_true,AB Bool.false_ne_true,AA m,AA m,AJ];exact⟨rfl,rfl⟩
 obtain⟨r1,r2⟩:=M _ J.free (by have:=J.n;have e:P.done.C.n=P.C.n:=rfl;omega);obtain⟨r3,r4⟩:=M D A.free (by have:=A.n;omega);have Y:(D.Qj P.steps).newest n=(D.Qj P.steps).Jq n:=by unfold DM.newest;rw[J.Vo];rfl
 have I:D.newest n=D.Jq n:=by unfold DM.newest;rw[A.Vo];rfl
 have p:P.done.Qh (D.Qj P.steps) (n:Int)=J4 ((D.Qj P.steps).Jq n) (n:Int) 5:=by
  unfold Pl.Qh;rw[AB B,AJ,G];dsimp only;rw[AA r1,r2,Y]
 rw[p]
 cases q:P.live n with
 |some b=>
  have u:=(q5j q).2;have y:=q9u D h0 q
  cases b with
  |node N=>exact absurd y f
  |bytes k l=>
   have V:=qh3 P F q;rw[s4 n _ hn u h0];have K:=h.Wy;have Q:Zb ((Bk.bytes k l).out n P.g) (n:Int)=none:=qju V (E n _ u) (by omega) ⟨by have:=K.1;omega,by have:=K.2;omega⟩ _;unfold J4;rw[Q];decide
 |none=>
  have u:=qh6 h0 q;unfold Pl.Qh at f;rw[AB h0,AJ,q] at f;dsimp only at f;rw[AA r3,r4,I] at f;rw[s5 n ?_ ?_]
  ·exact f
  ·have X:=h.res n hn;refine Classical.byContradiction λW=>h0 ?_
   unfold Ct.get;rw[AA ⟨by omega,by omega⟩,AJ];exact X (by omega)
  ·intro x Z;obtain⟨_,b,y,_⟩:=q6f.1 Z;rw[u] at y
   cases y
theorem qjw {D:DM}{P:Pl}(h:P.ok){S0:Sp}{C0:Ct}(u:Sound D P S0 C0)(m:∀a b,P.L a=some b->b.good)(p:∀a b,P.L a=some b->b.kindOk)(a:Int):P.done.tell (D.Qj P.steps) a=P.tell D a:=by
 have q:P.done.C.get a=P.C.get a:=rfl;by_cases h0:P.C.get a=0
 ·rw[q2q h0,q2q (P:=P.done) (by rw[q];exact h0)]
 ·by_cases f:P.Qh D a=0
  ·have e:=q97 h u m a f;rw[Iy f,Iy (P:=P.done) (show P.done.Qh (D.Qj P.steps) a=0 from (congrArg Prod.snd e).trans f)];exact e
  ·rw[q7q h0 f,q7q (P:=P.done) (by rw[q];exact h0) (qjv h u m p a h0 f)]
theorem Keep.Qbl (K:Keep D S0 C0 [] H P):P.Af D H:=Xb.same K.Af (λ_ _=>rfl) λb _ _=>by rw[q2d,qoq];rfl
theorem qjx (K:Keep D S0 C0 [] H P)(F:P.g<1099511627775):Keep (D.Qj P.steps) P.sup P.C [] H P.done/\(∀a,(P.store D a).2=0->P.done.store (D.Qj P.steps) a=P.store D a)/\P.done.tell (D.Qj P.steps)=P.tell D:=by
 have f:=K.Zo.ok;have p:=K.Zo.sound;have u:=q97 f p K.Zo.good;obtain⟨_,_,q,_⟩:=qri f p;have A:P.done.tell (D.Qj P.steps)=P.tell D:=funext λa=>qjw f p K.Zo.good K.Zo.kind a
 have y:P.done.hide (D.Qj P.steps) []=P.hide D []:=by rw[q2d,q2d,A]
 refine⟨⟨⟨qre f F,q,λa b B=>(by cases B)⟩,λa m=>?_,?_,λx G=>(by cases G),λa m h0 _=>?_⟩,u,A⟩
 ·exfalso
  have h0:=q39 (C:=P.C.commit) m;have m:P.C.commit.fresh (a:Int)=true:=m;unfold Ct.fresh at m;rw[AB h0] at m;have e:P.C.commit.get (a:Int)=nm P.C.commit.done a:=by
   unfold Ct.get at h0 ⊢;split
   ·rw[AJ];rfl
   ·rename_i E;rw[AB E] at h0;exact absurd rfl h0
  rw[e] at h0;simp[h0] at m
 ·rw[y];exact K.Af
 ·rw[y];exact K.loc a m h0 (by simp)
theorem Keep.Vu (K:Keep D S0 C0 [] H P):P.Vu D:=by
 have L:=λ{a:Nat} (f:P.Qh D (a:Int)=0)=>by
  have e:=Iy f;have hm:=qa4 K.Zo f;have:=K.Qbm (x:=(a:Int)) (by rw[q2d,e];exact f) (by rw[q2d,e];exact (q87 hm).1);rw[q2d] at this;exact this
 refine⟨λa _ _ f=>qa4 K.Zo f,λa _ _ f x u c y=>?_,λa _ _ f x u=>?_⟩
 ·have h1:=(L f).data x (by rw[Iy f];exact u) c y;exact (qfw K.Zo h1).2
 ·obtain⟨E,A,F,_⟩:=(L f).kids x (by rw[Iy f];exact u);have q:=qa4 K.Zo f;have B:(P.tell D (a:Int)).1.lvl=(P.Qd D (a:Int)).lvl:=by rw[Iy f];rfl
  have G:1<=(P.Qd D (a:Int)).lvl:=by
   refine Classical.byContradiction λy=>?_
   have h0:(P.Qd D (a:Int)).lvl=0:=by have:=(q87 q).1;omega
   have e:(P.Qd D (a:Int)).kids=[]:=congrArg Nd.kids (q1e q h0).1;rw[e] at u
   cases u
  rw[B] at A;have m:=qfv E (by omega);obtain⟨c,e,y⟩:=G5 (qc9 E);have p:P.C.get (c:Int)≠0:=by rw[<-e];exact qc9 E
  obtain⟨c0,_⟩:=K.first p
  rw[Iy m] at A F;rw[e] at A F m;exact⟨c,e,c0,y,p,m,A,F⟩
end
theorem qhj {α:Type}:∀{l l':List α},l.Nodup->(∀x∈l,x∈l')->l.length<=l'.length
 |[],_,_,_=>AW _
 |x::t,l',hn,hs=>by
  obtain⟨h1,h2⟩:=List.nodup_cons.1 hn;obtain⟨s,u,rfl⟩:=List.append_of_mem (hs x (AP ..));have:=qhj (l':=s++u) h2 λy e=>by
   have f:=hs y (AO _ e);rcases List.mem_append.1 f with h|h
   ·exact List.mem_append_left _ h
   ·rcases List.mem_cons.1 h with h|h
    ·exact absurd (h▸e) h1
    ·exact AU _ h
  rw[AD,AX] at *;simp only[AX];omega
theorem qmc {α:Type}{p a b c d:α->Bool}:∀(l:List α),(∀x∈l,p x=true->a x=true\/b x=true\/c x=true\/d x=true)->l.countP p<=l.countP a+(l.countP b+(l.countP c+l.countP d))
 |[],_=>by simp
 |x::t,h=>by
  have q:=qmc t λy m=>h y (AO _ m)
  have f:=h x (AP ..);simp only[List.countP_cons];by_cases e:p x=true
  ·rcases f e with h|h|h|h<;>rw[AA h,AA e]<;>split<;>omega
  ·rw[AB e];omega
def Xo (R:Int->Nd × Int):Nat->Int->LI
 |0,a=>[a]
 |l+1,a=>a::(R a).1.kids.flatMap λx=>Xo R l x.a
theorem qdj (R:Int->Nd × Int):∀(l:Nat) (a:Int),a∈Xo R l a
 |0,_a=>AP ..
 |_l+1,_a=>AP ..
theorem q9b {R:Int->Nd × Int}:∀{l:Nat} {r b:Int} {its:List Qc},Qs R l r its->b∈Xo R l r->∀x∈(R b).1.kids,x.a∈Xo R l r
 |0,r,b,its,h,f,x,hx=>by
  obtain rfl:b=r:=List.mem_singleton.1 f;rw[h.1] at hx
  cases hx
 |l+1,r,b,its,h,f,x,hx=>by
  rcases List.mem_cons.1 f with rfl|f
  ·exact AO _ (List.mem_flatMap.2 ⟨x,hx,qdj R l x.a⟩)
  ·obtain⟨k,p,f⟩:=List.mem_flatMap.1 f;obtain⟨kids,parts,e,B,E,F,A⟩:=h;rw[e] at p;obtain⟨j,m,y⟩:=List.getElem_of_mem p;have u:Qk kids j=k:=by
    have:=q16 m;rw[AC m,y] at this;exact (OI this).symm
   have q:=(A j m).1;rw[u] at q;have:=q9b q f x hx;refine AO _ (List.mem_flatMap.2 ⟨k,?_,this⟩);rw[e];exact p
theorem qb7 {R:Int->Nd × Int}{l:Nat}(h:∀y:Jc,good1 R l y->(Xo R l y.1).length+2<=y.2.length):∀(G:List Jc),(∀x∈G,good1 R l x)->(G.flatMap λx=>Xo R l x.1).length+2*G.length<=(G.map (·.2)).flatten.length
 |[],_=>by simp
 |y::G,hg=>by
  have h1:=h y (hg y (AP ..));have h2:=qb7 h G λx e=>hg x (AO _ e)
  simp only[BC,BJ,List.flatten_cons,AD,AX];omega
section
variable {D:DM}{S0:Sp}{C0:Ct}{H:LI}{P:Pl}
theorem qdk (R:Int->Nd × Int)(l:Nat)(G:List Jc):((G.map Qr).flatMap λx=>Xo R l x.a)=G.flatMap λx=>Xo R l x.1:=by
 induction G with
 |nil=>rfl
 |cons y G ih=>rw[BJ,BC,BC,ih];rfl
theorem Keep.few (K:Keep D S0 C0 [] H P):∀(l:Nat) (y:Jc),good1 (P.hide D []) l y->(Xo (P.hide D []) l y.1).length+2<=y.2.length
 |0,y,h=>by
  have:=K.long 0 y h;show 1+2<=_;omega
 |l+1,y,h=>by
  obtain⟨M,f,q,_,_⟩:=K.Iw h.1;have p:=(q3u f).1 h.2.1;obtain⟨G,e,rfl,u⟩:=f;have m:Qv ((l+1:Nat):Int)=6:=AB (by omega);rw[m,AF] at p;have h2:=qb7 (λy A=>K.few l y A) G u;show (y.1::_).length+2<=_;rw[AX,e,qdk,<-q];omega
theorem Keep.Qav (K:Keep D S0 C0 [] H P){l:Nat}{a:Int}{its:List Qc}(h:Qs (P.hide D []) l a its):(Xo (P.hide D []) l a).length<=its.length:=by
 obtain⟨M,m,q,p,A⟩:=K.Iw h
 cases l with
 |zero=>
  have:=h.2;show 1<=_;exact List.length_pos_iff.2 this
 |succ l=>
  obtain⟨G,e,rfl,u⟩:=m;have h2:=qb7 (λy B=>K.few l y B) G u;have f:=(q0n p.may (by rw[e];show ¬((l+1:Nat):Int)=0;omega)).2.2.2.1;rw[e] at f;have f:2<=(G.map Qr).length:=f;rw[AF] at f;show (a::_).length<=_;rw[AX,e,qdk,<-q];omega
def Ct.used (C:Ct):Nat:=(List.range C.n).countP λa=>decide (nm C.now a≠0)
def Ct.kept (C:Ct):Nat:=(List.range C.n).countP λa=>decide (nm C.done a≠0)
theorem qsh (C:Ct):C.n<=C.free+(C.first+(C.used+C.kept)):=by
 have h:=qmc (p:=λ_=>true) (a:=λj=>C.may j) (b:=λj=>decide (j<C.first)) (c:=λa=>decide (nm C.now a≠0)) (d:=λa=>decide (nm C.done a≠0)) (List.range C.n) λx y _=>by
  by_cases h1:x<C.first
  ·exact .inr (.inl (AL h1))
  ·by_cases h2:nm C.now x=0
   ·by_cases e:nm C.done x=0
    ·left
     unfold Ct.may Ct.Aw;simp[h2,e];omega
    ·exact .inr (.inr (.inr (AL e)))
   ·exact .inr (.inr (.inl (AL h2)))
 have m:(List.range C.n).countP (λ_=>true)=C.n:=by
  rw[List.countP_eq_length.2 λ_ _=>rfl,List.length_range]
 have u:(List.range C.n).countP (λj=>decide (j<C.first))<=C.first:=by
  generalize C.n=n;generalize C.first=f
  induction n with
  |zero=>simp
  |succ n ih=>
   rw[List.range_succ,List.countP_append];by_cases hn:n<f
   ·have:(List.range n).countP (λj=>decide (j<f))<=n:=by
     have:=List.countP_le_length (p:=λj=>decide (j<f)) (l:=List.range n);rw[List.length_range] at this;exact this
    simp[hn];omega
   ·simp[hn];omega
 have q:(List.range C.n).countP (λj=>C.may j)=C.free:=by unfold Ct.free Ct.Vw;rfl
 rw[m,q] at h;unfold Ct.used Ct.kept;omega
def Qbe (R:Int->Nd × Int)(L:List (Nat × Int × List Qc)):Prop:=∀x∈L,Qs R x.1 x.2.1 x.2.2
theorem qb8 {R:Int->Nd × Int}:∀{l:Nat} {r b:Int} {its:List Qc},Qs R l r its->b∈Xo R l r->∀x∈(R b).1.items,x∈its
 |0,r,b,its,h,f,x,hx=>by
  obtain rfl:b=r:=List.mem_singleton.1 f;rw[h.1] at hx;exact hx
 |l+1,r,b,its,h,f,x,hx=>by
  obtain⟨kids,parts,e,E,F,A,B⟩:=h;rcases List.mem_cons.1 f with rfl|f
  ·rw[e] at hx;cases hx
  ·obtain⟨k,q,f⟩:=List.mem_flatMap.1 f;rw[e] at q;obtain⟨j,m,y⟩:=List.getElem_of_mem q;have u:Qk kids j=k:=by
    have:=q16 m;rw[AC m,y] at this;exact (OI this).symm
   have p:=(B j m).1;rw[u] at p;have m:j<kids.length:=m;have h1:=qb8 p f x hx;rw[A];rw[AG,AC (by omega)] at h1;exact List.mem_flatten.2 ⟨_,List.getElem_mem (by omega),h1⟩
theorem Keep.used (K:Keep D S0 C0 [] H P){L:List (Nat × Int × List Qc)}{X:LI}(hL:Qbe (P.hide D []) L)(hH:∀a∈H,(∃x∈L,x.2.1=a)\/a∈X)(hX:∀a∈X,P.Qh D a≠0):P.C.used<=(L.map λx=>x.2.2.length).sum+((L.map λx=>(x.2.2.filterMap Vz).length).sum+X.length):=by
 have u:∀a:Nat,(a:Int)∈H->P.Qh D (a:Int)=0->∀x∈L,x.2.1=(a:Int)->(a:Int)∈L.flatMap λx=>Xo (P.hide D []) x.1 x.2.1:=λa _ _ x m e=>List.mem_flatMap.2 ⟨x,m,e▸qdj _ _ _⟩
 have h1:∀a:Nat,a<P.C.n->P.Qh D (a:Int)=0->(a:Int)∈L.flatMap λx=>Xo (P.hide D []) x.1 x.2.1:=λa F E=>
  qcj K.Qbl K.Vu K.c K.Zo.ok.res (S:=λa:Nat=>(a:Int)∈L.flatMap λx=>Xo (P.hide D []) x.1 x.2.1) (λb M G I f=>by
   rcases hH _ I with⟨x,m,e⟩|h
   ·exact u b I f x m e
   ·exact absurd f (hX _ h)) (λb c M G U Z f Q ⟨y,A,e⟩=>by
   obtain⟨x,m,q⟩:=List.mem_flatMap.1 Q;refine List.mem_flatMap.2 ⟨x,m,?_⟩;rw[<-e];refine q9b (hL x m) q y ?_;rw[q2d,Iy f];exact A) a F E
 have h2:∀a:Nat,a<P.C.n->P.C.get (a:Int)≠0->(a:Int)∈(L.flatMap λx=>Xo (P.hide D []) x.1 x.2.1)++((L.flatMap λx=>x.2.2.filterMap Vz)++X):=λa F h0=>by
  by_cases E:P.Qh D (a:Int)=0
  ·exact List.mem_append_left _ (h1 a F E)
  ·refine AU _ ?_;obtain⟨a0,_⟩:=K.first h0
   rcases K.Qbl.by_ a0 F ((qjr K.c).2 h0) with hm|⟨b,G,T,hm⟩
   ·rcases hH _ hm with⟨x,m,e⟩|h
    ·have:=(q3z (hL x m)).2;rw[e] at this;exact absurd this E
    ·exact AU _ h
   ·have f:=q3a hm;refine List.mem_append_left _ ?_;obtain⟨x,m,q⟩:=List.mem_flatMap.1 (h1 b G f);rcases q88 K.Vu G hm with⟨_,_,_,_,k,_⟩|_
    ·exact absurd k E
    ·have J:(a:Int)∈(P.Qd D (b:Int)).named:=hm;unfold Nd.named at J;rcases List.mem_append.1 J with h|h
     ·obtain⟨y,A,e⟩:=List.mem_map.1 h;obtain⟨c,p,_,_,_,B,_⟩:=K.Vu.kids b G (q5k f) f y A;rw[p] at e;rw[e] at B;exact absurd B E
     ·obtain⟨y,A,e⟩:=List.mem_filterMap.1 h;refine List.mem_flatMap.2 ⟨x,m,List.mem_filterMap.2 ⟨y,?_,e⟩⟩;refine qb8 (hL x m) q y ?_;rw[q2d,Iy f];exact A
 have p:(((List.range P.C.n).filter λa=>decide (nm P.C.now a≠0)).map λa:Nat=>(a:Int)).length<=((L.flatMap λx=>Xo (P.hide D []) x.1 x.2.1)++((L.flatMap λx=>x.2.2.filterMap Vz)++X)).length:=by
  refine qhj ?_ λx m=>?_
  ·refine List.Pairwise.map _ (R:=λa b:Nat=>a≠b) (λa b h (e:(a:Int)=(b:Int))=>h (by omega)) ?_;exact List.nodup_range.filter _
  ·obtain⟨a,F,rfl⟩:=List.mem_map.1 m;obtain⟨p,B⟩:=List.mem_filter.1 F;have p:=List.mem_range.1 p;refine h2 a p λe=>AK B ?_
   unfold Ct.get at e;rw[AA (by omega),AJ] at e;exact e
 rw[AF,<-List.countP_eq_length_filter,AD,AD] at p;have B:∀(L:List (Nat × Int × List Qc)),Qbe (P.hide D []) L->(L.flatMap λx=>Xo (P.hide D []) x.1 x.2.1).length<=(L.map λx=>x.2.2.length).sum:=by
  intro L;induction L with
  |nil=>intro _;simp
  |cons x t ih=>
   intro h;have i1:=K.Qav (h x (AP ..));have i2:=ih λy A=>h y (AO _ A)
   rw[BC,AD,BJ,List.sum_cons];omega
 have V:(L.flatMap λx=>x.2.2.filterMap Vz).length=(L.map λx=>(x.2.2.filterMap Vz).length).sum:=by
  generalize L=L;induction L with
  |nil=>rfl
  |cons x t ih=>rw[BC,AD,BJ,List.sum_cons,ih]
 have W:=B L hL;have Y:P.C.used=(List.range P.C.n).countP λa=>decide (nm P.C.now a≠0):=rfl
 omega
end
