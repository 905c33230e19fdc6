/- Nodes are laid down instead of others: who owns what then -/
import Derived.Test.YtloolbmdiimanaaGreatDoorGv28
namespace Go.Proofs.YtloolbmdiimanaaGreatDoor
open Go Go.RowKit Go.Proofs
def Wn (b:Nd)(a:Int):Qk:=⟨b.least,a⟩
def Uy (R:Int->Nd × Int)(e:List Nd)(d:LI):Prop:=∀p∈e.zip d,R p.2=(p.1,0)/\1<=p.2/\p.2<2048
theorem Uy.ext {R R':Int->Nd × Int}{dn:List Nd}{az:LI}(h:Uy R dn az)(e:Ext R R'):Uy R' dn az:=λp f=>by
 obtain⟨d,g⟩:=h p f;exact⟨by rw[e _ (by rw[d])];exact d,g⟩
section
variable {D:DM}{S0:Sp}{C0:Ct}{O H:LI}{P:Pl}
theorem Zj.other {l:Int}{s o:Qr}(h:Zj P D O l o)(hne:o.held=true\/o.addr≠s.addr){O':LI}{P':Pl}(hf:∀x,x≠s.addr->P'.C.get x=P.C.get x/\P'.store D x=P.store D x)(hO:∀x,x≠s.addr->(x∈O'↔x∈O)):Zj P' D O' l o:=by
 refine⟨λh1 h2=>?_,λh1=>?_⟩
 ·obtain⟨f,g,m⟩:=h.shared h1 h2;have hn:o.addr≠s.addr:=hne.elim (λe=>by rw[h2] at e;cases e) id;obtain⟨p,d⟩:=hf _ hn;exact⟨by rw[p];exact f,λh=>g ((hO _ hn).1 h),by rw[show P'.Qd D o.addr=P.Qd D o.addr from congrArg Prod.fst d];exact m⟩
 ·obtain⟨f,g,m,u⟩:=h.mine h1;have hn:o.addr≠s.addr:=hne.elim (λe=>by rw[f] at e;cases e) id;obtain⟨p,d⟩:=hf _ hn;exact⟨f,(hO _ hn).2 g,by rw[show P'.Qd D o.addr=P.Qd D o.addr from congrArg Prod.fst d];exact m,(congrArg Prod.snd d).trans u⟩
theorem qu8 {s:Qr}{x:Int}(d:x≠s.addr):x∈Dn O s↔x∈O:=by
 unfold Dn;split
 ·exact Iff.rfl
 ·rw[Fb];exact⟨λh=>h.1,λh=>⟨h,d⟩⟩
theorem qkk {s:Qr}{x:Int}(h:x∈Dn O s):x∈O/\(s.shared=false->x≠s.addr):=by
 unfold Dn at h;split at h
 ·rename_i d;exact⟨h,λe=>by rw[e] at d;cases d⟩
 ·obtain⟨h1,h2⟩:=Fb.1 h;exact⟨h1,λ_=>h2⟩
theorem q4s {l:Int}:∀(olds:List Qr) {O H:LI} {P:Pl} (d:List Nd) (E:List Qk) (X:LI),Keep D S0 C0 O H P->(∀s∈olds,Zj P D O l s)->(olds.Pairwise λs o=>o.held=true\/o.addr≠s.addr)->
  (∀b∈d,Fits (P.hide D O) b)->(∀a:Nat,0<a->a<P.C.n->H.count (a:Int)=(olds.flatMap own++(d.flatMap Nd.named++X)).count (a:Int))->
  ∃m F A f y,d=A++f/\y.length=A.length/\Ut olds P d E=some (m,f,E++List.zipWith Wn A y)/\Keep D S0 C0 F (y++(f.flatMap Nd.named++X)) m/\Move l D O F P m 0/\
   (∀x,x∈F->x∈O/\∀s∈olds,s.shared=false->x≠s.addr)/\Uy (m.hide D F) A y
 |[],O,H,P,d,E,X,K,_,_,_,hH=>⟨P,O,[],d,[],rfl,rfl,by unfold Ut;simp,K.perm λa h1 h2=>(hH a h1 h2).symm,Move.refl l D O P,λx B=>⟨B,λs Y=>(by cases Y)⟩,λp J=>(by cases J)⟩
 |s::olds,O,H,P,d,E,X,K,Y,hd,hf,hH=>by
  obtain⟨R,T⟩:=List.pairwise_cons.1 hd;have Z:=Y s (AP ..);have hcut:∀a:Nat,0<a->a<P.C.n->H.count (a:Int)=(own s++(olds.flatMap own++(d.flatMap Nd.named++X))).count (a:Int):=λa h1 h2=>by
   rw[hH a h1 h2,BC,AM]
  have g:(∀m,P.leave s=some m->Ut (s::olds) P d E=Ut olds m d E)->∃m F A f y,d=A++f/\y.length=A.length/\Ut (s::olds) P d E=some (m,f,E++List.zipWith Wn A y)/\Keep D S0 C0 F (y++(f.flatMap Nd.named++X)) m/\Move l D O F P m 0/\
   (∀x,x∈F->x∈O/\∀M∈s::olds,M.shared=false->x≠M.addr)/\Uy (m.hide D F) A y:=λI=>by
   obtain⟨P1,e1,K1,m1,f1⟩:=qcr K Z hcut;obtain⟨P2,O2,A,f,y,g1,g2,g3,g4,g5,g6,g7⟩:=q4s olds d E X K1 (λo U=>(Y o (AO _ U)).other (R o U) f1 λx B=>qu8 B) T (λb hb=>(hf b hb).ext m1.ext) (λa _ _=>rfl);refine⟨P2,O2,A,f,y,g1,g2,by rw[I P1 e1];exact g3,g4,m1.trans K.nonneg g5,λx B=>?_,g7⟩;obtain⟨j1,j2⟩:=g6 x B;obtain⟨j3,j4⟩:=qkk j1;refine⟨j3,λM u=>?_⟩;rcases List.mem_cons.1 u with rfl|u
   ·exact j4
   ·exact j2 M u
  match d,hf,hH,hcut,g with
  |[],hf,hH,hcut,g=>
   refine g λm e=>?_
   show (match P.leave s with|some m=>Ut olds m [] E|none=>none)=_;rw[e]
  |b::d,hf,hH,hcut,g=>
   by_cases G:s.shared=true\/P.C.fresh s.addr=false
   ·refine g λm e=>?_
    show (if s.shared=true\/P.C.fresh s.addr=false then (match P.leave s with|some m=>Ut olds m (b::d) E|none=>none) else _)=_;rw[AA G,e]
   ·have a3:s.shared=false:=by
     cases e:s.shared with
     |true=>exact absurd (.inl e) G
     |false=>rfl
    have a2:P.C.fresh s.addr=true:=by
     cases e:P.C.fresh s.addr with
     |true=>rfl
     |false=>exact absurd (.inr e) G
    obtain⟨m1,m2,m3,m4⟩:=Z.mine a3;have hg:=(K.opened _ m2).2;obtain⟨c,Q,a4⟩:=Uh (C:=P.C) (a:=s.addr) (by omega);obtain⟨c0,_⟩:=K.first (c:=c) (by rw[<-Q];omega)
    have W:own s=[s.addr]:=AB (by rw[m1];decide);rw[W] at hcut;obtain⟨e0,K1,hN,mv,hC,a0⟩:=K.set (c:=c) (N:=b) (H0:=s.addr::(olds.flatMap own++(d.flatMap Nd.named++X))) (by rw[<-Q];exact m2) (by rw[<-Q];exact m4) (by rw[<-Q];exact a2) (hf b (AP ..)) (λa h1 h2=>by
     rw[hcut a h1 h2,BC];simp only[A_,List.count_cons,List.count_nil];omega)
    rw[<-Q] at e0 K1 hN mv hC a0;have a1:=mv l (by omega);obtain⟨P2,O2,A,f,y,g1,g2,g3,g4,g5,g6,g7⟩:=q4s olds d (E++[⟨b.least,s.addr⟩]) (s.addr::X) K1 (λo U=>(Y o (AO _ U)).other (R o U) (λx B=>⟨by rw[hC],a0 x B⟩) λx B=>by
      rw[Fb];exact⟨λh=>h.1,λh=>⟨h,B⟩⟩) T (λx B=>(hf x (AO _ B)).ext a1.ext) (λa h1 h2=>by
      simp only[A_,List.count_cons];omega)
    refine⟨P2,O2,b::A,f,s.addr::y,by rw[g1];rfl,by rw[AX,AX,g2],?_,?_,a1.trans K.nonneg g5,λx B=>?_,λp J=>?_⟩
    ·show (if s.shared=true\/P.C.fresh s.addr=false then _ else if P.Gm s.addr b=0 then Ut olds (P.Kz s.addr b) d (E++[⟨b.least,s.addr⟩]) else none)=_;rw[AB G,AA e0,g3,List.zipWith_cons_cons,AM];rfl
    ·refine g4.perm λa _ _=>?_
     simp only[A_,List.count_cons,List.cons_append];omega
    ·obtain⟨j1,j2⟩:=g6 x B;obtain⟨j3,j4⟩:=Fb.1 j1;refine⟨j3,λM u=>?_⟩;rcases List.mem_cons.1 u with rfl|u
     ·exact λ_=>j4
     ·exact j2 M u
    ·rw[List.zip_cons_cons] at J;rcases List.mem_cons.1 J with rfl|J
     ·have hn:=K.c.1.2;exact⟨by show (P2.hide D O2) s.addr=(b,0);rw[g5.ext _ (by rw[hN])];exact hN,by show 1<=s.addr;omega,by show s.addr<2048;omega⟩
     ·exact g7 p J
theorem qax:∀(d:List Nd) {H:LI} {P:Pl} (m:List Qk) (X:LI),Keep D S0 C0 O H P->(∀b∈d,Fits (P.hide D O) b)->(∀a:Nat,0<a->a<P.C.n->H.count (a:Int)=(d.flatMap Nd.named++X).count (a:Int))->
  (∃e u,u.length=d.length/\Jl d P m=some (e,some (m++List.zipWith Wn d u))/\Keep D S0 C0 O (u++X) e/\(∀l,Move l D O O P e d.length)/\Uy (e.hide D O) d u)\/(∃e,Jl d P m=some (e,none)/\P.C.free<d.length)
 |[],H,P,m,X,K,_,hH=>.inl ⟨P,[],rfl,by unfold Jl;simp,K.perm λa h1 h2=>(hH a h1 h2).symm,λl=>Move.refl l D O P,λp g=>(by cases g)⟩
 |b::d,H,P,m,X,K,hf,hH=>by
  have B:=hf b (AP ..)
  cases g:P.C.pick with
  |none=>
   right
   have E:P.Jm b=6:=by unfold Pl.Jm;rw[AA B.may];exact (Ct.Y9 g).1
   refine⟨P.Jg b,?_,by rw[Ct.Yh g];exact Nat.succ_pos _⟩;show (if P.Jm b=0 then _ else if P.Jm b=6 then some (P.Jg b,none) else none)=_;rw[AB (by rw[E];decide),AA E]
  |some c=>
   obtain⟨G,I,F,A,y,c1,c2⟩:=K.put (H0:=d.flatMap Nd.named++X) g B (λa h1 h2=>by
    rw[hH a h1 h2,BC];simp only[A_];omega)
   have f:Jl (b::d) P m=Jl d (P.Jg b) (m++[⟨b.least,P.Yz b⟩]):=by
    show (if P.Jm b=0 then _ else _)=_;rw[AA G]
   rcases qax d (m++[⟨b.least,P.Yz b⟩]) ((c:Int)::X) F (λx M=>(hf x (AO _ M)).ext (y 0).ext) (λa _ _=>by
    simp only[A_,List.count_cons];omega) with⟨e,u,g1,g2,g3,g4,g5⟩|⟨e,g1,g2⟩
   ·left
    refine⟨e,(c:Int)::u,by rw[AX,AX,g1],?_,g3.perm λa _ _=>?_,λl=>?_,λp g=>?_⟩
    ·rw[f,g2,List.zipWith_cons_cons,AM,I];rfl
    ·simp only[A_,List.count_cons,List.cons_append];omega
    ·have:=(y l).trans K.nonneg (g4 l);exact this.more (by rw[AX];omega)
    ·rw[List.zip_cons_cons] at g;rcases List.mem_cons.1 g with rfl|g
     ·exact⟨by show (e.hide D O) (c:Int)=(b,0);rw[(g4 0).ext _ (by rw[A])];exact A,by show (1:Int)<=(c:Int);omega,by show (c:Int)<2048;omega⟩
     ·exact g5 p g
   ·right
    have J:=(y 0).free;exact⟨e,by rw[f];exact g1,by rw[AX];omega⟩
theorem qkl {l:Int}(K:Keep D S0 C0 O H P)(x:Nl)(X:LI)(U:∀s∈x.olds,Zj P D O l s)(hd:x.olds.Pairwise λs o=>o.held=true\/o.addr≠s.addr)
  (A:∀b∈pieces x.N,Fits (P.hide D O) b) (R:∀a:Nat,0<a->a<P.C.n->H.count (a:Int)=(x.olds.flatMap own++((pieces x.N).flatMap Nd.named++X)).count (a:Int)) :
  (∃e m d,d.length=(pieces x.N).length/\P.Yo x=some (e,some (List.zipWith Wn (pieces x.N) d))/\Keep D S0 C0 m (d++X) e/\Move l D O m P e (pieces x.N).length/\
   (∀y,y∈m->y∈O/\∀s∈x.olds,s.shared=false->y≠s.addr)/\Uy (e.hide D m) (pieces x.N) d)\/(∃e,P.Yo x=some (e,none)/\P.C.free<(pieces x.N).length):=by
 obtain⟨W,E,F,g,d,f,G,I,J,u,M,Q⟩:=q4s x.olds (pieces x.N) [] X K U hd A R;unfold Pl.Yo;rw[I];dsimp only;rcases qax g (List.zipWith Wn F d) (d++X) J (λb T=>(A b (by rw[f];exact AU _ T)).ext u.ext) (λa _ _=>by
   simp only[A_];omega) with⟨P2,az2,j1,j2,j3,j4,j5⟩|⟨P2,j1,j2⟩
 ·left
  refine⟨P2,E,d++az2,by rw[f,AD,AD,G,j1],?_,j3.perm λa _ _=>?_,?_,M,λp B=>?_⟩
  ·rw[BG,j2,f,List.zipWith_append (by omega)]
  ·simp only[A_];omega
  ·exact (u.trans K.nonneg (j4 l)).more (by rw[f,AD];omega)
  ·rw[f,List.zip_append (by omega)] at B;rcases List.mem_append.1 B with h|h
   ·exact Q.ext (j4 0).ext p h
   ·exact j5 p h
 ·right
  have:=u.free;exact⟨P2,by rw[BG];exact j1,by rw[f,AD];omega⟩
end
def Zi:List Qr->LI->LI
 |[],H0=>H0
 |t::way,H0=>own t++((if t.shared=true then [] else (Zm t t.next (t.next+1)).named)++Zi way H0)
def Ye (P:Pl)(D:DM)(O:LI):Nat->Qr->List Qr->List Qb->List Qb->Prop
 |_,_,[],L,Rr=>L=[]/\Rr=[]
 |l,s,t::way,L,Rr=>∃(d e:List Zx) (x:Zx) (f g:List Qb),t.N=⟨((l+1:Nat):Int),[],(d++x::e).map Qn⟩/\t.next=d.length/\x.1=s.addr/\s.held=t.shared/\t.N.may=true/\(way≠[]->6<=d.length+e.length+1)/\
  (∀y∈d++e,good1 (P.hide D O) l y)/\(s.shared=true->Qm (P.hide D O) l x.1 x.2)/\Zj P D O ((l+1:Nat):Int) t/\Ye P D O (l+1) t way f g/\L=f++rowOf d/\Rr=rowOf e++g/\∀y∈d++e,y.1≠s.addr
section
variable {D:DM}{S0:Sp}{C0:Ct}{O H:LI}{P:Pl}
theorem Ye.ext {O':LI}{P':Pl}(K:Keep D S0 C0 O H P){lv:Nat}(e:Ext (P.hide D O) (P'.hide D O'))(ha:Ar (lv:Int) D O O' P P'):∀{way:List Qr} {l:Nat} {s:Qr} {L Rr:List Qb},lv<=l->Ye P D O l s way L Rr->Ye P' D O' l s way L Rr
 |[],l,s,L,Rr,_,h=>h
 |t::way,l,s,L,Rr,hl,h=>by
  obtain⟨m,p,x,u,A,h1,h2,B,E,F,G,I,J,M,d,f,g⟩:=h;exact⟨m,p,x,u,A,h1,h2,B,E,F,G,λy R=>q2a (I y R) e,λQ=>q11 e (J Q),M.above K ha (by omega),Ye.ext K e ha (by omega) d,f,g⟩
def qqb (way:List Qr):Prop:=∀t∈way,t.shared=false
theorem q99:∀{way:List Qr} {l:Nat} {s:Qr} {L Rr:List Qb},Ye P D O l s way L Rr->s.held=false->qqb way
 |[],_,_,_,_,_,_=>λt e=>(by cases e)
 |t::way,l,s,L,Rr,h,hs=>by
  obtain⟨A,B,x,E,F,h1,h2,G,p,I,J,K,M,u,f,g,m⟩:=h;have e:t.shared=false:=p.symm.trans hs;intro y d;rcases List.mem_cons.1 d with rfl|d
  ·exact e
  ·exact q99 f (u.mine e).1 y d
theorem q13 (l:Nat)(G:List Zx):(⟨((l+1:Nat):Int),[],G.map Qn⟩:Nd).named=G.map (·.1):=by
 unfold Nd.named;rw[List.filterMap_nil,BM,List.map_map];rfl
theorem q2c (l:Nat)(G:List Zx)(i j:Nat):(⟨((l+1:Nat):Int),[],G.map Qn⟩:Nd).cut i j=⟨((l+1:Nat):Int),[],((G.drop i).take (j-i)).map Qn⟩:=by
 unfold Nd.cut;rw[AB (by show ¬((l+1:Nat):Int)=0;omega),List.map_take,List.map_drop]
theorem q7y {t:Qr}{l:Nat}{G:List Zx}(h:t.N=⟨((l+1:Nat):Int),[],G.map Qn⟩)(i j:Nat):Zm t i j=⟨((l+1:Nat):Int),[],(G.take i++G.drop j).map Qn⟩:=by
 unfold Zm;rw[h,q2c,q2c];unfold Zw Nd.size;simp only[BC,List.flatMap_nil,BM,List.length_nil,AT,AF,List.drop_zero,Nat.sub_zero,List.map_append];have e:List.take (G.length-j) (List.drop j G)=List.drop j G:=AN (by rw[AS];omega);rw[e]
theorem q2d {t:Qr}{l:Nat}{GL GR:List Zx}{x:Zx}(h:t.N=⟨((l+1:Nat):Int),[],(GL++x::GR).map Qn⟩)(hn:t.next=GL.length):(Zm t t.next (t.next+1)).named=GL.map (·.1)++GR.map (·.1):=by
 rw[q7y h,q13,hn,List.take_left,List.drop_append,List.drop_of_length_le (by omega)];have e:GL.length+1-GL.length=1:=by omega
 rw[e];simp
theorem Ye.open_ (K:Keep D S0 C0 O H P){c:Nat}(h1:P.C.get (c:Int)=1)(hc:(c:Int)∈H){H0:LI}:∀{way:List Qr} {l:Nat} {s:Qr} {L Rr:List Qb},Ye P D O l s way L Rr->qqb way->s.shared=false->(c:Int)∉Zi way H0->Ye P D ((c:Int)::O) l s way L Rr
 |[],l,s,L,Rr,h,_,_,_=>h
 |t::way,l,s,L,Rr,h,hb,hs,hn=>by
  obtain⟨E,F,x,G,I,u,A,J,M,Q,R,T,g8,U,g,m,p⟩:=h;have f:=hb t (AP ..);have hn:(c:Int)∉own t++((if t.shared=true then [] else (Zm t t.next (t.next+1)).named)++Zi way H0):=hn;rw[f,AB (by decide),q2d u A] at hn;simp only[List.mem_append,not_or] at hn;obtain⟨n1,⟨n2,n3⟩,n4⟩:=hn;obtain⟨m1,m2,m3,m4⟩:=U.mine f;refine⟨E,F,x,G,I,u,A,J,M,Q,R,λy B=>?_,λh=>?_,⟨λh=>?_,λ_=>⟨m1,AO _ m2,m3,m4⟩⟩,Ye.open_ K h1 hc g (λt' W=>hb t' (AO _ W)) f n4,m,p⟩
  ·obtain⟨X,Y,Z⟩:=T y B;have d:y.1≠(c:Int):=λe=>by
    rcases List.mem_append.1 B with h|h
    ·exact n2 (e▸List.mem_map_of_mem h)
    ·exact n3 (e▸List.mem_map_of_mem h)
   exact⟨q3g K h1 hc l _ _ d X,by rw[Py d];exact Y,Z⟩
  ·rw[hs] at h;cases h
  ·rw[f] at h;cases h
theorem Keep.long (K:Keep D S0 C0 O H P):∀(l:Nat) (y:Zx),good1 (P.hide D O) l y->3*6 ^ l<=y.2.length
 |0,y,h=>by
  obtain⟨h1,h2,_⟩:=h;rw[h1.1] at h2;unfold Nd.enough at h2;rw[AA rfl] at h2;simpa using h2
 |l+1,y,h=>by
  obtain⟨h1,h2,U⟩:=h;have L:=K.tree h1;obtain⟨kids,parts,e,Y,Z,R,T⟩:=h1;rw[e] at h2;unfold Nd.enough at h2;rw[AB (show ¬(((l+1:Nat):Int))=0 by omega)] at h2;have h2:6<=kids.length:=by simpa using h2
  have f:∀p∈parts,3*6 ^ l<=p.length:=λp m=>by
   obtain⟨j,I,E⟩:=List.getElem_of_mem m;have g:j<kids.length:=by omega
   have Q:(Qi kids j)∈((P.hide D O) y.1).1.kids:=by rw[e];exact List.mem_of_getElem? (q16 g)
   obtain⟨j1,j2,j3,j4⟩:=L.kids _ Q;have B:=(T j g).1;have F:parts.getD j []=p:=by rw[AG,AC I,E];rfl
   rw[F] at B;obtain⟨_,c,X,G,u⟩:=q2r j1;obtain⟨c0,_⟩:=K.first u
   have J:=K.c.1.2;exact K.long l ((Qi kids j).a,p) ⟨B,j4,by show 1<=(Qi kids j).a;omega,by show (Qi kids j).a<2048;omega⟩
  have A:∀(d:List (List Qb)),(∀p∈d,3*6 ^ l<=p.length)->d.length*(3*6 ^ l)<=d.flatten.length:=by
   intro d;induction d with
   |nil=>intro _;simp
   |cons p d ih=>
    intro m;have h1:=m p (AP ..);have h2:=ih λq M=>m q (AO _ M)
    rw[List.flatten_cons,AD,AX,Nat.add_mul,Nat.one_mul];omega
  have:=A parts f;rw[R];have W:6*(3*6 ^ l)<=parts.length*(3*6 ^ l):=Nat.mul_le_mul_right _ (by omega);rw[Nat.pow_succ];omega
theorem Keep.Fa (K:Keep D S0 C0 O H P){l:Nat}{a:Int}{its:List Qb}(h:Qm (P.hide D O) l a its):∃M,Yt (P.hide D O) l (P.hide D O a).1 M/\M.flatten=its/\Ee (P.hide D O) a/\M≠[]:=by
 have L:=K.tree h
 cases l with
 |zero=>
  rw[h.1];exact⟨its.map λx=>[x],⟨its,rfl,rfl⟩,O7 its,L,λe=>h.2 (List.map_eq_nil_iff.1 e)⟩
 |succ l=>
  obtain⟨kids,parts,e,X,Y,Z,E⟩:=h;have B:(kids.zip parts).length=kids.length:=by rw[List.length_zip];omega
  have f:∀j (g:j<kids.length),kids[j]=Qi kids j/\parts[j]'(by omega)=parts.getD j []:=λj g=>by
   have:=q16 g;rw[AC g] at this;exact⟨OI this,by rw[AG,AC (by omega)];rfl⟩
  have Q:(List.zip (kids.map (·.a)) parts).map Qn=kids:=by
   apply List.ext_getElem
   ·rw[AF,List.length_zip,AF];omega
   ·intro j h1 h2;obtain⟨m,p⟩:=f j h2;obtain⟨_,x,r,F,G⟩:=E j h2;rw[List.getElem_map,List.getElem_zip,List.getElem_map,p,F,m];unfold Qn;show (⟨x.k,(Qi kids j).a⟩:Qk)=_;rw[<-G]
  have T:(List.zip (kids.map (·.a)) parts).map (·.2)=parts:=List.map_snd_zip (by rw[AF];omega);refine⟨parts,⟨List.zip (kids.map (·.a)) parts,?_,T.symm,λy W=>?_⟩,Z.symm,L,λI=>X (BF (by rw[<-Y,I];rfl))⟩
  ·rw[e,Q]
  ·obtain⟨j,g,A⟩:=List.getElem_of_mem W;rw[List.length_zip,AF] at g;have d:j<kids.length:=by omega
   obtain⟨m,p⟩:=f j d;rw[List.getElem_zip,List.getElem_map,m,p] at A;rw[<-A];have U:(Qi kids j)∈((P.hide D O) a).1.kids:=by rw[e];exact List.mem_of_getElem? (q16 d)
   obtain⟨j1,j2,j3,j4⟩:=L.kids _ U;obtain⟨_,c,hc,J,u⟩:=q2r j1;obtain⟨c0,_⟩:=K.first u
   have R:=K.c.1.2;exact⟨(E j d).1,j4,by show 1<=(Qi kids j).a;omega,by show (Qi kids j).a<2048;omega⟩
theorem qkm {R:Int->Nd × Int}{l:Nat}{N:Nd}{M:List (List Qb)}(h:Yt R l N M)(hm:N.may=true):M.length<=Qo (l:Int)/\l<8:=by
 cases l with
 |zero=>
  obtain⟨its,rfl,rfl⟩:=h;have:=(q1c hm rfl).2.2.2;rw[AF];exact⟨this,by omega⟩
 |succ l=>
  obtain⟨G,rfl,rfl,_⟩:=h;obtain⟨_,_,f,_,d,_⟩:=q0o hm (by show ¬((l+1:Nat):Int)=0;omega);have f:((l+1:Nat):Int)<8:=f;have e:Qo ((l+1:Nat):Int)=12:=AB (by omega);rw[e,AF];have d:(G.map Qn).length<=12:=d;rw[AF] at d;exact⟨d,by omega⟩
end
theorem qqc {R:Int->Nd × Int}{l:Nat}{N:Nd}{M:List (List Qb)}(h:Yt R l N M):N.cut 0 M.length=N/\∀m,m<=M.length->(N.cut 0 m).named++(N.cut m M.length).named=N.named:=by
 cases l with
 |zero=>
  obtain⟨its,rfl,rfl⟩:=h;rw[AF];have e:∀i j,(⟨0,its,[]⟩:Nd).cut i j=⟨0,(its.drop i).take (j-i),[]⟩:=λi j=>AA rfl
  refine⟨by rw[e,List.drop_zero,Nat.sub_zero,List.take_length],λm hm=>?_⟩;rw[e,e];unfold Nd.named;simp only[List.map_nil,BG,List.drop_zero,Nat.sub_zero];rw[<-List.filterMap_append,AN (l:=its.drop m) (by rw[AS];omega),AV]
 |succ l=>
  obtain⟨G,rfl,rfl,d⟩:=h;rw[AF];refine⟨by rw[q2c,List.drop_zero,Nat.sub_zero,List.take_length],λm hm=>?_⟩;rw[q2c,q2c,q13,q13,q13,List.drop_zero,Nat.sub_zero,AN (l:=G.drop m) (by rw[AS];omega),<-List.map_append,AV]
theorem q8q {R:Int->Nd × Int}{l:Nat}{N:Nd}{M:List (List Qb)}(h:Yt R l N M)(h2:M.length<=2*Qo (l:Int)):(pieces N).flatMap Nd.named=N.named:=by
 obtain⟨d,e⟩:=qqc h;by_cases h0:M.length=0
 ·rw[qal h h0,List.flatMap_nil]
  cases l with
  |zero=>
   obtain⟨its,rfl,rfl⟩:=h;rw[AF] at h0;obtain rfl:=BF h0;rfl
  |succ l=>
   obtain⟨G,rfl,rfl,f⟩:=h;rw[AF] at h0;obtain rfl:=BF h0;rfl
 ·by_cases h1:M.length<=Qo (l:Int)
  ·rw[qcp h (by omega) h1,BC,List.flatMap_nil,BM,d]
  ·rw[qcq h (by omega) h2,BC,BC,List.flatMap_nil,BM,e _ (by omega)]
structure Piece (R:Int->Nd × Int)(l:Nat)(p:Nd)(Mp:List (List Qb)):Prop where
 Fa:Yt R l p Mp
 one:1<=Mp.length
 most:Mp.length<=Qo (l:Int)
theorem q7z {R:Int->Nd × Int}{l:Nat}{N:Nd}{M:List (List Qb)}(h:Yt R l N M)(h2:M.length<=2*Qo (l:Int)) :
  (M=[]/\pieces N=[])\/(1<=M.length/\M.length<=Qo (l:Int)/\pieces N=[N.cut 0 M.length]/\Piece R l (N.cut 0 M.length) M)\/
   (Qo (l:Int)<M.length/\∃d e,M=d++e/\pieces N=[N.cut 0 (M.length / 2),N.cut (M.length / 2) M.length]/\Piece R l (N.cut 0 (M.length / 2)) d/\Piece R l (N.cut (M.length / 2) M.length) e/\Qs (l:Int)<=d.length/\Qs (l:Int)<=e.length):=by
 have f:Qs (l:Int)*2=Qo (l:Int)/\3<=Qs (l:Int):=by unfold Qs Qo;split<;>omega
 by_cases h0:M.length=0
 ·exact .inl ⟨BF h0,qal h h0⟩
 ·by_cases h1:M.length<=Qo (l:Int)
  ·refine .inr (.inl ⟨by omega,h1,qcp h (by omega) h1,?_,by omega,h1⟩);have:=qaj h 0 M.length;rw[List.drop_zero,Nat.sub_zero,List.take_length] at this;exact this
  ·refine .inr (.inr ⟨by omega,M.take (M.length / 2),M.drop (M.length / 2),(AV _ _).symm,qcq h (by omega) h2,⟨?_,?_,?_⟩,⟨?_,?_,?_⟩,?_,?_⟩)
   ·have:=qaj h 0 (M.length / 2);rw[List.drop_zero,Nat.sub_zero] at this;exact this
   ·rw[AR];omega
   ·rw[AR];omega
   ·have:=qaj h (M.length / 2) M.length;rw[AN (by rw[AS];omega)] at this;exact this
   ·rw[AS];omega
   ·rw[AS];omega
   ·rw[AR];omega
   ·rw[AS];omega
section
variable {D:DM}{S0:Sp}{C0:Ct}{O H:LI}{P:Pl}
theorem Piece.fits {R:Int->Nd × Int}{l:Nat}{p:Nd}{Mp:List (List Qb)}(h:Piece R l p Mp)(hl:l<8)(h2:0<l->2<=Mp.length)(hr:Qg Mp.flatten)(hf:∀x∈Mp.flatten,Jb x)(hd:∀x∈Mp.flatten,Dat R x):Fits R p:=
 qk8 h.Fa hd (qpw h.Fa hl h.one h2 h.most hr hf)
theorem qei {R:Int->Nd × Int}{l:Nat}{p:Nd}{d:List (List Qb)}(h:Piece R l p d):d≠[]:=λe=>by
 have:=h.one;rw[e] at this;exact absurd this (by decide)
theorem q3q {R R':Int->Nd × Int}{l:Nat}{p:Nd}{d:List (List Qb)}(h:Piece R l p d)(g:Qs (l:Int)<=d.length)(e:Ext R R'){a:Int}(f:R' a=(p,0))(h1:1<=a/\a<2048):good1 R' l (a,d.flatten)/\Wn p a=Qn (a,d.flatten):=by
 refine⟨⟨qak h.Fa (qei h) e f,by rw[f];exact (q3o h.Fa).2 g,h1⟩,?_⟩;unfold Wn Qn;rw[qpv h.Fa (qei h)]
structure Qaf (D:DM)(S0:Sp)(C0:Ct)(O H0:LI)(P P':Pl)(root:Int)(its:List Qb)(k:Nat):Prop where
 keep:Keep D S0 C0 [] ((if root=0 then [] else [root])++H0) P'
 tree:(its=[]/\root=0)\/∃l,l<=6/\Qm (P'.hide D []) l root its/\1<=root/\root<2048
 old:∀l a t,a∈H0->Qm (P.hide D O) l a t->Qm (P'.hide D []) l a t
 Ig:∀a,a∈H0->P.hide D O a=(Jc,0)->P'.hide D [] a=(Jc,0)
 free:P.C.free<=P'.C.free+k
 n:P'.C.n=P.C.n
theorem qkn {R:Int->Nd × Int}(d:∀l y,good1 R l y->3*6 ^ l<=y.2.length){l:Nat}:∀(G:List Zx),(∀y∈G,good1 R l y)->G.length*(3*6 ^ l)<=(G.map (·.2)).flatten.length
 |[],_=>by simp
 |y::G,h=>by
  have h1:=d l y (h y (AP ..));have h2:=qkn d G λz e=>h z (AO _ e)
  rw[BJ,List.flatten_cons,AD,AX,Nat.add_mul,Nat.one_mul];omega
theorem Keep.Sr (K:Keep D S0 C0 O H P){l:Nat}{N:Nd}{M:List (List Qb)}(h:Yt (P.hide D O) (l+1) N M)(h2:2<=M.length)(hlen:M.flatten.length<=1000):l<=2:=by
 obtain⟨G,rfl,rfl,d⟩:=h;have f:=qkn (λl y e=>K.long l y e) G d;rw[AF] at h2;have g:2*(3*6 ^ l)<=G.length*(3*6 ^ l):=Nat.mul_le_mul_right _ h2;refine Classical.byContradiction λp=>?_
 have m:6 ^ 3<=6 ^ l:=Nat.pow_le_pow_right (by omega) (by omega);omega
theorem q10 {a b:List Qb}(h:Qg (a++b)):Qg a/\Qg b:=⟨(List.pairwise_append.1 h).1,(List.pairwise_append.1 h).2.1⟩
theorem qu9 (K:Keep D S0 C0 O H P){l:Nat}{s:Qr}{b:Nd}{M:List (List Qb)}(X:Yt (P.hide D O) l b M)(hs:Zj P D O (l:Int) s){H0:LI}(hH:∀a:Nat,0<a->a<P.C.n->H.count (a:Int)=(own s++(b.named++H0)).count (a:Int))
  (hr:Qg M.flatten) (hf:∀x∈M.flatten,Jb x) (d:∀x∈M.flatten,Dat (P.hide D O) x) (hl:l<8) (a4:M.flatten.length<=1000) (b4:M.length<=Qo (l:Int)+1) (a8:0<l->1<=M.length) (hO:∀y∈O,s.shared=false/\y=s.addr) :
  (∃P' r,P.top s b=some (P',some r)/\Qaf D S0 C0 O H0 P P' r M.flatten 3)\/(∃P',P.top s b=some (P',none)/\P.C.free<3):=by
 have b3:Qs (l:Int)*2=Qo (l:Int)/\3<=Qs (l:Int):=by unfold Qs Qo;split<;>omega
 unfold Pl.top;by_cases h1:b.kids.length=1
 ·left
  rw[AA h1]
  cases l with
  |zero=>
   obtain⟨its,rfl,_⟩:=X;exact absurd h1 (by simp)
  |succ l=>
   obtain⟨G,rfl,rfl,hg⟩:=X;match G,h1,hg,hH with
   |[x],_,hg,hH=>
    obtain⟨k1,k2,I⟩:=hg x (List.mem_singleton.2 rfl);have e:(⟨((l+1:Nat):Int),[],[x].map Qn⟩:Nd).named=[x.1]:=q13 l [x];rw[e] at hH;obtain⟨B,e1,T,g,_⟩:=qcr K hs hH;have W:Dn O s=[]:=List.eq_nil_iff_forall_not_mem.2 λy hy=>by
     obtain⟨j1,j2⟩:=qkk hy;obtain⟨j3,j4⟩:=hO y j1;exact j2 j3 j4
    rw[W] at T g;rw[e1];refine⟨B,x.1,rfl,?_,.inr ⟨l,by omega,?_,I⟩,λl a t _ ht=>q11 g.ext ht,λa _ hd=>q52 g.ext hd,by have:=g.free;omega,g.n⟩
    ·rw[AB (by omega)];exact T
    ·have:([x].map (·.2)).flatten=x.2:=by simp
     rw[this];exact q11 g.ext k1
   |[],h1,_,_=>simp at h1
   |_::_::_,h1,_,_=>simp at h1
 ·rw[AB h1];have a3:M.length<=2*Qo (l:Int):=by omega
  have a5:0<l->2<=M.length:=λa6=>by
   have:=a8 a6;refine Classical.byContradiction λhc=>h1 ?_
   cases l with
   |zero=>omega
   |succ l=>
    obtain⟨G,rfl,rfl,hg⟩:=X;rw[AF] at this hc ⊢;omega
  have b2:l<=3:=by
   cases l with
   |zero=>omega
   |succ l=>have:=K.Sr X (a5 (by omega)) a4;omega
  have a9:=q8q X a3;have a0:=q7z X a3;have Y:∀p∈pieces b,Fits (P.hide D O) p:=λp E=>by
   rcases a0 with⟨_,e⟩|⟨k1,k2,e,I⟩|⟨k1,m,u,rfl,e,I,k4,k5,k6⟩
   ·rw[e] at E;cases E
   ·rw[e,AQ] at E;rw[E];exact I.fits hl a5 hr hf d
   ·rw[List.flatten_append] at hr hf d;rw[e] at E;rcases List.mem_cons.1 E with rfl|E
    ·exact I.fits hl (λ_=>by omega) (q10 hr).1 (λx F=>hf x (List.mem_append_left _ F)) λx F=>d x (List.mem_append_left _ F)
    ·rw[AQ] at E;rw[E];exact k4.fits hl (λ_=>by omega) (q10 hr).2 (λx F=>hf x (AU _ F)) λx F=>d x (AU _ F)
  have b0:(pieces b).length<=2:=by
   rcases a0 with⟨_,e⟩|⟨k1,k2,e,I⟩|⟨k1,m,u,_,e,I,k4,k5,k6⟩<;>rw[e]<;>simp
  rcases qkl (l:=(l:Int)) K ⟨b,[s],0,0⟩ H0 (λs' b1=>by rw[List.mem_singleton.1 b1];exact hs) (List.pairwise_singleton _ _) Y (λa h1 h2=>by
    rw[hH a h1 h2,a9,BC,List.flatMap_nil,BM]) with⟨B,O1,az,f,g2,T,g,gO,U⟩|⟨B,f,g2⟩
  ·have W:O1=[]:=List.eq_nil_iff_forall_not_mem.2 λy hy=>by
    obtain⟨j1,j2⟩:=gO y hy;obtain⟨j3,j4⟩:=hO y j1;exact j2 s (List.mem_singleton.2 rfl) j3 j4
   subst W;rw[g2];dsimp only;have Q:∀l a t,a∈H0->Qm (P.hide D O) l a t->Qm (B.hide D []) l a t:=λl a t _ ht=>q11 g.ext ht
   have A:∀a,a∈H0->P.hide D O a=(Jc,0)->B.hide D [] a=(Jc,0):=λa _ hd=>q52 g.ext hd
   have Z:=g.free;have f:az.length=(pieces b).length:=f;have U:Uy (B.hide D []) (pieces b) az:=U;have b5:P.C.free<=B.C.free+(pieces b).length:=Z;rcases a0 with⟨hM,e⟩|⟨k1,k2,e,I⟩|⟨k1,m,u,rfl,e,I,k4,k5,k6⟩
   ·left
    rw[e] at f ⊢;obtain rfl:az=[]:=BF (by rw[f];rfl);refine⟨B,0,rfl,?_,.inl ⟨by rw[hM];rfl,rfl⟩,Q,A,by omega,g.n⟩;rw[AA rfl];exact T
   ·left
    rw[e] at f U ⊢;match az,f with
    |[a],_=>
     obtain⟨j1,j2⟩:=U (b.cut 0 M.length,a) (List.mem_singleton.2 rfl);refine⟨B,a,rfl,?_,.inr ⟨l,by omega,qak I.Fa (qei I) g.ext j1,j2⟩,Q,A,by omega,g.n⟩;rw[AB (by have:1<=a:=j2.1;omega)];exact T
    |[],f=>cases f
    |_::_::_,f=>cases f
   ·rw[e] at f U ⊢;match az,f,T with
    |[a1,a2],_,T=>
     obtain⟨p1,q1⟩:=U (_,a1) (AP ..);obtain⟨p2,q2⟩:=U (_,a2) (AO _ (List.mem_singleton.2 rfl));obtain⟨t1,u1⟩:=q3q I k5 g.ext p1 q1;obtain⟨t2,u2⟩:=q3q k4 k6 g.ext p2 q2;have ek:List.zipWith Wn [b.cut 0 ((m++u).length / 2),b.cut ((m++u).length / 2) (m++u).length] [a1,a2]=[(a1,m.flatten),(a2,u.flatten)].map Qn:=by
      show [Wn _ a1,Wn _ a2]=_;rw[u1,u2];rfl
     rw[ek];have a7:=q4r X;have eN:(⟨b.lvl+1,[],[(a1,m.flatten),(a2,u.flatten)].map Qn⟩:Nd)=⟨((l+1:Nat):Int),[],[(a1,m.flatten),(a2,u.flatten)].map Qn⟩:=by rw[a7];rfl
     rw[eN];have hB:Yt (B.hide D []) (l+1) ⟨((l+1:Nat):Int),[],[(a1,m.flatten),(a2,u.flatten)].map Qn⟩ [m.flatten,u.flatten]:=⟨_,rfl,rfl,λx F=>by
      rcases List.mem_cons.1 F with rfl|F
      ·exact t1
      ·rw[List.mem_singleton.1 F];exact t2⟩
     have R:[m.flatten,u.flatten].flatten=(m++u).flatten:=by simp
     have hF:Fits (B.hide D []) ⟨((l+1:Nat):Int),[],[(a1,m.flatten),(a2,u.flatten)].map Qn⟩:=
      qk8 hB (by rw[R];exact λx F=>(d x F).ext g.ext) (qpw hB (by omega) (by simp) (λ_=>by simp) (by have:Qo ((l+1:Nat):Int)=12:=AB (by omega);rw[this];simp) (by rw[R];exact hr) (by rw[R];exact hf))
     have J:([(a1,m.flatten),(a2,u.flatten)].map Qn).length=2:=rfl;rw[AB (by rw[J];decide),AB (by rw[J];decide)]
     cases E:B.C.pick with
     |none=>
      right
      have he:B.Jm ⟨((l+1:Nat):Int),[],[(a1,m.flatten),(a2,u.flatten)].map Qn⟩=6:=by unfold Pl.Jm;rw[AA hF.may];exact (Ct.Y9 E).1
      rw[AB (by rw[he];decide),AA he];refine⟨_,rfl,?_⟩;have:=Ct.Yh E;omega
     |some c=>
      left
      obtain⟨e0,eV,K2,hN,mv,c1,c2⟩:=T.put (H0:=H0) E hF (λa _ _=>by
       rw[q13,A_];rfl)
      rw[AA e0,eV];have h3:=qak hB (by simp) (mv 0).ext hN;rw[R] at h3;have b6:=(mv 0).free;refine⟨_,_,rfl,?_,.inr ⟨l+1,by omega,h3,by omega,by omega⟩,λl a t ha ht=>q11 (mv 0).ext (Q l a t ha ht),λa ha hd=>q52 (mv 0).ext (A a ha hd),by omega,(mv 0).n.trans g.n⟩;rw[AB (by omega)];exact K2
    |[],f,_=>cases f
    |[_],f,_=>cases f
    |_::_::_::_,f,_=>cases f
  ·right
   rw[f];exact⟨B,rfl,by have g2:P.C.free<(pieces b).length:=g2;omega⟩
end
section
variable {D:DM}{S0:Sp}{C0:Ct}{O H:LI}{P:Pl}
theorem qms (K:Keep D S0 C0 O H P){c:Nat}(h1:P.C.get (c:Int)=1)(e:(c:Int)∈H){l:Nat}{y:Zx}(d:y.1≠(c:Int))(h:good1 (P.hide D O) l y):good1 (P.hide D ((c:Int)::O)) l y:=
 ⟨q3g K h1 e l _ _ d h.1,by rw[Py d];exact h.2.1,h.2.2⟩
theorem qua (K:Keep D S0 C0 O H P){c:Nat}(h1:P.C.get (c:Int)=1)(f:(c:Int)∈H){l:Nat}{N:Nd}{M:List (List Qb)}(hn:(c:Int)∉N.kids.map (·.a))(h:Yt (P.hide D O) l N M):Yt (P.hide D ((c:Int)::O)) l N M:=by
 cases l with
 |zero=>exact h
 |succ l=>
  obtain⟨G,rfl,h2,g⟩:=h;refine⟨G,rfl,h2,λx d=>qms K h1 f (λe=>hn ?_) (g x d)⟩;rw[<-e];exact List.mem_map.2 ⟨Qn x,List.mem_map_of_mem d,rfl⟩
theorem qub {R:Int->Nd × Int}{l:Nat}{s:Qr}{M:List (List Qb)}(h:Yt R l s.N M):Zm s 0 0=s.N:=by
 cases l with
 |zero=>
  obtain⟨its,e,_⟩:=h;unfold Zm;rw[e];unfold Zw Nd.cut Nd.size;simp
 |succ l=>
  obtain⟨G,e,_⟩:=h;rw[q7y e,e];simp
structure Ef (D:DM)(O O':LI)(P P':Pl)(c:Int):Prop where
 tree:∀l a its,a≠c->Qm (P.hide D O) l a its->Qm (P'.hide D O') l a its
 other:∀a,a≠c->(P.hide D O a).2=0->P'.hide D O' a=P.hide D O a
theorem Ef.good {O':LI}{P':Pl}{c:Int}(h:Ef D O O' P P' c){l:Nat}{y:Zx}(hy:y.1≠c)(hg:good1 (P.hide D O) l y):good1 (P'.hide D O') l y:=
 ⟨h.tree l _ _ hy hg.1,by rw[h.other _ hy (D7 hg.1).2.2];exact hg.2.1,hg.2.2⟩
theorem Ef.Fa {O':LI}{P':Pl}{c:Int}(h:Ef D O O' P P' c){l:Nat}{N:Nd}{M:List (List Qb)}(hn:c∉N.kids.map (·.a))(hb:Yt (P.hide D O) l N M):Yt (P'.hide D O') l N M:=by
 cases l with
 |zero=>exact hb
 |succ l=>
  obtain⟨G,rfl,h2,f⟩:=hb;refine⟨G,rfl,h2,λx d=>h.good (λe=>hn ?_) (f x d)⟩;rw[<-e];exact List.mem_map.2 ⟨Qn x,List.mem_map_of_mem d,rfl⟩
theorem Ef.dat {O':LI}{P':Pl}{c:Int}(h:Ef D O O' P P' c)(hc:0<=(P.hide D O c).1.lvl){x:Qb}(hx:Dat (P.hide D O) x):Dat (P'.hide D O') x:=λd hd=>by
 have h1:=hx d hd;have f:d≠c:=λe=>by
  rw[<-e,h1] at hc;exact absurd hc (by decide)
 rw[h.other d f (by rw[h1])];exact h1
theorem quc {R:Int->Nd × Int}{l:Nat}{N:Nd}{M:List (List Qb)}(h:Yt R l N M)(i:Nat):(N.cut i i).named=[]:=by
 cases l with
 |zero=>
  obtain⟨its,rfl,rfl⟩:=h;have e:(⟨0,its,[]⟩:Nd).cut i i=⟨0,(its.drop i).take (i-i),[]⟩:=AA rfl;rw[e,Nat.sub_self,List.take_zero];rfl
 |succ l=>
  obtain⟨G,rfl,rfl,d⟩:=h;rw[q2c,q13,Nat.sub_self,List.take_zero];rfl
theorem qud {d:LI}{P':Pl}{c:Int}(e:Ext (P.hide D O) (P'.hide D d)):Ef D O d P P' c:=⟨λ_ _ _ _ h=>q11 e h,λa _ h=>e a h⟩
theorem qvt {t:Qr}{l:Nat}{G:List Zx}(h:t.N=⟨((l+1:Nat):Int),[],G.map Qn⟩){q:Nat}{y:Zx}(f:G[q]?=some y):q<t.N.kids.length/\Qi t.N.kids q=Qn y:=by
 obtain⟨d,e⟩:=List.getElem?_eq_some_iff.1 f;rw[h];refine⟨by show q<(G.map Qn).length;rw[AF];exact d,?_⟩;show Qi (G.map Qn) q=_;rw[qf4 d,e]
structure Qa6 (D:DM)(S0:Sp)(C0:Ct)(O H H0:LI)(P:Pl)(l:Nat)(t s:Qr)(way:List Qr)(L' R':List Qb)(y:Zx)(nb:Qr)(P':Pl)(O':LI):Prop where
 keep:Keep D S0 C0 O' (nb.N.named++H) P'
 near:Ef D O O' P P' y.1
 once:(O'=y.1::O/\nb.shared=false/\H.count y.1=1/\t.shared=false)\/(O'=O/\Ext (P.hide D O) (P'.hide D O'))
 nbk:Zj P' D O' (l:Int) nb
 sk:Zj P' D O' (l:Int) s
 tk:Zj P' D O' ((l+1:Nat):Int) t
 up:Ye P' D O' (l+1) t way L' R'
 free:P.C.free<=P'.C.free
 n:P'.C.n=P.C.n
 addr:nb.addr=y.1
 held:nb.held=t.shared
theorem qqd (K:Keep D S0 C0 O H P){l:Nat}{s t:Qr}{way:List Qr}{L' R':List Qb}{H0:LI}{G:List Zx}{q:Nat}{y:Zx}(hG:t.N=⟨((l+1:Nat):Int),[],G.map Qn⟩)(hq:G[q]?=some y)(hy:good1 (P.hide D O) l y)
  (ht:Zj P D O ((l+1:Nat):Int) t) (hs:Zj P D O (l:Int) s) (m:y.1≠s.addr) (Y:Ye P D O (l+1) t way L' R') (hH:H.length<=20000)
  (a7:t.shared=false->P.C.get y.1=1->y.1∈H/\y.1∉Zi way H0/\y.1≠t.addr) :
  ∃P' O' A,P.near D t q=some P'/\Qa6 D S0 C0 O H H0 P l t s way L' R' y (P.Jd D t q) P' O'/\Yt (P'.hide D O') l (P.Jd D t q).N A/\A.flatten=y.2/\Qs (l:Int)<=A.length/\A.length<=Qo (l:Int)/\(P.Jd D t q).N.lvl=(l:Int):=by
 obtain⟨k1,k2⟩:=qvt hG hq;obtain⟨ho,n,hn,a9,h0⟩:=q2r (D7 hy.1).2.2;obtain⟨E,hE⟩:=q3f hy.1;have p:(P.Qd D y.1).lvl=(l:Int):=by
  have:=(D7 hy.1).2.1;rw[E] at this;exact this
 have a3:(Qi t.N.kids q).a=y.1:=by rw[k2];rfl
 have b0:P.Wj D t q=true:=by
  unfold Pl.Wj;rw[a3];refine AL ⟨k1,hE,?_⟩;rw[p,hG];show (l:Int)=((l+1:Nat):Int)-1;omega
 have a0:P.Jd D t q=P.spot D y.1 t.shared:=by unfold Pl.Jd;rw[a3]
 obtain⟨A,F,M,hL,b2⟩:=K.Fa hy.1;have hN:(P.hide D O y.1).1=P.Qd D y.1:=by rw[E];rfl
 rw[hN] at F;have a1:=hy.2.1;rw[hN] at a1;have u:=(qkm F (by have:=hL.may;rwa [hN] at this)).1;have g:=(q3o F).1 a1;have U:P.near D t q=P.Qw (P.spot D y.1 t.shared) 0 0:=by unfold Pl.near;rw[AA b0,a0]
 rw[U,a0];have Q:(P.spot D y.1 t.shared).N=P.Qd D y.1:=rfl;have R:∀x∈A.flatten,Dat (P.hide D O) x:=by rw[M];exact K.dat l _ _ hy.1
 have T:((P.Qd D y.1).cut 0 0).named=[]:=quc F 0;have a5:Outside (P.hide D O) l (P.spot D y.1 t.shared).N 0 0 [] A:=by
  have:=qam F (i:=0) (j:=0) (AE _) (AW _);rw[List.take_zero,List.drop_zero] at this;exact this
 have b3:Qo (l:Int)<=12:=by unfold Qo;split<;>omega
 by_cases d:(P.spot D y.1 t.shared).shared=true
 ·obtain⟨P',e1,J,I⟩:=q8m K (s:=P.spot D y.1 t.shared) a5 (by simpa using R) (λh=>by rw[d] at h;cases h) (by simp;omega) hH;rw[AA d,qub (s:=P.spot D y.1 t.shared) F,Q] at J;have ha:=(I ((l:Int)-1)).above;refine⟨P',O,A,e1,⟨J,qud (I 0).ext,.inr ⟨rfl,(I 0).ext⟩,?_,hs.above K ha (by omega),ht.above K ha (by omega),Y.ext K (I (l:Int)).ext (I (l:Int)).above (by omega),by have:=(I 0).free;omega,(I 0).n,rfl,rfl⟩,qpu F (I 0).ext,M,g,u,p⟩;have a8:Zj P D O (l:Int) (P.spot D y.1 t.shared):=⟨λ_ h2=>⟨by
   have h2:t.shared=false:=h2;have h3:(t.shared||decide (1<P.C.get y.1))=true:=d;rw[h2,Bool.false_or] at h3;have:=AK h3;show 2<=P.C.get y.1;omega,ho,p⟩,λh=>by rw[d] at h;cases h⟩
  exact a8.above K ha (by omega)
 ·have h3:(t.shared||decide (1<P.C.get y.1))=false:=by
   cases e:(t.shared||decide (1<P.C.get y.1)) with
   |false=>rfl
   |true=>exact absurd e d
  obtain⟨Z,h5⟩:=Bool.or_eq_false_iff.1 h3;have h5:=of_decide_eq_false h5;have a2:P.C.get y.1=1:=by
   have:=K.nonneg y.1;rw[hn] at h5 this ⊢;omega
  obtain⟨i1,i2,i3⟩:=a7 Z a2;have e1:P.Qw (P.spot D y.1 t.shared) 0 0=some P:=by
   unfold Pl.Qw;rw[AB d];split
   ·rfl
   ·rw[Q,T];rfl
  have B:P.C.get (n:Int)=1:=by rw[<-hn];exact a2
  have f:(n:Int)∈H:=by rw[<-hn];exact i1
  have b1:(n:Int)∉O:=by rw[<-hn];exact ho
  have J:=K.open_ B f b1;obtain⟨o1,o2⟩:=K.once B f;rw[<-hn,E] at J;have J:Keep D S0 C0 (y.1::O) ((P.Qd D y.1).named++H) P:=J;have X:(n:Int)∉(P.Qd D y.1).kids.map (·.a):=λh=>o2 n a9 (by
   rw[<-hn,E];rw[<-hn] at h;exact List.mem_append_left _ h)
  have a4:Ef D O (y.1::O) P P y.1:=by
   refine⟨λl a its m h=>?_,λa m h=>Py m⟩;rw[hn] at m ⊢;exact q3g K B f l a its m h
  have a6:=q99 Y (ht.mine Z).1;have W:Ye P D (y.1::O) (l+1) t way L' R':=by
   rw[hn];exact Y.open_ K B f a6 Z (by rw[<-hn];exact i2)
  refine⟨P,y.1::O,A,e1,⟨J,a4,.inl ⟨rfl,h3,by rw[hn];exact o1,Z⟩,⟨λh=>absurd h d,λ_=>⟨Z,AP ..,p,hE⟩⟩,?_,?_,W,AE _,rfl,rfl,rfl⟩,?_,M,g,u,p⟩
  ·refine⟨λh1 h2=>?_,λh1=>?_⟩
   ·obtain⟨j1,j2,j3⟩:=hs.shared h1 h2;exact⟨j1,λh=>by
     rcases List.mem_cons.1 h with h|h
     ·exact m h.symm
     ·exact j2 h,j3⟩
   ·obtain⟨j1,j2,j3,j4⟩:=hs.mine h1;exact⟨j1,AO _ j2,j3,j4⟩
  ·refine⟨λh1 h2=>?_,λh1=>?_⟩
   ·rw[Z] at h1;cases h1
   ·obtain⟨j1,j2,j3,j4⟩:=ht.mine h1;exact⟨j1,AO _ j2,j3,j4⟩
  ·exact a4.Fa (by rw[Q,hn] at *;exact X) F
end
