/- Nodes are laid down instead of others: who owns what then -/
import Derived.Test.YthkfkhejjmhomaaGreatDoorDz29
namespace Go.Proofs.YthkfkhejjmhomaaGreatDoor
open Go Go.RowKit Go.Proofs
def Qax (b:Nd)(a:Int):Qk:=⟨b.least,a⟩
def Qd6 (R:Int->Nd × Int)(e:List Nd)(d:List Int):Prop:=∀p∈e.zip d,R p.2=(p.1,0)/\1<=p.2/\p.2<2048
theorem Qd6.ext {R R':Int->Nd × Int}{dn:List Nd}{az:List Int}(h:Qd6 R dn az)(e:Ext R R'):Qd6 R' dn az:=λp f=>by
 obtain⟨d,g⟩:=h p f;exact⟨by rw[e _ (by rw[d])];exact d,g⟩
section
variable {D:DM}{S0:Sp}{C0:Ct}{O H:List Int}{P:Pl}
theorem Zh.other {l:Int}{s o:Zz}(h:Zh P D O l o)(hne:o.held=true\/o.addr≠s.addr){O':List Int}{P':Pl}(hf:∀x,x≠s.addr->P'.C.get x=P.C.get x/\P'.store D x=P.store D x)(hO:∀x,x≠s.addr->(x∈O'↔x∈O)):Zh P' D O' l o:=by
 refine⟨λh1 h2=>?_,λh1=>?_⟩
 ·obtain⟨f,g,m⟩:=h.shared h1 h2;have hn:o.addr≠s.addr:=hne.elim (λe=>by rw[h2] at e;cases e) id;obtain⟨p,d⟩:=hf _ hn;exact⟨by rw[p];exact f,λh=>g ((hO _ hn).1 h),by rw[show P'.Qb D o.addr=P.Qb D o.addr from congrArg Prod.fst d];exact m⟩
 ·obtain⟨f,g,m,q⟩:=h.mine h1;have hn:o.addr≠s.addr:=hne.elim (λe=>by rw[f] at e;cases e) id;obtain⟨p,d⟩:=hf _ hn;exact⟨f,(hO _ hn).2 g,by rw[show P'.Qb D o.addr=P.Qb D o.addr from congrArg Prod.fst d];exact m,(congrArg Prod.snd d).trans q⟩
theorem Qz2 {s:Zz}{x:Int}(d:x≠s.addr):x∈Qkn O s↔x∈O:=by
 unfold Qkn;split
 ·exact Iff.rfl
 ·rw[Yy];exact⟨λh=>h.1,λh=>⟨h,d⟩⟩
theorem Qpq {s:Zz}{x:Int}(h:x∈Qkn O s):x∈O/\(s.shared=false->x≠s.addr):=by
 unfold Qkn at h;split at h
 ·rename_i d;exact⟨h,λe=>by rw[e] at d;cases d⟩
 ·obtain⟨h1,h2⟩:=Yy.1 h;exact⟨h1,λ_=>h2⟩
theorem Qb7 {l:Int}:∀(olds:List Zz) {O H:List Int} {P:Pl} (d:List Nd) (A:List Qk) (X:List Int),Keep D S0 C0 O H P->(∀s∈olds,Zh P D O l s)->(olds.Pairwise λs o=>o.held=true\/o.addr≠s.addr)->
  (∀b∈d,Fits (P.hide D O) b)->(∀a:Nat,0<a->a<P.C.n->H.count (a:Int)=(olds.flatMap own++(d.flatMap Nd.named++X)).count (a:Int))->
  ∃m B y f u,d=y++f/\u.length=y.length/\Ld olds P d A=some (m,f,A++List.zipWith Qax y u)/\Keep D S0 C0 B (u++(f.flatMap Nd.named++X)) m/\Move l D O B P m 0/\
   (∀x,x∈B->x∈O/\∀s∈olds,s.shared=false->x≠s.addr)/\Qd6 (m.hide D B) y u
 |[],O,H,P,d,A,X,K,_,_,_,hH=>⟨P,O,[],d,[],rfl,rfl,by unfold Ld;simp,K.perm λa h1 h2=>(hH a h1 h2).symm,Move.refl l D O P,λx z=>⟨z,λs U=>(by cases U)⟩,λp G=>(by cases G)⟩
 |s::olds,O,H,P,d,A,X,K,U,hd,hf,hH=>by
  obtain⟨M,Q⟩:=List.pairwise_cons.1 hd;have V:=U s (List.mem_cons_self ..);have hcut:∀a:Nat,0<a->a<P.C.n->H.count (a:Int)=(own s++(olds.flatMap own++(d.flatMap Nd.named++X))).count (a:Int):=λa h1 h2=>by
   rw[hH a h1 h2,List.flatMap_cons,List.append_assoc]
  have g:(∀m,P.leave s=some m->Ld (s::olds) P d A=Ld olds m d A)->∃m B y f u,d=y++f/\u.length=y.length/\Ld (s::olds) P d A=some (m,f,A++List.zipWith Qax y u)/\Keep D S0 C0 B (u++(f.flatMap Nd.named++X)) m/\Move l D O B P m 0/\
   (∀x,x∈B->x∈O/\∀I∈s::olds,I.shared=false->x≠I.addr)/\Qd6 (m.hide D B) y u:=λF=>by
   obtain⟨P1,e1,Z,m1,f1⟩:=Qix K V hcut;obtain⟨P2,O2,y,f,u,g1,g2,g3,g4,g5,g6,g7⟩:=Qb7 olds d A X Z (λo R=>(U o (List.mem_cons_of_mem _ R)).other (M o R) f1 λx z=>Qz2 z) Q (λb hb=>(hf b hb).ext m1.ext) (λa _ _=>rfl);refine⟨P2,O2,y,f,u,g1,g2,by rw[F P1 e1];exact g3,g4,m1.trans K.nonneg g5,λx z=>?_,g7⟩;obtain⟨j1,j2⟩:=g6 x z;obtain⟨j3,j4⟩:=Qpq j1;refine⟨j3,λI q=>?_⟩;rcases List.mem_cons.1 q with rfl|q
   ·exact j4
   ·exact j2 I q
  match d,hf,hH,hcut,g with
  |[],hf,hH,hcut,g=>
   refine g λm e=>?_
   show (match P.leave s with|some m=>Ld olds m [] A|none=>none)=_;rw[e]
  |b::d,hf,hH,hcut,g=>
   by_cases E:s.shared=true\/P.C.fresh s.addr=false
   ·refine g λm e=>?_
    show (if s.shared=true\/P.C.fresh s.addr=false then (match P.leave s with|some m=>Ld olds m (b::d) A|none=>none) else _)=_;rw[if_pos E,e]
   ·have a2:s.shared=false:=by
     cases e:s.shared with
     |true=>exact absurd (.inl e) E
     |false=>rfl
    have a1:P.C.fresh s.addr=true:=by
     cases e:P.C.fresh s.addr with
     |true=>rfl
     |false=>exact absurd (.inr e) E
    obtain⟨m1,m2,m3,m4⟩:=V.mine a2;have hg:=(K.opened _ m2).2;obtain⟨c,J,a6⟩:=Xr (C:=P.C) (a:=s.addr) (by omega);obtain⟨c0,_⟩:=K.first (c:=c) (by rw[<-J];omega)
    have T:own s=[s.addr]:=if_neg (by rw[m1];decide);rw[T] at hcut;obtain⟨e0,Z,hN,mv,hC,W⟩:=K.set (c:=c) (N:=b) (H0:=s.addr::(olds.flatMap own++(d.flatMap Nd.named++X))) (by rw[<-J];exact m2) (by rw[<-J];exact m4) (by rw[<-J];exact a1) (hf b (List.mem_cons_self ..)) (λa h1 h2=>by
     rw[hcut a h1 h2,List.flatMap_cons];simp only[List.count_append,List.count_cons,List.count_nil];omega)
    rw[<-J] at e0 Z hN mv hC W;have Y:=mv l (by omega);obtain⟨P2,O2,y,f,u,g1,g2,g3,g4,g5,g6,g7⟩:=Qb7 olds d (A++[⟨b.least,s.addr⟩]) (s.addr::X) Z (λo R=>(U o (List.mem_cons_of_mem _ R)).other (M o R) (λx z=>⟨by rw[hC],W x z⟩) λx z=>by
      rw[Yy];exact⟨λh=>h.1,λh=>⟨h,z⟩⟩) Q (λx z=>(hf x (List.mem_cons_of_mem _ z)).ext Y.ext) (λa h1 h2=>by
      simp only[List.count_append,List.count_cons];omega)
    refine⟨P2,O2,b::y,f,s.addr::u,by rw[g1];rfl,by rw[List.length_cons,List.length_cons,g2],?_,?_,Y.trans K.nonneg g5,λx z=>?_,λp G=>?_⟩
    ·show (if s.shared=true\/P.C.fresh s.addr=false then _ else if P.Qfz s.addr b=0 then Ld olds (P.Qch s.addr b) d (A++[⟨b.least,s.addr⟩]) else none)=_;rw[if_neg E,if_pos e0,g3,List.zipWith_cons_cons,List.append_assoc];rfl
    ·refine g4.perm λa _ _=>?_
     simp only[List.count_append,List.count_cons,List.cons_append];omega
    ·obtain⟨j1,j2⟩:=g6 x z;obtain⟨j3,j4⟩:=Yy.1 j1;refine⟨j3,λI q=>?_⟩;rcases List.mem_cons.1 q with rfl|q
     ·exact λ_=>j4
     ·exact j2 I q
    ·rw[List.zip_cons_cons] at G;rcases List.mem_cons.1 G with rfl|G
     ·have hn:=K.c.1.2;exact⟨by show (P2.hide D O2) s.addr=(b,0);rw[g5.ext _ (by rw[hN])];exact hN,by show 1<=s.addr;omega,by show s.addr<2048;omega⟩
     ·exact g7 p G
theorem Qg8:∀(d:List Nd) {H:List Int} {P:Pl} (m:List Qk) (X:List Int),Keep D S0 C0 O H P->(∀b∈d,Fits (P.hide D O) b)->(∀a:Nat,0<a->a<P.C.n->H.count (a:Int)=(d.flatMap Nd.named++X).count (a:Int))->
  (∃e q,q.length=d.length/\Oi d P m=some (e,some (m++List.zipWith Qax d q))/\Keep D S0 C0 O (q++X) e/\(∀l,Move l D O O P e d.length)/\Qd6 (e.hide D O) d q)\/(∃e,Oi d P m=some (e,none)/\P.C.free<d.length)
 |[],H,P,m,X,K,_,hH=>.inl ⟨P,[],rfl,by unfold Oi;simp,K.perm λa h1 h2=>(hH a h1 h2).symm,λl=>Move.refl l D O P,λp g=>(by cases g)⟩
 |b::d,H,P,m,X,K,hf,hH=>by
  have z:=hf b (List.mem_cons_self ..)
  cases g:P.C.pick with
  |none=>
   right
   have A:P.Xo b=6:=by unfold Pl.Xo;rw[if_pos z.may];exact (Ct.Qb1 g).1
   refine⟨P.Xb b,?_,by rw[Ct.Z8 g];exact Nat.succ_pos _⟩;show (if P.Xo b=0 then _ else if P.Xo b=6 then some (P.Xb b,none) else none)=_;rw[if_neg (by rw[A];decide),if_pos A]
  |some c=>
   obtain⟨E,F,B,y,u,c1,c2⟩:=K.put (H0:=d.flatMap Nd.named++X) g z (λa h1 h2=>by
    rw[hH a h1 h2,List.flatMap_cons];simp only[List.count_append];omega)
   have f:Oi (b::d) P m=Oi d (P.Xb b) (m++[⟨b.least,P.Yd b⟩]):=by
    show (if P.Xo b=0 then _ else _)=_;rw[if_pos E]
   rcases Qg8 d (m++[⟨b.least,P.Yd b⟩]) ((c:Int)::X) B (λx I=>(hf x (List.mem_cons_of_mem _ I)).ext (u 0).ext) (λa _ _=>by
    simp only[List.count_append,List.count_cons];omega) with⟨e,q,g1,g2,g3,g4,g5⟩|⟨e,g1,g2⟩
   ·left
    refine⟨e,(c:Int)::q,by rw[List.length_cons,List.length_cons,g1],?_,g3.perm λa _ _=>?_,λl=>?_,λp g=>?_⟩
    ·rw[f,g2,List.zipWith_cons_cons,List.append_assoc,F];rfl
    ·simp only[List.count_append,List.count_cons,List.cons_append];omega
    ·have:=(u l).trans K.nonneg (g4 l);exact this.more (by rw[List.length_cons];omega)
    ·rw[List.zip_cons_cons] at g;rcases List.mem_cons.1 g with rfl|g
     ·exact⟨by show (e.hide D O) (c:Int)=(b,0);rw[(g4 0).ext _ (by rw[y])];exact y,by show (1:Int)<=(c:Int);omega,by show (c:Int)<2048;omega⟩
     ·exact g5 p g
   ·right
    have G:=(u 0).free;exact⟨e,by rw[f];exact g1,by rw[List.length_cons];omega⟩
theorem Qo9 {l:Int}(K:Keep D S0 C0 O H P)(x:Ia)(X:List Int)(R:∀s∈x.olds,Zh P D O l s)(hd:x.olds.Pairwise λs o=>o.held=true\/o.addr≠s.addr)
  (u:∀b∈pieces x.N,Fits (P.hide D O) b) (M:∀a:Nat,0<a->a<P.C.n->H.count (a:Int)=(x.olds.flatMap own++((pieces x.N).flatMap Nd.named++X)).count (a:Int)) :
  (∃e m d,d.length=(pieces x.N).length/\P.Tq x=some (e,some (List.zipWith Qax (pieces x.N) d))/\Keep D S0 C0 m (d++X) e/\Move l D O m P e (pieces x.N).length/\
   (∀y,y∈m->y∈O/\∀s∈x.olds,s.shared=false->y≠s.addr)/\Qd6 (e.hide D m) (pieces x.N) d)\/(∃e,P.Tq x=some (e,none)/\P.C.free<(pieces x.N).length):=by
 obtain⟨T,A,B,g,d,f,E,F,G,q,I,J⟩:=Qb7 x.olds (pieces x.N) [] X K R hd u M;unfold Pl.Tq;rw[F];dsimp only;rcases Qg8 g (List.zipWith Qax B d) (d++X) G (λb Q=>(u b (by rw[f];exact List.mem_append_right _ Q)).ext q.ext) (λa _ _=>by
   simp only[List.count_append];omega) with⟨P2,az2,j1,j2,j3,j4,j5⟩|⟨P2,j1,j2⟩
 ·left
  refine⟨P2,A,d++az2,by rw[f,List.length_append,List.length_append,E,j1],?_,j3.perm λa _ _=>?_,?_,I,λp z=>?_⟩
  ·rw[List.nil_append,j2,f,List.zipWith_append (by omega)]
  ·simp only[List.count_append];omega
  ·exact (q.trans K.nonneg (j4 l)).more (by rw[f,List.length_append];omega)
  ·rw[f,List.zip_append (by omega)] at z;rcases List.mem_append.1 z with h|h
   ·exact J.ext (j4 0).ext p h
   ·exact j5 p h
 ·right
  have:=q.free;exact⟨P2,by rw[List.nil_append];exact j1,by rw[f,List.length_append];omega⟩
end
def Lh:List Zz->List Int->List Int
 |[],H0=>H0
 |t::way,H0=>own t++((if t.shared=true then [] else (Ls t t.next (t.next+1)).named)++Lh way H0)
def Wj (P:Pl)(D:DM)(O:List Int):Nat->Zz->List Zz->List Qq->List Qq->Prop
 |_,_,[],L,Rr=>L=[]/\Rr=[]
 |l,s,t::way,L,Rr=>∃(d e:List Zv) (x:Zv) (f g:List Qq),t.N=⟨((l+1:Nat):Int),[],(d++x::e).map Qy⟩/\t.next=d.length/\x.1=s.addr/\s.held=t.shared/\t.N.may=true/\(way≠[]->6<=d.length+e.length+1)/\
  (∀y∈d++e,good1 (P.hide D O) l y)/\(s.shared=true->Qe (P.hide D O) l x.1 x.2)/\Zh P D O ((l+1:Nat):Int) t/\Wj P D O (l+1) t way f g/\L=f++rowOf d/\Rr=rowOf e++g/\∀y∈d++e,y.1≠s.addr
section
variable {D:DM}{S0:Sp}{C0:Ct}{O H:List Int}{P:Pl}
theorem Wj.ext {O':List Int}{P':Pl}(K:Keep D S0 C0 O H P){lv:Nat}(e:Ext (P.hide D O) (P'.hide D O'))(ha:Jk (lv:Int) D O O' P P'):∀{way:List Zz} {l:Nat} {s:Zz} {L Rr:List Qq},lv<=l->Wj P D O l s way L Rr->Wj P' D O' l s way L Rr
 |[],l,s,L,Rr,_,h=>h
 |t::way,l,s,L,Rr,hl,h=>by
  obtain⟨m,p,x,q,u,h1,h2,z,A,B,E,F,G,I,d,f,g⟩:=h;exact⟨m,p,x,q,u,h1,h2,z,A,B,E,λy M=>Pq (F y M) e,λJ=>Dl e (G J),I.above K ha (by omega),Wj.ext K e ha (by omega) d,f,g⟩
def Qtf (way:List Zz):Prop:=∀t∈way,t.shared=false
theorem Qf5:∀{way:List Zz} {l:Nat} {s:Zz} {L Rr:List Qq},Wj P D O l s way L Rr->s.held=false->Qtf way
 |[],_,_,_,_,_,_=>λt e=>(by cases e)
 |t::way,l,s,L,Rr,h,hs=>by
  obtain⟨y,z,x,A,B,h1,h2,E,p,F,G,I,J,q,f,g,m⟩:=h;have e:t.shared=false:=p.symm.trans hs;intro u d;rcases List.mem_cons.1 d with rfl|d
  ·exact e
  ·exact Qf5 f (q.mine e).1 u d
theorem Na (l:Nat)(G:List Zv):(⟨((l+1:Nat):Int),[],G.map Qy⟩:Nd).named=G.map (·.1):=by
 unfold Nd.named;rw[List.filterMap_nil,List.append_nil,List.map_map];rfl
theorem Po (l:Nat)(G:List Zv)(i j:Nat):(⟨((l+1:Nat):Int),[],G.map Qy⟩:Nd).cut i j=⟨((l+1:Nat):Int),[],((G.drop i).take (j-i)).map Qy⟩:=by
 unfold Nd.cut;rw[if_neg (by show ¬((l+1:Nat):Int)=0;omega),List.map_take,List.map_drop]
theorem Qes {t:Zz}{l:Nat}{G:List Zv}(h:t.N=⟨((l+1:Nat):Int),[],G.map Qy⟩)(i j:Nat):Ls t i j=⟨((l+1:Nat):Int),[],(G.take i++G.drop j).map Qy⟩:=by
 unfold Ls;rw[h,Po,Po];unfold Wv Nd.size;simp only[List.flatMap_cons,List.flatMap_nil,List.append_nil,List.length_nil,Nat.zero_add,List.length_map,List.drop_zero,Nat.sub_zero,List.map_append];have e:List.take (G.length-j) (List.drop j G)=List.drop j G:=List.take_of_length_le (by rw[List.length_drop];omega);rw[e]
theorem Pz {t:Zz}{l:Nat}{GL GR:List Zv}{x:Zv}(h:t.N=⟨((l+1:Nat):Int),[],(GL++x::GR).map Qy⟩)(hn:t.next=GL.length):(Ls t t.next (t.next+1)).named=GL.map (·.1)++GR.map (·.1):=by
 rw[Qes h,Na,hn,List.take_left,List.drop_append,List.drop_of_length_le (by omega)];have e:GL.length+1-GL.length=1:=by omega
 rw[e];simp
theorem Wj.open_ (K:Keep D S0 C0 O H P){c:Nat}(h1:P.C.get (c:Int)=1)(hc:(c:Int)∈H){H0:List Int}:∀{way:List Zz} {l:Nat} {s:Zz} {L Rr:List Qq},Wj P D O l s way L Rr->Qtf way->s.shared=false->(c:Int)∉Lh way H0->Wj P D ((c:Int)::O) l s way L Rr
 |[],l,s,L,Rr,h,_,_,_=>h
 |t::way,l,s,L,Rr,h,hb,hs,hn=>by
  obtain⟨A,B,x,E,F,q,u,G,I,J,M,Q,g8,R,g,m,p⟩:=h;have f:=hb t (List.mem_cons_self ..);have hn:(c:Int)∉own t++((if t.shared=true then [] else (Ls t t.next (t.next+1)).named)++Lh way H0):=hn;rw[f,if_neg (by decide),Pz q u] at hn;simp only[List.mem_append,not_or] at hn;obtain⟨n1,⟨n2,n3⟩,n4⟩:=hn;obtain⟨X,Y,Z,m4⟩:=R.mine f;refine⟨A,B,x,E,F,q,u,G,I,J,M,λy z=>?_,λh=>?_,⟨λh=>?_,λ_=>⟨X,List.mem_cons_of_mem _ Y,Z,m4⟩⟩,Wj.open_ K h1 hc g (λt' T=>hb t' (List.mem_cons_of_mem _ T)) f n4,m,p⟩
  ·obtain⟨U,V,W⟩:=Q y z;have d:y.1≠(c:Int):=λe=>by
    rcases List.mem_append.1 z with h|h
    ·exact n2 (e▸List.mem_map_of_mem h)
    ·exact n3 (e▸List.mem_map_of_mem h)
   exact⟨open_tree K h1 hc l _ _ d U,by rw[Oe d];exact V,W⟩
  ·rw[hs] at h;cases h
  ·rw[f] at h;cases h
theorem Keep.long (K:Keep D S0 C0 O H P):∀(l:Nat) (y:Zv),good1 (P.hide D O) l y->3*6 ^ l<=y.2.length
 |0,y,h=>by
  obtain⟨h1,h2,_⟩:=h;rw[h1.1] at h2;unfold Nd.enough at h2;rw[if_pos rfl] at h2;simpa using h2
 |l+1,y,h=>by
  obtain⟨h1,h2,T⟩:=h;have L:=K.tree h1;obtain⟨kids,parts,e,W,X,Q,R⟩:=h1;rw[e] at h2;unfold Nd.enough at h2;rw[if_neg (show ¬(((l+1:Nat):Int))=0 by omega)] at h2;have h2:6<=kids.length:=by simpa using h2
  have f:∀p∈parts,3*6 ^ l<=p.length:=λp m=>by
   obtain⟨j,G,B⟩:=List.getElem_of_mem m;have g:j<kids.length:=by omega
   have M:(Ql kids j)∈((P.hide D O) y.1).1.kids:=by rw[e];exact List.mem_of_getElem? (q32 g)
   obtain⟨j1,j2,j3,j4⟩:=L.kids _ M;have A:=(R j g).1;have E:parts.getD j []=p:=by rw[List.getD_eq_getElem?_getD,List.getElem?_eq_getElem G,B];rfl
   rw[E] at A;obtain⟨_,c,V,F,u⟩:=Fq j1;obtain⟨c0,_⟩:=K.first u
   have I:=K.c.1.2;exact K.long l ((Ql kids j).a,p) ⟨A,j4,by show 1<=(Ql kids j).a;omega,by show (Ql kids j).a<2048;omega⟩
  have z:∀(d:List (List Qq)),(∀p∈d,3*6 ^ l<=p.length)->d.length*(3*6 ^ l)<=d.flatten.length:=by
   intro d;induction d with
   |nil=>intro _;simp
   |cons p d ih=>
    intro m;have h1:=m p (List.mem_cons_self ..);have h2:=ih λq J=>m q (List.mem_cons_of_mem _ J)
    rw[List.flatten_cons,List.length_append,List.length_cons,Nat.add_mul,Nat.one_mul];omega
  have:=z parts f;rw[Q];have U:6*(3*6 ^ l)<=parts.length*(3*6 ^ l):=Nat.mul_le_mul_right _ (by omega);rw[Nat.pow_succ];omega
theorem Keep.bun (K:Keep D S0 C0 O H P){l:Nat}{a:Int}{its:List Qq}(h:Qe (P.hide D O) l a its):∃M,U7 (P.hide D O) l (P.hide D O a).1 M/\M.flatten=its/\Jm (P.hide D O) a/\M≠[]:=by
 have L:=K.tree h
 cases l with
 |zero=>
  rw[h.1];exact⟨its.map λx=>[x],⟨its,rfl,rfl⟩,Nb its,L,λe=>h.2 (List.map_eq_nil_iff.1 e)⟩
 |succ l=>
  obtain⟨kids,parts,e,U,V,W,A⟩:=h;have z:(kids.zip parts).length=kids.length:=by rw[List.length_zip];omega
  have f:∀j (g:j<kids.length),kids[j]=Ql kids j/\parts[j]'(by omega)=parts.getD j []:=λj g=>by
   have:=q32 g;rw[List.getElem?_eq_getElem g] at this;exact⟨Option.some.inj this,by rw[List.getD_eq_getElem?_getD,List.getElem?_eq_getElem (by omega)];rfl⟩
  have I:(List.zip (kids.map (·.a)) parts).map Qy=kids:=by
   apply List.ext_getElem
   ·rw[List.length_map,List.length_zip,List.length_map];omega
   ·intro j h1 h2;obtain⟨m,p⟩:=f j h2;obtain⟨_,x,r,B,E⟩:=A j h2;rw[List.getElem_map,List.getElem_zip,List.getElem_map,p,B,m];unfold Qy;show (⟨x.k,(Ql kids j).a⟩:Qk)=_;rw[<-E]
  have Q:(List.zip (kids.map (·.a)) parts).map (·.2)=parts:=List.map_snd_zip (by rw[List.length_map];omega);refine⟨parts,⟨List.zip (kids.map (·.a)) parts,?_,Q.symm,λy T=>?_⟩,W.symm,L,λF=>U (List.eq_nil_of_length_eq_zero (by rw[<-V,F];rfl))⟩
  ·rw[e,I]
  ·obtain⟨j,g,u⟩:=List.getElem_of_mem T;rw[List.length_zip,List.length_map] at g;have d:j<kids.length:=by omega
   obtain⟨m,p⟩:=f j d;rw[List.getElem_zip,List.getElem_map,m,p] at u;rw[<-u];have R:(Ql kids j)∈((P.hide D O) a).1.kids:=by rw[e];exact List.mem_of_getElem? (q32 d)
   obtain⟨j1,j2,j3,j4⟩:=L.kids _ R;obtain⟨_,c,X,G,q⟩:=Fq j1;obtain⟨c0,_⟩:=K.first q
   have J:=K.c.1.2;exact⟨(A j d).1,j4,by show 1<=(Ql kids j).a;omega,by show (Ql kids j).a<2048;omega⟩
theorem Qnt {R:Int->Nd × Int}{l:Nat}{N:Nd}{M:List (List Qq)}(h:U7 R l N M)(hm:N.may=true):M.length<=Iw (l:Int)/\l<8:=by
 cases l with
 |zero=>
  obtain⟨its,rfl,rfl⟩:=h;have:=(q12 hm rfl).2.2.2;rw[List.length_map];exact⟨this,by omega⟩
 |succ l=>
  obtain⟨G,rfl,rfl,_⟩:=h;obtain⟨_,_,f,_,d,_⟩:=q13 hm (by show ¬((l+1:Nat):Int)=0;omega);have f:((l+1:Nat):Int)<8:=f;have e:Iw ((l+1:Nat):Int)=12:=if_neg (by omega);rw[e,List.length_map];have d:(G.map Qy).length<=12:=d;rw[List.length_map] at d;exact⟨d,by omega⟩
end
