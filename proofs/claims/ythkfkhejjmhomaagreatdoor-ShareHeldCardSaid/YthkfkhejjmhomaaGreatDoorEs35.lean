/- Nodes are laid down instead of others: who owns what then -/
import Derived.Test.YthkfkhejjmhomaaGreatDoorEs27
namespace Go.Proofs.YthkfkhejjmhomaaGreatDoor
open Go Go.RowKit Go.Proofs
def Wl (b:Nd)(a:Int):Qm:=⟨b.least,a⟩
def Ux (R:Int->Nd × Int)(d:List Nd)(b:List Int):Prop:=∀p∈d.zip b,R p.2=(p.1,0)/\1<=p.2/\p.2<2048
theorem Ux.ext {R R':Int->Nd × Int}{dn:List Nd}{az:List Int}(h:Ux R dn az)(e:Ext R R'):Ux R' dn az:=λp d=>by
 obtain⟨b,f⟩:=h p d;exact⟨by rw[e _ (by rw[b])];exact b,f⟩
section
variable {D:DM}{S0:Sp}{C0:Ct}{O H:List Int}{P:Pl}
theorem Zo.other {l:Int}{s o:Qs}(h:Zo P D O l o)(hne:o.held=true\/o.addr≠s.addr){O':List Int}{P':Pl}(hf:∀x,x≠s.addr->P'.C.get x=P.C.get x/\P'.store D x=P.store D x)(hO:∀x,x≠s.addr->(x∈O'↔x∈O)):Zo P' D O' l o:=by
 refine⟨λh1 h2=>?_,λh1=>?_⟩
 ·obtain⟨d,f,m⟩:=h.shared h1 h2;have hn:o.addr≠s.addr:=hne.elim (λe=>by rw[h2] at e;cases e) id;obtain⟨p,b⟩:=hf _ hn;exact⟨by rw[p];exact d,λh=>f ((hO _ hn).1 h),by rw[show P'.Qa D o.addr=P.Qa D o.addr from congrArg Prod.fst b];exact m⟩
 ·obtain⟨d,f,m,u⟩:=h.mine h1;have hn:o.addr≠s.addr:=hne.elim (λe=>by rw[d] at e;cases e) id;obtain⟨p,b⟩:=hf _ hn;exact⟨d,(hO _ hn).2 f,by rw[show P'.Qa D o.addr=P.Qa D o.addr from congrArg Prod.fst b];exact m,(congrArg Prod.snd b).trans u⟩
theorem qul {s:Qs}{x:Int}(b:x≠s.addr):x∈Dl O s↔x∈O:=by
 unfold Dl;split
 ·exact Iff.rfl
 ·rw[Fg];exact⟨λh=>h.1,λh=>⟨h,b⟩⟩
theorem qks {s:Qs}{x:Int}(h:x∈Dl O s):x∈O/\(s.shared=false->x≠s.addr):=by
 unfold Dl at h;split at h
 ·rename_i b;exact⟨h,λe=>by rw[e] at b;cases b⟩
 ·obtain⟨h1,h2⟩:=Fg.1 h;exact⟨h1,λ_=>h2⟩
theorem q51 {l:Int}:∀(olds:List Qs) {O H:List Int} {P:Pl} (d:List Nd) (F:List Qm) (X:List Int),Keep D S0 C0 O H P->(∀s∈olds,Zo P D O l s)->(olds.Pairwise λs o=>o.held=true\/o.addr≠s.addr)->
  (∀b∈d,Fits (P.hide D O) b)->(∀a:Nat,0<a->a<P.C.n->H.count (a:Int)=(olds.flatMap own++(d.flatMap Nd.named++X)).count (a:Int))->
  ∃u G B f A,d=B++f/\A.length=B.length/\Gh olds P d F=some (u,f,F++List.zipWith Wl B A)/\Keep D S0 C0 G (A++(f.flatMap Nd.named++X)) u/\Move l D O G P u 0/\
   (∀x,x∈G->x∈O/\∀s∈olds,s.shared=false->x≠s.addr)/\Ux (u.hide D G) B A
 |[],O,H,P,d,F,X,K,_,_,_,hH=>⟨P,O,[],d,[],rfl,rfl,by unfold Gh;simp,K.perm λa h1 h2=>(hH a h1 h2).symm,Move.refl l D O P,λx E=>⟨E,λs Z=>(by cases Z)⟩,λp M=>(by cases M)⟩
 |s::olds,O,H,P,d,F,X,K,Z,hd,hf,hH=>by
  obtain⟨T,U⟩:=List.pairwise_cons.1 hd;have a0:=Z s (List.mem_cons_self ..);have hcut:∀a:Nat,0<a->a<P.C.n->H.count (a:Int)=(own s++(olds.flatMap own++(d.flatMap Nd.named++X))).count (a:Int):=λa h1 h2=>by
   rw[hH a h1 h2,List.flatMap_cons,List.append_assoc]
  have m:(∀u,P.leave s=some u->Gh (s::olds) P d F=Gh olds u d F)->∃u G B f A,d=B++f/\A.length=B.length/\Gh (s::olds) P d F=some (u,f,F++List.zipWith Wl B A)/\Keep D S0 C0 G (A++(f.flatMap Nd.named++X)) u/\Move l D O G P u 0/\
   (∀x,x∈G->x∈O/\∀Q∈s::olds,Q.shared=false->x≠Q.addr)/\Ux (u.hide D G) B A:=λJ=>by
   obtain⟨P1,e1,K1,m1,f1⟩:=qcj K a0 hcut;obtain⟨P2,O2,B,f,A,g1,g2,g3,g4,g5,g6,g7⟩:=q51 olds d F X K1 (λo W=>(Z o (List.mem_cons_of_mem _ W)).other (T o W) f1 λx E=>qul E) U (λb hb=>(hf b hb).ext m1.ext) (λa _ _=>rfl);refine⟨P2,O2,B,f,A,g1,g2,by rw[J P1 e1];exact g3,g4,m1.trans K.nonneg g5,λx E=>?_,g7⟩;obtain⟨j1,j2⟩:=g6 x E;obtain⟨j3,j4⟩:=qks j1;refine⟨j3,λQ y=>?_⟩;rcases List.mem_cons.1 y with rfl|y
   ·exact j4
   ·exact j2 Q y
  match d,hf,hH,hcut,m with
  |[],hf,hH,hcut,m=>
   refine m λu e=>?_
   show (match P.leave s with|some u=>Gh olds u [] F|none=>none)=_;rw[e]
  |b::d,hf,hH,hcut,m=>
   by_cases I:s.shared=true\/P.C.fresh s.addr=false
   ·refine m λu e=>?_
    show (if s.shared=true\/P.C.fresh s.addr=false then (match P.leave s with|some u=>Gh olds u (b::d) F|none=>none) else _)=_;rw[if_pos I,e]
   ·have a4:s.shared=false:=by
     cases e:s.shared with
     |true=>exact absurd (.inl e) I
     |false=>rfl
    have a3:P.C.fresh s.addr=true:=by
     cases e:P.C.fresh s.addr with
     |true=>rfl
     |false=>exact absurd (.inr e) I
    obtain⟨m1,m2,m3,m4⟩:=a0.mine a4;have hg:=(K.opened _ m2).2;obtain⟨c,R,a5⟩:=Uc (C:=P.C) (a:=s.addr) (by omega);obtain⟨c0,_⟩:=K.first (c:=c) (by rw[<-R];omega)
    have Y:own s=[s.addr]:=if_neg (by rw[m1];decide);rw[Y] at hcut;obtain⟨e0,K1,hN,mv,hC,a1⟩:=K.set (c:=c) (N:=b) (H0:=s.addr::(olds.flatMap own++(d.flatMap Nd.named++X))) (by rw[<-R];exact m2) (by rw[<-R];exact m4) (by rw[<-R];exact a3) (hf b (List.mem_cons_self ..)) (λa h1 h2=>by
     rw[hcut a h1 h2,List.flatMap_cons];simp only[List.count_append,List.count_cons,List.count_nil];omega)
    rw[<-R] at e0 K1 hN mv hC a1;have a2:=mv l (by omega);obtain⟨P2,O2,B,f,A,g1,g2,g3,g4,g5,g6,g7⟩:=q51 olds d (F++[⟨b.least,s.addr⟩]) (s.addr::X) K1 (λo W=>(Z o (List.mem_cons_of_mem _ W)).other (T o W) (λx E=>⟨by rw[hC],a1 x E⟩) λx E=>by
      rw[Fg];exact⟨λh=>h.1,λh=>⟨h,E⟩⟩) U (λx E=>(hf x (List.mem_cons_of_mem _ E)).ext a2.ext) (λa h1 h2=>by
      simp only[List.count_append,List.count_cons];omega)
    refine⟨P2,O2,b::B,f,s.addr::A,by rw[g1];rfl,by rw[List.length_cons,List.length_cons,g2],?_,?_,a2.trans K.nonneg g5,λx E=>?_,λp M=>?_⟩
    ·show (if s.shared=true\/P.C.fresh s.addr=false then _ else if P.Gl s.addr b=0 then Gh olds (P.Vm s.addr b) d (F++[⟨b.least,s.addr⟩]) else none)=_;rw[if_neg I,if_pos e0,g3,List.zipWith_cons_cons,List.append_assoc];rfl
    ·refine g4.perm λa _ _=>?_
     simp only[List.count_append,List.count_cons,List.cons_append];omega
    ·obtain⟨j1,j2⟩:=g6 x E;obtain⟨j3,j4⟩:=Fg.1 j1;refine⟨j3,λQ y=>?_⟩;rcases List.mem_cons.1 y with rfl|y
     ·exact λ_=>j4
     ·exact j2 Q y
    ·rw[List.zip_cons_cons] at M;rcases List.mem_cons.1 M with rfl|M
     ·have hn:=K.c.1.2;exact⟨by show (P2.hide D O2) s.addr=(b,0);rw[g5.ext _ (by rw[hN])];exact hN,by show 1<=s.addr;omega,by show s.addr<2048;omega⟩
     ·exact g7 p M
theorem qaz:∀(d:List Nd) {H:List Int} {P:Pl} (u:List Qm) (X:List Int),Keep D S0 C0 O H P->(∀b∈d,Fits (P.hide D O) b)->(∀a:Nat,0<a->a<P.C.n->H.count (a:Int)=(d.flatMap Nd.named++X).count (a:Int))->
  (∃e y,y.length=d.length/\J8 d P u=some (e,some (u++List.zipWith Wl d y))/\Keep D S0 C0 O (y++X) e/\(∀l,Move l D O O P e d.length)/\Ux (e.hide D O) d y)\/(∃e,J8 d P u=some (e,none)/\P.C.free<d.length)
 |[],H,P,u,X,K,_,hH=>.inl ⟨P,[],rfl,by unfold J8;simp,K.perm λa h1 h2=>(hH a h1 h2).symm,λl=>Move.refl l D O P,λp m=>(by cases m)⟩
 |b::d,H,P,u,X,K,hf,hH=>by
  have E:=hf b (List.mem_cons_self ..)
  cases m:P.C.pick with
  |none=>
   right
   have F:P.Jo b=6:=by unfold Pl.Jo;rw[if_pos E.may];exact (Ct.Y7 m).1
   refine⟨P.Jm b,?_,by rw[Ct.X0 m];exact Nat.succ_pos _⟩;show (if P.Jo b=0 then _ else if P.Jo b=6 then some (P.Jm b,none) else none)=_;rw[if_neg (by rw[F];decide),if_pos F]
  |some c=>
   obtain⟨I,J,G,B,A,c1,c2⟩:=K.put (H0:=d.flatMap Nd.named++X) m E (λa h1 h2=>by
    rw[hH a h1 h2,List.flatMap_cons];simp only[List.count_append];omega)
   have f:J8 (b::d) P u=J8 d (P.Jm b) (u++[⟨b.least,P.Yw b⟩]):=by
    show (if P.Jo b=0 then _ else _)=_;rw[if_pos I]
   rcases qaz d (u++[⟨b.least,P.Yw b⟩]) ((c:Int)::X) G (λx Q=>(hf x (List.mem_cons_of_mem _ Q)).ext (A 0).ext) (λa _ _=>by
    simp only[List.count_append,List.count_cons];omega) with⟨e,y,g1,g2,g3,g4,g5⟩|⟨e,g1,g2⟩
   ·left
    refine⟨e,(c:Int)::y,by rw[List.length_cons,List.length_cons,g1],?_,g3.perm λa _ _=>?_,λl=>?_,λp m=>?_⟩
    ·rw[f,g2,List.zipWith_cons_cons,List.append_assoc,J];rfl
    ·simp only[List.count_append,List.count_cons,List.cons_append];omega
    ·have:=(A l).trans K.nonneg (g4 l);exact this.more (by rw[List.length_cons];omega)
    ·rw[List.zip_cons_cons] at m;rcases List.mem_cons.1 m with rfl|m
     ·exact⟨by show (e.hide D O) (c:Int)=(b,0);rw[(g4 0).ext _ (by rw[B])];exact B,by show (1:Int)<=(c:Int);omega,by show (c:Int)<2048;omega⟩
     ·exact g5 p m
   ·right
    have M:=(A 0).free;exact⟨e,by rw[f];exact g1,by rw[List.length_cons];omega⟩
theorem qkt {l:Int}(K:Keep D S0 C0 O H P)(x:Ri)(X:List Int)(W:∀s∈x.olds,Zo P D O l s)(hd:x.olds.Pairwise λs o=>o.held=true\/o.addr≠s.addr)
  (B:∀b∈pieces x.N,Fits (P.hide D O) b) (T:∀a:Nat,0<a->a<P.C.n->H.count (a:Int)=(x.olds.flatMap own++((pieces x.N).flatMap Nd.named++X)).count (a:Int)) :
  (∃e u d,d.length=(pieces x.N).length/\P.Y1 x=some (e,some (List.zipWith Wl (pieces x.N) d))/\Keep D S0 C0 u (d++X) e/\Move l D O u P e (pieces x.N).length/\
   (∀y,y∈u->y∈O/\∀s∈x.olds,s.shared=false->y≠s.addr)/\Ux (e.hide D u) (pieces x.N) d)\/(∃e,P.Y1 x=some (e,none)/\P.C.free<(pieces x.N).length):=by
 obtain⟨Y,F,G,m,d,f,I,J,M,A,Q,R⟩:=q51 x.olds (pieces x.N) [] X K W hd B T;unfold Pl.Y1;rw[J];dsimp only;rcases qaz m (List.zipWith Wl G d) (d++X) M (λb U=>(B b (by rw[f];exact List.mem_append_right _ U)).ext A.ext) (λa _ _=>by
   simp only[List.count_append];omega) with⟨P2,az2,j1,j2,j3,j4,j5⟩|⟨P2,j1,j2⟩
 ·left
  refine⟨P2,F,d++az2,by rw[f,List.length_append,List.length_append,I,j1],?_,j3.perm λa _ _=>?_,?_,Q,λp E=>?_⟩
  ·rw[List.nil_append,j2,f,List.zipWith_append (by omega)]
  ·simp only[List.count_append];omega
  ·exact (A.trans K.nonneg (j4 l)).more (by rw[f,List.length_append];omega)
  ·rw[f,List.zip_append (by omega)] at E;rcases List.mem_append.1 E with h|h
   ·exact R.ext (j4 0).ext p h
   ·exact j5 p h
 ·right
  have:=A.free;exact⟨P2,by rw[List.nil_append];exact j1,by rw[f,List.length_append];omega⟩
end
def Zn:List Qs->List Int->List Int
 |[],H0=>H0
 |t::way,H0=>own t++((if t.shared=true then [] else (Zq t t.next (t.next+1)).named)++Zn way H0)
def Xy (P:Pl)(D:DM)(O:List Int):Nat->Qs->List Qs->List Qg->List Qg->Prop
 |_,_,[],L,Rr=>L=[]/\Rr=[]
 |l,s,t::way,L,Rr=>∃(b d:List Ja) (x:Ja) (e f:List Qg),t.N=⟨((l+1:Nat):Int),[],(b++x::d).map Qp⟩/\t.next=b.length/\x.1=s.addr/\s.held=t.shared/\t.N.may=true/\(way≠[]->6<=b.length+d.length+1)/\
  (∀y∈b++d,good1 (P.hide D O) l y)/\(s.shared=true->Qi (P.hide D O) l x.1 x.2)/\Zo P D O ((l+1:Nat):Int) t/\Xy P D O (l+1) t way e f/\L=e++rowOf b/\Rr=rowOf d++f/\∀y∈b++d,y.1≠s.addr
section
variable {D:DM}{S0:Sp}{C0:Ct}{O H:List Int}{P:Pl}
theorem Xy.ext {O':List Int}{P':Pl}(K:Keep D S0 C0 O H P){lv:Nat}(e:Ext (P.hide D O) (P'.hide D O'))(ha:Ap (lv:Int) D O O' P P'):∀{way:List Qs} {l:Nat} {s:Qs} {L Rr:List Qg},lv<=l->Xy P D O l s way L Rr->Xy P' D O' l s way L Rr
 |[],l,s,L,Rr,_,h=>h
 |t::way,l,s,L,Rr,hl,h=>by
  obtain⟨m,p,x,u,A,h1,h2,B,E,F,G,I,J,M,b,d,f⟩:=h;exact⟨m,p,x,u,A,h1,h2,B,E,F,G,λy R=>q2b (I y R) e,λQ=>q13 e (J Q),M.above K ha (by omega),Xy.ext K e ha (by omega) b,d,f⟩
def qqs (way:List Qs):Prop:=∀t∈way,t.shared=false
theorem q9q:∀{way:List Qs} {l:Nat} {s:Qs} {L Rr:List Qg},Xy P D O l s way L Rr->s.held=false->qqs way
 |[],_,_,_,_,_,_=>λt d=>(by cases d)
 |t::way,l,s,L,Rr,h,hs=>by
  obtain⟨A,B,x,E,F,h1,h2,G,p,I,J,K,M,u,e,f,m⟩:=h;have d:t.shared=false:=p.symm.trans hs;intro y b;rcases List.mem_cons.1 b with rfl|b
  ·exact d
  ·exact q9q e (u.mine d).1 y b
theorem q17 (l:Nat)(G:List Ja):(⟨((l+1:Nat):Int),[],G.map Qp⟩:Nd).named=G.map (·.1):=by
 unfold Nd.named;rw[List.filterMap_nil,List.append_nil,List.map_map];rfl
theorem q2e (l:Nat)(G:List Ja)(i j:Nat):(⟨((l+1:Nat):Int),[],G.map Qp⟩:Nd).cut i j=⟨((l+1:Nat):Int),[],((G.drop i).take (j-i)).map Qp⟩:=by
 unfold Nd.cut;rw[if_neg (by show ¬((l+1:Nat):Int)=0;omega),List.map_take,List.map_drop]
theorem q8d {t:Qs}{l:Nat}{G:List Ja}(h:t.N=⟨((l+1:Nat):Int),[],G.map Qp⟩)(i j:Nat):Zq t i j=⟨((l+1:Nat):Int),[],(G.take i++G.drop j).map Qp⟩:=by
 unfold Zq;rw[h,q2e,q2e];unfold Zz Nd.size;simp only[List.flatMap_cons,List.flatMap_nil,List.append_nil,List.length_nil,Nat.zero_add,List.length_map,List.drop_zero,Nat.sub_zero,List.map_append];have e:List.take (G.length-j) (List.drop j G)=List.drop j G:=List.take_of_length_le (by rw[List.length_drop];omega);rw[e]
theorem q2f {t:Qs}{l:Nat}{GL GR:List Ja}{x:Ja}(h:t.N=⟨((l+1:Nat):Int),[],(GL++x::GR).map Qp⟩)(hn:t.next=GL.length):(Zq t t.next (t.next+1)).named=GL.map (·.1)++GR.map (·.1):=by
 rw[q8d h,q17,hn,List.take_left,List.drop_append,List.drop_of_length_le (by omega)];have e:GL.length+1-GL.length=1:=by omega
 rw[e];simp
theorem Xy.open_ (K:Keep D S0 C0 O H P){c:Nat}(h1:P.C.get (c:Int)=1)(hc:(c:Int)∈H){H0:List Int}:∀{way:List Qs} {l:Nat} {s:Qs} {L Rr:List Qg},Xy P D O l s way L Rr->qqs way->s.shared=false->(c:Int)∉Zn way H0->Xy P D ((c:Int)::O) l s way L Rr
 |[],l,s,L,Rr,h,_,_,_=>h
 |t::way,l,s,L,Rr,h,hb,hs,hn=>by
  obtain⟨E,F,x,G,I,u,A,J,M,Q,R,T,g8,U,f,m,p⟩:=h;have d:=hb t (List.mem_cons_self ..);have hn:(c:Int)∉own t++((if t.shared=true then [] else (Zq t t.next (t.next+1)).named)++Zn way H0):=hn;rw[d,if_neg (by decide),q2f u A] at hn;simp only[List.mem_append,not_or] at hn;obtain⟨n1,⟨n2,n3⟩,n4⟩:=hn;obtain⟨m1,m2,m3,m4⟩:=U.mine d;refine⟨E,F,x,G,I,u,A,J,M,Q,R,λy B=>?_,λh=>?_,⟨λh=>?_,λ_=>⟨m1,List.mem_cons_of_mem _ m2,m3,m4⟩⟩,Xy.open_ K h1 hc f (λt' W=>hb t' (List.mem_cons_of_mem _ W)) d n4,m,p⟩
  ·obtain⟨X,Y,Z⟩:=T y B;have b:y.1≠(c:Int):=λe=>by
    rcases List.mem_append.1 B with h|h
    ·exact n2 (e▸List.mem_map_of_mem h)
    ·exact n3 (e▸List.mem_map_of_mem h)
   exact⟨q3x K h1 hc l _ _ b X,by rw[q1k b];exact Y,Z⟩
  ·rw[hs] at h;cases h
  ·rw[d] at h;cases h
theorem Keep.long (K:Keep D S0 C0 O H P):∀(l:Nat) (y:Ja),good1 (P.hide D O) l y->3*6 ^ l<=y.2.length
 |0,y,h=>by
  obtain⟨h1,h2,_⟩:=h;rw[h1.1] at h2;unfold Nd.enough at h2;rw[if_pos rfl] at h2;simpa using h2
 |l+1,y,h=>by
  obtain⟨h1,h2,U⟩:=h;have L:=K.tree h1;obtain⟨kids,parts,e,Y,Z,R,T⟩:=h1;rw[e] at h2;unfold Nd.enough at h2;rw[if_neg (show ¬(((l+1:Nat):Int))=0 by omega)] at h2;have h2:6<=kids.length:=by simpa using h2
  have d:∀p∈parts,3*6 ^ l<=p.length:=λp m=>by
   obtain⟨j,I,E⟩:=List.getElem_of_mem m;have f:j<kids.length:=by omega
   have Q:(Qh kids j)∈((P.hide D O) y.1).1.kids:=by rw[e];exact List.mem_of_getElem? (q11 f)
   obtain⟨j1,j2,j3,j4⟩:=L.kids _ Q;have B:=(T j f).1;have F:parts.getD j []=p:=by rw[List.getD_eq_getElem?_getD,List.getElem?_eq_getElem I,E];rfl
   rw[F] at B;obtain⟨_,c,X,G,u⟩:=Iy j1;obtain⟨c0,_⟩:=K.first u
   have J:=K.c.1.2;exact K.long l ((Qh kids j).a,p) ⟨B,j4,by show 1<=(Qh kids j).a;omega,by show (Qh kids j).a<2048;omega⟩
  have A:∀(b:List (List Qg)),(∀p∈b,3*6 ^ l<=p.length)->b.length*(3*6 ^ l)<=b.flatten.length:=by
   intro b;induction b with
   |nil=>intro _;simp
   |cons p b ih=>
    intro m;have h1:=m p (List.mem_cons_self ..);have h2:=ih λq M=>m q (List.mem_cons_of_mem _ M)
    rw[List.flatten_cons,List.length_append,List.length_cons,Nat.add_mul,Nat.one_mul];omega
  have:=A parts d;rw[R];have W:6*(3*6 ^ l)<=parts.length*(3*6 ^ l):=Nat.mul_le_mul_right _ (by omega);rw[Nat.pow_succ];omega
theorem Keep.Fb (K:Keep D S0 C0 O H P){l:Nat}{a:Int}{its:List Qg}(h:Qi (P.hide D O) l a its):∃M,Yt (P.hide D O) l (P.hide D O a).1 M/\M.flatten=its/\Aq (P.hide D O) a/\M≠[]:=by
 have L:=K.tree h
 cases l with
 |zero=>
  rw[h.1];exact⟨its.map λx=>[x],⟨its,rfl,rfl⟩,Po its,L,λe=>h.2 (List.map_eq_nil_iff.1 e)⟩
 |succ l=>
  obtain⟨kids,parts,e,X,Y,Z,E⟩:=h;have B:(kids.zip parts).length=kids.length:=by rw[List.length_zip];omega
  have d:∀j (f:j<kids.length),kids[j]=Qh kids j/\parts[j]'(by omega)=parts.getD j []:=λj f=>by
   have:=q11 f;rw[List.getElem?_eq_getElem f] at this;exact⟨Option.some.inj this,by rw[List.getD_eq_getElem?_getD,List.getElem?_eq_getElem (by omega)];rfl⟩
  have Q:(List.zip (kids.map (·.a)) parts).map Qp=kids:=by
   apply List.ext_getElem
   ·rw[List.length_map,List.length_zip,List.length_map];omega
   ·intro j h1 h2;obtain⟨m,p⟩:=d j h2;obtain⟨_,x,r,F,G⟩:=E j h2;rw[List.getElem_map,List.getElem_zip,List.getElem_map,p,F,m];unfold Qp;show (⟨x.k,(Qh kids j).a⟩:Qm)=_;rw[<-G]
  have T:(List.zip (kids.map (·.a)) parts).map (·.2)=parts:=List.map_snd_zip (by rw[List.length_map];omega);refine⟨parts,⟨List.zip (kids.map (·.a)) parts,?_,T.symm,λy W=>?_⟩,Z.symm,L,λI=>X (List.eq_nil_of_length_eq_zero (by rw[<-Y,I];rfl))⟩
  ·rw[e,Q]
  ·obtain⟨j,f,A⟩:=List.getElem_of_mem W;rw[List.length_zip,List.length_map] at f;have b:j<kids.length:=by omega
   obtain⟨m,p⟩:=d j b;rw[List.getElem_zip,List.getElem_map,m,p] at A;rw[<-A];have U:(Qh kids j)∈((P.hide D O) a).1.kids:=by rw[e];exact List.mem_of_getElem? (q11 b)
   obtain⟨j1,j2,j3,j4⟩:=L.kids _ U;obtain⟨_,c,hc,J,u⟩:=Iy j1;obtain⟨c0,_⟩:=K.first u
   have R:=K.c.1.2;exact⟨(E j b).1,j4,by show 1<=(Qh kids j).a;omega,by show (Qh kids j).a<2048;omega⟩
theorem qku {R:Int->Nd × Int}{l:Nat}{N:Nd}{M:List (List Qg)}(h:Yt R l N M)(hm:N.may=true):M.length<=Qq (l:Int)/\l<8:=by
 cases l with
 |zero=>
  obtain⟨its,rfl,rfl⟩:=h;have:=(q16 hm rfl).2.2.2;rw[List.length_map];exact⟨this,by omega⟩
 |succ l=>
  obtain⟨G,rfl,rfl,_⟩:=h;obtain⟨_,_,d,_,b,_⟩:=Fe hm (by show ¬((l+1:Nat):Int)=0;omega);have d:((l+1:Nat):Int)<8:=d;have e:Qq ((l+1:Nat):Int)=12:=if_neg (by omega);rw[e,List.length_map];have b:(G.map Qp).length<=12:=b;rw[List.length_map] at b;exact⟨b,by omega⟩
end
theorem qqt {R:Int->Nd × Int}{l:Nat}{N:Nd}{M:List (List Qg)}(h:Yt R l N M):N.cut 0 M.length=N/\∀m,m<=M.length->(N.cut 0 m).named++(N.cut m M.length).named=N.named:=by
 cases l with
 |zero=>
  obtain⟨its,rfl,rfl⟩:=h;rw[List.length_map];have e:∀i j,(⟨0,its,[]⟩:Nd).cut i j=⟨0,(its.drop i).take (j-i),[]⟩:=λi j=>if_pos rfl
  refine⟨by rw[e,List.drop_zero,Nat.sub_zero,List.take_length],λm hm=>?_⟩;rw[e,e];unfold Nd.named;simp only[List.map_nil,List.nil_append,List.drop_zero,Nat.sub_zero];rw[<-List.filterMap_append,List.take_of_length_le (l:=its.drop m) (by rw[List.length_drop];omega),List.take_append_drop]
 |succ l=>
  obtain⟨G,rfl,rfl,b⟩:=h;rw[List.length_map];refine⟨by rw[q2e,List.drop_zero,Nat.sub_zero,List.take_length],λm hm=>?_⟩;rw[q2e,q2e,q17,q17,q17,List.drop_zero,Nat.sub_zero,List.take_of_length_le (l:=G.drop m) (by rw[List.length_drop];omega),<-List.map_append,List.take_append_drop]
theorem q96 {R:Int->Nd × Int}{l:Nat}{N:Nd}{M:List (List Qg)}(h:Yt R l N M)(h2:M.length<=2*Qq (l:Int)):(pieces N).flatMap Nd.named=N.named:=by
 obtain⟨b,d⟩:=qqt h;by_cases h0:M.length=0
 ·rw[qap h h0,List.flatMap_nil]
  cases l with
  |zero=>
   obtain⟨its,rfl,rfl⟩:=h;rw[List.length_map] at h0;obtain rfl:=List.eq_nil_of_length_eq_zero h0;rfl
  |succ l=>
   obtain⟨G,rfl,rfl,e⟩:=h;rw[List.length_map] at h0;obtain rfl:=List.eq_nil_of_length_eq_zero h0;rfl
 ·by_cases h1:M.length<=Qq (l:Int)
  ·rw[qch h (by omega) h1,List.flatMap_cons,List.flatMap_nil,List.append_nil,b]
  ·rw[qci h (by omega) h2,List.flatMap_cons,List.flatMap_cons,List.flatMap_nil,List.append_nil,d _ (by omega)]
structure Piece (R:Int->Nd × Int)(l:Nat)(p:Nd)(Mp:List (List Qg)):Prop where
 Fb:Yt R l p Mp
 one:1<=Mp.length
 most:Mp.length<=Qq (l:Int)
theorem q8e {R:Int->Nd × Int}{l:Nat}{N:Nd}{M:List (List Qg)}(h:Yt R l N M)(h2:M.length<=2*Qq (l:Int)) :
  (M=[]/\pieces N=[])\/(1<=M.length/\M.length<=Qq (l:Int)/\pieces N=[N.cut 0 M.length]/\Piece R l (N.cut 0 M.length) M)\/
   (Qq (l:Int)<M.length/\∃b d,M=b++d/\pieces N=[N.cut 0 (M.length / 2),N.cut (M.length / 2) M.length]/\Piece R l (N.cut 0 (M.length / 2)) b/\Piece R l (N.cut (M.length / 2) M.length) d/\Qr (l:Int)<=b.length/\Qr (l:Int)<=d.length):=by
 have e:Qr (l:Int)*2=Qq (l:Int)/\3<=Qr (l:Int):=by unfold Qr Qq;split<;>omega
 by_cases h0:M.length=0
 ·exact .inl ⟨List.eq_nil_of_length_eq_zero h0,qap h h0⟩
 ·by_cases h1:M.length<=Qq (l:Int)
  ·refine .inr (.inl ⟨by omega,h1,qch h (by omega) h1,?_,by omega,h1⟩);have:=qan h 0 M.length;rw[List.drop_zero,Nat.sub_zero,List.take_length] at this;exact this
  ·refine .inr (.inr ⟨by omega,M.take (M.length / 2),M.drop (M.length / 2),(List.take_append_drop _ _).symm,qci h (by omega) h2,⟨?_,?_,?_⟩,⟨?_,?_,?_⟩,?_,?_⟩)
   ·have:=qan h 0 (M.length / 2);rw[List.drop_zero,Nat.sub_zero] at this;exact this
   ·rw[List.length_take];omega
   ·rw[List.length_take];omega
   ·have:=qan h (M.length / 2) M.length;rw[List.take_of_length_le (by rw[List.length_drop];omega)] at this;exact this
   ·rw[List.length_drop];omega
   ·rw[List.length_drop];omega
   ·rw[List.length_take];omega
   ·rw[List.length_drop];omega
section
variable {D:DM}{S0:Sp}{C0:Ct}{O H:List Int}{P:Pl}
theorem Piece.fits {R:Int->Nd × Int}{l:Nat}{p:Nd}{Mp:List (List Qg)}(h:Piece R l p Mp)(hl:l<8)(h2:0<l->2<=Mp.length)(hr:Qk Mp.flatten)(hf:∀x∈Mp.flatten,Zr x)(hd:∀x∈Mp.flatten,Dat R x):Fits R p:=
 qki h.Fb hd (qq2 h.Fb hl h.one h2 h.most hr hf)
theorem qef {R:Int->Nd × Int}{l:Nat}{p:Nd}{b:List (List Qg)}(h:Piece R l p b):b≠[]:=λe=>by
 have:=h.one;rw[e] at this;exact absurd this (by decide)
theorem q3p {R R':Int->Nd × Int}{l:Nat}{p:Nd}{b:List (List Qg)}(h:Piece R l p b)(f:Qr (l:Int)<=b.length)(e:Ext R R'){a:Int}(d:R' a=(p,0))(h1:1<=a/\a<2048):good1 R' l (a,b.flatten)/\Wl p a=Qp (a,b.flatten):=by
 refine⟨⟨qao h.Fb (qef h) e d,by rw[d];exact (q3m h.Fb).2 f,h1⟩,?_⟩;unfold Wl Qp;rw[qq1 h.Fb (qef h)]
structure Qan (D:DM)(S0:Sp)(C0:Ct)(O H0:List Int)(P P':Pl)(root:Int)(its:List Qg)(k:Nat):Prop where
 keep:Keep D S0 C0 [] ((if root=0 then [] else [root])++H0) P'
 tree:(its=[]/\root=0)\/∃l,l<=6/\Qi (P'.hide D []) l root its/\1<=root/\root<2048
 old:∀l a t,a∈H0->Qi (P.hide D O) l a t->Qi (P'.hide D []) l a t
 free:P.C.free<=P'.C.free+k
 n:P'.C.n=P.C.n
theorem qkv {R:Int->Nd × Int}(b:∀l y,good1 R l y->3*6 ^ l<=y.2.length){l:Nat}:∀(G:List Ja),(∀y∈G,good1 R l y)->G.length*(3*6 ^ l)<=(G.map (·.2)).flatten.length
 |[],_=>by simp
 |y::G,h=>by
  have h1:=b l y (h y (List.mem_cons_self ..));have h2:=qkv b G λz d=>h z (List.mem_cons_of_mem _ d)
  rw[List.map_cons,List.flatten_cons,List.length_append,List.length_cons,Nat.add_mul,Nat.one_mul];omega
theorem Keep.Ti (K:Keep D S0 C0 O H P){l:Nat}{N:Nd}{M:List (List Qg)}(h:Yt (P.hide D O) (l+1) N M)(h2:2<=M.length)(hlen:M.flatten.length<=1000):l<=2:=by
 obtain⟨G,rfl,rfl,b⟩:=h;have e:=qkv (λl y d=>K.long l y d) G b;rw[List.length_map] at h2;have f:2*(3*6 ^ l)<=G.length*(3*6 ^ l):=Nat.mul_le_mul_right _ h2;refine Classical.byContradiction λp=>?_
 have m:6 ^ 3<=6 ^ l:=Nat.pow_le_pow_right (by omega) (by omega);omega
theorem q12 {a b:List Qg}(h:Qk (a++b)):Qk a/\Qk b:=⟨(List.pairwise_append.1 h).1,(List.pairwise_append.1 h).2.1⟩
theorem qum (K:Keep D S0 C0 O H P){l:Nat}{s:Qs}{b:Nd}{M:List (List Qg)}(W:Yt (P.hide D O) l b M)(hs:Zo P D O (l:Int) s){H0:List Int}(hH:∀a:Nat,0<a->a<P.C.n->H.count (a:Int)=(own s++(b.named++H0)).count (a:Int))
  (hr:Qk M.flatten) (hf:∀x∈M.flatten,Zr x) (d:∀x∈M.flatten,Dat (P.hide D O) x) (hl:l<8) (a3:M.flatten.length<=1000) (b3:M.length<=Qq (l:Int)+1) (a7:0<l->1<=M.length) (hO:∀y∈O,s.shared=false/\y=s.addr) :
  (∃P' r,P.top s b=some (P',some r)/\Qan D S0 C0 O H0 P P' r M.flatten 3)\/(∃P',P.top s b=some (P',none)/\P.C.free<3):=by
 have b2:Qr (l:Int)*2=Qq (l:Int)/\3<=Qr (l:Int):=by unfold Qr Qq;split<;>omega
 unfold Pl.top;by_cases h1:b.kids.length=1
 ·left
  rw[if_pos h1]
  cases l with
  |zero=>
   obtain⟨its,rfl,_⟩:=W;exact absurd h1 (by simp)
  |succ l=>
   obtain⟨G,rfl,rfl,hg⟩:=W;match G,h1,hg,hH with
   |[x],_,hg,hH=>
    obtain⟨k1,k2,I⟩:=hg x (List.mem_singleton.2 rfl);have e:(⟨((l+1:Nat):Int),[],[x].map Qp⟩:Nd).named=[x.1]:=q17 l [x];rw[e] at hH;obtain⟨B,e1,R,A,_⟩:=qcj K hs hH;have U:Dl O s=[]:=List.eq_nil_iff_forall_not_mem.2 λy hy=>by
     obtain⟨j1,j2⟩:=qks hy;obtain⟨j3,j4⟩:=hO y j1;exact j2 j3 j4
    rw[U] at R A;rw[e1];refine⟨B,x.1,rfl,?_,.inr ⟨l,by omega,?_,I⟩,λl a t _ ht=>q13 A.ext ht,by have:=A.free;omega,A.n⟩
    ·rw[if_neg (by omega)];exact R
    ·have:([x].map (·.2)).flatten=x.2:=by simp
     rw[this];exact q13 A.ext k1
   |[],h1,_,_=>simp at h1
   |_::_::_,h1,_,_=>simp at h1
 ·rw[if_neg h1];have a0:M.length<=2*Qq (l:Int):=by omega
  have a4:0<l->2<=M.length:=λa5=>by
   have:=a7 a5;refine Classical.byContradiction λhc=>h1 ?_
   cases l with
   |zero=>omega
   |succ l=>
    obtain⟨G,rfl,rfl,hg⟩:=W;rw[List.length_map] at this hc ⊢;omega
  have b1:l<=3:=by
   cases l with
   |zero=>omega
   |succ l=>have:=K.Ti W (a4 (by omega)) a3;omega
  have a8:=q96 W a0;have Z:=q8e W a0;have X:∀p∈pieces b,Fits (P.hide D O) p:=λp E=>by
   rcases Z with⟨_,e⟩|⟨k1,k2,e,I⟩|⟨k1,m,u,rfl,e,I,k4,k5,k6⟩
   ·rw[e] at E;cases E
   ·rw[e,List.mem_singleton] at E;rw[E];exact I.fits hl a4 hr hf d
   ·rw[List.flatten_append] at hr hf d;rw[e] at E;rcases List.mem_cons.1 E with rfl|E
    ·exact I.fits hl (λ_=>by omega) (q12 hr).1 (λx F=>hf x (List.mem_append_left _ F)) λx F=>d x (List.mem_append_left _ F)
    ·rw[List.mem_singleton] at E;rw[E];exact k4.fits hl (λ_=>by omega) (q12 hr).2 (λx F=>hf x (List.mem_append_right _ F)) λx F=>d x (List.mem_append_right _ F)
  have a9:(pieces b).length<=2:=by
   rcases Z with⟨_,e⟩|⟨k1,k2,e,I⟩|⟨k1,m,u,_,e,I,k4,k5,k6⟩<;>rw[e]<;>simp
  rcases qkt (l:=(l:Int)) K ⟨b,[s],0,0⟩ H0 (λs' b0=>by rw[List.mem_singleton.1 b0];exact hs) (List.pairwise_singleton _ _) X (λa h1 h2=>by
    rw[hH a h1 h2,a8,List.flatMap_cons,List.flatMap_nil,List.append_nil]) with⟨B,O1,az,f,g2,R,A,gO,T⟩|⟨B,f,g2⟩
  ·have U:O1=[]:=List.eq_nil_iff_forall_not_mem.2 λy hy=>by
    obtain⟨j1,j2⟩:=gO y hy;obtain⟨j3,j4⟩:=hO y j1;exact j2 s (List.mem_singleton.2 rfl) j3 j4
   subst U;rw[g2];dsimp only;have hold:∀l a t,a∈H0->Qi (P.hide D O) l a t->Qi (B.hide D []) l a t:=λl a t _ ht=>q13 A.ext ht
   have Y:=A.free;have f:az.length=(pieces b).length:=f;have T:Ux (B.hide D []) (pieces b) az:=T;have b4:P.C.free<=B.C.free+(pieces b).length:=Y;rcases Z with⟨hM,e⟩|⟨k1,k2,e,I⟩|⟨k1,m,u,rfl,e,I,k4,k5,k6⟩
   ·left
    rw[e] at f ⊢;obtain rfl:az=[]:=List.eq_nil_of_length_eq_zero (by rw[f];rfl);refine⟨B,0,rfl,?_,.inl ⟨by rw[hM];rfl,rfl⟩,hold,by omega,A.n⟩;rw[if_pos rfl];exact R
   ·left
    rw[e] at f T ⊢;match az,f with
    |[a],_=>
     obtain⟨j1,j2⟩:=T (b.cut 0 M.length,a) (List.mem_singleton.2 rfl);refine⟨B,a,rfl,?_,.inr ⟨l,by omega,qao I.Fb (qef I) A.ext j1,j2⟩,hold,by omega,A.n⟩;rw[if_neg (by have:1<=a:=j2.1;omega)];exact R
    |[],f=>cases f
    |_::_::_,f=>cases f
   ·rw[e] at f T ⊢;match az,f,R with
    |[a1,a2],_,R=>
     obtain⟨p1,q1⟩:=T (_,a1) (List.mem_cons_self ..);obtain⟨p2,q2⟩:=T (_,a2) (List.mem_cons_of_mem _ (List.mem_singleton.2 rfl));obtain⟨t1,u1⟩:=q3p I k5 A.ext p1 q1;obtain⟨t2,u2⟩:=q3p k4 k6 A.ext p2 q2;have ek:List.zipWith Wl [b.cut 0 ((m++u).length / 2),b.cut ((m++u).length / 2) (m++u).length] [a1,a2]=[(a1,m.flatten),(a2,u.flatten)].map Qp:=by
      show [Wl _ a1,Wl _ a2]=_;rw[u1,u2];rfl
     rw[ek];have a6:=q4y W;have eN:(⟨b.lvl+1,[],[(a1,m.flatten),(a2,u.flatten)].map Qp⟩:Nd)=⟨((l+1:Nat):Int),[],[(a1,m.flatten),(a2,u.flatten)].map Qp⟩:=by rw[a6];rfl
     rw[eN];have hB:Yt (B.hide D []) (l+1) ⟨((l+1:Nat):Int),[],[(a1,m.flatten),(a2,u.flatten)].map Qp⟩ [m.flatten,u.flatten]:=⟨_,rfl,rfl,λx F=>by
      rcases List.mem_cons.1 F with rfl|F
      ·exact t1
      ·rw[List.mem_singleton.1 F];exact t2⟩
     have Q:[m.flatten,u.flatten].flatten=(m++u).flatten:=by simp
     have hF:Fits (B.hide D []) ⟨((l+1:Nat):Int),[],[(a1,m.flatten),(a2,u.flatten)].map Qp⟩:=
      qki hB (by rw[Q];exact λx F=>(d x F).ext A.ext) (qq2 hB (by omega) (by simp) (λ_=>by simp) (by have:Qq ((l+1:Nat):Int)=12:=if_neg (by omega);rw[this];simp) (by rw[Q];exact hr) (by rw[Q];exact hf))
     have J:([(a1,m.flatten),(a2,u.flatten)].map Qp).length=2:=rfl;rw[if_neg (by rw[J];decide),if_neg (by rw[J];decide)]
     cases E:B.C.pick with
     |none=>
      right
      have he:B.Jo ⟨((l+1:Nat):Int),[],[(a1,m.flatten),(a2,u.flatten)].map Qp⟩=6:=by unfold Pl.Jo;rw[if_pos hF.may];exact (Ct.Y7 E).1
      rw[if_neg (by rw[he];decide),if_pos he];refine⟨_,rfl,?_⟩;have:=Ct.X0 E;omega
     |some c=>
      left
      obtain⟨e0,eV,K2,hN,mv,c1,c2⟩:=R.put (H0:=H0) E hF (λa _ _=>by
       rw[q17,List.count_append];rfl)
      rw[if_pos e0,eV];have h3:=qao hB (by simp) (mv 0).ext hN;rw[Q] at h3;have b5:=(mv 0).free;refine⟨_,_,rfl,?_,.inr ⟨l+1,by omega,h3,by omega,by omega⟩,λl a t ha ht=>q13 (mv 0).ext (hold l a t ha ht),by omega,(mv 0).n.trans A.n⟩;rw[if_neg (by omega)];exact K2
    |[],f,_=>cases f
    |[_],f,_=>cases f
    |_::_::_::_,f,_=>cases f
  ·right
   rw[f];exact⟨B,rfl,by have g2:P.C.free<(pieces b).length:=g2;omega⟩
end
section
variable {D:DM}{S0:Sp}{C0:Ct}{O H:List Int}{P:Pl}
theorem qn6 (K:Keep D S0 C0 O H P){c:Nat}(h1:P.C.get (c:Int)=1)(d:(c:Int)∈H){l:Nat}{y:Ja}(b:y.1≠(c:Int))(h:good1 (P.hide D O) l y):good1 (P.hide D ((c:Int)::O)) l y:=
 ⟨q3x K h1 d l _ _ b h.1,by rw[q1k b];exact h.2.1,h.2.2⟩
theorem qun (K:Keep D S0 C0 O H P){c:Nat}(h1:P.C.get (c:Int)=1)(d:(c:Int)∈H){l:Nat}{N:Nd}{M:List (List Qg)}(hn:(c:Int)∉N.kids.map (·.a))(h:Yt (P.hide D O) l N M):Yt (P.hide D ((c:Int)::O)) l N M:=by
 cases l with
 |zero=>exact h
 |succ l=>
  obtain⟨G,rfl,h2,f⟩:=h;refine⟨G,rfl,h2,λx b=>qn6 K h1 d (λe=>hn ?_) (f x b)⟩;rw[<-e];exact List.mem_map.2 ⟨Qp x,List.mem_map_of_mem b,rfl⟩
theorem quo {R:Int->Nd × Int}{l:Nat}{s:Qs}{M:List (List Qg)}(h:Yt R l s.N M):Zq s 0 0=s.N:=by
 cases l with
 |zero=>
  obtain⟨its,e,_⟩:=h;unfold Zq;rw[e];unfold Zz Nd.cut Nd.size;simp
 |succ l=>
  obtain⟨G,e,_⟩:=h;rw[q8d e,e];simp
structure Eb (D:DM)(O O':List Int)(P P':Pl)(c:Int):Prop where
 tree:∀l a its,a≠c->Qi (P.hide D O) l a its->Qi (P'.hide D O') l a its
 other:∀a,a≠c->(P.hide D O a).2=0->P'.hide D O' a=P.hide D O a
theorem Eb.good {O':List Int}{P':Pl}{c:Int}(h:Eb D O O' P P' c){l:Nat}{y:Ja}(hy:y.1≠c)(hg:good1 (P.hide D O) l y):good1 (P'.hide D O') l y:=
 ⟨h.tree l _ _ hy hg.1,by rw[h.other _ hy (Ce hg.1).2.2];exact hg.2.1,hg.2.2⟩
theorem Eb.Fb {O':List Int}{P':Pl}{c:Int}(h:Eb D O O' P P' c){l:Nat}{N:Nd}{M:List (List Qg)}(hn:c∉N.kids.map (·.a))(hb:Yt (P.hide D O) l N M):Yt (P'.hide D O') l N M:=by
 cases l with
 |zero=>exact hb
 |succ l=>
  obtain⟨G,rfl,h2,d⟩:=hb;refine⟨G,rfl,h2,λx b=>h.good (λe=>hn ?_) (d x b)⟩;rw[<-e];exact List.mem_map.2 ⟨Qp x,List.mem_map_of_mem b,rfl⟩
theorem Eb.dat {O':List Int}{P':Pl}{c:Int}(h:Eb D O O' P P' c)(hc:0<=(P.hide D O c).1.lvl){x:Qg}(hx:Dat (P.hide D O) x):Dat (P'.hide D O') x:=λd hd=>by
 have h1:=hx d hd;have b:d≠c:=λe=>by
  rw[<-e,h1] at hc;exact absurd hc (by decide)
 rw[h.other d b (by rw[h1])];exact h1
theorem qup {R:Int->Nd × Int}{l:Nat}{N:Nd}{M:List (List Qg)}(h:Yt R l N M)(i:Nat):(N.cut i i).named=[]:=by
 cases l with
 |zero=>
  obtain⟨its,rfl,rfl⟩:=h;have e:(⟨0,its,[]⟩:Nd).cut i i=⟨0,(its.drop i).take (i-i),[]⟩:=if_pos rfl;rw[e,Nat.sub_self,List.take_zero];rfl
 |succ l=>
  obtain⟨G,rfl,rfl,b⟩:=h;rw[q2e,q17,Nat.sub_self,List.take_zero];rfl
theorem quq {b:List Int}{P':Pl}{c:Int}(e:Ext (P.hide D O) (P'.hide D b)):Eb D O b P P' c:=⟨λ_ _ _ _ h=>q13 e h,λa _ h=>e a h⟩
theorem qw8 {t:Qs}{l:Nat}{G:List Ja}(h:t.N=⟨((l+1:Nat):Int),[],G.map Qp⟩){q:Nat}{y:Ja}(d:G[q]?=some y):q<t.N.kids.length/\Qh t.N.kids q=Qp y:=by
 obtain⟨b,e⟩:=List.getElem?_eq_some_iff.1 d;rw[h];refine⟨by show q<(G.map Qp).length;rw[List.length_map];exact b,?_⟩;show Qh (G.map Qp) q=_;rw[qdn b,e]
structure Qbj (D:DM)(S0:Sp)(C0:Ct)(O H H0:List Int)(P:Pl)(l:Nat)(t s:Qs)(way:List Qs)(L' R':List Qg)(y:Ja)(nb:Qs)(P':Pl)(O':List Int):Prop where
 keep:Keep D S0 C0 O' (nb.N.named++H) P'
 near:Eb D O O' P P' y.1
 once:(O'=y.1::O/\nb.shared=false/\H.count y.1=1/\t.shared=false)\/(O'=O/\Ext (P.hide D O) (P'.hide D O'))
 nbk:Zo P' D O' (l:Int) nb
 sk:Zo P' D O' (l:Int) s
 tk:Zo P' D O' ((l+1:Nat):Int) t
 up:Xy P' D O' (l+1) t way L' R'
 free:P.C.free<=P'.C.free
 n:P'.C.n=P.C.n
 addr:nb.addr=y.1
 held:nb.held=t.shared
theorem qqu (K:Keep D S0 C0 O H P){l:Nat}{s t:Qs}{way:List Qs}{L' R':List Qg}{H0:List Int}{G:List Ja}{q:Nat}{y:Ja}(hG:t.N=⟨((l+1:Nat):Int),[],G.map Qp⟩)(hq:G[q]?=some y)(hy:good1 (P.hide D O) l y)
  (ht:Zo P D O ((l+1:Nat):Int) t) (hs:Zo P D O (l:Int) s) (m:y.1≠s.addr) (Y:Xy P D O (l+1) t way L' R') (hH:H.length<=20000)
  (a7:t.shared=false->P.C.get y.1=1->y.1∈H/\y.1∉Zn way H0/\y.1≠t.addr) :
  ∃P' O' A,P.near D t q=some P'/\Qbj D S0 C0 O H H0 P l t s way L' R' y (P.Jf D t q) P' O'/\Yt (P'.hide D O') l (P.Jf D t q).N A/\A.flatten=y.2/\Qr (l:Int)<=A.length/\A.length<=Qq (l:Int)/\(P.Jf D t q).N.lvl=(l:Int):=by
 obtain⟨k1,k2⟩:=qw8 hG hq;obtain⟨ho,n,hn,a9,h0⟩:=Iy (Ce hy.1).2.2;obtain⟨E,hE⟩:=q3v hy.1;have p:(P.Qa D y.1).lvl=(l:Int):=by
  have:=(Ce hy.1).2.1;rw[E] at this;exact this
 have a3:(Qh t.N.kids q).a=y.1:=by rw[k2];rfl
 have b0:P.Wi D t q=true:=by
  unfold Pl.Wi;rw[a3];refine decide_eq_true ⟨k1,hE,?_⟩;rw[p,hG];show (l:Int)=((l+1:Nat):Int)-1;omega
 have a0:P.Jf D t q=P.spot D y.1 t.shared:=by unfold Pl.Jf;rw[a3]
 obtain⟨A,F,M,hL,b2⟩:=K.Fb hy.1;have hN:(P.hide D O y.1).1=P.Qa D y.1:=by rw[E];rfl
 rw[hN] at F;have a1:=hy.2.1;rw[hN] at a1;have u:=(qku F (by have:=hL.may;rwa [hN] at this)).1;have f:=(q3m F).1 a1;have U:P.near D t q=P.Qv (P.spot D y.1 t.shared) 0 0:=by unfold Pl.near;rw[if_pos b0,a0]
 rw[U,a0];have Q:(P.spot D y.1 t.shared).N=P.Qa D y.1:=rfl;have R:∀x∈A.flatten,Dat (P.hide D O) x:=by rw[M];exact K.dat l _ _ hy.1
 have T:((P.Qa D y.1).cut 0 0).named=[]:=qup F 0;have a5:Outside (P.hide D O) l (P.spot D y.1 t.shared).N 0 0 [] A:=by
  have:=qaq F (i:=0) (j:=0) (Nat.le_refl _) (Nat.zero_le _);rw[List.take_zero,List.drop_zero] at this;exact this
 have b3:Qq (l:Int)<=12:=by unfold Qq;split<;>omega
 by_cases b:(P.spot D y.1 t.shared).shared=true
 ·obtain⟨P',e1,J,I⟩:=q92 K (s:=P.spot D y.1 t.shared) a5 (by simpa using R) (λh=>by rw[b] at h;cases h) (by simp;omega) hH;rw[if_pos b,quo (s:=P.spot D y.1 t.shared) F,Q] at J;have ha:=(I ((l:Int)-1)).above;refine⟨P',O,A,e1,⟨J,quq (I 0).ext,.inr ⟨rfl,(I 0).ext⟩,?_,hs.above K ha (by omega),ht.above K ha (by omega),Y.ext K (I (l:Int)).ext (I (l:Int)).above (by omega),by have:=(I 0).free;omega,(I 0).n,rfl,rfl⟩,qq0 F (I 0).ext,M,f,u,p⟩;have a8:Zo P D O (l:Int) (P.spot D y.1 t.shared):=⟨λ_ h2=>⟨by
   have h2:t.shared=false:=h2;have h3:(t.shared||decide (1<P.C.get y.1))=true:=b;rw[h2,Bool.false_or] at h3;have:=of_decide_eq_true h3;show 2<=P.C.get y.1;omega,ho,p⟩,λh=>by rw[b] at h;cases h⟩
  exact a8.above K ha (by omega)
 ·have h3:(t.shared||decide (1<P.C.get y.1))=false:=by
   cases e:(t.shared||decide (1<P.C.get y.1)) with
   |false=>rfl
   |true=>exact absurd e b
  obtain⟨Z,h5⟩:=Bool.or_eq_false_iff.1 h3;have h5:=of_decide_eq_false h5;have a2:P.C.get y.1=1:=by
   have:=K.nonneg y.1;rw[hn] at h5 this ⊢;omega
  obtain⟨i1,i2,i3⟩:=a7 Z a2;have e1:P.Qv (P.spot D y.1 t.shared) 0 0=some P:=by
   unfold Pl.Qv;rw[if_neg b];split
   ·rfl
   ·rw[Q,T];rfl
  have B:P.C.get (n:Int)=1:=by rw[<-hn];exact a2
  have d:(n:Int)∈H:=by rw[<-hn];exact i1
  have b1:(n:Int)∉O:=by rw[<-hn];exact ho
  have J:=K.open_ B d b1;obtain⟨o1,o2⟩:=K.once B d;rw[<-hn,E] at J;have J:Keep D S0 C0 (y.1::O) ((P.Qa D y.1).named++H) P:=J;have X:(n:Int)∉(P.Qa D y.1).kids.map (·.a):=λh=>o2 n a9 (by
   rw[<-hn,E];rw[<-hn] at h;exact List.mem_append_left _ h)
  have a4:Eb D O (y.1::O) P P y.1:=by
   refine⟨λl a its m h=>?_,λa m h=>q1k m⟩;rw[hn] at m ⊢;exact q3x K B d l a its m h
  have a6:=q9q Y (ht.mine Z).1;have W:Xy P D (y.1::O) (l+1) t way L' R':=by
   rw[hn];exact Y.open_ K B d a6 Z (by rw[<-hn];exact i2)
  refine⟨P,y.1::O,A,e1,⟨J,a4,.inl ⟨rfl,h3,by rw[hn];exact o1,Z⟩,⟨λh=>absurd h b,λ_=>⟨Z,List.mem_cons_self ..,p,hE⟩⟩,?_,?_,W,Nat.le_refl _,rfl,rfl,rfl⟩,?_,M,f,u,p⟩
  ·refine⟨λh1 h2=>?_,λh1=>?_⟩
   ·obtain⟨j1,j2,j3⟩:=hs.shared h1 h2;exact⟨j1,λh=>by
     rcases List.mem_cons.1 h with h|h
     ·exact m h.symm
     ·exact j2 h,j3⟩
   ·obtain⟨j1,j2,j3,j4⟩:=hs.mine h1;exact⟨j1,List.mem_cons_of_mem _ j2,j3,j4⟩
  ·refine⟨λh1 h2=>?_,λh1=>?_⟩
   ·rw[Z] at h1;cases h1
   ·obtain⟨j1,j2,j3,j4⟩:=ht.mine h1;exact⟨j1,List.mem_cons_of_mem _ j2,j3,j4⟩
  ·exact a4.Fb (by rw[Q,hn] at *;exact X) F
end
