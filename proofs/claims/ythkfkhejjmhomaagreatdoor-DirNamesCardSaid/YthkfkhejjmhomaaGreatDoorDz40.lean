/- A row of items behind a Put or a Delete, split at the leaf that is changed -/
import Derived.Test.YthkfkhejjmhomaaGreatDoorDz38
import Derived.Lib.Strings
import Derived.Lib.Bytealg
import Derived.Sort.Statements
namespace Go.Proofs.YthkfkhejjmhomaaGreatDoor
open Go Go.RowKit Go.Proofs
def Qc3 (k:Kd)(l:List Qq):List Qq:=l.filter λx=>!(x.k.same k)
theorem same_eq {a b:Kd}(h:a.same b=true):a=b:=by
 obtain⟨h1,h2,d⟩:=(Kd.same_iff a b).1 h
 cases a;cases b;simp only at h1 h2 d;subst h1;subst h2;subst d;rfl
theorem Qpx {k:Kd}{v:List UInt8}:∀{B C:List Qq},(∀x∈C,k.less x.k=true)->Zt (B++C)->Si k v false (B++C)=Si k v false B++C
 |[],C,hC,hr=>by
  cases C with
  |nil=>simp
  |cons c r=>
   rw[List.nil_append] at hr ⊢;rw[Py hr,if_pos (hC c (List.mem_cons_self ..))];rfl
 |b::B,C,hC,hr=>by
  have d:=(Lr hr).1;rw[List.cons_append] at hr ⊢;rw[Py hr,Py d];split
  ·rfl
  ·split
   ·rfl
   ·rw[Qpx hC (List.pairwise_cons.1 hr).2];rfl
theorem Qm0 {k:Kd}{v:List UInt8}{B C:List Qq}:∀{A:List Qq},(∀x∈A,x.k.less k=true)->(∀x∈C,k.less x.k=true)->Zt (A++(B++C))->Si k v false (A++(B++C))=A++(Si k v false B++C)
 |[],_,hC,hr=>Qpx hC hr
 |a::A,hA,hC,hr=>by
  rw[List.cons_append] at hr ⊢;have h1:=hA a (List.mem_cons_self ..);rw[Py hr,if_neg (by rw[Qlk h1];decide),if_neg (by rw[(I8 h1).1];decide),Qm0 (λx d=>hA x (List.mem_cons_of_mem _ d)) hC (List.pairwise_cons.1 hr).2];rfl
theorem Qli (x:Qq)(r:List Qq)(k:Kd):lead ((x::r).map (·.k)) k=if x.k.less k=true then lead (r.map (·.k)) k+1 else 0:=by
 unfold lead;rw[List.map_cons,List.takeWhile_cons];split<;>simp
theorem Qin (x:Qq)(r:List Qq)(k:Kd)(i:Nat):foundAt ((x::r).map (·.k)) k (i+1)=foundAt (r.map (·.k)) k i:=by
 unfold foundAt keyAt;rw[List.map_cons,List.length_cons,List.getD_cons_succ];congr 1
 exact decide_eq_decide.2 ⟨λh=>Nat.lt_of_succ_lt_succ h,λh=>Nat.succ_lt_succ h⟩
theorem Qek (x:Qq)(r:List Qq)(k:Kd):foundAt ((x::r).map (·.k)) k 0=x.k.same k:=by
 unfold foundAt keyAt;rw[List.map_cons,List.length_cons,List.getD_cons_zero,decide_eq_true (Nat.succ_pos _),Bool.true_and]
theorem Qp0 {k:Kd}{v:List UInt8}:∀{B:List Qq},Zt B->Si k v false B=B.take (lead (B.map (·.k)) k)++(⟨k,v⟩::B.drop (lead (B.map (·.k)) k+if foundAt (B.map (·.k)) k (lead (B.map (·.k)) k)=true then 1 else 0))
 |[],_=>by
  have e:lead (([]:List Qq).map (·.k)) k=0:=rfl;rw[e];simp[Si]
 |x::r,hr=>by
  rw[Py hr,Qli];by_cases h1:k.less x.k=true
  ·rw[if_pos h1,if_neg (by rw[Qlk h1];decide),Qek,if_neg (by rw[(I8 h1).2];decide)];rfl
  ·rw[if_neg h1];by_cases h2:x.k.same k=true
   ·have d:x.k.less k=false:=by rw[Qdn h2];exact Qbq _
    rw[if_pos h2,if_neg (by rw[d];decide),Qek,if_pos h2];rfl
   ·rw[if_neg h2];have d:x.k.less k=true:=by
     rcases Kd.total x.k k with h|h|h
     ·exact h.1
     ·exact absurd h.2.1 h1
     ·exact absurd (by rw[h.2.2];exact Zco _) h2
    rw[if_pos d,Qin,Qp0 (List.pairwise_cons.1 hr).2,List.take_succ_cons,Nat.add_right_comm,List.drop_succ_cons];rfl
theorem Qie {k:Kd}{l:List Qq}(h:∀x∈l,x.k.same k=false):Qc3 k l=l:=List.filter_eq_self.2 λx d=>by rw[h x d];rfl
theorem Qtp {k:Kd}{A B C:List Qq}(g:∀x∈A,x.k.less k=true)(m:∀x∈C,k.less x.k=true):Qc3 k (A++(B++C))=A++(Qc3 k B++C):=by
 have e:Qc3 k A=A:=Qie λx d=>(I8 (g x d)).1
 have f:Qc3 k C=C:=Qie λx d=>(I8 (m x d)).2
 unfold Qc3 at e f ⊢;rw[List.filter_append,List.filter_append,e,f]
theorem Qod {k:Kd}:∀{B:List Qq},Zt B->foundAt (B.map (·.k)) k (lead (B.map (·.k)) k)=true->Qc3 k B=B.take (lead (B.map (·.k)) k)++B.drop (lead (B.map (·.k)) k+1)/\lead (B.map (·.k)) k<B.length
 |[],_,h=>by cases h
 |x::r,hr,h=>by
  obtain⟨g,e⟩:=List.pairwise_cons.1 hr;rw[Qli] at h ⊢;by_cases d:x.k.less k=true
  ·rw[if_pos d] at h ⊢;rw[Qin] at h;obtain⟨f,p⟩:=Qod e h;refine⟨?_,by rw[List.length_cons];omega⟩;rw[List.take_succ_cons,List.drop_succ_cons];unfold Qc3 at f ⊢;rw[List.filter_cons_of_pos (by rw[(I8 d).1];rfl),f];rfl
  ·rw[if_neg d] at h ⊢;rw[Qek] at h;refine⟨?_,by rw[List.length_cons];omega⟩;unfold Qc3;rw[List.filter_cons_of_neg (by rw[h];decide)];show Qc3 k r=_;rw[Qie]
   ·rfl
   ·intro y m;have:k=x.k:=(same_eq h).symm;rw[this];exact (I8 (g y m)).2
theorem Qu8 {k:Kd}{l:List Qq}(h:Zt l):Zt (Qc3 k l):=List.Pairwise.filter _ h
theorem Zb9 {k:Kd}{l:List Qq}{x:Qq}(h:x∈Qc3 k l):x∈l:=(List.mem_filter.1 h).1
theorem Zb8 (k:Kd)(l:List Qq):(Qc3 k l).length<=l.length:=List.length_filter_le _ _
theorem Qvl {l:List Qq}(f:Zt l)(k:Kd):foundAt (l.map (·.k)) k (lead (l.map (·.k)) k)=true↔∃x∈l,x.k.same k=true:=by
 constructor
 ·intro h;unfold foundAt at h;rw[Bool.and_eq_true] at h;obtain⟨h1,h2⟩:=h;have h1:=of_decide_eq_true h1;rw[List.length_map] at h1;rw[Gn l h1] at h2;have e:Qx l (lead (l.map (·.k)) k)=l[lead (l.map (·.k)) k]:=by unfold Qx;rw[List.getD_eq_getElem?_getD,List.getElem?_eq_getElem h1];rfl
  exact⟨_,by rw[e];exact List.getElem_mem h1,h2⟩
 ·rintro⟨x,m,g⟩
  cases d:foundAt (l.map (·.k)) k (lead (l.map (·.k)) k) with
  |true=>rfl
  |false=>
   have h:=Qzh f k;rw[d,if_neg (by decide)] at h;unfold valOf at h;have h2:=List.find?_eq_none.1 (Option.map_eq_none_iff.1 h) x m;exact absurd g h2
section
variable {D:DM}{S0:Sp}{C0:Ct}{H0:List Int}{P:Pl}{root:Int}
theorem Qlz (X:List Int):∀(way:List Zz) (a:Int),(Lh way (X++H0)).count a=X.count a+(Lh way H0).count a
 |[],a=>List.count_append
 |t::way,a=>by
  show (own t++((if t.shared=true then [] else (Ls t t.next (t.next+1)).named)++Lh way (X++H0))).count a=_+(own t++((if t.shared=true then [] else (Ls t t.next (t.next+1)).named)++Lh way H0)).count a;have d:=Qlz X way a;simp only[List.count_append];omega
theorem Qme {O:List Int}:∀{way:List Zz} {l:Nat} {s:Zz} {L Rr:List Qq},Wj P D O l s way L Rr->∀t∈way,∃p:Int,Zh P D O p t
 |[],_,_,_,_,_,t,ht=>by cases ht
 |t::way,l,s,L,Rr,h,t',d=>by
  obtain⟨q,u,x,y,z,h1,h2,B,E,F,G,I,J,m,e,f,g⟩:=h;rcases List.mem_cons.1 d with rfl|d
  ·exact⟨_,m⟩
  ·exact Qme e t' d
theorem Since.sub {O O' X:List Int}{P':Pl}{k:Nat}(h:Since D O O' (X++H0) P P' k):Since D O O' H0 P P' k:=⟨λl a t d e=>h.old l a t (List.mem_append_right _ d) e,h.free,h.n⟩
def nmI (x:Qq):List Int:=(Vy x).toList
theorem Pv (its:List Qq):(⟨0,its,[]⟩:Nd).named=its.filterMap Vy:=by unfold Nd.named;simp
theorem Qlo (x:Qq):(⟨0,[x],[]⟩:Nd).named=nmI x:=by
 rw[Pv];unfold nmI
 cases h:Vy x with
 |none=>rw[List.filterMap_cons_none h];rfl
 |some c=>rw[List.filterMap_cons_some h];rfl
theorem Qiw (its:List Qq)(i j:Nat):(⟨0,its,[]⟩:Nd).cut i j=⟨0,(its.drop i).take (j-i),[]⟩:=if_pos rfl
theorem Zee {O H:List Int}{l:Nat}{s:Zz}{up:List Zz}{L Rr:List Qq}{M:List (List Qq)}{X:List Int}(d:At D S0 C0 O H X P l s up L Rr M){x:Qq}(u:Dat (P.hide D []) x):Dat (P.hide D O) x:=λc m=>by
 have h1:=u c m;rw[Vt (by simp)] at h1;rw[Vt (λp=>?_)]
 ·exact h1
 ·have g:=(Qj7 d.keep.Zu h1).2;rcases d.opens c p with⟨h2,e⟩|⟨t,q,h2,e⟩
  ·exact g (by rw[e];exact (d.spot.mine h2).2.2.2)
  ·obtain⟨y,f⟩:=Qme d.way t q;exact g (by rw[e];exact (f.mine h2).2.2.2)
theorem Qlj {_k:Kd}{row:List Qq}{n:Nat}{O:List Int}{up:List Zz}{s:Zz}{E Y X:List Int}{L Rr its:List Qq}(m:At D S0 C0 E Y (X++H0) P 0 s up L Rr (its.map λx=>[x]))(T:s.N=⟨0,its,[]⟩)(M:Since D O E (X++H0) P P 0)(hn:up.length<=n)(a2:n<=7)
  {i j:Nat} (hi:i<=j) (hj:j<=its.length) {new:List Qq} (a1:new.length<=1) (hX:new.filterMap Vy=X) (U:∀x∈new,Dat (P.hide D []) x) (W:j<=i+1) (d:L++((its.take i++(new++its.drop j))++Rr)=row) (hr:Zt row) (hf:∀x∈row,Nj x) (G:row.length<=1000) (Q:H0.length<=10000) :
  P8 D S0 C0 O H0 P row (2*n+3) (Qas D up P s i j ⟨0,new,[]⟩):=by
 have hb:=m.bun;have g:∀x∈its,Dat (P.hide D E) x:=λx B=>m.dat x (by rw[Nb];exact B)
 have y:U7 (P.hide D E) 0 ⟨0,new,[]⟩ (new.map λx=>[x]):=⟨new,rfl,rfl⟩;have f:((its.map λx=>[x]).take i++((new.map λx=>[x])++(its.map λx=>[x]).drop j)).flatten=its.take i++(new++its.drop j):=by
  rw[<-List.map_take,<-List.map_drop,List.flatten_append,List.flatten_append,Nb,Nb,Nb]
 have K:=Qg5 hb (i:=i) (j:=j) hi (by rw[List.length_map];exact hj);have q:((its.map λx=>[x]).take i++((new.map λx=>[x])++(its.map λx=>[x]).drop j)).length=i+new.length+(its.length-j):=by
  simp only[List.length_append,List.length_take,List.length_drop,List.length_map];omega
 have J:Iw ((0:Nat):Int)=6:=rfl;have I:Iy ((0:Nat):Int)=3:=rfl;have V:its.length<=6:=by
  have:=(Qnt hb m.may).1;rw[List.length_map,J] at this;exact this
 have u:(s.N.cut i j).named=((its.drop i).take (j-i)).filterMap Vy:=by rw[T,Qiw,Pv]
 have p:its=its.take i++((its.drop i).take (j-i)++its.drop j):=by
  have e:its.drop j=(its.drop i).drop (j-i):=by rw[List.drop_drop,show i+(j-i)=j by omega]
  rw[e,List.take_append_drop,List.take_append_drop]
 have hE:Qmk D S0 C0 E Y H0 P 0 s up L Rr i j ⟨0,new,[]⟩ ((its.map λx=>[x]).take i) (new.map λx=>[x]) ((its.map λx=>[x]).drop j):=by
  refine⟨m.keep,m.spot,m.way,K,y,⟨?_,λc F=>?_⟩,λa h1 h2=>?_,λx B=>?_,m.opens,by rw[f,d];exact hr,by rw[f,d];exact hf,by rw[f,d];exact G,Q,by rw[q,J];omega,λhu=>?_,λh=>by omega,by omega⟩
  ·unfold Qat;split
   ·exact Nat.zero_le _
   ·rw[if_pos rfl,u];refine Nat.le_trans (List.length_filterMap_le _ _) ?_;rw[List.length_take];omega
  ·unfold Qat at F;split at F
   ·cases F
   ·rw[if_pos rfl,u] at F;obtain⟨x,B,e⟩:=List.mem_filterMap.1 F;exact g x (List.mem_of_mem_drop (List.mem_of_mem_take B)) c e
  ·have e1:(Ls s i j).named.count (a:Int)=((its.take i).filterMap Vy).count (a:Int)+((its.drop j).filterMap Vy).count (a:Int):=by
    unfold Ls;rw[Qb5,T,Qiw,Qiw];simp only[List.map_cons,List.map_nil,List.sum_cons,List.sum_nil,Pv,List.drop_zero,Nat.sub_zero];have e2:(its.drop j).take ((⟨0,its,[]⟩:Nd).size-j)=its.drop j:=List.take_of_length_le (by unfold Nd.size;simp);rw[e2];omega
   have e3:s.N.named.count (a:Int)=((its.take i).filterMap Vy).count (a:Int)+((((its.drop i).take (j-i)).filterMap Vy).count (a:Int)+((its.drop j).filterMap Vy).count (a:Int)):=by
    rw[T,Pv];conv=>lhs;rw[p]
    rw[List.filterMap_append,List.filterMap_append,List.count_append,List.count_append]
   have Z:=Qlz (H0:=H0) X up (a:Int);rw[m.held a h1 h2];unfold Qat;rw[Pv,hX];by_cases z:s.shared=true
   ·rw[if_pos z,if_pos z,if_pos z];simp only[List.count_append,List.count_nil,Z];omega
   ·rw[if_neg z,if_neg z,if_neg z,if_pos rfl,u];simp only[List.count_append,e1,e3,Z];omega
  ·rw[f] at B;rcases List.mem_append.1 B with h|h
   ·exact g x (List.mem_of_mem_take h)
   ·rcases List.mem_append.1 h with h|h
    ·exact Zee m (U x h)
    ·exact g x (List.mem_of_mem_drop h)
  ·have h1:=m.enough hu;rw[List.length_map,I] at h1;rw[q,I];omega
 have:=Qgh up hE;rw[f,d] at this;exact (P8.since M.sub this).more (by omega)
theorem Qdm {its:List Qq}{k:Kd}:(⟨0,its,[]⟩:Nd).Xv k=lead (its.map (·.k)) k:=by
 unfold Nd.Xv;rw[if_pos rfl,Ry]
theorem Qqj (K:Keep D S0 C0 [] ((if root=0 then [] else [root])++H0) P){its:List Qq}(F:Ua (P.hide D []) root its)(G:Zt its)(d:root≠0)(k:Kd):Qxl D S0 C0 [] H0 P k its 6 (P.way D root k)/\P.Qj D root=0:=by
 rcases F with⟨_,h⟩|⟨l,W,p,h1,h2⟩
 ·exact absurd h d
 ·rw[if_neg d] at K;have m:P.Qj D root=0:=(Qau p).2;refine⟨?_,m⟩;unfold Pl.way;rw[if_neg d,if_pos m];have f:Wj P D [] l (P.spot D root false) [] [] []:=⟨rfl,rfl⟩;have I:=Qqn (H0:=H0) k l 8 (hd:=false) (by omega) K p G f (λ_ _ _=>rfl) (λy J=>by cases J) (λh=>absurd rfl h) (λx g=>by cases g) (λx g=>by cases g);obtain⟨up,s,z,u,L,E,e,A,B,M,O,Q,q,T,U,V⟩:=I.is;rw[List.nil_append,List.append_nil] at q;exact⟨⟨up,s,z,u,L,E,e,A,B,M,O,Q,q,T,by rw[List.length_nil] at U;omega,V⟩⟩
theorem Zaa {k:Kd}{v:List UInt8}(K:Keep D S0 C0 [] ((if root=0 then [] else [root])++(nmI ⟨k,v⟩++H0)) P){its:List Qq}(I:Ua (P.hide D []) root its)(p:Zt its)(hf:∀x∈its,Nj x)(O:Nj ⟨k,v⟩)(m:Dat (P.hide D []) ⟨k,v⟩)(M:its.length<1000)(g:H0.length<=10000) :
  P8 D S0 C0 [] H0 P (Si k v false its) 17 (P.Qpz D root ⟨k,v⟩):=by
 have u:∀x∈Si k v false its,Nj x:=λx F=>by
  rcases Qjn p x F with rfl|h
  ·exact O
  ·exact hf x h
 have a2:=Qpy (k:=k) (v:=v) p;have E:=Qjo (k:=k) (v:=v) p;unfold Pl.Qpz;by_cases e:root=0
 ·rcases I with⟨rfl,_⟩|⟨l,_,_,h1,_⟩
  ·have X:P.way D root k=some ([],Fh):=if_pos e;rw[X];dsimp only;have W:Fh.N.Xv k=0:=rfl;have U:foundAt Fh.N.keys k 0=false:=rfl;rw[W,U,if_neg (by decide)];rw[if_pos e,List.nil_append] at K;have J:U7 (P.hide D []) 0 Fh.N []:=⟨[],rfl,rfl⟩;have Y:Qmk D S0 C0 [] (nmI ⟨k,v⟩++H0) H0 P 0 Fh [] [] [] 0 0 ⟨0,[⟨k,v⟩],[]⟩ [] [[⟨k,v⟩]] []:=by
    refine⟨K,⟨λ_ h=>(by cases h),λh=>(by cases h)⟩,⟨rfl,rfl⟩,⟨J,J,rfl,rfl,rfl,Nat.le_refl _⟩,⟨[⟨k,v⟩],rfl,rfl⟩,⟨Nat.zero_le _,λc Z=>(by cases Z)⟩,λa _ _=>?_,λx h=>?_,λy hy=>(by cases hy),?_,?_,by simp,g,Nat.le_add_left 1 _,λh=>absurd rfl h,λh=>(by omega),by simp⟩
    ·rw[Qlo];rfl
    ·have:x=⟨k,v⟩:=by simpa using h
     rw[this];exact m
    ·exact List.pairwise_singleton _ _
    ·intro x h;have:x=⟨k,v⟩:=by simpa using h
     rw[this];exact O
   have:=Qgh [] Y;exact this.more (by decide)
  ·omega
 ·obtain⟨hw,_⟩:=Qqj (H0:=nmI ⟨k,v⟩++H0) K I p e k;obtain⟨up,s,O',H',L,Rr,d,A,B,i1,i2,Q,T,i5,i6,rfl,rfl,i9,G⟩:=hw.is;rw[i1];dsimp only;have f:=p;rw[T] at f;have z:=(Lr (Lr f).2).1;have V:(⟨0,d,[]⟩:Nd).keys=d.map (·.k):=Ry d;rw[Q,Qdm,V];have a1:lead (d.map (·.k)) k<=d.length:=by have:=Qfh (d.map (·.k)) k;rw[List.length_map] at this;exact this
  have q:foundAt (d.map (·.k)) k (lead (d.map (·.k)) k)=true->lead (d.map (·.k)) k<d.length:=λh=>by
   unfold foundAt at h;rw[Bool.and_eq_true] at h;have:=of_decide_eq_true h.1;rw[List.length_map] at this;exact this
  refine (Qlj (_k:=k) (n:=6) i2 Q i5 i6 (by omega) (by split<;>omega) (by
   split
   ·rename_i h;have:=q h;omega
   ·omega) (new:=[⟨k,v⟩]) (by simp) (by rw[<-Pv,Qlo]) (λx h=>by rw[List.mem_singleton.1 h];exact m) (by split<;>omega) ?_ E u (by omega) g).more (by omega)
  rw[T,Qm0 i9 G f,Qp0 z];rfl
theorem Qx7 (K:Keep D S0 C0 [] ((if root=0 then [] else [root])++H0) P){its:List Qq}(Q:Ua (P.hide D []) root its)(F:Zt its)(T:∀x∈its,Nj x)(E:root≠0)(k:Kd)(I:its.length<1000)(z:H0.length<=10000) :
  ∃up s,P.way D root k=some (up,s)/\s.N.lvl=0/\(foundAt s.N.keys k (s.N.Xv k)=true↔∃x∈its,x.k.same k=true)/\(foundAt s.N.keys k (s.N.Xv k)=true->P8 D S0 C0 [] H0 P (Qc3 k its) 17 (P.Qoc D root k)):=by
 obtain⟨V,_⟩:=Qqj K Q F E k;obtain⟨up,s,O',H',L,Rr,d,A,B,J,W,u,y,Y,Z,rfl,rfl,M,q⟩:=V.is;have m:=F;rw[y] at m;have p:=(Lr (Lr m).2).1;have G:(⟨0,d,[]⟩:Nd).keys=d.map (·.k):=Ry d;refine⟨up,s,J,by rw[u],?_,λg=>?_⟩
 ·rw[u,Qdm,G,Qvl p];constructor
  ·rintro⟨x,f,e⟩;exact⟨x,by rw[y];simp[f],e⟩
  ·rintro⟨x,f,e⟩;rw[y] at f;rcases List.mem_append.1 f with h|h
   ·rw[(I8 (M x h)).1] at e;cases e
   ·rcases List.mem_append.1 h with h|h
    ·exact⟨x,h,e⟩
    ·rw[(I8 (q x h)).2] at e;cases e
 ·unfold Pl.Qoc;rw[J];dsimp only;rw[u,Qdm,G] at g;rw[u,Qdm];obtain⟨O,d2⟩:=Qod p g;have U:=Zb8 k its;refine (Qlj (_k:=k) (n:=6) (X:=[]) W u Y Z (by omega) (by omega) (by omega) (new:=[]) (by simp) rfl (λx h=>by cases h) (by omega) ?_ (Qu8 F) (λx f=>T x (Zb9 f)) (by omega) z).more (by omega);rw[y,Qtp M q,O];rfl
end
structure Zf5 (R:Int->Nd × Int)(roots:List Int)(Ns:List (Int × Nd))(seen:Nat->Bool)(todo:List Int):Prop where
 got:∀x∈Ns,R x.1=(x.2,0)/\∃c:Nat,x.1=(c:Int)/\seen c=true
 all:∀c:Nat,seen c=true->(R (c:Int)).2=0->((c:Int),(R (c:Int)).1)∈Ns
 one:Ns.Pairwise λx y=>x.1≠y.1
 root:∀a:Nat,0<a->a<2048->(a:Int)∈roots->seen a=true\/(a:Int)∈todo
 kid:∀x∈Ns,∀y∈x.2.kids,∀a:Nat,y.a=(a:Int)->0<a->a<2048->seen a=true\/(a:Int)∈todo
section
variable {R:Int->Nd × Int}{roots:List Int}{Ns:List (Int × Nd)}{seen:Nat->Bool}{r:List Int}{x:Int}
end
theorem Zbl (n:Nat)(a:Int):(Ct.zero n).get a=0:=by
 unfold Ct.get Ct.zero nm;split
 ·show (List.replicate n (0:Int)).getD a.toNat 0=0;rw[List.getD_eq_getElem?_getD,List.getElem?_replicate];split<;>rfl
 ·rfl
theorem Tm (P:Pl)(D:DM):P.hide D []=P.tell D:=by
 funext a
 exact if_neg (by simp)
theorem Qs0 (P:Pl)(D:DM)(a:Int):(P.tell D a).1.named=(P.Qb D a).named:=by
 by_cases d:P.Qj D a=0
 ·rw[Lj d];rfl
 ·rw[Qgm d];by_cases h0:P.C.get a=0
  ·rw[Vp h0]
  ·rw[Qmb h0 d];rfl
theorem Qc5 {P:Pl}{D:DM}:∀{l:Nat} {a:Int} {its:List Qq},Qe (P.tell D) l a its↔Qe (P.store D) l a its
 |0,a,its=>by
  constructor
  ·intro h;have e:P.Qj D a=0:=Qh3 (by rw[h.1]) (by rw[h.1];exact Int.le_refl 0);exact⟨by rw[<-Lj e];exact h.1,h.2⟩
  ·intro h;have e:P.Qj D a=0:=congrArg Prod.snd h.1;exact⟨by rw[Lj e];exact h.1,h.2⟩
 |l+1,a,its=>by
  constructor
  ·rintro⟨kids,parts,h1,h2,g,m,d⟩;have e:P.Qj D a=0:=Qh3 (by rw[h1]) (by rw[h1];exact Int.natCast_nonneg (l+1));exact⟨kids,parts,by rw[<-Lj e];exact h1,h2,g,m,λj f=>⟨Qc5.1 (d j f).1,(d j f).2⟩⟩
  ·rintro⟨kids,parts,h1,h2,g,m,d⟩;have e:P.Qj D a=0:=congrArg Prod.snd h1;exact⟨kids,parts,by rw[Lj e];exact h1,h2,g,m,λj f=>⟨Qc5.2 (d j f).1,(d j f).2⟩⟩
theorem holds_nil {P:Pl}{D:DM}{l:Nat}{a:Int}{its:List Qq}:Qe (P.hide D []) l a its↔Qe (P.store D) l a its:=by rw[Tm];exact Qc5
theorem Qj8 {P:Pl}{D:DM}{root:Int}{its:List Qq}:Ua (P.hide D []) root its↔Ua (P.store D) root its:=by
 unfold Ua;constructor
 ·rintro (h|⟨l,h1,h2,d⟩)
  ·exact .inl h
  ·exact .inr ⟨l,h1,holds_nil.1 h2,d⟩
 ·rintro (h|⟨l,h1,h2,d⟩)
  ·exact .inl h
  ·exact .inr ⟨l,h1,holds_nil.2 h2,d⟩
theorem Qrv {n:Nat}(h1:32<=n)(h2:n<=2048):Keep ((DM.mk0 n).Qn (Qw n)) (fmtS n) (Ct.zero n) [] [] (Pl.fresh n):=by
 obtain⟨_,h,_⟩:=Ws (D:=DM.mk0 n) h1 h2 rfl ⟨rfl,rfl⟩;have d:∀a:Int,(Pl.fresh n).C.get a=0:=Zbl n;refine⟨⟨Wu h1 h2,h,λa b g=>(by cases g)⟩,λa f=>absurd (d a) (Dz f),⟨λa _ _=>?_⟩,λx m=>(by cases m),λa _ h0=>absurd (d a) h0⟩;have e:∀b,(Pl.fresh n).cnt b=0:=λb=>by unfold Pl.cnt;rw[d];rfl
 rw[e];have:refs (λb=>((Pl.fresh n).hide ((DM.mk0 n).Qn (Qw n)) [] (b:Int)).1.named) (Pl.fresh n).C.n (Pl.fresh n).cnt a=0:=Qj5 λb _=>by rw[e];rfl
 rw[this];rfl
section
variable {D:DM}{S0:Sp}{C0:Ct}{H:List Int}{P:Pl}
theorem Keep.Zdx (K:Keep D S0 C0 [] H P):P.Xd D H:=Qs.same K.Xd (λ_ _=>rfl) λb _ _=>by rw[Tm,Qs0];rfl
theorem Keep.Ud (K:Keep D S0 C0 [] H P):P.Ud D:=by
 have L:=λ{a:Nat} (d:P.Qj D (a:Int)=0)=>by
  have e:=Lj d;have hm:=Qfq K.Zu d;have:=K.Vb (x:=(a:Int)) (by rw[Tm,e];exact d) (by rw[Tm,e];exact (Qdq hm).1);rw[Tm] at this;exact this
 refine⟨λa _ _ d=>Qfq K.Zu d,λa _ _ d x p c q=>?_,λa _ _ d x p=>?_⟩
 ·have h1:=(L d).data x (by rw[Lj d];exact p) c q;exact (Qj7 K.Zu h1).2
 ·obtain⟨z,u,B,_⟩:=(L d).kids x (by rw[Lj d];exact p);have m:=Qfq K.Zu d;have y:(P.tell D (a:Int)).1.lvl=(P.Qb D (a:Int)).lvl:=by rw[Lj d];rfl
  have E:1<=(P.Qb D (a:Int)).lvl:=by
   refine Classical.byContradiction λq=>?_
   have h0:(P.Qb D (a:Int)).lvl=0:=by have:=(Qdq m).1;omega
   have e:(P.Qb D (a:Int)).kids=[]:=congrArg Nd.kids (q12 m h0).1;rw[e] at p
   cases p
  rw[y] at u;have f:=Qh3 z (by omega);obtain⟨c,e,q⟩:=Xr (Fp z);have g:P.C.get (c:Int)≠0:=by rw[<-e];exact Fp z
  obtain⟨c0,_⟩:=K.first g
  rw[Lj f] at u B;rw[e] at u B f;exact⟨c,e,c0,q,g,f,u,B⟩
end
theorem Qlr {α:Type}:∀{l l':List α},l.Nodup->(∀x∈l,x∈l')->l.length<=l'.length
 |[],_,_,_=>Nat.zero_le _
 |x::t,l',hn,hs=>by
  obtain⟨h1,h2⟩:=List.nodup_cons.1 hn;obtain⟨s,u,rfl⟩:=List.append_of_mem (hs x (List.mem_cons_self ..));have:=Qlr (l':=s++u) h2 λy d=>by
   have e:=hs y (List.mem_cons_of_mem _ d);rcases List.mem_append.1 e with h|h
   ·exact List.mem_append_left _ h
   ·rcases List.mem_cons.1 h with h|h
    ·exact absurd (h▸d) h1
    ·exact List.mem_append_right _ h
  rw[List.length_append,List.length_cons] at *;simp only[List.length_cons];omega
theorem Qn6 {α:Type}{p a b c d:α->Bool}:∀(l:List α),(∀x∈l,p x=true->a x=true\/b x=true\/c x=true\/d x=true)->l.countP p<=l.countP a+(l.countP b+(l.countP c+l.countP d))
 |[],_=>by simp
 |x::t,h=>by
  have m:=Qn6 t λy g=>h y (List.mem_cons_of_mem _ g)
  have f:=h x (List.mem_cons_self ..);simp only[List.countP_cons];by_cases e:p x=true
  ·rcases f e with h|h|h|h<;>rw[if_pos h,if_pos e]<;>split<;>omega
  ·rw[if_neg e];omega
def Oo (R:Int->Nd × Int):Nat->Int->List Int
 |0,a=>[a]
 |l+1,a=>a::(R a).1.kids.flatMap λx=>Oo R l x.a
theorem Qjd (R:Int->Nd × Int):∀(l:Nat) (a:Int),a∈Oo R l a
 |0,_a=>List.mem_cons_self ..
 |_l+1,_a=>List.mem_cons_self ..
theorem Qfr {R:Int->Nd × Int}:∀{l:Nat} {r b:Int} {its:List Qq},Qe R l r its->b∈Oo R l r->∀x∈(R b).1.kids,x.a∈Oo R l r
 |0,r,b,its,h,d,x,hx=>by
  obtain rfl:b=r:=List.mem_singleton.1 d;rw[h.1] at hx
  cases hx
 |l+1,r,b,its,h,d,x,hx=>by
  rcases List.mem_cons.1 d with rfl|d
  ·exact List.mem_cons_of_mem _ (List.mem_flatMap.2 ⟨x,hx,Qjd R l x.a⟩)
  ·obtain⟨k,g,d⟩:=List.mem_flatMap.1 d;obtain⟨kids,parts,e,y,z,B,u⟩:=h;rw[e] at g;obtain⟨j,f,q⟩:=List.getElem_of_mem g;have p:Ql kids j=k:=by
    have:=q32 f;rw[List.getElem?_eq_getElem f,q] at this;exact (Option.some.inj this).symm
   have m:=(u j f).1;rw[p] at m;have:=Qfr m d x hx;refine List.mem_cons_of_mem _ (List.mem_flatMap.2 ⟨k,?_,this⟩);rw[e];exact g
theorem Qg0 {R:Int->Nd × Int}{l:Nat}(h:∀y:Zv,good1 R l y->(Oo R l y.1).length+2<=y.2.length):∀(G:List Zv),(∀x∈G,good1 R l x)->(G.flatMap λx=>Oo R l x.1).length+2*G.length<=(G.map (·.2)).flatten.length
 |[],_=>by simp
 |y::G,hg=>by
  have h1:=h y (hg y (List.mem_cons_self ..));have h2:=Qg0 h G λx d=>hg x (List.mem_cons_of_mem _ d)
  simp only[List.flatMap_cons,List.map_cons,List.flatten_cons,List.length_append,List.length_cons];omega
section
variable {D:DM}{S0:Sp}{C0:Ct}{H:List Int}{P:Pl}
theorem Qit (R:Int->Nd × Int)(l:Nat)(G:List Zv):((G.map Qy).flatMap λx=>Oo R l x.a)=G.flatMap λx=>Oo R l x.1:=by
 induction G with
 |nil=>rfl
 |cons y G ih=>rw[List.map_cons,List.flatMap_cons,List.flatMap_cons,ih];rfl
theorem Keep.few (K:Keep D S0 C0 [] H P):∀(l:Nat) (y:Zv),good1 (P.hide D []) l y->(Oo (P.hide D []) l y.1).length+2<=y.2.length
 |0,y,h=>by
  have:=K.long 0 y h;show 1+2<=_;omega
 |l+1,y,h=>by
  obtain⟨M,d,m,_,_⟩:=K.bun h.1;have g:=(Qaq d).1 h.2.1;obtain⟨G,e,rfl,p⟩:=d;have f:Iy ((l+1:Nat):Int)=6:=if_neg (by omega);rw[f,List.length_map] at g;have h2:=Qg0 (λy q=>K.few l y q) G p;show (y.1::_).length+2<=_;rw[List.length_cons,e,Qit,<-m];omega
theorem Keep.Zan (K:Keep D S0 C0 [] H P){l:Nat}{a:Int}{its:List Qq}(h:Qe (P.hide D []) l a its):(Oo (P.hide D []) l a).length<=its.length:=by
 obtain⟨M,f,m,g,q⟩:=K.bun h
 cases l with
 |zero=>
  have:=h.2;show 1<=_;exact List.length_pos_iff.2 this
 |succ l=>
  obtain⟨G,e,rfl,p⟩:=f;have h2:=Qg0 (λy u=>K.few l y u) G p;have d:=(q13 g.may (by rw[e];show ¬((l+1:Nat):Int)=0;omega)).2.2.2.1;rw[e] at d;have d:2<=(G.map Qy).length:=d;rw[List.length_map] at d;show (a::_).length<=_;rw[List.length_cons,e,Qit,<-m];omega
def Ct.used (C:Ct):Nat:=(List.range C.n).countP λa=>decide (nm C.now a≠0)
def Ct.kept (C:Ct):Nat:=(List.range C.n).countP λa=>decide (nm C.done a≠0)
theorem Qxg (C:Ct):C.n<=C.free+(C.first+(C.used+C.kept)):=by
 have h:=Qn6 (p:=λ_=>true) (a:=λj=>C.may j) (b:=λj=>decide (j<C.first)) (c:=λa=>decide (nm C.now a≠0)) (d:=λa=>decide (nm C.done a≠0)) (List.range C.n) λx u _=>by
  by_cases h1:x<C.first
  ·exact .inr (.inl (decide_eq_true h1))
  ·by_cases h2:nm C.now x=0
   ·by_cases e:nm C.done x=0
    ·left
     unfold Ct.may Ct.Z7;simp[h2,e];omega
    ·exact .inr (.inr (.inr (decide_eq_true e)))
   ·exact .inr (.inr (.inl (decide_eq_true h2)))
 have g:(List.range C.n).countP (λ_=>true)=C.n:=by
  rw[List.countP_eq_length.2 λ_ _=>rfl,List.length_range]
 have q:(List.range C.n).countP (λj=>decide (j<C.first))<=C.first:=by
  generalize C.n=n;generalize C.first=f
  induction n with
  |zero=>simp
  |succ n ih=>
   rw[List.range_succ,List.countP_append];by_cases hn:n<f
   ·have:(List.range n).countP (λj=>decide (j<f))<=n:=by
     have:=List.countP_le_length (p:=λj=>decide (j<f)) (l:=List.range n);rw[List.length_range] at this;exact this
    simp[hn];omega
   ·simp[hn];omega
 have m:(List.range C.n).countP (λj=>C.may j)=C.free:=by unfold Ct.free Ct.Q8;rfl
 rw[g,m] at h;unfold Ct.used Ct.kept;omega
def Zdq (R:Int->Nd × Int)(L:List (Nat × Int × List Qq)):Prop:=∀x∈L,Qe R x.1 x.2.1 x.2.2
theorem Qhc {R:Int->Nd × Int}:∀{l:Nat} {r b:Int} {its:List Qq},Qe R l r its->b∈Oo R l r->∀x∈(R b).1.items,x∈its
 |0,r,b,its,h,d,x,hx=>by
  obtain rfl:b=r:=List.mem_singleton.1 d;rw[h.1] at hx;exact hx
 |l+1,r,b,its,h,d,x,hx=>by
  obtain⟨kids,parts,e,z,B,u,y⟩:=h;rcases List.mem_cons.1 d with rfl|d
  ·rw[e] at hx;cases hx
  ·obtain⟨k,m,d⟩:=List.mem_flatMap.1 d;rw[e] at m;obtain⟨j,f,q⟩:=List.getElem_of_mem m;have p:Ql kids j=k:=by
    have:=q32 f;rw[List.getElem?_eq_getElem f,q] at this;exact (Option.some.inj this).symm
   have g:=(y j f).1;rw[p] at g;have f:j<kids.length:=f;have h1:=Qhc g d x hx;rw[u];rw[List.getD_eq_getElem?_getD,List.getElem?_eq_getElem (by omega)] at h1;exact List.mem_flatten.2 ⟨_,List.getElem_mem (by omega),h1⟩
theorem Keep.used (K:Keep D S0 C0 [] H P){L:List (Nat × Int × List Qq)}{X:List Int}(hL:Zdq (P.hide D []) L)(hH:∀a∈H,(∃x∈L,x.2.1=a)\/a∈X)(hX:∀a∈X,P.Qj D a≠0):P.C.used<=(L.map λx=>x.2.2.length).sum+((L.map λx=>(x.2.2.filterMap Vy).length).sum+X.length):=by
 have p:∀a:Nat,(a:Int)∈H->P.Qj D (a:Int)=0->∀x∈L,x.2.1=(a:Int)->(a:Int)∈L.flatMap λx=>Oo (P.hide D []) x.1 x.2.1:=λa _ _ x f e=>List.mem_flatMap.2 ⟨x,f,e▸Qjd _ _ _⟩
 have h1:∀a:Nat,a<P.C.n->P.Qj D (a:Int)=0->(a:Int)∈L.flatMap λx=>Oo (P.hide D []) x.1 x.2.1:=λa B z=>
  Qim K.Zdx K.Ud K.c K.Zu.ok.res (S:=λa:Nat=>(a:Int)∈L.flatMap λx=>Oo (P.hide D []) x.1 x.2.1) (λb I E F d=>by
   rcases hH _ F with⟨x,f,e⟩|h
   ·exact p b F d x f e
   ·exact absurd d (hX _ h)) (λb c I E O V d J ⟨y,q,e⟩=>by
   obtain⟨x,f,m⟩:=List.mem_flatMap.1 J;refine List.mem_flatMap.2 ⟨x,f,?_⟩;rw[<-e];refine Qfr (hL x f) m y ?_;rw[Tm,Lj d];exact q) a B z
 have h2:∀a:Nat,a<P.C.n->P.C.get (a:Int)≠0->(a:Int)∈(L.flatMap λx=>Oo (P.hide D []) x.1 x.2.1)++((L.flatMap λx=>x.2.2.filterMap Vy)++X):=λa B h0=>by
  by_cases z:P.Qj D (a:Int)=0
  ·exact List.mem_append_left _ (h1 a B z)
  ·refine List.mem_append_right _ ?_;obtain⟨a0,_⟩:=K.first h0
   rcases K.Zdx.by_ a0 B ((Fg K.c).2 h0) with hm|⟨b,E,M,hm⟩
   ·rcases hH _ hm with⟨x,f,e⟩|h
    ·have:=(Qau (hL x f)).2;rw[e] at this;exact absurd this z
    ·exact List.mem_append_right _ h
   ·have d:=Ti hm;refine List.mem_append_left _ ?_;obtain⟨x,f,m⟩:=List.mem_flatMap.1 (h1 b E d);rcases Qej K.Ud E hm with⟨_,_,_,_,k,_⟩|_
    ·exact absurd k z
    ·have G:(a:Int)∈(P.Qb D (b:Int)).named:=hm;unfold Nd.named at G;rcases List.mem_append.1 G with h|h
     ·obtain⟨y,q,e⟩:=List.mem_map.1 h;obtain⟨c,g,_,_,_,u,_⟩:=K.Ud.kids b E (Qb3 d) d y q;rw[g] at e;rw[e] at u;exact absurd u z
     ·obtain⟨y,q,e⟩:=List.mem_filterMap.1 h;refine List.mem_flatMap.2 ⟨x,f,List.mem_filterMap.2 ⟨y,?_,e⟩⟩;refine Qhc (hL x f) m y ?_;rw[Tm,Lj d];exact q
 have g:(((List.range P.C.n).filter λa=>decide (nm P.C.now a≠0)).map λa:Nat=>(a:Int)).length<=((L.flatMap λx=>Oo (P.hide D []) x.1 x.2.1)++((L.flatMap λx=>x.2.2.filterMap Vy)++X)).length:=by
  refine Qlr ?_ λx f=>?_
  ·refine List.Pairwise.map _ (R:=λa b:Nat=>a≠b) (λa b h (e:(a:Int)=(b:Int))=>h (by omega)) ?_;exact List.nodup_range.filter _
  ·obtain⟨a,B,rfl⟩:=List.mem_map.1 f;obtain⟨g,u⟩:=List.mem_filter.1 B;have g:=List.mem_range.1 g;refine h2 a g λe=>of_decide_eq_true u ?_
   unfold Ct.get at e;rw[if_pos (by omega),Int.toNat_natCast] at e;exact e
 rw[List.length_map,<-List.countP_eq_length_filter,List.length_append,List.length_append] at g;have u:∀(L:List (Nat × Int × List Qq)),Zdq (P.hide D []) L->(L.flatMap λx=>Oo (P.hide D []) x.1 x.2.1).length<=(L.map λx=>x.2.2.length).sum:=by
  intro L;induction L with
  |nil=>intro _;simp
  |cons x t ih=>
   intro h;have W:=K.Zan (h x (List.mem_cons_self ..));have Y:=ih λy q=>h y (List.mem_cons_of_mem _ q)
   rw[List.flatMap_cons,List.length_append,List.map_cons,List.sum_cons];omega
 have Q:(L.flatMap λx=>x.2.2.filterMap Vy).length=(L.map λx=>(x.2.2.filterMap Vy).length).sum:=by
  generalize L=L;induction L with
  |nil=>rfl
  |cons x t ih=>rw[List.flatMap_cons,List.length_append,List.map_cons,List.sum_cons,ih]
 have T:=u L hL;have U:P.C.used=(List.range P.C.n).countP λa=>decide (nm P.C.now a≠0):=rfl
 omega
end
def eqS (s t:ByteArray):Bool:=s.toList==t.toList
theorem Qa5 (s t:ByteArray):eqS s t=true↔s=t:=by
 unfold eqS;rw[beq_iff_eq,Lib.toList_data,Lib.toList_data,Array.toList_inj];exact⟨λh=>ByteArray.ext h,λh=>h▸rfl⟩
theorem Qyl {s t:ByteArray}(h:s≠t):eqS s t=false:=by
 cases d:eqS s t with
 |false=>rfl
 |true=>exact absurd ((Qa5 _ _).1 d) h
theorem Qym (s:ByteArray):eqS s s=true:=(Qa5 _ _).2 rfl
abbrev De:=Int × Wh
def Qbo (i:Int)(x:De):Qq:=⟨⟨i,2,x.1⟩,x.2.bytes⟩
def Lc (i:Int)(L:List De):List Qq:=L.map (Qbo i)
theorem Ru (i:Int)(L:List De):(Lc i L).length=L.length:=by simp[Lc]
structure Ov (L:List De)(lim:Int):Prop where
 off:L.Pairwise λx y=>x.1<y.1
 low:∀x∈L,0<=x.1/\x.1<lim
 may:∀x∈L,x.2.may=true
 name:L.Pairwise λx y=>x.2.name≠y.2.name
theorem Qyd (lim:Int):Ov [] lim:=⟨List.Pairwise.nil,λ_ h=>absurd h List.not_mem_nil,λ_ h=>absurd h List.not_mem_nil,List.Pairwise.nil⟩
section
variable {L:List De}{lim:Int}{i:Int}{A C:List Qq}{n:ByteArray}{x:De}
def Ol (n:ByteArray)(L:List De):Option De:=L.foldl (λa x=>if eqS x.2.name n=true then some x else a) none
def Om (L:List De):Int:=L.foldl (λ_ x=>x.1+1) 0
def Rq (n:ByteArray)(L:List De):Bool:=L.any λx=>eqS x.2.name n
theorem Qb8 (n:ByteArray)(L:List De)(x:De):Ol n (L++[x])=if eqS x.2.name n=true then some x else Ol n L:=by unfold Ol;rw[List.foldl_append];rfl
theorem Qjc (L:List De)(x:De):Om (L++[x])=x.1+1:=by unfold Om;rw[List.foldl_append];rfl
theorem Qhi (n:ByteArray)(L:List De)(x:De):Rq n (L++[x])=(Rq n L||eqS x.2.name n):=by unfold Rq;rw[List.any_append];simp
theorem Qll (n:ByteArray):∀(r L:List De),L=r.reverse->(Ol n L=none/\Rq n L=false/\∀x∈L,x.2.name≠n)\/∃x∈L,Ol n L=some x/\Rq n L=true/\x.2.name=n
 |[],_,h=>by
  subst h;exact .inl ⟨rfl,rfl,λx f=>by cases f⟩
 |y::r,_,h=>by
  subst h;rw[List.reverse_cons,Qb8,Qhi]
  cases e:eqS y.2.name n with
  |true=>exact .inr ⟨y,List.mem_append_right _ (List.mem_singleton.2 rfl),by rw[if_pos rfl],by rw[Bool.or_true],(Qa5 _ _).1 e⟩
  |false=>
   rw[if_neg Bool.false_ne_true,Bool.or_false];rcases Qll n r _ rfl with⟨h1,h2,d⟩|⟨x,h1,h2,d,g⟩
   ·refine .inl ⟨h1,h2,λx f=>?_⟩;rcases List.mem_append.1 f with h|h
    ·exact d x h
    ·rw[List.mem_singleton.1 h];intro m;rw[(Qa5 _ _).2 m] at e
     cases e
   ·exact .inr ⟨x,List.mem_append_left _ h1,h2,d,g⟩
theorem Qb9 (n:ByteArray)(L:List De):(Ol n L=none/\Rq n L=false/\∀x∈L,x.2.name≠n)\/∃x∈L,Ol n L=some x/\Rq n L=true/\x.2.name=n:=Qll n L.reverse L (by simp)
theorem Ov.filter (h:Ov L lim)(f:De->Bool):Ov (L.filter f) lim:=⟨h.off.filter f,λy d=>h.low y (List.mem_filter.1 d).1,λy d=>h.may y (List.mem_filter.1 d).1,h.name.filter f⟩
theorem Ov.wider (h:Ov L lim){l2:Int}(hl:lim<=l2):Ov L l2:=⟨h.off,λx d=>⟨(h.low x d).1,by have:=(h.low x d).2;omega⟩,h.may,h.name⟩
theorem Qzz:∀(r L:List De),L=r.reverse->Ov L lim->0<=lim->0<=Om L/\Om L<=lim/\∀x∈L,x.1<Om L
 |[],_,h,_,h0=>by
  subst h;exact⟨Int.le_refl 0,h0,λx d=>by cases d⟩
 |y::r,_,h,hd,h0=>by
  subst h;rw[List.reverse_cons] at hd ⊢;rw[Qjc];have h1:=hd.low y (List.mem_append_right _ (List.mem_singleton.2 rfl));refine⟨by omega,by omega,λx d=>?_⟩;rcases List.mem_append.1 d with h|h
  ·have:=(List.pairwise_append.1 hd.off).2.2 x h y (List.mem_singleton.2 rfl);omega
  ·rw[List.mem_singleton.1 h];omega
theorem Ov.next (h:Ov L lim)(h0:0<=lim):0<=Om L/\Om L<=lim/\∀x∈L,x.1<Om L:=Qzz L.reverse L (by simp) h h0
theorem Ov.snoc (h:Ov L lim)(h0:0<=lim){e:Wh}(he:e.may=true)(hn:∀x∈L,x.2.name≠e.name):Ov (L++[(Om L,e)]) (lim+1):=by
 obtain⟨a,b,c⟩:=h.next h0;refine⟨List.pairwise_append.2 ⟨h.off,List.pairwise_singleton ..,λx d y f=>?_⟩,λx d=>?_,λx d=>?_,List.pairwise_append.2 ⟨h.name,List.pairwise_singleton ..,λx d y f=>?_⟩⟩
 ·rw[List.mem_singleton.1 f];exact c x d
 ·rcases List.mem_append.1 d with d|d
  ·have:=h.low x d;omega
  ·rw[List.mem_singleton.1 d];dsimp only;omega
 ·rcases List.mem_append.1 d with d|d
  ·exact h.may x d
  ·rw[List.mem_singleton.1 d];exact he
 ·rw[List.mem_singleton.1 f];exact hn x d
theorem Ov.one (h:Ov L lim){x y:De}(hx:x∈L)(hy:y∈L)(hn:x.2.name=y.2.name):x=y:=by
 obtain⟨i,hi,rfl⟩:=List.mem_iff_getElem.1 hx;obtain⟨j,d,rfl⟩:=List.mem_iff_getElem.1 hy;have e:=List.pairwise_iff_getElem.1 h.name;rcases Nat.lt_trichotomy i j with h1|h1|h1
 ·exact absurd hn (e i j hi d h1)
 ·subst h1;rfl
 ·exact absurd hn.symm (e j i d hi h1)
theorem Ov.Zew (h:Ov L lim){x y:De}(hx:x∈L)(hy:y∈L)(hn:x.1=y.1):x=y:=by
 obtain⟨i,hi,rfl⟩:=List.mem_iff_getElem.1 hx;obtain⟨j,d,rfl⟩:=List.mem_iff_getElem.1 hy;have e:=List.pairwise_iff_getElem.1 h.off;rcases Nat.lt_trichotomy i j with h1|h1|h1
 ·have:=e i j hi d h1;omega
 ·subst h1;rfl
 ·have:=e j i d hi h1;omega
structure Ctx (i:Int)(A C:List Qq):Prop where
 one:0<=i/\i<=2147483647
 lo:∀x∈A,x.k.obj<i
 hi:∀x∈C,i<x.k.obj
 ra:Zt A
 rc:Zt C
 fa:∀x∈A,Nj x
 fc:∀x∈C,Nj x
theorem Qre (hi:0<=i/\i<=2147483647)(h:Ov L lim)(f:lim<=2147483648)(d:x∈L):Nj (Qbo i x):=by
 have h1:=h.low x d;have h2:=(Bool.and_eq_true_iff.1 (h.may x d)).1;have e:=of_decide_eq_true h2;refine⟨(Kd.Vj _).2 ⟨hi,⟨by show (0:Int)<=2;omega,by show (2:Int)<=255;omega⟩,h1.1,by show x.1<=2147483647;omega⟩,?_⟩;show x.2.bytes.length<=28;rw[Qhv];omega
theorem Qaw {y:Qq}(h:y∈Lc i L):∃x∈L,y=Qbo i x:=by
 obtain⟨x,d,rfl⟩:=List.mem_map.1 h;exact⟨x,d,rfl⟩
theorem Qms (h:Ov L lim):Zt (Lc i L):=by
 refine List.pairwise_map.2 (h.off.imp ?_);intro x y d;exact (Kd.Xm _ _).2 (.inr ⟨rfl,.inr ⟨rfl,d⟩⟩)
theorem Rk {a b:Kd}(h:a.obj<b.obj):a.less b=true:=(Kd.Xm _ _).2 (.inl h)
theorem Ctx.Zt (X:Ctx i A C)(h:Ov L lim):Zt (A++(Lc i L++C)):=by
 refine List.pairwise_append.2 ⟨X.ra,List.pairwise_append.2 ⟨Qms h,X.rc,λa e b d=>?_⟩,λa e b d=>?_⟩
 ·obtain⟨x,_,rfl⟩:=Qaw e;exact Rk (X.hi b d)
 ·rcases List.mem_append.1 d with d|d
  ·obtain⟨x,_,rfl⟩:=Qaw d;exact Rk (X.lo a e)
  ·exact Rk (by have:=X.lo a e;have:=X.hi b d;omega)
theorem Ctx.fine (X:Ctx i A C)(h:Ov L lim)(hl:lim<=2147483648):∀x∈A++(Lc i L++C),Nj x:=λx d=>by
 rcases List.mem_append.1 d with d|d
 ·exact X.fa x d
 rcases List.mem_append.1 d with d|d
 ·obtain⟨y,e,rfl⟩:=Qaw d;exact Qre X.one h hl e
 ·exact X.fc x d
theorem Ctx.within (X:Ctx i A C)(h:Ov L lim)(hl:lim<=2147483648):within ⟨i,2,0⟩ ⟨i,2,2147483647⟩ (A++(Lc i L++C))=Lc i L:=by
 unfold Go.Proofs.YthkfkhejjmhomaaGreatDoor.within;rw[List.filter_append,List.filter_append,List.filter_eq_nil_iff.2 λx d=>?_,List.filter_eq_self.2 λx d=>?_,List.filter_eq_nil_iff.2 λx d=>?_,List.nil_append,List.append_nil]
 ·have:(⟨i,2,2147483647⟩:Kd).less x.k=true:=Rk (X.hi x d);rw[this];simp
 ·obtain⟨y,m,rfl⟩:=Qaw d;have h1:=h.low y m;have f:(Qbo i y).k.less ⟨i,2,0⟩=false:=by
   cases e:(Qbo i y).k.less ⟨i,2,0⟩ with
   |false=>rfl
   |true=>have:=(Kd.Xm _ _).1 e;simp only[Qbo] at this;omega
  have g:(⟨i,2,2147483647⟩:Kd).less (Qbo i y).k=false:=by
   cases e:(⟨i,2,2147483647⟩:Kd).less (Qbo i y).k with
   |false=>rfl
   |true=>have:=(Kd.Xm _ _).1 e;simp only[Qbo] at this;omega
  rw[f,g];rfl
 ·have:x.k.less ⟨i,2,0⟩=true:=Rk (X.lo x d);rw[this];simp
theorem Qub {k:Kd}{v:List UInt8}:∀{l:List Qq},(∀x∈l,x.k.less k=true)->Si k v false l=l++[⟨k,v⟩]
 |[],_=>by simp[Si]
 |x::r,h=>by
  have h1:=(Kd.Xm _ _).1 (h x (List.mem_cons_self ..));have h2:x.k.same k=false:=by
   cases d:x.k.same k with
   |false=>rfl
   |true=>have:=(Kd.same_iff _ _).1 d;omega
  have e:k.less x.k=false:=by
   cases d:k.less x.k with
   |false=>rfl
   |true=>have:=(Kd.Xm _ _).1 d;omega
  rw[Si,h2,e,Bool.or_self,Bool.and_false,Bool.or_self,Qub λy f=>h y (List.mem_cons_of_mem _ f)];simp
theorem Ctx.Zez (X:Ctx i A C)(h:Ov L lim)(h0:0<=lim)(e:Wh):Si ⟨i,2,Om L⟩ e.bytes false (A++(Lc i L++C))=A++(Lc i (L++[(Om L,e)])++C):=by
 rw[Qm0 (λx d=>Rk (X.lo x d)) (λx d=>Rk (X.hi x d)) (X.Zt h),Qub λx d=>?_]
 ·unfold Lc;rw[List.map_append];rfl
 ·obtain⟨y,f,rfl⟩:=Qaw d;exact (Kd.Xm _ _).2 (.inr ⟨rfl,.inr ⟨rfl,(h.next h0).2.2 y f⟩⟩)
def Qe9 (n:ByteArray)(L:List De):List De:=L.filter λx=>!eqS x.2.name n
theorem Ctx.del (X:Ctx i A C)(h:Ov L lim)(d:x∈L)(hn:x.2.name=n):Qc3 ⟨i,2,x.1⟩ (A++(Lc i L++C))=A++(Lc i (Qe9 n L)++C):=by
 rw[Qtp (λx d=>Rk (X.lo x d)) (λx d=>Rk (X.hi x d))];unfold Qc3 Lc Qe9;rw[List.filter_map];congr 3
 refine List.filter_congr λy g=>?_
 show (!(Qbo i y).k.same ⟨i,2,x.1⟩)=!eqS y.2.name n;congr 1
 by_cases e:eqS y.2.name n=true
 ·have f:y=x:=h.one g d (((Qa5 _ _).1 e).trans hn.symm);rw[e];exact (Kd.same_iff _ _).2 ⟨rfl,rfl,by rw[f];rfl⟩
 ·rw[Bool.eq_false_iff.2 e];refine Bool.eq_false_iff.2 λm=>?_
  have f:y=x:=h.Zew g d ((Kd.same_iff _ _).1 m).2.2;exact e ((Qa5 _ _).2 (by rw[f];exact hn))
theorem Ctx.has (hx:x∈L):∃y∈A++(Lc i L++C),y.k.same ⟨i,2,x.1⟩=true:=
 ⟨Qbo i x,List.mem_append_right _ (List.mem_append_left _ (List.mem_map.2 ⟨x,hx,rfl⟩)),(Kd.same_iff _ _).2 ⟨rfl,rfl,rfl⟩⟩
end
def Qcw (L:List De):List Wh:=L.map (·.2)
theorem Qjs (L:List De):(Qcw L).length=L.length:=by simp[Qcw]
theorem Zau (L:List De)(o:Int)(e:Wh):Qcw (L++[(o,e)])=Qcw L++[e]:=by simp[Qcw]
theorem Qyb {L:List De}(n:ByteArray)(h:∀x∈L,x.2.name≠n):Qe9 n L=L:=List.filter_eq_self.2 λx d=>by rw[Qyl (h x d)];rfl
theorem Qe6:∀(x y:List UInt8),Op.bytesLess x y=decide (x<y)
 |[],[]=>by simp[Op.bytesLess]
 |_::_,[]=>by simp[Op.bytesLess]
 |[],_::_=>by simp[Op.bytesLess]
 |a::x,b::y=>by
  rw[Op.bytesLess,Qe6 x y];simp only[List.cons_lt_cons_iff];by_cases h1:a<b<;>by_cases h2:a=b<;>by_cases d:x<y<;>simp[h1,h2,d]
def Nw (s t:ByteArray):Bool:=Op.bytesLess s.toList t.toList
theorem Ot (s t:ByteArray):Nw s t=true↔s.data.toList<t.data.toList:=by
 unfold Nw;rw[Qe6,Lib.toList_data,Lib.toList_data,decide_eq_true_iff]
theorem Qln (s:ByteArray):Nw s s=false:=by
 cases h:Nw s s with
 |false=>rfl
 |true=>exact absurd ((Ot _ _).1 h) (List.lt_irrefl _)
theorem Qa8 {s t u:ByteArray}(h:Nw s t=true)(h2:Nw t u=true):Nw s u=true:=
 (Ot _ _).2 (List.lt_trans ((Ot _ _).1 h) ((Ot _ _).1 h2))
theorem Qpk {s t:ByteArray}(h:Nw s t=true)(h2:Nw t s=true):False:=by
 have:=Qa8 h h2;rw[Qln] at this
 cases this
theorem Qc8 {s t:ByteArray}(h:s≠t):Nw s t=true\/Nw t s=true:=by
 by_cases h1:s.data.toList<t.data.toList
 ·exact .inl ((Ot _ _).2 h1)
 by_cases h2:t.data.toList<s.data.toList
 ·exact .inr ((Ot _ _).2 h2)
 exact absurd (ByteArray.ext (Array.toList_inj.1 (List.le_antisymm (List.not_lt.1 h2) (List.not_lt.1 h1)))) h
theorem Qee:∀(a b:List UInt8),Lib.compareBytes a b<0↔a<b
 |[],[]=>by simp[Lib.compareBytes]
 |[],_::_=>by simp[Lib.compareBytes]
 |_::_,[]=>by simp[Lib.compareBytes]
 |a::xs,b::ys=>by
  unfold Lib.compareBytes;rw[List.cons_lt_cons_iff];by_cases h1:a<b
  ·rw[if_pos h1];exact⟨λ_=>.inl h1,λ_=>by omega⟩
  ·rw[if_neg h1];by_cases h2:b<a
   ·rw[if_pos h2];refine⟨λh=>by omega,λh=>?_⟩;rcases h with h|⟨h,_⟩
    ·exact absurd h h1
    ·subst h;exact absurd h2 h1
   ·rw[if_neg h2,Qee xs ys];have e:a=b:=UInt8.le_antisymm (UInt8.not_lt.1 h2) (UInt8.not_lt.1 h1);exact⟨λh=>.inr ⟨e,h⟩,λh=>h.elim (λh=>absurd h h1) λh=>h.2⟩
def Qd2 (x y:Wh):Int:=Lib.compareBytes x.name.data.toList y.name.data.toList
theorem Qhu (x y:Wh):(decide (Qd2 x y<0))=Nw x.name y.name:=by
 cases h:Nw x.name y.name with
 |true=>exact decide_eq_true ((Qee _ _).2 ((Ot _ _).1 h))
 |false=>exact decide_eq_false λd=>by rw[(Ot _ _).2 ((Qee _ _).1 d)] at h;cases h
def Qdy (l:List Wh):Prop:=l.Pairwise λx y=>Nw x.name y.name=true
def Og (n:ByteArray)(l:List Wh):Nat:=(l.takeWhile λx=>Nw x.name n).length
def Qki (x:Wh)(l:List Wh):List Wh:=l.take (Og x.name l)++(x::l.drop (Og x.name l))
def Rt (l:List Wh):List Wh:=l.foldl (λout x=>Qki x out) []
theorem Qi2 (l:List Wh)(x:Wh):Rt (l++[x])=Qki x (Rt l):=by unfold Rt;rw[List.foldl_append];rfl
theorem Qb0 (n:ByteArray)(y:Wh)(l:List Wh):Og n (y::l)=if Nw y.name n=true then Og n l+1 else 0:=by
 unfold Og;rw[List.takeWhile_cons];split<;>rfl
theorem Qnl:∀{n:ByteArray} {l:List Wh} {j:Nat} (_:j<Og n l) (d:j<l.length),Nw l[j].name n=true
 |n,y::l,j,h,d=>by
  rw[Qb0] at h;split at h
  ·next hy=>
   cases j with
   |zero=>exact hy
   |succ j=>exact Qnl (l:=l) (j:=j) (by omega) (by simpa using d)
  ·omega
theorem Qnk:∀{n:ByteArray} {l:List Wh} (d:Og n l<l.length),Nw (l[Og n l]'d).name n=false
 |n,y::l,d=>by
  by_cases f:Nw y.name n=true
  ·have e:Og n (y::l)=Og n l+1:=by rw[Qb0,if_pos f]
   have h2:Og n l<l.length:=by rw[e] at d;simpa using d
   have:=Qnk h2;simp only[e,List.getElem_cons_succ];exact this
  ·have e:Og n (y::l)=0:=by rw[Qb0,if_neg f]
   simp only[e,List.getElem_cons_zero];exact Bool.eq_false_iff.2 f
theorem Qvu (x:Wh)(l:List Wh):(Qki x l).Perm (x::l):=by
 unfold Qki;refine List.perm_middle.trans ?_;rw[List.take_append_drop]
theorem Qox {x:Wh}{l:List Wh}(h:Qdy l)(hn:∀y∈l,y.name≠x.name):Qdy (Qki x l):=by
 unfold Qki;have m:=h;rw[<-List.take_append_drop (Og x.name l) l] at m;obtain⟨h1,h2,q⟩:=List.pairwise_append.1 m;have u:∀y∈l.take (Og x.name l),Nw y.name x.name=true:=λy e=>by
  obtain⟨j,B,rfl⟩:=List.mem_iff_getElem.1 e;rw[List.length_take] at B;rw[List.getElem_take];exact Qnl (by omega) _
 have z:∀y∈l.drop (Og x.name l),Nw x.name y.name=true:=λy e=>by
  have g:Og x.name l<l.length:=by
   have:=List.length_pos_of_mem e;rw[List.length_drop] at this;omega
  have h0:=Qnk g;have p:Nw x.name (l[Og x.name l]'g).name=true:=by
   rcases Qc8 (hn _ (List.getElem_mem g)) with h|h
   ·rw[h] at h0;cases h0
   ·exact h
  rw[List.drop_eq_getElem_cons g] at e h2;rcases List.mem_cons.1 e with rfl|e
  ·exact p
  ·exact Qa8 p ((List.pairwise_cons.1 h2).1 y e)
 refine List.pairwise_append.2 ⟨h1,List.pairwise_cons.2 ⟨z,h2⟩,λa f b d=>?_⟩;rcases List.mem_cons.1 d with rfl|d
 ·exact u a f
 ·exact q a f b d
theorem Qen (l:List Wh):(Rt l).Perm l:=by
 suffices h:∀(r l:List Wh),l=r.reverse->(Rt l).Perm l from h l.reverse l (by simp)
 intro r;induction r with
 |nil=>rintro _ rfl;exact List.Perm.refl _
 |cons y r ih=>
  rintro _ rfl;rw[List.reverse_cons,Qi2];refine (Qvu _ _).trans ?_;exact ((ih _ rfl).cons y).trans (List.perm_append_singleton y _).symm
theorem Qfj {l:List Wh}(h:l.Pairwise λx y=>x.name≠y.name):Qdy (Rt l):=by
 suffices ∀(r l:List Wh),l=r.reverse->(l.Pairwise λx y=>x.name≠y.name)->Qdy (Rt l) from this l.reverse l (by simp) h
 intro r;induction r with
 |nil=>rintro _ rfl _;exact List.Pairwise.nil
 |cons y r ih=>
  rintro _ rfl d;rw[List.reverse_cons] at d ⊢;rw[Qi2];obtain⟨h1,_,e⟩:=List.pairwise_append.1 d;exact Qox (ih _ rfl h1) λz f=>e z ((Qen _).mem_iff.1 f) y (List.mem_singleton.2 rfl)
theorem rows_names {L:List De}{lim:Int}(h:Ov L lim):(Qcw L).Pairwise λx y=>x.name≠y.name:=List.pairwise_map.2 h.name
theorem Qss {a b:List Wh}(d:Qdy a)(e:Qdy b)(f:a.Perm b):a=b:=
 List.Perm.eq_of_pairwise (λ_ _ _ _ h1 h2=>(Qpk h1 h2).elim) d e f
theorem Qwx [Inhabited Wh]{d e:Array Wh}(E:Sort.PermIn 0 d.size d e)(F:Sort.SortedIn (λx y=>decide (Qd2 x y<0)) 0 d.size e)(hn:d.toList.Pairwise λx y=>x.name≠y.name):e.toList=Rt d.toList:=by
 obtain⟨h1,_,g⟩:=E;have z:e.extract 0 d.size=e:=by rw[<-h1];exact Array.extract_size
 have B:d.extract 0 d.size=d:=Array.extract_size;rw[z,B] at g;refine Qss ?_ (Qfj hn) (g.trans (Qen _).symm);have q:e.toList.Pairwise λx y=>x.name≠y.name:=g.symm.pairwise hn λh=>h.symm
 refine List.pairwise_iff_getElem.2 λi j hi u f=>?_
 have p:j<d.size:=by rw[<-h1];simpa using u
 have m:decide (Qd2 e[j]! e[i]!<0)=false:=F i j (Nat.zero_le _) f p;rw[Qhu,getElem!_pos e j (by omega),getElem!_pos e i (by omega)] at m;rcases Qc8 (List.pairwise_iff_getElem.1 q i j hi u f) with h|h
 ·exact h
 ·have:Nw e[j].name e[i].name=true:=h;rw[this] at m
  cases m
