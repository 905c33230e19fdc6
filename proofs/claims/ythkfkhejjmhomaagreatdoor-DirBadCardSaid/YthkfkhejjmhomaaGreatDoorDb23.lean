/- Plain facts of nodes: what was written is read; the two ways «to» say what is read -/
import Derived.Test.YthkfkhejjmhomaaGreatDoorDb11
import Derived.Test.YthkfkhejjmhomaaGreatDoorDb22
namespace Go.Proofs.YthkfkhejjmhomaaGreatDoor
open Go Go.RowKit Go.Proofs
theorem qvy {r:List UInt8}(h:Gf r=0):r=(G8 r).bytes++Wj r:=by
 unfold Gf at h;split at h
 ·rename_i d;have m:9<=r.length:=of_decide_eq_true (by unfold ktY at d;rw[Bool.and_eq_true] at d;exact d.1);unfold G8 Wj;rw[if_pos d,if_pos d];unfold Dn Kd.bytes;dsimp only;rw[q2z _ 4 (by simp;omega),q2z _ 1 (by simp;omega),q2z _ 4 (by simp;omega)];have f:(r.drop 5).take 4++r.drop 9=r.drop 5:=by have:=List.take_append_drop 4 (r.drop 5);rwa [List.drop_drop] at this
  have e:(r.drop 4).take 1++r.drop 5=r.drop 4:=by have:=List.take_append_drop 1 (r.drop 4);rwa [List.drop_drop] at this
  rw[List.append_assoc,List.append_assoc,f,e,List.take_append_drop]
 ·split at h<;>omega
theorem qyv {r:List UInt8}(h:Ib r=0):r=Qy ((Io r).length:Int) 1++(Io r++Nc r):=by
 unfold Ib at h;split at h
 ·rename_i d;obtain⟨h1,h2⟩:=of_decide_eq_true d;unfold Io Nc;rw[if_pos d,if_pos d];unfold bodyT Yg;have e:((r.drop 1).take (Qw (r.take 1))).length=Qw (r.take 1):=by rw[List.length_take,List.length_drop];omega
  rw[e,q2z _ 1 (by simp;omega)];have f:(r.drop 1).take (Qw (r.take 1))++r.drop (1+Qw (r.take 1))=r.drop 1:=by have:=List.take_append_drop (Qw (r.take 1)) (r.drop 1);rwa [List.drop_drop] at this
  rw[f,List.take_append_drop]
 ·omega
theorem qyw {r:List UInt8}(h:Ia r=0):r=Qy (O0 r) 2++Nb r:=by
 unfold Ia at h;split at h
 ·rename_i d;have h1:=of_decide_eq_true d;unfold O0 Nb;rw[if_pos d,if_pos d,q2z _ 2 (by simp;omega),List.take_append_drop]
 ·omega
theorem qx4 (v l:List UInt8)(p:v.length<=255):Io (Qy (v.length:Int) 1++(v++l))=v/\Nc (Qy (v.length:Int) 1++(v++l))=l/\Ib (Qy (v.length:Int) 1++(v++l))=0:=by
 have e:(Qy (v.length:Int) 1++(v++l)).take 1=Qy (v.length:Int) 1:=List.take_left' (Xf _ _);have f:(Qy (v.length:Int) 1++(v++l)).drop 1=v++l:=List.drop_left' (Xf _ _);have m:Qw (Qy (v.length:Int) 1)=v.length:=by rw[qb5,Nat.mod_eq_of_lt (by omega)]
 have d:ttY (Qy (v.length:Int) 1++(v++l))=true:=by
  refine decide_eq_true ?_;rw[e,m];simp[Xf]
 unfold Io Nc Ib bodyT Yg;rw[if_pos d,if_pos d,if_pos d,e,m,f,<-List.drop_drop,f];exact⟨List.take_left' rfl,List.drop_left' rfl,rfl⟩
theorem qx5 (a:Int)(l:List UInt8)(h0:0<=a)(h1:a<65536):O0 (Qy a 2++l)=a/\Nb (Qy a 2++l)=l/\Ia (Qy a 2++l)=0:=by
 have d:t2Y (Qy a 2++l)=true:=decide_eq_true (by rw[List.length_append,Xf];omega);unfold O0 Nb Ia;rw[if_pos d,if_pos d,if_pos d,List.take_left' (Xf _ _),List.drop_left' (Xf _ _),Pn a 2 h0 (by omega)];exact⟨rfl,rfl,rfl⟩
theorem qf8 (xs:List Qb)(x:Qb)(l:List UInt8)(y:x.k.may=true)(A:x.v.length<=28):Xb ⟨0,xs,[]⟩ (q16 x++l)=some (⟨0,xs++[x],[]⟩,l):=by
 have e:q16 x++l=x.k.bytes++(Qy (x.v.length:Int) 1++(x.v++l)):=by unfold q16;simp
 obtain⟨d,f,a3⟩:=qrp x.k y (Qy (x.v.length:Int) 1++(x.v++l));obtain⟨m,p,u⟩:=qx4 x.v l (by omega);rw[e];unfold Xb;rw[d,f,a3,m,p,u,if_pos rfl,if_pos rfl,if_pos rfl]
theorem qdf (d:Int)(B:d≠0)(xs:List Qj)(x:Qj)(l:List UInt8)(A:x.k.may=true)(h0:0<=x.a)(h1:x.a<65536):Xb ⟨d,[],xs⟩ (Ew x++l)=some (⟨d,[],xs++[x]⟩,l):=by
 have e:Ew x++l=x.k.bytes++(Qy x.a 2++l):=by unfold Ew;simp
 obtain⟨f,m,a3⟩:=qrp x.k A (Qy x.a 2++l);obtain⟨p,u,y⟩:=qx5 x.a l h0 h1;rw[e];unfold Xb;rw[f,m,a3,p,u,y,if_pos rfl,if_neg B,if_pos rfl]
theorem qjb (xs:List Qb)(z:List UInt8)(e:∀j,j<xs.length->(Zb xs j).k.may=true/\(Zb xs j).v.length<=28):∀j,j<=xs.length->Jr 0 (xs.flatMap q16++z) j=some (⟨0,xs.take j,[]⟩,(xs.drop j).flatMap q16++z)
 |0,_=>rfl
 |j+1,hj=>by
  have m:=qjb xs z e j (by omega);rw[q49 _ _ _ _ _ m];have d:=Tf (show j<xs.length by omega);have hd:xs.drop j=Zb xs j::xs.drop (j+1):=by
   rw[<-List.getElem_cons_drop (h:=by omega)];rw[List.getElem?_eq_getElem (by omega)] at d;rw[Option.some.inj d]
  obtain⟨h1,h2⟩:=e j (by omega);rw[hd,List.flatMap_cons,List.append_assoc,qf8 _ _ _ h1 h2];have f:xs.take (j+1)=xs.take j++[Zb xs j]:=by
   rw[List.take_succ_eq_append_getElem (by omega)];rw[List.getElem?_eq_getElem (by omega)] at d;rw[Option.some.inj d]
  rw[f]
theorem qou (d:Int)(m:d≠0)(xs:List Qj)(z:List UInt8)(f:∀j,j<xs.length->(Qe xs j).k.may=true/\0<=(Qe xs j).a/\(Qe xs j).a<65536):∀j,j<=xs.length->Jr d (xs.flatMap Ew++z) j=some (⟨d,[],xs.take j⟩,(xs.drop j).flatMap Ew++z)
 |0,_=>rfl
 |j+1,hj=>by
  have y:=qou d m xs z f j (by omega);rw[q49 _ _ _ _ _ y];have e:=q12 (show j<xs.length by omega);have hd:xs.drop j=Qe xs j::xs.drop (j+1):=by
   rw[<-List.getElem_cons_drop (h:=by omega)];rw[List.getElem?_eq_getElem (by omega)] at e;rw[Option.some.inj e]
  obtain⟨h1,h2,p⟩:=f j (by omega);rw[hd,List.flatMap_cons,List.append_assoc,qdf d m _ _ _ h1 h2 p];have u:xs.take (j+1)=xs.take j++[Qe xs j]:=by
   rw[List.take_succ_eq_append_getElem (by omega)];rw[List.getElem?_eq_getElem (by omega)] at e;rw[Option.some.inj e]
  rw[u]
theorem qx6 {N:Nd}(hm:N.may=true)(z:List UInt8):Jr N.lvl (N.body++z) (N.items.length+N.kids.length)=some (N,z):=by
 have e:=Me hm;obtain⟨l,its,m⟩:=N;by_cases f:l=0
 ·subst f;have u:m=[]:=e.1 rfl;subst u;have y:=hm;rw[qiq _ rfl rfl] at hm;unfold Dv at hm;rw[Bool.and_eq_true] at hm;have h2:=qd1.1 hm.2;have:=qjb its z (λj p=>by
   have d:=h2 j p;unfold okI Wq Ol at d;rw[Bool.and_eq_true,Bool.and_eq_true,qd0] at d;exact⟨d.1.1,of_decide_eq_true d.2⟩) its.length (Nat.le_refl _)
  unfold Nd.body;simp only[List.flatMap_nil,List.append_nil,List.length_nil,Nat.add_zero];rw[this,List.take_length,List.drop_length];rfl
 ·have hi:its=[]:=e.2 f;subst hi;have A:1<=l/\l<=7:=by
   unfold Nd.may at hm;rw[if_neg f,Bool.and_eq_true,Bool.and_eq_true] at hm;have h:=of_decide_eq_true hm.2.2;exact⟨h.1,Int.lt_add_one_iff.1 h.2.1⟩
  rw[qel _ f A rfl] at hm;unfold Dw at hm;rw[Bool.and_eq_true] at hm;have h2:=qd1.1 hm.2;have:=qou l f m z (λj p=>by
   have d:=h2 j p;unfold okK Wq Om at d;rw[Bool.and_eq_true,Bool.and_eq_true,q9c] at d;have B:1<=(Qe m j).a/\(Qe m j).a<=2047:=of_decide_eq_true d.2;exact⟨d.1.1,by omega,by omega⟩) m.length (Nat.le_refl _)
  unfold Nd.body;simp only[List.flatMap_nil,List.nil_append,List.length_nil,Nat.zero_add];rw[this,List.take_length,List.drop_length];rfl
theorem qvz (l:Int)(body:List UInt8):∀(j:Nat) (N:Nd) (r:List UInt8),Jr l body j=some (N,r)->body=N.body++r/\N.lvl=l/\N.items.length+N.kids.length=j/\(l=0->N.kids=[])/\(l≠0->N.items=[])
 |0,N,r,h=>by
  injection h with h;injection h with h1 h2;subst h1 h2;exact⟨rfl,rfl,rfl,λ_=>rfl,λ_=>rfl⟩
 |j+1,N,r,h=>by
  cases y:Jr l body j with
  |none=>rw[q9j l body j (j+1) y (by omega)] at h;cases h
  |some p=>
   obtain⟨M,s⟩:=p;rw[q49 _ _ _ _ _ y] at h;obtain⟨A,u,F,D,E⟩:=qvz l body j M s y;unfold Xb at h;split at h
   ·rename_i B;split at h
    ·rename_i h0;split at h
     ·rename_i f;injection h with h;injection h with h1 h2;subst h1 h2;have m:l=0:=u.symm.trans h0;have d:=D m;refine⟨?_,u,?_,λ_=>d,λh=>absurd m h⟩
      ·rw[A];unfold Nd.body;dsimp only;rw[d];simp only[List.flatMap_nil,List.append_nil,List.flatMap_append,List.flatMap_cons];rw[List.append_assoc];congr 1
       conv=>lhs;rw[qvy B,qyv f]
       unfold q16;simp
      ·dsimp only;rw[List.length_append];simp;omega
     ·cases h
    ·rename_i h0;split at h
     ·rename_i f;injection h with h;injection h with h1 h2;subst h1 h2;have m:l≠0:=λe=>h0 (u.trans e)
      have d:=E m;refine⟨?_,u,?_,λh=>absurd h m,λ_=>d⟩
      ·rw[A];unfold Nd.body;dsimp only;rw[d];simp only[List.flatMap_nil,List.nil_append,List.flatMap_append,List.flatMap_cons];rw[List.append_assoc];congr 1
       conv=>lhs;rw[qvy B,qyw f]
       unfold Ew;simp
      ·dsimp only;rw[List.length_append];simp;omega
     ·cases h
   ·cases h
theorem qf9 (N:Nd)(h0:0<=N.lvl):(if 0<N.lvl then (4:Int) else 3)=(if N.lvl=0 then 3 else 4):=by
 by_cases h:N.lvl=0
 ·rw[if_pos h,if_neg (by omega)]
 ·rw[if_neg h,if_pos (by omega)]
theorem qx7 {M:Nd}{h:Hd}{addr:Int}(h0:0<=M.lvl)(m:M.lvl=h.level)(e:(M.items.length:Int)+(M.kids.length:Int)=h.count)(f:h.kind=if h.level=0 then 3 else 4)(d:h.addr=addr):M.head addr h.gen=h:=by
 obtain⟨A,u,ct,p,y⟩:=h;have m:M.lvl=p:=m;have e:(M.items.length:Int)+(M.kids.length:Int)=ct:=e;have f:A=if p=0 then 3 else 4:=f
 have d:u=addr:=d;have h1:=qf9 M h0;show (⟨if 0<M.lvl then 4 else 3,addr,(M.items.length:Int)+(M.kids.length:Int),M.lvl,y⟩:Hd)=_;rw[h1,e,m,<-f,d]
theorem qx8 (h:Hd)(l r:List UInt8)(d:Y7 r=true)(f:l.length+r.length=236):Zn h l=Zn h (l++r):=by
 have e:Yf h l=Yf h (l++r):=by
  unfold Yf;have z:=qiu d;rw[show 236-(l++r).length=0 by rw[List.length_append];omega,show 236-l.length=r.length by omega,<-z];simp
 unfold Zn;rw[e]
theorem qlt (n:Nat):Y7 (List.replicate n 0)=true:=by
 unfold Y7;rw[List.all_eq_true];intro x d;rw[(List.mem_replicate.1 d).2];rfl
theorem qbq {N:Nd}{addr gen:Int}(hm:N.may=true)(f:Zg N addr gen=0)(e:Int):Ze (Jp N addr gen) e=if addr=e then some N else none:=by
 unfold Zg at f;rw[if_pos hm] at f;obtain⟨p,B,u⟩:=q6b _ _ f;unfold Jp;rw[if_pos hm,u];obtain⟨D,E,F⟩:=q6a _ _ p B;obtain⟨_,_,_,h0⟩:=q2s hm;unfold Ze;rw[if_pos F,D,E];have y:(N.head addr gen).count.toNat=N.items.length+N.kids.length:=by unfold Nd.head;dsimp only;omega
 have m:(N.head addr gen).level=N.lvl:=rfl;rw[y,m,qx6 hm];unfold Di;dsimp only;by_cases d:addr=e
 ·have A:(N.head addr gen).kind=(if (N.head addr gen).level=0 then 3 else 4):=qf9 N h0;rw[if_pos d,if_pos ⟨A,d,qlt _,hm⟩]
 ·rw[if_neg d,if_neg (λh=>d h.2.1)]
theorem qlu (b:List UInt8)(addr:Int):Ze b addr=Hu b addr:=by
 refine Option.ext λN=>?_
 constructor
 ·intro h;unfold Ze at h;split at h
  ·rename_i A;have u:okB b=true:=by
    cases R:okB b
    ·rw[(qif R).2.2] at A;cases A
    ·rfl
   cases d:Jr (Yk b).level (Un b) (Yk b).count.toNat with
   |none=>rw[d] at h;cases h
   |some p=>
    obtain⟨M,r⟩:=p;rw[d] at h;unfold Di at h;dsimp only at h;by_cases D:(Yk b).kind=(if (Yk b).level=0 then 3 else 4)/\(Yk b).addr=addr/\Y7 r=true/\M.may=true
    ·rw[if_pos D] at h;obtain⟨h1,h2,Q,F⟩:=D;injection h with h;subst h;obtain⟨I,K,W,O,P⟩:=qvz _ _ _ _ _ d;obtain⟨X,Y,_,U⟩:=q2s F;have f:=qvt A;have T:=of_decide_eq_true f;have B:qd6 b=(Yk b).count.toNat:=by
      have:M.items.length+M.kids.length<=12:=by
       by_cases J:(Yk b).level=0
       ·rw[O J];simp;omega
       ·rw[P J];simp;omega
      unfold qd6;omega
     have m:=(q6x u).2.1;have G:=(of_decide_eq_true u).1;have E:M.body.length+r.length=236:=by
      have:=congrArg List.length I;rw[m,List.length_drop,List.length_append] at this;omega
     have e:M.head addr (Yk b).gen=Yk b:=qx7 U K (by omega) h1 h2;unfold Hu;rw[if_pos A,B,d];unfold qd7;dsimp only;have y:Zg M addr (Yk b).gen=0:=by
      unfold Zg;rw[if_pos F,e];unfold Xn;rw[if_pos f,if_pos (by omega)]
     have H:Jp M addr (Yk b).gen=b:=by
      unfold Jp;rw[if_pos F,e];unfold Xy;rw[if_pos f,if_pos (by omega),qx8 _ _ r Q E,<-I,m];have:=(qwe b u).2;unfold Xy at this;rw[if_pos f,if_pos (by rw[List.length_drop];omega)] at this;exact this
     rw[if_pos ⟨y,H⟩]
    ·rw[if_neg D] at h;cases h
  ·cases h
 ·intro h;unfold Hu at h;split at h
  ·rename_i A
   cases d:Jr (Yk b).level (Un b) (qd6 b) with
   |none=>rw[d] at h;cases h
   |some p=>
    obtain⟨M,r⟩:=p;rw[d] at h;unfold qd7 at h;dsimp only at h;split at h
    ·rename_i D;obtain⟨y,H⟩:=D;injection h with h;subst h;have hm:M.may=true:=by
      cases hm:M.may
      ·unfold Zg at y;rw[hm] at y;cases y
      ·rfl
     have:=qbq hm y addr;rw[H,if_pos rfl] at this;exact this
    ·cases h
  ·cases h
theorem qov {N:Nd}(hm:N.may=true):N.body.length<=236:=by
 obtain⟨h1,h2,y,_⟩:=q2s hm;have p:∀d:List Qb,(∀j,j<d.length->(Zb d j).v.length<=28)->(d.flatMap q16).length<=38*d.length:=by
  intro d;induction d with
  |nil=>intro _;simp
  |cons x d ih=>
   intro h;have E:x.v.length<=28:=h 0 (by simp);have:=ih (λj D=>h (j+1) (by simp;omega));rw[List.flatMap_cons,List.length_append,List.length_cons];have e:(q16 x).length=10+x.v.length:=by unfold q16;rw[List.length_append,List.length_append,Kd.Xv,Xf];omega
   omega
 have u:∀d:List Qj,(d.flatMap Ew).length=11*d.length:=by
  intro d;induction d with
  |nil=>simp
  |cons x d ih=>
   rw[List.flatMap_cons,List.length_append,List.length_cons,ih];have e:(Ew x).length=11:=by unfold Ew;rw[List.length_append,Kd.Xv,Xf]
   omega
 have f:=Me hm;have A:=p N.items y;have B:=u N.kids;unfold Nd.body;rw[List.length_append];by_cases m:N.lvl=0
 ·rw[f.1 m];simp only[List.flatMap_nil,List.length_nil];omega
 ·rw[f.2 m];simp only[List.flatMap_nil,List.length_nil];omega
theorem qth {N:Nd}{addr gen:Int}(hm:N.may=true)(e:¬Zg N addr gen=0):Zg N addr gen=1/\(addr<0\/2048<=addr\/gen<0\/1099511627775<gen):=by
 unfold Zg at e ⊢;rw[if_pos hm] at e ⊢;have f:=qov hm;unfold Xn at e ⊢;by_cases d:(N.head addr gen).ok=true
 ·rw[if_pos d,if_pos f] at e;exact absurd rfl e
 ·rw[if_neg d];refine⟨rfl,?_⟩;obtain⟨h1,h2,_,p⟩:=q2s hm;have u:N.lvl<=7:=by
   unfold Nd.may at hm;split at hm
   ·omega
   ·rw[Bool.and_eq_true,Bool.and_eq_true] at hm;have:=of_decide_eq_true hm.2.2;omega
  refine Classical.byContradiction λm=>d (decide_eq_true ?_)
  unfold Nd.head;dsimp only;refine⟨?_,?_,?_,?_,?_⟩;all_goals first|omega|(split<;>omega)
