/- Plain facts of nodes: what was written is read; the two ways «to» say what is read -/
import Derived.Test.YthkfkhejjmhomaaGreatDoorDz11
import Derived.Test.YthkfkhejjmhomaaGreatDoorDz21
namespace Go.Proofs.YthkfkhejjmhomaaGreatDoor
open Go Go.RowKit Go.Proofs
theorem Qy9 {r:List UInt8}(h:Bq r=0):r=(U9 r).bytes++Y6 r:=by
 unfold Bq at h;split at h
 ·rename_i d;have g:9<=r.length:=of_decide_eq_true (by unfold Ue at d;rw[Bool.and_eq_true] at d;exact d.1);unfold U9 Y6;rw[if_pos d,if_pos d];unfold Wy Kd.bytes;dsimp only;rw[Sr _ 4 (by simp;omega),Sr _ 1 (by simp;omega),Sr _ 4 (by simp;omega)];have f:(r.drop 5).take 4++r.drop 9=r.drop 5:=by have:=List.take_append_drop 4 (r.drop 5);rwa [List.drop_drop] at this
  have e:(r.drop 4).take 1++r.drop 5=r.drop 4:=by have:=List.take_append_drop 1 (r.drop 4);rwa [List.drop_drop] at this
  rw[List.append_assoc,List.append_assoc,f,e,List.take_append_drop]
 ·split at h<;>omega
theorem Zfe {r:List UInt8}(h:Hz r=0):r=Zw ((H7 r).length:Int) 1++(H7 r++H6 r):=by
 unfold Hz at h;split at h
 ·rename_i d;obtain⟨h1,h2⟩:=of_decide_eq_true d;unfold H7 H6;rw[if_pos d,if_pos d];unfold bodyT Kw;have e:((r.drop 1).take (Zo (r.take 1))).length=Zo (r.take 1):=by rw[List.length_take,List.length_drop];omega
  rw[e,Sr _ 1 (by simp;omega)];have f:(r.drop 1).take (Zo (r.take 1))++r.drop (1+Zo (r.take 1))=r.drop 1:=by have:=List.take_append_drop (Zo (r.take 1)) (r.drop 1);rwa [List.drop_drop] at this
  rw[f,List.take_append_drop]
 ·omega
theorem Zfa {r:List UInt8}(h:Hu r=0):r=Zw (Hy r) 2++Hw r:=by
 unfold Hu at h;split at h
 ·rename_i d;have h1:=of_decide_eq_true d;unfold Hy Hw;rw[if_pos d,if_pos d,Sr _ 2 (by simp;omega),List.take_append_drop]
 ·omega
theorem Zdn (v l:List UInt8)(m:v.length<=255):H7 (Zw (v.length:Int) 1++(v++l))=v/\H6 (Zw (v.length:Int) 1++(v++l))=l/\Hz (Zw (v.length:Int) 1++(v++l))=0:=by
 have e:(Zw (v.length:Int) 1++(v++l)).take 1=Zw (v.length:Int) 1:=List.take_left' (Ye _ _);have f:(Zw (v.length:Int) 1++(v++l)).drop 1=v++l:=List.drop_left' (Ye _ _);have g:Zo (Zw (v.length:Int) 1)=v.length:=by rw[Qgn,Nat.mod_eq_of_lt (by omega)]
 have d:U5 (Zw (v.length:Int) 1++(v++l))=true:=by
  refine decide_eq_true ?_;rw[e,g];simp[Ye]
 unfold H7 H6 Hz bodyT Kw;rw[if_pos d,if_pos d,if_pos d,e,g,f,<-List.drop_drop,f];exact⟨List.take_left' rfl,List.drop_left' rfl,rfl⟩
theorem Zdk (a:Int)(l:List UInt8)(h0:0<=a)(h1:a<65536):Hy (Zw a 2++l)=a/\Hw (Zw a 2++l)=l/\Hu (Zw a 2++l)=0:=by
 have d:U4 (Zw a 2++l)=true:=decide_eq_true (by rw[List.length_append,Ye];omega);unfold Hy Hw Hu;rw[if_pos d,if_pos d,if_pos d,List.take_left' (Ye _ _),List.drop_left' (Ye _ _),Oc a 2 h0 (by omega)];exact⟨rfl,rfl,rfl⟩
theorem Qng (xs:List Qq)(x:Qq)(l:List UInt8)(q:x.k.may=true)(u:x.v.length<=28):Y2 ⟨0,xs,[]⟩ (Vz x++l)=some (⟨0,xs++[x],[]⟩,l):=by
 have e:Vz x++l=x.k.bytes++(Zw (x.v.length:Int) 1++(x.v++l)):=by unfold Vz;simp
 obtain⟨d,f,a3⟩:=Qt6 x.k q (Zw (x.v.length:Int) 1++(x.v++l));obtain⟨g,m,p⟩:=Zdn x.v l (by omega);rw[e];unfold Y2;rw[d,f,a3,g,m,p,if_pos rfl,if_pos rfl,if_pos rfl]
theorem Qku (d:Int)(y:d≠0)(xs:List Qk)(x:Qk)(l:List UInt8)(u:x.k.may=true)(h0:0<=x.a)(h1:x.a<65536):Y2 ⟨d,[],xs⟩ (Vs x++l)=some (⟨d,[],xs++[x]⟩,l):=by
 have e:Vs x++l=x.k.bytes++(Zw x.a 2++l):=by unfold Vs;simp
 obtain⟨f,g,a3⟩:=Qt6 x.k u (Zw x.a 2++l);obtain⟨m,p,q⟩:=Zdk x.a l h0 h1;rw[e];unfold Y2;rw[f,g,a3,m,p,q,if_pos rfl,if_neg y,if_pos rfl]
theorem Qp4 (xs:List Qq)(z:List UInt8)(e:∀j,j<xs.length->(Qx xs j).k.may=true/\(Qx xs j).v.length<=28):∀j,j<=xs.length->Ky 0 (xs.flatMap Vz++z) j=some (⟨0,xs.take j,[]⟩,(xs.drop j).flatMap Vz++z)
 |0,_=>rfl
 |j+1,hj=>by
  have g:=Qp4 xs z e j (by omega);rw[Qbv _ _ _ _ _ g];have d:=Ae (show j<xs.length by omega);have hd:xs.drop j=Qx xs j::xs.drop (j+1):=by
   rw[<-List.getElem_cons_drop (h:=by omega)];rw[List.getElem?_eq_getElem (by omega)] at d;rw[Option.some.inj d]
  obtain⟨h1,h2⟩:=e j (by omega);rw[hd,List.flatMap_cons,List.append_assoc,Qng _ _ _ h1 h2];have f:xs.take (j+1)=xs.take j++[Qx xs j]:=by
   rw[List.take_succ_eq_append_getElem (by omega)];rw[List.getElem?_eq_getElem (by omega)] at d;rw[Option.some.inj d]
  rw[f]
theorem Quc (d:Int)(g:d≠0)(xs:List Qk)(z:List UInt8)(f:∀j,j<xs.length->(Ql xs j).k.may=true/\0<=(Ql xs j).a/\(Ql xs j).a<65536):∀j,j<=xs.length->Ky d (xs.flatMap Vs++z) j=some (⟨d,[],xs.take j⟩,(xs.drop j).flatMap Vs++z)
 |0,_=>rfl
 |j+1,hj=>by
  have q:=Quc d g xs z f j (by omega);rw[Qbv _ _ _ _ _ q];have e:=q32 (show j<xs.length by omega);have hd:xs.drop j=Ql xs j::xs.drop (j+1):=by
   rw[<-List.getElem_cons_drop (h:=by omega)];rw[List.getElem?_eq_getElem (by omega)] at e;rw[Option.some.inj e]
  obtain⟨h1,h2,m⟩:=f j (by omega);rw[hd,List.flatMap_cons,List.append_assoc,Qku d g _ _ _ h1 h2 m];have p:xs.take (j+1)=xs.take j++[Ql xs j]:=by
   rw[List.take_succ_eq_append_getElem (by omega)];rw[List.getElem?_eq_getElem (by omega)] at e;rw[Option.some.inj e]
  rw[p]
theorem Zc9 {N:Nd}(hm:N.may=true)(z:List UInt8):Ky N.lvl (N.body++z) (N.items.length+N.kids.length)=some (N,z):=by
 have e:=U0 hm;obtain⟨l,its,g⟩:=N;by_cases f:l=0
 ·subst f;have p:g=[]:=e.1 rfl;subst p;have q:=hm;rw[Qph _ rfl rfl] at hm;unfold Qkk at hm;rw[Bool.and_eq_true] at hm;have h2:=Qhs.1 hm.2;have:=Qp4 its z (λj m=>by
   have d:=h2 j m;unfold okI Ja Qvf at d;rw[Bool.and_eq_true,Bool.and_eq_true,Qis] at d;exact⟨d.1.1,of_decide_eq_true d.2⟩) its.length (Nat.le_refl _)
  unfold Nd.body;simp only[List.flatMap_nil,List.append_nil,List.length_nil,Nat.add_zero];rw[this,List.take_length,List.drop_length];rfl
 ·have hi:its=[]:=e.2 f;subst hi;have u:1<=l/\l<=7:=by
   unfold Nd.may at hm;rw[if_neg f,Bool.and_eq_true,Bool.and_eq_true] at hm;have h:=of_decide_eq_true hm.2.2;exact⟨h.1,Int.lt_add_one_iff.1 h.2.1⟩
  rw[Qlm _ f u rfl] at hm;unfold Qkl at hm;rw[Bool.and_eq_true] at hm;have h2:=Qhs.1 hm.2;have:=Quc l f g z (λj m=>by
   have d:=h2 j m;unfold okK Ja Qvg at d;rw[Bool.and_eq_true,Bool.and_eq_true,Qgk] at d;have y:1<=(Ql g j).a/\(Ql g j).a<=2047:=of_decide_eq_true d.2;exact⟨d.1.1,by omega,by omega⟩) g.length (Nat.le_refl _)
  unfold Nd.body;simp only[List.flatMap_nil,List.nil_append,List.length_nil,Nat.zero_add];rw[this,List.take_length,List.drop_length];rfl
theorem Zam (l:Int)(body:List UInt8):∀(j:Nat) (N:Nd) (r:List UInt8),Ky l body j=some (N,r)->body=N.body++r/\N.lvl=l/\N.items.length+N.kids.length=j/\(l=0->N.kids=[])/\(l≠0->N.items=[])
 |0,N,r,h=>by
  injection h with h;injection h with h1 h2;subst h1 h2;exact⟨rfl,rfl,rfl,λ_=>rfl,λ_=>rfl⟩
 |j+1,N,r,h=>by
  cases q:Ky l body j with
  |none=>rw[Qgt l body j (j+1) q (by omega)] at h;cases h
  |some p=>
   obtain⟨M,s⟩:=p;rw[Qbv _ _ _ _ _ q] at h;obtain⟨u,m,B,z,A⟩:=Zam l body j M s q;unfold Y2 at h;split at h
   ·rename_i y;split at h
    ·rename_i h0;split at h
     ·rename_i f;injection h with h;injection h with h1 h2;subst h1 h2;have g:l=0:=m.symm.trans h0;have d:=z g;refine⟨?_,m,?_,λ_=>d,λh=>absurd g h⟩
      ·rw[u];unfold Nd.body;dsimp only;rw[d];simp only[List.flatMap_nil,List.append_nil,List.flatMap_append,List.flatMap_cons];rw[List.append_assoc];congr 1
       conv=>lhs;rw[Qy9 y,Zfe f]
       unfold Vz;simp
      ·dsimp only;rw[List.length_append];simp;omega
     ·cases h
    ·rename_i h0;split at h
     ·rename_i f;injection h with h;injection h with h1 h2;subst h1 h2;have g:l≠0:=λe=>h0 (m.trans e)
      have d:=A g;refine⟨?_,m,?_,λh=>absurd h g,λ_=>d⟩
      ·rw[u];unfold Nd.body;dsimp only;rw[d];simp only[List.flatMap_nil,List.nil_append,List.flatMap_append,List.flatMap_cons];rw[List.append_assoc];congr 1
       conv=>lhs;rw[Qy9 y,Zfa f]
       unfold Vs;simp
      ·dsimp only;rw[List.length_append];simp;omega
     ·cases h
   ·cases h
theorem Qle (N:Nd)(h0:0<=N.lvl):(if 0<N.lvl then (4:Int) else 3)=(if N.lvl=0 then 3 else 4):=by
 by_cases h:N.lvl=0
 ·rw[if_pos h,if_neg (by omega)]
 ·rw[if_neg h,if_pos (by omega)]
theorem head_eq {M:Nd}{h:Hd}{addr:Int}(h0:0<=M.lvl)(g:M.lvl=h.level)(e:(M.items.length:Int)+(M.kids.length:Int)=h.count)(f:h.kind=if h.level=0 then 3 else 4)(d:h.addr=addr):M.head addr h.gen=h:=by
 obtain⟨u,p,ct,m,q⟩:=h;have g:M.lvl=m:=g;have e:(M.items.length:Int)+(M.kids.length:Int)=ct:=e;have f:u=if m=0 then 3 else 4:=f
 have d:p=addr:=d;have h1:=Qle M h0;show (⟨if 0<M.lvl then 4 else 3,addr,(M.items.length:Int)+(M.kids.length:Int),M.lvl,q⟩:Hd)=_;rw[h1,e,g,<-f,d]
theorem Zby (h:Hd)(l r:List UInt8)(d:Wl r=true)(f:l.length+r.length=236):Zl h l=Zl h (l++r):=by
 have e:J4 h l=J4 h (l++r):=by
  unfold J4;have z:=Qnm d;rw[show 236-(l++r).length=0 by rw[List.length_append];omega,show 236-l.length=r.length by omega,<-z];simp
 unfold Zl;rw[e]
theorem Qq0 (n:Nat):Wl (List.replicate n 0)=true:=by
 unfold Wl;rw[List.all_eq_true];intro x d;rw[(List.mem_replicate.1 d).2];rfl
theorem Qib {N:Nd}{addr gen:Int}(hm:N.may=true)(f:Qo N addr gen=0)(e:Int):Xh (Jw N addr gen) e=if addr=e then some N else none:=by
 unfold Qo at f;rw[if_pos hm] at f;obtain⟨m,y,p⟩:=C9 _ _ f;unfold Jw;rw[if_pos hm,p];obtain⟨z,A,B⟩:=Qc1 _ _ m y;obtain⟨_,_,_,h0⟩:=Gx hm;unfold Xh;rw[if_pos B,z,A];have q:(N.head addr gen).count.toNat=N.items.length+N.kids.length:=by unfold Nd.head;dsimp only;omega
 have g:(N.head addr gen).level=N.lvl:=rfl;rw[q,g,Zc9 hm];unfold Uc;dsimp only;by_cases d:addr=e
 ·have u:(N.head addr gen).kind=(if (N.head addr gen).level=0 then 3 else 4):=Qle N h0;rw[if_pos d,if_pos ⟨u,d,Qq0 _,hm⟩]
 ·rw[if_neg d,if_neg (λh=>d h.2.1)]
theorem Qra (b:List UInt8)(addr:Int):Xh b addr=Qp2 b addr:=by
 refine Option.ext λN=>?_
 constructor
 ·intro h;unfold Xh at h;split at h
  ·rename_i u;have m:okB b=true:=by
    cases O:okB b
    ·rw[(Qje O).2.2] at u;cases u
    ·rfl
   cases d:Ky (Vk b).level (Gf b) (Vk b).count.toNat with
   |none=>rw[d] at h;cases h
   |some p=>
    obtain⟨M,r⟩:=p;rw[d] at h;unfold Uc at h;dsimp only at h;by_cases z:(Vk b).kind=(if (Vk b).level=0 then 3 else 4)/\(Vk b).addr=addr/\Wl r=true/\M.may=true
    ·rw[if_pos z] at h;obtain⟨h1,h2,K,B⟩:=z;injection h with h;subst h;obtain⟨F,H,R,I,J⟩:=Zam _ _ _ _ _ d;obtain⟨T,U,_,Q⟩:=Gx B;have f:=Qz1 u;have P:=of_decide_eq_true f;have y:Qh1 b=(Vk b).count.toNat:=by
      have:M.items.length+M.kids.length<=12:=by
       by_cases G:(Vk b).level=0
       ·rw[I G];simp;omega
       ·rw[J G];simp;omega
      unfold Qh1;omega
     have g:=(Qcc m).2.1;have D:=(of_decide_eq_true m).1;have A:M.body.length+r.length=236:=by
      have:=congrArg List.length F;rw[g,List.length_drop,List.length_append] at this;omega
     have e:M.head addr (Vk b).gen=Vk b:=head_eq Q H (by omega) h1 h2;unfold Qp2;rw[if_pos u,y,d];unfold Qh0;dsimp only;have q:Qo M addr (Vk b).gen=0:=by
      unfold Qo;rw[if_pos B,e];unfold J5;rw[if_pos f,if_pos (by omega)]
     have E:Jw M addr (Vk b).gen=b:=by
      unfold Jw;rw[if_pos B,e];unfold Xu;rw[if_pos f,if_pos (by omega),Zby _ _ r K A,<-F,g];have:=(Zci b m).2;unfold Xu at this;rw[if_pos f,if_pos (by rw[List.length_drop];omega)] at this;exact this
     rw[if_pos ⟨q,E⟩]
    ·rw[if_neg z] at h;cases h
  ·cases h
 ·intro h;unfold Qp2 at h;split at h
  ·rename_i u
   cases d:Ky (Vk b).level (Gf b) (Qh1 b) with
   |none=>rw[d] at h;cases h
   |some p=>
    obtain⟨M,r⟩:=p;rw[d] at h;unfold Qh0 at h;dsimp only at h;split at h
    ·rename_i z;obtain⟨q,E⟩:=z;injection h with h;subst h;have hm:M.may=true:=by
      cases hm:M.may
      ·unfold Qo at q;rw[hm] at q;cases q
      ·rfl
     have:=Qib hm q addr;rw[E,if_pos rfl] at this;exact this
    ·cases h
  ·cases h
theorem Af {N:Nd}(hm:N.may=true):N.body.length<=236:=by
 obtain⟨h1,h2,q,_⟩:=Gx hm;have m:∀d:List Qq,(∀j,j<d.length->(Qx d j).v.length<=28)->(d.flatMap Vz).length<=38*d.length:=by
  intro d;induction d with
  |nil=>intro _;simp
  |cons x d ih=>
   intro h;have A:x.v.length<=28:=h 0 (by simp);have:=ih (λj z=>h (j+1) (by simp;omega));rw[List.flatMap_cons,List.length_append,List.length_cons];have e:(Vz x).length=10+x.v.length:=by unfold Vz;rw[List.length_append,List.length_append,Kd.Jf,Ye];omega
   omega
 have p:∀d:List Qk,(d.flatMap Vs).length=11*d.length:=by
  intro d;induction d with
  |nil=>simp
  |cons x d ih=>
   rw[List.flatMap_cons,List.length_append,List.length_cons,ih];have e:(Vs x).length=11:=by unfold Vs;rw[List.length_append,Kd.Jf,Ye]
   omega
 have f:=U0 hm;have u:=m N.items q;have y:=p N.kids;unfold Nd.body;rw[List.length_append];by_cases g:N.lvl=0
 ·rw[f.1 g];simp only[List.flatMap_nil,List.length_nil];omega
 ·rw[f.2 g];simp only[List.flatMap_nil,List.length_nil];omega
theorem Ep {N:Nd}{addr gen:Int}(hm:N.may=true)(e:¬Qo N addr gen=0):Qo N addr gen=1/\(addr<0\/2048<=addr\/gen<0\/1099511627775<gen):=by
 unfold Qo at e ⊢;rw[if_pos hm] at e ⊢;have f:=Af hm;unfold J5 at e ⊢;by_cases d:(N.head addr gen).ok=true
 ·rw[if_pos d,if_pos f] at e;exact absurd rfl e
 ·rw[if_neg d];refine⟨rfl,?_⟩;obtain⟨h1,h2,_,m⟩:=Gx hm;have p:N.lvl<=7:=by
   unfold Nd.may at hm;split at hm
   ·omega
   ·rw[Bool.and_eq_true,Bool.and_eq_true] at hm;have:=of_decide_eq_true hm.2.2;omega
  refine Classical.byContradiction λg=>d (decide_eq_true ?_)
  unfold Nd.head;dsimp only;refine⟨?_,?_,?_,?_,?_⟩;all_goals first|omega|(split<;>omega)
