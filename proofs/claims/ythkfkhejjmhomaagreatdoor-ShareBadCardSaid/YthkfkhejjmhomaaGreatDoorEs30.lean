/- The reference's Kids: the blocks that a node names -/
import Derived.Test.YthkfkhejjmhomaaGreatDoorEs4
import Derived.Test.YthkfkhejjmhomaaGreatDoorEs7
namespace Go.Proofs.YthkfkhejjmhomaaGreatDoor
open Go Go.RowKit Go.Proofs
set_option maxHeartbeats 8000000
section
variable {P:Program}{t e:TypeId}{s b:Nat}{z:Value}(w:World)
theorem qeb (T:Aa P t e s b z){ops:Array Oper}{o:Oper}{a:Act}{K:Act->World->Prop}{Q:Exit->Act->World->Prop}{E:Prop}(J:o.guard=none)(R x:Operand)
  (X:o.op=.call { callee:=.builtin .append,args:=#[R,x],argTypes:=#[t,t] })
  (base:Nat) (A:Option Addr) (n c:Nat) (xs:List (List Value)) (Z:a.eval R=.slice A n c) (p:Qo w base e s A n c xs)
  (B:Option Addr) (m d:Nat) (ys:List (List Value)) (hx:a.eval x=.slice B m d) (Y:Js w s B m d ys) (M:0<m) (h1:∀y∈ys,∀u∈y,u.oneCell'=true) (O:n+m<=1000000) (W:b<=100000) (f:base<=w.1.size)
  (h:∀G I F,Qo F base e s G (n+m) I (xs++ys)->Below base w F->K (a.put o.dst (.slice G (n+m) I)) F) :
  if Region.wanted o (yielded ops a.tmps)=true then Oper.wp P o a w K Q else E:=by
 rw[if_pos (by simp[Region.wanted,J])];obtain⟨G,I,F,D,h2,U⟩:=q4z (P:=P) w T o.type base A n c xs p B m d ys Y M h1 O W f;unfold Oper.wp execOp;simp only[X,resolve,invoke,builtin,Sem.run_bind,Sem.run_pure,Result.andThen_ok,List.map_toArray,List.map_cons,List.map_nil,Z,hx,D];exact h G I F h2 U
end
theorem qik (N:Nd)(A:Option Addr)(n c:Nat)(B:Option Addr)(m d:Nat)(w:World)(hI:Jd w A n c N.items)(hK:Zp w B m d N.kids)(hn:n<=1000)(hm:m<=1000) :
  Calls Tryz.prog 40 #[.agg #[.int .i64 N.lvl,.slice A n c,.slice B m d]] w λe R=>∃u n' y,e=.returned (.slice u n' y)/\Vw R u n' y N.named/\Below w.1.size w R:=by
 have a2:=Lib.hid hI.len;have a4:=Lib.hid hK.len;go_enter Tryz.func40,Tryz.ntmps40
 go_wp2_with fail
 have N1:NB (w.alloc (.cells #[.int .i64 N.lvl,.slice A n c,.slice B m d] 77)) w.1.size N.lvl A n c B m d:=NB.new w _ _ _ _ _ _ _ _;have b1:Below w.1.size w (w.alloc (.cells #[.int .i64 N.lvl,.slice A n c,.slice B m d] 77)):=Qn;have z1:=N1.lt;have N2:=N1.below ((Below.refl _ _).alloc (Nat.le_refl _) (.cells #[] 3)) z1;have B2:Below w.1.size w ((w.alloc (.cells #[.int .i64 N.lvl,.slice A n c,.slice B m d] 77)).alloc (.cells #[] 3)):=b1.trans ((Qn).mono b1.size);have o1:Qo ((w.alloc (.cells #[.int .i64 N.lvl,.slice A n c,.slice B m d] 77)).alloc (.cells #[] 3)) (w.1.size+1) 3 1 (some ⟨w.1.size+1,0,none⟩) 0 0 []:=by
  have:=q3r (w.alloc (.cells #[.int .i64 N.lvl,.slice A n c,.slice B m d] 77)) 3 1;rwa [World.size_alloc] at this
 generalize (w.alloc (.cells #[.int .i64 N.lvl,.slice A n c,.slice B m d] 77)).alloc (.cells #[] 3)=w2 at N2 B2 o1 ⊢;go_loopw [3,4] (λl i wr=>∃(j:Nat) (u:Option Addr) (y:Nat),j<=m/\i=.int .i64 (j:Int)/\l=.slice u j y/\Qo wr (w.1.size+1) 3 1 u j y (Kw N j)/\NB wr w.1.size N.lvl A n c B m d/\Below w.1.size w wr) (λ_ i _=>m-(intOf i).toNat)
 case atStart=>exact⟨0,_,_,Nat.zero_le _,rfl,rfl,o1,N2,B2⟩
 case round=>
  obtain⟨j,u,y,hj,rfl,rfl,own,Q,G⟩:=hrel;have nn:=Q.c2;have hz:=Q.lt;by_cases M:j<m
  ·obtain⟨g,o,hA,hg,_,_,_,c3⟩:=(hK.below G).cell M;subst hA;obtain⟨a,ha⟩:∃a,(Qh N.kids j).a=a:=⟨_,rfl⟩;rw[ha] at c3;have b2:Below wr.1.size wr (wr.alloc (.cells #[.int .i64 a] 3)):=Qn;have e2:=qbh N j (by rw[a4.out];exact M);rw[ha] at e2;have E2:=Lib.hid e2;clear e2 ha;go_wp2_with (first
    |(at_builtin;refine q4b _ Fp rfl _ _ rfl (w.1.size+1) u j y (Kw N j) rfl (own.below b2) (some ⟨wr.1.size,0,none⟩) 1 1 [iv a] rfl (Oi wr a) (by omega) (qdf a) (by omega) (by omega) (by have:=b2.size;omega) ?_)
    |fail)
   intro A2 c7 w3 a0 b8;have a7:Below (w.1.size+1) wr w3:=(b2.mono (by omega)).trans b8;have b3:=Q.below a7 (by omega);have b6:=G.trans (a7.mono (by omega));rw[<-E2.out] at a0;go_wp2;exact⟨⟨j+1,_,_,by omega,by go_num,rfl,a0,b3,b6⟩,by simp[intOf];omega⟩
  ·obtain rfl:m=j:=by omega
   have Dn:Qo wr (w.1.size+1) 3 1 u m y (Jk N 0):=by rw[<-q8w,a4.out];exact own
   go_wp2_with fail
   go_loopw [3,5,6] (λl i _ wr=>∃(j q:Nat) (u:Option Addr) (y:Nat),j<=n/\q<=m+j/\i=.int .i64 (j:Int)/\l=.slice u q y/\Qo wr (w.1.size+1) 3 1 u q y (Jk N j)/\NB wr w.1.size N.lvl A n c B m d/\Below w.1.size w wr) (λ_ i _ _=>n-(intOf i).toNat)
   case atStart=>exact⟨0,m,_,_,Nat.zero_le _,by omega,rfl,rfl,Dn,Q,G⟩
   case round=>
    clear own Dn Q G nn hz;obtain⟨j,q,u,y,hj,hq,rfl,rfl,own,Q,G⟩:=hrel;have nn:=Q.c1;have hz:=Q.lt;by_cases M:j<n
    ·obtain⟨g,o,B',m',d',hA,hg,_,k1,_,c3,f⟩:=hI.cell M;subst hA;replace k1:=(G.cell (p:=⟨g,_,none⟩) hg).trans k1;replace c3:=(G.cell (p:=⟨g,_,none⟩) hg).trans c3;obtain⟨x,hx⟩:∃x,Qz N.items j=x:=⟨_,rfl⟩;rw[hx] at k1 f;have O:=Lib.hid f.len;have E:=λz h=>Lib.hid (qdg N j (by rw[a2.out];exact M) z (by rw[hx];exact h))
     have F:=λh=>Lib.hid (qhb N j (by rw[a2.out];exact M) (by rw[hx];exact h))
     clear hx;have fin:∀(w5:World) (l5:Value) (vv:Value),(∃(q5:Nat) (A5:Option Addr) (c5:Nat),q5<=m+(j+1)/\l5=.slice A5 q5 c5/\Qo w5 (w.1.size+1) 3 1 A5 q5 c5 (Jk N (j+1))/\NB w5 w.1.size N.lvl (some ⟨g,o,none⟩) n c B m d/\Below w.1.size w w5)->
       ∃(j' q:Nat) (u:Option Addr) (y:Nat),j'<=n/\q<=m+j'/\Value.int .i64 ((j:Int)+1)=.int .i64 (j':Int)/\l5=.slice u q y/\Qo w5 (w.1.size+1) 3 1 u q y (Jk N j')/\NB w5 w.1.size N.lvl (some ⟨g,o,none⟩) n c B m d/\Below w.1.size w w5:=λw5 l5 _ ⟨q5,A5,c5,h1,h2,h3,h4,h5⟩=>⟨j+1,q5,A5,c5,by omega,h1,by go_num,h2,h3,h4,h5⟩
     by_cases I:x.k.kind=3
     ·rw[I] at k1;by_cases h3:m'=3
      ·subst h3;obtain⟨D,rfl,U,v0⟩:=f.cell (k:=0) (by omega);obtain⟨b5,e',_,v1⟩:=f.cell (k:=1) (by omega);injection e' with e';subst e';obtain⟨b5,e',_,v2⟩:=f.cell (k:=2) (by omega);injection e' with e';subst e';have v0:wr.cell? D=some (.int .u8 (Yy x.v 0:Int)):=(G.cell (p:=D) U).trans v0;replace v1:=(G.cell (p:=D.add 1) (by rw[Nl];exact U)).trans v1;replace v2:=(G.cell (p:=D.add 2) (by rw[Nl];exact U)).trans v2;have c6:=f.cap;have l1:=q6m x.v 1;have l2:=q6m x.v 2;by_cases W:Yy x.v 0=1
       ·rw[W] at v0;have Z:=E (256*(Yy x.v 1:Int)+(Yy x.v 2:Int)) (by unfold Y4;rw[if_pos ⟨I,by rw[O.out],W⟩]);obtain⟨J,a8⟩:∃J,Yy x.v 1=J:=⟨_,rfl⟩;obtain⟨T,a9⟩:∃T,Yy x.v 2=T:=⟨_,rfl⟩;rw[a8] at v1 l1 Z;rw[a9] at v2 l2 Z;have c8:IntKind.i64.wrap (J:Int)=(J:Int):=IntWalk.i64_in _ (by omega);have c9:IntKind.i64.wrap (T:Int)=(T:Int):=IntWalk.i64_in _ (by omega);have d0:IntKind.i64.wrap (256*(J:Int))=256*(J:Int):=IntWalk.i64_in _ (by omega);have d1:IntKind.i64.wrap (256*(J:Int)+(T:Int))=256*(J:Int)+(T:Int):=IntWalk.i64_in _ (by omega);clear a8 a9 I W E F O f;go_wp2_with fail
        have hS:∀R:World,Below (w.1.size+1) wr R->R.cell? ⟨D.block,D.off+1,none⟩=some (.int .u8 (J:Int))/\R.cell? ⟨D.block,D.off+2,none⟩=some (.int .u8 (T:Int))/\Below (w.1.size+1) wr R:=
         λR hb=>⟨(hb.cell (p:=⟨D.block,D.off+1,none⟩) (by show D.block<_;omega)).trans v1,(hb.cell (p:=⟨D.block,D.off+2,none⟩) (by show D.block<_;omega)).trans v2,hb⟩
        have BD:Below (w.1.size+1) wr wr.drew:=(Below.refl _ wr).drew;have BA:∀ob,Below wr.1.size wr (wr.drew.alloc ob):=λob=>((Below.refl _ wr).drew).alloc (Nat.le_refl _) ob
        have Y:∀ob,Below (w.1.size+1) wr (wr.drew.alloc ob):=λob=>(BA ob).mono hz
        have a5:=Oi wr.drew (256*(J:Int)+(T:Int));have a6:=own.below (BA (.cells #[.int .i64 (256*(J:Int)+(T:Int))] 3));have zA:w.1.size+1<=(wr.drew.alloc (.cells #[.int .i64 (256*(J:Int)+(T:Int))] 3)).1.size:=Nat.le_trans (show w.1.size+1<=wr.1.size from hz) (Y _).size;go_region_held3 (λR=>R.cell? ⟨D.block,D.off+1,none⟩=some (.int .u8 (J:Int))/\R.cell? ⟨D.block,D.off+2,none⟩=some (.int .u8 (T:Int))/\Below (w.1.size+1) wr R)
         (first|assumption|exact hS _ BD|exact hS _ (Y _)|exact hS _ a3)
         (first
          |(refine qeb _ Fp rfl (.tmp 56) (.tmp 67) rfl (w.1.size+1) u q y (Jk N j) rfl a6 (some ⟨wr.1.size,0,none⟩) 1 1 [iv (256*(J:Int)+(T:Int))] rfl a5 (by omega) (qdf _) (by omega) (by omega) zA ?_;intro A5 c5 w5 a1 b9;have a3:Below (w.1.size+1) wr w5:=(Y _).trans b9)
          |fail)
        all_goals
         rw[<-Z.out] at a1;have b4:=Q.below a3 (by omega);have b7:=G.trans (a3.mono (by omega));clear hS BD BA Y a5 a6;go_wp2;exact⟨fin _ _ (.int .i64 0) ⟨q+1,A5,c5,by omega,rfl,a1,b4,b7⟩,by simp[intOf];omega⟩
       ·have Z:=F (by unfold Y4;rw[if_neg (λh=>W h.2.2)]);obtain⟨y0,X⟩:∃y0,Yy x.v 0=y0:=⟨_,rfl⟩;rw[X] at v0 W;have n1:((y0:Int)==1)=false:=by simp;omega
        have n2:decide ((y0:Int)=1)=false:=decide_eq_false (by omega);clear X I E F O f;go_wp2;exact⟨fin _ _ (.int .i64 0) ⟨q,u,y,by omega,rfl,by rw[Z.out];exact own,Q,G⟩,by simp[intOf];omega⟩
      ·have Z:=F (by unfold Y4;rw[if_neg (λh=>h3 (by rw[<-O.out];exact h.2.1))]);have n1:((m':Int)==3)=false:=by simp;omega
       have n2:decide ((m':Int)=3)=false:=decide_eq_false (by omega);clear I E F O f;go_wp2;exact⟨fin _ _ (.int .i64 0) ⟨q,u,y,by omega,rfl,by rw[Z.out];exact own,Q,G⟩,by simp[intOf];omega⟩
     ·have Z:=F (by unfold Y4;rw[if_neg (λh=>I h.1)]);obtain⟨y0,X⟩:∃y0,x.k.kind=y0:=⟨_,rfl⟩;rw[X] at k1 I;have n1:(y0==3)=false:=by simp;omega
      have n2:decide (y0=3)=false:=decide_eq_false (by omega);clear X E F O f;go_wp2;exact⟨fin _ _ (.int .i64 0) ⟨q,u,y,by omega,rfl,by rw[Z.out];exact own,Q,G⟩,by simp[intOf];omega⟩
    ·obtain rfl:n=j:=by omega
     have b0:Qo wr (w.1.size+1) 3 1 u q y (N.named.map iv):=by rw[<-q8x,a2.out];exact own
     go_wp2;go_ret;exact⟨_,_,_,rfl,b0.Kt (by omega),G⟩
theorem qil (K:Nat->List Int)(d:List Int)(most:Nat):Jv K d most (λ_=>0) d:=by
 refine⟨rfl,λa _ _=>?_⟩;have h:refs K most (λ_=>0) a=0:=q5v λb _=>by simp
 rw[h];omega
theorem qmz {K:Nat->List Int}{d:List Int}{most:Nat}{out:Nat->Nat}{x:Int}{todo:List Int}(H:Jv K d most out (x::todo))(m:x<=0\/(most:Int)<=x):Jv K d most out todo:=by
 refine⟨H.zero,λa h1 h2=>?_⟩;have h:=H.eq a h1 h2;rw[List.count_cons] at h;have f:¬(x==(a:Int))=true:=by
  intro e;have:=eq_of_beq e;omega
 rw[if_neg f] at h;omega
def bump (out:Nat->Nat)(n:Nat):Nat->Nat:=λb=>if b=n then out n+1 else out b
theorem qn0 {K:Nat->List Int}{d:List Int}{most:Nat}{out:Nat->Nat}{n:Nat}{todo:List Int}(H:Jv K d most out ((n:Int)::todo))(h0:0<n)(hn:n<most) :
  Jv K d most (bump out n) (todo++if out n=0 then K n else []):=by
 refine⟨by unfold bump;rw[if_neg (by omega)];exact H.zero,λa h1 h2=>?_⟩;have h:=H.eq a h1 h2;rw[List.count_cons] at h;have p:=q7m (f:=λb=>if 1<=out b then (K b).count (a:Int) else 0) (g:=λb=>if 1<=bump out n b then (K b).count (a:Int) else 0) (i:=n) (n:=most)
  (λb _ m=>by
   show (if 1<=out b then _ else _)=(if 1<=bump out n b then _ else _);have:bump out n b=out b:=by unfold bump;rw[if_neg m]
   rw[this]) hn
 have m:bump out n n=out n+1:=by unfold bump;rw[if_pos rfl]
 simp only[m] at p;rw[if_pos (show 1<=out n+1 by omega)] at p;have y:refs K most (bump out n) a=sumTo most λb=>if 1<=bump out n b then (K b).count (a:Int) else 0:=rfl
 have A:refs K most out a=sumTo most λb=>if 1<=out b then (K b).count (a:Int) else 0:=rfl
 rw[<-y,<-A] at p;rw[List.count_append];have B:(((if out n=0 then K n else []):List Int).count (a:Int))+(if 1<=out n then (K n).count (a:Int) else 0)=(K n).count (a:Int):=by
  by_cases h:out n=0
  ·rw[if_pos h,if_neg (by omega)];rfl
  ·rw[if_neg h,if_pos (by omega)];simp
 by_cases e:a=n
 ·subst e;rw[if_pos (by simp)] at h;rw[m];omega
 ·rw[if_neg (by intro u;have:=eq_of_beq u;omega)] at h;have:bump out n a=out a:=by unfold bump;rw[if_neg e]
  rw[this];omega
def unseen (most:Nat)(out:Nat->Nat):Nat:=sumTo most λb=>if out b=0 then 1 else 0
theorem qat {most:Nat}{out:Nat->Nat}{n:Nat}(hn:n<most):unseen most (bump out n)+(if out n=0 then 1 else 0)=unseen most out:=by
 have m:=q7m (f:=λb=>if out b=0 then 1 else 0) (g:=λb=>if bump out n b=0 then 1 else 0) (i:=n) (n:=most)
  (λb _ d=>by
   show (if out b=0 then _ else _)=(if bump out n b=0 then _ else _);have:bump out n b=out b:=by unfold bump;rw[if_neg d]
   rw[this]) hn
 have d:bump out n n=out n+1:=by unfold bump;rw[if_pos rfl]
 simp only[d] at m;unfold unseen;rw[if_neg (show ¬out n+1=0 by omega)] at m;omega
theorem qqh {K:Nat->List Int}{d:List Int}{most B:Nat}{N M:Nat->Nat}(Gx:Nat->Nat)(f:∀b a:Nat,b<most->(a:Int)∈K b->Gx a<Gx b)(A:∀b,Gx b<=B)(h0:N 0=M 0)
  (E:∀a:Nat,0<a->a<most->N a=d.count (a:Int)+refs K most N a) (D:∀a:Nat,0<a->a<most->M a=d.count (a:Int)+refs K most M a) :
  ∀L a,B-Gx a<=L->a<most->N a=M a:=by
 intro L;induction L using Nat.strongRecOn with
 |ind L ih=>
  intro a G m;by_cases F:a=0
  ·rw[F];exact h0
  ·rw[E a (by omega) m,D a (by omega) m];congr 1
   refine q1t λb p=>?_
   by_cases u:(a:Int)∈K b
   ·have h1:=f b a p u;have h2:=A b;have y:=ih (B-Gx b) (by omega) b (Nat.le_refl _) p;rw[y]
   ·have:(K b).count (a:Int)=0:=List.count_eq_zero.2 u;rw[this];simp
section
variable {n:Nat}{cnt:Nat->Nat}{K:Nat->List Int}{H:List Int}
end
theorem qg9 {n B:Nat}{cnt N:Nat->Nat}{K f:Nat->List Int}{H d:List Int}(h:Jz n cnt K H)(Gx:Nat->Nat)(u:∀b a:Nat,b<n->1<=cnt b->(a:Int)∈K b->Gx a<Gx b)(E:∀b,Gx b<=B)(h0:cnt 0=0)
  (G:∀a:Nat,0<a->a<n->d.count (a:Int)=H.count (a:Int)) (m:∀b,b<n->1<=cnt b->f b=K b) (y:∀b,b<n->cnt b=0->f b=[]) (D:Jv f d n N []):∀a,a<n->N a=cnt a:=by
 intro a I;have F:∀a:Nat,0<a->a<n->cnt a=d.count (a:Int)+refs f n cnt a:=λa h1 h2=>by
  rw[G a h1 h2,h.eq a h1 h2];congr 1
  exact (q5w λb p=>⟨Iff.rfl,m b p⟩).symm
 have A:∀a:Nat,0<a->a<n->N a=d.count (a:Int)+refs f n N a:=λa h1 h2=>by
  have:=D.eq a h1 h2;rw[List.count_nil] at this;omega
 exact qqh Gx (λb a p hm=>by
  by_cases e:1<=cnt b
  ·rw[m b p e] at hm;exact u b a p e hm
  ·rw[y b p (by omega)] at hm
   cases hm) E (D.zero.trans h0.symm) A F (B-Gx a) a (Nat.le_refl _) I
theorem qim {K:Nat->List Int}{d:List Int}{most k:Nat}{out:Nat->Nat}{todo:List Int}(H:Jv K d most out todo)(f:∀b,b<most->(K b).length<=k){a:Nat}(m:a<most):out a<=d.length+k*most:=by
 by_cases h0:a=0
 ·subst h0;rw[H.zero];exact Nat.zero_le _
 ·have h1:=H.eq a (by omega) m;have h2:d.count (a:Int)<=d.length:=List.count_le_length;have p:=qdh (out:=out) f a;omega
theorem qqi (most:Nat)(out:Nat->Nat):unseen most out<=most:=by
 have:=q6j (n:=most) (f:=λb=>if out b=0 then 1 else 0) (k:=1) (λb _=>by
  show (if out b=0 then 1 else 0)<=1;by_cases e:out b=0
  ·rw[if_pos e];exact Nat.le_refl _
  ·rw[if_neg e];exact Nat.zero_le _)
 unfold unseen;omega
theorem qga {most:Nat}{out d:Nat->Nat}(h:∀b,b<most->d b=out b):unseen most d=unseen most out:=q1t λb f=>by rw[h b f]
theorem qin {K:Nat->List Int}{most k n:Nat}{out:Nat->Nat}{todo:List Int}(hn:n<most)(d:(K n).length<=k) :
  (todo++if out n=0 then K n else []).length+k*unseen most (bump out n)<=todo.length+k*unseen most out:=by
 have h:=qat (out:=out) hn;rw[List.length_append];by_cases e:out n=0
 ·rw[if_pos e] at h ⊢;rw[<-h,Nat.mul_add];omega
 ·rw[if_neg e] at h ⊢;rw[<-h,Nat.add_zero,List.length_nil];omega
theorem Jv.same {K:Nat->List Int}{roots:List Int}{most:Nat}{out out':Nat->Nat}{todo:List Int}(H:Jv K roots most out todo)(hm:0<most)(h:∀b,b<most->out' b=out b):Jv K roots most out' todo:=by
 refine⟨by rw[h 0 hm];exact H.zero,λa h1 h2=>?_⟩;rw[h a h2,H.eq a h1 h2];congr 1
 exact q1t λb d=>by rw[h b d]
