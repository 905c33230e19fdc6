/- The laws of dir: a tree that has just three directories -/
import Derived.Test.YtnjacafcocnicaaGreatDoorDv32
import Derived.Test.YtnjacafcocnicaaGreatDoorDv40
namespace Go.Proofs.YtnjacafcocnicaaGreatDoor
open Go Go.RowKit Go.Proofs Tryz
set_option maxHeartbeats 16000000
set_option maxRecDepth 100000
def tri (L:Nat->List De):List Qc:=Qe 1 (L 0)++(Qe 2 (L 1)++(Qe 3 (L 2)++[]))
def Bz (L:Nat->List De)(d:Nat)(r:List De):Nat->List De:=λj=>if j=d then r else L j
theorem q52 (L:Nat->List De)(d:Nat)(r:List De):Bz L d r d=r:=AA rfl
theorem q3c {L:Nat->List De}{d j:Nat}(r:List De)(h:j≠d):Bz L d r j=L j:=AB h
theorem q6l (L:Nat->List De):(tri L).length=(L 0).length+((L 1).length+(L 2).length):=by simp[tri,Ny]
theorem qke {i:Int}(hi:0<=i/\i<=2147483647):Ctx i [] []:=⟨hi,λ_ h=>absurd h List.not_mem_nil,λ_ h=>absurd h List.not_mem_nil,List.Pairwise.nil,List.Pairwise.nil,λ_ h=>absurd h List.not_mem_nil,λ_ h=>absurd h List.not_mem_nil⟩
theorem Ctx.ahead {i k:Int}{A C:List Qc}(X:Ctx i A C){L:List De}{lim:Int}(h:Ji L lim)(hl:lim<=2147483648)(hk:i<k)(hk2:k<=2147483647)(hC:C=[]):Ctx k (A++Qe i L) []:=by
 subst hC;have h1:=X.Qo h;have h2:=X.fine h hl;rw[BM] at h1 h2;refine⟨⟨by have:=X.one;omega,hk2⟩,λx e=>?_,λ_ h=>absurd h List.not_mem_nil,h1,List.Pairwise.nil,h2,λ_ h=>absurd h List.not_mem_nil⟩;rcases List.mem_append.1 e with e|e
 ·have:=X.lo x e;omega
 ·obtain⟨y,_,rfl⟩:=q28 e;show i<k;exact hk
theorem Ctx.behind {i k:Int}{A C:List Qc}(X:Ctx k [] C){L:List De}{lim:Int}(h:Ji L lim)(hl:lim<=2147483648)(hk:i<k)(hk2:0<=i)(hA:A=[]):Ctx i A (Qe k L++C):=by
 subst hA;have h1:=X.Qo h;have h2:=X.fine h hl;refine⟨⟨hk2,by have:=X.one;omega⟩,λ_ h=>absurd h List.not_mem_nil,λx e=>?_,List.Pairwise.nil,h1,λ_ h=>absurd h List.not_mem_nil,h2⟩;rcases List.mem_append.1 e with e|e
 ·obtain⟨y,_,rfl⟩:=q28 e;show i<k;exact hk
 ·have:=X.hi x e;omega
theorem qAw {L:Nat->List De}{lim:Int}(h:∀j,j<3->Ji (L j) lim)(e:lim<=2147483648){d:Nat}(hd:d<3):∃A C,Ctx ((d:Int)+1) A C/\∀r,tri (Bz L d r)=A++(Qe ((d:Int)+1) r++C):=by
 have c3:Ctx 3 [] []:=qke ⟨by omega,by omega⟩;have c1:Ctx 1 [] []:=qke ⟨by omega,by omega⟩;have h0:=h 0 (by omega);have h1:=h 1 (by omega);have h2:=h 2 (by omega);rcases (show d=0\/d=1\/d=2 by omega) with rfl|rfl|rfl
 ·have c2:Ctx 2 [] (Qe 3 (L 2)++[]):=c3.behind h2 e (by omega) (by omega) rfl;exact⟨[],Qe 2 (L 1)++(Qe 3 (L 2)++[]),c2.behind h1 e (by omega) (by omega) rfl,λr=>rfl⟩
 ·have c2:Ctx 2 [] (Qe 3 (L 2)++[]):=c3.behind h2 e (by omega) (by omega) rfl;have c4:Ctx 2 ([]++Qe 1 (L 0)) []:=c1.ahead h0 e (by omega) (by omega) rfl;exact⟨Qe 1 (L 0),Qe 3 (L 2)++[],⟨⟨by omega,by omega⟩,c4.lo,c2.hi,c4.ra,c2.rc,c4.fa,c2.fc⟩,λr=>rfl⟩
 ·have c4:Ctx 2 ([]++Qe 1 (L 0)) []:=c1.ahead h0 e (by omega) (by omega) rfl;have c5:Ctx 3 (([]++Qe 1 (L 0))++Qe 2 (L 1)) []:=c4.ahead h1 e (by omega) (by omega) rfl;refine⟨Qe 1 (L 0)++Qe 2 (L 1),[],c5,λr=>?_⟩;show Qe 1 (L 0)++(Qe 2 (L 1)++(Qe 3 r++[]))=_;rw[AM];rfl
theorem qi7 (L:Nat->List De)(d:Nat):Bz L d (L d)=L:=funext λj=>by
 unfold Bz;split
 ·next h=>rw[h]
 ·rfl
theorem qi8 {R:Int->Nd × Int}(i o:Int)(v:LU):Dat R ⟨⟨i,2,o⟩,v⟩:=λc e=>by
 have:Vz ⟨⟨i,2,o⟩,v⟩=none:=AB λh=>by have:=h.1;simp at this
 rw[this] at e
 cases e
theorem qi9 (i o:Int)(v:LU):nmI ⟨⟨i,2,o⟩,v⟩=[]:=by
 have:Vz ⟨⟨i,2,o⟩,v⟩=none:=AB λh=>by have:=h.1;simp at this
 unfold nmI;rw[this];rfl
section
variable {b:Nat}{w w':WD}{d p:Nat}{U:NP}{D:DM}{P:Pl}{m:Nat}{g:Int}{root:Int}{its:List Qc}
theorem Ed.Qau (E:Ed b w d p U D P (Ul root++[]) m g)(hT:Jg (P.store D) root its):P.C.used<=2*its.length/\P.C.n<=P.C.free+(P.C.first+P.C.kept+2*its.length):=by
 obtain⟨F,B,K⟩:=E.keep;have h2:=qsh P.C;have y:P.C.used<=2*its.length:=by
  rcases hT with⟨rfl,rfl⟩|⟨l,h0,u,_⟩
  ·have h1:=K.used (L:=[]) (X:=[]) (λx q=>absurd q List.not_mem_nil) (λa f=>absurd (show a∈([]:LI) from f) List.not_mem_nil) (λa f=>absurd f List.not_mem_nil);simpa using h1
  ·have e:Ul root=[root]:=AB (by omega);rw[e] at K;have h1:=K.used (L:=[(l,root,its)]) (X:=[]) (λx q=>by
    obtain rfl:=List.mem_singleton.1 q;exact q4y.2 u) (λa f=>by
    obtain rfl:=List.mem_singleton.1 (show a∈[root] from f);exact .inl ⟨_,List.mem_singleton.2 rfl,rfl⟩) (λa f=>absurd f List.not_mem_nil)
   have G:=List.length_filterMap_le Vz its;simp at h1;omega
 exact⟨y,by omega⟩
structure Aj (b:Nat)(w:WD)(d p:Nat)(U:NP)(D:DM)(P:Pl)(root:Int)(L:Nat->List De)(lim:Nat)(m:Nat)(g:Int):Prop where
 ed:Ed b w d p U D P (Ul root++[]) m g
 tree:Jg (P.store D) root (tri L)
 rows:∀j,j<3->Ji (L j) (lim:Int)
 few:(tri L).length<=lim
 n:P.C.n=512
 kept:P.C.kept<=2*lim
theorem Aj.below {L:Nat->List De}{lim:Nat}(h:Aj b w d p U D P root L lim m g)(hb:Below w.1.size w w'):Aj b w' d p U D P root L lim m g:=
 ⟨h.ed.below hb,h.tree,h.rows,h.few,h.n,h.kept⟩
theorem Aj.wider {L:Nat->List De}{lim l2:Nat}(h:Aj b w d p U D P root L lim m g)(hl:lim<=l2):Aj b w d p U D P root L l2 m g:=
 ⟨h.ed,h.tree,λj e=>(h.rows j e).wider (by omega),AZ h.few hl,h.n,by have:=h.kept;omega⟩
theorem qtc {C:Ct}(h:C.n=512):C.first<=20:=by
 unfold Ct.first
 rw[h];decide
theorem Aj.free {L:Nat->List De}{lim:Nat}(h:Aj b w d p U D P root L lim m g)(hl:lim<=80):17<=P.C.free:=by
 have h1:=(h.ed.Qau h.tree).2;have h2:=qtc h.n;have:=h.few;have:=h.kept;have:=h.n;omega
theorem Aj.change {L:Nat->List De}{lim:Nat}{P':Pl}{r:Int}(h:Aj b w d p U D P root L lim m g){k:Nat}(hk:k<3){row:List De}(hr:Ji row ((lim:Int)+1))(hl:row.length<=(L k).length+1){its':List Qc}(N:G8 b w w' d p U D P P' r [] its' m g)(hi:its'=tri (Bz L k row)):Aj b w' d p U D P' r (Bz L k row) (lim+1) m g:=by
 subst hi;refine⟨N.ed,N.tree,λj f=>?_,?_,N.n.trans h.n,by rw[qi5 N.like N.n];have:=h.kept;omega⟩
 ·by_cases e:j=k
  ·subst e;rw[q52];exact hr
  ·rw[q3c _ e];exact (h.rows j f).wider (by omega)
 ·have h1:=h.few;rw[q6l] at h1 ⊢;rcases (show k=0\/k=1\/k=2 by omega) with rfl|rfl|rfl
  ·rw[q52,q3c _ (by omega),q3c _ (by omega)];omega
  ·rw[q52,q3c _ (by omega),q3c _ (by omega)];omega
  ·rw[q52,q3c _ (by omega),q3c _ (by omega)];omega
end
theorem q8l (n:Nat)(hn:Qb n)(w:WD)(X:Tab w) :
  Calls prog 6 #[.int .i64 n] w λe w'=>∃p d U D,e=.returned (.pointer (some ⟨p,0,none⟩))/\Ed w.1.size w' d p U D (Pl.fresh n) [] 100 2/\Below w.1.size w w'/\(∀k,U k->w.1.size<=k):=by
 have hG:=X.1;have h1:32<=n:=hn.1;have h2:n<=2048:=hn.2;go_enter func6,ntmps6
 go_wp2_with fail
 refine (qzn n hn w).mono ?_;rintro e w1 ⟨d,rfl,W,H⟩;have Y:=X.below H hG;go_wp2_with fail
 refine (qjm W ⟨rfl,rfl⟩ (by omega) Y (qlr n) (by omega)).mono ?_;rintro e J ⟨p,q,rfl,u⟩;have G:(DM.mk0 n).n=n:=rfl;rw[G] at u;have y:=(q3j (Yp n) (qlr n)).mono (m':=100) (by have:=qC9 (n:=n) h2;omega);have I:=qor h1 h2;obtain⟨R,E⟩:∃D,(DM.mk0 n).Qj (Yp n)=D:=⟨_,rfl⟩;rw[E] at u y I;obtain⟨P,M⟩:∃P,Pl.fresh n=P:=⟨_,rfl⟩;have hg:P.S.gen=1:=by rw[<-M];rfl
 rw[M] at u I;have B:=qC8 (b:=w.1.size) u (λk f=>f) H.size;have t2:=Y.turned u.turn (by omega);have z1:=H.size;have K:Below w.1.size w J:=H.trans (u.turn.below (λk f=>f) z1);obtain⟨S0,S,B⟩:=B;obtain⟨T,O⟩:∃T:NP,(λk=>w.1.size<=k/\k<J.1.size)=T:=⟨_,rfl⟩;have F:∀k,T k->w.1.size<=k/\k<J.1.size:=λk f=>by rw[<-O] at f;exact f
 rw[O] at B;have Z:Ed w.1.size J d p T R P [] 100 2:=⟨⟨S0,S,T,B,B.sub,B.Dz⟩,F,t2,⟨_,_,I⟩,y,by omega⟩;clear u W O E I y G;go_wp2_with fail
 go_ret;exact⟨p,d,T,R,rfl,M▸Z,K,λk f=>(F k f).1⟩
theorem qdv (x:Int)(m:Nat)(q:-9223372036854775808<=x/\x<=9223372036854775807)(f:0<m)(B:m<=1000000)(w:WD) :
  Calls prog 16 #[.int .i64 x,.int .i64 (m:Int)] w λe w'=>e=.returned (.int .i64 (md x m:Int))/\w=w':=by
 obtain⟨u,y⟩:=q;go_enter func16,ntmps16
 have hn:¬((m:Int)=0):=by omega
 by_cases h0:x<0
 ·have hm:=qCl m h0 (by omega);go_wp2;go_ret;exact⟨qa6 (by first|exact hm|simp),rfl⟩
 ·have hm:=qCk m (show 0<=x by omega) (by omega);go_wp2;go_ret;exact⟨qa6 (by first|exact hm|simp),rfl⟩
theorem qmx (n:Nat):(Pl.fresh n).C.n=n:=Ct.Zd n
theorem qxe {b:Nat}{w:WD}{d p:Nat}{U:NP}{D:DM}{m:Nat}{g:Int}(E:Ed b w d p U D (Pl.fresh 512) [] m g):Aj b w d p U D (Pl.fresh 512) 0 (λ_=>[]) 0 m g:=
 ⟨E,.inl ⟨rfl,rfl⟩,λ_ _=>qmd _,AE _,qmx 512,by rw[show (Pl.fresh 512).C.kept=0 from qi6 512];exact AE _⟩
theorem qfg {w:WD}{b:Nat}{x y z:Int}(H:IB w b [.int .i64 x,.int .i64 y,.int .i64 z]):(loadVar 45 ⟨b,0,none⟩).run prog w=.ok (.agg #[.int .i64 x,.int .i64 y,.int .i64 z]) w:=
 run_loadVar_mid w b 0 45 _ _ H.range underlying45 rfl (by kernel_rfl)
theorem qfh (a b:Int)(w:WD):Calls prog 42 #[.int .i64 a,.int .i64 b] w λe w'=>e=.returned (.agg #[.int .i64 a,.int .i64 2,.int .i64 b])/\Below w.1.size w w':=by
 go_enter func42,ntmps42
 go_wp2;exact bodyPost_ret (qz4 Tryz.results42 rfl (qfg (IB.new w [.int .i64 a,.int .i64 2,.int .i64 b] 45))) rfl ⟨rfl,Qi⟩
structure Qa4 (f:Nat)(cap:Array Value)(i:Int)(Inv:List De->(NP)->WD->Prop):Prop where
 ent:∀(args:Array Value) (w:WD),(callFunc f args).run prog w=.ok (.enter f args) w
 keep:∀{L T w w'},Inv L T w->Below w.heap.size w w'->Inv L T w'
 call:∀{L T w} (x:De),Inv L T w->L.length<=1000->0<=x.1/\x.1<2147483648->
  Calls prog f (#[.agg #[.int .i64 i,.int .i64 2,.int .i64 x.1],.agg #[.string x.2.name,.int .i64 x.2.ino,.int .i64 x.2.kind]]++cap) w λe w'=>e=.returned (.tuple #[])/\∃T',Inv (L++[x]) T' w'/\Turn T w w'/\∀k,T' k->T k\/w.heap.size<=k
def Ap (L:List De)(j:Nat):De:=L.getD j (0,Qm.zero)
theorem q7f {L:List De}{j:Nat}(h:j<L.length):L[j]?=some (Ap L j):=by unfold Ap;simp[List.getD,h]
theorem qfi {L:List De}{j:Nat}(h:j<L.length):Ap L j∈L:=List.mem_of_getElem? (q7f h)
theorem qAx {L:List De}{j:Nat}(h:j<L.length):L.take (j+1)=L.take j++[Ap L j]:=by
 rw[List.take_add_one,q7f h];rfl
theorem qAy {L:List De}{i:Int}{j:Nat}(h:j<L.length):Zc (Qe i L) j=X0 i (Ap L j):=by
 have h1:(Qe i L)[j]?=some (X0 i (Ap L j)):=by unfold Qe;rw[BA,q7f h];rfl
 have h2:=q22 (xs:=Qe i L) (by rw[Ny];exact h);rw[h1] at h2;exact (OI h2).symm
theorem qbm {w:WD}{p:Nat}{R:Int->Nd × Int}{root i:Int}{A C:List Qc}{L:List De}{lim:Int}{f:Nat}{cap:Array Value}{E:List De->(NP)->WD->Prop}{T0:NP}
  (T:Told w p R root (A++(Qe i L++C))) (ht:Tab w) (X:Ctx i A C) (hD:Ji L lim) (hl:lim<=2147483648) (V:Qa4 f cap i E) (hI:E [] T0 w) (b5:∀k,T0 k->k<w.1.size) :
  Calls prog 26 #[.pointer (some ⟨p,0,none⟩),.int .i64 root,.int .i64 i,.func (.func f) #[] cap] w λe w'=>e=.returned (.int .i64 0)/\∃T,E L T w'/\Turn T0 w w'/\∀k,T k->T0 k\/w.1.size<=k:=by
 have a7:=T.len;have c9:L.length<=1000:=by rw[AD,AD,Ny] at a7;omega
 have V':=HI V;have c8:=V.ent;have HX:=HI X;have HT:=HI T;clear V T X;go_enter func26,ntmps26
 go_wp2_with fail
 refine (qfh i 0 w).mono ?_;rintro e wa ⟨rfl,ba⟩;go_wp2_with fail
 refine (qfh i 2147483647 wa).mono ?_;rintro e wb ⟨rfl,bb⟩;have bw:Below w.1.size w wb:=ba.trans (bb.mono ba.size);have tb:=ht.below bw ht.1;have a8:=(HT.out.below bw).Ri tb ⟨i,2,0⟩ ⟨i,2,2147483647⟩ 2147483647 (Qe i L) (by rw[HX.out.within hD hl];exact AN (by rw[Ny];have:(2147483647:Int).toNat=2147483647:=rfl;omega));go_wp2_with fail
 refine a8.mono ?_;rintro e w1 ⟨A1,n1,c1,rfl,y,a2⟩;have c6:=bw.size;have K:Below w.1.size w w1:=bw.trans (a2.mono c6);have hn:=y.Y3.len;rw[Ny] at hn;obtain⟨c7,b8⟩:=y.Y3.bounds;unfold maxLen at b8;have b2:=V'.out.keep hI K;clear hI a8 tb ba bb bw a2;go_wp2_with fail
 go_loopw [30] (λs wr=>∃(j:Nat) (T:NP),j<=n1/\s=.int .i64 (j:Int)/\E (L.take j) T wr/\Turn T0 w1 wr/\∀k,T k->T0 k\/w1.1.size<=k) (λs _=>n1-(intOf s).toNat)
 case atStart=>exact⟨0,T0,AW _,rfl,b2,Turn.refl _ _,λk u=>.inl u⟩
 case round=>
  obtain⟨j,T,hj,rfl,F,hX,J⟩:=hrel;by_cases b7:j<n1
  ·have G:j<L.length:=by omega
   have B:=y.low hX (λk u=>by have:=b5 k u;omega);obtain⟨gb,o,W,O,Z,rfl,hg,x0,x1,x2,x3,Y⟩:=B.Y3.cell b7;rw[qAy G] at x0 x1 x2 Y;have b1:=hD.low _ (qfi G);have q:=hD.may _ (qfi G);have b0:=qAx G;obtain⟨x,hx⟩:∃x,Ap L j=x:=⟨_,rfl⟩;rw[hx] at x0 x1 x2 Y b1 q b0;change wr.cell? ⟨gb,o+j*4,none⟩=some (.int .i64 i) at x0;change wr.cell? ⟨gb,o+j*4+1,none⟩=some (.int .i64 2) at x1;change wr.cell? ⟨gb,o+j*4+2,none⟩=some (.int .i64 x.1) at x2;change Sl wr W O Z x.2.bytes at Y;have b9:O<=1000000:=by have:=Y.len;rw[q8q] at this;have h2:=(Bool.and_eq_true_iff.1 q).1;have h3:=AK h2;omega
   obtain⟨a6,H⟩:=qfr x.2 q;have e0:(0:Int)<=(j:Int):=by omega
   have e1:(j:Int)<(n1:Int):=by omega
   have a1:=HI F;clear F B hx q;have bx:Below wr.1.size wr (wr.alloc (.cells #[.int .i64 i,.int .i64 2,.int .i64 x.1,.slice W O Z] 50)):=Qi;have M:=Y.below bx;have Kx:IB (wr.alloc (.cells #[.int .i64 i,.int .i64 2,.int .i64 x.1,.slice W O Z] 50)) wr.1.size [.int .i64 i,.int .i64 2,.int .i64 x.1,.slice W O Z]:=IB.new wr _ _;go_wp2_with fail
   generalize wr.alloc (.cells #[.int .i64 i,.int .i64 2,.int .i64 x.1,.slice W O Z] 50)=wx at bx M Kx ⊢;refine (qby W O Z x.2.bytes wx M b9).mono ?_;rw[(q5w H).1,(q5w H).2,a6];rintro e w3 ⟨rfl,b3⟩;have K3:=Kx.below b3 Kx.lt;have z3:=K3.lt;have k0:=K3.cell 0 rfl;have k1:=K3.cell 1 rfl;have k2:=K3.cell 2 rfl;clear x0 x1 x2 x3 Y M Kx;have b4:Below w3.1.size w3 (w3.alloc (.cells #[.string x.2.name,.int .i64 x.2.ino,.int .i64 x.2.kind] 32)):=Qi;go_wp2_with fail
   generalize w3.alloc (.cells #[.string x.2.name,.int .i64 x.2.ino,.int .i64 x.2.kind] 32)=w4 at b4 ⊢;have I:Below wr.1.size wr w4:=bx.trans ((b3.mono bx.size).trans (b4.mono (AZ bx.size b3.size)));have z4:=I.size;refine (V'.out.call x (V'.out.keep a1.out I) (by rw[AR];omega) ⟨b1.1,by omega⟩).mono ?_;rintro e w5 ⟨rfl,T5,I5,X5,b6⟩;clear k0 k1 k2 a1;go_wp2_with fail
   refine⟨⟨j+1,T5,by omega,rfl,by rw[b0];exact I5,?_,?_⟩,by simp[intOf];omega⟩
   ·exact (hX.trans (Qz (S:=T0) I) λ_ h=>.inl h).trans X5 λk u=>J k u
   ·intro k u;rcases b6 k u with h|h
    ·exact J k h
    ·have:=hX.size;exact .inr (by omega)
  ·obtain rfl:j=n1:=by omega
   have e1:¬(j:Int)<(j:Int):=by omega
   go_wp2_with fail
   go_ret;refine⟨rfl,T,?_,?_,?_⟩
   ·rw[AN (by omega)] at F;exact F
   ·exact (Qz K).trans hX λk u=>.inl u
   ·exact λk u=>(J k u).imp id λh=>by have:=K.size;omega
theorem qfj (w:WD)(r s:LV)(t u:TypeId):IB ((w.alloc (.cells r.toArray t)).alloc (.cells s.toArray u)) w.1.size r/\IB ((w.alloc (.cells r.toArray t)).alloc (.cells s.toArray u)) (w.1.size+1) s/\Below w.1.size w ((w.alloc (.cells r.toArray t)).alloc (.cells s.toArray u))/\((w.alloc (.cells r.toArray t)).alloc (.cells s.toArray u)).1.size=w.1.size+2:=by
 have b:Below (w.alloc (.cells r.toArray t)).1.size (w.alloc (.cells r.toArray t)) ((w.alloc (.cells r.toArray t)).alloc (.cells s.toArray u)):=Qi;have h1:IB (w.alloc (.cells r.toArray t)) w.1.size r:=IB.new w r t;have h2:IB ((w.alloc (.cells r.toArray t)).alloc (.cells s.toArray u)) (w.alloc (.cells r.toArray t)).1.size s:=IB.new _ s u;have e:(w.alloc (.cells r.toArray t)).1.size=w.1.size+1:=by simp
 have f:Below w.1.size w (w.alloc (.cells r.toArray t)):=Qi;exact⟨h1.below b h1.lt,by rw[<-e];exact h2,f.trans (b.mono f.size),by simp⟩
theorem qp9 {i:Int}{x:De}{n:ByteArray}{nb f y q:Nat}{w:WD}{a1 a2 a3 k1 k2 k3:Value}{v:Bool}(N:IB w nb [.string n])(F:IB w f [a1,a2,a3])(K:IB w y [k1,k2,k3])(I:IB w q [.bool v])(h1:f≠y)(h2:f≠q)(h3:y≠q) :
  Calls prog 85 #[.agg #[.int .i64 i,.int .i64 2,.int .i64 x.1],.agg #[.string x.2.name,.int .i64 x.2.ino,.int .i64 x.2.kind],.pointer (some ⟨nb,0,none⟩),.pointer (some ⟨f,0,none⟩),.pointer (some ⟨y,0,none⟩),.pointer (some ⟨q,0,none⟩)] w λe w'=>e=.returned (.tuple #[])/\
   (eqS x.2.name n=true->IB w' f x.2.vs/\IB w' y [.int .i64 i,.int .i64 2,.int .i64 x.1]/\IB w' q [.bool true]/\Turn (λk=>k=f\/k=y\/k=q) w w')/\(eqS x.2.name n=false->Below w.1.size w w'):=by
 obtain⟨B1,B2,b2,z2⟩:=qfj w [.int .i64 i,.int .i64 2,.int .i64 x.1] x.2.vs 45 32;have n0:=N.cell 0 rfl;have l0:=N.lt;have l1:=F.lt;have l2:=K.lt;have l3:=I.lt;have f0:=F.cell 0 rfl;have f1:=F.cell 1 rfl;have f2:=F.cell 2 rfl;have g0:=K.cell 0 rfl;have g1:=K.cell 1 rfl;have g2:=K.cell 2 rfl;have i0:=I.cell 0 rfl;have a6:=F.fz 0;have a7:=F.fz 1;have a8:=F.fz 2;have b0:=K.fz 0;have b1:=K.fz 1;have b3:=K.fz 2;have b4:=I.fz 0
 cases he:eqS x.2.name n with
 |false=>
  have hq:(x.2.name.toList==n.toList)=false:=he;go_enter func85,ntmps85
  go_wp2_with fail
  go_end0
  exact⟨rfl,nofun,λ_=>b2⟩
 |true=>
  obtain rfl:=(Nz _ _).1 he;go_enter func85,ntmps85
  go_wp2_with fail
  go_region
  obtain⟨E,O⟩:∃u,w.setCells f 0 x.2.vs=u:=⟨_,rfl⟩;obtain⟨G,R⟩:∃u,E.setCells y 0 [.int .i64 i,.int .i64 2,.int .i64 x.1]=u:=⟨_,rfl⟩;obtain⟨B,T⟩:∃u,G.setCells q 0 [.bool true]=u:=⟨_,rfl⟩;have W:Turn (λk=>k=f) w E:=O▸Vp (S:=λk=>k=f) rfl _ 0 w;have Z:IB E f x.2.vs:=O▸F.all _ rfl;have KA:IB E y [k1,k2,k3]:=K.keep (W.block y l2 λh=>h1 h.symm);have IA:IB E q [.bool v]:=I.keep (W.block q l3 λh=>h2 h.symm);have X:Turn (λk=>k=y) E G:=R▸Vp (S:=λk=>k=y) rfl _ 0 E;have H:IB G y [.int .i64 i,.int .i64 2,.int .i64 x.1]:=R▸KA.all _ rfl;have FB:IB G f x.2.vs:=Z.keep (X.block f Z.lt λh=>h1 h);have M:IB G q [.bool v]:=IA.keep (X.block q IA.lt λh=>h3 h.symm);have Y:Turn (λk=>k=q) G B:=T▸Vp (S:=λk=>k=q) rfl _ 0 G;have IC:IB B q [.bool true]:=T▸M.all _ rfl;have FC:IB B f x.2.vs:=FB.keep (Y.block f FB.lt λh=>h2 h);have KC:IB B y [.int .i64 i,.int .i64 2,.int .i64 x.1]:=H.keep (Y.block y H.lt λh=>h3 h);have J:Below B.1.size B ((B.alloc (.cells #[.int .i64 i,.int .i64 2,.int .i64 x.1] 45)).alloc (.cells #[.string x.2.name,.int .i64 x.2.ino,.int .i64 x.2.kind] 32)).drew:=((Qi).alloc (by simp) _).drew;have tw:Turn (λk=>k=f\/k=y\/k=q) w B:=((W.mono λk h=>.inl h).trans X λk h=>.inl (.inr (.inl h))).trans Y λk h=>.inl (.inr (.inr h))
  subst T R O;go_end0
  exact⟨rfl,λ_=>⟨FC.below J FC.lt,KC.below J KC.lt,IC.below J IC.lt,tw.trans (Qz J) λ_ h=>.inl h⟩,nofun⟩
def allocs (w:WD):List (LV × TypeId)->WD
 |[]=>w
 |r::l=>allocs (w.alloc (.cells r.1.toArray r.2)) l
theorem q6m:∀(l:List (LV × TypeId)) (w:WD),Below w.1.size w (allocs w l)/\(allocs w l).1.size=w.1.size+l.length/\∀j r,l[j]?=some r->IB (allocs w l) (w.1.size+j) r.1
 |[],w=>⟨AI _ _,rfl,λj r h=>by simp at h⟩
 |x::l,w=>by
  obtain⟨h1,h2,q⟩:=q6m l (w.alloc (.cells x.1.toArray x.2));have b:Below w.1.size w (w.alloc (.cells x.1.toArray x.2)):=Qi;have e:(w.alloc (.cells x.1.toArray x.2)).1.size=w.1.size+1:=by simp
  refine⟨b.trans (h1.mono b.size),by show (allocs (w.alloc _) l).1.size=_;rw[h2,e,AX];omega,λj r f=>?_⟩
  cases j with
  |zero=>
   rw[List.getElem?_cons_zero] at f;obtain rfl:=OI f;exact (IB.new w x.1 x.2).below h1 (IB.new w x.1 x.2).lt
  |succ j=>
   rw[List.getElem?_cons_succ] at f;have:=q j r f;rw[e,show w.1.size+1+j=w.1.size+(j+1) by omega] at this;exact this
theorem qz1 {F:Func}{p q a:Tmp}{ty u:TypeId}{y B:Addr}{v E:Value}{P:Program}{w:WD}{f:Array Value}(h:F.results=#[.cell p ty,.cell q u,.tmp a])(J:f.getD p undef=.pointer (some y))(I:(loadVar ty y).run P w=.ok v w)(H:f.getD q undef=.pointer (some B))(G:(loadVar u B).run P w=.ok E w) :
  (results F f).run P w=.ok (.tuple #[v,E,f.getD a undef]) w:=by
 have e:(results F f).run P w=((asAddr (f.getD p undef)).run P w).andThen λy K=>((loadVar ty y).run P K).andThen λv M=>((asAddr (f.getD q undef)).run P M).andThen λy O=>((loadVar u y).run P O).andThen λE R=>.ok (.tuple #[v,E,f.getD a undef]) R:=by
  simp only[results,h];simp[Sem.run_bind,Result.andThen]
 rw[e,J,H];simp[asAddr,I,G]
def kE (F:Option De):Qm:=match F with
 |some x=>x.2
 |none=>Qm.zero
def kK (i:Int)(F:Option De):LV:=match F with
 |some x=>[.int .i64 i,.int .i64 2,.int .i64 x.1]
 |none=>[.int .i64 0,.int .i64 0,.int .i64 0]
def kC (F:Option De):Int:=if F.isSome=true then 0 else 10
def Qce (n:ByteArray)(i:Int)(b:Nat)(L:List De)(T:NP)(w:WD):Prop:=
 (T=λk=>k=b+3\/k=b+4\/k=b+5)/\IB w b [.string n]/\IB w (b+3) (kE (J7 n L)).vs/\IB w (b+4) (kK i (J7 n L))/\IB w (b+5) [.bool (J7 n L).isSome]
theorem qtd (n:ByteArray)(i:Int)(b:Nat):Qa4 85 #[.pointer (some ⟨b,0,none⟩),.pointer (some ⟨b+3,0,none⟩),.pointer (some ⟨b+4,0,none⟩),.pointer (some ⟨b+5,0,none⟩)] i (Qce n i b) where
 ent:=enters_of func85 (by kernel_rfl) rfl
 keep:=λ⟨h1,h2,y,u,B⟩ f=>⟨h1,h2.below f h2.lt,y.below f y.lt,u.below f u.lt,B.below f B.lt⟩
 call:=by
  rintro L T w x ⟨rfl,h2,y,u,B⟩ _ _;obtain⟨G,H,I,E⟩:∃G H I,kK i (J7 n L)=[G,H,I]:=by
   cases J7 n L with
   |none=>exact⟨_,_,_,rfl⟩
   |some x=>exact⟨_,_,_,rfl⟩
  rw[E] at u;refine (qp9 (i:=i) (x:=x) (n:=n) h2 y u B (by omega) (by omega) (by omega)).mono ?_;rintro e w' ⟨rfl,K,hn⟩;refine⟨rfl,(λk=>k=b+3\/k=b+4\/k=b+5),?_⟩
  cases F:eqS x.2.name n with
  |true=>
   obtain⟨M,O,R,J⟩:=K F;have q:J7 n (L++[x])=some x:=by rw[q8d,AA F]
   refine⟨⟨rfl,h2.keep (J.block b h2.lt (by rintro (h|h|h)<;>omega)),?_,?_,?_⟩,J,λk E=>.inl E⟩
   ·rw[q];exact M
   ·rw[q];exact O
   ·rw[q];exact R
  |false=>
   have f:=hn F;have q:J7 n (L++[x])=J7 n L:=by rw[q8d,AB (by rw[F];exact Bool.false_ne_true)]
   refine⟨⟨rfl,h2.below f h2.lt,?_,?_,?_⟩,Qz f,λk E=>.inl E⟩
   ·rw[q];exact y.below f y.lt
   ·rw[q,E];exact u.below f u.lt
   ·rw[q];exact B.below f B.lt
theorem qpa {w:WD}{b c:Nat}{r s vs ks:LV}(B:IB w b r)(C:IB w c s)(h:b≠c)(h1:vs.length=r.length)(h2:ks.length=s.length):IB ((w.setCells b 0 vs).setCells c 0 ks) b vs/\IB ((w.setCells b 0 vs).setCells c 0 ks) c ks/\Turn (λk=>k=b\/k=c) w ((w.setCells b 0 vs).setCells c 0 ks):=by
 have q:Turn (λk=>k=b) w (w.setCells b 0 vs):=Vp (S:=λk=>k=b) rfl _ 0 w;have u:Turn (λk=>k=c) (w.setCells b 0 vs) ((w.setCells b 0 vs).setCells c 0 ks):=Vp (S:=λk=>k=c) rfl _ 0 _;have f:=B.all vs h1;have y:IB (w.setCells b 0 vs) c s:=C.keep (q.block c C.lt λe=>h e.symm);exact⟨f.keep (u.block b f.lt λe=>h e),y.all ks h2,(q.mono λ_ h=>.inl h).trans u λ_ h=>.inl (.inr h)⟩
theorem qbn {w:WD}{p:Nat}{R:Int->Nd × Int}{root i:Int}{A C:List Qc}{L:List De}{lim:Int}(T:Told w p R root (A++(Qe i L++C)))(ht:Tab w)(X:Ctx i A C)(hD:Ji L lim)(hl:lim<=2147483648)(n:ByteArray)(F:Option De)(hF:J7 n L=F) :
  Calls prog 49 #[.pointer (some ⟨p,0,none⟩),.int .i64 root,.int .i64 i,.string n] w λe w'=>e=.returned (.tuple #[.agg #[.string (kE F).name,.int .i64 (kE F).ino,.int .i64 (kE F).kind],.agg (kK i F).toArray,.int .i64 (kC F)])/\Below w.1.size w w':=by
 obtain⟨M,z1,J⟩:=q6m [([.string n],9),(Qm.zero.vs,32),([.int .i64 0,.int .i64 0,.int .i64 0],45),(Qm.zero.vs,32),([.int .i64 0,.int .i64 0,.int .i64 0],45),([.bool false],4)] w;have N0:=J 0 _ rfl;have W:=J 1 _ rfl;have Y:=J 2 _ rfl;have H:=J 3 _ rfl;have I:=J 4 _ rfl;have K:=J 5 _ rfl;obtain⟨w1,O⟩:∃w1,allocs w [([.string n],9),(Qm.zero.vs,32),([.int .i64 0,.int .i64 0,.int .i64 0],45),(Qm.zero.vs,32),([.int .i64 0,.int .i64 0,.int .i64 0],45),([.bool false],4)]=w1:=⟨_,rfl⟩;rw[O] at M z1 N0 W Y H I K;have hE:=qbm (T.below M) (ht.below M ht.1) X hD hl (qtd n i w.1.size) (T0:=λk=>k=w.1.size+3\/k=w.1.size+4\/k=w.1.size+5) ⟨rfl,N0,H,I,K⟩ (by rintro k (h|h|h)<;>rw[z1]<;>simp<;>omega);replace hE:=HI hE;clear J H I K T X hD;go_enter func49,ntmps49
 go_wp2_with fail
 change Calls _ _ _ (allocs w [([.string n],9),(Qm.zero.vs,32),([.int .i64 0,.int .i64 0,.int .i64 0],45),(Qm.zero.vs,32),([.int .i64 0,.int .i64 0,.int .i64 0],45),([.bool false],4)]) _;rw[O];refine hE.out.mono ?_;rintro e E ⟨rfl,T2,⟨rfl,a1,H,I,K⟩,Z,-⟩;rw[hF] at H I K;have q:=W.keep (Z.block _ W.lt (by rintro (h|h|h)<;>omega));have u:=Y.keep (Z.block _ Y.lt (by rintro (h|h|h)<;>omega));have B2:Below w.1.size w E:=M.trans (Z.below (by rintro k (h|h|h)<;>omega) M.size);have i0:=K.cell 0 rfl;have r0:=q.cell 0 rfl;have r1:=q.cell 1 rfl;have r2:=q.cell 2 rfl;have s0:=u.cell 0 rfl;have s1:=u.cell 1 rfl;have s2:=u.cell 2 rfl;have q0:=q.fz 0;have q1:=q.fz 1;have q2:=q.fz 2;have p0:=u.fz 0;have p1:=u.fz 1;have p2:=u.fz 2;have a7:=H.cell 0 rfl;have a8:=H.cell 1 rfl;have b0:=H.cell 2 rfl;clear N0 W Y a1 M Z hE hF;have fin:∀(e:Qm) (y:Int × Int × Int) (w':WD),w'=(E.setCells (w.1.size+1) 0 e.vs).setCells (w.1.size+2) 0 [.int .i64 y.1,.int .i64 y.2.1,.int .i64 y.2.2]->IB w' (w.1.size+1) e.vs/\IB w' (w.1.size+2) [.int .i64 y.1,.int .i64 y.2.1,.int .i64 y.2.2]/\Below w.1.size w w':=by
  rintro e y w' rfl;obtain⟨h1,h2,h3⟩:=qpa (vs:=e.vs) (ks:=[.int .i64 y.1,.int .i64 y.2.1,.int .i64 y.2.2]) q u (by omega) rfl rfl;exact⟨h1,h2,B2.trans (h3.below (B:=w.1.size) (by rintro k (h|h)<;>omega) B2.size)⟩
 cases F with
 |none=>
  obtain⟨G,f⟩:∃G,(E.setCells (w.1.size+1) 0 Qm.zero.vs).setCells (w.1.size+2) 0 [.int .i64 0,.int .i64 0,.int .i64 0]=G:=⟨_,rfl⟩;obtain⟨R8,R9,B3⟩:=fin Qm.zero (0,0,0) G f.symm;replace fin:=HI fin;replace f:=HI f;change E.cell? ⟨w.1.size+5,0,none⟩=some (.bool false) at i0;go_wp2_with fail
  obtain rfl:=f.out;exact bodyPost_ret (qz1 Tryz.results49 rfl (q1q R8) rfl (qfg R9)) rfl ⟨rfl,B3⟩
 |some x=>
  obtain⟨G,f⟩:∃G,(E.setCells (w.1.size+1) 0 x.2.vs).setCells (w.1.size+2) 0 [.int .i64 i,.int .i64 2,.int .i64 x.1]=G:=⟨_,rfl⟩;obtain⟨R8,R9,B3⟩:=fin x.2 (i,2,x.1) G f.symm;have a2:IB G.drew (w.1.size+1) x.2.vs:=R8.keep rfl;have a6:IB G.drew (w.1.size+2) [.int .i64 i,.int .i64 2,.int .i64 x.1]:=R9.keep rfl;replace fin:=HI fin;replace f:=HI f;change E.cell? ⟨w.1.size+5,0,none⟩=some (.bool true) at i0;have b2:=I.cell 0 rfl;have b3:=I.cell 1 rfl;have b4:=I.cell 2 rfl;change E.cell? ⟨w.1.size+3,0,none⟩=some (.string x.2.name) at a7;change E.cell? ⟨w.1.size+3,1,none⟩=some (.int .i64 x.2.ino) at a8;change E.cell? ⟨w.1.size+3,2,none⟩=some (.int .i64 x.2.kind) at b0;go_wp2_with fail
  go_region
  go_wp2;obtain rfl:=f.out;exact bodyPost_ret (qz1 Tryz.results49 rfl (q1q a2) rfl (qfg a6)) rfl ⟨rfl,B3.drew⟩
theorem qxf (i:Int)(F:Option De):∃e f q:Int,kK i F=[.int .i64 e,.int .i64 f,.int .i64 q]:=by
 cases F with
 |none=>exact⟨0,0,0,rfl⟩
 |some x=>exact⟨i,2,x.1,rfl⟩
theorem qia {w:WD}{p:Nat}{R:Int->Nd × Int}{root i:Int}{A C:List Qc}{L:List De}{lim:Int}(T:Told w p R root (A++(Qe i L++C)))(ht:Tab w)(X:Ctx i A C)(Z:Ji L lim)(hl:lim<=2147483648)(n:ByteArray)(F:Option De)(hF:J7 n L=F) :
  Calls prog 23 #[.pointer (some ⟨p,0,none⟩),.int .i64 root,.int .i64 i,.string n] w λe w'=>e=.returned (.tuple #[.agg #[.string (kE F).name,.int .i64 (kE F).ino,.int .i64 (kE F).kind],.int .i64 (kC F)])/\Below w.1.size w w':=by
 have E:IB (w.alloc (.cells #[.string ⟨#[]⟩,.int .i64 0,.int .i64 0] 32)) w.1.size Qm.zero.vs:=IB.new w _ _;have y:Below w.1.size w (w.alloc (.cells #[.string ⟨#[]⟩,.int .i64 0,.int .i64 0] 32)):=Qi;obtain⟨w1,O⟩:∃w1,w.alloc (.cells #[.string ⟨#[]⟩,.int .i64 0,.int .i64 0] 32)=w1:=⟨_,rfl⟩;rw[O] at E y;have B:=qbn (T.below y) (ht.below y ht.1) X Z hl n F hF;obtain⟨k1,k2,k3,M⟩:=qxf i F;rw[M] at B;obtain⟨x,hx⟩:∃x,kE F=x:=⟨_,rfl⟩;rw[hx] at B ⊢;replace B:=HI B;clear T X Z hF M hx;go_enter func23,ntmps23
 go_wp2_with fail
 refine B.out.mono ?_;rintro e q ⟨rfl,J⟩;have u:=E.below J E.lt;have l2:=u.lt;have r0:=u.cell 0 rfl;have r1:=u.cell 1 rfl;have r2:=u.cell 2 rfl;have q0:=u.fz 0;have q1:=u.fz 1;have q2:=u.fz 2;have G:=y.trans (J.mono y.size);have tA:Turn (λk=>k=w.1.size) q (q.setCells w.1.size 0 x.vs):=Vp (S:=λk=>k=w.1.size) rfl _ 0 q;have I:IB (q.setCells w.1.size 0 x.vs) w.1.size x.vs:=u.all _ rfl;have K:Below (q.setCells w.1.size 0 x.vs).1.size (q.setCells w.1.size 0 x.vs) (((q.setCells w.1.size 0 x.vs).alloc (.cells #[.string x.name,.int .i64 x.ino,.int .i64 x.kind] 32)).alloc (.cells #[.int .i64 k1,.int .i64 k2,.int .i64 k3] 45)):=(Qi).alloc (by simp) _;have Y:=I.below K I.lt;have H:Below w.1.size w (q.setCells w.1.size 0 x.vs):=G.trans (tA.below (λk M=>by omega) G.size);have W:=H.trans (K.mono H.size);obtain⟨wF,f⟩:∃wF,wF=(((q.setCells w.1.size 0 x.vs).alloc (.cells #[.string x.name,.int .i64 x.ino,.int .i64 x.kind] 32)).alloc (.cells #[.int .i64 k1,.int .i64 k2,.int .i64 k3] 45)):=⟨_,rfl⟩;rw[<-f] at Y W;replace f:=HI f;clear I K H tA E y G J B;go_wp2_with fail
 obtain rfl:=f.out;exact bodyPost_ret (q66 Tryz.results23 rfl (q1q Y)) rfl ⟨rfl,W⟩
def Qcd (x:Qm)(nb tb xb:Nat)(L:List De)(T:NP)(w:WD):Prop:=
 (T=λk=>k=nb\/k=tb)/\IB w nb [.int .i64 (Yn L)]/\IB w tb [.bool (Wp x.name L)]/\IB w xb x.vs
theorem qte {i z:Int}{y:De}{x:Qm}{nb tb xb:Nat}{v:Bool}{w:WD}(Z:0<=y.1/\y.1<2147483648)(h1:nb≠tb)(h2:xb≠nb)(K:xb≠tb)(N:IB w nb [.int .i64 z])(T:IB w tb [.bool v])(X:IB w xb x.vs) :
  Calls prog 40 #[.agg #[.int .i64 i,.int .i64 2,.int .i64 y.1],.agg #[.string y.2.name,.int .i64 y.2.ino,.int .i64 y.2.kind],.pointer (some ⟨nb,0,none⟩),.pointer (some ⟨tb,0,none⟩),.pointer (some ⟨xb,0,none⟩)] w λe w'=>e=.returned (.tuple #[])/\
   IB w' nb [.int .i64 (y.1+1)]/\IB w' tb [.bool (v||eqS y.2.name x.name)]/\IB w' xb x.vs/\Turn (λk=>k=nb\/k=tb) w w':=by
 obtain⟨-,-,W,z2⟩:=qfj w [.int .i64 i,.int .i64 2,.int .i64 y.1] y.2.vs 45 32;have l0:=N.lt;have O:=T.lt;have R:=X.lt;have n0:=N.cell 0 rfl;have nf:=N.fz 0;have t0:=T.cell 0 rfl;have tf:=T.fz 0;have x0:=X.cell 0 rfl;have Y:IntKind.i64.wrap (y.1+1)=y.1+1:=by simp[IntKind.wrap,IntKind.bits,IntKind.signed];omega
 have fin:∀(r:Bool),let w':=((w.setCell ⟨nb,0,none⟩ (.int .i64 (y.1+1))).setCell ⟨tb,0,none⟩ (.bool r));let u:=(w'.alloc (.cells #[.int .i64 i,.int .i64 2,.int .i64 y.1] 45)).alloc (.cells #[.string y.2.name,.int .i64 y.2.ino,.int .i64 y.2.kind] 32);IB u nb [.int .i64 (y.1+1)]/\IB u tb [.bool r]/\IB u xb x.vs/\Turn (λk=>k=nb\/k=tb) w u:=by
  intro r;have B:Turn (λk=>k=nb) w (w.setCell ⟨nb,0,none⟩ (.int .i64 (y.1+1))):=Gw (S:=λk=>k=nb) _ rfl;have F:=N.set 0 (.int .i64 (y.1+1));have J:=T.keep (B.block tb O λh=>h1 h.symm);have G:=X.keep (B.block xb R λh=>h2 h);have E:Turn (λk=>k=tb) (w.setCell ⟨nb,0,none⟩ (.int .i64 (y.1+1))) ((w.setCell ⟨nb,0,none⟩ (.int .i64 (y.1+1))).setCell ⟨tb,0,none⟩ (.bool r)):=Gw (S:=λk=>k=tb) _ rfl;have TB:=J.set 0 (.bool r);have f:=F.keep (E.block nb F.lt λh=>h1 h);have H:=G.keep (E.block xb G.lt λh=>K h);have q:Below ((w.setCell ⟨nb,0,none⟩ (.int .i64 (y.1+1))).setCell ⟨tb,0,none⟩ (.bool r)).1.size _ ((((w.setCell ⟨nb,0,none⟩ (.int .i64 (y.1+1))).setCell ⟨tb,0,none⟩ (.bool r)).alloc (.cells #[.int .i64 i,.int .i64 2,.int .i64 y.1] 45)).alloc (.cells #[.string y.2.name,.int .i64 y.2.ino,.int .i64 y.2.kind] 32)):=(Qi).alloc (by simp) _;exact⟨f.below q f.lt,TB.below q TB.lt,H.below q H.lt,(((B.mono λ_ h=>.inl h).trans E λ_ h=>.inl (.inr h)).trans (Qz q) λ_ h=>.inl h)⟩
 replace fin:=HI fin
 cases v with
 |true=>
  go_enter func40,ntmps40
  go_wp2_with fail
  go_end0
  exact⟨rfl,fin.out true⟩
 |false=>
  cases I:eqS y.2.name x.name with
  |false=>
   have M:(y.2.name.toList==x.name.toList)=false:=I;go_enter func40,ntmps40
   go_wp2_with fail
   go_end0
   exact⟨rfl,fin.out false⟩
  |true=>
   have M:(y.2.name.toList==x.name.toList)=true:=I;go_enter func40,ntmps40
   go_wp2_with fail
   go_end0
   exact⟨rfl,fin.out true⟩
theorem qxg {nb tb xb:Nat}(i:Int)(x:Qm)(h1:nb≠tb)(h2:xb≠nb)(E:xb≠tb):Qa4 40 #[.pointer (some ⟨nb,0,none⟩),.pointer (some ⟨tb,0,none⟩),.pointer (some ⟨xb,0,none⟩)] i (Qcd x nb tb xb) where
 ent:=enters_of func40 (by kernel_rfl) rfl
 keep:=λ⟨H,f,q,u⟩ B=>⟨H,f.below B f.lt,q.below B q.lt,u.below B u.lt⟩
 call:=by
  rintro L T w y ⟨rfl,f,q,u⟩ _ G;refine (qte (i:=i) (x:=x) G h1 h2 E f q u).mono ?_;rintro e w' ⟨rfl,I,J,K,M⟩;refine⟨rfl,_,⟨rfl,?_,?_,K⟩,M,λk F=>.inl F⟩
  ·rw[show L++[y]=L++[(y.1,y.2)] from rfl,qdl];exact I
  ·rw[qb9];exact J
section
variable {b:Nat}{w w' w'':WD}{d p:Nat}{U Q V:NP}{D:DM}{P P':Pl}{H0:LI}{m:Nat}{g:Int}{root i r:Int}{A C its:List Qc}{L:List De}{lim:Int}
theorem Ed.D8 {H:LI}(E:Ed b w d p U D P H m g)(hT:Jg (P.store D) root its)(hr:Qo its)(hl:its.length<=150):Told w p (P.store D) root its:=⟨E.src,hT,hr,AZ hl (by omega)⟩
theorem G8.fromD (h:G8 b w' w'' d p U D P P' r H0 its m g)(hb:Below w.1.size w w'):G8 b w w'' d p U D P P' r H0 its m g:=
 ⟨h.ed,h.tree,h.like,h.n,h.free,h.old,(Qz hb).trans h.turn λ_ e=>.inl e⟩
theorem qxh (x:Qm)(u:x.may=false)(w:WD):Calls prog 13 #[.pointer (some ⟨p,0,none⟩),.int .i64 root,.int .i64 i,.agg #[.string x.name,.int .i64 x.ino,.int .i64 x.kind]] w λe w'=>e=.returned (.tuple #[.int .i64 0,.int .i64 1])/\Below w.1.size w w':=by
 have f:Below w.1.size w (w.alloc (.cells #[.string x.name,.int .i64 x.ino,.int .i64 x.kind] 32)):=Qi;go_enter func13,ntmps13
 go_wp2_with fail
 refine (q9k x u _).mono ?_;rintro e y ⟨rfl,q⟩;go_wp2_with fail
 go_ret2;exact⟨rfl,f.trans (q.mono f.size)⟩
theorem qtf (x:Qm)(u:x.may=false)(w:WD):Calls prog 21 #[.pointer (some ⟨p,0,none⟩),.int .i64 root,.int .i64 i,.agg #[.string x.name,.int .i64 x.ino,.int .i64 x.kind]] w λe w'=>e=.returned (.tuple #[.int .i64 0,.int .i64 1])/\Below w.1.size w w':=by
 have f:Below w.1.size w (w.alloc (.cells #[.string x.name,.int .i64 x.ino,.int .i64 x.kind] 32)):=Qi;go_enter func21,ntmps21
 go_wp2_with fail
 refine (q9k x u _).mono ?_;rintro e y ⟨rfl,q⟩;go_wp2_with fail
 go_ret2;exact⟨rfl,f.trans (q.mono f.size)⟩
def qAz (b:Nat)(w:WD)(d p:Nat)(U Q V:NP)(D:DM)(P:Pl)(H0:LI)(A C:List Qc)(i:Int)(L:List De)(x:Qm)(m:Nat)(g:Int)(t:Bool)(e:Ending)(w':WD):Prop:=
 (t=true->e=.returned (.tuple #[.int .i64 0,.int .i64 11])/\Below w.1.size w w')/\
 (t=false->∃r P',e=.returned (.tuple #[.int .i64 r,.int .i64 0])/\G8 b w w' d p U D P P' r H0 (A++(Qe i (L++[(Yn L,x)])++C)) m g/\Vb b w' d p U Q V D P'/\Turn V w w')
theorem qmy (E:Ed b w d p U D P (Ul root++H0) m g)(hQ:Vb b w d p U Q V D P)(hb:1<b)(hT:Jg (P.store D) root (A++(Qe i L++C)))(X:Ctx i A C)(W:Ji L lim)(h0:0<=lim)(hl:lim<=2147483647)(B:(A++(Qe i L++C)).length<=150)(a1:H0.length<=10000)(b6:17<=P.C.free)(x:Qm)(hx:x.may=true)(t:Bool)(ht:Wp x.name L=t) :
  Calls prog 13 #[.pointer (some ⟨p,0,none⟩),.int .i64 root,.int .i64 i,.agg #[.string x.name,.int .i64 x.ino,.int .i64 x.kind]] w (qAz b w d p U Q V D P H0 A C i L x m g t):=by
 have hr:=X.Qo W;have H:IB (w.alloc (.cells #[.string x.name,.int .i64 x.ino,.int .i64 x.kind] 32)) w.1.size x.vs:=IB.new w _ _;have T:Below w.1.size w (w.alloc (.cells #[.string x.name,.int .i64 x.ino,.int .i64 x.kind] 32)):=Qi;have a6:∀k,U k->k<w.1.size:=λk J=>(E.low k J).2
 obtain⟨n0,n1,n2⟩:=W.next h0;obtain⟨o,ho⟩:∃o,Yn L=o:=⟨_,rfl⟩;have G:=HI X;have M:=HI W;have HT:=HI hT;have HR:=HI hr;have u:=HI B;have HE:=HI E;have HQ:=HI hQ;clear X W hT hr B E hQ;go_enter func13,ntmps13
 go_wp2_with fail
 generalize w.alloc (.cells #[.string x.name,.int .i64 x.ino,.int .i64 x.kind] 32)=w1 at H T ⊢;refine (q73 x hx w1).mono ?_;rintro e y ⟨VV,q,c,rfl,hV,a8,b2⟩;have B2:=T.trans (b2.mono T.size);have N2:=H.below b2 H.lt;have z1:=H.lt;have z2:=b2.size;obtain⟨I,z3,hN⟩:=q6m [([.int .i64 0],3),([.bool false],4)] y;have O:=hN 0 _ rfl;have R:=hN 1 _ rfl;obtain⟨F,f⟩:∃F,(y.alloc (.cells #[.int .i64 0] 3)).alloc (.cells #[.bool false] 4)=F:=⟨_,rfl⟩;replace I:Below y.1.size y F:=by rw[<-f];exact I
 replace z3:F.1.size=y.1.size+2:=by rw[<-f];exact z3
 replace O:IB F y.1.size [.int .i64 0]:=by rw[<-f];exact O
 replace R:IB F (y.1.size+1) [.bool false]:=by rw[<-f];exact R
 have B3:=B2.trans (I.mono B2.size);have N3:=N2.below I N2.lt;clear hN;have E3:=HE.out.below B3;have Y:=qbm (E3.D8 HT.out HR.out u.out) E3.tab G.out M.out (by omega) (qxg i x (nb:=y.1.size) (tb:=y.1.size+1) (xb:=w.1.size) (by omega) (by omega) (by omega)) (T0:=λk=>k=y.1.size\/k=y.1.size+1) ⟨rfl,O,R,N3⟩ (by rintro k (h|h)<;>omega);replace Y:=HI Y;replace f:=HI f;go_wp2_with fail
 rw[f.out];refine Y.out.mono ?_;rintro e w4 ⟨rfl,T4,⟨rfl,M0,M1,M2⟩,X4,-⟩;have B4:Below w.1.size w w4:=B3.trans (X4.below (by rintro k (h|h)<;>omega) B3.size);rw[ho] at M0;rw[ht] at M1;have m0:=M0.cell 0 rfl;have m1:=M1.cell 0 rfl;clear Y O R H N2 N3
 cases t with
 |true=>
  go_wp2_with fail
  go_ret2;exact⟨λ_=>⟨rfl,B4⟩,nofun⟩
 |false=>
  go_wp2_with fail
  refine (qfh i o w4).mono ?_;rintro e w5 ⟨rfl,b5⟩;have K:=B4.trans (b5.mono B4.size);have E5:=HE.out.below K;have a7:Sl w5 VV q c x.bytes:=((hV.below I).turned' X4 (λ_ k J=>by
   have:=hV.Qa (by intro h;have:=q8q x;rw[h] at this;simp at this;omega) k J;rintro (h|h)<;>omega)).below b5
  have b7:Yh ⟨i,2,o⟩ x.bytes false (A++(Qe i L++C))=A++(Qe i (L++[(Yn L,x)])++C):=by rw[<-ho];exact G.out.Qb4 M.out h0 x
  have b8:(⟨i,2,o⟩:Kd).may=true:=(Kd.Cc _).2 ⟨G.out.one,⟨by show (0:Int)<=2;omega,by show (2:Int)<=255;omega⟩,by show 0<=o;omega,by show o<=2147483647;omega⟩;have b4:Zx ⟨⟨i,2,o⟩,x.bytes⟩:=⟨b8,by
   show x.bytes.length<=28;rw[q8q];have:=AK (Bool.and_eq_true_iff.1 hx).1;omega⟩
  have Z:=Ed.Ii (k:=⟨i,2,o⟩) (v:=x.bytes) (H0:=H0) (root:=root) (show Ed b w5 d p U D P (Ul root++(nmI ⟨⟨i,2,o⟩,x.bytes⟩++H0)) m g by rw[qi9];exact E5) (HQ.out.below K) hb HT.out HR.out (G.out.fine M.out (by omega)) b4 (qi8 i o _) (by have:=u.out;omega) a1 VV q c a7 (λ_ k J hU=>by have:=a8 k J;have:=a6 k hU;have:=T.size;omega);rw[b7] at Z;replace Z:=HI Z;clear m0 m1 G M HT HR HE u HQ;go_wp2_with fail
  refine Z.out.mono ?_;rintro e w6 (⟨r,P',rfl,N,a2,b0⟩|⟨_,hf⟩)
  ·go_wp2_with fail
   go_ret2;exact⟨nofun,λ_=>⟨r,P',rfl,N.fromD K,a2,(Qz K).trans b0 λ_ h=>.inl h⟩⟩
  ·omega
end
section
variable {b:Nat}{w w' w'':WD}{d p:Nat}{U Q V:NP}{D:DM}{P P':Pl}{H0:LI}{m:Nat}{g:Int}{root i r:Int}{A C its:List Qc}{L:List De}{lim:Int}
def qtg (b:Nat)(w:WD)(d p:Nat)(U Q V:NP)(D:DM)(P:Pl)(H0:LI)(A C:List Qc)(i:Int)(L:List De)(m:Nat)(g:Int)(F:Option De)(e:Ending)(w':WD):Prop:=
 (F=none->e=.returned (.tuple #[.int .i64 0,.int .i64 10])/\Below w.1.size w w')/\
 (F≠none->∃r P',e=.returned (.tuple #[.int .i64 r,.int .i64 0])/\G8 b w w' d p U D P P' r H0 (A++(Qe i L++C)) m g/\Vb b w' d p U Q V D P'/\Turn V w w')
theorem qxi (E:Ed b w d p U D P (Ul root++H0) m g)(hQ:Vb b w d p U Q V D P)(hb:1<b)(Y:Jg (P.store D) root (A++(Qe i L++C)))(X:Ctx i A C)(M:Ji L lim)(h0:0<=lim)(hl:lim<=2147483647)(q:(A++(Qe i L++C)).length<=150)(T:H0.length<=10000)(a1:17<=P.C.free)(n:ByteArray)(F:Option De)(hF:J7 n L=F) :
  Calls prog 19 #[.pointer (some ⟨p,0,none⟩),.int .i64 root,.int .i64 i,.string n] w (qtg b w d p U Q V D P H0 A C i (Gl n L) m g F):=by
 have hr:=X.Qo M;have u:=HI (qbn (E.D8 Y hr q) E.tab X M (by omega) n F hF);have HX:=HI X;have HD:=HI M;have HT:=HI Y;have HR:=HI hr;have I:=HI q;have HE:=HI E;have HQ:=HI hQ;have HF:=HI hF;clear X M Y hr q E hF hQ
 cases F with
 |none=>
  have f:=u.out;rw[show kE none=Qm.zero from rfl,show kK i none=[.int .i64 0,.int .i64 0,.int .i64 0] from rfl,show kC none=10 from rfl] at f;replace u:=HI f;clear f;go_enter func19,ntmps19
  go_wp2_with fail
  refine u.out.mono ?_;rintro e G ⟨rfl,J⟩;have R:Below G.1.size G ((G.alloc (.cells #[.string ⟨#[]⟩,.int .i64 0,.int .i64 0] 32)).alloc (.cells #[.int .i64 0,.int .i64 0,.int .i64 0] 45)):=(Qi).alloc (by simp) _;have H:=J.trans (R.mono J.size);clear u;go_wp2_with fail
  go_ret2;exact⟨λ_=>⟨rfl,H⟩,λh=>absurd rfl h⟩
 |some x=>
  have f:=u.out;rw[show kE (some x)=x.2 from rfl,show kK i (some x)=[.int .i64 i,.int .i64 2,.int .i64 x.1] from rfl,show kC (some x)=0 from rfl] at f;replace u:=HI f;clear f;go_enter func19,ntmps19
  go_wp2_with fail
  refine u.out.mono ?_;rintro e G ⟨rfl,J⟩;have R:Below G.1.size G ((G.alloc (.cells #[.string x.2.name,.int .i64 x.2.ino,.int .i64 x.2.kind] 32)).alloc (.cells #[.int .i64 i,.int .i64 2,.int .i64 x.1] 45)):=(Qi).alloc (by simp) _;have H:=J.trans (R.mono J.size);have EF:=HE.out.below H;obtain⟨y,hy,B,_,K⟩:=(q1u n L).resolve_left (λh=>by rw[HF.out] at h;cases h.1);rw[HF.out] at B;obtain rfl:=OI B;have O:=EF.Lj (HQ.out.below H) hb HT.out HR.out (HX.out.fine HD.out (by omega)) ⟨i,2,x.1⟩ (by have:=I.out;omega) T (Ctx.has hy);rw[HX.out.del HD.out hy K] at O;replace O:=HI O;clear u EF K B;go_wp2_with fail
  refine O.out.mono ?_;rintro e w6 (⟨r,P',rfl,N,W,Z⟩|⟨_,hf⟩)
  ·go_wp2_with fail
   go_ret2;exact⟨nofun,λ_=>⟨r,P',rfl,N.fromD H,W,(Qz H).trans Z λ_ h=>.inl h⟩⟩
  ·omega
theorem qth (E:Ed b w d p U D P (Ul root++H0) m g)(hQ:Vb b w d p U Q V D P)(hb:1<b)(hT:Jg (P.store D) root (A++(Qe i L++C)))(X:Ctx i A C)(hD:Ji L lim)(h0:0<=lim)(hl:lim<=2147483647)(G:(A++(Qe i L++C)).length<=150)(a1:H0.length<=10000)(b5:17<=P.C.free)(x:Qm)(hx:x.may=true)(F:Option De)(hF:J7 x.name L=F) :
  Calls prog 21 #[.pointer (some ⟨p,0,none⟩),.int .i64 root,.int .i64 i,.agg #[.string x.name,.int .i64 x.ino,.int .i64 x.kind]] w (qtg b w d p U Q V D P H0 A C i (Vj x L) m g F):=by
 have hr:=X.Qo hD;have K:IB (w.alloc (.cells #[.string x.name,.int .i64 x.ino,.int .i64 x.kind] 32)) w.1.size x.vs:=IB.new w _ _;have Z:Below w.1.size w (w.alloc (.cells #[.string x.name,.int .i64 x.ino,.int .i64 x.kind] 32)):=Qi;have a6:∀k,U k->k<w.1.size:=λk hk=>(E.low k hk).2
 have Y:=HI X;have W:=HI hD;have HT:=HI hT;have HR:=HI hr;have u:=HI G;have HE:=HI E;have HQ:=HI hQ;have HF:=HI hF;clear X hD hT hr G E hF hQ;go_enter func21,ntmps21
 go_wp2_with fail
 generalize w.alloc (.cells #[.string x.name,.int .i64 x.ino,.int .i64 x.kind] 32)=w1 at K Z ⊢;refine (q73 x hx w1).mono ?_;rintro e w2 ⟨VV,q,c,rfl,hV,a8,b2⟩;have M:=Z.trans (b2.mono Z.size);have N2:=K.below b2 K.lt;have n0:=N2.cell 0 rfl;have z1:=K.lt;have z2:=b2.size;have E2:=HE.out.below M;have B:=HI (qbn (E2.D8 HT.out HR.out u.out) E2.tab Y.out W.out (by omega) x.name F HF.out);clear E2
 cases F with
 |none=>
  have f:=B.out;rw[show kE none=Qm.zero from rfl,show kK i none=[.int .i64 0,.int .i64 0,.int .i64 0] from rfl,show kC none=10 from rfl] at f;replace B:=HI f;clear f;go_wp2_with fail
  refine B.out.mono ?_;rintro e I ⟨rfl,b3⟩;have O:=M.trans (b3.mono M.size);clear B n0 K N2;have bF:Below I.1.size I ((I.alloc (.cells #[.string ⟨#[]⟩,.int .i64 0,.int .i64 0] 32)).alloc (.cells #[.int .i64 0,.int .i64 0,.int .i64 0] 45)):=(Qi).alloc (by simp) _;have J:=O.trans (bF.mono O.size);go_wp2_with fail
  go_ret2;exact⟨λ_=>⟨rfl,J⟩,λh=>absurd rfl h⟩
 |some y=>
  have f:=B.out;rw[show kE (some y)=y.2 from rfl,show kK i (some y)=[.int .i64 i,.int .i64 2,.int .i64 y.1] from rfl,show kC (some y)=0 from rfl] at f;replace B:=HI f;clear f;go_wp2_with fail
  refine B.out.mono ?_;rintro e I ⟨rfl,b3⟩;have O:=M.trans (b3.mono M.size);clear B n0 K N2;have bF:Below I.1.size I ((I.alloc (.cells #[.string y.2.name,.int .i64 y.2.ino,.int .i64 y.2.kind] 32)).alloc (.cells #[.int .i64 i,.int .i64 2,.int .i64 y.1] 45)):=(Qi).alloc (by simp) _;have J:=O.trans (bF.mono O.size);have EF:=HE.out.below J;have a7:=(hV.below b3).below bF;obtain⟨z,hz,H,_,T⟩:=(q1u x.name L).resolve_left (λh=>by rw[HF.out] at h;cases h.1);rw[HF.out] at H;obtain rfl:=OI H;have R:=W.out.low _ hz;have b6:(⟨i,2,y.1⟩:Kd).may=true:=(Kd.Cc _).2 ⟨Y.out.one,⟨by show (0:Int)<=2;omega,by show (2:Int)<=255;omega⟩,R.1,by show y.1<=2147483647;omega⟩;have b4:Zx ⟨⟨i,2,y.1⟩,x.bytes⟩:=⟨b6,by
   show x.bytes.length<=28;rw[q8q];have:=AK (Bool.and_eq_true_iff.1 hx).1;omega⟩
  have hP:=Ed.Ii (k:=⟨i,2,y.1⟩) (v:=x.bytes) (H0:=H0) (root:=root) (show Ed b _ d p U D P (Ul root++(nmI ⟨⟨i,2,y.1⟩,x.bytes⟩++H0)) m g by rw[qi9];exact EF) (HQ.out.below J) hb HT.out HR.out (Y.out.fine W.out (by omega)) b4 (qi8 i y.1 _) (by have:=u.out;omega) a1 VV q c a7 (λ_ k hk hU=>by have:=a8 k hk;have:=a6 k hU;have:=Z.size;omega);rw[Y.out.Qb5 W.out hz T] at hP;replace hP:=HI hP;clear EF T H;go_wp2_with fail
  refine hP.out.mono ?_;rintro e w6 (⟨r,P',rfl,N,a2,b0⟩|⟨_,hf⟩)
  ·go_wp2_with fail
   go_ret2;exact⟨nofun,λ_=>⟨r,P',rfl,N.fromD J,a2,(Qz J).trans b0 λ_ h=>.inl h⟩⟩
  ·omega
end
