/- The laws of edit: a new pool, the document's example -/
import Derived.Test.YtnnbaihfboacoaaGreatDoorEr44
namespace Go.Proofs.YtnnbaihfboacoaaGreatDoor
open Go Go.RowKit Go.Proofs
set_option maxHeartbeats 8000000
set_option maxRecDepth 100000
section
variable {b:Nat}{w w':World}{d p:Nat}{U:Nat->Prop}{D:DM}{P:Pl}{H H0:List Int}{m:Nat}{g:Int}{root:Int}{its:List Qc}
theorem Ed.Vd (E:Ed b w d p U D P (Jr root) m g)(hT:Zb (P.store D) root its):P.C.n<=P.C.free+(P.C.first+(its.length+P.C.kept))/\P.C.used<=its.length:=by
 obtain⟨B,y,K⟩:=E.keep;rcases hT with⟨rfl,rfl⟩|⟨l,_,h,h1,_⟩
 ·have h1:=K.used (L:=[]) (λx u=>by cases u) (λa f=>by cases f);have h2:=qau P.C;have h1:P.C.used<=0:=h1;simp only[List.length_nil];omega
 ·rw[<-Nh] at h;have e:Jr root=[root]:=if_neg (by omega);rw[e] at K;have h1:=K.used (L:=[(l,root,its)]) (λx u=>by cases List.mem_singleton.1 u;exact h) (λa f=>⟨_,List.mem_singleton_self _,(List.mem_singleton.1 f).symm⟩);have h2:=qau P.C;have h1:P.C.used<=its.length+0:=h1;omega
theorem Ed.told (E:Ed b w d p U D P H m g)(hT:Zb (P.store D) root its)(hr:Qd its)(hl:its.length<=150):Told w p (P.store D) root its:=⟨E.src,hT,hr,hl⟩
end
theorem q9a (n:Nat)(hn:Qb n)(w:World)(Y:Tab w) :
  Calls Tryz.prog 11 #[.int .i64 n] w λe w'=>∃p d U D,e=.returned (.pointer (some ⟨p,0,none⟩))/\Ed w.1.size w' d p U D (Pl.fresh n) [] 100 2/\Below w.1.size w w'/\(∀k,U k->w.1.size<=k):=by
 have hG:=Y.1;have h1:32<=n:=hn.1;have h2:n<=2048:=hn.2;go_enter Tryz.func11,Tryz.ntmps11
 go_wp2_with fail
 refine (qxa n hn w).mono ?_;rintro e w1 ⟨d,rfl,X,I⟩;have Z:=Y.below I hG;go_wp2_with fail
 refine (qhs X ⟨rfl,rfl⟩ (by omega) Z (qjk n) (by omega)).mono ?_;rintro e K ⟨p,q,rfl,u⟩;have G:(DM.mk0 n).n=n:=rfl;rw[G] at u;have y:=(q3c (Xt n) (qjk n)).mono (m':=100) (by have:=qxz (n:=n) h2;omega);have J:=qml h1 h2;obtain⟨R,E⟩:∃D,(DM.mk0 n).Qk (Xt n)=D:=⟨_,rfl⟩;rw[E] at u y J;obtain⟨P,O⟩:∃P,Pl.fresh n=P:=⟨_,rfl⟩;have hg:P.S.gen=1:=by rw[<-O];rfl
 rw[O] at u J;have B:=qxy (b:=w.1.size) u (λk f=>f) I.size;have t2:=Z.turned u.turn (by omega);have z1:=I.size;have M:Below w.1.size w K:=I.trans (u.turn.below (λk f=>f) z1);obtain⟨S0,S,B⟩:=B;obtain⟨T,Q⟩:∃T:Nat->Prop,(λk=>w.1.size<=k/\k<K.1.size)=T:=⟨_,rfl⟩;have F:∀k,T k->w.1.size<=k/\k<K.1.size:=λk f=>by rw[<-Q] at f;exact f
 rw[Q] at B;have E2:Ed w.1.size K d p T R P [] 100 2:=⟨⟨S0,S,T,B,B.sub,B.Cj⟩,F,t2,⟨_,_,J⟩,y,by omega⟩;clear u X Q E J y G;go_wp2_with fail
 go_ret;exact⟨p,d,T,R,rfl,O▸E2,M,λk f=>(F k f).1⟩
def edX:Qc:=⟨⟨1,1,0⟩,shB⟩
theorem qko:Ze edX:=⟨by decide,by decide,by decide⟩
theorem qep (n:Nat):(Pl.fresh n).C.n=n:=Ct.Q9 n
theorem q50 {b:Nat}{w w':World}{d p:Nat}{U:Nat->Prop}{D:DM}{P P':Pl}{r:Int}{H0:List Int}{its:List Qc}{m:Nat}{g:Int}(h:Bd b w w' d p U D P P' r H0 its m g):r=0↔its=[]:=by
 rcases h.tree with⟨rfl,rfl⟩|⟨l,_,e,h1,_⟩
 ·exact⟨λ_=>rfl,λ_=>rfl⟩
 ·constructor
  ·intro h;omega
  ·rintro rfl;obtain⟨x,t,h⟩:=q39 e
   cases h
theorem q83 (w:World)(ht:Tab w):Calls Tryz.prog 10 #[] w λe w'=>e=.returned (.bool true)/\Below w.1.size w w':=by
 have hG:=ht.1;have hM:=Lib.hid (q9a 64 ⟨by omega,by omega⟩ w ht);have J:=qep 64;have a1:(Pl.fresh 64).C.first=4:=by unfold Ct.first;rw[J];rfl
 have a2:(Pl.fresh 64).C.kept=0:=q6z 64;obtain⟨P,hP⟩:∃P,Pl.fresh 64=P:=⟨_,rfl⟩;rw[hP] at hM J a1 a2;go_enter Tryz.func10,Tryz.ntmps10
 go_wp2_with fail
 refine hM.out.mono ?_;rintro e u ⟨p,d,U,D,rfl,E2,B2,hU⟩;clear hM;have K3:KB (u.alloc (.cells #[.int .i64 0,.int .i64 0,.int .i64 0] 30)) u.1.size ⟨0,0,0⟩:=KB.new u 0 0 0 _;have b3:Below u.1.size u (u.alloc (.cells #[.int .i64 0,.int .i64 0,.int .i64 0] 30)):=Qm;have kc:=λ(w:World) (C:Array Value) (n c:Nat)=>Lib.run_convert_bytes_const (P:=Tryz.prog) w 31 5 C n c Tryz.underlying31 Tryz.underlying5
 go_wp2_with (first
  |(refine q0x rfl (.tmp 2) (.tmp 14) rfl u.1.size rfl ⟨1,1,0⟩ _ rfl K3 ?_;intro F M T4;have c0:=M.c0;have c1:=M.c1;have c2:=M.c2)
  |fail)
 have y:Below u.1.size u F:=b3.trans (T4.below (λk hk=>by have hk:k=u.1.size:=hk;omega) b3.size);have E4:=E2.below y;have R:=B2.trans (y.mono B2.size);have B:∀k,U k->k<u.1.size:=λk hk=>(E2.low k hk).2
 clear K3 b3 T4;have b5:Below F.1.size F (F.alloc (.cells #[.int .u8 97,.int .u8 98] 5 (2,3))):=Qm;have s5:Sl (F.alloc (.cells #[.int .u8 97,.int .u8 98] 5 (2,3))) (some ⟨F.1.size,0,none⟩) 2 2 shB:=qvq F 5 (2,3) [97,98] #[.int .u8 97,.int .u8 98] rfl (by simp);have I:Zb (P.store D) 0 []:=.inl ⟨rfl,rfl⟩;have f:=(E4.Vd (root:=0) I).1;rw[J,a1,a2] at f;simp only[List.length_nil] at f;have z24:=y.size;have HP:=Lib.hid ((E4.below b5).put (root:=0) (H0:=[]) hG I List.Pairwise.nil (λx K=>by cases K) ⟨1,1,0⟩ shB qko (by simp) (by simp) _ 2 2 s5 (λ_ g hg b8=>by have:=B g b8;have hg:F.1.size=g:=Option.some.inj hg;omega));have K5:=M.below b5 M.lt;have T:=R.trans (b5.mono R.size);go_wp2_with fail
 refine HP.out.mono ?_;rintro e w6 (⟨r,P6,rfl,G⟩|⟨_,hf,_⟩)
 case inr=>omega
 have E:=q50 G;have z26:u.1.size<=w6.1.size:=Nat.le_trans (y.trans (b5.mono y.size)).size G.turn.size;have E:r≠0:=λh=>by have:=E.1 h;cases this
 have X6:=G.turn;have X:Below w.1.size w w6:=T.trans (X6.below hU T.size);have O:KB w6 u.1.size ⟨1,1,0⟩:=K5.keep (X6.block _ K5.lt λh=>by have:=B _ h;omega);have a8:=O.c0;have b0:=O.c1;have b1:=O.c2;have E6:=G.ed;have a7:=G.free;have T6:Zb (P6.store D) r [edX]:=G.tree;have a6:Qd [edX]:=List.pairwise_singleton ..;have Hg:=Lib.hid ((E6.told T6 a6 (by simp)).Qbg E6.tab ⟨1,1,0⟩ (shB,0) rfl);clear c0 c1 c2 M K5 HP G s5 I kc;go_wp2_with fail
 refine Hg.out.mono ?_;rintro e w7 ⟨A7,n7,d7,rfl,s7,c7,b7⟩;have E7:=E6.below b7;have Q:=O.below b7 O.lt;have Y:=X.trans (b7.mono X.size);have b2:=Q.c0;have b4:=Q.c1;have b6:=Q.c2;have HD:=Lib.hid (E7.del (root:=r) (H0:=[]) hG T6 a6 (λx K=>by cases List.mem_singleton.1 K;exact qko) ⟨1,1,0⟩ (by simp) (by simp) ⟨edX,List.mem_singleton_self _,by decide⟩);clear a8 b0 b1 O Hg E6 X6;go_wp2_with fail
 refine HD.out.mono ?_;rintro e w8 (⟨r8,P8,rfl,N8⟩|⟨_,hf,_⟩)
 case inr=>omega
 have c6:r8=0:=(q50 N8).2 (by decide);subst c6;have X8:=N8.turn;have Z:Below w.1.size w w8:=Y.trans (X8.below hU Y.size);have K8:KB w8 u.1.size ⟨1,1,0⟩:=Q.keep (X8.block _ Q.lt λh=>by have:=B _ h;omega);have s8:Sl w8 A7 n7 d7 shB:=s7.turned' X8 λh1 g hg h=>by have:=c7 h1 g hg;have:=B _ h;have:=z26;omega
 have c8:=K8.c0;have c9:=K8.c1;have d0:=K8.c2;have E8:=N8.ed;have HN:=Lib.hid (E8.Qaz (root:=0) (H0:=[]) (its:=[]) hG (.inl ⟨rfl,rfl⟩) List.Pairwise.nil (λx K=>by cases K) ⟨1,1,0⟩ (by simp) (by simp) (λ⟨x,K,_⟩=>by cases K));clear b2 b4 b6 Q HD N8 X8;go_wp2_with fail
 refine HN.out.mono ?_;rintro e w9 ⟨rfl,b9⟩;have s9:=s8.below b9;have d1:=Pg s9;have h3:(r != 0)=true:=by simpa using E
 have h4:decide (r=0)=false:=by simpa using E
 clear HN;go_wp2_with fail
 go_ret;exact⟨rfl,Z.trans (b9.mono Z.size)⟩
def FU (U:Nat->Prop)(V:Option Addr)(v:List UInt8):Prop:=v≠[]->∀g,q01 V=some g->¬U g
structure J8 (U:Nat->Prop)(w:World)(A:Option Addr)(n c:Nat)(xs:List Qc):Prop where
 row:Zg (FU U) w A n c xs
 blk:xs≠[]->∀g,q01 A=some g->¬U g
section
variable {U:Nat->Prop}{w w':World}{A:Option Addr}{n c:Nat}{xs:List Qc}
theorem q3s {F y:Option Addr->List UInt8->Prop}(h:Zg F w A n c xs)(hF:∀V p q v,Sl w V p q v->F V v->y V v):Zg y w A n c xs:=by
 obtain⟨u,h1,h2,B⟩:=h;refine⟨u,h1,h2,λj r x E G=>?_⟩;obtain⟨V,p,q,e,f⟩:=B j r x E G;exact⟨V,p,q,e,f.1,hF _ _ _ _ f.1 f.2⟩
theorem J8.Zq (h:J8 U w A n c xs):Zl w A n c xs:=h.row.Zq
theorem J8.len (h:J8 U w A n c xs):xs.length=n:=h.row.Zq.len
theorem J8.below (h:J8 U w A n c xs)(hb:Below w.1.size w w'):J8 U w' A n c xs:=⟨h.row.below hb,h.blk⟩
theorem J8.Qbz (h:J8 U w A n c xs)(hx:xs≠[]):∀g,q01 A=some g->g<w.1.size:=λg f=>by
 have y:=h.len;obtain⟨b,o,V,p,q,rfl,u,_⟩:=h.row.cell (j:=0) (by have:xs.length≠0:=λe=>hx (List.eq_nil_of_length_eq_zero e);omega);have e:b=g:=Option.some.inj f;omega
theorem J8.turned (h:J8 U w A n c xs)(T:Turn U w w'):J8 U w' A n c xs:=by
 by_cases f:xs=[]
 ·subst f;obtain⟨e,h1,h2,E⟩:=h.row;obtain rfl:e=[]:=List.eq_nil_of_length_eq_zero h2;exact⟨⟨[],⟨h1.1,h1.2.1,h1.2.2.1,λj x u=>by simp at u⟩,rfl,λj r x y=>by simp at y⟩,λh=>absurd rfl h⟩
 ·exact⟨h.row.turned T (h.blk f) λV v B=>B,h.blk⟩
theorem J8.commit (h:J8 U w A n c xs)(T:Turn U w w'):J8 (grow U w w') w' A n c xs:=by
 have h2:=h.turned T;have F:Zg (λV v=>FU U V v/\(v≠[]->∀g,q01 V=some g->g<w.1.size)) w A n c xs:=q3s h.row λV p q v J y=>⟨y,λe=>J.Qa e⟩
 refine⟨?_,λu g f B=>?_⟩
 ·by_cases u:xs=[]
  ·subst u;obtain⟨G,h1,h2,I⟩:=h2.row;obtain rfl:G=[]:=List.eq_nil_of_length_eq_zero h2;exact⟨[],h1,rfl,λj r x K=>by simp at K⟩
  ·have I:Zg _ w' A n c xs:=F.turned T (h.blk u) λV v e=>e.1
   exact q3s I λV p q v J y e g f B=>B.1.elim (y.1 e g f) λE=>by have:=y.2 e g f;omega
 ·have:=h.Qbz u g f;exact B.1.elim (h.blk u g f) λE=>by omega
theorem J8.cell (h:J8 U w A n c xs){j:Nat}(hj:j<n):∃b o V p q,A=some ⟨b,o,none⟩/\b<w.1.size/\¬U b/\w.cell? ⟨b,o+j*4,none⟩=some (.int .i64 (Qj xs j).k.obj)/\w.cell? ⟨b,o+j*4+1,none⟩=some (.int .i64 (Qj xs j).k.kind)/\w.cell? ⟨b,o+j*4+2,none⟩=some (.int .i64 (Qj xs j).k.off)/\w.cell? ⟨b,o+j*4+3,none⟩=some (.slice V p q)/\Sl w V p q (Qj xs j).v/\((Qj xs j).v≠[]->∀g,q01 V=some g->¬U g):=by
 have f:=h.len;have B:xs≠[]:=λe=>by rw[e] at f;simp at f;omega
 obtain⟨b,o,V,p,q,rfl,y,c0,c1,c2,c3,u⟩:=h.row.cell hj;exact⟨b,o,V,p,q,rfl,y,h.blk B _ rfl,c0,c1,c2,c3,u.1,u.2⟩
end
theorem q84 (v:List UInt8):(Zd v).length=v.length:=by unfold Zd;split<;>simp
theorem q8s (k:Kd)(v:List UInt8):Ko ⟨k,Zd v⟩=none:=by
 unfold Ko;refine if_neg λ⟨_,h1,h2⟩=>?_
 have h1:(Zd v).length=3:=h1;have h2:Wh (Zd v) 0=1:=h2;rw[q84] at h1;unfold Zd at h2;by_cases e:Wh v 0=1
 ·rw[if_pos ⟨h1,e⟩] at h2;have:Wh (v.set 0 2) 0=2:=by
   match v,h1 with
   |[a,b,c],_=>rfl
  omega
 ·rw[if_neg λh=>e h.2] at h2;exact e h2
section
variable {b:Nat}{w w':World}{d p:Nat}{U:Nat->Prop}{D:DM}{P:Pl}{H H0:List Int}{m:Nat}{g:Int}{root:Int}{its:List Qc}
theorem Ed.nil (E:Ed b w d p U D P (H++[]) m g):Ed b w d p U D P H m g:=by
 rw[List.append_nil] at E;exact E
end
def Qaq (z:Int)(k:Kd)(V:Option Addr)(q c:Nat):List Value:=[.int .i64 z,.int .i64 k.obj,.int .i64 k.kind,.int .i64 k.off,.slice V q c]
section
variable {b:Nat}{w w':World}{d p:Nat}{U:Nat->Prop}{D:DM}{P:Pl}{H H0:List Int}{m:Nat}{g:Int}{root:Int}{its row:List Qc}
theorem Ed.weak {m':Nat}{g':Int}(E:Ed b w d p U D P H m g)(hm:m<=m')(hg:g<=g'):Ed b w d p U D P H m' g':=⟨E.sys,E.low,E.tab,E.keep,E.Ya.mono hm,by have:=E.gen;omega⟩
structure Qa8 (b:Nat)(w w':World)(d p:Nat)(U U':Nat->Prop)(D D':DM)(P P':Pl)(H0:List Int)(row row':List Qc)(r:Int)(A:Option Addr)(n c:Nat)(m:Nat)(g:Int)(z:Int):Prop where
 ed:Ed b w' d p U' D' P' (Jr r++H0) (m+2100) (g+1)
 tree:Zb (P'.store D') r row'
 stay:J8 U' w' A n c row'
 Qd:Qd row'
 fine:∀x∈row',Ze x
 len:row'.length<=row.length+1
 n:P'.C.n=P.C.n
 kept:P'.C.kept=P.C.kept\/P'.C.kept=P.C.used
 old:∀l a t,a∈H0->Qp (P.store D) l a t->Qp (P'.store D') l a t
 sub:∀k,U' k->U k\/w.heap.size<=k
 turn:Turn U w w'
 same:md z 8≠7->D'=D/\U'=U/\P.like P'
end
section
open Go.ChangeShapes Go.WideShapes Go.ChangeAt Go.Deep
structure Ai where
 z:Int
 k:Kd
 V:Option Addr
 q:Nat
 c:Nat
 v:List UInt8
def Ai.vs (o:Ai):List Value:=Qaq o.z o.k o.V o.q o.c
structure Ai.here (o:Ai)(W:World):Prop where
 z:i64 o.z
 off:i64 o.k.off
 sl:Sl W o.V o.q o.c o.v
 few:o.q<=140737488355328
def Nv (w:World)(A:Option Addr)(n c:Nat)(os:List Ai):Prop:=Jf w 5 A n c (os.map Ai.vs)/\∀o∈os,o.here w
def opAt (os:List Ai)(j:Nat):Ai:=os.getD j ⟨0,⟨0,0,0⟩,none,0,0,[]⟩
theorem Nv.cell {w:World}{A:Option Addr}{n c:Nat}{os:List Ai}(h:Nv w A n c os){j:Nat}(hj:j<n):∃g o,A=some ⟨g,o,none⟩/\g<w.1.size/\(opAt os j).here w/\
  ∀w',Below w.1.size w w'->w'.cell? ⟨g,o+j*5,none⟩=some (.int .i64 (opAt os j).z)/\w'.cell? ⟨g,o+j*5+1,none⟩=some (.int .i64 (opAt os j).k.obj)/\w'.cell? ⟨g,o+j*5+2,none⟩=some (.int .i64 (opAt os j).k.kind)/\w'.cell? ⟨g,o+j*5+3,none⟩=some (.int .i64 (opAt os j).k.off)/\w'.cell? ⟨g,o+j*5+4,none⟩=some (.slice (opAt os j).V (opAt os j).q (opAt os j).c):=by
 obtain⟨h1,h2⟩:=h;have B:os.length=n:=by have:=h1.1;rwa [List.length_map] at this
 have y:os[j]?=some (opAt os j):=by unfold opAt;simp[List.getD,show j<os.length by omega]
 obtain⟨g,o,rfl,e,_,u⟩:=h1.2.2.2 j _ (by rw[List.getElem?_map,y];rfl);refine⟨g,o,rfl,e,h2 _ (List.mem_of_getElem? y),λw' f=>?_⟩;exact⟨(f.cell (p:=⟨g,_,none⟩) e).trans (u 0 _ rfl),(f.cell (p:=⟨g,_,none⟩) e).trans (u 1 _ rfl),(f.cell (p:=⟨g,_,none⟩) e).trans (u 2 _ rfl),(f.cell (p:=⟨g,_,none⟩) e).trans (u 3 _ rfl),(f.cell (p:=⟨g,_,none⟩) e).trans (u 4 _ rfl)⟩
section
variable {H:Type}{enc:TypeId × Value->H}{W:World}
theorem qb5 {P:Program}{e:TypeId}:∀{l:List (DataW H)} {d:DataW H},d∈l->∀n∈d.weights P e,n∈DataW.weightsAll P e l
 |d'::r,d,hd,n,hn=>by
  simp only[DataW.weightsAll,List.mem_append];rcases List.mem_cons.1 hd with rfl|h
  ·exact Or.inl hn
  ·exact Or.inr (qb5 h n hn)
theorem qr3 {P:Program}{t e:TypeId}{s:Nat}(hs:0<s)(ht:P.underlying t=some (.slice e))(hc:P.cellsOf e=s){fuel:Nat}{v:Value}{y:DataW H × List MemPlace}
  (hf:DataW.trod enc P W 0 (λ_=>true) true fuel t [v]=some y):∃A n c I,v=.slice A n c/\Jf W s A n c I/\∀r∈I,∃f x,DataW.trod enc P W 0 (λ_=>true) true f e r=some x/\∀n∈x.1.weights P e,n∈y.1.weights P t:=by
 rcases Deep.open_slice ht hf with⟨E,_⟩|⟨a,len,cap,m,f,D,Pl,E,_,hl,hm,O,hy,K⟩
 ·obtain rfl:v=.slice none 0 0:=by simpa using E
  exact⟨_,_,_,[],rfl,q67 W s,λr Q=>by simp at Q⟩
 ·obtain rfl:v=.slice (some a) len cap:=by simpa using E
  rw[if_pos rfl] at O;have key:∀i,i<len->∃B:List Value,B.length=s/\(∀j,j<s->W.cell? ((a.add (i*s)).add j)=B[j]?)/\∃f x,DataW.trod enc P W 0 (λ_=>true) true f e B=some x/\∀n∈x.1.weights P e,n∈y.1.weights P t:=λi M=>by
   obtain⟨B,T,g2⟩:=K i (by omega);rw[hc] at T;obtain⟨_,G,J⟩:=World.cells?_some T;refine⟨B,G,λj u=>J j u,_,_,g2,λn hn=>?_⟩;rw[hy];simp only[DataW.weights,ht,List.mem_cons,List.mem_append];exact .inr (.inl (qb5 (List.mem_map.2 ⟨i,List.mem_range.2 M,rfl⟩) n hn))
  obtain⟨g,o,sp⟩:=a;have ks:0<len->sp=none:=λh0=>by
   obtain⟨B,h1,h2,_⟩:=key 0 h0;have Y:=h2 0 hs;rw[List.getElem?_eq_getElem (by omega)] at Y;exact q7o (show W.cell? ⟨g,o,sp⟩=some (B[0]'(by omega)) by simpa [Addr.add] using Y)
  classical
  let F:Nat->List Value:=λi=>if h:i<len then (key i h).choose else []
  have hF:∀i (h:i<len),F i=(key i h).choose:=λi h=>dif_pos h
  refine⟨_,_,_,(List.range len).map F,rfl,⟨by simp,hl,hm,λj x R=>?_⟩,λr Q=>?_⟩
  ·have u:j<len:=by have:=(List.getElem?_eq_some_iff.1 R).1;simpa using this
   rw[List.getElem?_map,List.getElem?_range u] at R;obtain rfl:F j=x:=by simpa using R
   obtain rfl:=ks (by omega);rw[hF j u];have Z:=(key j u).choose_spec;generalize (key j u).choose=X at Z ⊢;obtain⟨q1,q2,_⟩:=Z;have q3:∀i v,X[i]?=some v->W.cell? ⟨g,o+j*s+i,none⟩=some v:=λi v hv=>by
    have K:i<s:=by have:=(List.getElem?_eq_some_iff.1 hv).1;omega
    have:=q2 i K;rw[Addr.add_mid,Addr.add_mid,hv] at this;exact this
   exact⟨g,o,rfl,World.block_lt_of_cell? W _ (q3 0 _ (List.getElem?_eq_getElem (by omega))),q1,q3⟩
  ·obtain⟨j,u,rfl⟩:=List.mem_map.1 Q;have u:=List.mem_range.1 u;rw[hF j u];exact (key j u).choose_spec.2.2
theorem q9c {m:Nat}{c:Value}{y:DataW H × List MemPlace}(h:DataW.trod enc Tryz.prog W 0 (λ_=>true) true m 3 [c]=some y):∃z,c=.int .i64 z/\i64 z:=by
 obtain⟨z,e,_,f⟩:=DataW.trod_int Tryz.underlying3 h;exact⟨z,by simpa using e,bounds_i64 f⟩
theorem qmv {α:Type}{e:List (List Value)}{Q:α->Prop}{f:α->List Value}(h:∀r∈e,∃x,r=f x/\Q x):∃xs:List α,e=xs.map f/\∀x∈xs,Q x:=by
 induction e with
 |nil=>exact⟨[],rfl,λx u=>by cases u⟩
 |cons r l ih=>
  obtain⟨x,u,E⟩:=h r (List.mem_cons_self ..);obtain⟨xs,h1,h2⟩:=ih λr F=>h r (List.mem_cons_of_mem _ F)
  exact⟨x::xs,by rw[List.map_cons,<-u,<-h1],λy B=>by
   rcases List.mem_cons.1 B with rfl|B
   ·exact E
   ·exact h2 y B⟩
theorem qmw {fuel:Nat}{v0 f u:Value}{y:DataW H × List MemPlace}(J:DataW.trod enc Tryz.prog W 0 (λ_=>true) true fuel 30 [v0,f,u]=some y):∃k:Kd,[v0,f,u]=[.int .i64 k.obj,.int .i64 k.kind,.int .i64 k.off]/\i64 k.off:=by
 obtain⟨xs,m,_,_,M,B,e⟩:=DataW.trod_struct Tryz.underlying30 J;have K:Tryz.prog.cellsOf 3=1:=by kernel_rfl
 have E:DataW.trod enc Tryz.prog W 0 (λ_=>true) true m 3 (List.take (Tryz.prog.cellsOf 3) (List.drop 0 [v0,f,u]))=xs[0]?:=e 0 _ rfl;have F:DataW.trod enc Tryz.prog W 0 (λ_=>true) true m 3 (List.take (Tryz.prog.cellsOf 3) (List.drop 1 [v0,f,u]))=xs[1]?:=e 1 _ rfl;have G:DataW.trod enc Tryz.prog W 0 (λ_=>true) true m 3 (List.take (Tryz.prog.cellsOf 3) (List.drop 2 [v0,f,u]))=xs[2]?:=e 2 _ rfl;have O:xs.length=3:=B;rw[K,List.getElem?_eq_getElem (by omega)] at E F G;obtain⟨a,rfl,_⟩:=q9c (by simpa using E);obtain⟨b,rfl,_⟩:=q9c (by simpa using F);obtain⟨c,rfl,I⟩:=q9c (by simpa using G);exact⟨⟨a,b,c⟩,rfl,I⟩
theorem qr4 {fuel:Nat}{v:Value}{y:DataW H × List MemPlace}(u:DataW.trod enc Tryz.prog W 0 (λ_=>true) true fuel 31 [v]=some y)(G:∀n∈y.1.weights Tryz.prog 31,n<=reachBytes):∃A n c l,v=.slice A n c/\Sl W A n c l/\n<=140737488355328:=by
 obtain⟨A,n,c,l,rfl,F⟩:=qca Gy Tryz.underlying5 u;refine⟨A,n,c,l,rfl,F,?_⟩;rcases Deep.open_slice Gy.sl u with⟨e,_⟩|⟨a,len,cap,m,f,D,Pl,e,_,K,hm,E,I,J⟩
 ·injection e with e;injection e with _ h2;omega
 ·injection e with e;injection e with _ h2;have B:Tryz.prog.bytesOf 5=1:=by kernel_rfl
  have:=G ((((List.range len).map D).length+((List.range (m-len)).map λj=>D (len+j)).length)*Tryz.prog.bytesOf 5) (by rw[I];simp[DataW.weights,Gy.sl]);rw[B,List.length_map,List.length_range,List.length_map,List.length_range] at this;have M:reachBytes=140737488351232:=rfl;omega
theorem qmx {α:Type}:∀{l:List α},l.length=5->∃a b c d e,l=[a,b,c,d,e]
 |[a,b,c,d,e],_=>⟨a,b,c,d,e,rfl⟩
theorem qr5 {fuel:Nat}{u:List Value}{y:DataW H × List MemPlace}(T:DataW.trod enc Tryz.prog W 0 (λ_=>true) true fuel 33 u=some y)(hw:∀n∈y.1.weights Tryz.prog 33,n<=reachBytes):∃o:Ai,u=o.vs/\o.here W:=by
 obtain⟨xs,m,_,hy,Y,F,e⟩:=DataW.trod_struct Tryz.underlying33 T;have E:u.length=5:=by rw[Y];kernel_rfl
 obtain⟨v0,G,I,v3,v4,rfl⟩:=qmx E;have k1:Tryz.prog.cellsOf 3=1:=by kernel_rfl
 have k2:Tryz.prog.cellsOf 30=3:=by kernel_rfl
 have k3:Tryz.prog.cellsOf 31=1:=by kernel_rfl
 have J:DataW.trod enc Tryz.prog W 0 (λ_=>true) true m 3 (List.take (Tryz.prog.cellsOf 3) (List.drop 0 [v0,G,I,v3,v4]))=xs[0]?:=e 0 _ rfl;have K:DataW.trod enc Tryz.prog W 0 (λ_=>true) true m 30 (List.take (Tryz.prog.cellsOf 30) (List.drop 1 [v0,G,I,v3,v4]))=xs[1]?:=e 1 _ rfl;have M:DataW.trod enc Tryz.prog W 0 (λ_=>true) true m 31 (List.take (Tryz.prog.cellsOf 31) (List.drop 4 [v0,G,I,v3,v4]))=xs[2]?:=e 2 _ rfl;have hx:xs.length=3:=F;rw[k1,List.getElem?_eq_getElem (by omega)] at J;rw[k2,List.getElem?_eq_getElem (by omega)] at K;rw[k3,List.getElem?_eq_getElem (by omega)] at M;obtain⟨z,rfl,hz⟩:=q9c (by simpa using J);obtain⟨k,f,X⟩:=qmw (by simpa using K);have B:Tryz.prog.underlying 33=_:=Tryz.underlying33;obtain⟨A,n,c,l,rfl,Z,hn⟩:=qr4 (by simpa using M) λn hn=>hw n (by
  rw[hy];simp only[DataW.weights,B];exact DataW.weights_mem_each (j:=2) rfl (by rw[List.getElem?_map,List.getElem?_eq_getElem (by omega)];rfl) n hn)
 injection f with O f;injection f with Q f;injection f with R _;subst O Q R;exact⟨⟨z,k,A,n,c,l⟩,rfl,⟨hz,X,Z,hn⟩⟩
theorem qmy {v:Value}{d:DataW H}{ps:List MemPlace}(I:∃a len cap,v=.slice a len cap)(h:DataW.Trod enc Tryz.prog W 0 (λ_=>true) true 22 v d ps)(J:∀n∈d.weights Tryz.prog 22,n<=reachBytes):∃A n c os,v=.slice A n c/\Nv W A n c os:=by
 obtain⟨a,len,cap,rfl⟩:=I;obtain⟨fuel,B⟩:=h;obtain⟨A,n,c,M,e,G,F⟩:=qr3 (s:=5) (by omega) Tryz.underlying22 (by kernel_rfl) B;obtain⟨os,rfl,E⟩:=qmv (f:=Ai.vs) (Q:=λo=>o.here W) λr hm=>by
  obtain⟨f,y,K,hn⟩:=F r hm;exact qr5 K λn u=>J n (hn n u)
 exact⟨A,n,c,os,e,G,E⟩
end
end
section
variable {b z:Nat}{w w':World}{d p q:Nat}{U S:Nat->Prop}{D:DM}{P:Pl}{H H0:List Int}{m:Nat}{g:Int}{root:Int}{its:List Qc}
def Qdd (b:Nat)(w:World)(d p:Nat)(U S:Nat->Prop)(D:DM)(P:Pl)(H0:List Int)(its:List Qc)(m:Nat)(g:Int)(e:Ending)(w':World):Prop:=
 (∃r f,e=.returned (.tuple #[.int .i64 r,.int .i64 0])/\Bd b w w' d p U D P f r H0 its m g/\Turn S w w')\/((∃v,e=.returned (.tuple #[.int .i64 v,.int .i64 6]))/\P.C.free<17/\Turn S w w'/\Tab w')
theorem Qc0 {Q:Sp}{O:Ct}{K G R:Nat->Prop}(J:Ed b w d p U D P H m g)(h0:∀k,K k->U k)(h1:∀k,G k->U k){E:Option (Pl × Option Int)}(ho:Yf D Q O [] H0 P its 17 E)(hl:∀u r,E=some (u,r)->P.like u)
  {f:FuncId} {y:Array Value} (T:∀u r,E=some (u,r)->Calls Tryz.prog f y w (Gz b d p K G R D w u r)):Calls Tryz.prog f y w (Qdd b w d p U G D P H0 its m g):=by
 rcases ho with⟨u,r,I,F⟩|⟨u,I,hf⟩
 ·refine (T _ _ I).mono ?_;rintro e w' ⟨v,rfl,hv,B,X,M,td⟩;have:=hv r rfl;subst this;have Z:=hl _ _ I;have ext:=F.old;rw[Nh,Nh] at ext;have tr:=F.tree;rw[Nh] at tr;exact .inl ⟨v,u,rfl,⟨⟨⟨K,G,R,B,h0,h1⟩,λk Y=>⟨(J.low k Y).1,by have:=(J.low k Y).2;have:=X.size;omega⟩,M,⟨Q,O,F.keep⟩,J.Ya,by rw[Z.1];exact J.gen⟩,tr,Z,F.n,F.free,ext,X.mono h1⟩,X⟩
 ·refine (T _ _ I).mono ?_;rintro e w' ⟨v,rfl,_,B,X,M,td⟩;exact .inr ⟨⟨v,rfl⟩,hf,X,M⟩
structure Cln (b:Nat)(w:World)(d p q:Nat)(U:Nat->Prop)(D:DM)(P:Pl)(H:List Int)(m:Nat)(g:Int)(z:Nat):Prop where
 ed:Ed b w d p U D P H m g
 two:∃S0 S S' T,Qi b w d p S0 S T D P/\Qi b w d q S0 S' T D P/\(∀k,S0 k->U k)/\(∀k,S k->U k)/\∀k,S' k->k<z/\¬U k
theorem Cln.below (C:Cln b w d p q U D P H m g z)(hb:Below w.1.size w w'):Cln b w' d p q U D P H m g z:=by
 obtain⟨f,S,e,T,h1,h2,u,y,B⟩:=C.two;exact⟨C.ed.below hb,f,S,e,T,h1.below hb,h2.below hb,u,y,B⟩
theorem Ed.clone (E:Ed b w d p U D P H m g) :
  Calls Tryz.prog 27 #[.pointer (some ⟨p,0,none⟩)] w λe w'=>∃q,e=.returned (.pointer (some ⟨q,0,none⟩))/\Below w.1.size w w'/\Cln b w' d p q U D P H m g w'.1.size:=by
 obtain⟨F,S,T,h,h0,h1⟩:=E.sys;refine (Qc3 h).mono ?_;rintro e w' ⟨q,rfl,f,y,B⟩;exact⟨q,rfl,f,E.below f,F,S,_,_,y,B,h0,h1,λk u=>⟨u.2,λG=>by have:=(E.low k G).2;have:=u.1;omega⟩⟩
theorem Cln.ends (C:Cln b w d p q U D P H m g z):∃u f T y,Qi b w d q u f T D P/\(∀k,u k->y k)/\(∀k,f k->y k)/\(∀k,f k->k<z)/\Ed b w d q y D P H m g/\∀w',Turn f w w'->Tab w'->Ed b w' d p U D P H m g:=by
 obtain⟨u,S,f,T,h1,h2,G,B,F⟩:=C.two;have E:=C.ed;refine⟨u,f,T,λk=>u k\/f k,h2,λk=>.inl,λk=>.inr,λk e=>(F k e).1,⟨⟨u,f,T,h2,λk=>.inl,λk=>.inr⟩,λk e=>e.elim (λh=>h2.tight k (h2.sub k h)) λh=>h2.tight k (h2.Cj k h),E.tab,E.keep,E.Ya,E.gen⟩,λw' X J=>?_⟩;have K:=X.size;exact⟨⟨u,S,T,h1.own X (λk e=>h2.Cj k e) (λk e h0=>h2.apart k h0 e) (λk e I=>(F k e).2 (B k I)),G,B⟩,λk e=>⟨(E.low k e).1,by have:=(E.low k e).2;omega⟩,J,E.keep,E.Ya,E.gen⟩
def Qcz (b:Nat)(w:World)(d p q:Nat)(U:Nat->Prop)(D:DM)(P:Pl)(root:Int)(f:List Qc)(m:Nat)(g:Int)(e:Ending)(w':World):Prop:=
 (∃r u y,e=.returned (.tuple #[.int .i64 r,.int .i64 0])/\Ed b w' d q y D u (Jr r++[]) m g/\Zb (u.store D) r f/\P.C.free<=u.C.free+17/\Below b w w')\/
 ((∃v x,e=.returned (.tuple #[.int .i64 v,.int .i64 x])/\(x=10\/x=6/\P.C.free<17))/\Ed b w' d p U D P (Jr root++[]) m g/\Below b w w')
theorem Ed.U6 (E:Ed b w d p U D P H m g):P.C.free<=2048:=by
 obtain⟨_,_,K⟩:=E.keep;exact Nat.le_trans (Ct.Ov _ _) K.Zt.ok.c.1.2
theorem Ed.J9 (E:Ed b w d p U D P H m g):b<=w.1.size:=by
 obtain⟨_,_,_,h,_⟩:=E.sys;exact h.base
theorem Cln.put (C:Cln b w d p q U D P (Jr root++[]) m g z)(hb:1<b)(hT:Zb (P.store D) root its)(hr:Qd its)(hf:∀x∈its,Ze x)(k:Kd)(v:List UInt8)(f:Ze ⟨k,v⟩)(hfew:its.length<1000)(V:Option Addr)(n c:Nat)(hV:Sl w V n c v)(hVz:v≠[]->∀g,q01 V=some g->z<=g) :
  Calls Tryz.prog 30 #[.pointer (some ⟨q,0,none⟩),.int .i64 root,.agg #[.int .i64 k.obj,.int .i64 k.kind,.int .i64 k.off],.slice V n c] w (Qcz b w d p q U D P root (Zo k v false its) m g):=by
 obtain⟨S0,S',T,I,B,h0,h1,R,E,M⟩:=C.ends;obtain⟨Sk,Z,K⟩:=E.keep;have y:=hT;rw[<-Nh] at y;have O:n<=28:=by
  have:=hV.len;have:=f.2.1;have e:(⟨k,v⟩:Qc).v=v:=rfl;rw[e] at this;omega
 refine (Qc0 E h0 h1 (qtw K y hr hf f hfew (by simp)) (λ_ _ h=>qqd h) λG r e=>qty B hb E.tab E.tidy root k V n c v (λu X=>hV.turned' X λQ g J h=>by have:=hVz Q g J;have:=R g h;omega) f.1 O e).mono ?_;rintro e w' (⟨r,G,rfl,N,X⟩|⟨⟨v,rfl⟩,F,X,Y⟩)
 ·exact .inl ⟨r,G,I,rfl,N.ed,N.tree,N.free,X.below (λx f=>(B.tight x (B.Cj x f)).1) E.J9⟩
 ·exact .inr ⟨⟨v,6,rfl,.inr ⟨rfl,F⟩⟩,M w' X Y,X.below (λx f=>(B.tight x (B.Cj x f)).1) E.J9⟩
theorem Cln.del (C:Cln b w d p q U D P (Jr root++[]) m g z)(hb:1<b)(hT:Zb (P.store D) root its)(hr:Qd its)(hf:∀x∈its,Ze x)(k:Kd)(hfew:its.length<1000) :
  Calls Tryz.prog 31 #[.pointer (some ⟨q,0,none⟩),.int .i64 root,.agg #[.int .i64 k.obj,.int .i64 k.kind,.int .i64 k.off]] w (Qcz b w d p q U D P root (Jv k its) m g):=by
 obtain⟨S0,S',T,O,y,h0,h1,hz,E,Y⟩:=C.ends;by_cases F:∃x∈its,x.k.same k=true
 ·obtain⟨Sk,Ck,K⟩:=E.keep;have f:=hT;rw[<-Nh] at f;have I:root≠0:=by
   rcases hT with⟨rfl,rfl⟩|⟨l,_,_,h,_⟩
   ·obtain⟨x,B,_⟩:=F
    cases B
   ·omega
  obtain⟨up,s,Q,e2,M,R⟩:=qkj K f hr hf I k hfew (by simp);refine (Qc0 E h0 h1 (R (M.2 F)) (λ_ _ h=>qqe h) λJ r e=>qtz y hb E.tab E.tidy root k Q (M.2 F) e).mono ?_;rintro e w' (⟨r,J,rfl,N,X⟩|⟨⟨v,rfl⟩,G,X,Z⟩)
  ·exact .inl ⟨r,J,O,rfl,N.ed,N.tree,N.free,X.below (λx B=>(y.tight x (y.Cj x B)).1) E.J9⟩
  ·exact .inr ⟨⟨v,6,rfl,.inr ⟨rfl,G⟩⟩,Y w' X Z,X.below (λx B=>(y.tight x (y.Cj x B)).1) E.J9⟩
 ·refine (E.Qaz (H0:=[]) hb hT hr hf k hfew (by simp) F).mono ?_;rintro e w' ⟨rfl,u⟩;exact .inr ⟨⟨0,10,rfl,.inl rfl⟩,C.ed.below u,u.mono E.J9⟩
end
