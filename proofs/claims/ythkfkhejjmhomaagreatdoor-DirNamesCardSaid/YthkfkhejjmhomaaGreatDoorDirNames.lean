/- The statement DirNames: the walk. -/
import Derived.Test.YthkfkhejjmhomaaGreatDoorDz43
namespace Go.Proofs.YthkfkhejjmhomaaGreatDoor
open Go Go.RowKit Go.Proofs
set_option maxHeartbeats 16000000
set_option maxRecDepth 100000
theorem Zdr:Bc Tryz.prog 51 9 1 16 (.string ⟨#[]⟩):=⟨Tryz.underlying51,by kernel_rfl,rfl,by omega⟩
theorem Qyc {L:List De}{x:De}{n:ByteArray}(h:∀y∈L,y.2.name≠n)(d:x.2.name=n):Qe9 n (L++[x])=L:=by
 unfold Qe9;rw[List.filter_append];have h1:(L.filter λy=>!eqS y.2.name n)=L:=Qyb n h;rw[h1];have h2:([x].filter λy=>!eqS y.2.name n)=[]:=by simp[List.filter,(Qa5 _ _).2 d]
 rw[h2,List.append_nil]
theorem Qpf (L:List De)(o:Int)(x:Wh):Ol x.name (L++[(o,x)])=some (o,x):=by rw[Qb8,if_pos (Qym _)]
theorem Qv8 {L:List De}{n:ByteArray}(h:Rq n L=false):Ol n L=none/\∀y∈L,y.2.name≠n:=by
 rcases Qb9 n L with⟨h1,_,d⟩|⟨x,_,_,d,_⟩
 ·exact⟨h1,d⟩
 ·rw[h] at d;cases d
theorem Qwa {L:List De}{n:ByteArray}(h:Rq n L=true):∃x∈L,Ol n L=some x/\x.2.name=n:=by
 rcases Qb9 n L with⟨_,h2,_⟩|⟨x,e,h1,_,d⟩
 ·rw[h] at h2;cases h2
 ·exact⟨x,e,h1,d⟩
theorem Qt4 (x:De):kE (some x)=x.2:=rfl
theorem Qt2 (x:De):kC (some x)=0:=rfl
theorem Qt3:kE none=Wh.zero:=rfl
theorem Qt1:kC none=10:=rfl
theorem dirNames_walk (A:Option Addr)(n c:Nat)(ss:List ByteArray)(A2:Option Addr)(n2 c2:Nat)(f:Nat->Bool)(w:World)(hS:Zq w A n c ss)(hB:Bools w A2 n2 c2 f)(ht:Tab w) :
  Calls Tryz.prog 5 #[.slice A n c,.slice A2 n2 c2] w λe w'=>e=.returned (.bool true)/\Below w.1.size w w':=by
 have hG:=ht.1;have m9:=hS.cap;have l6:=hS.max;unfold maxLen at l6;obtain⟨k8,i6,hB⟩:=hB;unfold maxLen at i6;go_enter Tryz.func5,Tryz.ntmps5
 go_wp2_with fail
 refine (Qp6 w ht).mono ?_;rintro e w1 ⟨rfl,b1⟩;have t1:=ht.below b1 hG;have z1:=b1.size;go_wp2_with fail
 refine (Qi6 512 ⟨by omega,by omega⟩ w1 t1).mono ?_;rintro e T ⟨p,d0,U,D,rfl,E2,b2,hU⟩;have S2:=Qp7 E2;have d1:∀k,U k->k<T.1.size:=λk hk=>(E2.low k hk).2
 have B2:=b1.trans (b2.mono z1);have l9:(Pl.fresh 512).C.n=512:=Qov 512;have b0:1<w1.1.size:=by omega
 have b3:Below T.1.size T (T.alloc (.cells #[] 9)):=Ib;have O3:Qr (T.alloc (.cells #[] 9)) T.1.size 9 1 (some ⟨T.1.size,0,none⟩) 0 0 []:=Qwm T _ 1;have S3:Solo w1.1.size _ d0 p U (λq=>Xq (some ⟨T.1.size,0,none⟩)=some q) U D (Pl.fresh 512) 0 [] 0 100 2:=S2.more b3 (λq E=>.inr (by have E:T.1.size=q:=Option.some.inj E;have:=World.size_alloc T (.cells #[] 9);omega));have B3:=B2.trans (b3.mono B2.size);have p0:=B2.size;clear S2 E2 t1;go_wp2_with fail
 go_loopw [7,8,9] (λrv iv sv wr=>∃(j:Nat) (root:Int) (P:Pl) (L:List De) (B:Option Addr) (k d:Nat) (xs:List (List Value)),j<=n/\j<=40/\rv=.int .i64 root/\iv=.slice B k d/\sv=.int .i64 (j:Int)/\Solo w1.1.size wr d0 p U (λq=>Xq B=some q) U D P root L (2*j) 100 2/\P.C.n=512/\Qr wr T.1.size 9 1 B k d xs/\L.length=k/\Below w.1.size w wr/\T.1.size<=wr.1.size) (λ_ _ sv _=>40-(intOf sv).toNat)
 case atStart=>exact⟨0,0,_,[],_,0,0,[],Nat.zero_le _,Nat.zero_le _,rfl,rfl,rfl,S3,l9,O3,rfl,B3,b3.size⟩
 case round=>
  clear S3 O3 B3 b3;obtain⟨j,root,P,L,B,k,d,xs,o7,n0,rfl,rfl,rfl,S,Z,O,a6,BB,j8⟩:=hrel;have o1:=Qlb Z;by_cases l1:j<n/\j<40
  ·obtain⟨i4,Q⟩:=l1;obtain⟨ad,rfl,o0,i2,j0⟩:=hS.cell i4;have z:∀u,Below w.1.size w u->u.cell? (ad.add j)=some (.string (txt ss j)):=λu hu=>(hu.cell (p:=ad.add j) (by rwa [Y7])).trans i2
   obtain⟨s,i9⟩:∃s,txt ss j=s:=⟨_,rfl⟩;rw[i9] at z j0;have z:=Lib.hid z;clear i2 i9;have c0:=z.out wr BB;have e0:(0:Int)<=(j:Int):=by omega
   have e1:(j:Int)<(n:Int):=by omega
   have e2:(j:Int)<40:=by omega
   unfold maxLen at j0;by_cases o9:s.size<1
   ·have e3:(s.size:Int)<1:=by omega
    go_wp2_with fail
    exact⟨⟨j+1,root,P,L,B,k,d,xs,by omega,by omega,rfl,rfl,by go_num,S.wider (by omega),Z,O,a6,BB,j8⟩,by simp[intOf];omega⟩
   have e3:¬(s.size:Int)<1:=by omega
   by_cases n4:20<s.size
   ·have e4:(20:Int)<(s.size:Int):=by omega
    go_wp2_with fail
    exact⟨⟨j+1,root,P,L,B,k,d,xs,by omega,by omega,rfl,rfl,by go_num,S.wider (by omega),Z,O,a6,BB,j8⟩,by simp[intOf];omega⟩
   have e4:¬(20:Int)<(s.size:Int):=by omega
   have j7:(⟨s,(j:Int)+1,1⟩:Wh).may=true:=by
    unfold Wh.may Qhz Qij;dsimp only;rw[decide_eq_true (show 1<=s.size/\s.size<=20 by omega),decide_eq_true (show (1<=(j:Int)+1/\(j:Int)+1<=2147483647)/\(1:Int)<=1/\(1:Int)<=2 by omega)];rfl
   have b4:Below wr.1.size wr (wr.alloc (.cells #[.string s,.int .i64 ((j:Int)+1),.int .i64 1] 32)):=Ib;have X4:IB (wr.alloc (.cells #[.string s,.int .i64 ((j:Int)+1),.int .i64 1] 32)) wr.1.size [.string s,.int .i64 ((j:Int)+1),.int .i64 1]:=IB.new wr _ _;have a1:=BB.trans (b4.mono BB.size);have c4:=z.out _ a1;have S4:=S.below b4;have O4:=O.below b4;have e5:IntKind.i64.wrap ((j:Int)+1)=(j:Int)+1:=by simp[IntKind.wrap,IntKind.bits,IntKind.signed];omega
   have m6:=b4.size;have l4:=X4.lt;clear S O b4;go_wp2_with fail
   generalize wr.alloc (.cells #[.string s,.int .i64 ((j:Int)+1),.int .i64 1] 32)=w4 at X4 a1 c4 S4 O4 l4 m6 ⊢
   cases d9:Rq s L with
   |true=>
    obtain⟨y,m3,d4,g1⟩:=Qwa d9;have Y:=S4.look (by omega) s (some y) d4;rw[Qt4,Qt2] at Y;refine Y.mono ?_;rintro e w5 ⟨rfl,b5⟩;have b6:Below w5.1.size w5 (w5.alloc (.cells #[.string y.2.name,.int .i64 y.2.ino,.int .i64 y.2.kind] 32)):=Ib;have G:Below w4.1.size w4 (w5.alloc (.cells #[.string y.2.name,.int .i64 y.2.ino,.int .i64 y.2.kind] 32)):=b5.trans (b6.mono b5.size);have X5:=X4.below b5 X4.lt;have m0:=X5.cell 0 rfl;have m1:=X5.cell 1 rfl;have m2:=X5.cell 2 rfl;have l5:=X5.lt;have S6:=S4.below G;have O6:=O4.below G;have V:=a1.trans (G.mono a1.size);have hA:=Lib.hid (S6.add b0 (by omega) (by rw[Z];omega) ⟨s,(j:Int)+1,1⟩ j7 true d9);have k0:=G.size;clear g1 m3 d4 Y X4 X5;go_wp2_with fail
    refine hA.out.mono ?_;rintro e w7 ⟨h7,-⟩;obtain⟨rfl,b7⟩:=h7 rfl;clear m0 m1 m2 c4;go_wp2_with fail
    have m7:=b7.size;exact⟨⟨j+1,root,P,L,B,k,d,xs,by omega,by omega,rfl,rfl,by go_num,(S6.below b7).wider (by omega),Z,O6.below b7,a6,V.trans (b7.mono V.size),by omega⟩,by simp[intOf];omega⟩
   |false=>
    obtain⟨d4,g1⟩:=Qv8 d9;have Y:=S4.look (by omega) s none d4;rw[Qt3,Qt1] at Y;refine Y.mono ?_;rintro e w5 ⟨rfl,b5⟩;have b6:Below w5.1.size w5 (w5.alloc (.cells #[.string Wh.zero.name,.int .i64 Wh.zero.ino,.int .i64 Wh.zero.kind] 32)):=Ib;have G:Below w4.1.size w4 (w5.alloc (.cells #[.string Wh.zero.name,.int .i64 Wh.zero.ino,.int .i64 Wh.zero.kind] 32)):=b5.trans (b6.mono b5.size);have X5:=X4.below b5 X4.lt;have X6:=X4.below G X4.lt;have m0:=X5.cell 0 rfl;have m1:=X5.cell 1 rfl;have m2:=X5.cell 2 rfl;have l5:=X5.lt;have S6:=S4.below G;have O6:=O4.below G;have V:=a1.trans (G.mono a1.size);have hA:=Lib.hid (S6.add b0 (by omega) (by rw[Z];omega) ⟨s,(j:Int)+1,1⟩ j7 false d9);have k0:=G.size;clear Y X4 X5;go_wp2_with fail
    generalize w5.alloc (.cells #[.string Wh.zero.name,.int .i64 Wh.zero.ino,.int .i64 Wh.zero.kind] 32)=w6 at b6 G X6 S6 O6 V hA k0 ⊢;refine hA.out.mono ?_;rintro e w7 ⟨-,h7⟩;obtain⟨r7,P7,rfl,S7,n7,o8,T7⟩:=h7 rfl;have k6:=O6.Zx;have X7:=X6.keep (T7.block _ X6.lt λh=>by have:=d1 _ h;omega);have O7:=O6.turned T7 (λg hg hu=>by have:=d1 _ hu;have:=(k6 g hg).1;omega);have H:Below w.1.size w w7:=V.trans (T7.below (λg hg=>by have:=hU g hg;omega) V.size);have c7:=z.out _ H;have l7:=X7.lt;have m7:=T7.size;have c9:P7.C.n=512:=n7.trans Z;have b9:=S7.look (by omega) s (some (Om L,⟨s,(j:Int)+1,1⟩)) (Qpf L _ ⟨s,(j:Int)+1,1⟩);rw[Qt4,Qt2] at b9;replace b9:=Lib.hid b9;clear m0 m1 m2 c4 l5 S6 O6 V hA h7;go_wp2_with fail
    refine b9.out.mono ?_;rintro e F ⟨rfl,b8⟩;have Z1:Below F.1.size F (F.alloc (.cells #[.string s,.int .i64 ((j:Int)+1),.int .i64 1] 32)):=Ib;have d5:Below w7.1.size w7 (F.alloc (.cells #[.string s,.int .i64 ((j:Int)+1),.int .i64 1] 32)):=b8.trans (Z1.mono b8.size);have X8:=X7.below b8 X7.lt;have m0:=X8.cell 0 rfl;have m1:=X8.cell 1 rfl;have m2:=X8.cell 2 rfl;have l8:=X8.lt;have S9:=S7.below d5;have O9:=O7.below d5;have J:=H.trans (d5.mono H.size);have c8:=z.out _ J;have p1:=d5.size;have k3:=z.out F (H.trans (b8.mono H.size));have g9:(L++[(Om L,(⟨s,(j:Int)+1,1⟩:Wh))]).length=k+1:=by rw[List.length_append,a6];rfl
    have l0:Qe9 s (L++[(Om L,(⟨s,(j:Int)+1,1⟩:Wh))])=L:=Qyc g1 rfl;clear c7 X7 X8 X6 b9 S7 O7 Z1;have i3:k<=200:=by have:=S9.few;omega
    by_cases l2:j<n2
    ·have e6:(j:Int)<(n2:Int):=by omega
     obtain⟨K,k5,m8,f4⟩:=hB j l2;subst k5;have d2:F.cell? (K.add j)=some (.bool (f j)):=((H.trans (b8.mono H.size)).cell (p:=K.add j) (by rwa [Y7])).trans f4;have d3:(F.alloc (.cells #[.string s,.int .i64 ((j:Int)+1),.int .i64 1] 32)).cell? (K.add j)=some (.bool (f j)):=(J.cell (p:=K.add j) (by rwa [Y7])).trans f4
     cases d8:f j with
     |true=>
      rw[d8] at d2;rw[d8] at d3;have i0:K.block<F.1.size:=by have:=H.size;have:=b8.size;omega
      have i1:(K.add j).block<F.1.size:=by rwa [Y7]
      have hR:=Lib.hid (S9.remove b0 (by omega) (by rw[c9];have:=Qlb c9;omega) s (some (Om L,⟨s,(j:Int)+1,1⟩)) (Qpf L _ ⟨s,(j:Int)+1,1⟩));rw[l0] at hR;have f5:=Qhx .neq (.inr rfl);have f7:=Qr5;go_wp2_with fail
      refine hR.out.mono ?_;rintro e g2 ⟨-,g8⟩;obtain⟨m5,k1,rfl,a2,m4,f3⟩:=g8 nofun;have k7:=O9.Zx;have W:=O9.turned f3 (λg hg hu=>by have:=d1 _ hu;have:=(k7 g hg).1;omega);have m:Below w.1.size w g2:=J.trans (f3.below (λg hg=>by have:=hU g hg;omega) J.size);have k2:=z.out _ m;have e7:=f3.size;have c6:=a2.look (by omega) s none d4;rw[Qt3,Qt1] at c6;replace c6:=Lib.hid c6;clear m0 m1 m2 c8 k3 d2 d3 hR g8 f4 f5 f7;go_wp2_with fail
      refine c6.out.mono ?_;rintro e R ⟨rfl,g7⟩;have Z2:Below R.1.size R (R.alloc (.cells #[.string Wh.zero.name,.int .i64 Wh.zero.ino,.int .i64 Wh.zero.kind] 32)):=Ib;have I:Below g2.1.size g2 (R.alloc (.cells #[.string Wh.zero.name,.int .i64 Wh.zero.ino,.int .i64 Wh.zero.kind] 32)):=g7.trans (Z2.mono g7.size);have n5:=I.size;clear c6 k2;go_wp2_with fail
      exact⟨⟨j+1,m5,k1,L,B,k,d,xs,by omega,by omega,rfl,rfl,by go_num,(a2.below I).wider (by omega),m4.trans c9,W.below I,a6,m.trans (I.mono m.size),by omega⟩,by simp[intOf];omega⟩
     |false=>
      rw[d8] at d2;rw[d8] at d3;have i0:K.block<F.1.size:=by have:=H.size;have:=b8.size;omega
      have i1:(K.add j).block<F.1.size:=by rwa [Y7]
      have f5:=Qhx .neq (.inr rfl);have f7:=Qr5;have Zl:Below (F.alloc (.cells #[.string s,.int .i64 ((j:Int)+1),.int .i64 1] 32)).1.size (F.alloc (.cells #[.string s,.int .i64 ((j:Int)+1),.int .i64 1] 32)) ((F.alloc (.cells #[.string s,.int .i64 ((j:Int)+1),.int .i64 1] 32)).alloc (.cells #[.string s] 9)):=Ib;have d6:Zg ((F.alloc (.cells #[.string s,.int .i64 ((j:Int)+1),.int .i64 1] 32)).alloc (.cells #[.string s] 9)) 1 (some ⟨F.1.size+1,0,none⟩) 1 1 [[.string s]]:=by
       have h1:=(Np (F.alloc (.cells #[.string s,.int .i64 ((j:Int)+1),.int .i64 1] 32)) 9 1 [.string s] #[.string s] rfl rfl).Hr (by omega);rwa [World.size_alloc] at h1
      have W:=O9.below Zl;have a2:=S9.below Zl;have m:=J.trans (Zl.mono J.size);have e7:=Zl.size;have M:=W.Zx;have g5:T.1.size<=((F.alloc (.cells #[.string s,.int .i64 ((j:Int)+1),.int .i64 1] 32)).alloc (.cells #[.string s] 9)).1.size:=by omega
      go_wp2_with (first
       |(at_builtin;refine Qbh _ Zdr rfl (.tmp 151) (.tmp 156) rfl T.1.size B k d xs rfl W _ 1 1 [[.string s]] rfl d6 (by omega) (by simp[Value.oneCell']) (by omega) (by decide) g5 ?_;intro B' d' R a7 X a8 _)
       |fail)
      have f0:Solo w1.1.size R d0 p U (λq=>Xq B'=some q) U D P7 r7 _ _ 100 2:=a2.own b0 X (λq E=>E) (λq E hu=>by have:=(M q E).1;have:=d1 q hu;omega) (λq E=>by
       rcases a8 with h|h
       ·exact .inl (by rw[<-h];exact E)
       ·rw[h] at E;have E:((F.alloc (.cells #[.string s,.int .i64 ((j:Int)+1),.int .i64 1] 32)).alloc (.cells #[.string s] 9)).1.size=q:=Option.some.inj E;have h1:=(a7.Zx q (by rw[h,E])).2;exact .inr ⟨by omega,h1⟩)
      have j9:=X.size;exact⟨⟨j+1,r7,P7,_,B',k+1,d',_,by omega,by omega,rfl,rfl,by go_num,f0.wider (by omega),c9,a7,g9,m.trans (X.below (λq E=>by have:=(M q E).1;omega) m.size),by omega⟩,by simp[intOf];omega⟩
    ·have e6:¬(j:Int)<(n2:Int):=by omega
     have f5:=Qhx .neq (.inr rfl);have f7:=Qr5;have Zl:Below (F.alloc (.cells #[.string s,.int .i64 ((j:Int)+1),.int .i64 1] 32)).1.size (F.alloc (.cells #[.string s,.int .i64 ((j:Int)+1),.int .i64 1] 32)) ((F.alloc (.cells #[.string s,.int .i64 ((j:Int)+1),.int .i64 1] 32)).alloc (.cells #[.string s] 9)):=Ib;have d6:Zg ((F.alloc (.cells #[.string s,.int .i64 ((j:Int)+1),.int .i64 1] 32)).alloc (.cells #[.string s] 9)) 1 (some ⟨F.1.size+1,0,none⟩) 1 1 [[.string s]]:=by
       have h1:=(Np (F.alloc (.cells #[.string s,.int .i64 ((j:Int)+1),.int .i64 1] 32)) 9 1 [.string s] #[.string s] rfl rfl).Hr (by omega);rwa [World.size_alloc] at h1
     have W:=O9.below Zl;have a2:=S9.below Zl;have m:=J.trans (Zl.mono J.size);have e7:=Zl.size;have M:=W.Zx;have g5:T.1.size<=((F.alloc (.cells #[.string s,.int .i64 ((j:Int)+1),.int .i64 1] 32)).alloc (.cells #[.string s] 9)).1.size:=by omega
     go_wp2_with (first
      |(at_builtin;refine Qbh _ Zdr rfl (.tmp 151) (.tmp 156) rfl T.1.size B k d xs rfl W _ 1 1 [[.string s]] rfl d6 (by omega) (by simp[Value.oneCell']) (by omega) (by decide) g5 ?_;intro B' d' R a7 X a8 _)
      |fail)
     have f0:Solo w1.1.size R d0 p U (λq=>Xq B'=some q) U D P7 r7 _ _ 100 2:=a2.own b0 X (λq E=>E) (λq E hu=>by have:=(M q E).1;have:=d1 q hu;omega) (λq E=>by
      rcases a8 with h|h
      ·exact .inl (by rw[<-h];exact E)
      ·rw[h] at E;have E:((F.alloc (.cells #[.string s,.int .i64 ((j:Int)+1),.int .i64 1] 32)).alloc (.cells #[.string s] 9)).1.size=q:=Option.some.inj E;have h1:=(a7.Zx q (by rw[h,E])).2;exact .inr ⟨by omega,h1⟩)
     have j9:=X.size;exact⟨⟨j+1,r7,P7,_,B',k+1,d',_,by omega,by omega,rfl,rfl,by go_num,f0.wider (by omega),c9,a7,g9,m.trans (X.below (λq E=>by have:=(M q E).1;omega) m.size),by omega⟩,by simp[intOf];omega⟩
  ·have hL:=S.list (by omega);have g0:=Qfj (rows_names S.row);have l3:(Rt (Qcw L)).length=k:=by rw[(Qen _).length_eq,Qjs,a6]
   replace g0:=Lib.hid g0;have i3:k<=200:=by have:=S.few;omega
   by_cases i4:j<n
   case' pos=>
    obtain rfl:j=40:=by omega
    have e1:(40:Int)<(n:Int):=by omega
    have e2:¬(40:Int)<40:=by omega
    go_wp2_with fail
   case' neg=>
    have e1:¬(j:Int)<(n:Int):=by omega
    go_wp2_with fail
   all_goals
    refine hL.mono ?_;rintro e w3 ⟨A3,n3,c3,rfl,d7,b3⟩;have i8:=d7.len;rw[l3] at i8;subst i8;obtain⟨k9,i7⟩:=d7.bounds;unfold maxLen at i7;have g6:=BB.trans (b3.mono BB.size);clear S O hL;go_wp2_with fail
    go_loopw [23] (λsv wq=>∃q:Nat,q<=k/\sv=.int .i64 ((q:Int)+1)/\Below w3.1.size w3 wq) (λsv _=>k+1-(intOf sv).toNat)
    case atStart=>exact⟨0,Nat.zero_le _,rfl,Below.refl _ _⟩
    case round=>
     obtain⟨q,o6,rfl,bq⟩:=hrel;by_cases i5:q+1<k
     ·have n1:q<k:=by omega
      obtain⟨g3,o3,rfl,o2,f8⟩:=(d7.below bq).at_ (j:=q) (by omega);obtain⟨g4,o4,e,_,f9⟩:=(d7.below bq).at_ (j:=q+1) i5;injection e with e;injection e with f1 f2;subst f1 f2;have Q:Nw (Qc4 (Rt (Qcw L)) q).name (Qc4 (Rt (Qcw L)) (q+1)).name=true:=by
       rw[Qii (by omega),Qii (by omega)];exact List.pairwise_iff_getElem.1 g0.out q (q+1) (by omega) (by omega) (by omega)
      obtain⟨x,hx⟩:∃x,Qc4 (Rt (Qcw L)) q=x:=⟨_,rfl⟩;obtain⟨y,hy⟩:∃y,Qc4 (Rt (Qcw L)) (q+1)=y:=⟨_,rfl⟩;rw[hx] at f8 Q;rw[hy] at f9 Q;have x0:=f8 0 _ rfl;have y0:=f9 0 _ rfl;rw[Nat.add_zero] at x0 y0;have E:Op.bytesLess x.name.toList y.name.toList=true:=Q;have e8:(0:Int)<=(q:Int):=by omega
      have e9:(q:Int)<(k:Int):=by omega
      have d6:(0:Int)<=(q:Int)+1:=by omega
      have k4:(q:Int)+1<(k:Int):=by omega
      have n6:IntKind.i64.wrap ((q:Int)+1-1)=(q:Int):=by simp[IntKind.wrap,IntKind.bits,IntKind.signed];omega
      have n9:IntKind.i64.wrap (q:Int)=(q:Int):=by simp[IntKind.wrap,IntKind.bits,IntKind.signed];omega
      have n8:((q:Int)+1).toNat=q+1:=by omega
      have o5:∀u:World,(binOp .geq 9 (.string x.name) (.string y.name)).run Tryz.prog u=.ok (.bool false) u:=λu=>by simp[binOp,Op.stringOp,E]
      clear f8 f9 Q hx hy;go_wp2_with fail
      go_quiet (fail)
      have bD:=below_drewN bq;go_wp2_with fail
      exact⟨⟨q+1,by omega,by go_num,(by first|exact bD _|exact bq|exact bq.drew)⟩,by simp[intOf];omega⟩
     ·have k4:¬(q:Int)+1<(k:Int):=by omega
      go_wp2_with fail
      go_ret;exact⟨rfl,g6.trans (bq.mono g6.size)⟩
