/- The reference's order: a node of a tree that is in order. -/
import Derived.Test.YtnnbaihfboacoaaGreatDoorEu36
namespace Go.Proofs.YtnnbaihfboacoaaGreatDoor
open Go Go.RowKit Go.Proofs
set_option maxHeartbeats 16000000
set_option maxRecDepth 100000
def Qeh (b:Nat):Option Addr->List UInt8->Prop:=λV v=>v≠[]->∀g,q01 V=some g->g<b
theorem Qea {w:World}{A:Option Addr}{n c:Nat}{xs:List Qc}(h:Zl w A n c xs):Zg (Qeh w.1.size) w A n c xs:=by
 obtain⟨b,h1,h2,f⟩:=h;refine⟨b,h1,h2,λj r x u B=>?_⟩;obtain⟨V,p,q,e,d⟩:=f j r x u B;exact⟨V,p,q,e,d,λy g m=>d.Qa y g m⟩
def Qdn (b:Nat)(its:List Qc)(w:World)(e:Ending)(w':World):Prop:=∃B m d,e=.returned (.tuple #[.slice B m d,.bool true])/\Zg (Qeh b) w' B m d its/\Below w.1.size w w'
section
variable {Q:World->Prop}{wl:World}
theorem Qed (hQ:∀w',Below wl.1.size wl w'->Q w')(A:Option Addr)(n c:Nat)(Ns:List (Int × Nd))(hI:Anl Q wl A n c Ns)(hn:n<=100000)(a:Int)(N:Nd)(e3:Gs Ns a=some N)(G:N.may=true)(its:List Qc)(hr:Qd its)(j8:its.length<=1000)
  (parts:List (List Qc)) (hp:parts.length=N.kids.length) (b0:its=N.items++parts.flatten) (i5:∀j,j<N.kids.length->∃y r,parts.getD j []=y::r/\(Qg N.kids j).k=y.k)
  (hk:∀j,j<N.kids.length->∀w',Below wl.1.size wl w'->Calls Tryz.prog 37 #[.slice A n c,.int .i64 (Qg N.kids j).a,.int .i64 (N.lvl-1),.bool false] w' (Qdn wl.1.size (parts.getD j []) w'))
  (w:World) (hw:Below wl.1.size wl w) :
  Calls Tryz.prog 37 #[.slice A n c,.int .i64 a,.int .i64 N.lvl,.bool true] w (Qdn wl.1.size its w):=by
 have i1:=qe3 G;have e6:=Nj G;have f9:=Lib.hid (λ(u:World) (hu:Below w.1.size w u)=>Qd2 (Q:=Q) A n c Ns a u (hI.below (hw.trans (hu.mono hw.size))) hn);have zl:=hw.size;obtain⟨L,hL⟩:∃L,N.lvl=L:=⟨_,rfl⟩;rw[hL] at hk i1 ⊢;obtain⟨L1,d0⟩:∃L1,(L:Int)-1=L1:=⟨_,rfl⟩;rw[d0] at hk;have i9:IntKind.i64.wrap (L-1)=L1:=by rw[<-d0];exact IntWalk.i64_in _ (by omega)
 have g6:=Lib.hid hk;have e4:=Lib.hid e3;have E:=Lib.hid b0;clear b0;clear hk e3 d0;go_enter Tryz.func37,Tryz.ntmps37
 go_wp2_with fail
 refine (f9.out w (Below.refl _ _)).mono ?_;rintro e w2 ⟨A1,n1,c1,B1,m1,d1,rfl,i4,i2,a6,b2⟩;rw[e4.out] at a6 ⊢;simp only[Option.getD_some,Option.isSome_some] at a6 ⊢;rw[hL];have g7:=Lib.hid hL;clear hL;have c7:Zl wl A1 n1 c1 N.items/\Zm wl B1 m1 d1 N.kids:=a6 wl (hQ wl (Below.refl _ _));have hF:=Qea c7.1;have c8:=c7.2;have k9:=hF.Zq.len;have k8:=c8.len;clear c7 a6;have d6:Below wl.1.size wl w2:=hw.trans (b2.mono hw.size);go_wp2_with (first
  |(refine Gt rfl (.tmp 10) _ rfl w2.1.size rfl L A1 n1 c1 B1 m1 d1 rfl (NB.new w2 0 none 0 0 none 0 0 75) ?_;intro w3 R3 T3;have b3:Below w2.1.size w2 w3:=(Qm).trans (T3.below (λk hk=>by have:k=w2.1.size:=hk;omega) (by simp));have c0:=R3.c0;have U:=R3.c1;have c2:=R3.c2)
  |fail)
 have a7:Below wl.1.size wl w3:=d6.trans (b3.mono d6.size);have Hm:=Qdv N A1 n1 c1 B1 m1 d1 w3 (hF.Zq.below a7) (c8.below a7) i4 i2;rw[g7.out,G] at Hm;refine Hm.mono ?_;rintro e f ⟨rfl,b4⟩;have R4:=R3.below b4 R3.lt;have zr:=R3.lt;have z4:=b4.size;have z3:=b3.size;have z2:=d6.size;have a8:Below wl.1.size wl f:=a7.trans (b4.mono a7.size);have b5:Below w.1.size w f:=b2.trans ((b3.trans (b4.mono b3.size)).mono b2.size);clear c0 U c2 T3;have c0:=R4.c0;have U:=R4.c1;have c2:=R4.c2;clear Hm G e6;have bl:Below f.1.size f (f.alloc (.cells #[] 68)):=Qm;have J0:=q26 (F:=Qeh wl.1.size) f;have R5:=R4.below bl R4.lt;have g1:=R5.c1;have e2:=hF.below (a8.trans (bl.mono a8.size));go_wp2_with (first
  |(at_builtin;refine q8x rfl _ _ rfl f.1.size (some ⟨f.1.size,0,none⟩) 0 0 [] rfl J0 A1 n1 c1 N.items rfl e2 (λV v hV hv g hg e=>by have h1:=hV hv g hg;have h2:f.1.size=g:=Option.some.inj e;omega) (by omega) (by simp) ?_;intro A6 c6 w6 J6 T6 g5)
  |fail)
 have b6:Below f.1.size f w6:=bl.trans (T6.below (λk hk=>by have:f.1.size=k:=Option.some.inj hk;omega) (by simp));clear J0 R5 g1 e2 c0 U c2;have R6:=R4.below b6 R4.lt;have f3:Below wl.1.size wl w6:=a8.trans (b6.mono a8.size);have d8:Below w.1.size w w6:=b5.trans (b6.mono b5.size);have z6:=b6.size;rw[List.nil_append] at J6;clear T6 g5 bl b6;go_loopw [13,14,15,16] (λlv i _ _ wr=>∃(j q:Nat) (A':Option Addr) (c':Nat) (out:List Qc),j<=m1/\i=.int .i64 (j:Int)/\lv=.slice A' q c'/\Je (Qeh wl.1.size) wr f.1.size A' q c' out/\out=N.items++(parts.take j).flatten/\NB wr w2.1.size L A1 n1 c1 B1 m1 d1/\Below wl.1.size wl wr/\Below w.1.size w wr/\f.1.size<=wr.1.size) (λ_ i _ _ _=>m1-(intOf i).toNat)
 case atStart=>exact⟨0,0+n1,A6,c6,_,Nat.zero_le _,rfl,by first|rfl|simp,J6,by simp,R6,f3,d8,z6⟩
 case round=>
  clear J6 R6 f3 d8 z6;obtain⟨j,q,A',c',out,hj,rfl,rfl,J,I,R,Z,B,zz⟩:=hrel;have i8:=J.Gn.Zq.len;have c0:=R.c0;have U:=R.c1;have c2:=R.c2;by_cases i0:j<m1
  ·obtain⟨g,o,rfl,hg,k0,k1,k2,k3⟩:=c8.cell i0;obtain⟨y,r,f2,f1⟩:=i5 j (by omega);have Hk:=g6.out j (by omega) wr Z;obtain⟨ka,e7⟩:∃ka,(Qg N.kids j).a=ka:=⟨_,rfl⟩;rw[e7] at k3 Hk;rw[f1] at k0 k1 k2;have HK:=Lib.hid (λ(u:World) (hu:Below wl.1.size wl u)=>show u.cell? ⟨g,o+j*4,none⟩=some (.int .i64 y.k.obj)/\u.cell? ⟨g,o+j*4+1,none⟩=some (.int .i64 y.k.kind)/\u.cell? ⟨g,o+j*4+2,none⟩=some (.int .i64 y.k.off)/\u.cell? ⟨g,o+j*4+3,none⟩=some (.int .i64 ka) from
    ⟨(hu.cell (p:=⟨g,_,none⟩) hg).trans k0,(hu.cell (p:=⟨g,_,none⟩) hg).trans k1,(hu.cell (p:=⟨g,_,none⟩) hg).trans k2,(hu.cell (p:=⟨g,_,none⟩) hg).trans k3⟩)
   clear k0 k1 k2 k3 f1 e7;obtain⟨k0,k1,k2,k3⟩:=HK.out wr Z;have e0:(0:Int)<=(j:Int):=by omega
   have e1:(j:Int)<(m1:Int):=by omega
   replace Hk:=Lib.hid Hk;go_wp2_with fail
   refine Hk.out.mono ?_;rintro e w7 ⟨B2,m2,d2,rfl,hx,b7⟩;have H:=hx.Zq.len;rw[f2] at hx H;have i3:0<m2:=by rw[<-H];simp
   have d4:j<parts.length:=by omega
   have e8:parts[j]=y::r:=by rw[<-f2,List.getD_eq_getElem?_getD,List.getElem?_eq_getElem d4];rfl
   have D:its=out++((y::r)++(parts.drop (j+1)).flatten):=by
    have h3:(y::r)++(parts.drop (j+1)).flatten=(parts.drop j).flatten:=by
     rw[List.drop_eq_getElem_cons d4,List.flatten_cons,e8]
    rw[h3,E.out,I,List.append_assoc,<-List.flatten_append,List.take_append_drop]
   have f4:q+m2<=1000:=by
    have h1:=congrArg List.length D;rw[List.length_append,List.length_append,H,i8] at h1;omega
   have M:∀z∈out,z.k.less y.k=true:=λz hz=>by
    rw[D] at hr;exact (List.pairwise_append.1 hr).2.2 z hz y (by simp)
   have Y:out++(y::r)=N.items++(parts.take (j+1)).flatten:=by
    rw[I,List.take_succ_eq_append_getElem d4,List.flatten_append,List.append_assoc,e8];simp
   replace J:=J.below b7;replace R:=R.below b7 R.lt;replace B:=B.trans (b7.mono B.size);replace Z:=Z.trans (b7.mono Z.size);replace zz:=Nat.le_trans zz b7.size;clear k0 k1 k2 k3 c0 U c2 b7 Hk H;obtain⟨g2,o2,V2,p2,q2,rfl,d,x0,x1,x2,_,_⟩:=hx.cell i3;have j0:Qj (y::r) 0=y:=rfl;rw[j0] at x0 x1 x2;rw[Nat.zero_mul,Nat.add_zero] at x0 x1 x2;have i6:=q9x;have i7:=q2b y.k y.k true false (qwu _) rfl;have gm:((m2:Int)==0)=false:=by simp;omega
   have k6:(m2==0)=false:=by simp;omega
   have k7:¬m2=0:=by omega
   have j9:(0:Int)<(m2:Int):=by omega
   have X0:=λu:Grown w7=>Grown.cell x0 d u
   have X1:=λu:Grown w7=>Grown.cell x1 d u
   have X2:=λu:Grown w7=>Grown.cell x2 d u
   have k0:=λu:Grown w7=>(HK.out u.to (Z.trans (u.ok.mono Z.size))).1
   have k1:=λu:Grown w7=>(HK.out u.to (Z.trans (u.ok.mono Z.size))).2.1
   have k2:=λu:Grown w7=>(HK.out u.to (Z.trans (u.ok.mono Z.size))).2.2.1
   have g4:=λu:Grown w7=>Grown.cell R.c2 R.lt u
   go_wp2_with fail
   refine Yc (by kernel_rfl) (by kernel_rfl) ?_;repeat (go_big_quiet_step (fail))
   refine wpQuiet_nil ?_;rintro _ ⟨u,rfl⟩;clear X0 X1 X2 k0 k1 k2 g4 i7 i6;replace J:=J.below u.ok;replace R:=R.below u.ok R.lt;replace B:=B.trans (u.ok.mono B.size);replace Z:=Z.trans (u.ok.mono Z.size);replace zz:=Nat.le_trans zz u.ok.size;replace hx:=hx.below u.ok;have y0:=(u.ok.cell (p:=⟨g2,_,none⟩) d).trans x0;have y1:=(u.ok.cell (p:=⟨g2,_,none⟩) d).trans x1;have y2:=(u.ok.cell (p:=⟨g2,_,none⟩) d).trans x2;replace d:g2<u.to.1.size:=Nat.lt_of_lt_of_le d u.ok.size;clear x0 x1 x2;generalize u.to=O at J R B Z zz hx y0 y1 y2 d ⊢;clear u;clear D E;have l1:Below O.1.size O O:=Below.refl _ _;have m:∀(w9:World) (_:Below O.1.size O w9) (A9:Option Addr) (c9:Nat) (b:World) (_:Je (Qeh wl.1.size) b f.1.size A9 (q+m2) c9 (out++(y::r))) (_:Turn (λk=>q01 A'=some k) w9 b),NB b w2.1.size L A1 n1 c1 (some ⟨g,o,none⟩) m1 d1/\Below wl.1.size wl b/\Below w.1.size w b/\f.1.size<=b.1.size:=λw9 b9 A9 c9 b K T=>by
    have hA:=J.Qa;have g0:Below f.1.size w9 b:=T.below (λk hk=>(hA k hk).1) (Nat.le_trans zz b9.size);have b8:Below f.1.size O b:=(b9.mono zz).trans g0;have l2:=b8.size;exact⟨(R.below b8 (by omega)),Z.trans (b8.mono (by omega)),B.trans (b8.mono (by have:=b5.size;omega)),by omega⟩
   replace m:=Lib.hid m;by_cases d5:q=0
   ·have g8:decide ((0:Int)<(q:Int))=false:=decide_eq_false (by omega);have g9:decide (0<q)=false:=decide_eq_false (by omega);replace d5:=Lib.hid d5;go_wp2_with fail
    refine Yc (by kernel_rfl) (by kernel_rfl) ?_;repeat (go_big_quiet_step (fail))
    refine wpQuiet_nil ?_;rintro _ ⟨u,rfl⟩;have J9:=J.below u.ok;have a1:=hx.below u.ok;have X:=u.ok;have a2:=Nat.le_trans zz u.ok.size;generalize u.to=w9 at J9 a1 X a2 ⊢;clear u;go_wp2_with (first
     |(at_builtin;refine q8x rfl _ _ rfl f.1.size A' q c' out rfl J9 (some ⟨g2,o2,none⟩) m2 d2 (y::r) rfl a1 (λV v hV hv g hg e=>by have h1:=hV hv g hg;have h2:=(J9.Qa g e).1;omega) (by omega) a2 ?_;intro P W b K T d9)
     |fail)
    obtain⟨r1,r2,r3,r4⟩:=m.out w9 X P W b K T;go_wp2;exact⟨⟨j+1,q+m2,P,W,_,by omega,by go_num,rfl,K,Y,r1,r2,r3,r4⟩,by simp[intOf];omega⟩
   ·have f0:q-1<q:=by omega
    obtain⟨ql,b1⟩:∃ql,q-1=ql:=⟨_,rfl⟩;rw[b1] at f0;obtain⟨z,d7⟩:∃z,Qj out ql=z:=⟨_,rfl⟩;have j7:z∈out:=by
     rw[<-d7];have h1:ql<out.length:=by omega
     have e:Qj out ql=out[ql]:=by unfold Qj;rw[List.getD_eq_getElem?_getD,List.getElem?_eq_getElem h1];rfl
     rw[e];exact List.getElem_mem h1
    have hl:=M z j7;have e9:(0:Int)<(q:Int):=by omega
    have g8:decide ((0:Int)<(q:Int))=true:=decide_eq_true e9;have g9:decide (0<q)=true:=decide_eq_true (by omega);have k4:(0:Int)<=(ql:Int):=by omega
    have k5:(ql:Int)<(q:Int):=by omega
    have l0:IntKind.i64.wrap ((q:Int)-1)=(ql:Int):=by rw[show (q:Int)-1=(ql:Int) by omega];exact IntWalk.i64_in _ (by omega)
    obtain⟨g3,o3,V3,p3,q3,rfl,d3,x0,x1,x2,_,_⟩:=J.Gn.cell f0;rw[d7] at x0 x1 x2;have HL:=Lib.hid (λu=>q17 z.k y.k true hl u);have X0:=λu:Grown O=>Grown.cell x0 d3 u
    have X1:=λu:Grown O=>Grown.cell x1 d3 u
    have X2:=λu:Grown O=>Grown.cell x2 d3 u
    have Y0:=λu:Grown O=>Grown.cell y0 d u
    have Y1:=λu:Grown O=>Grown.cell y1 d u
    have Y2:=λu:Grown O=>Grown.cell y2 d u
    clear x0 x1 x2 d7 hl y0 y1 y2 b1 d5;go_wp2_with fail
    refine Yc (by kernel_rfl) (by kernel_rfl) ?_;repeat (go_big_quiet_step (first|(go_at_call 66;exact Calls.grown (HL.out _))|fail))
    refine wpQuiet_nil ?_;rintro _ ⟨u,rfl⟩;clear X0 X1 X2 Y0 Y1 Y2;have J9:=J.below u.ok;have a1:=hx.below u.ok;have X:=u.ok;have a2:=Nat.le_trans zz u.ok.size;generalize u.to=w9 at J9 a1 X a2 ⊢;clear u;go_wp2_with (first
     |(at_builtin;refine q8x rfl _ _ rfl f.1.size (some ⟨g3,o3,none⟩) q c' out rfl J9 (some ⟨g2,o2,none⟩) m2 d2 (y::r) rfl a1 (λV v hV hv g hg e=>by have h1:=hV hv g hg;have h2:=(J9.Qa g e).1;omega) (by omega) a2 ?_;intro P W b K T d9)
     |fail)
    obtain⟨r1,r2,r3,r4⟩:=m.out w9 X P W b K T;go_wp2;exact⟨⟨j+1,q+m2,P,W,_,by omega,by go_num,rfl,K,Y,r1,r2,r3,r4⟩,by simp[intOf];omega⟩
  ·obtain rfl:j=m1:=by omega
   have e5:out=its:=by rw[I,E.out,List.take_of_length_le (by omega)]
   subst e5;clear I;go_wp2;go_ret2;exact⟨_,_,_,rfl,J.Gn,B⟩
theorem Qe6 (hQ:∀Y,Below wl.1.size wl Y->Q Y)(A:Option Addr)(n c:Nat)(Ns:List (Int × Nd))(hI:Anl Q wl A n c Ns)(hn:n<=100000)(a:Int)(N:Nd)(a8:Gs Ns a=some N)(b:N.may=true)(c8:N.enough)(b5:N.lvl=0)(its:List Qc)(hr:Qd its)(d4:its.length<=1000)
  (parts:List (List Qc)) (hp:parts.length=N.kids.length) (K:its=N.items++parts.flatten) (_:∀j,j<N.kids.length->∃y r,parts.getD j []=y::r/\(Qg N.kids j).k=y.k)
  (_hk:∀j,j<N.kids.length->∀Y,Below wl.1.size wl Y->Calls Tryz.prog 37 #[.slice A n c,.int .i64 (Qg N.kids j).a,.int .i64 (N.lvl-1),.bool false] Y (Qdn wl.1.size (parts.getD j []) Y))
  (w:World) (hw:Below wl.1.size wl w) :
  Calls Tryz.prog 37 #[.slice A n c,.int .i64 a,.int .i64 0,.bool false] w (Qdn wl.1.size its w):=by
 have d7:=qe3 b;have f:=Nj b;have b8:=Lib.hid (λ(u:World) (hu:Below w.1.size w u)=>Qd2 (Q:=Q) A n c Ns a u (hI.below (hw.trans (hu.mono hw.size))) hn);have zl:=hw.size;have hL:N.lvl=0:=b5;rw[hL] at _hk;have b0:=Lib.hid a8;have T:=Lib.hid K;clear K;clear _hk a8;go_enter Tryz.func37,Tryz.ntmps37
 go_wp2_with fail
 refine (b8.out w (Below.refl _ _)).mono ?_;rintro e W ⟨A1,I,c1,B1,m1,d1,rfl,d3,d0,D,b2⟩;rw[b0.out] at D ⊢;simp only[Option.getD_some,Option.isSome_some] at D ⊢;rw[hL];have E:=Lib.hid hL;clear hL b5;have P:Zl wl A1 I c1 N.items/\Zm wl B1 m1 d1 N.kids:=D wl (hQ wl (Below.refl _ _));have hF:=Qea P.1;have a7:=P.2;have d8:=hF.Zq.len;have d2:=a7.len;clear P D;have U:Below wl.1.size wl W:=hw.trans (b2.mono hw.size);go_wp2_with (first
  |(refine Gt rfl (.tmp 10) _ rfl W.1.size rfl 0 A1 I c1 B1 m1 d1 rfl (NB.new W 0 none 0 0 none 0 0 75) ?_;intro w3 X T3;have b3:Below W.1.size W w3:=(Qm).trans (T3.below (λk hk=>by have:k=W.1.size:=hk;omega) (by simp));have c0:=X.c0;have p:=X.c1;have c2:=X.c2)
  |fail)
 have G:Below wl.1.size wl w3:=U.trans (b3.mono U.size);have Hm:=Qdv N A1 I c1 B1 m1 d1 w3 (hF.Zq.below G) (a7.below G) d3 d0;rw[E.out,b] at Hm;refine Hm.mono ?_;rintro e d ⟨rfl,b4⟩;have O:=X.below b4 X.lt;have zr:=X.lt;have z4:=b4.size;have z3:=b3.size;have z2:=U.size;have H:Below wl.1.size wl d:=G.trans (b4.mono G.size);have a1:Below w.1.size w d:=b2.trans ((b3.trans (b4.mono b3.size)).mono b2.size);clear c0 p c2 T3;have g3:¬(I:Int)<3:=by
  have h1:=c8;unfold Nd.enough at h1;rw[if_pos E.out,f.1 E.out] at h1;simp at h1;omega
 have d5:decide ((I:Int)<3)=false:=decide_eq_false g3;have d6:decide (I<3)=false:=decide_eq_false (by omega);have c0:=O.c0;have p:=O.c1;have c2:=O.c2;have m:0=m1:=by rw[<-d2,f.1 E.out];rfl
 replace m:=Lib.hid m;clear Hm b f;have bl:Below d.1.size d (d.alloc (.cells #[] 68)):=Qm;have J0:=q26 (F:=Qeh wl.1.size) d;have R5:=O.below bl O.lt;have b9:=R5.c1;have a6:=hF.below (H.trans (bl.mono H.size));go_wp2_with (first
  |(at_builtin;refine q8x rfl _ _ rfl d.1.size (some ⟨d.1.size,0,none⟩) 0 0 [] rfl J0 A1 I c1 N.items rfl a6 (λV v hV hv g hg e=>by have h1:=hV hv g hg;have h2:d.1.size=g:=Option.some.inj e;omega) (by omega) (by simp) ?_;intro A6 c6 w6 J6 T6 c7)
  |fail)
 have b6:Below d.1.size d w6:=bl.trans (T6.below (λk hk=>by have:d.1.size=k:=Option.some.inj hk;omega) (by simp));clear J0 R5 b9 a6 c0 p c2;have R6:=O.below b6 O.lt;have b7:Below wl.1.size wl w6:=H.trans (b6.mono H.size);have a2:Below w.1.size w w6:=a1.trans (b6.mono a1.size);have z6:=b6.size;rw[List.nil_append] at J6;clear T6 c7 bl b6;obtain rfl:=m.out;go_loopw [13,14,15,16] (λlv i _ _ wr=>∃(j q:Nat) (A':Option Addr) (c':Nat) (out:List Qc),j<=0/\i=.int .i64 (j:Int)/\lv=.slice A' q c'/\Je (Qeh wl.1.size) wr d.1.size A' q c' out/\out=N.items++(parts.take j).flatten/\NB wr W.1.size 0 A1 I c1 B1 0 d1/\Below wl.1.size wl wr/\Below w.1.size w wr/\d.1.size<=wr.1.size) (λ_ i _ _ _=>0-(intOf i).toNat)
 case atStart=>exact⟨0,0+I,A6,c6,_,Nat.zero_le _,rfl,by first|rfl|simp,J6,by simp,R6,b7,a2,z6⟩
 case round=>
  clear J6 R6 b7 a2 z6;obtain⟨j,q,A',c',out,hj,rfl,rfl,J,M,R,Z,B,zz⟩:=hrel;have d9:=J.Gn.Zq.len;have c0:=R.c0;have p:=R.c1;have c2:=R.c2;by_cases c9:j<0
  ·exact absurd c9 (by omega)
  ·obtain rfl:j=0:=by omega
   have b1:out=its:=by rw[M,T.out,List.take_of_length_le (by omega)]
   subst b1;clear M;go_wp2;go_ret2;exact⟨_,_,_,rfl,J.Gn,B⟩
theorem Qer (hQ:∀w',Below wl.1.size wl w'->Q w')(A:Option Addr)(n c:Nat)(Ns:List (Int × Nd))(hI:Anl Q wl A n c Ns)(hn:n<=100000)(a:Int)(N:Nd)(e5:Gs Ns a=some N)(G:N.may=true)(i1:N.enough)(i2:N.lvl≠0)(its:List Qc)(hr:Qd its)(k5:its.length<=1000)
  (parts:List (List Qc)) (hp:parts.length=N.kids.length) (b1:its=N.items++parts.flatten) (i8:∀j,j<N.kids.length->∃y r,parts.getD j []=y::r/\(Qg N.kids j).k=y.k)
  (hk:∀j,j<N.kids.length->∀w',Below wl.1.size wl w'->Calls Tryz.prog 37 #[.slice A n c,.int .i64 (Qg N.kids j).a,.int .i64 (N.lvl-1),.bool false] w' (Qdn wl.1.size (parts.getD j []) w'))
  (w:World) (hw:Below wl.1.size wl w) :
  Calls Tryz.prog 37 #[.slice A n c,.int .i64 a,.int .i64 N.lvl,.bool false] w (Qdn wl.1.size its w):=by
 have i4:=qe3 G;have b0:=Nj G;have g1:=Lib.hid (λ(u:World) (hu:Below w.1.size w u)=>Qd2 (Q:=Q) A n c Ns a u (hI.below (hw.trans (hu.mono hw.size))) hn);have zl:=hw.size;obtain⟨L,hL⟩:∃L,N.lvl=L:=⟨_,rfl⟩;rw[hL] at hk i4 ⊢;rw[hL] at i2;obtain⟨L1,d3⟩:∃L1,(L:Int)-1=L1:=⟨_,rfl⟩;rw[d3] at hk;have j8:IntKind.i64.wrap (L-1)=L1:=by rw[<-d3];exact IntWalk.i64_in _ (by omega)
 have g8:=Lib.hid hk;have e6:=Lib.hid e5;have E:=Lib.hid b1;clear b1;clear hk e5 d3;go_enter Tryz.func37,Tryz.ntmps37
 go_wp2_with fail
 refine (g1.out w (Below.refl _ _)).mono ?_;rintro e w2 ⟨A1,n1,c1,B1,m1,d1,rfl,i7,i5,a6,b2⟩;rw[e6.out] at a6 ⊢;simp only[Option.getD_some,Option.isSome_some] at a6 ⊢;rw[hL];have e4:=Lib.hid hL;clear hL;have c8:Zl wl A1 n1 c1 N.items/\Zm wl B1 m1 d1 N.kids:=a6 wl (hQ wl (Below.refl _ _));have hF:=Qea c8.1;have d0:=c8.2;have l3:=hF.Zq.len;have l2:=d0.len;clear c8 a6;have d7:Below wl.1.size wl w2:=hw.trans (b2.mono hw.size);go_wp2_with (first
  |(refine Gt rfl (.tmp 10) _ rfl w2.1.size rfl L A1 n1 c1 B1 m1 d1 rfl (NB.new w2 0 none 0 0 none 0 0 75) ?_;intro w3 R3 T3;have b3:Below w2.1.size w2 w3:=(Qm).trans (T3.below (λk hk=>by have:k=w2.1.size:=hk;omega) (by simp));have c0:=R3.c0;have U:=R3.c1;have c2:=R3.c2)
  |fail)
 have a7:Below wl.1.size wl w3:=d7.trans (b3.mono d7.size);have Hm:=Qdv N A1 n1 c1 B1 m1 d1 w3 (hF.Zq.below a7) (d0.below a7) i7 i5;rw[e4.out,G] at Hm;refine Hm.mono ?_;rintro e f ⟨rfl,b4⟩;have R4:=R3.below b4 R3.lt;have zr:=R3.lt;have z4:=b4.size;have z3:=b3.size;have z2:=d7.size;have a8:Below wl.1.size wl f:=a7.trans (b4.mono a7.size);have c7:Below w.1.size w f:=b2.trans ((b3.trans (b4.mono b3.size)).mono b2.size);clear c0 U c2 T3;have g0:(L==0)=false:=by simp;omega
 have k9:(0:Int)<L:=by omega
 have g3:¬(m1:Int)<6:=by
  have h0:¬N.lvl=0:=by rw[e4.out];omega
  have h1:=i1;unfold Nd.enough at h1;rw[if_neg h0,b0.2 h0] at h1;simp at h1;omega
 have c0:=R4.c0;have U:=R4.c1;have c2:=R4.c2;clear Hm G b0;have bl:Below f.1.size f (f.alloc (.cells #[] 68)):=Qm;have J0:=q26 (F:=Qeh wl.1.size) f;have R5:=R4.below bl R4.lt;have g5:=R5.c1;have e3:=hF.below (a8.trans (bl.mono a8.size));go_wp2_with (first
  |(at_builtin;refine q8x rfl _ _ rfl f.1.size (some ⟨f.1.size,0,none⟩) 0 0 [] rfl J0 A1 n1 c1 N.items rfl e3 (λV v hV hv g hg e=>by have h1:=hV hv g hg;have h2:f.1.size=g:=Option.some.inj e;omega) (by omega) (by simp) ?_;intro A6 c6 w6 J6 T6 g7)
  |fail)
 have b6:Below f.1.size f w6:=bl.trans (T6.below (λk hk=>by have:f.1.size=k:=Option.some.inj hk;omega) (by simp));clear J0 R5 g5 e3 c0 U c2;have R6:=R4.below b6 R4.lt;have f4:Below wl.1.size wl w6:=a8.trans (b6.mono a8.size);have d9:Below w.1.size w w6:=c7.trans (b6.mono c7.size);have z6:=b6.size;rw[List.nil_append] at J6;clear T6 g7 bl b6;go_loopw [13,14,15,16] (λlv i _ _ wr=>∃(j q:Nat) (A':Option Addr) (c':Nat) (out:List Qc),j<=m1/\i=.int .i64 (j:Int)/\lv=.slice A' q c'/\Je (Qeh wl.1.size) wr f.1.size A' q c' out/\out=N.items++(parts.take j).flatten/\NB wr w2.1.size L A1 n1 c1 B1 m1 d1/\Below wl.1.size wl wr/\Below w.1.size w wr/\f.1.size<=wr.1.size) (λ_ i _ _ _=>m1-(intOf i).toNat)
 case atStart=>exact⟨0,0+n1,A6,c6,_,Nat.zero_le _,rfl,by first|rfl|simp,J6,by simp,R6,f4,d9,z6⟩
 case round=>
  clear J6 R6 f4 d9 z6;obtain⟨j,q,A',c',out,hj,rfl,rfl,J,I,R,Z,B,zz⟩:=hrel;have j7:=J.Gn.Zq.len;have c0:=R.c0;have U:=R.c1;have c2:=R.c2;by_cases i3:j<m1
  ·obtain⟨g,o,rfl,hg,k0,k1,k2,k3⟩:=d0.cell i3;obtain⟨y,r,f3,f2⟩:=i8 j (by omega);have Hk:=g8.out j (by omega) wr Z;obtain⟨ka,e8⟩:∃ka,(Qg N.kids j).a=ka:=⟨_,rfl⟩;rw[e8] at k3 Hk;rw[f2] at k0 k1 k2;have HK:=Lib.hid (λ(u:World) (hu:Below wl.1.size wl u)=>show u.cell? ⟨g,o+j*4,none⟩=some (.int .i64 y.k.obj)/\u.cell? ⟨g,o+j*4+1,none⟩=some (.int .i64 y.k.kind)/\u.cell? ⟨g,o+j*4+2,none⟩=some (.int .i64 y.k.off)/\u.cell? ⟨g,o+j*4+3,none⟩=some (.int .i64 ka) from
    ⟨(hu.cell (p:=⟨g,_,none⟩) hg).trans k0,(hu.cell (p:=⟨g,_,none⟩) hg).trans k1,(hu.cell (p:=⟨g,_,none⟩) hg).trans k2,(hu.cell (p:=⟨g,_,none⟩) hg).trans k3⟩)
   clear k0 k1 k2 k3 f2 e8;obtain⟨k0,k1,k2,k3⟩:=HK.out wr Z;have e0:(0:Int)<=(j:Int):=by omega
   have e1:(j:Int)<(m1:Int):=by omega
   replace Hk:=Lib.hid Hk;go_wp2_with fail
   refine Hk.out.mono ?_;rintro e w7 ⟨B2,m2,d2,rfl,hx,b7⟩;have H:=hx.Zq.len;rw[f3] at hx H;have i6:0<m2:=by rw[<-H];simp
   have d5:j<parts.length:=by omega
   have e9:parts[j]=y::r:=by rw[<-f3,List.getD_eq_getElem?_getD,List.getElem?_eq_getElem d5];rfl
   have D:its=out++((y::r)++(parts.drop (j+1)).flatten):=by
    have h3:(y::r)++(parts.drop (j+1)).flatten=(parts.drop j).flatten:=by
     rw[List.drop_eq_getElem_cons d5,List.flatten_cons,e9]
    rw[h3,E.out,I,List.append_assoc,<-List.flatten_append,List.take_append_drop]
   have f9:q+m2<=1000:=by
    have h1:=congrArg List.length D;rw[List.length_append,List.length_append,H,j7] at h1;omega
   have M:∀z∈out,z.k.less y.k=true:=λz hz=>by
    rw[D] at hr;exact (List.pairwise_append.1 hr).2.2 z hz y (by simp)
   have Y:out++(y::r)=N.items++(parts.take (j+1)).flatten:=by
    rw[I,List.take_succ_eq_append_getElem d5,List.flatten_append,List.append_assoc,e9];simp
   replace J:=J.below b7;replace R:=R.below b7 R.lt;replace B:=B.trans (b7.mono B.size);replace Z:=Z.trans (b7.mono Z.size);replace zz:=Nat.le_trans zz b7.size;clear k0 k1 k2 k3 c0 U c2 b7 Hk H;obtain⟨g2,o2,V2,p2,q2,rfl,d,x0,x1,x2,_,_⟩:=hx.cell i6;have j9:Qj (y::r) 0=y:=rfl;rw[j9] at x0 x1 x2;rw[Nat.zero_mul,Nat.add_zero] at x0 x1 x2;have i9:=q9x;have j0:=q2b y.k y.k true false (qwu _) rfl;have gm:((m2:Int)==0)=false:=by simp;omega
   have l0:(m2==0)=false:=by simp;omega
   have l1:¬m2=0:=by omega
   have k6:(0:Int)<(m2:Int):=by omega
   have X0:=λu:Grown w7=>Grown.cell x0 d u
   have X1:=λu:Grown w7=>Grown.cell x1 d u
   have X2:=λu:Grown w7=>Grown.cell x2 d u
   have k0:=λu:Grown w7=>(HK.out u.to (Z.trans (u.ok.mono Z.size))).1
   have k1:=λu:Grown w7=>(HK.out u.to (Z.trans (u.ok.mono Z.size))).2.1
   have k2:=λu:Grown w7=>(HK.out u.to (Z.trans (u.ok.mono Z.size))).2.2.1
   have g6:=λu:Grown w7=>Grown.cell R.c2 R.lt u
   go_wp2_with fail
   refine Yc (by kernel_rfl) (by kernel_rfl) ?_;repeat (go_big_quiet_step (fail))
   refine wpQuiet_nil ?_;rintro _ ⟨u,rfl⟩;clear X0 X1 X2 k0 k1 k2 g6 j0 i9;replace J:=J.below u.ok;replace R:=R.below u.ok R.lt;replace B:=B.trans (u.ok.mono B.size);replace Z:=Z.trans (u.ok.mono Z.size);replace zz:=Nat.le_trans zz u.ok.size;replace hx:=hx.below u.ok;have y0:=(u.ok.cell (p:=⟨g2,_,none⟩) d).trans x0;have y1:=(u.ok.cell (p:=⟨g2,_,none⟩) d).trans x1;have y2:=(u.ok.cell (p:=⟨g2,_,none⟩) d).trans x2;replace d:g2<u.to.1.size:=Nat.lt_of_lt_of_le d u.ok.size;clear x0 x1 x2;generalize u.to=O at J R B Z zz hx y0 y1 y2 d ⊢;clear u;clear D E;have l5:Below O.1.size O O:=Below.refl _ _;have m:∀(w9:World) (_:Below O.1.size O w9) (A9:Option Addr) (c9:Nat) (b:World) (_:Je (Qeh wl.1.size) b f.1.size A9 (q+m2) c9 (out++(y::r))) (_:Turn (λk=>q01 A'=some k) w9 b),NB b w2.1.size L A1 n1 c1 (some ⟨g,o,none⟩) m1 d1/\Below wl.1.size wl b/\Below w.1.size w b/\f.1.size<=b.1.size:=λw9 b9 A9 c9 b K T=>by
    have hA:=J.Qa;have g4:Below f.1.size w9 b:=T.below (λk hk=>(hA k hk).1) (Nat.le_trans zz b9.size);have b8:Below f.1.size O b:=(b9.mono zz).trans g4;have l6:=b8.size;exact⟨(R.below b8 (by omega)),Z.trans (b8.mono (by omega)),B.trans (b8.mono (by have:=c7.size;omega)),by omega⟩
   replace m:=Lib.hid m;by_cases d6:q=0
   ·have g9:decide ((0:Int)<(q:Int))=false:=decide_eq_false (by omega);have i0:decide (0<q)=false:=decide_eq_false (by omega);replace d6:=Lib.hid d6;go_wp2_with fail
    refine Yc (by kernel_rfl) (by kernel_rfl) ?_;repeat (go_big_quiet_step (fail))
    refine wpQuiet_nil ?_;rintro _ ⟨u,rfl⟩;have J9:=J.below u.ok;have a1:=hx.below u.ok;have X:=u.ok;have a2:=Nat.le_trans zz u.ok.size;generalize u.to=w9 at J9 a1 X a2 ⊢;clear u;go_wp2_with (first
     |(at_builtin;refine q8x rfl _ _ rfl f.1.size A' q c' out rfl J9 (some ⟨g2,o2,none⟩) m2 d2 (y::r) rfl a1 (λV v hV hv g hg e=>by have h1:=hV hv g hg;have h2:=(J9.Qa g e).1;omega) (by omega) a2 ?_;intro P W b K T e2)
     |fail)
    obtain⟨r1,r2,r3,r4⟩:=m.out w9 X P W b K T;go_wp2;exact⟨⟨j+1,q+m2,P,W,_,by omega,by go_num,rfl,K,Y,r1,r2,r3,r4⟩,by simp[intOf];omega⟩
   ·have f1:q-1<q:=by omega
    obtain⟨ql,b5⟩:∃ql,q-1=ql:=⟨_,rfl⟩;rw[b5] at f1;obtain⟨z,d8⟩:∃z,Qj out ql=z:=⟨_,rfl⟩;have k4:z∈out:=by
     rw[<-d8];have h1:ql<out.length:=by omega
     have e:Qj out ql=out[ql]:=by unfold Qj;rw[List.getD_eq_getElem?_getD,List.getElem?_eq_getElem h1];rfl
     rw[e];exact List.getElem_mem h1
    have hl:=M z k4;have f0:(0:Int)<(q:Int):=by omega
    have g9:decide ((0:Int)<(q:Int))=true:=decide_eq_true f0;have i0:decide (0<q)=true:=decide_eq_true (by omega);have k7:(0:Int)<=(ql:Int):=by omega
    have k8:(ql:Int)<(q:Int):=by omega
    have l4:IntKind.i64.wrap ((q:Int)-1)=(ql:Int):=by rw[show (q:Int)-1=(ql:Int) by omega];exact IntWalk.i64_in _ (by omega)
    obtain⟨g3,o3,V3,p3,q3,rfl,d4,x0,x1,x2,_,_⟩:=J.Gn.cell f1;rw[d8] at x0 x1 x2;have HL:=Lib.hid (λu=>q17 z.k y.k true hl u);have X0:=λu:Grown O=>Grown.cell x0 d4 u
    have X1:=λu:Grown O=>Grown.cell x1 d4 u
    have X2:=λu:Grown O=>Grown.cell x2 d4 u
    have Y0:=λu:Grown O=>Grown.cell y0 d u
    have Y1:=λu:Grown O=>Grown.cell y1 d u
    have Y2:=λu:Grown O=>Grown.cell y2 d u
    clear x0 x1 x2 d8 hl y0 y1 y2 b5 d6;go_wp2_with fail
    refine Yc (by kernel_rfl) (by kernel_rfl) ?_;repeat (go_big_quiet_step (first|(go_at_call 66;exact Calls.grown (HL.out _))|fail))
    refine wpQuiet_nil ?_;rintro _ ⟨u,rfl⟩;clear X0 X1 X2 Y0 Y1 Y2;have J9:=J.below u.ok;have a1:=hx.below u.ok;have X:=u.ok;have a2:=Nat.le_trans zz u.ok.size;generalize u.to=w9 at J9 a1 X a2 ⊢;clear u;go_wp2_with (first
     |(at_builtin;refine q8x rfl _ _ rfl f.1.size (some ⟨g3,o3,none⟩) q c' out rfl J9 (some ⟨g2,o2,none⟩) m2 d2 (y::r) rfl a1 (λV v hV hv g hg e=>by have h1:=hV hv g hg;have h2:=(J9.Qa g e).1;omega) (by omega) a2 ?_;intro P W b K T e2)
     |fail)
    obtain⟨r1,r2,r3,r4⟩:=m.out w9 X P W b K T;go_wp2;exact⟨⟨j+1,q+m2,P,W,_,by omega,by go_num,rfl,K,Y,r1,r2,r3,r4⟩,by simp[intOf];omega⟩
  ·obtain rfl:j=m1:=by omega
   have e7:out=its:=by rw[I,E.out,List.take_of_length_le (by omega)]
   subst e7;clear I;go_wp2;go_ret2;exact⟨_,_,_,rfl,J.Gn,B⟩
end
