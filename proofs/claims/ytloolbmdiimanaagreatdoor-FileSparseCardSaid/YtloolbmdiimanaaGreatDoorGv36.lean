/- The code's edit: way -/
import Derived.Test.YtloolbmdiimanaaGreatDoorGv35
namespace Go.Proofs.YtloolbmdiimanaaGreatDoor
open Go Go.RowKit Go.Proofs Tryz
set_option maxHeartbeats 8000000
set_option maxRecDepth 100000
def slN:Value->Nat
 |.slice _ n _=>n
 |_=>0
section
variable {b:Nat}{w:WD}{d p:Nat}{S0 S T:NP}{D:DM}{P:Pl}
theorem qui {w:WD}{e:Nat}{N:Nd}{f:Int}{u:Nat}{hd g:Bool}{A B:OA}{n c m d:Nat}(H:RB w e (Ea ⟨N,f,u,hd,g⟩ A n c B m d))(t:Nat):RB (w.setCell ⟨e,4,none⟩ (.int .i64 (t:Int))) e (Ea ⟨N,f,t,hd,g⟩ A n c B m d)/\Turn (λk=>k=e) w (w.setCell ⟨e,4,none⟩ (.int .i64 (t:Int)))/\w.frozen? ⟨e,4,none⟩=false:=by
 refine⟨?_,Cc (a:=⟨e,4,none⟩) _ rfl,(H.there 4 (show 4<7 by omega)).2⟩;obtain⟨y,H⟩:=H;exact⟨y,D6 _ H⟩
theorem q9d (H:Qh b w d p S0 S T D P)(ht:Tab w)(d3:∀a b,P.L a=some b->b.kindOk)(M:∀a,P.Qe D a=0->(P.Qd D a).fit/\0<=(P.Qd D a).lvl/\(P.Qd D a).lvl<8)(root:Int)(k:Kd){up:List Qr}{s:Qr}(E:P.way D root k=some (up,s)) :
  Calls prog 112 #[tv p,.int .i64 root,.agg #[.int .i64 k.obj,.int .i64 k.kind,.int .i64 k.off]] w λe w'=>∃X n c,e=.returned (.tuple #[.slice X n c,.int .i64 0])/\Vo (Turn (λk=>k<w.1.size) w') w' X n c (up.reverse++[s])/\(∀g,q01 X=some g->w.1.size<=g)/\Below w.1.size w w':=by
 have hS:=H.low;have b2:Below w.1.size w ((w.alloc (.cells #[.pointer (some ⟨p,0,none⟩)] 188)).alloc (.cells #[.int .i64 k.obj,.int .i64 k.kind,.int .i64 k.off] 81)):=(Ql).alloc (by simp) _;have T1:RB ((w.alloc (.cells #[.pointer (some ⟨p,0,none⟩)] 188)).alloc (.cells #[.int .i64 k.obj,.int .i64 k.kind,.int .i64 k.off] 81)) w.1.size [.pointer (some ⟨p,0,none⟩)]:=(RB.new w [.pointer (some ⟨p,0,none⟩)] 188).below (Ql) (by simp);have K1:RB ((w.alloc (.cells #[.pointer (some ⟨p,0,none⟩)] 188)).alloc (.cells #[.int .i64 k.obj,.int .i64 k.kind,.int .i64 k.off] 81)) (w.1.size+1) [.int .i64 k.obj,.int .i64 k.kind,.int .i64 k.off]:=by
  have:=RB.new (w.alloc (.cells #[.pointer (some ⟨p,0,none⟩)] 188)) [.int .i64 k.obj,.int .i64 k.kind,.int .i64 k.off] 81;rwa [BH] at this
 have y0:=T1.cell 0 rfl;have b6:((w.alloc (.cells #[.pointer (some ⟨p,0,none⟩)] 188)).alloc (.cells #[.int .i64 k.obj,.int .i64 k.kind,.int .i64 k.off] 81)).1.size=w.1.size+1+1:=by simp
 unfold Pl.way at E;unfold tv;by_cases h0:root=0
 ·rw[AA h0] at E;subst h0;injection OI E with e1 e2;subst e1 e2;clear E;go_enter func112,ntmps112
  go_wp2_with fail
  generalize ((w.alloc (.cells #[.pointer (some ⟨p,0,none⟩)] 188)).alloc (.cells #[.int .i64 k.obj,.int .i64 k.kind,.int .i64 k.off] 81))=w1 at b2 T1 K1 y0 b6 ⊢;have h1:=qin (S:=λk=>k<w.1.size) (w:=w1) (λk J=>by have J:k<w.1.size:=J;omega) (Q:=Turn (λk=>k<w.1.size) (w1.alloc (.cells #[.int .i64 0,.slice none 0 0,.slice none 0 0,.int .i64 0,.int .i64 0,.bool true,.bool true] 195))) q44 (qpy _ 0) 195 _ (Turn.refl _ _);rw[b6] at h1;go_ret2;exact⟨some ⟨w.1.size+1+1,0,none⟩,1,1,rfl,h1,λg y=>(by injection y with y;have y:w.1.size+1+1=g:=y;omega),b2.alloc b2.size _⟩
 ·rw[AB h0] at E;have hE:P.Qe D root=0:=by
   refine Classical.byContradiction λhh=>?_
   rw[AB hh] at E;cases E
  rw[AA hE] at E;have Hr:=λ(u:WD) (hu:Below w.1.size w u)=>qgc (H.below hu) (ht.below hu ht.1) d3 root false hE
  unfold tv Vm at Hr;obtain⟨d0,d1,d2⟩:=M root hE;obtain⟨s0,d8⟩:∃s0,P.spot D root false=s0:=⟨_,rfl⟩;rw[d8] at E Hr;replace Hr:=HI Hr;replace E:=HI E;replace M:=HI M;go_enter func112,ntmps112
  go_wp2_with fail
  generalize ((w.alloc (.cells #[.pointer (some ⟨p,0,none⟩)] 188)).alloc (.cells #[.int .i64 k.obj,.int .i64 k.kind,.int .i64 k.off] 81))=w1 at b2 T1 K1 y0 b6 ⊢;refine (Hr.out w1 b2).mono ?_;rintro e F ⟨A,n,c,B,m,U,rfl,W,b3⟩;have eN:P.Qd D root=s0.N:=by rw[<-d8];rfl
  rw[eN] at W d0 d1 d2;go_wp2_with (first
   |(refine Nz rfl _ _ rfl F.1.size rfl s0.N.lvl A n c B m U s0.addr (s0.next:Int) s0.held s0.shared rfl (Ii F) rfl ?_;intro w3 R3 T3)
   |fail)
  have z3:=b3.size;have bA:Below F.1.size F w3:=((AI _ _).alloc (AE _) Ui).trans (T3.below (λk J=>by have:k=F.1.size:=J;omega) (by simp));have B3:Below w1.1.size w1 w3:=b3.trans (bA.mono z3);have z4:=bA.size;have z5:=R3.lt;go_loopw [8,10] (λl e wr=>∃(f:Nat) (q:Qr) (a0:List Qr) (A:OA) (n c:Nat) (B:OA) (m U:Nat) (X:OA) (nn cc:Nat) (Dt:NP),l=.slice X nn cc/\e=.int .i64 0/\nn+f=8/\P.Gp D k f q a0=some (up,s)/\RB wr F.1.size (Ea q A n c B m U)/\Je (Dq Dt wr) q.N A n c B m U/\Uj (Dq Dt wr) wr (F.1.size+1) X nn cc a0.reverse/\(∀k,Dt k->w.1.size<=k/\k<wr.1.size/\k≠F.1.size/\q01 X≠some k)/\q.N.fit/\0<=q.N.lvl/\q.N.lvl<8/\RB wr w.1.size [.pointer (some ⟨p,0,none⟩)]/\RB wr (w.1.size+1) [.int .i64 k.obj,.int .i64 k.kind,.int .i64 k.off]/\Below w.1.size w wr/\F.1.size+1<=wr.1.size) (λl _ _=>8-slN l)
  case atStart=>
   refine⟨8,s0,[],A,n,c,B,m,U,none,0,0,λk=>w1.1.size<=k/\k<F.1.size,rfl,rfl,rfl,E.out,R3,W.mono λv hv=>qqm (w:=F) (qb1 (S:=λ_=>False) (Zb bA) (λ_ h=>h.elim) hv) λk h1 h2=>⟨h1,h2⟩,qug _ _ _,λk J=>⟨by omega,by omega,by omega,λh=>by cases h⟩,d0,d1,d2,T1.below B3 T1.lt,K1.below B3 K1.lt,b2.trans (B3.mono b2.size),by omega⟩
  case round=>
   clear R3 T3 W E;obtain⟨f,q,a0,A,n,c,B,m,U,X,nn,cc,Dt,rfl,rfl,g6,E,Y,W,row,I,d4,f8,d5,TT,KK,hb,g7⟩:=hrel;obtain⟨N,K,nx,hd,R⟩:=q;have e0:=Y.cell 0 rfl;have e1:=Y.cell 1 rfl;have e2:=Y.cell 2 rfl;have e3:=Y.cell 3 rfl;have e4:=Y.cell 4 rfl;have e5:=Y.cell 5 rfl;have e6:=Y.cell 6 rfl;have y0:=TT.cell 0 rfl;have k0:=KK.cell 0 rfl;have k1:=KK.cell 1 rfl;have k2:=KK.cell 2 rfl;have f7:=W.hn;have f6:=W.hm;dsimp only at d4 f8 d5 f7 f6 W;by_cases a5:N.lvl<=0
   ·have y:¬(0:Int)<N.lvl:=by omega
    obtain⟨rfl,rfl⟩:a0=up/\(⟨N,K,nx,hd,R⟩:Qr)=s:=by
     cases f with
     |zero=>unfold Pl.Gp at E;rw[AA a5] at E;injection OI E with e1 e2;exact⟨e1,e2⟩
     |succ f=>unfold Pl.Gp at E;rw[AA a5] at E;injection OI E with e1 e2;exact⟨e1,e2⟩
    clear E;have bL:Below wr.1.size wr (wr.alloc (.cells #[.int .i64 N.lvl,.slice A n c,.slice B m U,.int .i64 K,.int .i64 (nx:Int),.bool hd,.bool R] 195)):=Ql;have G:=row.Qc;go_wp2_with (first
     |(at_builtin;refine q8r (s:=⟨N,K,nx,hd,R⟩) rfl _ _ rfl rfl (row.below bL) rfl (qvu wr ⟨N,K,nx,hd,R⟩ A n c B m U) W (by omega) (by have:=bL.size;omega) ?_;intro X2 f1 w4 a9 T4 _)
     |fail)
    have TW:Turn (λg=>q01 X=some g) wr w4:=(Zb (S:=λg=>q01 X=some g) bL).trans T4 λk J=>.inl J
    have bw:Below w.1.size wr w4:=TW.below (λg y=>by have:=(G g y).1;omega) (by omega);go_ret2;refine⟨X2,nn+1,f1,rfl,(a9.mono λv hv=>?_).spl,λg y=>by have:=(a9.Qc g y).1;omega,hb.trans bw⟩;exact qb1 TW (λg y hd=>(I g hd).2.2.2 y) (qz4 hv λg y=>(I g y).1)
   ·have y:(0:Int)<N.lvl:=by omega
    cases f with
    |zero=>unfold Pl.Gp at E;rw[AB a5] at E;cases E
    |succ f=>
     unfold Pl.Gp at E;rw[AB a5] at E;dsimp only at E;obtain⟨t,b5⟩:∃t,N.Zo k=t:=⟨_,rfl⟩;rw[b5] at E;have a7:P.Wj D ⟨N,K,nx,hd,R⟩ t=true:=by
      refine Classical.byContradiction λhh=>?_
      rw[AB hh] at E;cases E
     rw[AA a7] at E;have a3:P.Wj D ⟨N,K,t,hd,R⟩ t=true:=a7;obtain⟨rr,d6⟩:∃rr,Uf N.keys k t=rr:=⟨_,rfl⟩;have HC:=q3h N d4 k t b5 rr d6 A n c B m U wr (W.its.Y6 (Turn.refl _ _)) (W.Bg _ (Turn.refl _ _)) (by omega) (by omega);have G:=row.Qc;obtain⟨Z,a4⟩:∃Z,P.Jd D ⟨N,K,t,hd,R⟩ t=Z:=⟨_,rfl⟩;have a8:P.Jd D ⟨N,K,nx,hd,R⟩ t=Z:=a4;rw[a8] at E;obtain⟨g1,g2,g3⟩:=M.out (Qi N.kids t).a (AK a3).2.1;have eK:P.Qd D (Qi N.kids t).a=Z.N:=by rw[<-a4];rfl
     rw[eK] at g1 g2 g3;replace E:=HI E;replace a3:=HI a3;clear a8 b5 d6 eK;go_wp2_with fail
     refine HC.mono ?_;rintro e w4 ⟨rfl,b4⟩;obtain⟨R5,T5,g4⟩:=qui (Y.below b4 Y.lt) t;have p4:=(Y.below b4 Y.lt).cell 4 rfl;have g8:=b4.size;have b8:Turn (λg=>g=F.1.size) wr (w4.setCell ⟨F.1.size,4,none⟩ (.int .i64 (t:Int))):=(Zb (S:=λg=>g=F.1.size) b4).trans T5 λk J=>.inl J
     clear e0 e1 e2 e3 e4 e5 e6 y0 k0 k1 k2;have e0:=R5.cell 0 rfl;have e1:=R5.cell 1 rfl;have e2:=R5.cell 2 rfl;have e3:=R5.cell 3 rfl;have e4:=R5.cell 4 rfl;have e5:=R5.cell 5 rfl;have e6:=R5.cell 6 rfl;have i0:=T5.size;have bL:Below (w4.setCell ⟨F.1.size,4,none⟩ (.int .i64 (t:Int))).1.size (w4.setCell ⟨F.1.size,4,none⟩ (.int .i64 (t:Int))) ((w4.setCell ⟨F.1.size,4,none⟩ (.int .i64 (t:Int))).alloc (.cells #[.int .i64 N.lvl,.slice A n c,.slice B m U,.int .i64 K,.int .i64 (t:Int),.bool hd,.bool R] 195)):=Ql;have d9:=(row.turned b8 (λg y h=>by have h:g=F.1.size:=h;have:=(G g y).1;omega)).below bL;have g9:=bL.size;have O:=qvu (w4.setCell ⟨F.1.size,4,none⟩ (.int .i64 (t:Int))) ⟨N,K,t,hd,R⟩ A n c B m U;have b1:(w4.setCell ⟨F.1.size,4,none⟩ (.int .i64 (t:Int))).1.size=w4.1.size:=by simp[World.setCell]
     rw[b1] at O;replace O:=HI O;replace b1:=HI b1;go_wp2_with (first
      |(at_builtin;refine q8r (s:=⟨N,K,t,hd,R⟩) rfl _ _ rfl rfl d9 rfl O.out W (by omega) (by omega) ?_;intro X6 f2 w6 b0 T6 f3
        have i1:=T6.size;have R6:=(R5.below bL R5.lt).turned T6 (λh=>by have:=(G _ h).1;omega);have e9:Turn (λg=>q01 X=some g) (w4.setCell ⟨F.1.size,4,none⟩ (.int .i64 (t:Int))) w6:=(Zb (S:=λg=>q01 X=some g) bL).trans T6 λk J=>.inl J
        have a1:Turn (λg=>g=F.1.size\/q01 X=some g) wr w6:=(b8.mono λk J=>.inl J).trans e9 λk J=>.inl (.inr J)
        have g0:=TT.turned a1 (λh=>h.elim (λh=>by omega) λh=>by have:=(G _ h).1;omega);have y6:=g0.cell 0 rfl;have s0:=R6.cell 0 rfl;have s1:=R6.cell 1 rfl;have s2:=R6.cell 2 rfl;have s3:=R6.cell 3 rfl;have s4:=R6.cell 4 rfl;have s5:=R6.cell 5 rfl;have s6:=R6.cell 6 rfl)
      |fail)
     have f4:Below w.1.size wr w6:=a1.below (λg y=>y.elim (λh=>by omega) λh=>by have:=(G g h).1;omega) (by omega);have B6:=hb.trans f4;have b9:∀g,(g=F.1.size\/q01 X=some g)->¬Dt g:=λg y hd=>y.elim (I g hd).2.2.1 (I g hd).2.2.2
     have HK:=qkj (H.below B6) (ht.below B6 ht.1) d3 ⟨N,K,t,hd,R⟩ A n c B m U (λv hv=>W.Bg v (qb1 a1 b9 (hv.mono λg y hd=>by have:=(I g hd).1;have:=hS g y;omega))) ⟨by show 1<=N.lvl;omega,d5⟩ t a3.out;unfold tv Vm at HK;rw[a4] at HK;refine HK.mono ?_;rintro e w7 ⟨A7,n7,c7,B7,m7,d7,rfl,f9,b7⟩;have i2:=b7.size;have R7:=R6.below b7 R6.lt;clear s0 s1 s2 s3 s4 s5 s6 e0 e1 e2 e3 e4 e5 e6 y6 HK;go_wp2_with (first
      |(refine Nz rfl _ _ rfl F.1.size rfl Z.N.lvl A7 n7 c7 B7 m7 d7 Z.addr (Z.next:Int) Z.held Z.shared rfl R7 rfl ?_;intro w8 R8 T8)
      |fail)
     have i3:=T8.size;have e7:=b0.below b7;have a6:=b0.Qc;have e8:=e7.turned T8 (λg y h=>by have h:g=F.1.size:=h;have:=(a6 g y).1;omega);have f0:Turn (λg=>g=F.1.size\/q01 X=some g) wr w7:=a1.then (Zb b7);have a2:Turn (λg=>g=F.1.size\/q01 X=some g) wr w8:=f0.then (T8.mono λg y=>.inl y);have f5:Below w.1.size wr w8:=a2.below (λg y=>y.elim (λh=>by omega) λh=>by have:=(G g h).1;omega) (by omega);have c9:∀g,g<=w.1.size+1->¬(g=F.1.size\/q01 X=some g):=λg y h=>h.elim (λh=>by omega) λh=>by have:=(G _ h).1;omega
     refine⟨⟨f,Z,⟨N,K,t,hd,R⟩::a0,A7,n7,c7,B7,m7,d7,X6,nn+1,f2,λg=>Dt g\/(w6.1.size<=g/\g<w7.1.size),rfl,rfl,by omega,E.out,R8,?_,?_,λg y=>?_,g1,g2,g3,TT.turned a2 (c9 _ (by omega)),KK.turned a2 (c9 _ (by omega)),hb.trans f5,by omega⟩,by show 8-(nn+1)<8-nn;omega⟩
     ·have g5:P.Jd D ⟨N,K,t,hd,R⟩ t=Z:=a4;exact f9.mono λv hv=>qqm (w:=w7) (qb1 T8 (λg y hd=>by
       have y:g=F.1.size:=y;exact hd.elim (λh=>(I g h).2.2.1 y) λh=>by omega) hv) λg h1 h2=>.inr ⟨h1,h2⟩
     ·rw[List.reverse_cons];exact e8.mono λv hv=>qb1 a2 b9 (qxg hv λg y=>.inl y)
     ·rcases y with y|y
      ·have hd:=I g y;refine⟨hd.1,by omega,hd.2.2.1,λh=>?_⟩;rcases f3 with e|e
       ·exact hd.2.2.2 (e▸h)
       ·rw[e] at h;injection h with h;omega
      ·exact⟨by omega,by omega,by omega,λh=>by have:=(a6 g h).2;omega⟩
end
structure Rk (w0 w:WD)(p:Nat)(s above:LV)(l:Int)(A:OA)(n c:Nat)(B:OA)(m d:Nat):Prop where
 t:RB w w0.heap.size [.pointer (some ⟨p,0,none⟩)]
 s:RB w (w0.heap.size+1) s
 n:NB w (w0.heap.size+1+1) l A n c B m d
 a:RB w (w0.heap.size+1+1+1) above
 x:RB w (w0.heap.size+1+1+1+1) (Xf 0 none 0 0 none 0 0 none 0 0 0 0)
theorem Rk.new (w:WD)(p:Nat)(s above:LV)(l:Int)(A:OA)(n c:Nat)(B:OA)(m d:Nat)(t1 t2 t3 t4 t5:TypeId) :
  Rk w (((((w.alloc (.cells #[.pointer (some ⟨p,0,none⟩)] t1)).alloc (.cells s.toArray t2)).alloc (.cells #[.int .i64 l,.slice A n c,.slice B m d] t3)).alloc (.cells above.toArray t4)).alloc (.cells (Xf 0 none 0 0 none 0 0 none 0 0 0 0).toArray t5)) p s above l A n c B m d:=by
 have y:=RB.new w [.pointer (some ⟨p,0,none⟩)] t1;have e:=RB.new (w.alloc (.cells #[.pointer (some ⟨p,0,none⟩)] t1)) s t2;have f:=NB.new2 (w.alloc (.cells #[.pointer (some ⟨p,0,none⟩)] t1)) (.cells s.toArray t2) l A n c B m d t3;have g:=RB.new (((w.alloc (.cells #[.pointer (some ⟨p,0,none⟩)] t1)).alloc (.cells s.toArray t2)).alloc (.cells #[.int .i64 l,.slice A n c,.slice B m d] t3)) above t4;have u:=RB.new ((((w.alloc (.cells #[.pointer (some ⟨p,0,none⟩)] t1)).alloc (.cells s.toArray t2)).alloc (.cells #[.int .i64 l,.slice A n c,.slice B m d] t3)).alloc (.cells above.toArray t4)) (Xf 0 none 0 0 none 0 0 none 0 0 0 0) t5;simp only[BH] at e f g u;have up:∀(v:WD) (o:Obj),Below v.1.size v (v.alloc o):=λv o=>Ql
 exact⟨(((y.below (up _ _) (by simp<;>omega)).below (up _ _) (by simp<;>omega)).below (up _ _) (by simp<;>omega)).below (up _ _) (by simp<;>omega),((e.below (up _ _) (by simp<;>omega)).below (up _ _) (by simp<;>omega)).below (up _ _) (by simp<;>omega),(f.below (up _ _) (by simp<;>omega)).below (up _ _) (by simp<;>omega),g.below (up _ _) (by simp<;>omega),u⟩
theorem Rk.below {w0 w w':WD}{p:Nat}{s above:LV}{l:Int}{A:OA}{n c:Nat}{B:OA}{m d:Nat}(h:Rk w0 w p s above l A n c B m d)(hb:Below w.1.size w w'):Rk w0 w' p s above l A n c B m d:=⟨h.t.below hb h.t.lt,h.s.below hb h.s.lt,h.n.below hb h.n.lt,h.a.below hb h.a.lt,h.x.below hb h.x.lt⟩
section
variable {b:Nat}{w:WD}{d p:Nat}{S0 S T:NP}{D:DM}{P P':Pl}
theorem qmx (H:Qh b w d p S0 S T D P)(_:Tab w)(s:Qr)(A:OA)(n c:Nat)(B:OA)(m dd:Nat)(hs:Je (Turn S w) s.N A n c B m dd)(N:Nd)(I:OA)(G c2:Nat)(J:OA)(F K:Nat)(hB:Je (Turn S w) N I G c2 J F K)(above:Qr)(A3:OA)(n3 c3:Nat)(U:OA)(m3 d3:Nat)(a7:above.next<=60)(a5:Qs N.lvl<=N.size) :
  Calls prog 146 #[tv p,Vm s A n c B m dd,Xx N.lvl I G c2 J F K,Vm above A3 n3 c3 U m3 d3] w λe w'=>∃Y,e=.returned (.tuple #[.agg (Xf N.lvl I G c2 J F K Y 1 1 (above.next:Int) ((above.next+1:Nat):Int)).toArray,.int .i64 0])/\Je (Turn S w') N I G c2 J F K/\(∀u,Turn S w' u->Vo (Turn S w') u Y 1 1 [s])/\Below w.1.size w w':=by
 obtain⟨sN,ad,nx,hd,sh⟩:=s;obtain⟨aN,Z,f,a0,a2⟩:=above;have hS:=H.low;have b1:=hB.hn;have a9:=hB.hm;have a6:=hB.size;dsimp only at a7 ⊢;obtain⟨le,E⟩:∃le,Qs N.lvl=le:=⟨_,rfl⟩;rw[E,a6] at a5;clear a6;have HL:=λu=>q35 N.lvl I G c2 J F K u
 rw[E] at HL;have HS:=λu=>q21 N.lvl I G c2 J F K (by omega) (by omega) u
 obtain⟨z,hz⟩:∃z,G+F=z:=⟨_,rfl⟩;rw[hz] at HS a5;clear hz E;have X:=Rk.new w p (Ja sN.lvl A n c B m dd ad (nx:Int) hd sh) (Ja aN.lvl A3 n3 c3 U m3 d3 Z (f:Int) a0 a2) N.lvl I G c2 J F K 188 195 193 195 228;have b0:Below w.1.size w (((((w.alloc (.cells #[.pointer (some ⟨p,0,none⟩)] 188)).alloc (.cells (Ja sN.lvl A n c B m dd ad (nx:Int) hd sh).toArray 195)).alloc (.cells #[.int .i64 N.lvl,.slice I G c2,.slice J F K] 193)).alloc (.cells (Ja aN.lvl A3 n3 c3 U m3 d3 Z (f:Int) a0 a2).toArray 195)).alloc (.cells (Xf 0 none 0 0 none 0 0 none 0 0 0 0).toArray 228)):=((((Ql).alloc (by simp) _).alloc (by simp;omega) _).alloc (by simp;omega) _).alloc (by simp;omega) _;have hi:IntKind.i64.wrap ((f:Int)+1)=((f+1:Nat):Int):=by rw[show (f:Int)+1=((f+1:Nat):Int) by omega];exact IntWalk.i64_in _ (by omega)
 obtain⟨a1,W⟩:∃a1,f+1=a1:=⟨_,rfl⟩;rw[W] at hi ⊢;clear W;unfold Xx at HL HS;replace HL:=HI HL;replace HS:=HI HS;have a8:(le:Int)<=(z:Int):=by omega
 have k0:=X.n.c0;have k1:=X.n.c1;have k2:=X.n.c2;unfold tv Vm Xx;dsimp only;unfold Ja at X b0;unfold Xf at X b0;go_enter func146,ntmps146
 go_wp2_with fail
 generalize (((((w.alloc (.cells #[.pointer (some ⟨p,0,none⟩)] 188)).alloc (.cells #[.int .i64 sN.lvl,.slice A n c,.slice B m dd,.int .i64 ad,.int .i64 (nx:Int),.bool hd,.bool sh] 195)).alloc (.cells #[.int .i64 N.lvl,.slice I G c2,.slice J F K] 193)).alloc (.cells #[.int .i64 aN.lvl,.slice A3 n3 c3,.slice U m3 d3,.int .i64 Z,.int .i64 (f:Int),.bool a0,.bool a2] 195)).alloc (.cells #[.int .i64 0,.slice none 0 0,.slice none 0 0,.slice none 0 0,.int .i64 0,.int .i64 0] 228))=w1 at X b0 k0 k1 k2 ⊢;refine (HL.out w1).mono ?_;rintro e w2 ⟨rfl,b2⟩;have E2:=X.below b2;clear k0 k1 k2;have k0:=E2.n.c0;have k1:=E2.n.c1;have k2:=E2.n.c2;have a4:=E2.a.cell 4 rfl;go_wp2_with fail
 refine (HS.out w2).mono ?_;rintro e R ⟨rfl,b3⟩;have y:=E2.below b3;clear k0 k1 k2 a4;have k0:=y.n.c0;have k1:=y.n.c1;have k2:=y.n.c2;have s0:=y.s.cell 0 rfl;have s1:=y.s.cell 1 rfl;have s2:=y.s.cell 2 rfl;have s3:=y.s.cell 3 rfl;have s4:=y.s.cell 4 rfl;have s5:=y.s.cell 5 rfl;have s6:=y.s.cell 6 rfl;have U:=b0.trans ((b2.trans (b3.mono b2.size)).mono b0.size);have bL:Below R.1.size R (R.alloc (.cells #[.int .i64 sN.lvl,.slice A n c,.slice B m dd,.int .i64 ad,.int .i64 (nx:Int),.bool hd,.bool sh] 195)):=Ql;have E4:=y.below bL;have a3:∀k,S k->k<R.1.size:=λk M=>by have:=hS k M;have:=U.size;omega
 clear HL HS;go_wp2_with (first
  |(refine q8n rfl _ _ rfl (w.1.size+1+1+1+1) rfl N.lvl I G c2 J F K (some ⟨R.1.size,0,none⟩) 1 1 (f:Int) (a1:Int) rfl E4.x rfl ?_;intro w5 R5 T5)
  |fail)
 refine bodyPost_ret (Ag Tryz.results146 rfl (qic R5)) rfl ?_;have BL:=U.trans (bL.mono U.size);have b5:Below w.1.size w w5:=BL.trans (T5.below (λk M=>by have M:k=w.1.size+1+1+1+1:=M;omega) (by have:=BL.size;omega));have b4:∀k,S k->k=w.1.size+1+1+1+1->False:=λk M e=>by have:=hS k M;omega
 refine⟨some ⟨R.1.size,0,none⟩,rfl,hB.mono λv hv=>(Zb (S:=S) b5).trans hv λk M=>.inl M,λu hu=>?_,b5⟩;have h1:=qin a3 (Q:=Turn S w5) ⟨sN,ad,nx,hd,sh⟩ (hs.mono λv hv=>(Zb (S:=S) b5).trans hv λk M=>.inl M) 195 _ (Turn.refl _ _);have b6:w.1.size+1+1+1+1<R.1.size:=y.x.lt;exact (h1.turned T5 (λg O h=>by injection O with O;have O:R.1.size=g:=O;have h:g=w.1.size+1+1+1+1:=h;omega)).turned hu (λg O h=>by injection O with O;have O:R.1.size=g:=O;have:=a3 g h;omega)
end
theorem qio {P:Pl}{D:DM}(hm:∀a,P.Qe D a=0->(P.Qd D a).may=true):∀a,P.Qe D a=0->(P.Qd D a).fit/\0<=(P.Qd D a).lvl/\(P.Qd D a).lvl<8:=λa h=>by
 have hm:=hm a h;refine⟨Pe hm,?_⟩;unfold Nd.may at hm;by_cases h0:(P.Qd D a).lvl=0
 ·omega
 ·rw[AB h0] at hm;simp only[BN,decide_eq_true_eq] at hm;omega
