/- The code's pool: settle -/
import Derived.Test.YthkfkhejjmhomaaGreatDoorDz23
namespace Go.Proofs.YthkfkhejjmhomaaGreatDoor
open Go Go.RowKit Go.Proofs
set_option maxHeartbeats 8000000
set_option maxRecDepth 100000
section
theorem Tab.turned {w w':World}{S:Nat->Prop}(h:Tab w)(T:Turn S w w')(hS:¬S 1):Tab w':=
 ⟨Nat.lt_of_lt_of_le h.1 T.size,λk d=>(World.cell?_of_block (a:=⟨1,k,none⟩) (T.block _ h.1 hS)).trans (h.2 k d)⟩
theorem Drv.tight {w:World}{d:Nat}{S:Nat->Prop}{D:DM}(L:Drv w d S D):Drv w d (λk=>S k/\k<w.1.size) D:=L.mono λ_ h1 h2=>⟨h2,h1⟩
theorem Y5.from {w0 w1 w:World}{d:Nat}{S:Nat->Prop}{D:DM}(L:Y5 w1 w d (λk=>S k/\k<w0.1.size) D)(b:Below w0.1.size w0 w1):Y5 w0 w d S D:=
 ⟨L.Vh.mono λk _ e=>e.elim (λh=>.inl h.1) λh=>.inr (by have:=b.size;omega),(Uk b |>.mono (S':=S) λ_ h=>h).trans L.turn λ_ e=>.inl e.1⟩
def Qd5 (C:Ct)(S:Sp):List Stp:=Bh (Ya (Qh C.n S.gen) (Zc C S.gen)) (S.gen % 2).toNat (swB S (S.gen % 2))
theorem Qbw (D:DM)(a:Stp)(l:List Stp):D.Jo (a::l)=(if D.says a=0 then (D.does a).Jo l else D.says a)/\D.Qn (a::l)=(if D.says a=0 then (D.does a).Qn l else D.does a):=⟨rfl,rfl⟩
theorem Qx1 {D:DM}{A:List Stp}(slot:Nat)(d:List UInt8)(h:D.Jo A=0):D.Jo (Bh A slot d)=(D.Qn A).Jo [.fl,.w slot d,.fl]/\D.Qn (Bh A slot d)=(D.Qn A).Qn [.fl,.w slot d,.fl]:=by
 unfold Bh;rw[Qbd,Qbc,if_pos h,if_pos h];exact⟨rfl,rfl⟩
theorem Qt9 (D:DM)(a:Stp):D.Jo [a]=D.says a/\D.Qn [a]=D.does a:=by
 rw[(Qbw D a []).1,(Qbw D a []).2];constructor
 ·split
  ·rename_i h;exact h.symm
  ·rfl
 ·split<;>rfl
attribute [local go_sem ↓] Yz
theorem Qpv {w:World}{d pc o:Nat}{S0 Sc:Nat->Prop}{D:DM}{C:Ct}(L:Drv w d S0 D)(H:Jg w pc o Sc C)(b8:∀k,S0 k->k≠pc/\¬Sc k)(hG:¬S0 1)(S:Sp)(X:S.may=true)(Q:S.fine)(b7:S.Qa=(C.n:Int))(ht:Tab w){m:Nat}(g2:D.Y4 m)(hm:m<=800000) :
  Calls Tryz.prog 78 #[.pointer (some ⟨d,0,none⟩),.agg S.vs.toArray,.pointer (some ⟨pc,o,none⟩)] w λe w'=>e=.returned (.bool (D.Qd4 (Qd5 C S)))/\Y5 w w' d S0 (D.Qn (Qd5 C S)):=by
 have d5:=H.ok.1;have U:=(Dp X).1;have hg:Xk S.gen:=⟨U.1,U.2.1⟩;obtain⟨g,p⟩:∃g,S.gen=g:=⟨_,rfl⟩;rw[p] at hg;obtain⟨ar,u⟩:∃m,Qi C.n=m:=⟨_,rfl⟩;have g7:ar<=18:=by unfold Qi at u;omega
 obtain⟨t,d7⟩:∃t,(g % 2).toNat=t:=⟨_,rfl⟩;have f:g % 2=(t:Int):=by have:=hg.1;omega
 have i5:t<2:=by omega
 have g9:g.tmod 2=(t:Int):=by rw[Int.tmod_eq_emod_of_nonneg (by have:=hg.1;omega)];exact f
 obtain⟨a,ha⟩:∃a,Qh C.n g=a:=⟨_,rfl⟩;have i1:a<=40:=by
  rw[<-ha];unfold Qh;rw[u,d7];rcases (show t=0\/t=1 by omega) with e|e<;>rw[e]<;>omega
 obtain⟨sb,d6⟩:∃x,swB S (t:Int)=x:=⟨_,rfl⟩;have a1:X8 S (t:Int)=true:=by unfold X8;rw[X,Bool.true_and];exact decide_eq_true ⟨by omega,by omega⟩
 have c7:=(Qnh a1).1;obtain⟨W,hW⟩:∃W,Ya (Qh C.n S.gen) (Zc C S.gen)=W:=⟨_,rfl⟩;have b9:Qd5 C S=Bh W t sb:=by unfold Qd5;rw[hW,p,f,d6,<-f,d7]
 have e7:W.length=ar:=by rw[<-hW,F5,Vq,u]
 have e8:∀j,j<ar->W.take (j+1)=W.take j++[.w (a+j) (Zl (Xa C.n g j) (C.body (j:Int)))]:=λj hj=>by
  rw[<-hW,Zbi _ _ (by rw[Vq,u];exact hj),E8 _ _ (by rw[u];exact hj),p,ha]
 have Y:∀j,j<ar->J5 ⟨2,((a+j:Nat):Int),0,0,g⟩ (C.body (j:Int))=0/\Xu ⟨2,((a+j:Nat):Int),0,0,g⟩ (C.body (j:Int))=Zl (Xa C.n g j) (C.body (j:Int)):=λj hj=>by
  have f2:=Qtm d5.1 d5.2 hg (i:=j) (by rw[u];exact hj);have e9:=Ct.Xg (C:=C) (i:=j) (by rw[u];exact hj);have f8:Xa C.n g j=⟨2,((a+j:Nat):Int),0,0,g⟩:=by unfold Xa;rw[ha]
  rw[<-f8];unfold J5 Xu;rw[if_pos f2,if_pos f2,if_pos (by rw[e9];exact Nat.le_refl _),if_pos (by rw[e9];exact Nat.le_refl _)];exact⟨rfl,rfl⟩
 have hA:=Qlv S C.n b7 d5.2 ⟨by rw[p];have:=hg.1;omega,by rw[p];have:=hg.2;omega⟩;rw[p,ha,u] at hA;have HA:=Lib.hid hA;have HS:=Lib.hid b9;have e0:=Lib.hid e7;have f7:=Lib.hid e8;have d1:=Lib.hid Y;have i0:=Lib.hid f;have e2:=Lib.hid d6;have e5:=Lib.hid c7;have g6:=Lib.hid a1;have I:=Lib.hid Q;have b3:=Lib.hid b8;have f5:=Lib.hid hG;have X1:=SB.new w S 120;have b1:Below w.1.size w (w.alloc (.cells S.vs.toArray 120)):=Ib;have J:=L.tight.below b1;have H1:=H.below b1;have t1:=ht.below b1 ht.1;have i2:=H.lt;have i6:=ht.1;clear hA b9 hW e7 e8 Y U f d6 c7 a1 Q ha b7 b8 hG X d7 hg L ht H;have f3:=X1.ld;go_enter Tryz.func78,Tryz.ntmps78
 go_wp2_with fail
 generalize w.alloc (.cells S.vs.toArray 120)=w1 at b1 J H1 t1 X1 f3 ⊢;refine (HA.out w1).mono ?_;rintro e w2 ⟨rfl,b2⟩;have L2:=J.below b2;have H2:=H1.below b2;have t2:=t1.below b2 t1.1;have X2:=X1.below b2 X1.lt;have B2:=b1.trans (b2.mono b1.size);have g3:w.1.size<w2.1.size:=X2.lt;clear f3 J H1 t1 X1 b1 b2;have L0:=L2.dsk;have Z:∀wr,Turn (λk=>S0 k/\k<w.1.size) w2 wr->SB wr w.1.size S/\Jg wr pc o Sc C/\Tab wr:=λwr T=>
  ⟨X2.block (T.block _ g3 (λh=>by have:=h.2;omega)),H2.keep (T.block pc (by omega) λh=>(b3.out pc h.1).1 rfl) (λk hk hs=>T.block k hk λh=>(b3.out k h.1).2 hs),t2.turned T λh=>f5.out h.1⟩
 have e4:=Lib.hid Z;clear Z X2 H2 t2 L2;go_wp2_with fail
 go_loopw [9,10,11,21] (λ_ _ _ i wr=>∃j:Nat,j<=ar/\i=.int .i64 (j:Int)/\D.Jo (W.take j)=0/\Y5 w2 wr d (λk=>S0 k/\k<w.1.size) (D.Qn (W.take j))) (λ_ _ _ i _=>ar-(intOf i).toNat)
 case atStart=>exact⟨0,by omega,rfl,rfl,L0⟩
 case round=>
  clear L0;obtain⟨j,hj,rfl,hE,J⟩:=hrel;have G:=Qdf (W.take j) g2;have g8:(W.take j).length<=18:=by rw[List.length_take,e0.out];omega
  obtain⟨D1,d3⟩:∃D1,D.Qn (W.take j)=D1:=⟨_,rfl⟩;rw[d3] at J G;have c8:=Lib.hid d3;have HE:=Lib.hid hE;obtain⟨X3,H3,t3⟩:=e4.out wr J.turn;clear d3 hE;by_cases f4:j<ar
  ·have e3:(j:Int)<(ar:Int):=by omega
   have e1:=Lib.hid (f7.out j f4);obtain⟨s1,s2⟩:=d1.out j f4;obtain⟨x,hx⟩:∃x,Zl (Xa C.n g j) (C.body (j:Int))=x:=⟨_,rfl⟩;rw[hx] at s2;obtain⟨s,hs⟩:∃s,a+j=s:=⟨_,rfl⟩;rw[hs] at s1 s2;have i3:(a:Int)+(j:Int)=(s:Int):=by omega
   have i4:s<=100:=by omega
   have B:=Lib.hid (show D.Jo (W.take (j+1))=D1.says (.w s x) by rw[e1.out,Qgv,if_pos HE.out,c8.out,hx,hs]);have q:=Lib.hid (show D.Qn (W.take (j+1))=D1.does (.w s x) by rw[e1.out,Qgu,if_pos HE.out,c8.out,hx,hs]);have S1:=Lib.hid s1;have S2:=Lib.hid s2;have q0:=X3.c0;rw[p] at q0;obtain⟨E,e6⟩:∃E,D1.says (.w s x)=E:=⟨_,rfl⟩;have a7:=Lib.hid e6;clear e6 hx hs s1 s2;by_cases h0:E=0
   ·have nb:(E != 0)=false:=by simpa using h0
    have H0:=Lib.hid h0;clear h0;go_wp2_with (first
     |(go_at_call 133;refine (Qdu _ g wr).mono ?_;rintro e w4 ⟨rfl,K⟩;have H4:=H3.below K;have t4:=t3.below K t3.1)
     |(go_at_call 134;refine (Qky H4 (j:Int)).mono ?_;rintro e w5 ⟨V,n5,c5,rfl,s5,M,_⟩;have t5:=t4.below M t4.1)
     |(go_at_call 122;refine (Qdc ⟨2,(s:Int),0,0,g⟩ V n5 c5 _ w5 s5 t5).mono ?_;rw[S1.out,S2.out];rintro e w6 ⟨A6,n6,c6,rfl,a6,f9,b6⟩;have L6:=J.below (K.trans ((M.mono K.size).trans (b6.mono (Nat.le_trans K.size M.size)))))
     |(go_at_call 130;refine (Rw L6 G (by omega) s _ rfl A6 n6 c6 x a6.sl).mono ?_;rw[a7.out];rintro e w7 ⟨rfl,L7⟩)
     |fail)
    exact⟨⟨j+1,by omega,by go_num,B.out.trans (a7.out.trans H0.out),by rw[q.out];exact L7⟩,by simp[intOf];omega⟩
   ·have nb:(E != 0)=true:=by simpa using h0
    have F:D.Jo (W.take (j+1))≠0:=λh=>h0 (a7.out.symm.trans (B.out.symm.trans h))
    have P:Qd5 C S=W.take (j+1)++(W.drop (j+1)++.fl::[.w t sb,.fl]):=by rw[HS.out];unfold Bh;rw[<-List.append_assoc,List.take_append_drop]
    obtain⟨y,z⟩:=Qdb (l':=W.drop (j+1)++.fl::[.w t sb,.fl]) F;have R1:=Lib.hid (show D.Qd4 (Qd5 C S)=false by unfold DM.Qd4;rw[P,y];exact decide_eq_false F);have R2:=Lib.hid (show D.Qn (Qd5 C S)=D1.does (.w s x) by rw[P,z,q.out]);clear P y z F h0;go_wp2_with (first
     |(go_at_call 133;refine (Qdu _ g wr).mono ?_;rintro e w4 ⟨rfl,K⟩;have H4:=H3.below K;have t4:=t3.below K t3.1)
     |(go_at_call 134;refine (Qky H4 (j:Int)).mono ?_;rintro e w5 ⟨V,n5,c5,rfl,s5,M,_⟩;have t5:=t4.below M t4.1)
     |(go_at_call 122;refine (Qdc ⟨2,(s:Int),0,0,g⟩ V n5 c5 _ w5 s5 t5).mono ?_;rw[S1.out,S2.out];rintro e w6 ⟨A6,n6,c6,rfl,a6,f9,b6⟩;have L6:=J.below (K.trans ((M.mono K.size).trans (b6.mono (Nat.le_trans K.size M.size)))))
     |(go_at_call 130;refine (Rw L6 G (by omega) s _ rfl A6 n6 c6 x a6.sl).mono ?_;rw[a7.out];rintro e w7 ⟨rfl,L7⟩)
     |fail)
    go_ret;exact⟨by rw[R1.out];rfl,by rw[R2.out];exact L7.from B2⟩
  ·have g0:j=ar:=by omega
   subst g0;have R:W.take j=W:=List.take_of_length_le (by rw[e0.out];exact Nat.le_refl _);have d4:=HE.out;have d2:=c8.out;rw[R] at d4 d2;obtain⟨y,z⟩:=Qx1 (D:=D) (A:=W) t sb d4;rw[d2,<-HS.out] at y z;have e3:¬(j:Int)<(j:Int):=by omega
   have b0:=Qd0 G .fl;obtain⟨E1,B⟩:∃E,D1.says .fl=E:=⟨_,rfl⟩;obtain⟨D2,q⟩:∃E,D1.does .fl=E:=⟨_,rfl⟩;rw[q] at b0;rw[(Qbw _ _ _).1,B,q] at y;rw[(Qbw _ _ _).2,B,q] at z;have d0:=Lib.hid B;have c9:=Lib.hid q;clear B q d4 d2 R;by_cases h1:E1=0
   ·have g4:(E1 != 0)=false:=by simpa using h1
    rw[if_pos h1] at y z;have f1:=Qd0 b0 (.w t sb);obtain⟨E2,a8⟩:∃E,D2.says (.w t sb)=E:=⟨_,rfl⟩;obtain⟨D3,O⟩:∃E,D2.does (.w t sb)=E:=⟨_,rfl⟩;rw[O] at f1;rw[(Qbw _ _ _).1,a8,O] at y;rw[(Qbw _ _ _).2,a8,O] at z;have d9:=Lib.hid a8;have d8:=Lib.hid O;clear a8 O h1;have q0:=X3.c0;rw[p] at q0;have f0:=Lib.hid (λ(w':World) (l':Y5 w2 w' d (λk=>S0 k/\k<w.1.size) D2)=>e4.out w' l'.turn);by_cases h2:E2=0
    ·rw[if_pos h2,(Qt9 _ _).1] at y;rw[if_pos h2,(Qt9 _ _).2] at z;have g5:(E2==0)=true:=by simpa using h2
     have R1:=Lib.hid (show D.Qd4 (Qd5 C S)=decide (D3.says .fl=0) by unfold DM.Qd4;rw[y]);have R2:=Lib.hid z;clear y z h2;go_wp2_with (first
      |(go_at_call 135;refine (Qar J G (by omega)).mono ?_;rw[d0.out,c9.out];rintro e w4 ⟨rfl,L4⟩;obtain⟨X4,H4,t4⟩:=f0.out w4 L4;have Xq:=X4.c0;rw[p] at Xq;have g1:=X4.ld)
      |(go_at_call 136;refine (Qew S (t:Int) I.out w4 t4).mono ?_;rw[e5.out,e2.out];rintro e w5 ⟨A5,n5,c5,rfl,a2,_,M⟩;have L5:=L4.below M)
      |(go_at_call 130;refine (Rw L5 b0 (by omega) t _ rfl A5 n5 c5 sb a2.sl).mono ?_;rw[d9.out,d8.out];rintro e w6 ⟨rfl,L6⟩)
      |(go_at_call 135;have hh:=L6;refine (Qar L6 f1 (by omega)).mono ?_;rintro e w7 ⟨rfl,L7⟩)
      |fail)
     go_ret;exact⟨by rw[R1.out];rfl,by rw[R2.out];exact L7.from B2⟩
    ·rw[if_neg h2] at y z;have g5:(E2==0)=false:=by simpa using h2
     have R1:=Lib.hid (show D.Qd4 (Qd5 C S)=false by unfold DM.Qd4;rw[y];exact decide_eq_false h2);have R2:=Lib.hid z;clear y z h2;go_wp2_with (first
      |(go_at_call 135;refine (Qar J G (by omega)).mono ?_;rw[d0.out,c9.out];rintro e w4 ⟨rfl,L4⟩;obtain⟨X4,H4,t4⟩:=f0.out w4 L4;have Xq:=X4.c0;rw[p] at Xq;have g1:=X4.ld)
      |(go_at_call 136;refine (Qew S (t:Int) I.out w4 t4).mono ?_;rw[e5.out,e2.out];rintro e w5 ⟨A5,n5,c5,rfl,a2,_,M⟩;have L5:=L4.below M)
      |(go_at_call 130;refine (Rw L5 b0 (by omega) t _ rfl A5 n5 c5 sb a2.sl).mono ?_;rw[d9.out,d8.out];rintro e w6 ⟨rfl,L6⟩)
      |fail)
     go_ret;exact⟨by rw[R1.out];rfl,by rw[R2.out];exact L6.from B2⟩
   ·have g4:(E1 != 0)=true:=by simpa using h1
    rw[if_neg h1] at y z;have R1:=Lib.hid (show D.Qd4 (Qd5 C S)=false by unfold DM.Qd4;rw[y];exact decide_eq_false h1);have R2:=Lib.hid z;clear y z h1;go_wp2_with (first
     |(go_at_call 135;refine (Qar J G (by omega)).mono ?_;rw[d0.out,c9.out];rintro e w4 ⟨rfl,L4⟩)
     |fail)
    go_ret;exact⟨by rw[R1.out];rfl,by rw[R2.out];exact L4.from B2⟩
end
section
def Hd.same (a b:Hd):Bool:=a.kind==b.kind&&(a.addr==b.addr&&(a.count==b.count&&(a.level==b.level&&a.gen==b.gen)))
theorem Hd.same_iff (a b:Hd):a.same b=true↔a=b:=by
 unfold Hd.same;simp only[Bool.and_eq_true,beq_iff_eq];constructor
 ·rintro⟨h1,h2,d,e,f⟩
  cases a;cases b;simp_all
 ·rintro rfl;simp
theorem Qyn (d:Nat)(a b:Hd)(w:World):(Op.equalIn (d+2) 198 a.v b.v).run Tryz.prog w=.ok (a.same b) w:=by
 unfold Hd.v;rw[run_equalIn_agg w (d+1) 198 _ _ (by kernel_rfl) (by kernel_rfl)];unfold Program.fieldsOf;rw[Tryz.underlying198];simp[go_sem,Tryz.underlying3];unfold Hd.same;by_cases h1:a.kind=b.kind
 ·by_cases h2:a.addr=b.addr
  ·by_cases e:a.count=b.count
   ·by_cases f:a.level=b.level
    ·by_cases g:a.gen=b.gen
     ·simp[h1,h2,e,f,g]
     ·simp[h1,h2,e,f,g]
    ·simp[h1,h2,e,f]
   ·simp[h1,h2,e]
  ·simp[h1,h2]
 ·simp[h1]
theorem Zes (a b:Hd)(r:Bool)(h:a.same b=r)(w:World):(binOp .neq 198 (.agg #[.int .i64 a.kind,.int .i64 a.addr,.int .i64 a.count,.int .i64 a.level,.int .i64 a.gen]) (.agg #[.int .i64 b.kind,.int .i64 b.addr,.int .i64 b.count,.int .i64 b.level,.int .i64 b.gen])).run Tryz.prog w=.ok (.bool (!r)) w:=by
 rw[run_neq_struct];have:=Qyn 9998 a b w;unfold Hd.v at this;rw[this,h];rfl
theorem Zen (d:BinOp)(x y:Operand)(xs e:Array Value)(w:World):(eqGuard d 198 x y (.agg xs) (.agg e)).run Tryz.prog w=.ok () w:=
 run_eqGuard_agg w d 198 x y xs e (by kernel_rfl)
theorem Qn3 {x:List UInt8}{a:Nat}{g:Int}:Qa3 x a g=(okB x&&(Vk x).same ⟨2,(a:Int),0,0,g⟩):=by
 cases d:okB x
 ·unfold Qa3 Qxy;rw[d];rfl
 ·rw[Bool.true_and,Bool.eq_iff_iff,Hd.same_iff];unfold Qa3 Qxy;rw[d,Bool.true_and,Bool.and_eq_true];constructor
  ·rintro⟨h1,h2⟩;obtain⟨e,f⟩:=of_decide_eq_true h1;obtain⟨m,p,q⟩:=of_decide_eq_true h2
   cases u:Vk x;rw[u] at e f m p q;simp_all
  ·intro h;rw[h];exact⟨decide_eq_true ⟨rfl,rfl⟩,decide_eq_true ⟨rfl,rfl,rfl⟩⟩
def Ci (a b:Value):Sem Value:=Instr.makeSlice 305 a b
theorem Es (a b:Value):Instr.makeSlice 305 a b=Ci a b:=rfl
def Qzk (n:Nat)(w:World):World:=w.alloc (.cells (madeCells #[.slice none 0 0] (n*1)) 48)
theorem Zdb (n:Nat)(hn:n<=1000)(w:World):(Ci (.int .i64 (n:Int)) (.int .i64 (n:Int))).run Tryz.prog w=.ok (.slice (some ⟨w.1.size,0,none⟩) n n) (Qzk n w):=by
 obtain⟨i,hi,e,d,f⟩:=info_parts (show (Tryz.prog.info? 48).map (λi=>(i.zero,i.size,i.bytes))=some (some (.slice none 0 0),1,24) by kernel_rfl);have h:=run_makeSlice (P:=Tryz.prog) w 305 48 i _ Tryz.underlying305 hi e .i64 .i64 n n (by omega) (by omega) (by rw[d,Int.toNat_natCast];omega) (by rw[f];omega) (by omega);rw[d] at h;exact h
theorem Qzl (n:Nat)(w:World):(Qzk n w).1[w.1.size]?=some (.cells (madeCells #[.slice none 0 0] (n*1)) 48 (0,0)):=heap_alloc_new w _
def BR (w:World)(b n j:Nat)(f:Nat->List UInt8):Prop:=∃d:Array Value,w.1[b]?=some (.cells d 48 (0,0))/\d.size=n/\∀i,i<j->∃A m c,d[i]?=some (.slice A m c)/\Sl w A m c (f i)/\∀e,A=some e->e.block≠b
theorem BR.lt {w:World}{b n j:Nat}{ls:Nat->List UInt8}(H:BR w b n j ls):b<w.1.size:=by
 obtain⟨d,h,_⟩:=H;exact Jq h
theorem BR.below {w w':World}{b n j:Nat}{ls:Nat->List UInt8}(H:BR w b n j ls)(hb:Below w.1.size w w'):BR w' b n j ls:=by
 obtain⟨d,h,h2,g⟩:=H;refine⟨d,(hb.block b (Jq h)).trans h,h2,λi hi=>?_⟩;obtain⟨A,m,c,e,p,f⟩:=g i hi;exact⟨A,m,c,e,p.below hb,f⟩
theorem BR.at_ {w:World}{b n j:Nat}{ls:Nat->List UInt8}(H:BR w b n j ls){i:Nat}(hi:i<n):(∃v,w.cell? ⟨b,i,none⟩=some v)/\w.frozen? ⟨b,i,none⟩=false:=by
 obtain⟨d,h,h2,_⟩:=H;refine⟨⟨d[i],?_⟩,by unfold World.frozen?;rw[h];simp⟩;rw[cell_of_row _ _ _ _ _ _ h,Array.getElem?_eq_getElem (by omega)]
theorem BR.Xe {w:World}{b n j:Nat}{ls:Nat->List UInt8}(H:BR w b n j ls)(hj:j<n){A:Option Addr}{m c:Nat}(hs:Sl w A m c (ls j))(hA:∀d,A=some d->d.block≠b):BR (w.setCell ⟨b,j,none⟩ (.slice A m c)) b n (j+1) ls:=by
 obtain⟨g,h,h2,z⟩:=H;have T:Turn (λk=>k=b) w (w.setCell ⟨b,j,none⟩ (.slice A m c)):=Gi (a:=⟨b,j,none⟩) _ rfl;refine⟨_,heap_setCell_same w b j g _ _ h,by simp[h2],λi hi=>?_⟩;by_cases e:i=j
 ·subst e;exact⟨A,m,c,by simp[h2,hj],Gt hs T λd e=>hA d e,hA⟩
 ·obtain⟨q,B,u,y,p,f⟩:=z i (by omega);exact⟨q,B,u,by rw[Array.getElem?_setIfInBounds_ne (Ne.symm e)];exact y,Gt p T λd e=>f d e,f⟩
theorem BR.parts {w:World}{b n:Nat}{ls:Nat->List UInt8}(H:BR w b n n ls)(hn:n<=1000):Parts w (some ⟨b,0,none⟩) n n ((List.range n).map ls):=by
 have f:=H.lt;obtain⟨p,h,h2,q⟩:=H;refine⟨by simp,Nat.le_refl _,by unfold maxLen;omega,λj l d=>?_⟩;have g:j<n:=by have:=(List.getElem?_eq_some_iff.1 d).1;simpa using this
 rw[List.getElem?_map,List.getElem?_range g] at d;obtain rfl:ls j=l:=by simpa using d
 obtain⟨A,m,c,e,u,_⟩:=q j g;refine⟨_,A,m,c,rfl,f,?_,u⟩;rw[show (⟨b,0,none⟩:Addr).add j=⟨b,j,none⟩ by simp[Addr.add];exact λh=>h.symm,cell_of_row _ _ _ _ _ _ h];exact e
theorem Qjp {D:DM}(d:D.off=false){s:Nat}(e:s<D.n):D.Yf (s:Int)=D.newest s/\D.Xt (s:Int)=0:=by
 unfold DM.Yf DM.Xt;have h:0<=(s:Int)/\(s:Int)<(D.n:Int):=by omega
 rw[d];simp only[Bool.false_eq_true,if_false];rw[if_pos h,if_pos h,Int.toNat_natCast];exact⟨rfl,rfl⟩
attribute [local go_sem ↓] Yz Es
theorem Qwp {w:World}{d:Nat}{S0:Nat->Prop}{D:DM}(L:Drv w d S0 D)(e8:D.off=false)(S:Sp)(b8:S.may=true)(a7:S.Qa=(D.n:Int))(ht:Tab w) :
  Calls Tryz.prog 155 #[.pointer (some ⟨d,0,none⟩),.agg S.vs.toArray] w λe w'=>
   ((((∀i,i<Qi D.n->Qa3 (D.newest (Qh D.n S.gen+i)) (Qh D.n S.gen+i) S.gen=true)/\Oj (D.n:Int) (mtB D.newest D.n S.gen)=0)/\∃p,e=.returned (.tuple #[.pointer (some ⟨p,0,none⟩),.int .i64 0])/\Jg w' p 0 (λk=>w.1.size<=k) (mtC D.newest D.n S.gen)/\w.1.size<=p)\/
    (¬((∀i,i<Qi D.n->Qa3 (D.newest (Qh D.n S.gen+i)) (Qh D.n S.gen+i) S.gen=true)/\Oj (D.n:Int) (mtB D.newest D.n S.gen)=0)/\∃E,E≠0/\e=.returned (.tuple #[.pointer none,.int .i64 E])))/\Below w.1.size w w':=by
 have b0:=L.Qa;unfold Qa at b0;have a2:=(Dp b8).1;have hg:Xk S.gen:=⟨a2.1,a2.2.1⟩;obtain⟨g,W⟩:∃g,S.gen=g:=⟨_,rfl⟩;rw[W] at hg ⊢;have c9:=λi hi=>q1n b0.1 b0.2 g (i:=i) hi
 obtain⟨A,M⟩:∃m,Qi D.n=m:=⟨_,rfl⟩;have f0:A<=18:=by unfold Qi at M;omega
 obtain⟨a,ha⟩:∃a,Qh D.n g=a:=⟨_,rfl⟩;have hA:=Qlv S D.n a7 b0.2 ⟨by rw[W];have:=hg.1;omega,by rw[W];have:=hg.2;omega⟩;rw[W,ha,M] at hA;rw[ha,M] at c9;have hB:mtB D.newest D.n g=(List.range A).map λi=>(D.newest (a+i)).drop 20:=by unfold mtB;rw[M,ha]
 have hC:mtC D.newest D.n g=Qcp D.n (mtB D.newest D.n g):=rfl;rw[hC,hB,ha,M];generalize hG:((∀i,i<A->Qa3 (D.newest (a+i)) (a+i) g=true)/\Oj (D.n:Int) ((List.range A).map λi=>(D.newest (a+i)).drop 20)=0)=G;have HG:=Lib.hid hG;have HA:=Lib.hid hA;have e4:=Lib.hid c9;have d8:=λw' (H:SB w' w.1.size S)=>H.ld
 have q1:=λw' (H:SB w' w.1.size S)=>H.c1
 have q0:=λw' (H:SB w' w.1.size S)=>H.c0
 rw[a7] at q1;rw[W] at q0;have f3:=Lib.hid d8;have Q0:=Lib.hid q0;have Q1:=Lib.hid q1;have X1:=SB.new w S 120;have b1:Below w.1.size w (w.alloc (.cells S.vs.toArray 120)):=Ib;have f8:=ht.1;have L1:=L.tight.below b1;have t1:=ht.below b1 ht.1;have d9:=X1.ld;have e7:=Zdb A (by omega);clear hG hA c9 a2 hg a7 b8 M ha d8 q0 q1 W L ht hB hC;go_enter Tryz.func155,Tryz.ntmps155
 go_wp2_with fail
 generalize w.alloc (.cells S.vs.toArray 120)=w1 at b1 L1 t1 X1 d9 ⊢;refine (HA.out w1).mono ?_;rintro e w2 ⟨rfl,b2⟩;have L2:=L1.below b2;have t2:=t1.below b2 t1.1;have X2:=X1.below b2 X1.lt;have B2:=b1.trans (b2.mono b1.size);clear d9 L1 t1 X1 b1 b2;have b3:Below w2.1.size w2 (Qzk A w2):=Ib;have R3:BR (Qzk A w2) w2.1.size A 0 (λi=>(D.newest (a+i)).drop 20):=⟨_,Qzl A w2,by rw[size_madeCells,Nat.mul_one],λi hi=>absurd hi (Nat.not_lt_zero _)⟩;go_wp2_with fail
 have L3:=L2.below b3;have t3:=t2.below b3 t2.1;have X3:=X2.below b3 X2.lt;have B3:=B2.trans (b3.mono B2.size);have e9:w.1.size<w2.1.size:=X2.lt;generalize Qzk A w2=w3 at R3 L3 t3 X3 B3 ⊢;obtain⟨bb,d6⟩:∃b,w2.1.size=b:=⟨_,rfl⟩;rw[d6] at R3 e9 ⊢;clear L2 t2 X2 B2 b3 d6 e7;go_loopw [9,10,11,12,13,14,23] (λ_ _ _ _ _ _ i wr=>∃j:Nat,j<=A/\i=.int .i64 (j:Int)/\(∀q,q<j->Qa3 (D.newest (a+q)) (a+q) g=true)/\BR wr bb A j (λi=>(D.newest (a+i)).drop 20)/\Drv wr d (λk=>S0 k/\k<w.1.size) D/\Tab wr/\SB wr w.1.size S/\Below w.1.size w wr) (λ_ _ _ _ _ _ i _=>A-(intOf i).toNat)
 case atStart=>exact⟨0,by omega,rfl,λq hq=>absurd hq (Nat.not_lt_zero _),R3,L3,t3,X3,B3⟩
 case round=>
  clear R3 L3 t3 X3 B3;obtain⟨j,hj,rfl,b7,R,L,t,X,B⟩:=hrel;have b6:=Lib.hid b7;clear b7;by_cases a6:j<A
  ·have e3:(j:Int)<(A:Int):=by omega
   obtain⟨_,i2,_,i4⟩:=e4.out j a6;obtain⟨s,hs⟩:∃s,a+j=s:=⟨_,rfl⟩;rw[hs] at i2 i4;have f5:(a:Int)+(j:Int)=(s:Int):=by omega
   obtain⟨r1,r2⟩:=Qjp e8 i4;obtain⟨x,hx⟩:∃x,D.newest s=x:=⟨_,rfl⟩;rw[hx] at r1;obtain⟨_,_,_,_,_,L'⟩:=L;have d1:=Qft L' (s:Int);rw[r1,r2] at d1;have L:Drv wr d (λk=>S0 k/\k<w.1.size) D:=⟨_,_,_,_,_,L'⟩;have c6:=Lib.hid d1;have Hs:=Lib.hid hs;have Hx:=Lib.hid hx;clear d1 r1 r2 hs hx L'
   cases a8:okB x
   ·have e0:Qa3 (D.newest (a+j)) (a+j) g=false:=by rw[Hs.out,Hx.out,Qn3,a8];rfl
    have b9:=Lib.hid (show ¬G by rw[<-HG.out];exact λh=>by have:=h.1 j a6;rw[e0] at this;cases this);obtain⟨o1,o2,o3⟩:=Qje a8;clear e0;go_wp2_with (first
     |(go_at_call 138;refine c6.out.mono ?_;rintro e w4 ⟨A4,n4,rfl,s4,_,F,_⟩;have t4:=t.below F t.1)
     |(go_at_call 139;have Z:=open_any A4 n4 n4 x w4 s4 t4;unfold Ox at Z;rw[o1,o2,o3] at Z;refine Z.mono ?_;rintro e f ⟨A5,n5,c5,rfl,I,b5⟩)
     |(refine Qdh rfl (.tmp 12) (.tmp 37) rfl f.1.size rfl Hd.zero _ rfl (HB.zero f _) (by simp) ?_;intro y H6 a1 T6;have K:Below f.1.size f y:=(Ib).trans (a1 _ (Nat.le_refl _));have z:Below wr.1.size wr y:=F.trans ((b5.trans (K.mono b5.size)).mono F.size))
     |fail)
    have B6:=B.trans (z.mono B.size);go_quiet (fail)
    generalize e1:World.drewN y _=w7;have B7:Below w.1.size w w7:=by rw[<-e1];exact⟨B6.os,B6.tape,B6.output,B6.size,B6.block⟩
    clear e1;go_wp2;go_ret2;exact⟨.inr ⟨b9.out,5,by omega,rfl⟩,B7⟩
   ·obtain⟨o1,o2,o3⟩:=Qcc a8;obtain⟨H,hH⟩:∃H,Vk x=H:=⟨_,rfl⟩;have o1:Vk x=H:=hH;obtain⟨r,hr⟩:∃r,H.same ⟨2,(s:Int),0,0,g⟩=r:=⟨_,rfl⟩;have d7:Qa3 (D.newest (a+j)) (a+j) g=r:=by rw[Hs.out,Hx.out,Qn3,a8,hH,hr];rfl
    have f2:=Zes H ⟨2,(s:Int),0,0,g⟩ r hr;have f1:=Zen;have q0:=Q0.out wr X;have zX:=X.lt;have d4:=Lib.hid d7;clear d7 hr hH
    cases r
    ·have b9:=Lib.hid (show ¬G by rw[<-HG.out];exact λh=>by have:=h.1 j a6;rw[d4.out] at this;cases this);go_wp2_with (first
      |(go_at_call 138;refine c6.out.mono ?_;rintro e w4 ⟨A4,n4,rfl,s4,_,F,_⟩;have t4:=t.below F t.1)
      |(go_at_call 139;have Z:=open_any A4 n4 n4 x w4 s4 t4;unfold Ox at Z;rw[o1,o2,o3] at Z;refine Z.mono ?_;rintro e f ⟨A5,n5,c5,rfl,I,b5⟩)
      |(refine Qdh rfl (.tmp 12) (.tmp 37) rfl f.1.size rfl H _ rfl (HB.zero f _) (by simp) ?_;intro y H6 a1 T6;have K:Below f.1.size f y:=(Ib).trans (a1 _ (Nat.le_refl _));have z:Below wr.1.size wr y:=F.trans ((b5.trans (K.mono b5.size)).mono F.size))
      |fail)
     have Yy:=(z.cell (p:=⟨w.1.size,0,none⟩) zX).trans q0;have d2:w.1.size<y.1.size:=Nat.lt_of_lt_of_le zX z.size;have zH:f.1.size<y.1.size:=by obtain⟨_,h⟩:=H6;exact Jq h
     have B6:=B.trans (z.mono B.size);have O:=H6.at_ 0;have Q:=H6.at_ 1;have T:=H6.at_ 2;have U:=H6.at_ 3;have V:=H6.at_ 4;simp only[Ym,Hd.Bl] at O Q T U V;have g0:∀u:Grown y,u.to.cell? ⟨w.1.size,0,none⟩=some (.int .i64 g):=Grown.cell Yy d2;have g1:∀u:Grown y,u.to.cell? ⟨f.1.size,0,none⟩=some (.int .i64 H.kind):=Grown.cell O zH;have g2:∀u:Grown y,u.to.cell? ⟨f.1.size,3,none⟩=some (.int .i64 H.level):=Grown.cell Q zH;have g3:∀u:Grown y,u.to.cell? ⟨f.1.size,1,none⟩=some (.int .i64 H.addr):=Grown.cell T zH;have g4:∀u:Grown y,u.to.cell? ⟨f.1.size,2,none⟩=some (.int .i64 H.count):=Grown.cell U zH;have g5:∀u:Grown y,u.to.cell? ⟨f.1.size,4,none⟩=some (.int .i64 H.gen):=Grown.cell V zH;refine Iq (by kernel_rfl) (by kernel_rfl) ?_;repeat (go_big_quiet_step (first
      |(go_at_call 133;exact Calls.grown (Qdu _ g _))
      |fail))
     refine wpQuiet_nil ?_;rintro _ ⟨u,rfl⟩;have B7:=B6.trans (u.ok.mono B6.size);go_wp2;go_ret2;exact⟨.inr ⟨b9.out,5,by omega,rfl⟩,B7⟩
    ·go_wp2_with (first
      |(go_at_call 138;refine c6.out.mono ?_;rintro e w4 ⟨A4,n4,rfl,s4,_,F,_⟩;have t4:=t.below F t.1)
      |(go_at_call 139;have Z:=open_any A4 n4 n4 x w4 s4 t4;unfold Ox at Z;rw[o1,o2,o3] at Z;refine Z.mono ?_;rintro e f ⟨A5,n5,c5,rfl,I,b5⟩)
      |(refine Qdh rfl (.tmp 12) (.tmp 37) rfl f.1.size rfl H _ rfl (HB.zero f _) (by simp) ?_;intro y H6 a1 T6;have K:Below f.1.size f y:=(Ib).trans (a1 _ (Nat.le_refl _));have z:Below wr.1.size wr y:=F.trans ((b5.trans (K.mono b5.size)).mono F.size))
      |fail)
     have Yy:=(z.cell (p:=⟨w.1.size,0,none⟩) zX).trans q0;have d2:w.1.size<y.1.size:=Nat.lt_of_lt_of_le zX z.size;have zH:f.1.size<y.1.size:=by obtain⟨_,h⟩:=H6;exact Jq h
     have O:=H6.at_ 0;have Q:=H6.at_ 1;have T:=H6.at_ 2;have U:=H6.at_ 3;have V:=H6.at_ 4;simp only[Ym,Hd.Bl] at O Q T U V;have g0:∀u:Grown y,u.to.cell? ⟨w.1.size,0,none⟩=some (.int .i64 g):=Grown.cell Yy d2;have g1:∀u:Grown y,u.to.cell? ⟨f.1.size,0,none⟩=some (.int .i64 H.kind):=Grown.cell O zH;have g2:∀u:Grown y,u.to.cell? ⟨f.1.size,3,none⟩=some (.int .i64 H.level):=Grown.cell Q zH;have g3:∀u:Grown y,u.to.cell? ⟨f.1.size,1,none⟩=some (.int .i64 H.addr):=Grown.cell T zH;have g4:∀u:Grown y,u.to.cell? ⟨f.1.size,2,none⟩=some (.int .i64 H.count):=Grown.cell U zH;have g5:∀u:Grown y,u.to.cell? ⟨f.1.size,4,none⟩=some (.int .i64 H.gen):=Grown.cell V zH;refine Iq (by kernel_rfl) (by kernel_rfl) ?_;repeat (go_big_quiet_step (first
      |(go_at_call 133;exact Calls.grown (Qdu _ g _))
      |fail))
     refine wpQuiet_nil ?_;rintro _ ⟨u,rfl⟩;have J:Below wr.1.size wr u.to:=z.trans (u.ok.mono z.size);have B7:=B.trans (J.mono B.size);have R7:=R.below J;have s7:Sl u.to A5 n5 c5 ((D.newest (a+j)).drop 20):=by rw[Hs.out,Hx.out,<-o2];exact (o2▸I.sl.below K).below u.ok
     have d5:∀ad,A5=some ad->ad.block≠bb:=λad e=>by have h1:=(I.block ad e).1;have h2:=R.lt;have h3:=F.size;omega
     obtain⟨⟨v7,f9⟩,f7⟩:=R7.at_ a6;have R8:=R7.Xe a6 s7 d5;have L7:=L.below J;have t7:=t.below J t.1;have X7:=X.below J X.lt;have f4:bb<u.to.1.size:=R7.lt;have Y:Turn (λk=>k=bb) u.to (u.to.setCell ⟨bb,j,none⟩ (.slice A5 n5 c5)):=Gi (a:=⟨bb,j,none⟩) _ rfl;have B8:=B7.trans (Y.below (B:=w.1.size) (λk hk=>by omega) (by omega));have L8:=L7.keep λk hk hs=>Y.block k hk λe=>by have:=hs.2;omega
     have t8:=t7.turned Y (by omega);have X8:=X7.block (Y.block _ X7.lt (by omega));clear R L t X B R7 L7 t7 X7 B7 s7 d5 g0 g1 g2 g3 g4 g5 O Q T U V q0 Yy z J Y;go_wp2;refine⟨⟨j+1,by omega,by go_num,λq hq=>?_,R8,L8,t8,X8,B8⟩,by simp[intOf];omega⟩;by_cases e:q=j
     ·rw[e];exact d4.out
     ·exact b6.out q (by omega)
  ·have e6:j=A:=by omega
   subst e6;have q1:=Q1.out wr X;have P:=R.parts (by omega);have d0:=Qus (D.n:Int) _ _ _ _ P;obtain⟨LE,c8⟩:∃x,Oj (D.n:Int) ((List.range j).map λi=>(D.newest (a+i)).drop 20)=x:=⟨_,rfl⟩;obtain⟨LC,c7⟩:∃x,Qcp D.n ((List.range j).map λi=>(D.newest (a+i)).drop 20)=x:=⟨_,rfl⟩;rw[Int.toNat_natCast,c8,c7] at d0;have d3:=Lib.hid c8;have e2:=Lib.hid c7;have e3:¬(j:Int)<(j:Int):=by omega
   have e5:=Lib.hid d0;clear c8 c7 d0;go_wp2_with fail
   refine e5.out.mono ?_;rintro e w4 ⟨⟨h0,p,rfl,C4,hp⟩|⟨h0,rfl⟩,F⟩
   ·have hY:=Lib.hid (show G by rw[<-HG.out];exact⟨b6.out,d3.out.trans h0⟩);clear h0;go_wp2;go_ret2;have:=B.size;exact⟨.inl ⟨hY.out,p,rfl,by rw[e2.out];exact C4.mono λk hk=>by omega,by omega⟩,B.trans (F.mono B.size)⟩
   ·have hN:=Lib.hid (show ¬G by rw[<-HG.out];exact λh=>h0 (d3.out.symm.trans h.2));have H0:=Lib.hid h0;clear h0;go_wp2;go_ret2;exact⟨.inr ⟨hN.out,LE,H0.out,rfl⟩,B.trans (F.mono B.size)⟩
end
