/- The code's edit: refs and unrefs -/
import Derived.Test.YthkfkhejjmhomaaGreatDoorEs28
import Derived.Deep.CutRange
namespace Go.Proofs.YthkfkhejjmhomaaGreatDoor
open Go Go.RowKit Go.Proofs
set_option maxHeartbeats 8000000
set_option maxRecDepth 100000
section
variable {b:Nat}{w w':World}{d p:Nat}{S0 S T:Nat->Prop}{D:DM}{P P':Pl}
theorem Qe.step (H:Qe b w d p S0 S T D P)(R:Pool w' p d S T P')(X:Turn S w w'):Qe b w' d p S0 S T D P':=by
 have m:=X.size;exact⟨H.Ba.keep λk e f=>X.block k e (H.apart k f),R,H.sub,H.apart,λk e=>⟨(H.tight k e).1,by have:=(H.tight k e).2;omega⟩⟩
theorem Qe.low (H:Qe b w d p S0 S T D P):∀k,S k->k<w.1.size:=λk e=>(H.tight k (H.Dv k e)).2
theorem Qe.tab (H:Qe b w d p S0 S T D P)(hb:1<b)(ht:Tab w)(X:Turn S w w'):Tab w':=ht.turned X λh=>by have:=(H.tight _ (H.Dv _ h)).1;omega
theorem Qe.less {T':Nat->Prop}(H:Qe b w d p S0 S T' D P)(hT:∀k,T k->T' k)(h0:∀k,S0 k->T k)(h1:∀k,S k->T k):Qe b w d p S0 S T D P:=
 ⟨H.Ba,H.pool.mono (λ_ _ h=>h) (λk _ h=>hT k h) h1,h0,H.apart,λk e=>H.tight k (hT k e)⟩
theorem qw6 (H:Qe b w d p S0 S T D P)(m:1<b)(u:Tab w)(a:Int) :
  Calls Tryz.prog 74 #[.pointer (some ⟨p,0,none⟩),.int .i64 a] w λe w'=>e=.returned (.int .i64 (P.C.Yg a))/\Qe b w' d p S0 S T D ⟨P.S,P.C.ref a,P.L⟩/\Turn S w w'/\Tab w':=
 (qu1 H.pool a).mono λ_ _ ⟨h1,h2,f⟩=>⟨h1,H.step h2 f,f,H.tab m u f⟩
theorem qe4 (H:Qe b w d p S0 S T D P)(m:1<b)(u:Tab w)(a:Int) :
  Calls Tryz.prog 149 #[.pointer (some ⟨p,0,none⟩),.int .i64 a] w λe w'=>e=.returned (.tuple #[.int .i64 (P.C.Jw a),.int .i64 (P.C.Zh a)])/\Qe b w' d p S0 S T D ⟨P.S,P.C.Qj a,P.L⟩/\Turn S w w'/\Tab w':=
 (qmp H.pool a).mono λ_ _ ⟨h1,h2,f⟩=>⟨h1,H.step h2 f,f,H.tab m u f⟩
def tv (p:Nat):Value:=.agg #[.pointer (some ⟨p,0,none⟩)]
theorem qck {w:World}{base:Nat}{A:Option Addr}{n c:Nat}{zs:List Int}(h:Qo w base 3 1 A n c (zs.map iv)){j:Nat}(B:j<n):∃g o,A=some ⟨g,o,none⟩/\w.cell? ⟨g,o+j,none⟩=some (.int .i64 (zs.getD j 0)):=by
 have f:=h.Kt (by omega);have m:=f.len;rw[List.length_map] at m;obtain⟨g,o,e,y,_,u⟩:=f.2.2.2 j (iv (zs.getD j 0)) (by
  rw[List.getElem?_map,List.getElem?_eq_getElem (by omega),List.getD_eq_getElem?_getD,List.getElem?_eq_getElem (by omega)];rfl)
 have:=u 0 _ rfl;rw[Nat.mul_one,Nat.add_zero] at this;exact⟨g,o,e,this⟩
theorem q9l {zs:List Int}{j:Nat}(h:j<zs.length):zs.drop j=zs.getD j 0::zs.drop (j+1):=by
 rw[List.drop_eq_getElem_cons h,List.getD_eq_getElem?_getD,List.getElem?_eq_getElem h];rfl
theorem qq8 (H:Qe b w d p S0 S T D P)(hb:1<b)(ht:Tab w)(N:Nd)(W:N.fit)(A:Option Addr)(n c:Nat)(B:Option Addr)(m E:Nat)(J:Jg (Turn S w) N A n c B m E)(hP:Ui N.named P=some P') :
  Calls Tryz.prog 229 #[tv p,Xo N.lvl A n c B m E] w λe w'=>e=.returned (.int .i64 0)/\Qe b w' d p S0 S T D P'/\Turn S w w'/\Tab w':=by
 have hS:=H.low;have G:NB ((w.alloc (.cells #[.pointer (some ⟨p,0,none⟩)] 173)).alloc (.cells #[.int .i64 N.lvl,.slice A n c,.slice B m E] 178)) (w.1.size+1) N.lvl A n c B m E:=NB.new2 w _ _ _ _ _ _ _ _ _;have M:RB ((w.alloc (.cells #[.pointer (some ⟨p,0,none⟩)] 173)).alloc (.cells #[.int .i64 N.lvl,.slice A n c,.slice B m E] 178)) w.1.size [.pointer (some ⟨p,0,none⟩)]:=(RB.new w [.pointer (some ⟨p,0,none⟩)] 173).below (Qn) (by simp);have O:Below w.1.size w ((w.alloc (.cells #[.pointer (some ⟨p,0,none⟩)] 173)).alloc (.cells #[.int .i64 N.lvl,.slice A n c,.slice B m E] 178)):=(Qn).alloc (by simp) _;have c0:=G.c0;have c1:=G.c1;have c2:=G.c2;have hn:=J.hn;have hm:=J.hm;have Hk:=Lib.hid (λu (hu:Below w.1.size w u)=>q7t N W A n c B m E u (J.its.J5 (Qu hu)) (J.Bd u (Qu hu)) (by omega) (by omega));have HP:=Lib.hid hP;clear hP;unfold Xo tv;go_enter Tryz.func229,Tryz.ntmps229
 go_wp2_with fail
 generalize ((w.alloc (.cells #[.pointer (some ⟨p,0,none⟩)] 173)).alloc (.cells #[.int .i64 N.lvl,.slice A n c,.slice B m E] 178))=w1 at G M O c0 c1 c2 ⊢;refine (Hk.out w1 O).mono ?_;rintro e w2 ⟨A2,I,k2,rfl,y,b2⟩;have a3:=Qo.len y (by omega);rw[List.length_map] at a3;have B2:=O.trans (b2.mono O.size);have T2:=M.below b2 M.lt;have H2:=H.below B2;have t2:=ht.below B2 ht.1;have X2:Turn S w w2:=Qu B2;have a7:I<=120:=by
  have h1:N.named.length<=N.kids.length+N.items.length:=by
   unfold Nd.named;rw[List.length_append,List.length_map];have:=List.length_filterMap_le Y4 N.items;omega
  have:=J.ln;have:=J.lm;omega
 have z1:=G.lt;have Z:∀k,q01 A2=some k->w.1.size<k:=λk Y=>by have:=(y.Qc k Y).1;have:=M.lt;have:=G.lt;omega
 clear c0 c1 c2 G M O b2 Hk B2;go_wp2_with fail
 go_loopw [12] (λi wr=>∃(j:Nat) (f:Pl),j<=I/\i=.int .i64 (j:Int)/\Ui (N.named.drop j) f=some P'/\Qe b wr d p S0 S T D f/\Tab wr/\Turn S w wr/\RB wr w.1.size [.pointer (some ⟨p,0,none⟩)]/\Qo wr (w.1.size+1) 3 1 A2 I k2 (N.named.map iv)) (λi _=>I-(intOf i).toNat)
 case atStart=>exact⟨0,P,Nat.zero_le _,rfl,HP.out,H2,t2,X2,T2,y.less (by omega)⟩
 case round=>
  obtain⟨j,f,hj,rfl,R,Hj,tj,Xj,Tj,F⟩:=hrel;have K:=Lib.hid R;clear R;by_cases a4:j<I
  ·obtain⟨g,o,hA,y0⟩:=qck F a4;subst hA;have hd:=q9l (zs:=N.named) (j:=j) (by omega);obtain⟨z,hz⟩:∃z,N.named.getD j 0=z:=⟨_,rfl⟩;rw[hz] at y0 hd;have HD:=Lib.hid hd;clear hz hd;have q0:=Tj.cell 0 rfl;have hr:f.C.Yg z=0/\Ui (N.named.drop (j+1)) ⟨f.S,f.C.ref z,f.L⟩=some P':=by
    have h:=K.out;rw[HD.out] at h;have h:(if f.C.Yg z=0 then Ui (N.named.drop (j+1)) ⟨f.S,f.C.ref z,f.L⟩ else none)=some P':=h;split at h
    ·rename_i h0;exact⟨h0,h⟩
    ·cases h
   obtain⟨a0,a1⟩:=hr;have HR:=Lib.hid a1;have Hc:=qw6 Hj hb tj z;rw[a0] at Hc;have Hc:=Lib.hid Hc;clear a1 a0;go_wp2_with fail
   refine Hc.out.mono ?_;rintro e w3 ⟨rfl,H3,X3,t3⟩;have T3:=Tj.turned X3 (λh=>by have:=hS _ h;omega);have a2:=Qo.turned F X3 (λk Y hs=>by have:=hS _ hs;have:=Z k Y;omega);have XX:=Xj.trans X3 λk Y=>.inl Y
   go_wp2;exact⟨⟨j+1,_,by omega,by go_num,HR.out,H3,t3,XX,T3,a2⟩,by simp[intOf];omega⟩
  ·have a6:j=I:=by omega
   have U:f=P':=by
    have h:=K.out;rw[List.drop_of_length_le (by omega)] at h;exact Option.some.inj h
   subst U;have a5:¬(j:Int)<(I:Int):=by omega
   go_wp2;go_ret;exact⟨rfl,Hj,Xj,tj⟩
theorem qif (H:Qe b w d p S0 S T D P)(hb:1<b)(ht:Tab w)(N:Nd)(W:N.fit)(A:Option Addr)(n c:Nat)(B:Option Addr)(m E:Nat)(J:Jg (Turn S w) N A n c B m E)(hP:G8 N.named P=some P') :
  Calls Tryz.prog 230 #[tv p,Xo N.lvl A n c B m E] w λe w'=>e=.returned (.int .i64 0)/\Qe b w' d p S0 S T D P'/\Turn S w w'/\Tab w':=by
 have hS:=H.low;have G:NB ((w.alloc (.cells #[.pointer (some ⟨p,0,none⟩)] 173)).alloc (.cells #[.int .i64 N.lvl,.slice A n c,.slice B m E] 178)) (w.1.size+1) N.lvl A n c B m E:=NB.new2 w _ _ _ _ _ _ _ _ _;have M:RB ((w.alloc (.cells #[.pointer (some ⟨p,0,none⟩)] 173)).alloc (.cells #[.int .i64 N.lvl,.slice A n c,.slice B m E] 178)) w.1.size [.pointer (some ⟨p,0,none⟩)]:=(RB.new w [.pointer (some ⟨p,0,none⟩)] 173).below (Qn) (by simp);have O:Below w.1.size w ((w.alloc (.cells #[.pointer (some ⟨p,0,none⟩)] 173)).alloc (.cells #[.int .i64 N.lvl,.slice A n c,.slice B m E] 178)):=(Qn).alloc (by simp) _;have c0:=G.c0;have c1:=G.c1;have c2:=G.c2;have hn:=J.hn;have hm:=J.hm;have Hk:=Lib.hid (λu (hu:Below w.1.size w u)=>q7t N W A n c B m E u (J.its.J5 (Qu hu)) (J.Bd u (Qu hu)) (by omega) (by omega));have HP:=Lib.hid hP;clear hP;unfold Xo tv;go_enter Tryz.func230,Tryz.ntmps230
 go_wp2_with fail
 generalize ((w.alloc (.cells #[.pointer (some ⟨p,0,none⟩)] 173)).alloc (.cells #[.int .i64 N.lvl,.slice A n c,.slice B m E] 178))=w1 at G M O c0 c1 c2 ⊢;refine (Hk.out w1 O).mono ?_;rintro e w2 ⟨A2,I,k2,rfl,y,b2⟩;have a3:=Qo.len y (by omega);rw[List.length_map] at a3;have B2:=O.trans (b2.mono O.size);have T2:=M.below b2 M.lt;have H2:=H.below B2;have t2:=ht.below B2 ht.1;have X2:Turn S w w2:=Qu B2;have a7:I<=120:=by
  have h1:N.named.length<=N.kids.length+N.items.length:=by
   unfold Nd.named;rw[List.length_append,List.length_map];have:=List.length_filterMap_le Y4 N.items;omega
  have:=J.ln;have:=J.lm;omega
 have z1:=G.lt;have Z:∀k,q01 A2=some k->w.1.size<k:=λk Y=>by have:=(y.Qc k Y).1;have:=M.lt;have:=G.lt;omega
 clear c0 c1 c2 G M O b2 Hk B2;go_wp2_with fail
 go_loopw [13] (λi wr=>∃(j:Nat) (f:Pl),j<=I/\i=.int .i64 (j:Int)/\G8 (N.named.drop j) f=some P'/\Qe b wr d p S0 S T D f/\Tab wr/\Turn S w wr/\RB wr w.1.size [.pointer (some ⟨p,0,none⟩)]/\Qo wr (w.1.size+1) 3 1 A2 I k2 (N.named.map iv)) (λi _=>I-(intOf i).toNat)
 case atStart=>exact⟨0,P,Nat.zero_le _,rfl,HP.out,H2,t2,X2,T2,y.less (by omega)⟩
 case round=>
  obtain⟨j,f,hj,rfl,R,Hj,tj,Xj,Tj,F⟩:=hrel;have K:=Lib.hid R;clear R;by_cases a4:j<I
  ·obtain⟨g,o,hA,y0⟩:=qck F a4;subst hA;have hd:=q9l (zs:=N.named) (j:=j) (by omega);obtain⟨z,hz⟩:∃z,N.named.getD j 0=z:=⟨_,rfl⟩;rw[hz] at y0 hd;have HD:=Lib.hid hd;clear hz hd;have q0:=Tj.cell 0 rfl;have hr:f.C.Zh z=0/\G8 (N.named.drop (j+1)) ⟨f.S,f.C.Qj z,f.L⟩=some P':=by
    have h:=K.out;rw[HD.out] at h;have h:(if f.C.Zh z=0 then G8 (N.named.drop (j+1)) ⟨f.S,f.C.Qj z,f.L⟩ else none)=some P':=h;split at h
    ·rename_i h0;exact⟨h0,h⟩
    ·cases h
   obtain⟨a0,a1⟩:=hr;have HR:=Lib.hid a1;have Hc:=qe4 Hj hb tj z;rw[a0] at Hc;have Hc:=Lib.hid Hc;clear a1 a0;go_wp2_with fail
   refine Hc.out.mono ?_;rintro e w3 ⟨rfl,H3,X3,t3⟩;have T3:=Tj.turned X3 (λh=>by have:=hS _ h;omega);have a2:=Qo.turned F X3 (λk Y hs=>by have:=hS _ hs;have:=Z k Y;omega);have XX:=Xj.trans X3 λk Y=>.inl Y
   go_wp2;exact⟨⟨j+1,_,by omega,by go_num,HR.out,H3,t3,XX,T3,a2⟩,by simp[intOf];omega⟩
  ·have a6:j=I:=by omega
   have U:f=P':=by
    have h:=K.out;rw[List.drop_of_length_le (by omega)] at h;exact Option.some.inj h
   subst U;have a5:¬(j:Int)<(I:Int):=by omega
   go_wp2;go_ret;exact⟨rfl,Hj,Xj,tj⟩
end
def D9 (s:Qs)(A:Option Addr)(n c:Nat)(B:Option Addr)(m d:Nat):List Value:=Jc s.N.lvl A n c B m d s.addr (s.next:Int) s.held s.shared
def Vb (s:Qs)(A:Option Addr)(n c:Nat)(B:Option Addr)(m d:Nat):Value:=.agg #[.int .i64 s.N.lvl,.slice A n c,.slice B m d,.int .i64 s.addr,.int .i64 (s.next:Int),.bool s.held,.bool s.shared]
theorem qxg {w w':World}{S:Nat->Prop}(F:∀k,S k->k<w.1.size){M:Nd}{J K:Option Addr}{H c1 E O:Nat}(hn:H<=20)(hm:E<=20)(A:Jt w' w.1.size J H c1 M.items)(B:Qo w' w.1.size 148 4 K E O (M.kids.map Qm.vs)):Jg (Turn S w') M J H c1 K E O:=by
 have l1:=A.J5.len;have l2:M.kids.length=E:=by have:=Qo.len B (by omega);rw[List.length_map] at this;exact this
 have R:=A.J5.bounds;have U:=Qo.Kt B (by omega);refine⟨?_,λu y=>Qo.Kt (Qo.turned B y λk f m=>by have:=(Qo.Qc B k f).1;have:=F k m;omega) (by omega),l1,l2,⟨by omega,R.1,R.2⟩,⟨by omega,U.cap,U.max⟩⟩;have Y:=A.Qc;obtain⟨I,h1,h2,W⟩:=A;refine⟨I,λu y=>(h1.turned y λk f m=>by have:=(Y k f).1;have:=F k m;omega).Kt (by omega),h2,λj r x hr hx=>?_⟩;obtain⟨V,p,q,e,hv,G⟩:=W j r x hr hx;exact⟨V,p,q,e,λu y=>hv.turned' y λZ k f m=>by have:=(G Z k f).1;have:=F k m;omega⟩
section
variable {b:Nat}{w w':World}{d p:Nat}{S0 S T:Nat->Prop}{D:DM}{P P':Pl}
theorem q5o (H:Qe b w d p S0 S T D P)(Z:1<b)(K:Tab w)(s:Qs)(A:Option Addr)(n c:Nat)(B:Option Addr)(m F:Nat)(u:P.leave s=some P') :
  Calls Tryz.prog 231 #[tv p,Vb s A n c B m F] w λe w'=>e=.returned (.int .i64 0)/\Qe b w' d p S0 S T D P'/\Turn S w w'/\Tab w':=by
 obtain⟨N,f,G,hd,I⟩:=s;have R:RB ((w.alloc (.cells #[.pointer (some ⟨p,0,none⟩)] 173)).alloc (.cells (Jc N.lvl A n c B m F f (G:Int) hd I).toArray 180)) w.1.size [.pointer (some ⟨p,0,none⟩)]:=(RB.new w [.pointer (some ⟨p,0,none⟩)] 173).below (Qn) (by simp);have M:RB ((w.alloc (.cells #[.pointer (some ⟨p,0,none⟩)] 173)).alloc (.cells (Jc N.lvl A n c B m F f (G:Int) hd I).toArray 180)) (w.1.size+1) (Jc N.lvl A n c B m F f (G:Int) hd I):=by
  have:=RB.new (w.alloc (.cells #[.pointer (some ⟨p,0,none⟩)] 173)) (Jc N.lvl A n c B m F f (G:Int) hd I) 180;rwa [World.size_alloc] at this
 have y:Below w.1.size w ((w.alloc (.cells #[.pointer (some ⟨p,0,none⟩)] 173)).alloc (.cells (Jc N.lvl A n c B m F f (G:Int) hd I).toArray 180)):=(Qn).alloc (by simp) _;have y0:=R.cell 0 rfl;have y1:=M.cell 3 rfl;have y3:=M.cell 5 rfl;unfold Pl.leave at u;dsimp only at u;have E:=qe4 (H.below y) Z (K.below y K.1) f;have O:=H.below y;have U:=K.below y K.1;unfold tv Vb;dsimp only;unfold Jc at y y3 y1 y0 E O U;clear M R
 cases hd with
 |true=>
  obtain rfl:=Option.some.inj u;clear E;go_enter Tryz.func231,Tryz.ntmps231
  go_wp2;go_ret;exact⟨rfl,O,Qu y,U⟩
 |false=>
  have J:P.C.Zh f=0/\⟨P.S,P.C.Qj f,P.L⟩=P':=by
   rw[if_neg Bool.false_ne_true] at u;split at u
   ·rename_i h;exact⟨h,Option.some.inj u⟩
   ·cases u
  obtain⟨J,rfl⟩:=J;rw[J] at E;have E:=Lib.hid E;clear u J;go_enter Tryz.func231,Tryz.ntmps231
  go_wp2_with fail
  refine E.out.mono ?_;rintro e w2 ⟨rfl,W,Y,t2⟩;go_wp2;go_ret;exact⟨rfl,W,(Qu (S:=S) y).trans Y λk hk=>.inl hk,t2⟩
theorem qg6 (H:Qe b w d p S0 S T D P)(ht:Tab w)(a0:∀a b,P.L a=some b->b.kindOk)(a:Int)(held:Bool)(hE:P.Qd D a=0) :
  Calls Tryz.prog 183 #[tv p,.int .i64 a,.bool held] w λe w'=>∃A n c B m dd,e=.returned (.tuple #[Vb (P.spot D a held) A n c B m dd,.int .i64 0])/\Jg (Turn (λk=>k<w.1.size) w') (P.Qa D a) A n c B m dd/\Below w.1.size w w':=by
 have W:RB ((w.alloc (.cells #[.pointer (some ⟨p,0,none⟩)] 173)).alloc (.cells #[.int .i64 0,.slice none 0 0,.slice none 0 0,.int .i64 0,.int .i64 0,.bool false,.bool false] 180)) w.1.size [.pointer (some ⟨p,0,none⟩)]:=(RB.new w [.pointer (some ⟨p,0,none⟩)] 173).below (Qn) (by simp);have R1:RB ((w.alloc (.cells #[.pointer (some ⟨p,0,none⟩)] 173)).alloc (.cells #[.int .i64 0,.slice none 0 0,.slice none 0 0,.int .i64 0,.int .i64 0,.bool false,.bool false] 180)) (w.1.size+1) (Jc 0 none 0 0 none 0 0 0 0 false false):=by
  have:=RB.new (w.alloc (.cells #[.pointer (some ⟨p,0,none⟩)] 173)) (Jc 0 none 0 0 none 0 0 0 0 false false) 180;rwa [World.size_alloc] at this
 have b1:Below w.1.size w ((w.alloc (.cells #[.pointer (some ⟨p,0,none⟩)] 173)).alloc (.cells #[.int .i64 0,.slice none 0 0,.slice none 0 0,.int .i64 0,.int .i64 0,.bool false,.bool false] 180)):=(Qn).alloc (by simp) _;have y0:=W.cell 0 rfl;have hS:=H.low;obtain⟨M,hM⟩:∃M,P.Qa D a=M:=⟨_,rfl⟩;obtain⟨x,hx⟩:∃x,P.C.get a=x:=⟨_,rfl⟩;have Y:=λ(u:World) (J:Below w.1.size w u)=>q74 (H.below J).Ba (H.below J).pool a0 (ht.below J ht.1) a
 rw[hM,hE] at Y;have Y:=Lib.hid Y;have Hc:=Lib.hid (λ(u:World) (J:Below w.1.size w u)=>q1l (H.below J).pool a x hx);obtain⟨r,hr⟩:∃r,decide (1<x)=r:=⟨_,rfl⟩;unfold Pl.spot;rw[hM,hx,hr];clear hx hM hE;unfold tv;go_enter Tryz.func183,Tryz.ntmps183
 go_wp2_with fail
 generalize ((w.alloc (.cells #[.pointer (some ⟨p,0,none⟩)] 173)).alloc (.cells #[.int .i64 0,.slice none 0 0,.slice none 0 0,.int .i64 0,.int .i64 0,.bool false,.bool false] 180))=w1 at W R1 b1 y0 ⊢;refine (Y.out w1 b1).mono ?_;rintro e f ⟨y,I,c1,E,G,F,rfl,a2,a1,hI,hK,b2⟩;have z1:=R1.lt;have z0:=b1.size;have z2:=b2.size;have hq:Jg (Turn (λk=>k<w1.1.size) f) M y I c1 E G F:=qxg (λk R=>R) a2 a1 hI hK;have B2:=b1.trans (b2.mono b1.size);have K:Below f.1.size f (f.alloc (.cells #[.int .i64 M.lvl,.slice y I c1,.slice E G F] 77)):=Qn;have Z:NB (f.alloc (.cells #[.int .i64 M.lvl,.slice y I c1,.slice E G F] 77)) f.1.size M.lvl y I c1 E G F:=NB.new f _ _ _ _ _ _ _ _;have T3:=(W.below b2 W.lt).below K (by have:=W.lt;omega);have R3:=(R1.below b2 R1.lt).below K (by omega);have B3:=B2.trans (K.mono B2.size);have fin:∀(u O:World),Below f.1.size f u->Turn (λk=>k=w.1.size+1) u O->Jg (Turn (λk=>k<w.1.size) O) M y I c1 E G F/\Below w.1.size w O:=λu O J T=>by
  have h1:=J.size;refine⟨hq.mono λv hv=>(((Qu (S:=λk=>k<w1.1.size) J).trans T λk R=>.inl (by have:k=w.1.size+1:=R;show k<_;omega)).trans hv λk R=>.inl (by have:k<w.1.size:=R;show k<_;omega)),B2.trans ((J.mono B2.size).trans (T.below (λk R=>by have:k=w.1.size+1:=R;omega) (by omega)))⟩
 clear hI hK hq b2 W R1 y0;go_wp2_with fail
 generalize f.alloc (.cells #[.int .i64 M.lvl,.slice y I c1,.slice E G F] 77)=U at K Z T3 R3 B3 ⊢;have zR:=R3.lt;have zN:=Z.lt;have zT:=T3.lt;have zB:=B3.size;have bD:Below U.1.size U U.drew:=(Below.refl _ _).drew;have g0:∀u:Grown U,u.to.cell? ⟨w.1.size,0,none⟩=some (.pointer (some ⟨p,0,none⟩)):=Grown.cell (T3.cell 0 rfl) zT;have g1:∀u:Grown U,u.to.cell? ⟨f.1.size,0,none⟩=some (.int .i64 M.lvl):=Grown.cell Z.c0 zN;have g2:∀u:Grown U,u.to.cell? ⟨f.1.size,1,none⟩=some (.slice y I c1):=Grown.cell Z.c1 zN;have g3:∀u:Grown U,u.to.cell? ⟨f.1.size,2,none⟩=some (.slice E G F):=Grown.cell Z.c2 zN;clear Y
 cases held with
 |true=>
  go_wp2_with fail
  refine q25 13 (by kernel_rfl) (by kernel_rfl) ?_;simp only[List.take_succ_cons,List.take_zero,List.drop_succ_cons,List.drop_zero];repeat (go_big_quiet_step (first|fail))
  refine wpQuiet_nil ?_;rintro _ ⟨u,rfl⟩;have R4:=R3.below u.ok zR;go_wp2_with (first
   |(refine Og rfl _ _ rfl (w.1.size+1) rfl M.lvl y I c1 E G F a 0 true true rfl R4 rfl ?_;intro O Rz Tz)
   |fail)
  refine bodyPost_ret (Gi Tryz.results183 rfl (q5n Rz)) rfl ?_;obtain⟨f1,f2⟩:=fin u.to O (K.trans (u.ok.mono K.size)) Tz;exact⟨y,I,c1,E,G,F,rfl,f1,f2⟩
 |false=>
  go_wp2_with fail
  refine q25 13 (by kernel_rfl) (by kernel_rfl) ?_;simp only[List.take_succ_cons,List.take_zero,List.drop_succ_cons,List.drop_zero];repeat (go_big_quiet_step (first|(go_at_call 38;exact Calls.J7 (Hc.out _ (B3.trans ((Grown.ok _).mono B3.size))))|fail))
  refine wpQuiet_nil ?_;rintro _ ⟨u,rfl⟩;have R4:=R3.below u.ok zR;go_wp2_with (first
   |(refine Og rfl _ _ rfl (w.1.size+1) rfl M.lvl y I c1 E G F a 0 false r rfl R4 rfl ?_;intro O Rz Tz)
   |fail)
  refine bodyPost_ret (Gi Tryz.results183 rfl (q5n Rz)) rfl ?_;obtain⟨f1,f2⟩:=fin u.to O (K.trans (u.ok.mono K.size)) Tz;exact⟨y,I,c1,E,G,F,rfl,f1,f2⟩
end
section
def stS (p v:Value):Sem Unit:=Instr.storeAt 180 p v
theorem qe5 (p v:Value):Instr.storeAt 180 p v=stS p v:=rfl
theorem qig {w:World}{b:Nat}{r:List Value}(H:RB w b r)(u:r.length=7)(l:Int)(A:Option Addr)(n c:Nat)(B:Option Addr)(m d:Nat)(e f:Int)(h s:Bool) :
  (stS (.pointer (some ⟨b,0,none⟩)) (.agg #[.int .i64 l,.slice A n c,.slice B m d,.int .i64 e,.int .i64 f,.bool h,.bool s])).run Tryz.prog w=.ok () (w.setCells b 0 (Jc l A n c B m d e f h s)):=
 run_storeAt_mid w b 0 180 (Jc l A n c B m d e f h s).toArray (by have:=H.there;rw[u] at this;exact this) (by kernel_rfl) (by simp[Jc,Value.oneCell'])
theorem qe6 {u v:World}{q:Nat}{r:List Value}(E:Below u.1.size u v)(G:u.1.size<=q)(H:RB v q r)(y:r.length=7)(l:Int)(A:Option Addr)(n c:Nat)(B:Option Addr)(m d:Nat)(e f:Int)(h s:Bool) :
  (stS (.pointer (some ⟨q,0,none⟩)) (.agg #[.int .i64 l,.slice A n c,.slice B m d,.int .i64 e,.int .i64 f,.bool h,.bool s])).run Tryz.prog v=.ok () (v.setCells q 0 (Jc l A n c B m d e f h s))/\RB (v.setCells q 0 (Jc l A n c B m d e f h s)) q (Jc l A n c B m d e f h s)/\
   Turn (λk=>k=q) v (v.setCells q 0 (Jc l A n c B m d e f h s))/\Below u.1.size u (v.setCells q 0 (Jc l A n c B m d e f h s)):=by
 have T:Turn (λk=>k=q) v (v.setCells q 0 (Jc l A n c B m d e f h s)):=Um (S:=λk=>k=q) rfl _ 0 v;exact⟨qig H y l A n c B m d e f h s,H.stored _ y,T,E.trans (T.below (λk F=>by have:k=q:=F;omega) E.size)⟩
theorem qe7 {B e:Nat}{y u:World}{M:Nd}{A:Option Addr}{n c:Nat}{f:Option Addr}{m d:Nat}(F:Jg (Turn (λk=>k<B) y) M A n c f m d)(X:Turn (λk=>k<B) y u)(H:e<=B):Jg (Turn (λk=>k<e) u) M A n c f m d:=
 F.mono λv G=>X.trans G λk E=>.inl (by have:k<e:=E;show k<B;omega)
abbrev Ud:Obj:=.cells #[.int .i64 0,.slice none 0 0,.slice none 0 0,.int .i64 0,.int .i64 0,.bool false,.bool false] 180
theorem Ig (w:World):RB (w.alloc Ud) w.1.size (Jc 0 none 0 0 none 0 0 0 0 false false):=RB.new w (Jc 0 none 0 0 none 0 0 0 0 false false) 180
attribute [local go_sem ↓] qe5
section
variable {b:Nat}{w w':World}{d p:Nat}{S0 S T:Nat->Prop}{D:DM}{P P':Pl}
theorem qkm (H:Qe b w d p S0 S T D P)(ht:Tab w)(a4:∀a b,P.L a=some b->b.kindOk)(s:Qs)(A:Option Addr)(n c:Nat)(B:Option Addr)(m F:Nat)(hB:Ry (Turn S w) B m F s.N.kids)(hl:1<=s.N.lvl/\s.N.lvl<8)(i:Nat)(W:P.Wi D s i=true) :
  Calls Tryz.prog 184 #[tv p,Vb s A n c B m F,.int .i64 (i:Int)] w λe w'=>∃A n c B m F,e=.returned (.tuple #[Vb (P.Jf D s i) A n c B m F,.int .i64 0])/\Jg (Turn (λk=>k<w.1.size) w') (P.Jf D s i).N A n c B m F/\Below w.1.size w w':=by
 obtain⟨N,ad,nx,hd,K⟩:=s;obtain⟨k1,k2,k3⟩:=of_decide_eq_true W;unfold Pl.Jf;dsimp only at hB hl k1 k2 k3 ⊢;clear W;have a0:=hB w (Turn.refl _ _);have a6:=a0.len;obtain⟨g,o,rfl,hg,-,-,-,x3⟩:=a0.cell (show i<m by omega);obtain⟨a,ha⟩:∃a,(Qh N.kids i).a=a:=⟨_,rfl⟩;rw[ha] at x3 k2 k3 ⊢;clear a0 hB ha;obtain⟨R,a2⟩:∃R,N.lvl=R:=⟨_,rfl⟩;rw[a2] at hl k3;have T1:RB (((w.alloc (.cells #[.pointer (some ⟨p,0,none⟩)] 173)).alloc (.cells (Jc R A n c (some ⟨g,o,none⟩) m F ad (nx:Int) hd K).toArray 180)).alloc (.cells (Jc 0 none 0 0 none 0 0 0 0 false false).toArray 180)) w.1.size [.pointer (some ⟨p,0,none⟩)]:=(RB.new w [.pointer (some ⟨p,0,none⟩)] 173).below ((Qn).alloc (by simp) _) (by simp);have X1:RB (((w.alloc (.cells #[.pointer (some ⟨p,0,none⟩)] 173)).alloc (.cells (Jc R A n c (some ⟨g,o,none⟩) m F ad (nx:Int) hd K).toArray 180)).alloc (.cells (Jc 0 none 0 0 none 0 0 0 0 false false).toArray 180)) (w.1.size+1) (Jc R A n c (some ⟨g,o,none⟩) m F ad (nx:Int) hd K):=by
  have:=RB.new (w.alloc (.cells #[.pointer (some ⟨p,0,none⟩)] 173)) (Jc R A n c (some ⟨g,o,none⟩) m F ad (nx:Int) hd K) 180;rw[World.size_alloc] at this;exact this.below (Qn) (by simp)
 have R1:RB (((w.alloc (.cells #[.pointer (some ⟨p,0,none⟩)] 173)).alloc (.cells (Jc R A n c (some ⟨g,o,none⟩) m F ad (nx:Int) hd K).toArray 180)).alloc (.cells (Jc 0 none 0 0 none 0 0 0 0 false false).toArray 180)) (w.1.size+2) (Jc 0 none 0 0 none 0 0 0 0 false false):=by
  have:=RB.new ((w.alloc (.cells #[.pointer (some ⟨p,0,none⟩)] 173)).alloc (.cells (Jc R A n c (some ⟨g,o,none⟩) m F ad (nx:Int) hd K).toArray 180)) (Jc 0 none 0 0 none 0 0 0 0 false false) 180;rwa [World.size_alloc,World.size_alloc] at this
 have U:Below w.1.size w (((w.alloc (.cells #[.pointer (some ⟨p,0,none⟩)] 173)).alloc (.cells (Jc R A n c (some ⟨g,o,none⟩) m F ad (nx:Int) hd K).toArray 180)).alloc (.cells (Jc 0 none 0 0 none 0 0 0 0 false false).toArray 180)):=((Qn).alloc (by simp) _).alloc (by simp;omega) _;have Hr:=λ(u:World) (hu:Below w.1.size w u)=>qg6 (H.below hu) (ht.below hu ht.1) a4 a K k2
 unfold Vb Pl.spot tv at Hr;unfold Pl.spot;dsimp only at Hr ⊢;obtain⟨M,hM⟩:∃M,P.Qa D a=M:=⟨_,rfl⟩;obtain⟨r,hr⟩:∃r,(K||decide (1<P.C.get a))=r:=⟨_,rfl⟩;rw[hM,hr] at Hr ⊢;rw[hM] at k3;have Hr:=Lib.hid Hr;have HE:=Lib.hid k3;clear hM hr;unfold tv Vb;dsimp only;rw[a2];unfold Jc at T1 X1 R1 U;have hj:(0:Int)<=(i:Int):=by omega
 have a7:(i:Int)<(m:Int):=by omega
 clear k2 k3;go_enter Tryz.func184,Tryz.ntmps184
 go_wp2_with fail
 generalize (((w.alloc (.cells #[.pointer (some ⟨p,0,none⟩)] 173)).alloc (.cells #[.int .i64 R,.slice A n c,.slice (some ⟨g,o,none⟩) m F,.int .i64 ad,.int .i64 (nx:Int),.bool hd,.bool K] 180)).alloc (.cells #[.int .i64 0,.slice none 0 0,.slice none 0 0,.int .i64 0,.int .i64 0,.bool false,.bool false] 180))=f at T1 X1 R1 U ⊢;have a3:=(U.cell (p:=⟨g,_,none⟩) hg).trans x3;have z1:=R1.lt;have z0:=U.size;have hF:∀u,Below f.1.size f u->u.cell? ⟨w.1.size,0,none⟩=some (.pointer (some ⟨p,0,none⟩))/\u.cell? ⟨w.1.size+1,2,none⟩=some (.slice (some ⟨g,o,none⟩) m F)/\u.cell? ⟨w.1.size+1,6,none⟩=some (.bool K)/\u.cell? ⟨g,o+i*4+3,none⟩=some (.int .i64 a):=λu hu=>
  ⟨(T1.below hu T1.lt).cell 0 rfl,(X1.below hu X1.lt).cell 2 rfl,(X1.below hu X1.lt).cell 6 rfl,(hu.cell (p:=⟨g,_,none⟩) (by show g<_;omega)).trans a3⟩
 have bD:Below f.1.size f f.drew:=(Below.refl _ _).drew;have bA:Below f.1.size f (f.alloc Ud).drew:=(Qn).drew;have QA:RB (f.alloc Ud).drew f.1.size (Jc 0 none 0 0 none 0 0 0 0 false false):=Ig f;go_cut [8,9] from 10 to 24 (λq e wx=>∃(qb:Nat) (A:Option Addr) (n c:Nat) (B:Option Addr) (m F:Nat),q=.pointer (some ⟨qb,0,none⟩)/\e=.int .i64 0/\f.1.size<=qb/\RB wx qb (Jc M.lvl A n c B m F a 0 K r)/\Jg (Turn (λk=>k<f.1.size) wx) M A n c B m F/\Below f.1.size f wx)
 case first=>
  go_region_held3 (λw'=>w'.cell? ⟨w.1.size,0,none⟩=some (.pointer (some ⟨p,0,none⟩))/\w'.cell? ⟨w.1.size+1,2,none⟩=some (.slice (some ⟨g,o,none⟩) m F)/\w'.cell? ⟨w.1.size+1,6,none⟩=some (.bool K)/\w'.cell? ⟨g,o+i*4+3,none⟩=some (.int .i64 a))
   (first|(with_reducible assumption)|(with_reducible exact hF _ bD)|(with_reducible exact hF _ bA)|(with_reducible exact hF _ y)|(with_reducible exact hF _ (y.alloc y.size Ud))|(with_reducible exact a1.out))
   (first
    |(go_at_call 183;(with_reducible refine (Hr.out f.drew (U.trans (bD.mono U.size))).mono ?_);rintro e w3 ⟨Z,n3,c3,B3,m3,d3,rfl,O,E⟩;have y:Below f.1.size f w3:=bD.trans E;have I:=y.alloc y.size Ud;obtain⟨a5,G,Y,J⟩:=qe6 I y.size (Ig w3) rfl M.lvl Z n3 c3 B3 m3 d3 a 0 K r;have a1:=Lib.hid (hF _ J);have HX:=Lib.hid (And.intro G (And.intro Y (And.intro J (And.intro I E))));clear G Y J I E)
    |(go_at_call 183;(with_reducible refine (Hr.out (f.alloc Ud).drew (U.trans (bA.mono U.size))).mono ?_);rintro e w3 ⟨Z,n3,c3,B3,m3,d3,rfl,O,E⟩;have y:Below f.1.size f w3:=bA.trans (E.mono bA.size);have I:=y;obtain⟨a5,G,Y,J⟩:=qe6 y (Nat.le_refl _) (QA.below E QA.lt) rfl M.lvl Z n3 c3 B3 m3 d3 a 0 K r;have a1:=Lib.hid (hF _ J);have HX:=Lib.hid (And.intro G (And.intro Y (And.intro J (And.intro I E))));clear G Y J I E)
    |fail)
  ·obtain⟨G,Y,J,I,E⟩:=HX.out;go_wp2_with fail
   go_meet
   refine⟨w3.1.size,Z,n3,c3,B3,m3,d3,rfl,rfl,y.size,G,qe7 O ((Qu (S:=λk=>k<f.drew.1.size) ((Below.refl _ _).alloc (Nat.le_refl _) Ud)).trans Y λk W=>.inr (by have:k=w3.1.size:=W;omega)) ?_,J⟩;exact Nat.le_refl _
  ·obtain⟨G,Y,J,I,E⟩:=HX.out;go_wp2_with fail
   go_meet
   have b0:(f.alloc Ud).drew.1.size=f.1.size+1:=by show (f.alloc Ud).1.size=_;simp
   refine⟨f.1.size,Z,n3,c3,B3,m3,d3,rfl,rfl,Nat.le_refl _,G,qe7 O (Y.mono λk W=>?_) ?_,J⟩
   ·have:k=f.1.size:=W;show k<(f.alloc Ud).drew.1.size;omega
   ·omega
 case rest=>
  obtain⟨qb,Z,n3,c3,B3,m3,d3,rfl,rfl,a9,G,O,J⟩:=hcut;have XQ:=X1.below J X1.lt;have RR:=R1.below J R1.lt;have e0:=XQ.cell 0 rfl;have f0:=G.cell 0 rfl;have f1:=G.cell 1 rfl;have f2:=G.cell 2 rfl;have f3:=G.cell 3 rfl;have f4:=G.cell 4 rfl;have f5:=G.cell 5 rfl;have f6:=G.cell 6 rfl;have a8:(M.lvl != R-1)=false:=by simp[HE.out]
  have BW:=U.trans (J.mono U.size);clear hF QA bA bD x3 a3;unfold Jc at f0 f1 f2 f3 f4 f5 f6;go_wp2_with (first
   |(refine Og rfl _ _ rfl (w.1.size+2) rfl M.lvl Z n3 c3 B3 m3 d3 a 0 K r rfl RR rfl ?_;intro wz Rz Tz)
   |fail)
  refine bodyPost_ret (Gi Tryz.results184 rfl (q5n Rz)) rfl ?_;have zz:=J.size;exact⟨Z,n3,c3,B3,m3,d3,rfl,qe7 O (Tz.mono λk W=>by have:k=w.1.size+2:=W;show k<f.1.size;omega) z0,BW.trans (Tz.below (λk W=>by have:k=w.1.size+2:=W;omega) BW.size)⟩
end
end
theorem qih (w:World)(t:TypeId){s:Nat}(y:0<s)(xs:List (List Value))(e:Array Value)(m:e=xs.flatten.toArray)(u:∀x∈xs,x.length=s)(A:xs.length<=1000):Js (w.alloc (.cells e t)) s (some ⟨w.1.size,0,none⟩) xs.length xs.length xs:=by
 have h:Qo (w.alloc (.cells e t)) w.1.size t s (some ⟨w.1.size,0,none⟩) xs.length xs.length xs:=by
  have f:=qcl u;refine⟨⟨f,.inr ⟨w.1.size,xs.length,e,rfl,Nat.le_refl _,heap_alloc_new w _,Nat.le_refl _,by unfold maxLen;omega,?_,?_⟩⟩,u⟩
  ·rw[m];simpa using f
  ·rw[m];show List.take (xs.length*s) xs.flatten=xs.flatten;rw[<-f,List.take_length]
 exact h.Kt y
theorem qq9 {Q:World->Prop}{w:World}{X:Option Addr}{k kc:Nat}{Ns:List Nd}{e:List (List Value)}(h:Js w 3 X k kc e)(f:e.length=Ns.length)(u:∀(j:Nat) r N,e[j]?=some r->Ns[j]?=some N->∃A n c B m d,r=Vj N.lvl A n c B m d/\Jg Q N A n c B m d):G5 Q w X k kc Ns:=⟨e,h,f,u⟩
theorem qii {Q:World->Prop}(w:World)(t:TypeId){e f:Nd}{m u y A:Option Addr}{I J c1 c2 G H B E:Nat}(h1:Jg Q e m I c1 y G B)(h2:Jg Q f u J c2 A H E) :
  G5 Q (w.alloc (.cells #[.int .i64 e.lvl,.slice m I c1,.slice y G B,.int .i64 f.lvl,.slice u J c2,.slice A H E] t)) (some ⟨w.1.size,0,none⟩) 2 2 [e,f]:=by
 have:=qih w t (s:=3) (by omega) [Vj e.lvl m I c1 y G B,Vj f.lvl u J c2 A H E] _ rfl (by simp[Vj]) (by simp);refine qq9 this rfl λj r N K F=>?_
 match j with
 |0=>
  obtain rfl:=Option.some.inj K;obtain rfl:=Option.some.inj F;exact⟨_,_,_,_,_,_,rfl,h1⟩
 |1=>
  obtain rfl:=Option.some.inj K;obtain rfl:=Option.some.inj F;exact⟨_,_,_,_,_,_,rfl,h2⟩
 |j+2=>simp at F
theorem qqa {Q:World->Prop}(w:World)(t:TypeId){e f m:Nd}{y A B E F G:Option Addr}{U W Y c1 c2 c3 M O R H I J:Nat}(h1:Jg Q e y U c1 E M H)(h2:Jg Q f A W c2 F O I)(Z:Jg Q m B Y c3 G R J) :
  G5 Q (w.alloc (.cells #[.int .i64 e.lvl,.slice y U c1,.slice E M H,.int .i64 f.lvl,.slice A W c2,.slice F O I,.int .i64 m.lvl,.slice B Y c3,.slice G R J] t)) (some ⟨w.1.size,0,none⟩) 3 3 [e,f,m]:=by
 have:=qih w t (s:=3) (by omega) [Vj e.lvl y U c1 E M H,Vj f.lvl A W c2 F O I,Vj m.lvl B Y c3 G R J] _ rfl (by simp[Vj]) (by simp);refine qq9 this rfl λj r N K u=>?_
 match j with
 |0=>
  obtain rfl:=Option.some.inj K;obtain rfl:=Option.some.inj u;exact⟨_,_,_,_,_,_,rfl,h1⟩
 |1=>
  obtain rfl:=Option.some.inj K;obtain rfl:=Option.some.inj u;exact⟨_,_,_,_,_,_,rfl,h2⟩
 |2=>
  obtain rfl:=Option.some.inj K;obtain rfl:=Option.some.inj u;exact⟨_,_,_,_,_,_,rfl,Z⟩
 |j+3=>simp at u
def Vd (Q:World->Prop)(w:World)(X:Option Addr)(k kc:Nat)(ss:List Qs):Prop:=
 ∃e,Js w 7 X k kc e/\e.length=ss.length/\∀(j:Nat) r s,e[j]?=some r->ss[j]?=some s->∃A n c B m d,r=D9 s A n c B m d/\Jg Q s.N A n c B m d
def Yx (ss:List Qs)(j:Nat):Qs:=ss.getD j q49
theorem qqb {ss:List Qs}{j:Nat}(h:j<ss.length):ss[j]?=some (Yx ss j):=by simp[Yx,List.getD,h]
section
variable {Q Q':World->Prop}{w w':World}{X:Option Addr}{k kc:Nat}{ss:List Qs}
theorem Vd.len (h:Vd Q w X k kc ss):ss.length=k:=by
 obtain⟨e,h1,h2,_⟩:=h;rw[<-h2];exact h1.len
theorem Vd.below (h:Vd Q w X k kc ss)(hb:Below w.1.size w w'):Vd Q w' X k kc ss:=by
 obtain⟨e,h1,h2⟩:=h;exact⟨e,h1.below hb,h2⟩
theorem Vd.mono (h:Vd Q w X k kc ss)(hq:∀w,Q' w->Q w):Vd Q' w X k kc ss:=by
 obtain⟨f,h1,h2,u⟩:=h;refine⟨f,h1,h2,λj r s E F=>?_⟩;obtain⟨A,n,c,B,m,d,e,y⟩:=u j r s E F;exact⟨A,n,c,B,m,d,e,y.mono hq⟩
theorem Vd.take (h:Vd Q w X k kc ss){j:Nat}(hj:j<=k):Vd Q w X j kc (ss.take j):=by
 obtain⟨m,h1,h2,u⟩:=h;refine⟨m.take j,h1.take hj,by rw[List.length_take,List.length_take,h2],λi r s e f=>?_⟩;rw[List.getElem?_take] at e f;split at e
 ·rename_i y;rw[if_pos y] at f;exact u i r s e f
 ·cases e
theorem Vd.get (h:Vd Q w X k kc ss){j:Nat}(hj:j<k):∃g o A n c B m d,X=some ⟨g,o,none⟩/\g<w.1.size/\w.rangeAt g (o+j*7) (D9 (Yx ss j) A n c B m d)/\Jg Q (Yx ss j).N A n c B m d:=by
 have H:=h.len;obtain⟨f,h1,h2,E⟩:=h;have y:f[j]?=some (f[j]'(by omega)):=List.getElem?_eq_getElem (by omega);obtain⟨A,n,c,B,m,d,e,F⟩:=E j _ _ y (qqb (by omega));obtain⟨g,o,rfl,G,_,u⟩:=h1.2.2.2 j _ y;rw[e] at u;exact⟨g,o,A,n,c,B,m,d,rfl,G,u,F⟩
theorem Vd.cap (h:Vd Q w X k kc ss):k<=kc/\kc<=maxLen:=by
 obtain⟨e,h1,_⟩:=h;exact⟨h1.cap,h1.max⟩
end
theorem qg7 {Q:World->Prop}{w:World}{X:Option Addr}{k kc:Nat}{ss:List Qs}(h:Vd Q w X k kc ss)(F:1<=k)(W:k<=1000) :
  Calls Tryz.prog 109 #[.slice X k kc] w λe w'=>∃A n c B m d,e=.returned (Vb (Yx ss (k-1)) A n c B m d)/\Jg Q (Yx ss (k-1)).N A n c B m d/\Below w.1.size w w':=by
 obtain⟨g,o,A,n,c,B,m,d,rfl,R,f,E⟩:=h.get (show k-1<k by omega);obtain⟨⟨N,y,H,hd,I⟩,G⟩:∃s,Yx ss (k-1)=s:=⟨_,rfl⟩;rw[G] at f E ⊢;obtain⟨q,Y⟩:∃q,k-1=q:=⟨_,rfl⟩;rw[Y] at f;have u:Below w.1.size w (w.alloc Ud):=Qn;have J:=Ig w;have cell:∀(j:Nat) v,(D9 ⟨N,y,H,hd,I⟩ A n c B m d)[j]?=some v->(w.alloc Ud).cell? ⟨g,o+q*7+j,none⟩=some v:=λj v Z=>(u.cell (p:=⟨g,_,none⟩) R).trans (f j v Z)
 have O:=cell 0 _ rfl;have f1:=cell 1 _ rfl;have f2:=cell 2 _ rfl;have f3:=cell 3 _ rfl;have f4:=cell 4 _ rfl;have f5:=cell 5 _ rfl;have f6:=cell 6 _ rfl;rw[Nat.add_zero] at O;have hw:IntKind.i64.wrap ((k:Int)-1)=(q:Int):=by
  have:(k:Int)-1=(q:Int):=by omega
  rw[this];exact IntWalk.i64_in _ (by omega)
 have hj:(0:Int)<=(q:Int):=by omega
 have U:(q:Int)<(k:Int):=by omega
 clear cell f G h;go_enter Tryz.func109,Tryz.ntmps109
 go_wp2_with (first
  |(refine Og rfl _ _ rfl w.1.size rfl N.lvl A n c B m d y (H:Int) hd I rfl J rfl ?_;intro wz K M)
  |fail)
 refine bodyPost_ret (Ol Tryz.results109 rfl (q5n K)) rfl ?_;exact⟨A,n,c,B,m,d,rfl,E,u.trans (M.below (λk F=>by have:k=w.1.size:=F;omega) u.size)⟩
