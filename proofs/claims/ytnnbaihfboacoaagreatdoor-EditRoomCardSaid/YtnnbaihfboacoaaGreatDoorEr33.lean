/- The code's edit: refs and unrefs -/
import Derived.Test.YtnnbaihfboacoaaGreatDoorEr32
namespace Go.Proofs.YtnnbaihfboacoaaGreatDoor
open Go Go.RowKit Go.Proofs
set_option maxHeartbeats 8000000
set_option maxRecDepth 100000
section
variable {b:Nat}{w w':World}{d p:Nat}{S0 S T:Nat->Prop}{D:DM}{P P':Pl}
theorem Qi.step (H:Qi b w d p S0 S T D P)(R:Pool w' p d S T P')(X:Turn S w w'):Qi b w' d p S0 S T D P':=by
 have m:=X.size;exact⟨H.U8.keep λk e f=>X.block k e (H.apart k f),R,H.sub,H.apart,λk e=>⟨(H.tight k e).1,by have:=(H.tight k e).2;omega⟩⟩
theorem Qi.low (H:Qi b w d p S0 S T D P):∀k,S k->k<w.1.size:=λk e=>(H.tight k (H.Cj k e)).2
theorem Qi.tab (H:Qi b w d p S0 S T D P)(hb:1<b)(ht:Tab w)(X:Turn S w w'):Tab w':=ht.turned X λh=>by have:=(H.tight _ (H.Cj _ h)).1;omega
theorem Qi.less {T':Nat->Prop}(H:Qi b w d p S0 S T' D P)(hT:∀k,T k->T' k)(h0:∀k,S0 k->T k)(h1:∀k,S k->T k):Qi b w d p S0 S T D P:=
 ⟨H.U8,H.pool.mono (λ_ _ h=>h) (λk _ h=>hT k h) h1,h0,H.apart,λk e=>H.tight k (hT k e)⟩
theorem qy2 (H:Qi b w d p S0 S T D P)(m:1<b)(u:Tab w)(a:Int) :
  Calls Tryz.prog 20 #[.pointer (some ⟨p,0,none⟩),.int .i64 a] w λe w'=>e=.returned (.int .i64 (P.C.Y8 a))/\Qi b w' d p S0 S T D ⟨P.S,P.C.ref a,P.L⟩/\Turn S w w'/\Tab w':=
 (qt7 H.pool a).mono λ_ _ ⟨h1,h2,f⟩=>⟨h1,H.step h2 f,f,H.tab m u f⟩
theorem qk2 (H:Qi b w d p S0 S T D P)(m:1<b)(u:Tab w)(a:Int) :
  Calls Tryz.prog 166 #[.pointer (some ⟨p,0,none⟩),.int .i64 a] w λe w'=>e=.returned (.tuple #[.int .i64 (P.C.Ju a),.int .i64 (P.C.Jz a)])/\Qi b w' d p S0 S T D ⟨P.S,P.C.Qy a,P.L⟩/\Turn S w w'/\Tab w':=
 (qm4 H.pool a).mono λ_ _ ⟨h1,h2,f⟩=>⟨h1,H.step h2 f,f,H.tab m u f⟩
def tv (p:Nat):Value:=.agg #[.pointer (some ⟨p,0,none⟩)]
theorem qcj {w:World}{base:Nat}{A:Option Addr}{n c:Nat}{zs:List Int}(h:Qs w base 3 1 A n c (zs.map iv)){j:Nat}(B:j<n):∃g o,A=some ⟨g,o,none⟩/\w.cell? ⟨g,o+j,none⟩=some (.int .i64 (zs.getD j 0)):=by
 have f:=h.Vs (by omega);have m:=f.len;rw[List.length_map] at m;obtain⟨g,o,e,y,_,u⟩:=f.2.2.2 j (iv (zs.getD j 0)) (by
  rw[List.getElem?_map,List.getElem?_eq_getElem (by omega),List.getD_eq_getElem?_getD,List.getElem?_eq_getElem (by omega)];rfl)
 have:=u 0 _ rfl;rw[Nat.mul_one,Nat.add_zero] at this;exact⟨g,o,e,this⟩
theorem qk3 {zs:List Int}{j:Nat}(h:j<zs.length):zs.drop j=zs.getD j 0::zs.drop (j+1):=by
 rw[List.drop_eq_getElem_cons h,List.getD_eq_getElem?_getD,List.getElem?_eq_getElem h];rfl
theorem qpk (H:Qi b w d p S0 S T D P)(hb:1<b)(ht:Tab w)(N:Nd)(U:N.fit)(A:Option Addr)(n c:Nat)(B:Option Addr)(m E:Nat)(J:Jl (Turn S w) N A n c B m E)(hP:Um N.named P=some P') :
  Calls Tryz.prog 137 #[tv p,Xy N.lvl A n c B m E] w λe w'=>e=.returned (.int .i64 0)/\Qi b w' d p S0 S T D P'/\Turn S w w'/\Tab w':=by
 have hS:=H.low;have G:NB ((w.alloc (.cells #[.pointer (some ⟨p,0,none⟩)] 122)).alloc (.cells #[.int .i64 N.lvl,.slice A n c,.slice B m E] 127)) (w.1.size+1) N.lvl A n c B m E:=NB.new2 w _ _ _ _ _ _ _ _ _;have M:RB ((w.alloc (.cells #[.pointer (some ⟨p,0,none⟩)] 122)).alloc (.cells #[.int .i64 N.lvl,.slice A n c,.slice B m E] 127)) w.1.size [.pointer (some ⟨p,0,none⟩)]:=(RB.new w [.pointer (some ⟨p,0,none⟩)] 122).below (Qm) (by simp);have O:Below w.1.size w ((w.alloc (.cells #[.pointer (some ⟨p,0,none⟩)] 122)).alloc (.cells #[.int .i64 N.lvl,.slice A n c,.slice B m E] 127)):=(Qm).alloc (by simp) _;have c0:=G.c0;have c1:=G.c1;have c2:=G.c2;have hn:=J.hn;have hm:=J.hm;have Hk:=Lib.hid (λu (hu:Below w.1.size w u)=>qc3 N U A n c B m E u (J.its.Zq (Qv hu)) (J.Bo u (Qv hu)) (by omega) (by omega));have HP:=Lib.hid hP;clear hP;unfold Xy tv;go_enter Tryz.func137,Tryz.ntmps137
 go_wp2_with fail
 generalize ((w.alloc (.cells #[.pointer (some ⟨p,0,none⟩)] 122)).alloc (.cells #[.int .i64 N.lvl,.slice A n c,.slice B m E] 127))=w1 at G M O c0 c1 c2 ⊢;refine (Hk.out w1 O).mono ?_;rintro e w2 ⟨A2,I,k2,rfl,y,b2⟩;have a2:=Qs.len y (by omega);rw[List.length_map] at a2;have B2:=O.trans (b2.mono O.size);have T2:=M.below b2 M.lt;have H2:=H.below B2;have t2:=ht.below B2 ht.1;have X2:Turn S w w2:=Qv B2;have b0:I<=120:=by
  have h1:N.named.length<=N.kids.length+N.items.length:=by
   unfold Nd.named;rw[List.length_append,List.length_map];have:=List.length_filterMap_le Ko N.items;omega
  have:=J.ln;have:=J.lm;omega
 have z1:=G.lt;have X:∀k,q01 A2=some k->w.1.size<k:=λk W=>by have:=(y.Qa k W).1;have:=M.lt;have:=G.lt;omega
 clear c0 c1 c2 G M O b2 Hk B2;go_wp2_with fail
 go_loopw [12] (λi wr=>∃(j:Nat) (f:Pl),j<=I/\i=.int .i64 (j:Int)/\Um (N.named.drop j) f=some P'/\Qi b wr d p S0 S T D f/\Tab wr/\Turn S w wr/\RB wr w.1.size [.pointer (some ⟨p,0,none⟩)]/\Qs wr (w.1.size+1) 3 1 A2 I k2 (N.named.map iv)) (λi _=>I-(intOf i).toNat)
 case atStart=>exact⟨0,P,Nat.zero_le _,rfl,HP.out,H2,t2,X2,T2,y.less (by omega)⟩
 case round=>
  obtain⟨j,f,hj,rfl,Q,Hj,tj,Xj,Tj,F⟩:=hrel;have K:=Lib.hid Q;clear Q;by_cases a6:j<I
  ·obtain⟨g,o,hA,y0⟩:=qcj F a6;subst hA;have hd:=qk3 (zs:=N.named) (j:=j) (by omega);obtain⟨z,hz⟩:∃z,N.named.getD j 0=z:=⟨_,rfl⟩;rw[hz] at y0 hd;have HD:=Lib.hid hd;clear hz hd;have q0:=Tj.cell 0 rfl;have hr:f.C.Y8 z=0/\Um (N.named.drop (j+1)) ⟨f.S,f.C.ref z,f.L⟩=some P':=by
    have h:=K.out;rw[HD.out] at h;have h:(if f.C.Y8 z=0 then Um (N.named.drop (j+1)) ⟨f.S,f.C.ref z,f.L⟩ else none)=some P':=h;split at h
    ·rename_i h0;exact⟨h0,h⟩
    ·cases h
   obtain⟨Y,Z⟩:=hr;have HR:=Lib.hid Z;have Hc:=qy2 Hj hb tj z;rw[Y] at Hc;have Hc:=Lib.hid Hc;clear Z Y;go_wp2_with fail
   refine Hc.out.mono ?_;rintro e w3 ⟨rfl,H3,X3,t3⟩;have T3:=Tj.turned X3 (λh=>by have:=hS _ h;omega);have a1:=Qs.turned F X3 (λk W hs=>by have:=hS _ hs;have:=X k W;omega);have XX:=Xj.trans X3 λk W=>.inl W
   go_wp2;exact⟨⟨j+1,_,by omega,by go_num,HR.out,H3,t3,XX,T3,a1⟩,by simp[intOf];omega⟩
  ·have a8:j=I:=by omega
   have R:f=P':=by
    have h:=K.out;rw[List.drop_of_length_le (by omega)] at h;exact Option.some.inj h
   subst R;have a7:¬(j:Int)<(I:Int):=by omega
   go_wp2;go_ret;exact⟨rfl,Hj,Xj,tj⟩
theorem qi2 (H:Qi b w d p S0 S T D P)(hb:1<b)(ht:Tab w)(N:Nd)(U:N.fit)(A:Option Addr)(n c:Nat)(B:Option Addr)(m E:Nat)(J:Jl (Turn S w) N A n c B m E)(hP:q3g N.named P=some P') :
  Calls Tryz.prog 138 #[tv p,Xy N.lvl A n c B m E] w λe w'=>e=.returned (.int .i64 0)/\Qi b w' d p S0 S T D P'/\Turn S w w'/\Tab w':=by
 have hS:=H.low;have G:NB ((w.alloc (.cells #[.pointer (some ⟨p,0,none⟩)] 122)).alloc (.cells #[.int .i64 N.lvl,.slice A n c,.slice B m E] 127)) (w.1.size+1) N.lvl A n c B m E:=NB.new2 w _ _ _ _ _ _ _ _ _;have M:RB ((w.alloc (.cells #[.pointer (some ⟨p,0,none⟩)] 122)).alloc (.cells #[.int .i64 N.lvl,.slice A n c,.slice B m E] 127)) w.1.size [.pointer (some ⟨p,0,none⟩)]:=(RB.new w [.pointer (some ⟨p,0,none⟩)] 122).below (Qm) (by simp);have O:Below w.1.size w ((w.alloc (.cells #[.pointer (some ⟨p,0,none⟩)] 122)).alloc (.cells #[.int .i64 N.lvl,.slice A n c,.slice B m E] 127)):=(Qm).alloc (by simp) _;have c0:=G.c0;have c1:=G.c1;have c2:=G.c2;have hn:=J.hn;have hm:=J.hm;have Hk:=Lib.hid (λu (hu:Below w.1.size w u)=>qc3 N U A n c B m E u (J.its.Zq (Qv hu)) (J.Bo u (Qv hu)) (by omega) (by omega));have HP:=Lib.hid hP;clear hP;unfold Xy tv;go_enter Tryz.func138,Tryz.ntmps138
 go_wp2_with fail
 generalize ((w.alloc (.cells #[.pointer (some ⟨p,0,none⟩)] 122)).alloc (.cells #[.int .i64 N.lvl,.slice A n c,.slice B m E] 127))=w1 at G M O c0 c1 c2 ⊢;refine (Hk.out w1 O).mono ?_;rintro e w2 ⟨A2,I,k2,rfl,y,b2⟩;have a2:=Qs.len y (by omega);rw[List.length_map] at a2;have B2:=O.trans (b2.mono O.size);have T2:=M.below b2 M.lt;have H2:=H.below B2;have t2:=ht.below B2 ht.1;have X2:Turn S w w2:=Qv B2;have b0:I<=120:=by
  have h1:N.named.length<=N.kids.length+N.items.length:=by
   unfold Nd.named;rw[List.length_append,List.length_map];have:=List.length_filterMap_le Ko N.items;omega
  have:=J.ln;have:=J.lm;omega
 have z1:=G.lt;have X:∀k,q01 A2=some k->w.1.size<k:=λk W=>by have:=(y.Qa k W).1;have:=M.lt;have:=G.lt;omega
 clear c0 c1 c2 G M O b2 Hk B2;go_wp2_with fail
 go_loopw [13] (λi wr=>∃(j:Nat) (f:Pl),j<=I/\i=.int .i64 (j:Int)/\q3g (N.named.drop j) f=some P'/\Qi b wr d p S0 S T D f/\Tab wr/\Turn S w wr/\RB wr w.1.size [.pointer (some ⟨p,0,none⟩)]/\Qs wr (w.1.size+1) 3 1 A2 I k2 (N.named.map iv)) (λi _=>I-(intOf i).toNat)
 case atStart=>exact⟨0,P,Nat.zero_le _,rfl,HP.out,H2,t2,X2,T2,y.less (by omega)⟩
 case round=>
  obtain⟨j,f,hj,rfl,Q,Hj,tj,Xj,Tj,F⟩:=hrel;have K:=Lib.hid Q;clear Q;by_cases a6:j<I
  ·obtain⟨g,o,hA,y0⟩:=qcj F a6;subst hA;have hd:=qk3 (zs:=N.named) (j:=j) (by omega);obtain⟨z,hz⟩:∃z,N.named.getD j 0=z:=⟨_,rfl⟩;rw[hz] at y0 hd;have HD:=Lib.hid hd;clear hz hd;have q0:=Tj.cell 0 rfl;have hr:f.C.Jz z=0/\q3g (N.named.drop (j+1)) ⟨f.S,f.C.Qy z,f.L⟩=some P':=by
    have h:=K.out;rw[HD.out] at h;have h:(if f.C.Jz z=0 then q3g (N.named.drop (j+1)) ⟨f.S,f.C.Qy z,f.L⟩ else none)=some P':=h;split at h
    ·rename_i h0;exact⟨h0,h⟩
    ·cases h
   obtain⟨Y,Z⟩:=hr;have HR:=Lib.hid Z;have Hc:=qk2 Hj hb tj z;rw[Y] at Hc;have Hc:=Lib.hid Hc;clear Z Y;go_wp2_with fail
   refine Hc.out.mono ?_;rintro e w3 ⟨rfl,H3,X3,t3⟩;have T3:=Tj.turned X3 (λh=>by have:=hS _ h;omega);have a1:=Qs.turned F X3 (λk W hs=>by have:=hS _ hs;have:=X k W;omega);have XX:=Xj.trans X3 λk W=>.inl W
   go_wp2;exact⟨⟨j+1,_,by omega,by go_num,HR.out,H3,t3,XX,T3,a1⟩,by simp[intOf];omega⟩
  ·have a8:j=I:=by omega
   have R:f=P':=by
    have h:=K.out;rw[List.drop_of_length_le (by omega)] at h;exact Option.some.inj h
   subst R;have a7:¬(j:Int)<(I:Int):=by omega
   go_wp2;go_ret;exact⟨rfl,Hj,Xj,tj⟩
end
def Ef (s:Qu)(A:Option Addr)(n c:Nat)(B:Option Addr)(m d:Nat):List Value:=Ji s.N.lvl A n c B m d s.addr (s.next:Int) s.held s.shared
def Vh (s:Qu)(A:Option Addr)(n c:Nat)(B:Option Addr)(m d:Nat):Value:=.agg #[.int .i64 s.N.lvl,.slice A n c,.slice B m d,.int .i64 s.addr,.int .i64 (s.next:Int),.bool s.held,.bool s.shared]
theorem qwh {w w':World}{S:Nat->Prop}(F:∀k,S k->k<w.1.size){M:Nd}{J K:Option Addr}{H c1 E O:Nat}(hn:H<=20)(hm:E<=20)(A:J4 w' w.1.size J H c1 M.items)(B:Qs w' w.1.size 81 4 K E O (M.kids.map Ql.vs)):Jl (Turn S w') M J H c1 K E O:=by
 have l1:=A.Zq.len;have l2:M.kids.length=E:=by have:=Qs.len B (by omega);rw[List.length_map] at this;exact this
 have Q:=A.Zq.bounds;have R:=Qs.Vs B (by omega);refine⟨?_,λu y=>Qs.Vs (Qs.turned B y λk f m=>by have:=(Qs.Qa B k f).1;have:=F k m;omega) (by omega),l1,l2,⟨by omega,Q.1,Q.2⟩,⟨by omega,R.cap,R.max⟩⟩;have W:=A.Qa;obtain⟨I,h1,h2,U⟩:=A;refine⟨I,λu y=>(h1.turned y λk f m=>by have:=(W k f).1;have:=F k m;omega).Vs (by omega),h2,λj r x Y hx=>?_⟩;obtain⟨V,p,q,e,Z,G⟩:=U j r x Y hx;exact⟨V,p,q,e,λu y=>Z.turned' y λX k f m=>by have:=(G X k f).1;have:=F k m;omega⟩
section
variable {b:Nat}{w w':World}{d p:Nat}{S0 S T:Nat->Prop}{D:DM}{P P':Pl}
theorem q5n (H:Qi b w d p S0 S T D P)(X:1<b)(K:Tab w)(s:Qu)(A:Option Addr)(n c:Nat)(B:Option Addr)(m F:Nat)(u:P.leave s=some P') :
  Calls Tryz.prog 139 #[tv p,Vh s A n c B m F] w λe w'=>e=.returned (.int .i64 0)/\Qi b w' d p S0 S T D P'/\Turn S w w'/\Tab w':=by
 obtain⟨N,f,G,hd,I⟩:=s;have Q:RB ((w.alloc (.cells #[.pointer (some ⟨p,0,none⟩)] 122)).alloc (.cells (Ji N.lvl A n c B m F f (G:Int) hd I).toArray 129)) w.1.size [.pointer (some ⟨p,0,none⟩)]:=(RB.new w [.pointer (some ⟨p,0,none⟩)] 122).below (Qm) (by simp);have M:RB ((w.alloc (.cells #[.pointer (some ⟨p,0,none⟩)] 122)).alloc (.cells (Ji N.lvl A n c B m F f (G:Int) hd I).toArray 129)) (w.1.size+1) (Ji N.lvl A n c B m F f (G:Int) hd I):=by
  have:=RB.new (w.alloc (.cells #[.pointer (some ⟨p,0,none⟩)] 122)) (Ji N.lvl A n c B m F f (G:Int) hd I) 129;rwa [World.size_alloc] at this
 have y:Below w.1.size w ((w.alloc (.cells #[.pointer (some ⟨p,0,none⟩)] 122)).alloc (.cells (Ji N.lvl A n c B m F f (G:Int) hd I).toArray 129)):=(Qm).alloc (by simp) _;have y0:=Q.cell 0 rfl;have y1:=M.cell 3 rfl;have y3:=M.cell 5 rfl;unfold Pl.leave at u;dsimp only at u;have E:=qk2 (H.below y) X (K.below y K.1) f;have O:=H.below y;have R:=K.below y K.1;unfold tv Vh;dsimp only;unfold Ji at y y3 y1 y0 E O R;clear M Q
 cases hd with
 |true=>
  obtain rfl:=Option.some.inj u;clear E;go_enter Tryz.func139,Tryz.ntmps139
  go_wp2;go_ret;exact⟨rfl,O,Qv y,R⟩
 |false=>
  have J:P.C.Jz f=0/\⟨P.S,P.C.Qy f,P.L⟩=P':=by
   rw[if_neg Bool.false_ne_true] at u;split at u
   ·rename_i h;exact⟨h,Option.some.inj u⟩
   ·cases u
  obtain⟨J,rfl⟩:=J;rw[J] at E;have E:=Lib.hid E;clear u J;go_enter Tryz.func139,Tryz.ntmps139
  go_wp2_with fail
  refine E.out.mono ?_;rintro e w2 ⟨rfl,U,W,Z⟩;go_wp2;go_ret;exact⟨rfl,U,(Qv (S:=S) y).trans W λk Y=>.inl Y,Z⟩
theorem qg5 (H:Qi b w d p S0 S T D P)(ht:Tab w)(a1:∀a b,P.L a=some b->b.kindOk)(a:Int)(held:Bool)(hE:P.Zh D a=0) :
  Calls Tryz.prog 103 #[tv p,.int .i64 a,.bool held] w λe w'=>∃A n c B m dd,e=.returned (.tuple #[Vh (P.spot D a held) A n c B m dd,.int .i64 0])/\Jl (Turn (λk=>k<w.1.size) w') (P.Qh D a) A n c B m dd/\Below w.1.size w w':=by
 have U:RB ((w.alloc (.cells #[.pointer (some ⟨p,0,none⟩)] 122)).alloc (.cells #[.int .i64 0,.slice none 0 0,.slice none 0 0,.int .i64 0,.int .i64 0,.bool false,.bool false] 129)) w.1.size [.pointer (some ⟨p,0,none⟩)]:=(RB.new w [.pointer (some ⟨p,0,none⟩)] 122).below (Qm) (by simp);have Y:RB ((w.alloc (.cells #[.pointer (some ⟨p,0,none⟩)] 122)).alloc (.cells #[.int .i64 0,.slice none 0 0,.slice none 0 0,.int .i64 0,.int .i64 0,.bool false,.bool false] 129)) (w.1.size+1) (Ji 0 none 0 0 none 0 0 0 0 false false):=by
  have:=RB.new (w.alloc (.cells #[.pointer (some ⟨p,0,none⟩)] 122)) (Ji 0 none 0 0 none 0 0 0 0 false false) 129;rwa [World.size_alloc] at this
 have Z:Below w.1.size w ((w.alloc (.cells #[.pointer (some ⟨p,0,none⟩)] 122)).alloc (.cells #[.int .i64 0,.slice none 0 0,.slice none 0 0,.int .i64 0,.int .i64 0,.bool false,.bool false] 129)):=(Qm).alloc (by simp) _;have y0:=U.cell 0 rfl;have hS:=H.low;obtain⟨M,hM⟩:∃M,P.Qh D a=M:=⟨_,rfl⟩;obtain⟨x,hx⟩:∃x,P.C.get a=x:=⟨_,rfl⟩;have W:=λ(u:World) (J:Below w.1.size w u)=>qa5 (H.below J).U8 (H.below J).pool a1 (ht.below J ht.1) a
 rw[hM,hE] at W;have W:=Lib.hid W;have Hc:=Lib.hid (λ(u:World) (J:Below w.1.size w u)=>q5i (H.below J).pool a x hx);obtain⟨r,hr⟩:∃r,decide (1<x)=r:=⟨_,rfl⟩;unfold Pl.spot;rw[hM,hx,hr];clear hx hM hE;unfold tv;go_enter Tryz.func103,Tryz.ntmps103
 go_wp2_with fail
 generalize ((w.alloc (.cells #[.pointer (some ⟨p,0,none⟩)] 122)).alloc (.cells #[.int .i64 0,.slice none 0 0,.slice none 0 0,.int .i64 0,.int .i64 0,.bool false,.bool false] 129))=w1 at U Y Z y0 ⊢;refine (W.out w1 Z).mono ?_;rintro e f ⟨y,I,c1,E,G,F,rfl,a6,a2,hI,hK,b2⟩;have z1:=Y.lt;have z0:=Z.size;have z2:=b2.size;have hq:Jl (Turn (λk=>k<w1.1.size) f) M y I c1 E G F:=qwh (λk Q=>Q) a6 a2 hI hK;have B2:=Z.trans (b2.mono Z.size);have K:Below f.1.size f (f.alloc (.cells #[.int .i64 M.lvl,.slice y I c1,.slice E G F] 75)):=Qm;have X:NB (f.alloc (.cells #[.int .i64 M.lvl,.slice y I c1,.slice E G F] 75)) f.1.size M.lvl y I c1 E G F:=NB.new f _ _ _ _ _ _ _ _;have T3:=(U.below b2 U.lt).below K (by have:=U.lt;omega);have R3:=(Y.below b2 Y.lt).below K (by omega);have B3:=B2.trans (K.mono B2.size);have fin:∀(u O:World),Below f.1.size f u->Turn (λk=>k=w.1.size+1) u O->Jl (Turn (λk=>k<w.1.size) O) M y I c1 E G F/\Below w.1.size w O:=λu O J T=>by
  have h1:=J.size;refine⟨hq.mono λv hv=>(((Qv (S:=λk=>k<w1.1.size) J).trans T λk Q=>.inl (by have:k=w.1.size+1:=Q;show k<_;omega)).trans hv λk Q=>.inl (by have:k<w.1.size:=Q;show k<_;omega)),B2.trans ((J.mono B2.size).trans (T.below (λk Q=>by have:k=w.1.size+1:=Q;omega) (by omega)))⟩
 clear hI hK hq b2 U Y y0;go_wp2_with fail
 generalize f.alloc (.cells #[.int .i64 M.lvl,.slice y I c1,.slice E G F] 75)=R at K X T3 R3 B3 ⊢;have zR:=R3.lt;have zN:=X.lt;have zT:=T3.lt;have zB:=B3.size;have bD:Below R.1.size R R.drew:=(Below.refl _ _).drew;have g0:∀u:Grown R,u.to.cell? ⟨w.1.size,0,none⟩=some (.pointer (some ⟨p,0,none⟩)):=Grown.cell (T3.cell 0 rfl) zT;have g1:∀u:Grown R,u.to.cell? ⟨f.1.size,0,none⟩=some (.int .i64 M.lvl):=Grown.cell X.c0 zN;have g2:∀u:Grown R,u.to.cell? ⟨f.1.size,1,none⟩=some (.slice y I c1):=Grown.cell X.c1 zN;have g3:∀u:Grown R,u.to.cell? ⟨f.1.size,2,none⟩=some (.slice E G F):=Grown.cell X.c2 zN;clear W
 cases held with
 |true=>
  go_wp2_with fail
  refine q2c 13 (by kernel_rfl) (by kernel_rfl) ?_;simp only[List.take_succ_cons,List.take_zero,List.drop_succ_cons,List.drop_zero];repeat (go_big_quiet_step (first|fail))
  refine wpQuiet_nil ?_;rintro _ ⟨u,rfl⟩;have R4:=R3.below u.ok zR;go_wp2_with (first
   |(refine Oe rfl _ _ rfl (w.1.size+1) rfl M.lvl y I c1 E G F a 0 true true rfl R4 rfl ?_;intro O Rz Tz)
   |fail)
  refine bodyPost_ret (q16 Tryz.results103 rfl (q5m Rz)) rfl ?_;obtain⟨f1,f2⟩:=fin u.to O (K.trans (u.ok.mono K.size)) Tz;exact⟨y,I,c1,E,G,F,rfl,f1,f2⟩
 |false=>
  go_wp2_with fail
  refine q2c 13 (by kernel_rfl) (by kernel_rfl) ?_;simp only[List.take_succ_cons,List.take_zero,List.drop_succ_cons,List.drop_zero];repeat (go_big_quiet_step (first|(go_at_call 39;exact Calls.Yw (Hc.out _ (B3.trans ((Grown.ok _).mono B3.size))))|fail))
  refine wpQuiet_nil ?_;rintro _ ⟨u,rfl⟩;have R4:=R3.below u.ok zR;go_wp2_with (first
   |(refine Oe rfl _ _ rfl (w.1.size+1) rfl M.lvl y I c1 E G F a 0 false r rfl R4 rfl ?_;intro O Rz Tz)
   |fail)
  refine bodyPost_ret (q16 Tryz.results103 rfl (q5m Rz)) rfl ?_;obtain⟨f1,f2⟩:=fin u.to O (K.trans (u.ok.mono K.size)) Tz;exact⟨y,I,c1,E,G,F,rfl,f1,f2⟩
end
