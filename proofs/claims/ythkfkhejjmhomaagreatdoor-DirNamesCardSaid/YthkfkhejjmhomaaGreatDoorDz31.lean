/- The code's edit: refs and unrefs -/
import Derived.Test.YthkfkhejjmhomaaGreatDoorDz30
import Derived.Deep.CutRange
namespace Go.Proofs.YthkfkhejjmhomaaGreatDoor
open Go Go.RowKit Go.Proofs
set_option maxHeartbeats 8000000
set_option maxRecDepth 100000
section
variable {b:Nat}{w w':World}{d p:Nat}{S0 S T:Nat->Prop}{D:DM}{P P':Pl}
theorem Zb.step (H:Zb b w d p S0 S T D P)(R:Pool w' p d S T P')(X:Turn S w w'):Zb b w' d p S0 S T D P':=by
 have g:=X.size;exact⟨H.Vh.keep λk e f=>X.block k e (H.apart k f),R,H.sub,H.apart,λk e=>⟨(H.tight k e).1,by have:=(H.tight k e).2;omega⟩⟩
theorem Zb.low (H:Zb b w d p S0 S T D P):∀k,S k->k<w.1.size:=λk e=>(H.tight k (H.Va k e)).2
theorem Zb.tab (H:Zb b w d p S0 S T D P)(hb:1<b)(ht:Tab w)(X:Turn S w w'):Tab w':=ht.turned X λh=>by have:=(H.tight _ (H.Va _ h)).1;omega
theorem Zb.less {T':Nat->Prop}(H:Zb b w d p S0 S T' D P)(hT:∀k,T k->T' k)(h0:∀k,S0 k->T k)(h1:∀k,S k->T k):Zb b w d p S0 S T D P:=
 ⟨H.Vh,H.pool.mono (λ_ _ h=>h) (λk _ h=>hT k h) h1,h0,H.apart,λk e=>H.tight k (hT k e)⟩
theorem Zd3 (H:Zb b w d p S0 S T D P)(g:1<b)(m:Tab w)(a:Int) :
  Calls Tryz.prog 74 #[.pointer (some ⟨p,0,none⟩),.int .i64 a] w λe w'=>e=.returned (.int .i64 (P.C.Xc a))/\Zb b w' d p S0 S T D ⟨P.S,P.C.ref a,P.L⟩/\Turn S w w'/\Tab w':=
 (Qz9 H.pool a).mono λ_ _ ⟨h1,h2,f⟩=>⟨h1,H.step h2 f,f,H.tab g m f⟩
theorem Qnn (H:Zb b w d p S0 S T D P)(g:1<b)(m:Tab w)(a:Int) :
  Calls Tryz.prog 149 #[.pointer (some ⟨p,0,none⟩),.int .i64 a] w λe w'=>e=.returned (.tuple #[.int .i64 (P.C.Oa a),.int .i64 (P.C.Jc a)])/\Zb b w' d p S0 S T D ⟨P.S,P.C.Zf a,P.L⟩/\Turn S w w'/\Tab w':=
 (Qsg H.pool a).mono λ_ _ ⟨h1,h2,f⟩=>⟨h1,H.step h2 f,f,H.tab g m f⟩
def tv (p:Nat):Value:=.agg #[.pointer (some ⟨p,0,none⟩)]
theorem Qja {w:World}{base:Nat}{A:Option Addr}{n c:Nat}{zs:List Int}(h:Qr w base 3 1 A n c (zs.map iv)){j:Nat}(y:j<n):∃g o,A=some ⟨g,o,none⟩/\w.cell? ⟨g,o+j,none⟩=some (.int .i64 (zs.getD j 0)):=by
 have f:=h.Hr (by omega);have m:=f.len;rw[List.length_map] at m;obtain⟨g,o,e,u,_,q⟩:=f.2.2.2 j (iv (zs.getD j 0)) (by
  rw[List.getElem?_map,List.getElem?_eq_getElem (by omega),List.getD_eq_getElem?_getD,List.getElem?_eq_getElem (by omega)];rfl)
 have:=q 0 _ rfl;rw[Nat.mul_one,Nat.add_zero] at this;exact⟨g,o,e,this⟩
theorem Qoe {zs:List Int}{j:Nat}(h:j<zs.length):zs.drop j=zs.getD j 0::zs.drop (j+1):=by
 rw[List.drop_eq_getElem_cons h,List.getD_eq_getElem?_getD,List.getElem?_eq_getElem h];rfl
theorem Qve (H:Zb b w d p S0 S T D P)(hb:1<b)(ht:Tab w)(N:Nd)(U:N.fit)(A:Option Addr)(n c:Nat)(B:Option Addr)(m y:Nat)(I:U6 (Turn S w) N A n c B m y)(hP:Yg N.named P=some P') :
  Calls Tryz.prog 229 #[tv p,Px N.lvl A n c B m y] w λe w'=>e=.returned (.int .i64 0)/\Zb b w' d p S0 S T D P'/\Turn S w w'/\Tab w':=by
 have hS:=H.low;have F:NB ((w.alloc (.cells #[.pointer (some ⟨p,0,none⟩)] 173)).alloc (.cells #[.int .i64 N.lvl,.slice A n c,.slice B m y] 178)) (w.1.size+1) N.lvl A n c B m y:=NB.new2 w _ _ _ _ _ _ _ _ _;have K:RB ((w.alloc (.cells #[.pointer (some ⟨p,0,none⟩)] 173)).alloc (.cells #[.int .i64 N.lvl,.slice A n c,.slice B m y] 178)) w.1.size [.pointer (some ⟨p,0,none⟩)]:=(RB.new w [.pointer (some ⟨p,0,none⟩)] 173).below (Ib) (by simp);have M:Below w.1.size w ((w.alloc (.cells #[.pointer (some ⟨p,0,none⟩)] 173)).alloc (.cells #[.int .i64 N.lvl,.slice A n c,.slice B m y] 178)):=(Ib).alloc (by simp) _;have c0:=F.c0;have c1:=F.c1;have c2:=F.c2;have hn:=I.hn;have hm:=I.hm;have Hk:=Lib.hid (λu (hu:Below w.1.size w u)=>Qia N U A n c B m y u (I.its.Qaf (Uk hu)) (I.Ic u (Uk hu)) (by omega) (by omega));have HP:=Lib.hid hP;clear hP;unfold Px tv;go_enter Tryz.func229,Tryz.ntmps229
 go_wp2_with fail
 generalize ((w.alloc (.cells #[.pointer (some ⟨p,0,none⟩)] 173)).alloc (.cells #[.int .i64 N.lvl,.slice A n c,.slice B m y] 178))=w1 at F K M c0 c1 c2 ⊢;refine (Hk.out w1 M).mono ?_;rintro e w2 ⟨A2,G,k2,rfl,q,b2⟩;have a2:=Qr.len q (by omega);rw[List.length_map] at a2;have B2:=M.trans (b2.mono M.size);have T2:=K.below b2 K.lt;have H2:=H.below B2;have t2:=ht.below B2 ht.1;have X2:Turn S w w2:=Uk B2;have b0:G<=120:=by
  have h1:N.named.length<=N.kids.length+N.items.length:=by
   unfold Nd.named;rw[List.length_append,List.length_map];have:=List.length_filterMap_le Vy N.items;omega
  have:=I.ln;have:=I.lm;omega
 have z1:=F.lt;have W:∀k,Xq A2=some k->w.1.size<k:=λk V=>by have:=(q.Zx k V).1;have:=K.lt;have:=F.lt;omega
 clear c0 c1 c2 F K M b2 Hk B2;go_wp2_with fail
 go_loopw [12] (λi wr=>∃(j:Nat) (f:Pl),j<=G/\i=.int .i64 (j:Int)/\Yg (N.named.drop j) f=some P'/\Zb b wr d p S0 S T D f/\Tab wr/\Turn S w wr/\RB wr w.1.size [.pointer (some ⟨p,0,none⟩)]/\Qr wr (w.1.size+1) 3 1 A2 G k2 (N.named.map iv)) (λi _=>G-(intOf i).toNat)
 case atStart=>exact⟨0,P,Nat.zero_le _,rfl,HP.out,H2,t2,X2,T2,q.less (by omega)⟩
 case round=>
  obtain⟨j,f,hj,rfl,O,Hj,tj,Xj,Tj,E⟩:=hrel;have J:=Lib.hid O;clear O;by_cases a6:j<G
  ·obtain⟨g,o,hA,y0⟩:=Qja E a6;subst hA;have hd:=Qoe (zs:=N.named) (j:=j) (by omega);obtain⟨z,hz⟩:∃z,N.named.getD j 0=z:=⟨_,rfl⟩;rw[hz] at y0 hd;have HD:=Lib.hid hd;clear hz hd;have q0:=Tj.cell 0 rfl;have hr:f.C.Xc z=0/\Yg (N.named.drop (j+1)) ⟨f.S,f.C.ref z,f.L⟩=some P':=by
    have h:=J.out;rw[HD.out] at h;have h:(if f.C.Xc z=0 then Yg (N.named.drop (j+1)) ⟨f.S,f.C.ref z,f.L⟩ else none)=some P':=h;split at h
    ·rename_i h0;exact⟨h0,h⟩
    ·cases h
   obtain⟨Y,Z⟩:=hr;have HR:=Lib.hid Z;have Hc:=Zd3 Hj hb tj z;rw[Y] at Hc;have Hc:=Lib.hid Hc;clear Z Y;go_wp2_with fail
   refine Hc.out.mono ?_;rintro e w3 ⟨rfl,H3,X3,t3⟩;have T3:=Tj.turned X3 (λh=>by have:=hS _ h;omega);have a1:=Qr.turned E X3 (λk V hs=>by have:=hS _ hs;have:=W k V;omega);have XX:=Xj.trans X3 λk V=>.inl V
   go_wp2;exact⟨⟨j+1,_,by omega,by go_num,HR.out,H3,t3,XX,T3,a1⟩,by simp[intOf];omega⟩
  ·have a8:j=G:=by omega
   have R:f=P':=by
    have h:=J.out;rw[List.drop_of_length_le (by omega)] at h;exact Option.some.inj h
   subst R;have a7:¬(j:Int)<(G:Int):=by omega
   go_wp2;go_ret;exact⟨rfl,Hj,Xj,tj⟩
theorem Qon (H:Zb b w d p S0 S T D P)(hb:1<b)(ht:Tab w)(N:Nd)(U:N.fit)(A:Option Addr)(n c:Nat)(B:Option Addr)(m y:Nat)(I:U6 (Turn S w) N A n c B m y)(hP:Ag N.named P=some P') :
  Calls Tryz.prog 230 #[tv p,Px N.lvl A n c B m y] w λe w'=>e=.returned (.int .i64 0)/\Zb b w' d p S0 S T D P'/\Turn S w w'/\Tab w':=by
 have hS:=H.low;have F:NB ((w.alloc (.cells #[.pointer (some ⟨p,0,none⟩)] 173)).alloc (.cells #[.int .i64 N.lvl,.slice A n c,.slice B m y] 178)) (w.1.size+1) N.lvl A n c B m y:=NB.new2 w _ _ _ _ _ _ _ _ _;have K:RB ((w.alloc (.cells #[.pointer (some ⟨p,0,none⟩)] 173)).alloc (.cells #[.int .i64 N.lvl,.slice A n c,.slice B m y] 178)) w.1.size [.pointer (some ⟨p,0,none⟩)]:=(RB.new w [.pointer (some ⟨p,0,none⟩)] 173).below (Ib) (by simp);have M:Below w.1.size w ((w.alloc (.cells #[.pointer (some ⟨p,0,none⟩)] 173)).alloc (.cells #[.int .i64 N.lvl,.slice A n c,.slice B m y] 178)):=(Ib).alloc (by simp) _;have c0:=F.c0;have c1:=F.c1;have c2:=F.c2;have hn:=I.hn;have hm:=I.hm;have Hk:=Lib.hid (λu (hu:Below w.1.size w u)=>Qia N U A n c B m y u (I.its.Qaf (Uk hu)) (I.Ic u (Uk hu)) (by omega) (by omega));have HP:=Lib.hid hP;clear hP;unfold Px tv;go_enter Tryz.func230,Tryz.ntmps230
 go_wp2_with fail
 generalize ((w.alloc (.cells #[.pointer (some ⟨p,0,none⟩)] 173)).alloc (.cells #[.int .i64 N.lvl,.slice A n c,.slice B m y] 178))=w1 at F K M c0 c1 c2 ⊢;refine (Hk.out w1 M).mono ?_;rintro e w2 ⟨A2,G,k2,rfl,q,b2⟩;have a2:=Qr.len q (by omega);rw[List.length_map] at a2;have B2:=M.trans (b2.mono M.size);have T2:=K.below b2 K.lt;have H2:=H.below B2;have t2:=ht.below B2 ht.1;have X2:Turn S w w2:=Uk B2;have b0:G<=120:=by
  have h1:N.named.length<=N.kids.length+N.items.length:=by
   unfold Nd.named;rw[List.length_append,List.length_map];have:=List.length_filterMap_le Vy N.items;omega
  have:=I.ln;have:=I.lm;omega
 have z1:=F.lt;have W:∀k,Xq A2=some k->w.1.size<k:=λk V=>by have:=(q.Zx k V).1;have:=K.lt;have:=F.lt;omega
 clear c0 c1 c2 F K M b2 Hk B2;go_wp2_with fail
 go_loopw [13] (λi wr=>∃(j:Nat) (f:Pl),j<=G/\i=.int .i64 (j:Int)/\Ag (N.named.drop j) f=some P'/\Zb b wr d p S0 S T D f/\Tab wr/\Turn S w wr/\RB wr w.1.size [.pointer (some ⟨p,0,none⟩)]/\Qr wr (w.1.size+1) 3 1 A2 G k2 (N.named.map iv)) (λi _=>G-(intOf i).toNat)
 case atStart=>exact⟨0,P,Nat.zero_le _,rfl,HP.out,H2,t2,X2,T2,q.less (by omega)⟩
 case round=>
  obtain⟨j,f,hj,rfl,O,Hj,tj,Xj,Tj,E⟩:=hrel;have J:=Lib.hid O;clear O;by_cases a6:j<G
  ·obtain⟨g,o,hA,y0⟩:=Qja E a6;subst hA;have hd:=Qoe (zs:=N.named) (j:=j) (by omega);obtain⟨z,hz⟩:∃z,N.named.getD j 0=z:=⟨_,rfl⟩;rw[hz] at y0 hd;have HD:=Lib.hid hd;clear hz hd;have q0:=Tj.cell 0 rfl;have hr:f.C.Jc z=0/\Ag (N.named.drop (j+1)) ⟨f.S,f.C.Zf z,f.L⟩=some P':=by
    have h:=J.out;rw[HD.out] at h;have h:(if f.C.Jc z=0 then Ag (N.named.drop (j+1)) ⟨f.S,f.C.Zf z,f.L⟩ else none)=some P':=h;split at h
    ·rename_i h0;exact⟨h0,h⟩
    ·cases h
   obtain⟨Y,Z⟩:=hr;have HR:=Lib.hid Z;have Hc:=Qnn Hj hb tj z;rw[Y] at Hc;have Hc:=Lib.hid Hc;clear Z Y;go_wp2_with fail
   refine Hc.out.mono ?_;rintro e w3 ⟨rfl,H3,X3,t3⟩;have T3:=Tj.turned X3 (λh=>by have:=hS _ h;omega);have a1:=Qr.turned E X3 (λk V hs=>by have:=hS _ hs;have:=W k V;omega);have XX:=Xj.trans X3 λk V=>.inl V
   go_wp2;exact⟨⟨j+1,_,by omega,by go_num,HR.out,H3,t3,XX,T3,a1⟩,by simp[intOf];omega⟩
  ·have a8:j=G:=by omega
   have R:f=P':=by
    have h:=J.out;rw[List.drop_of_length_le (by omega)] at h;exact Option.some.inj h
   subst R;have a7:¬(j:Int)<(G:Int):=by omega
   go_wp2;go_ret;exact⟨rfl,Hj,Xj,tj⟩
end
def spV (s:Zz)(A:Option Addr)(n c:Nat)(B:Option Addr)(m d:Nat):List Value:=Nh s.N.lvl A n c B m d s.addr (s.next:Int) s.held s.shared
def spA (s:Zz)(A:Option Addr)(n c:Nat)(B:Option Addr)(m d:Nat):Value:=.agg #[.int .i64 s.N.lvl,.slice A n c,.slice B m d,.int .i64 s.addr,.int .i64 (s.next:Int),.bool s.held,.bool s.shared]
theorem Zb0 {w w':World}{S:Nat->Prop}(B:∀k,S k->k<w.1.size){M:Nd}{H I:Option Addr}{F c1 A J:Nat}(hn:F<=20)(hm:A<=20)(y:Zn w' w.1.size H F c1 M.items)(z:Qr w' w.1.size 148 4 I A J (M.kids.map Qk.vs)):U6 (Turn S w') M H F c1 I A J:=by
 have l1:=y.Qaf.len;have l2:M.kids.length=A:=by have:=Qr.len z (by omega);rw[List.length_map] at this;exact this
 have K:=y.Qaf.bounds;have O:=Qr.Hr z (by omega);refine⟨?_,λu m=>Qr.Hr (Qr.turned z m λk f g=>by have:=(Qr.Zx z k f).1;have:=B k g;omega) (by omega),l1,l2,⟨by omega,K.1,K.2⟩,⟨by omega,O.cap,O.max⟩⟩;have U:=y.Zx;obtain⟨G,h1,h2,R⟩:=y;refine⟨G,λu m=>(h1.turned m λk f g=>by have:=(U k f).1;have:=B k g;omega).Hr (by omega),h2,λj r x Y hx=>?_⟩;obtain⟨V,p,q,e,Z,E⟩:=R j r x Y hx;exact⟨V,p,q,e,λu m=>Z.turned' m λW k f g=>by have:=(E W k f).1;have:=B k g;omega⟩
section
variable {b:Nat}{w w':World}{d p:Nat}{S0 S T:Nat->Prop}{D:DM}{P P':Pl}
theorem Qb2 (H:Zb b w d p S0 S T D P)(U:1<b)(G:Tab w)(s:Zz)(A:Option Addr)(n c:Nat)(B:Option Addr)(m y:Nat)(g:P.leave s=some P') :
  Calls Tryz.prog 231 #[tv p,spA s A n c B m y] w λe w'=>e=.returned (.int .i64 0)/\Zb b w' d p S0 S T D P'/\Turn S w w'/\Tab w':=by
 obtain⟨N,f,z,hd,E⟩:=s;have K:RB ((w.alloc (.cells #[.pointer (some ⟨p,0,none⟩)] 173)).alloc (.cells (Nh N.lvl A n c B m y f (z:Int) hd E).toArray 180)) w.1.size [.pointer (some ⟨p,0,none⟩)]:=(RB.new w [.pointer (some ⟨p,0,none⟩)] 173).below (Ib) (by simp);have I:RB ((w.alloc (.cells #[.pointer (some ⟨p,0,none⟩)] 173)).alloc (.cells (Nh N.lvl A n c B m y f (z:Int) hd E).toArray 180)) (w.1.size+1) (Nh N.lvl A n c B m y f (z:Int) hd E):=by
  have:=RB.new (w.alloc (.cells #[.pointer (some ⟨p,0,none⟩)] 173)) (Nh N.lvl A n c B m y f (z:Int) hd E) 180;rwa [World.size_alloc] at this
 have q:Below w.1.size w ((w.alloc (.cells #[.pointer (some ⟨p,0,none⟩)] 173)).alloc (.cells (Nh N.lvl A n c B m y f (z:Int) hd E).toArray 180)):=(Ib).alloc (by simp) _;have Y:=K.cell 0 rfl;have Z:=I.cell 3 rfl;have y3:=I.cell 5 rfl;unfold Pl.leave at g;dsimp only at g;have u:=Qnn (H.below q) U (G.below q G.1) f;have J:=H.below q;have M:=G.below q G.1;unfold tv spA;dsimp only;unfold Nh at q y3 Z Y u J M;clear I K
 cases hd with
 |true=>
  obtain rfl:=Option.some.inj g;clear u;go_enter Tryz.func231,Tryz.ntmps231
  go_wp2;go_ret;exact⟨rfl,J,Uk q,M⟩
 |false=>
  have F:P.C.Jc f=0/\⟨P.S,P.C.Zf f,P.L⟩=P':=by
   rw[if_neg Bool.false_ne_true] at g;split at g
   ·rename_i h;exact⟨h,Option.some.inj g⟩
   ·cases g
  obtain⟨F,rfl⟩:=F;rw[F] at u;have u:=Lib.hid u;clear g F;go_enter Tryz.func231,Tryz.ntmps231
  go_wp2_with fail
  refine u.out.mono ?_;rintro e w2 ⟨rfl,O,R,W⟩;go_wp2;go_ret;exact⟨rfl,O,(Uk (S:=S) q).trans R λk V=>.inl V,W⟩
theorem Qk9 (H:Zb b w d p S0 S T D P)(ht:Tab w)(a1:∀a b,P.L a=some b->b.kindOk)(a:Int)(held:Bool)(hE:P.Qj D a=0) :
  Calls Tryz.prog 183 #[tv p,.int .i64 a,.bool held] w λe w'=>∃A n c B m dd,e=.returned (.tuple #[spA (P.spot D a held) A n c B m dd,.int .i64 0])/\U6 (Turn (λk=>k<w.1.size) w') (P.Qb D a) A n c B m dd/\Below w.1.size w w':=by
 have O:RB ((w.alloc (.cells #[.pointer (some ⟨p,0,none⟩)] 173)).alloc (.cells #[.int .i64 0,.slice none 0 0,.slice none 0 0,.int .i64 0,.int .i64 0,.bool false,.bool false] 180)) w.1.size [.pointer (some ⟨p,0,none⟩)]:=(RB.new w [.pointer (some ⟨p,0,none⟩)] 173).below (Ib) (by simp);have V:RB ((w.alloc (.cells #[.pointer (some ⟨p,0,none⟩)] 173)).alloc (.cells #[.int .i64 0,.slice none 0 0,.slice none 0 0,.int .i64 0,.int .i64 0,.bool false,.bool false] 180)) (w.1.size+1) (Nh 0 none 0 0 none 0 0 0 0 false false):=by
  have:=RB.new (w.alloc (.cells #[.pointer (some ⟨p,0,none⟩)] 173)) (Nh 0 none 0 0 none 0 0 0 0 false false) 180;rwa [World.size_alloc] at this
 have W:Below w.1.size w ((w.alloc (.cells #[.pointer (some ⟨p,0,none⟩)] 173)).alloc (.cells #[.int .i64 0,.slice none 0 0,.slice none 0 0,.int .i64 0,.int .i64 0,.bool false,.bool false] 180)):=(Ib).alloc (by simp) _;have y0:=O.cell 0 rfl;have hS:=H.low;obtain⟨M,hM⟩:∃M,P.Qb D a=M:=⟨_,rfl⟩;obtain⟨x,hx⟩:∃x,P.C.get a=x:=⟨_,rfl⟩;have R:=λ(u:World) (F:Below w.1.size w u)=>Qgp (H.below F).Vh (H.below F).pool a1 (ht.below F ht.1) a
 rw[hM,hE] at R;have R:=Lib.hid R;have Hc:=Lib.hid (λ(u:World) (F:Below w.1.size w u)=>Qcd (H.below F).pool a x hx);obtain⟨r,hr⟩:∃r,decide (1<x)=r:=⟨_,rfl⟩;unfold Pl.spot;rw[hM,hx,hr];clear hx hM hE;unfold tv;go_enter Tryz.func183,Tryz.ntmps183
 go_wp2_with fail
 generalize ((w.alloc (.cells #[.pointer (some ⟨p,0,none⟩)] 173)).alloc (.cells #[.int .i64 0,.slice none 0 0,.slice none 0 0,.int .i64 0,.int .i64 0,.bool false,.bool false] 180))=w1 at O V W y0 ⊢;refine (R.out w1 W).mono ?_;rintro e f ⟨g,E,c1,q,z,y,rfl,a6,a2,hI,hK,Y⟩;have z1:=V.lt;have z0:=W.size;have z2:=Y.size;have hq:U6 (Turn (λk=>k<w1.1.size) f) M g E c1 q z y:=Zb0 (λk J=>J) a6 a2 hI hK;have Z:=W.trans (Y.mono W.size);have G:Below f.1.size f (f.alloc (.cells #[.int .i64 M.lvl,.slice g E c1,.slice q z y] 77)):=Ib;have U:NB (f.alloc (.cells #[.int .i64 M.lvl,.slice g E c1,.slice q z y] 77)) f.1.size M.lvl g E c1 q z y:=NB.new f _ _ _ _ _ _ _ _;have T3:=(O.below Y O.lt).below G (by have:=O.lt;omega);have R3:=(V.below Y V.lt).below G (by omega);have B3:=Z.trans (G.mono Z.size);have fin:∀(u I:World),Below f.1.size f u->Turn (λk=>k=w.1.size+1) u I->U6 (Turn (λk=>k<w.1.size) I) M g E c1 q z y/\Below w.1.size w I:=λu I F T=>by
  have h1:=F.size;refine⟨hq.mono λv hv=>(((Uk (S:=λk=>k<w1.1.size) F).trans T λk J=>.inl (by have:k=w.1.size+1:=J;show k<_;omega)).trans hv λk J=>.inl (by have:k<w.1.size:=J;show k<_;omega)),Z.trans ((F.mono Z.size).trans (T.below (λk J=>by have:k=w.1.size+1:=J;omega) (by omega)))⟩
 clear hI hK hq Y O V y0;go_wp2_with fail
 generalize f.alloc (.cells #[.int .i64 M.lvl,.slice g E c1,.slice q z y] 77)=K at G U T3 R3 B3 ⊢;have zR:=R3.lt;have zN:=U.lt;have zT:=T3.lt;have zB:=B3.size;have bD:Below K.1.size K K.drew:=(Below.refl _ _).drew;have g0:∀u:Grown K,u.to.cell? ⟨w.1.size,0,none⟩=some (.pointer (some ⟨p,0,none⟩)):=Grown.cell (T3.cell 0 rfl) zT;have g1:∀u:Grown K,u.to.cell? ⟨f.1.size,0,none⟩=some (.int .i64 M.lvl):=Grown.cell U.c0 zN;have g2:∀u:Grown K,u.to.cell? ⟨f.1.size,1,none⟩=some (.slice g E c1):=Grown.cell U.c1 zN;have g3:∀u:Grown K,u.to.cell? ⟨f.1.size,2,none⟩=some (.slice q z y):=Grown.cell U.c2 zN;clear R
 cases held with
 |true=>
  go_wp2_with fail
  refine Oq 13 (by kernel_rfl) (by kernel_rfl) ?_;simp only[List.take_succ_cons,List.take_zero,List.drop_succ_cons,List.drop_zero];repeat (go_big_quiet_step (first|fail))
  refine wpQuiet_nil ?_;rintro _ ⟨u,rfl⟩;have R4:=R3.below u.ok zR;go_wp2_with (first
   |(refine Le rfl _ _ rfl (w.1.size+1) rfl M.lvl g E c1 q z y a 0 true true rfl R4 rfl ?_;intro I Rz Tz)
   |fail)
  refine bodyPost_ret (Md Tryz.results183 rfl (Qbr Rz)) rfl ?_;obtain⟨f1,f2⟩:=fin u.to I (G.trans (u.ok.mono G.size)) Tz;exact⟨g,E,c1,q,z,y,rfl,f1,f2⟩
 |false=>
  go_wp2_with fail
  refine Oq 13 (by kernel_rfl) (by kernel_rfl) ?_;simp only[List.take_succ_cons,List.take_zero,List.drop_succ_cons,List.drop_zero];repeat (go_big_quiet_step (first|(go_at_call 38;exact Calls.Oh (Hc.out _ (B3.trans ((Grown.ok _).mono B3.size))))|fail))
  refine wpQuiet_nil ?_;rintro _ ⟨u,rfl⟩;have R4:=R3.below u.ok zR;go_wp2_with (first
   |(refine Le rfl _ _ rfl (w.1.size+1) rfl M.lvl g E c1 q z y a 0 false r rfl R4 rfl ?_;intro I Rz Tz)
   |fail)
  refine bodyPost_ret (Md Tryz.results183 rfl (Qbr Rz)) rfl ?_;obtain⟨f1,f2⟩:=fin u.to I (G.trans (u.ok.mono G.size)) Tz;exact⟨g,E,c1,q,z,y,rfl,f1,f2⟩
end
section
def stS (p v:Value):Sem Unit:=Instr.storeAt 180 p v
theorem Qj2 (p v:Value):Instr.storeAt 180 p v=stS p v:=rfl
theorem Qne {w:World}{b:Nat}{r:List Value}(H:RB w b r)(g:r.length=7)(l:Int)(A:Option Addr)(n c:Nat)(B:Option Addr)(m d:Nat)(e f:Int)(h s:Bool) :
  (stS (.pointer (some ⟨b,0,none⟩)) (.agg #[.int .i64 l,.slice A n c,.slice B m d,.int .i64 e,.int .i64 f,.bool h,.bool s])).run Tryz.prog w=.ok () (w.setCells b 0 (Nh l A n c B m d e f h s)):=
 run_storeAt_mid w b 0 180 (Nh l A n c B m d e f h s).toArray (by have:=H.there;rw[g] at this;exact this) (by kernel_rfl) (by simp[Nh,Value.oneCell'])
theorem Qh2 {g v:World}{q:Nat}{r:List Value}(y:Below g.1.size g v)(E:g.1.size<=q)(H:RB v q r)(u:r.length=7)(l:Int)(A:Option Addr)(n c:Nat)(B:Option Addr)(m d:Nat)(e f:Int)(h s:Bool) :
  (stS (.pointer (some ⟨q,0,none⟩)) (.agg #[.int .i64 l,.slice A n c,.slice B m d,.int .i64 e,.int .i64 f,.bool h,.bool s])).run Tryz.prog v=.ok () (v.setCells q 0 (Nh l A n c B m d e f h s))/\RB (v.setCells q 0 (Nh l A n c B m d e f h s)) q (Nh l A n c B m d e f h s)/\
   Turn (λk=>k=q) v (v.setCells q 0 (Nh l A n c B m d e f h s))/\Below g.1.size g (v.setCells q 0 (Nh l A n c B m d e f h s)):=by
 have T:Turn (λk=>k=q) v (v.setCells q 0 (Nh l A n c B m d e f h s)):=Gg (S:=λk=>k=q) rfl _ 0 v;exact⟨Qne H u l A n c B m d e f h s,H.stored _ u,T,y.trans (T.below (λk z=>by have:k=q:=z;omega) y.size)⟩
theorem Qht {B e:Nat}{q g:World}{M:Nd}{A:Option Addr}{n c:Nat}{f:Option Addr}{m d:Nat}(y:U6 (Turn (λk=>k<B) q) M A n c f m d)(X:Turn (λk=>k<B) q g)(E:e<=B):U6 (Turn (λk=>k<e) g) M A n c f m d:=
 y.mono λv z=>X.trans z λk u=>.inl (by have:k<e:=u;show k<B;omega)
abbrev zsp:Obj:=.cells #[.int .i64 0,.slice none 0 0,.slice none 0 0,.int .i64 0,.int .i64 0,.bool false,.bool false] 180
theorem Nu (w:World):RB (w.alloc zsp) w.1.size (Nh 0 none 0 0 none 0 0 0 0 false false):=RB.new w (Nh 0 none 0 0 none 0 0 0 0 false false) 180
attribute [local go_sem ↓] Qj2
section
variable {b:Nat}{w w':World}{d p:Nat}{S0 S T:Nat->Prop}{D:DM}{P P':Pl}
theorem Qoh (H:Zb b w d p S0 S T D P)(ht:Tab w)(a8:∀a b,P.L a=some b->b.kindOk)(s:Zz)(A:Option Addr)(n c:Nat)(B:Option Addr)(m E:Nat)(hB:Vf (Turn S w) B m E s.N.kids)(hl:1<=s.N.lvl/\s.N.lvl<8)(i:Nat)(U:P.Yc D s i=true) :
  Calls Tryz.prog 184 #[tv p,spA s A n c B m E,.int .i64 (i:Int)] w λe w'=>∃A n c B m E,e=.returned (.tuple #[spA (P.W9 D s i) A n c B m E,.int .i64 0])/\U6 (Turn (λk=>k<w.1.size) w') (P.W9 D s i).N A n c B m E/\Below w.1.size w w':=by
 obtain⟨N,ad,nx,hd,J⟩:=s;obtain⟨k1,k2,k3⟩:=of_decide_eq_true U;unfold Pl.W9;dsimp only at hB hl k1 k2 k3 ⊢;clear U;have a1:=hB w (Turn.refl _ _);have b2:=a1.len;obtain⟨g,o,rfl,hg,-,-,-,x3⟩:=a1.cell (show i<m by omega);obtain⟨a,ha⟩:∃a,(Ql N.kids i).a=a:=⟨_,rfl⟩;rw[ha] at x3 k2 k3 ⊢;clear a1 hB ha;obtain⟨O,a6⟩:∃O,N.lvl=O:=⟨_,rfl⟩;rw[a6] at hl k3;have T1:RB (((w.alloc (.cells #[.pointer (some ⟨p,0,none⟩)] 173)).alloc (.cells (Nh O A n c (some ⟨g,o,none⟩) m E ad (nx:Int) hd J).toArray 180)).alloc (.cells (Nh 0 none 0 0 none 0 0 0 0 false false).toArray 180)) w.1.size [.pointer (some ⟨p,0,none⟩)]:=(RB.new w [.pointer (some ⟨p,0,none⟩)] 173).below ((Ib).alloc (by simp) _) (by simp);have Z:RB (((w.alloc (.cells #[.pointer (some ⟨p,0,none⟩)] 173)).alloc (.cells (Nh O A n c (some ⟨g,o,none⟩) m E ad (nx:Int) hd J).toArray 180)).alloc (.cells (Nh 0 none 0 0 none 0 0 0 0 false false).toArray 180)) (w.1.size+1) (Nh O A n c (some ⟨g,o,none⟩) m E ad (nx:Int) hd J):=by
  have:=RB.new (w.alloc (.cells #[.pointer (some ⟨p,0,none⟩)] 173)) (Nh O A n c (some ⟨g,o,none⟩) m E ad (nx:Int) hd J) 180;rw[World.size_alloc] at this;exact this.below (Ib) (by simp)
 have R1:RB (((w.alloc (.cells #[.pointer (some ⟨p,0,none⟩)] 173)).alloc (.cells (Nh O A n c (some ⟨g,o,none⟩) m E ad (nx:Int) hd J).toArray 180)).alloc (.cells (Nh 0 none 0 0 none 0 0 0 0 false false).toArray 180)) (w.1.size+2) (Nh 0 none 0 0 none 0 0 0 0 false false):=by
  have:=RB.new ((w.alloc (.cells #[.pointer (some ⟨p,0,none⟩)] 173)).alloc (.cells (Nh O A n c (some ⟨g,o,none⟩) m E ad (nx:Int) hd J).toArray 180)) (Nh 0 none 0 0 none 0 0 0 0 false false) 180;rwa [World.size_alloc,World.size_alloc] at this
 have R:Below w.1.size w (((w.alloc (.cells #[.pointer (some ⟨p,0,none⟩)] 173)).alloc (.cells (Nh O A n c (some ⟨g,o,none⟩) m E ad (nx:Int) hd J).toArray 180)).alloc (.cells (Nh 0 none 0 0 none 0 0 0 0 false false).toArray 180)):=((Ib).alloc (by simp) _).alloc (by simp;omega) _;have Hr:=λ(u:World) (hu:Below w.1.size w u)=>Qk9 (H.below hu) (ht.below hu ht.1) a8 a J k2
 unfold spA Pl.spot tv at Hr;unfold Pl.spot;dsimp only at Hr ⊢;obtain⟨M,hM⟩:∃M,P.Qb D a=M:=⟨_,rfl⟩;obtain⟨r,hr⟩:∃r,(J||decide (1<P.C.get a))=r:=⟨_,rfl⟩;rw[hM,hr] at Hr ⊢;rw[hM] at k3;have Hr:=Lib.hid Hr;have HE:=Lib.hid k3;clear hM hr;unfold tv spA;dsimp only;rw[a6];unfold Nh at T1 Z R1 R;have hj:(0:Int)<=(i:Int):=by omega
 have b3:(i:Int)<(m:Int):=by omega
 clear k2 k3;go_enter Tryz.func184,Tryz.ntmps184
 go_wp2_with fail
 generalize (((w.alloc (.cells #[.pointer (some ⟨p,0,none⟩)] 173)).alloc (.cells #[.int .i64 O,.slice A n c,.slice (some ⟨g,o,none⟩) m E,.int .i64 ad,.int .i64 (nx:Int),.bool hd,.bool J] 180)).alloc (.cells #[.int .i64 0,.slice none 0 0,.slice none 0 0,.int .i64 0,.int .i64 0,.bool false,.bool false] 180))=f at T1 Z R1 R ⊢;have a7:=(R.cell (p:=⟨g,_,none⟩) hg).trans x3;have z1:=R1.lt;have z0:=R.size;have hF:∀u,Below f.1.size f u->u.cell? ⟨w.1.size,0,none⟩=some (.pointer (some ⟨p,0,none⟩))/\u.cell? ⟨w.1.size+1,2,none⟩=some (.slice (some ⟨g,o,none⟩) m E)/\u.cell? ⟨w.1.size+1,6,none⟩=some (.bool J)/\u.cell? ⟨g,o+i*4+3,none⟩=some (.int .i64 a):=λu hu=>
  ⟨(T1.below hu T1.lt).cell 0 rfl,(Z.below hu Z.lt).cell 2 rfl,(Z.below hu Z.lt).cell 6 rfl,(hu.cell (p:=⟨g,_,none⟩) (by show g<_;omega)).trans a7⟩
 have bD:Below f.1.size f f.drew:=(Below.refl _ _).drew;have bA:Below f.1.size f (f.alloc zsp).drew:=(Ib).drew;have QA:RB (f.alloc zsp).drew f.1.size (Nh 0 none 0 0 none 0 0 0 0 false false):=Nu f;go_cut [8,9] from 10 to 24 (λq e wx=>∃(qb:Nat) (A:Option Addr) (n c:Nat) (B:Option Addr) (m E:Nat),q=.pointer (some ⟨qb,0,none⟩)/\e=.int .i64 0/\f.1.size<=qb/\RB wx qb (Nh M.lvl A n c B m E a 0 J r)/\U6 (Turn (λk=>k<f.1.size) wx) M A n c B m E/\Below f.1.size f wx)
 case first=>
  go_region_held3 (λw'=>w'.cell? ⟨w.1.size,0,none⟩=some (.pointer (some ⟨p,0,none⟩))/\w'.cell? ⟨w.1.size+1,2,none⟩=some (.slice (some ⟨g,o,none⟩) m E)/\w'.cell? ⟨w.1.size+1,6,none⟩=some (.bool J)/\w'.cell? ⟨g,o+i*4+3,none⟩=some (.int .i64 a))
   (first|(with_reducible assumption)|(with_reducible exact hF _ bD)|(with_reducible exact hF _ bA)|(with_reducible exact hF _ y)|(with_reducible exact hF _ (y.alloc y.size zsp))|(with_reducible exact a2.out))
   (first
    |(go_at_call 183;(with_reducible refine (Hr.out f.drew (R.trans (bD.mono R.size))).mono ?_);rintro e w3 ⟨W,n3,c3,Y,m3,d3,rfl,K,z⟩;have y:Below f.1.size f w3:=bD.trans z;have G:=y.alloc y.size zsp;obtain⟨b0,F,V,I⟩:=Qh2 G y.size (Nu w3) rfl M.lvl W n3 c3 Y m3 d3 a 0 J r;have a2:=Lib.hid (hF _ I);have HX:=Lib.hid (And.intro F (And.intro V (And.intro I (And.intro G z))));clear F V I G z)
    |(go_at_call 183;(with_reducible refine (Hr.out (f.alloc zsp).drew (R.trans (bA.mono R.size))).mono ?_);rintro e w3 ⟨W,n3,c3,Y,m3,d3,rfl,K,z⟩;have y:Below f.1.size f w3:=bA.trans (z.mono bA.size);have G:=y;obtain⟨b0,F,V,I⟩:=Qh2 y (Nat.le_refl _) (QA.below z QA.lt) rfl M.lvl W n3 c3 Y m3 d3 a 0 J r;have a2:=Lib.hid (hF _ I);have HX:=Lib.hid (And.intro F (And.intro V (And.intro I (And.intro G z))));clear F V I G z)
    |fail)
  ·obtain⟨F,V,I,G,z⟩:=HX.out;go_wp2_with fail
   go_meet
   refine⟨w3.1.size,W,n3,c3,Y,m3,d3,rfl,rfl,y.size,F,Qht K ((Uk (S:=λk=>k<f.drew.1.size) ((Below.refl _ _).alloc (Nat.le_refl _) zsp)).trans V λk U=>.inr (by have:k=w3.1.size:=U;omega)) ?_,I⟩;exact Nat.le_refl _
  ·obtain⟨F,V,I,G,z⟩:=HX.out;go_wp2_with fail
   go_meet
   have b6:(f.alloc zsp).drew.1.size=f.1.size+1:=by show (f.alloc zsp).1.size=_;simp
   refine⟨f.1.size,W,n3,c3,Y,m3,d3,rfl,rfl,Nat.le_refl _,F,Qht K (V.mono λk U=>?_) ?_,I⟩
   ·have:k=f.1.size:=U;show k<(f.alloc zsp).drew.1.size;omega
   ·omega
 case rest=>
  obtain⟨qb,W,n3,c3,Y,m3,d3,rfl,rfl,b5,F,K,I⟩:=hcut;have XQ:=Z.below I Z.lt;have RR:=R1.below I R1.lt;have e0:=XQ.cell 0 rfl;have f0:=F.cell 0 rfl;have f1:=F.cell 1 rfl;have f2:=F.cell 2 rfl;have f3:=F.cell 3 rfl;have f4:=F.cell 4 rfl;have f5:=F.cell 5 rfl;have f6:=F.cell 6 rfl;have b4:(M.lvl != O-1)=false:=by simp[HE.out]
  have BW:=R.trans (I.mono R.size);clear hF QA bA bD x3 a7;unfold Nh at f0 f1 f2 f3 f4 f5 f6;go_wp2_with (first
   |(refine Le rfl _ _ rfl (w.1.size+2) rfl M.lvl W n3 c3 Y m3 d3 a 0 J r rfl RR rfl ?_;intro wz Rz Tz)
   |fail)
  refine bodyPost_ret (Md Tryz.results184 rfl (Qbr Rz)) rfl ?_;have zz:=I.size;exact⟨W,n3,c3,Y,m3,d3,rfl,Qht K (Tz.mono λk U=>by have:k=w.1.size+2:=U;show k<f.1.size;omega) z0,BW.trans (Tz.below (λk U=>by have:k=w.1.size+2:=U;omega) BW.size)⟩
end
end
theorem Qm7 (w:World)(t:TypeId){s:Nat}(q:0<s)(xs:List (List Value))(e:Array Value)(g:e=xs.flatten.toArray)(m:∀x∈xs,x.length=s)(u:xs.length<=1000):Zg (w.alloc (.cells e t)) s (some ⟨w.1.size,0,none⟩) xs.length xs.length xs:=by
 have h:Qr (w.alloc (.cells e t)) w.1.size t s (some ⟨w.1.size,0,none⟩) xs.length xs.length xs:=by
  have f:=Am m;refine⟨⟨f,.inr ⟨w.1.size,xs.length,e,rfl,Nat.le_refl _,heap_alloc_new w _,Nat.le_refl _,by unfold maxLen;omega,?_,?_⟩⟩,m⟩
  ·rw[g];simpa using f
  ·rw[g];show List.take (xs.length*s) xs.flatten=xs.flatten;rw[<-f,List.take_length]
 exact h.Hr q
theorem Qtg {Q:World->Prop}{w:World}{X:Option Addr}{k kc:Nat}{Ns:List Nd}{e:List (List Value)}(h:Zg w 3 X k kc e)(f:e.length=Ns.length)(g:∀(j:Nat) r N,e[j]?=some r->Ns[j]?=some N->∃A n c B m d,r=Cj N.lvl A n c B m d/\U6 Q N A n c B m d):Bnl Q w X k kc Ns:=⟨e,h,f,g⟩
theorem Qmm {Q:World->Prop}(w:World)(t:TypeId){e f:Nd}{g m q u:Option Addr}{F G c1 c2 B E y z:Nat}(h1:U6 Q e g F c1 q B y)(h2:U6 Q f m G c2 u E z) :
  Bnl Q (w.alloc (.cells #[.int .i64 e.lvl,.slice g F c1,.slice q B y,.int .i64 f.lvl,.slice m G c2,.slice u E z] t)) (some ⟨w.1.size,0,none⟩) 2 2 [e,f]:=by
 have:=Qm7 w t (s:=3) (by omega) [Cj e.lvl g F c1 q B y,Cj f.lvl m G c2 u E z] _ rfl (by simp[Cj]) (by simp);refine Qtg this rfl λj r N H A=>?_
 match j with
 |0=>
  obtain rfl:=Option.some.inj H;obtain rfl:=Option.some.inj A;exact⟨_,_,_,_,_,_,rfl,h1⟩
 |1=>
  obtain rfl:=Option.some.inj H;obtain rfl:=Option.some.inj A;exact⟨_,_,_,_,_,_,rfl,h2⟩
 |j+2=>simp at A
theorem Qum {Q:World->Prop}(w:World)(t:TypeId){e f g:Nd}{q u y z A B:Option Addr}{M O R c1 c2 c3 I J K E F G:Nat}(h1:U6 Q e q M c1 z I E)(h2:U6 Q f u O c2 A J F)(U:U6 Q g y R c3 B K G) :
  Bnl Q (w.alloc (.cells #[.int .i64 e.lvl,.slice q M c1,.slice z I E,.int .i64 f.lvl,.slice u O c2,.slice A J F,.int .i64 g.lvl,.slice y R c3,.slice B K G] t)) (some ⟨w.1.size,0,none⟩) 3 3 [e,f,g]:=by
 have:=Qm7 w t (s:=3) (by omega) [Cj e.lvl q M c1 z I E,Cj f.lvl u O c2 A J F,Cj g.lvl y R c3 B K G] _ rfl (by simp[Cj]) (by simp);refine Qtg this rfl λj r N H m=>?_
 match j with
 |0=>
  obtain rfl:=Option.some.inj H;obtain rfl:=Option.some.inj m;exact⟨_,_,_,_,_,_,rfl,h1⟩
 |1=>
  obtain rfl:=Option.some.inj H;obtain rfl:=Option.some.inj m;exact⟨_,_,_,_,_,_,rfl,h2⟩
 |2=>
  obtain rfl:=Option.some.inj H;obtain rfl:=Option.some.inj m;exact⟨_,_,_,_,_,_,rfl,U⟩
 |j+3=>simp at m
def Spl (Q:World->Prop)(w:World)(X:Option Addr)(k kc:Nat)(ss:List Zz):Prop:=
 ∃e,Zg w 7 X k kc e/\e.length=ss.length/\∀(j:Nat) r s,e[j]?=some r->ss[j]?=some s->∃A n c B m d,r=spV s A n c B m d/\U6 Q s.N A n c B m d
def Qaa (ss:List Zz)(j:Nat):Zz:=ss.getD j Fh
theorem Qw1 {ss:List Zz}{j:Nat}(h:j<ss.length):ss[j]?=some (Qaa ss j):=by simp[Qaa,List.getD,h]
section
variable {Q Q':World->Prop}{w w':World}{X:Option Addr}{k kc:Nat}{ss:List Zz}
theorem Spl.len (h:Spl Q w X k kc ss):ss.length=k:=by
 obtain⟨e,h1,h2,_⟩:=h;rw[<-h2];exact h1.len
theorem Spl.below (h:Spl Q w X k kc ss)(hb:Below w.1.size w w'):Spl Q w' X k kc ss:=by
 obtain⟨e,h1,h2⟩:=h;exact⟨e,h1.below hb,h2⟩
theorem Spl.mono (h:Spl Q w X k kc ss)(hq:∀w,Q' w->Q w):Spl Q' w X k kc ss:=by
 obtain⟨f,h1,h2,g⟩:=h;refine⟨f,h1,h2,λj r s u y=>?_⟩;obtain⟨A,n,c,B,m,d,e,q⟩:=g j r s u y;exact⟨A,n,c,B,m,d,e,q.mono hq⟩
theorem Spl.take (h:Spl Q w X k kc ss){j:Nat}(hj:j<=k):Spl Q w X j kc (ss.take j):=by
 obtain⟨g,h1,h2,m⟩:=h;refine⟨g.take j,h1.take hj,by rw[List.length_take,List.length_take,h2],λi r s e f=>?_⟩;rw[List.getElem?_take] at e f;split at e
 ·rename_i hi;rw[if_pos hi] at f;exact m i r s e f
 ·cases e
theorem Spl.get (h:Spl Q w X k kc ss){j:Nat}(hj:j<k):∃g o A n c B m d,X=some ⟨g,o,none⟩/\g<w.1.size/\w.rangeAt g (o+j*7) (spV (Qaa ss j) A n c B m d)/\U6 Q (Qaa ss j).N A n c B m d:=by
 have F:=h.len;obtain⟨f,h1,h2,y⟩:=h;have u:f[j]?=some (f[j]'(by omega)):=List.getElem?_eq_getElem (by omega);obtain⟨A,n,c,B,m,d,e,z⟩:=y j _ _ u (Qw1 (by omega));obtain⟨g,o,rfl,E,_,q⟩:=h1.2.2.2 j _ u;rw[e] at q;exact⟨g,o,A,n,c,B,m,d,rfl,E,q,z⟩
theorem Spl.cap (h:Spl Q w X k kc ss):k<=kc/\kc<=maxLen:=by
 obtain⟨e,h1,_⟩:=h;exact⟨h1.cap,h1.max⟩
end
theorem Qk6 {Q:World->Prop}{w:World}{X:Option Addr}{k kc:Nat}{ss:List Zz}(h:Spl Q w X k kc ss)(E:1<=k)(U:k<=1000) :
  Calls Tryz.prog 109 #[.slice X k kc] w λe w'=>∃A n c B m d,e=.returned (spA (Qaa ss (k-1)) A n c B m d)/\U6 Q (Qaa ss (k-1)).N A n c B m d/\Below w.1.size w w':=by
 obtain⟨g,o,A,n,c,B,m,d,rfl,O,f,z⟩:=h.get (show k-1<k by omega);obtain⟨⟨N,y,G,hd,H⟩,F⟩:∃s,Qaa ss (k-1)=s:=⟨_,rfl⟩;rw[F] at f z ⊢;obtain⟨q,V⟩:∃q,k-1=q:=⟨_,rfl⟩;rw[V] at f;have u:Below w.1.size w (w.alloc zsp):=Ib;have I:=Nu w;have cell:∀(j:Nat) v,(spV ⟨N,y,G,hd,H⟩ A n c B m d)[j]?=some v->(w.alloc zsp).cell? ⟨g,o+q*7+j,none⟩=some v:=λj v W=>(u.cell (p:=⟨g,_,none⟩) O).trans (f j v W)
 have M:=cell 0 _ rfl;have Y:=cell 1 _ rfl;have Z:=cell 2 _ rfl;have f3:=cell 3 _ rfl;have f4:=cell 4 _ rfl;have f5:=cell 5 _ rfl;have f6:=cell 6 _ rfl;rw[Nat.add_zero] at M;have hw:IntKind.i64.wrap ((k:Int)-1)=(q:Int):=by
  have:(k:Int)-1=(q:Int):=by omega
  rw[this];exact IntWalk.i64_in _ (by omega)
 have hj:(0:Int)<=(q:Int):=by omega
 have R:(q:Int)<(k:Int):=by omega
 clear cell f F h;go_enter Tryz.func109,Tryz.ntmps109
 go_wp2_with (first
  |(refine Le rfl _ _ rfl w.1.size rfl N.lvl A n c B m d y (G:Int) hd H rfl I rfl ?_;intro wz J K)
  |fail)
 refine bodyPost_ret (Rl Tryz.results109 rfl (Qbr J)) rfl ?_;exact⟨A,n,c,B,m,d,rfl,z,u.trans (K.below (λk E=>by have:k=w.1.size:=E;omega) u.size)⟩
