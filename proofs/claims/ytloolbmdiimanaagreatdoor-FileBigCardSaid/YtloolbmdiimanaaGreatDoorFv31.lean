/- The code's edit: refs and unrefs -/
import Derived.Test.YtloolbmdiimanaaGreatDoorFv30
namespace Go.Proofs.YtloolbmdiimanaaGreatDoor
open Go Go.RowKit Go.Proofs Tryz
set_option maxHeartbeats 8000000
set_option maxRecDepth 100000
section
variable {b:Nat}{w w':WD}{d p:Nat}{S0 S T:NP}{D:DM}{P P':Pl}
theorem Qg.step (H:Qg b w d p S0 S T D P)(R:Pool w' p d S T P')(X:Turn S w w'):Qg b w' d p S0 S T D P':=by
 have g:=X.size;exact⟨H.Az.keep λk e f=>X.block k e (H.apart k f),R,H.sub,H.apart,λk e=>⟨(H.tight k e).1,by have:=(H.tight k e).2;omega⟩⟩
theorem Qg.low (H:Qg b w d p S0 S T D P):∀k,S k->k<w.1.size:=λk e=>(H.tight k (H.Du k e)).2
theorem Qg.tab (H:Qg b w d p S0 S T D P)(hb:1<b)(ht:Tab w)(X:Turn S w w'):Tab w':=ht.turned X λh=>by have:=(H.tight _ (H.Du _ h)).1;omega
theorem Qg.less {T':NP}(H:Qg b w d p S0 S T' D P)(hT:∀k,T k->T' k)(h0:∀k,S0 k->T k)(h1:∀k,S k->T k):Qg b w d p S0 S T D P:=
 ⟨H.Az,H.pool.mono (λ_ _ h=>h) (λk _ h=>hT k h) h1,h0,H.apart,λk e=>H.tight k (hT k e)⟩
theorem qyo (H:Qg b w d p S0 S T D P)(g:1<b)(m:Tab w)(a:Int) :
  Calls prog 177 #[.pointer (some ⟨p,0,none⟩),.int .i64 a] w λe w'=>e=.returned (.int .i64 (P.C.Y0 a))/\Qg b w' d p S0 S T D ⟨P.S,P.C.ref a,P.L⟩/\Turn S w w'/\Tab w':=
 (qtf H.pool a).mono λ_ _ ⟨h1,h2,f⟩=>⟨h1,H.step h2 f,f,H.tab g m f⟩
theorem qka (H:Qg b w d p S0 S T D P)(g:1<b)(m:Tab w)(a:Int) :
  Calls prog 178 #[.pointer (some ⟨p,0,none⟩),.int .i64 a] w λe w'=>e=.returned (.tuple #[.int .i64 (P.C.Jw a),.int .i64 (P.C.Jp a)])/\Qg b w' d p S0 S T D ⟨P.S,P.C.Qp a,P.L⟩/\Turn S w w'/\Tab w':=
 (qm9 H.pool a).mono λ_ _ ⟨h1,h2,f⟩=>⟨h1,H.step h2 f,f,H.tab g m f⟩
def tv (p:Nat):Value:=.agg #[.pointer (some ⟨p,0,none⟩)]
theorem qcj {w:WD}{base:Nat}{A:OA}{n c:Nat}{zs:LI}(h:Q8 w base 3 1 A n c (zs.map iv)){j:Nat}(B:j<n):∃g o,A=some ⟨g,o,none⟩/\w.cell? ⟨g,o+j,none⟩=some (.int .i64 (zs.getD j 0)):=by
 have f:=h.Um (by omega);have m:=f.len;rw[AF] at m;obtain⟨g,o,e,y,_,u⟩:=f.2.2.2 j (iv (zs.getD j 0)) (by
  rw[BA,AC (by omega),AG,AC (by omega)];rfl)
 have:=u 0 _ rfl;rw[Nat.mul_one,Nat.add_zero] at this;exact⟨g,o,e,this⟩
theorem qkb {zs:LI}{j:Nat}(h:j<zs.length):zs.drop j=zs.getD j 0::zs.drop (j+1):=by
 rw[List.drop_eq_getElem_cons h,AG,AC h];rfl
theorem qpp (H:Qg b w d p S0 S T D P)(hb:1<b)(ht:Tab w)(N:Nd)(U:N.fit)(A:OA)(n c:Nat)(B:OA)(m E:Nat)(J:Je (Turn S w) N A n c B m E)(hP:Vk N.named P=some P') :
  Calls prog 163 #[tv p,Xw N.lvl A n c B m E] w λe w'=>e=.returned (.int .i64 0)/\Qg b w' d p S0 S T D P'/\Turn S w w'/\Tab w':=by
 have hS:=H.low;have G:NB ((w.alloc (.cells #[.pointer (some ⟨p,0,none⟩)] 188)).alloc (.cells #[.int .i64 N.lvl,.slice A n c,.slice B m E] 193)) (w.1.size+1) N.lvl A n c B m E:=NB.new2 w _ _ _ _ _ _ _ _ _;have M:RB ((w.alloc (.cells #[.pointer (some ⟨p,0,none⟩)] 188)).alloc (.cells #[.int .i64 N.lvl,.slice A n c,.slice B m E] 193)) w.1.size [.pointer (some ⟨p,0,none⟩)]:=(RB.new w [.pointer (some ⟨p,0,none⟩)] 188).below (Ql) (by simp);have O:Below w.1.size w ((w.alloc (.cells #[.pointer (some ⟨p,0,none⟩)] 188)).alloc (.cells #[.int .i64 N.lvl,.slice A n c,.slice B m E] 193)):=(Ql).alloc (by simp) _;have c0:=G.c0;have c1:=G.c1;have c2:=G.c2;have hn:=J.hn;have hm:=J.hm;have Hk:=HI (λu (hu:Below w.1.size w u)=>qbr N U A n c B m E u (J.its.Y6 (Q9 hu)) (J.Bd u (Q9 hu)) (by omega) (by omega));have HP:=HI hP;clear hP;unfold Xw tv;go_enter func163,ntmps163
 go_wp2_with fail
 generalize ((w.alloc (.cells #[.pointer (some ⟨p,0,none⟩)] 188)).alloc (.cells #[.int .i64 N.lvl,.slice A n c,.slice B m E] 193))=w1 at G M O c0 c1 c2 ⊢;refine (Hk.out w1 O).mono ?_;rintro e w2 ⟨A2,I,k2,rfl,y,b2⟩;have a1:=Q8.len y (by omega);rw[AF] at a1;have B2:=O.trans (b2.mono O.size);have T2:=M.below b2 M.lt;have H2:=H.below B2;have t2:=ht.below B2 ht.1;have X2:Turn S w w2:=Q9 B2;have a5:I<=120:=by
  have h1:N.named.length<=N.kids.length+N.items.length:=by
   unfold Nd.named;rw[AD,AF];have:=List.length_filterMap_le Kz N.items;omega
  have:=J.ln;have:=J.lm;omega
 have z1:=G.lt;have X:∀k,q01 A2=some k->w.1.size<k:=λk W=>by have:=(y.Qc k W).1;have:=M.lt;have:=G.lt;omega
 clear c0 c1 c2 G M O b2 Hk B2;go_wp2_with fail
 go_loopw [12] (λi wr=>∃(j:Nat) (f:Pl),j<=I/\i=.int .i64 (j:Int)/\Vk (N.named.drop j) f=some P'/\Qg b wr d p S0 S T D f/\Tab wr/\Turn S w wr/\RB wr w.1.size [.pointer (some ⟨p,0,none⟩)]/\Q8 wr (w.1.size+1) 3 1 A2 I k2 (N.named.map iv)) (λi _=>I-(intOf i).toNat)
 case atStart=>exact⟨0,P,AW _,rfl,HP.out,H2,t2,X2,T2,y.less (by omega)⟩
 case round=>
  obtain⟨j,f,hj,rfl,Q,Hj,tj,Xj,Tj,F⟩:=hrel;have K:=HI Q;clear Q;by_cases a2:j<I
  ·obtain⟨g,o,hA,y0⟩:=qcj F a2;subst hA;have hd:=qkb (zs:=N.named) (j:=j) (by omega);obtain⟨z,hz⟩:∃z,N.named.getD j 0=z:=⟨_,rfl⟩;rw[hz] at y0 hd;have HD:=HI hd;clear hz hd;have q0:=Tj.cell 0 rfl;have hr:f.C.Y0 z=0/\Vk (N.named.drop (j+1)) ⟨f.S,f.C.ref z,f.L⟩=some P':=by
    have h:=K.out;rw[HD.out] at h;have h:(if f.C.Y0 z=0 then Vk (N.named.drop (j+1)) ⟨f.S,f.C.ref z,f.L⟩ else none)=some P':=h;split at h
    ·rename_i h0;exact⟨h0,h⟩
    ·cases h
   obtain⟨Y,Z⟩:=hr;have HR:=HI Z;have Hc:=qyo Hj hb tj z;rw[Y] at Hc;have Hc:=HI Hc;clear Z Y;go_wp2_with fail
   refine Hc.out.mono ?_;rintro e w3 ⟨rfl,H3,X3,t3⟩;have T3:=Tj.turned X3 (λh=>by have:=hS _ h;omega);have a0:=Q8.turned F X3 (λk W hs=>by have:=hS _ hs;have:=X k W;omega);have XX:=Xj.trans X3 λk W=>.inl W
   go_wp2;exact⟨⟨j+1,_,by omega,by go_num,HR.out,H3,t3,XX,T3,a0⟩,by simp[intOf];omega⟩
  ·have a4:j=I:=by omega
   have R:f=P':=by
    have h:=K.out;rw[List.drop_of_length_le (by omega)] at h;exact OI h
   subst R;have a3:¬(j:Int)<(I:Int):=by omega
   go_wp2;go_ret;exact⟨rfl,Hj,Xj,tj⟩
theorem qid (H:Qg b w d p S0 S T D P)(hb:1<b)(ht:Tab w)(N:Nd)(U:N.fit)(A:OA)(n c:Nat)(B:OA)(m E:Nat)(J:Je (Turn S w) N A n c B m E)(hP:Py N.named P=some P') :
  Calls prog 164 #[tv p,Xw N.lvl A n c B m E] w λe w'=>e=.returned (.int .i64 0)/\Qg b w' d p S0 S T D P'/\Turn S w w'/\Tab w':=by
 have hS:=H.low;have G:NB ((w.alloc (.cells #[.pointer (some ⟨p,0,none⟩)] 188)).alloc (.cells #[.int .i64 N.lvl,.slice A n c,.slice B m E] 193)) (w.1.size+1) N.lvl A n c B m E:=NB.new2 w _ _ _ _ _ _ _ _ _;have M:RB ((w.alloc (.cells #[.pointer (some ⟨p,0,none⟩)] 188)).alloc (.cells #[.int .i64 N.lvl,.slice A n c,.slice B m E] 193)) w.1.size [.pointer (some ⟨p,0,none⟩)]:=(RB.new w [.pointer (some ⟨p,0,none⟩)] 188).below (Ql) (by simp);have O:Below w.1.size w ((w.alloc (.cells #[.pointer (some ⟨p,0,none⟩)] 188)).alloc (.cells #[.int .i64 N.lvl,.slice A n c,.slice B m E] 193)):=(Ql).alloc (by simp) _;have c0:=G.c0;have c1:=G.c1;have c2:=G.c2;have hn:=J.hn;have hm:=J.hm;have Hk:=HI (λu (hu:Below w.1.size w u)=>qbr N U A n c B m E u (J.its.Y6 (Q9 hu)) (J.Bd u (Q9 hu)) (by omega) (by omega));have HP:=HI hP;clear hP;unfold Xw tv;go_enter func164,ntmps164
 go_wp2_with fail
 generalize ((w.alloc (.cells #[.pointer (some ⟨p,0,none⟩)] 188)).alloc (.cells #[.int .i64 N.lvl,.slice A n c,.slice B m E] 193))=w1 at G M O c0 c1 c2 ⊢;refine (Hk.out w1 O).mono ?_;rintro e w2 ⟨A2,I,k2,rfl,y,b2⟩;have a1:=Q8.len y (by omega);rw[AF] at a1;have B2:=O.trans (b2.mono O.size);have T2:=M.below b2 M.lt;have H2:=H.below B2;have t2:=ht.below B2 ht.1;have X2:Turn S w w2:=Q9 B2;have a5:I<=120:=by
  have h1:N.named.length<=N.kids.length+N.items.length:=by
   unfold Nd.named;rw[AD,AF];have:=List.length_filterMap_le Kz N.items;omega
  have:=J.ln;have:=J.lm;omega
 have z1:=G.lt;have X:∀k,q01 A2=some k->w.1.size<k:=λk W=>by have:=(y.Qc k W).1;have:=M.lt;have:=G.lt;omega
 clear c0 c1 c2 G M O b2 Hk B2;go_wp2_with fail
 go_loopw [13] (λi wr=>∃(j:Nat) (f:Pl),j<=I/\i=.int .i64 (j:Int)/\Py (N.named.drop j) f=some P'/\Qg b wr d p S0 S T D f/\Tab wr/\Turn S w wr/\RB wr w.1.size [.pointer (some ⟨p,0,none⟩)]/\Q8 wr (w.1.size+1) 3 1 A2 I k2 (N.named.map iv)) (λi _=>I-(intOf i).toNat)
 case atStart=>exact⟨0,P,AW _,rfl,HP.out,H2,t2,X2,T2,y.less (by omega)⟩
 case round=>
  obtain⟨j,f,hj,rfl,Q,Hj,tj,Xj,Tj,F⟩:=hrel;have K:=HI Q;clear Q;by_cases a2:j<I
  ·obtain⟨g,o,hA,y0⟩:=qcj F a2;subst hA;have hd:=qkb (zs:=N.named) (j:=j) (by omega);obtain⟨z,hz⟩:∃z,N.named.getD j 0=z:=⟨_,rfl⟩;rw[hz] at y0 hd;have HD:=HI hd;clear hz hd;have q0:=Tj.cell 0 rfl;have hr:f.C.Jp z=0/\Py (N.named.drop (j+1)) ⟨f.S,f.C.Qp z,f.L⟩=some P':=by
    have h:=K.out;rw[HD.out] at h;have h:(if f.C.Jp z=0 then Py (N.named.drop (j+1)) ⟨f.S,f.C.Qp z,f.L⟩ else none)=some P':=h;split at h
    ·rename_i h0;exact⟨h0,h⟩
    ·cases h
   obtain⟨Y,Z⟩:=hr;have HR:=HI Z;have Hc:=qka Hj hb tj z;rw[Y] at Hc;have Hc:=HI Hc;clear Z Y;go_wp2_with fail
   refine Hc.out.mono ?_;rintro e w3 ⟨rfl,H3,X3,t3⟩;have T3:=Tj.turned X3 (λh=>by have:=hS _ h;omega);have a0:=Q8.turned F X3 (λk W hs=>by have:=hS _ hs;have:=X k W;omega);have XX:=Xj.trans X3 λk W=>.inl W
   go_wp2;exact⟨⟨j+1,_,by omega,by go_num,HR.out,H3,t3,XX,T3,a0⟩,by simp[intOf];omega⟩
  ·have a4:j=I:=by omega
   have R:f=P':=by
    have h:=K.out;rw[List.drop_of_length_le (by omega)] at h;exact OI h
   subst R;have a3:¬(j:Int)<(I:Int):=by omega
   go_wp2;go_ret;exact⟨rfl,Hj,Xj,tj⟩
end
def D8 (s:Qr)(A:OA)(n c:Nat)(B:OA)(m d:Nat):LV:=Ja s.N.lvl A n c B m d s.addr (s.next:Int) s.held s.shared
def Vm (s:Qr)(A:OA)(n c:Nat)(B:OA)(m d:Nat):Value:=.agg #[.int .i64 s.N.lvl,.slice A n c,.slice B m d,.int .i64 s.addr,.int .i64 (s.next:Int),.bool s.held,.bool s.shared]
theorem qx3 {w w':WD}{S:NP}(E:∀k,S k->k<w.1.size){M:Nd}{I J:OA}{G c1 B K:Nat}(hn:G<=20)(hm:B<=20)(y:J6 w' w.1.size I G c1 M.items)(A:Q8 w' w.1.size 159 4 J B K (M.kids.map Qk.vs)):Je (Turn S w') M I G c1 J B K:=by
 have l1:=y.Y6.len;have l2:M.kids.length=B:=by have:=Q8.len A (by omega);rw[AF] at this;exact this
 have O:=y.Y6.bounds;have Q:=Q8.Um A (by omega);refine⟨?_,λu m=>Q8.Um (Q8.turned A m λk f g=>by have:=(Q8.Qc A k f).1;have:=E k g;omega) (by omega),l1,l2,⟨by omega,O.1,O.2⟩,⟨by omega,Q.cap,Q.max⟩⟩;have U:=y.Qc;obtain⟨H,h1,h2,R⟩:=y;refine⟨H,λu m=>(h1.turned m λk f g=>by have:=(U k f).1;have:=E k g;omega).Um (by omega),h2,λj r x X Z=>?_⟩;obtain⟨V,p,q,e,Y,F⟩:=R j r x X Z;exact⟨V,p,q,e,λu m=>Y.turned' m λW k f g=>by have:=(F W k f).1;have:=E k g;omega⟩
section
variable {b:Nat}{w w':WD}{d p:Nat}{S0 S T:NP}{D:DM}{P P':Pl}
theorem q5d (H:Qg b w d p S0 S T D P)(W:1<b)(J:Tab w)(s:Qr)(A:OA)(n c:Nat)(B:OA)(m E:Nat)(g:P.leave s=some P') :
  Calls prog 165 #[tv p,Vm s A n c B m E] w λe w'=>e=.returned (.int .i64 0)/\Qg b w' d p S0 S T D P'/\Turn S w w'/\Tab w':=by
 obtain⟨N,f,F,hd,G⟩:=s;have O:RB ((w.alloc (.cells #[.pointer (some ⟨p,0,none⟩)] 188)).alloc (.cells (Ja N.lvl A n c B m E f (F:Int) hd G).toArray 195)) w.1.size [.pointer (some ⟨p,0,none⟩)]:=(RB.new w [.pointer (some ⟨p,0,none⟩)] 188).below (Ql) (by simp);have K:RB ((w.alloc (.cells #[.pointer (some ⟨p,0,none⟩)] 188)).alloc (.cells (Ja N.lvl A n c B m E f (F:Int) hd G).toArray 195)) (w.1.size+1) (Ja N.lvl A n c B m E f (F:Int) hd G):=by
  have:=RB.new (w.alloc (.cells #[.pointer (some ⟨p,0,none⟩)] 188)) (Ja N.lvl A n c B m E f (F:Int) hd G) 195;rwa [BH] at this
 have u:Below w.1.size w ((w.alloc (.cells #[.pointer (some ⟨p,0,none⟩)] 188)).alloc (.cells (Ja N.lvl A n c B m E f (F:Int) hd G).toArray 195)):=(Ql).alloc (by simp) _;have Z:=O.cell 0 rfl;have y1:=K.cell 3 rfl;have y3:=K.cell 5 rfl;unfold Pl.leave at g;dsimp only at g;have y:=qka (H.below u) W (J.below u J.1) f;have M:=H.below u;have Q:=J.below u J.1;unfold tv Vm;dsimp only;unfold Ja at u y3 y1 Z y M Q;clear K O
 cases hd with
 |true=>
  obtain rfl:=OI g;clear y;go_enter func165,ntmps165
  go_wp2;go_ret;exact⟨rfl,M,Q9 u,Q⟩
 |false=>
  have I:P.C.Jp f=0/\⟨P.S,P.C.Qp f,P.L⟩=P':=by
   rw[AB Bool.false_ne_true] at g;split at g
   ·rename_i h;exact⟨h,OI g⟩
   ·cases g
  obtain⟨I,rfl⟩:=I;rw[I] at y;have y:=HI y;clear g I;go_enter func165,ntmps165
  go_wp2_with fail
  refine y.out.mono ?_;rintro e w2 ⟨rfl,R,U,Y⟩;go_wp2;go_ret;exact⟨rfl,R,(Q9 (S:=S) u).trans U λk X=>.inl X,Y⟩
theorem qg1 (H:Qg b w d p S0 S T D P)(ht:Tab w)(a0:∀a b,P.L a=some b->b.kindOk)(a:Int)(held:Bool)(hE:P.Qe D a=0) :
  Calls prog 139 #[tv p,.int .i64 a,.bool held] w λe w'=>∃A n c B m dd,e=.returned (.tuple #[Vm (P.spot D a held) A n c B m dd,.int .i64 0])/\Je (Turn (λk=>k<w.1.size) w') (P.Qd D a) A n c B m dd/\Below w.1.size w w':=by
 have R:RB ((w.alloc (.cells #[.pointer (some ⟨p,0,none⟩)] 188)).alloc (.cells #[.int .i64 0,.slice none 0 0,.slice none 0 0,.int .i64 0,.int .i64 0,.bool false,.bool false] 195)) w.1.size [.pointer (some ⟨p,0,none⟩)]:=(RB.new w [.pointer (some ⟨p,0,none⟩)] 188).below (Ql) (by simp);have X:RB ((w.alloc (.cells #[.pointer (some ⟨p,0,none⟩)] 188)).alloc (.cells #[.int .i64 0,.slice none 0 0,.slice none 0 0,.int .i64 0,.int .i64 0,.bool false,.bool false] 195)) (w.1.size+1) (Ja 0 none 0 0 none 0 0 0 0 false false):=by
  have:=RB.new (w.alloc (.cells #[.pointer (some ⟨p,0,none⟩)] 188)) (Ja 0 none 0 0 none 0 0 0 0 false false) 195;rwa [BH] at this
 have Y:Below w.1.size w ((w.alloc (.cells #[.pointer (some ⟨p,0,none⟩)] 188)).alloc (.cells #[.int .i64 0,.slice none 0 0,.slice none 0 0,.int .i64 0,.int .i64 0,.bool false,.bool false] 195)):=(Ql).alloc (by simp) _;have y0:=R.cell 0 rfl;have hS:=H.low;obtain⟨M,hM⟩:∃M,P.Qd D a=M:=⟨_,rfl⟩;obtain⟨x,hx⟩:∃x,P.C.get a=x:=⟨_,rfl⟩;have U:=λ(u:WD) (I:Below w.1.size w u)=>qa6 (H.below I).Az (H.below I).pool a0 (ht.below I ht.1) a
 rw[hM,hE] at U;have U:=HI U;have Hc:=HI (λ(u:WD) (I:Below w.1.size w u)=>q56 (H.below I).pool a x hx);obtain⟨r,hr⟩:∃r,decide (1<x)=r:=⟨_,rfl⟩;unfold Pl.spot;rw[hM,hx,hr];clear hx hM hE;unfold tv;go_enter func139,ntmps139
 go_wp2_with fail
 generalize ((w.alloc (.cells #[.pointer (some ⟨p,0,none⟩)] 188)).alloc (.cells #[.int .i64 0,.slice none 0 0,.slice none 0 0,.int .i64 0,.int .i64 0,.bool false,.bool false] 195))=w1 at R X Y y0 ⊢;refine (U.out w1 Y).mono ?_;rintro e f ⟨g,G,c1,y,F,E,rfl,a2,a1,hI,hK,Z⟩;have z1:=X.lt;have z0:=Y.size;have z2:=Z.size;have hq:Je (Turn (λk=>k<w1.1.size) f) M g G c1 y F E:=qx3 (λk O=>O) a2 a1 hI hK;have B2:=Y.trans (Z.mono Y.size);have J:Below f.1.size f (f.alloc (.cells #[.int .i64 M.lvl,.slice g G c1,.slice y F E] 108)):=Ql;have W:NB (f.alloc (.cells #[.int .i64 M.lvl,.slice g G c1,.slice y F E] 108)) f.1.size M.lvl g G c1 y F E:=NB.new f _ _ _ _ _ _ _ _;have T3:=(R.below Z R.lt).below J (by have:=R.lt;omega);have R3:=(X.below Z X.lt).below J (by omega);have B3:=B2.trans (J.mono B2.size);have fin:∀(u K:WD),Below f.1.size f u->Turn (λk=>k=w.1.size+1) u K->Je (Turn (λk=>k<w.1.size) K) M g G c1 y F E/\Below w.1.size w K:=λu K I T=>by
  have h1:=I.size;refine⟨hq.mono λv hv=>(((Q9 (S:=λk=>k<w1.1.size) I).trans T λk O=>.inl (by have:k=w.1.size+1:=O;show k<_;omega)).trans hv λk O=>.inl (by have:k<w.1.size:=O;show k<_;omega)),B2.trans ((I.mono B2.size).trans (T.below (λk O=>by have:k=w.1.size+1:=O;omega) (by omega)))⟩
 clear hI hK hq Z R X y0;go_wp2_with fail
 generalize f.alloc (.cells #[.int .i64 M.lvl,.slice g G c1,.slice y F E] 108)=Q at J W T3 R3 B3 ⊢;have zR:=R3.lt;have zN:=W.lt;have zT:=T3.lt;have zB:=B3.size;have bD:Below Q.1.size Q Q.drew:=(AI _ _).drew;have g0:∀u:Grown Q,u.to.cell? ⟨w.1.size,0,none⟩=some (.pointer (some ⟨p,0,none⟩)):=Grown.cell (T3.cell 0 rfl) zT;have g1:∀u:Grown Q,u.to.cell? ⟨f.1.size,0,none⟩=some (.int .i64 M.lvl):=Grown.cell W.c0 zN;have g2:∀u:Grown Q,u.to.cell? ⟨f.1.size,1,none⟩=some (.slice g G c1):=Grown.cell W.c1 zN;have g3:∀u:Grown Q,u.to.cell? ⟨f.1.size,2,none⟩=some (.slice y F E):=Grown.cell W.c2 zN;clear U
 cases held with
 |true=>
  go_wp2_with fail
  refine q25 13 (by kernel_rfl) (by kernel_rfl) ?_;simp only[List.take_succ_cons,List.take_zero,List.drop_succ_cons,List.drop_zero];repeat (go_big_quiet_step (first|fail))
  refine wpQuiet_nil ?_;rintro _ ⟨u,rfl⟩;have R4:=R3.below u.ok zR;go_wp2_with (first
   |(refine Nq rfl _ _ rfl (w.1.size+1) rfl M.lvl g G c1 y F E a 0 true true rfl R4 rfl ?_;intro K Rz Tz)
   |fail)
  refine bodyPost_ret (q16 Tryz.results139 rfl (q5c Rz)) rfl ?_;obtain⟨f1,f2⟩:=fin u.to K (J.trans (u.ok.mono J.size)) Tz;exact⟨g,G,c1,y,F,E,rfl,f1,f2⟩
 |false=>
  go_wp2_with fail
  refine q25 13 (by kernel_rfl) (by kernel_rfl) ?_;simp only[List.take_succ_cons,List.take_zero,List.drop_succ_cons,List.drop_zero];repeat (go_big_quiet_step (first|(go_at_call 104;exact Calls.J8 (Hc.out _ (B3.trans ((Grown.ok _).mono B3.size))))|fail))
  refine wpQuiet_nil ?_;rintro _ ⟨u,rfl⟩;have R4:=R3.below u.ok zR;go_wp2_with (first
   |(refine Nq rfl _ _ rfl (w.1.size+1) rfl M.lvl g G c1 y F E a 0 false r rfl R4 rfl ?_;intro K Rz Tz)
   |fail)
  refine bodyPost_ret (q16 Tryz.results139 rfl (q5c Rz)) rfl ?_;obtain⟨f1,f2⟩:=fin u.to K (J.trans (u.ok.mono J.size)) Tz;exact⟨g,G,c1,y,F,E,rfl,f1,f2⟩
end
