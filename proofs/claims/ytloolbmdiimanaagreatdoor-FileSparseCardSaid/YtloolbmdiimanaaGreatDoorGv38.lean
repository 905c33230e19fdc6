/- The code's edit: exchange of any way; Put and Delete -/
import Derived.Test.YtloolbmdiimanaaGreatDoorGv37
namespace Go.Proofs.YtloolbmdiimanaaGreatDoor
open Go Go.RowKit Go.Proofs Tryz
set_option maxHeartbeats 8000000
set_option maxRecDepth 100000
section
variable {b:Nat}{d p:Nat}{S0 S:NP}{D:DM}
theorem qb4 (W:1<b):∀(way:List Qr) {w:WD} {T:NP} {P P':Pl} (_:Qh b w d p S0 S T D P) (_:Tab w) (_:P.tidy) (s:Qr) (_:s.N.fit) (_:s.N.size<=12) (_:0<=s.N.lvl/\s.N.lvl<8) (_:Vw s way) (X:OA) (n c:Nat) (_:∀u,Turn S w u->Vo (Turn S w) u X n c (way.reverse++[s])) (_:n<=20)
  (f:Nd) (_:f.fit) (_:f.size<=7) (_:f.lvl=s.N.lvl) (m:OA) (G c2:Nat) (y:OA) (F E:Nat) (_:Je (Turn S w) f m G c2 y F E) (i j:Nat) (_:i<=j) (_:j<=s.N.size) {r:Option Int} (_:Yy D way P s i j f=some (P',r)),
  Calls prog 114 #[tv p,.slice X n c,.int .i64 (i:Int),.int .i64 (j:Int),Xx f.lvl m G c2 y F E] w (Gs b d p S0 S T D w P' r)
 |[],w,T,P,P',H,ht,hP,s,hfs,hss,hsl,hwf,X,n,c,hX,hn,f,hfc,hcs,hcl,m,G,c2,y,F,E,hB,i,j,hi,hj,r,hex=>by
  obtain⟨P1,hr,_⟩:=qkz hex;exact qd1 H W ht hP s [] hfs hss hsl X n c hX hn f hfc hcs hcl m G c2 y F E hB i j hi hj hex hr (HI hwf) (λt J e=>by cases e)
 |t::way,w,T,P,P',H,ht,hP,s,hfs,hss,hsl,hwf,X,n,c,hX,hn,f,hfc,hcs,hcl,m,G,c2,y,F,E,hB,i,j,hi,hj,r,hex=>by
  obtain⟨P1,x,P2,P3,r2,hr,_⟩:=qgp hex;refine qd1 H W ht hP s (t::way) hfs hss hsl X n c hX hn f hfc hcs hcl m G c2 y F E hB i j hi hj hex hr (HI hwf) (λt' J e=>?_);injection e with e1 e2;subst e1 e2;intro T2 w2 P3 H2 a0 R f2 s2 l2 a1 U g O M K A n' c' B m' d' Q i2 j2 Y Z I;exact qb4 W way H2 a0 R t f2 s2 l2 a1.out X (n-1) c U (by omega) g O M K A n' c' B m' d' Q i2 j2 Y Z I
end
theorem qiq {N:Nd}(g:N.fit)(h0:N.lvl=0)(k:Kd):N.Zo k<=N.size/\(Uf N.keys k (N.Zo k)=true->N.Zo k<N.size):=by
 have f:=g.1 h0;have e:N.Zo k=lead N.keys k:=AA h0;have m:N.keys.length=N.items.length:=by unfold Nd.keys;rw[f];simp
 have u:N.size=N.items.length:=by unfold Nd.size;rw[f];simp
 have h1:=qbl N.keys k;refine⟨by omega,λh=>?_⟩;unfold Uf at h;rw[BN] at h;have:=AK h.1;omega
theorem qir (s:Qr)(j:Nat)(up:List Qr):Vw { s with next:=j } up↔Vw s up:=by
 cases up with
 |nil=>exact Iff.rfl
 |cons t way=>exact Iff.rfl
theorem q5l:∀(up:List Qr) (s:Qr),s.N.lvl<8->Vw s up->s.N.lvl+(up.length:Int)<=7
 |[],s,h,_=>by simp;omega
 |t::way,s,h,hw=>by
  obtain⟨_,_,g,e,_,f⟩:=hw;have:=q5l way t e f;rw[AX];omega
structure Nk (up:List Qr)(s:Qr):Prop where
 fit:s.N.fit
 size:s.N.size<=12
 lvl:s.N.lvl=0
 way:Vw s up
theorem qgq {P:Pl}{D:DM}(hm:∀a,P.Qe D a=0->(P.Qd D a).may=true)(k:Kd):∀(f:Nat) (s:Qr) (up:List Qr) {e:List Qr} {g:Qr},s.N.may=true->Vw s up->P.Gp D k f s up=some (e,g)->Nk e g
 |0,s,up,e,g,hs,hw,h=>by
  have h:(if s.N.lvl<=0 then some (up,s) else none)=some (e,g):=h;have y:=q7t hs;split at h
  ·injection OI h with m u;subst m u;exact⟨Pe hs,q5u hs,by omega,hw⟩
  ·cases h
 |f+1,s,up,e,g,hs,hw,h=>by
  have h:(if s.N.lvl<=0 then some (up,s) else if P.Wj D s (s.N.Zo k)=true then P.Gp D k f (P.Jd D s (s.N.Zo k)) ({ s with next:=s.N.Zo k }::up) else none)=some (e,g):=h;have y:=q7t hs;split at h
  ·injection OI h with m u;subst m u;exact⟨Pe hs,q5u hs,by omega,hw⟩
  ·split at h
   ·rename_i A;obtain⟨E,B,F⟩:=AK A;refine qgq hm k f _ _ (hm _ B) ?_ h;refine⟨Pe hs,q5u hs,?_,y.2,?_,(qir s _ up).2 hw⟩
    ·show s.N.lvl=(P.Qd D (Qi s.N.kids (s.N.Zo k)).a).lvl+1;omega
    ·show s.N.Zo k+1<=s.N.size;unfold Nd.size;omega
   ·cases h
theorem qen {P:Pl}{D:DM}(hm:∀a,P.Qe D a=0->(P.Qd D a).may=true){root:Int}{k:Kd}{up:List Qr}{s:Qr}(h:P.way D root k=some (up,s)):Nk up s:=by
 unfold Pl.way at h;split at h
 ·injection OI h with e f;subst e f;exact⟨⟨λ_=>rfl,λh=>absurd rfl h⟩,by decide,rfl,trivial⟩
 ·split at h
  ·rename_i g;exact qgq hm k 8 _ [] (hm root g) trivial h
  ·cases h
theorem qeo {w:WD}{g o kc k q:Nat}{s:Qr}{A:OA}{n c:Nat}{B:OA}{m d:Nat}(E:w.rangeAt g (o+q*7) (Ea s A n c B m d))(M:g<w.1.size)(Q:k=q+1)(y:k<=1000) :
  Calls prog 113 #[.slice (some ⟨g,o,none⟩) k kc] w λe U=>e=.returned (Vm s A n c B m d)/\Below w.1.size w U:=by
 obtain⟨N,u,F,hd,G⟩:=s;have f:Below w.1.size w (w.alloc Ui):=Ql;have H:=Ii w;have cell:∀(j:Nat) v,(Ea ⟨N,u,F,hd,G⟩ A n c B m d)[j]?=some v->(w.alloc Ui).cell? ⟨g,o+q*7+j,none⟩=some v:=λj v R=>(f.cell (p:=⟨g,_,none⟩) M).trans (E j v R)
 have K:=cell 0 _ rfl;have W:=cell 1 _ rfl;have X:=cell 2 _ rfl;have Y:=cell 3 _ rfl;have Z:=cell 4 _ rfl;have f5:=cell 5 _ rfl;have f6:=cell 6 _ rfl;rw[Nat.add_zero] at K;have hw:IntKind.i64.wrap ((k:Int)-1)=(q:Int):=by
  have:(k:Int)-1=(q:Int):=by omega
  rw[this];exact IntWalk.i64_in _ (by omega)
 have hj:(0:Int)<=(q:Int):=by omega
 have O:(q:Int)<(k:Int):=by omega
 clear cell E Q;go_enter func113,ntmps113
 go_wp2_with (first
  |(refine Nz rfl _ _ rfl w.1.size rfl N.lvl A n c B m d u (F:Int) hd G rfl H rfl ?_;intro wz I J)
  |fail)
 refine bodyPost_ret (Oc Tryz.results113 rfl (q5g I)) rfl ?_;exact⟨rfl,f.trans (J.below (λk y=>by have:k=w.1.size:=y;omega) f.size)⟩
section
theorem qxj {S:NP}{w:WD}(y:∀k,S k->k<w.1.size)(k:Kd){V:OA}{q c:Nat}{v:LU}(A:∀u,Turn S w u->Sl u V q c v) :
  Je (Turn S (w.alloc (.cells #[.int .i64 k.obj,.int .i64 k.kind,.int .i64 k.off,.slice V q c] 84))) ⟨0,[⟨k,v⟩],[]⟩ (some ⟨w.1.size,0,none⟩) 1 1 none 0 0:=by
 have h0:Jy (w.alloc (.cells #[.int .i64 k.obj,.int .i64 k.kind,.int .i64 k.off,.slice V q c] 84)) 4 (some ⟨w.1.size,0,none⟩) 1 1 [Vg k V q c]:=(q1n w 84 4 (Vg k V q c) _ rfl rfl).Um (by omega);refine⟨⟨[Vg k V q c],λu f=>q5j h0 f (λg e B=>by injection e with e;have e:w.1.size=g:=e;have:=y g B;omega),rfl,λj r x m E=>?_⟩,λu f=>qao u 4,rfl,rfl,⟨by omega,by omega,by unfold maxLen;omega⟩,⟨by omega,by omega,by unfold maxLen;omega⟩⟩;match j with
 |0=>
  obtain rfl:=OI m;obtain rfl:=OI E;exact⟨V,q,c,rfl,λu f=>A u ((Zb (S:=S) (Ql)).then f)⟩
 |j+1=>simp at m
theorem qep (l:Int)(A:OA)(n c:Nat)(B:OA)(m d:Nat)(a x:Int)(h s:Bool)(w:WD):(Instr.field 195 (.agg #[.int .i64 l,.slice A n c,.slice B m d,.int .i64 a,.int .i64 x,.bool h,.bool s]) 0).run prog w=.ok (Xx l A n c B m d) w:=by
 kernel_rfl
theorem qb5 (l:Int)(A:OA)(n c:Nat)(B:OA)(m d:Nat)(w:WD):(Instr.field 193 (Xx l A n c B m d) 0).run prog w=.ok (Xx l A n c B m d) w:=by
 unfold Xx;kernel_rfl
def Qal (v:Value):Sem Value:=Instr.field 195 v 0
theorem qqs (v:Value):Instr.field 195 v 0=Qal v:=rfl
def Qak (v:Value):Sem Value:=Instr.field 193 v 0
theorem qqt (v:Value):Instr.field 193 v 0=Qak v:=rfl
attribute [local go_sem ↓] qqs
attribute [local go_sem ↓] qqt
section
variable {b:Nat}{w:WD}{d p:Nat}{S0 S T:NP}{D:DM}{P P':Pl}
theorem qul (H:Qh b w d p S0 S T D P)(hb:1<b)(ht:Tab w)(hP:P.tidy)(root:Int)(k:Kd)(V:OA)(q c:Nat)(v:LU)(hV:∀u,Turn S w u->Sl u V q c v)(hk:k.may=true)(hq:q<=28){r:Option Int}(hp:P.Ih D root ⟨k,v⟩=some (P',r)) :
  Calls prog 84 #[.pointer (some ⟨p,0,none⟩),.int .i64 root,.agg #[.int .i64 k.obj,.int .i64 k.kind,.int .i64 k.off],.slice V q c] w (Gs b d p S0 S T D w P' r):=by
 have hS:=H.low;obtain⟨up,s,hw,f⟩:∃up s,P.way D root k=some (up,s)/\Yy D up P s (s.N.Zo k) (s.N.Zo k+if Uf s.N.keys k (s.N.Zo k)=true then 1 else 0) ⟨0,[⟨k,v⟩],[]⟩=some (P',r):=by
  unfold Pl.Ih at hp;dsimp only at hp
  cases e:P.way D root k with
  |none=>rw[e] at hp;cases hp
  |some y=>rw[e] at hp;exact⟨y.1,y.2,rfl,hp⟩
 have hm:=λa h=>H.may a h
 obtain⟨lf,ls,U,lw⟩:=qen hm hw;have Hw:=λ(u:WD) (hu:Below w.1.size w u)=>q9d (H.below hu) (ht.below hu ht.1) hP.kind (qio hm) root k hw
 have a5:=q5l up s (by omega) lw;rw[U] at a5;have a5:up.length<=7:=by omega
 have Hm:=HI (λw=>q2m k true hk w);obtain⟨K1,b1⟩:=Y3 w k;have b8:¬((28:Int)<(q:Int)):=by omega
 unfold tv at Hw;replace Hw:=HI Hw;obtain⟨i,hi⟩:∃i,s.N.Zo k=i:=⟨_,rfl⟩;obtain⟨K,F⟩:=qiq lf U k;rw[hi] at f K F;clear hp hw;go_enter func84,ntmps84
 go_wp2_with fail
 generalize w.alloc (.cells #[.int .i64 k.obj,.int .i64 k.kind,.int .i64 k.off] 81)=w1 at K1 b1 ⊢;have c0:=K1.c0;have c1:=K1.c1;have c2:=K1.c2;go_wp2_with fail
 refine (Hm.out _).mono ?_;rintro e w2 ⟨rfl,b2⟩;clear c0 c1 c2;have K2:=K1.below b2 K1.lt;have bt:Below w2.1.size w2 (w2.alloc (.cells #[.pointer (some ⟨p,0,none⟩)] 188)):=Ql;have T3:=RB.new w2 [.pointer (some ⟨p,0,none⟩)] 188;have K3:=K2.below bt K2.lt;have b3:=b1.trans ((b2.trans (bt.mono b2.size)).mono b1.size);have c0:=K3.c0;have c1:=K3.c1;have c2:=K3.c2;go_wp2_with fail
 generalize (w2.alloc (.cells #[.pointer (some ⟨p,0,none⟩)] 188))=w3 at bt T3 K3 b3 c0 c1 c2 ⊢;refine (Hw.out w3 b3).mono ?_;rintro e w4 ⟨X,n,xc,rfl,G,a6,b4⟩;have I:=G.len;rw[AD,List.length_reverse] at I;have I:up.length+1=n:=I;obtain⟨g,o,A,an,ac,B,bm,bd,rfl,hg,R,m⟩:=G.get (show n-1<n by omega);have a9:Y1 (up.reverse++[s]) (n-1)=s:=by
  have:=q3r up.reverse s;rw[List.length_reverse] at this;rw[show n-1=up.length by omega];exact this
 rw[a9] at R m;have T4:=T3.below b4 T3.lt;have W:=K3.below b4 K3.lt;have c9:=m.hn;have b9:=m.hm;obtain⟨rf,a2⟩:∃rf,Uf s.N.keys k i=rf:=⟨_,rfl⟩;rw[a2] at f F;have HL:=HI (λu:Grown w4=>qeo (kc:=xc) (k:=n) (q:=n-1) (w:=u.to) (λj v hv=>(u.ok.cell (p:=⟨g,_,none⟩) hg).trans (R j v hv)) (by have:=u.ok.size;omega) (by omega) (by omega));have M:=HI (λu:Grown w4=>q3h s.N lf k i hi rf a2 A an ac B bm bd u.to (m.its.Y6 (Zb (S:=λk=>k<w3.1.size) (u.ok))) (m.Bg _ (Zb (S:=λk=>k<w3.1.size) (u.ok))) (by omega) (by omega));clear c0 c1 c2 hi a2;have c0:=λu:Grown w4=>Grown.cell W.c0 W.lt u
 have c1:=λu:Grown w4=>Grown.cell W.c1 W.lt u
 have c2:=λu:Grown w4=>Grown.cell W.c2 W.lt u
 obtain⟨sN,ad,nx,hd,sh⟩:=s;unfold Vm at HL;dsimp only at HL M f K F lf ls U lw;rw[U] at HL M;have a0:=λw=>qep 0 A an ac B bm bd ad (nx:Int) hd sh w
 have a1:=λw=>qb5 0 A an ac B bm bd w
 unfold Xx at a0 a1;replace U:=HI U;change ∀w,(Qal _).run _ w=_ at a0;change ∀w,(Qak _).run _ w=_ at a1;go_wp2_with fail
 refine Ug (by kernel_rfl) (by kernel_rfl) ?_;repeat (go_big_quiet_step (first|(go_at_call 113;exact Calls.grown (HL.out _))|(go_at_call 87;exact Calls.grown (M.out _))|fail))
 refine wpQuiet_nil ?_;rintro _ ⟨u,rfl⟩;have b5:=u.ok;generalize u.to=Y at b5 ⊢;clear c0 c1 c2 u HL M a0 a1;have O:=b3.trans ((b4.trans (b5.mono b4.size)).mono b3.size);have d0:=O.size;have b6:Below Y.1.size Y (Y.alloc (.cells #[.int .i64 k.obj,.int .i64 k.kind,.int .i64 k.off,.slice V q c] 84)):=Ql;have J:=qxj (S:=S) (w:=Y) (λk hk=>by have:=hS k hk;omega) k (λu hu=>hV u ((Zb (S:=S) O).then hu));have Q:=O.trans (b6.mono O.size);have a3:Below w4.1.size w4 (Y.alloc (.cells #[.int .i64 k.obj,.int .i64 k.kind,.int .i64 k.off,.slice V q c] 84)):=b5.trans (b6.mono b5.size);have z3:=b3.size;have Z:∀u,Turn S (Y.alloc (.cells #[.int .i64 k.obj,.int .i64 k.kind,.int .i64 k.off,.slice V q c] 84)) u->Vo (Turn S (Y.alloc (.cells #[.int .i64 k.obj,.int .i64 k.kind,.int .i64 k.off,.slice V q c] 84))) u (some ⟨g,o,none⟩) n xc (up.reverse++[⟨sN,ad,nx,hd,sh⟩]):=λu hu=>
  ((G.below a3).turned hu λg' a7 h=>by have:=hS g' h;have:=a6 g' a7;omega).mono λv hv=>(Zb (S:=λk=>k<w3.1.size) a3).trans hv λk hk=>.inl (by have:=hS k hk;show k<w3.1.size;omega)
 have E:=λ(j:Nat) (a8:i<=j) (hj:j<=sN.size) (he:Yy D up P ⟨sN,ad,nx,hd,sh⟩ i j ⟨0,[⟨k,v⟩],[]⟩=some (P',r))=>qb4 hb up (H.below Q) (ht.below Q ht.1) hP ⟨sN,ad,nx,hd,sh⟩ lf ls ⟨by rw[U.out];omega,by rw[U.out];omega⟩ lw (some ⟨g,o,none⟩) n xc Z (by omega) ⟨0,[⟨k,v⟩],[]⟩ ⟨λ_=>rfl,λh=>absurd rfl h⟩ (by unfold Nd.size;simp) U.out.symm (some ⟨Y.1.size,0,none⟩) 1 1 none 0 0 J i j a8 hj he
 unfold tv Xx at E;dsimp only at E;have K5:=W.below b5 W.lt;have T5:=T4.below b5 T4.lt;have y0:=T5.cell 0 rfl;have c0:=K5.c0;have c1:=K5.c1;have c2:=K5.c2;have b7:i<=12:=by have:sN.size<=12:=ls;omega
 cases rf with
 |false=>
  have Hx:=HI (E i (AE _) K f);clear E f K F Z J G R m;go_wp2_with fail
  refine Hx.out.mono ?_;rintro e w7 ⟨z,rfl,hz,H7,X7,t7,p7⟩;have TF:=(Zb (S:=S) Q).then X7;go_wp2_with fail
  go_ret2;exact⟨z,rfl,hz,H7,TF,t7,p7⟩
 |true=>
  have b0:IntKind.i64.wrap ((i:Int)+1)=((i+1:Nat):Int):=by rw[show (i:Int)+1=((i+1:Nat):Int) by omega];exact IntWalk.i64_in _ (by omega)
  have Hx:=E (i+1) (Nat.le_succ _) (F rfl) f;obtain⟨i1,a4⟩:∃i1,i+1=i1:=⟨_,rfl⟩;rw[a4] at b0 Hx;replace Hx:=HI Hx;clear E f K F Z J G R m a4;go_wp2_with fail
  refine Hx.out.mono ?_;rintro e w7 ⟨z,rfl,hz,H7,X7,t7,p7⟩;have TF:=(Zb (S:=S) Q).then X7;go_wp2_with fail
  go_ret2;exact⟨z,rfl,hz,H7,TF,t7,p7⟩
theorem qqu (H:Qh b w d p S0 S T D P)(_:1<b)(ht:Tab w)(hP:P.tidy)(root:Int)(k:Kd){up:List Qr}{s:Qr}(hw:P.way D root k=some (up,s))(G:Uf s.N.keys k (s.N.Zo k)=false) :
  Calls prog 109 #[.pointer (some ⟨p,0,none⟩),.int .i64 root,.agg #[.int .i64 k.obj,.int .i64 k.kind,.int .i64 k.off]] w λe w'=>e=.returned (.tuple #[.int .i64 0,.int .i64 10])/\Below w.1.size w w':=by
 have hS:=H.low;have hm:=λa h=>H.may a h
 obtain⟨lf,ls,M,lw⟩:=qen hm hw;have Z:=λ(u:WD) (hu:Below w.1.size w u)=>q9d (H.below hu) (ht.below hu ht.1) hP.kind (qio hm) root k hw
 have U:=q5l up s (by omega) lw;rw[M] at U;have U:up.length<=7:=by omega
 obtain⟨K1,b1⟩:=Y3 w k;unfold tv at Z;replace Z:=HI Z;obtain⟨i,hi⟩:∃i,s.N.Zo k=i:=⟨_,rfl⟩;obtain⟨W,I⟩:=qiq lf M k;rw[hi] at W I G;have a2:=I;clear hw;go_enter func109,ntmps109
 go_wp2_with fail
 have bt:Below (w.alloc (.cells #[.int .i64 k.obj,.int .i64 k.kind,.int .i64 k.off] 81)).1.size (w.alloc (.cells #[.int .i64 k.obj,.int .i64 k.kind,.int .i64 k.off] 81)) ((w.alloc (.cells #[.int .i64 k.obj,.int .i64 k.kind,.int .i64 k.off] 81)).alloc (.cells #[.pointer (some ⟨p,0,none⟩)] 188)):=Ql;have T3:=RB.new (w.alloc (.cells #[.int .i64 k.obj,.int .i64 k.kind,.int .i64 k.off] 81)) [.pointer (some ⟨p,0,none⟩)] 188;rw[BH] at T3;have J:=K1.below bt K1.lt;have b3:=b1.trans (bt.mono b1.size);have c0:=J.c0;have c1:=J.c1;have c2:=J.c2;go_wp2_with fail
 generalize ((w.alloc (.cells #[.int .i64 k.obj,.int .i64 k.kind,.int .i64 k.off] 81)).alloc (.cells #[.pointer (some ⟨p,0,none⟩)] 188))=w3 at T3 J b3 c0 c1 c2 ⊢;refine (Z.out w3 b3).mono ?_;rintro e Y ⟨X,n,xc,rfl,Q,a3,b4⟩;have m:=Q.len;rw[AD,List.length_reverse] at m;have m:up.length+1=n:=m;obtain⟨g,o,A,an,ac,B,bm,bd,rfl,hg,R,f⟩:=Q.get (show n-1<n by omega);have a1:Y1 (up.reverse++[s]) (n-1)=s:=by
  have:=q3r up.reverse s;rw[List.length_reverse] at this;rw[show n-1=up.length by omega];exact this
 rw[a1] at R f;have T4:=T3.below b4 T3.lt;have K:=J.below b4 J.lt;have a5:=f.hn;have a4:=f.hm;have O:=HI (λu:Grown Y=>qeo (kc:=xc) (k:=n) (q:=n-1) (w:=u.to) (λj v hv=>(u.ok.cell (p:=⟨g,_,none⟩) hg).trans (R j v hv)) (by have:=u.ok.size;omega) (by omega) (by omega));have y:=HI (λu:Grown Y=>q3h s.N lf k i hi false G A an ac B bm bd u.to (f.its.Y6 (Zb (S:=λk=>k<w3.1.size) (u.ok))) (f.Bg _ (Zb (S:=λk=>k<w3.1.size) (u.ok))) (by omega) (by omega));clear c0 c1 c2 hi G bt K1;have c0:=λu:Grown Y=>Grown.cell K.c0 K.lt u
 have c1:=λu:Grown Y=>Grown.cell K.c1 K.lt u
 have c2:=λu:Grown Y=>Grown.cell K.c2 K.lt u
 obtain⟨sN,ad,nx,hd,sh⟩:=s;unfold Vm at O;dsimp only at O y W I a2 lf ls M lw;rw[M] at O y;have E:=λw=>qep 0 A an ac B bm bd ad (nx:Int) hd sh w
 have F:=λw=>qb5 0 A an ac B bm bd w
 unfold Xx at E F;replace M:=HI M;change ∀w,(Qal _).run _ w=_ at E;change ∀w,(Qak _).run _ w=_ at F;go_wp2_with fail
 refine Ug (by kernel_rfl) (by kernel_rfl) ?_;repeat (go_big_quiet_step (first|(go_at_call 113;exact Calls.grown (O.out _))|(go_at_call 87;exact Calls.grown (y.out _))|fail))
 refine wpQuiet_nil ?_;rintro _ ⟨u,rfl⟩;have b5:=u.ok;generalize u.to=w5 at b5 ⊢;clear c0 c1 c2 u O y E F;have a0:=b3.trans ((b4.trans (b5.mono b4.size)).mono b3.size);go_wp2_with fail
 go_ret2;exact⟨rfl,a0⟩
theorem qum (H:Qh b w d p S0 S T D P)(hb:1<b)(ht:Tab w)(hP:P.tidy)(root:Int)(k:Kd){up:List Qr}{s:Qr}(hw:P.way D root k=some (up,s))(J:Uf s.N.keys k (s.N.Zo k)=true){r:Option Int}(hp:P.Fz D root k=some (P',r)) :
  Calls prog 109 #[.pointer (some ⟨p,0,none⟩),.int .i64 root,.agg #[.int .i64 k.obj,.int .i64 k.kind,.int .i64 k.off]] w (Gs b d p S0 S T D w P' r):=by
 have I:Yy D up P s (s.N.Zo k) (s.N.Zo k+1) ⟨0,[],[]⟩=some (P',r):=by
  unfold Pl.Fz at hp;rw[hw] at hp;exact hp
 have hS:=H.low;have hm:=λa h=>H.may a h
 obtain⟨lf,ls,K,lw⟩:=qen hm hw;have Hw:=λ(u:WD) (hu:Below w.1.size w u)=>q9d (H.below hu) (ht.below hu ht.1) hP.kind (qio hm) root k hw
 have a2:=q5l up s (by omega) lw;rw[K] at a2;have a2:up.length<=7:=by omega
 obtain⟨K1,b1⟩:=Y3 w k;unfold tv at Hw;replace Hw:=HI Hw;obtain⟨i,hi⟩:∃i,s.N.Zo k=i:=⟨_,rfl⟩;obtain⟨W,M⟩:=qiq lf K k;rw[hi] at I W M J;have Y:=M J;clear hw;go_enter func109,ntmps109
 go_wp2_with fail
 have bt:Below (w.alloc (.cells #[.int .i64 k.obj,.int .i64 k.kind,.int .i64 k.off] 81)).1.size (w.alloc (.cells #[.int .i64 k.obj,.int .i64 k.kind,.int .i64 k.off] 81)) ((w.alloc (.cells #[.int .i64 k.obj,.int .i64 k.kind,.int .i64 k.off] 81)).alloc (.cells #[.pointer (some ⟨p,0,none⟩)] 188)):=Ql;have T3:=RB.new (w.alloc (.cells #[.int .i64 k.obj,.int .i64 k.kind,.int .i64 k.off] 81)) [.pointer (some ⟨p,0,none⟩)] 188;rw[BH] at T3;have Z:=K1.below bt K1.lt;have b3:=b1.trans (bt.mono b1.size);have c0:=Z.c0;have c1:=Z.c1;have c2:=Z.c2;go_wp2_with fail
 generalize ((w.alloc (.cells #[.int .i64 k.obj,.int .i64 k.kind,.int .i64 k.off] 81)).alloc (.cells #[.pointer (some ⟨p,0,none⟩)] 188))=w3 at T3 Z b3 c0 c1 c2 ⊢;refine (Hw.out w3 b3).mono ?_;rintro e w4 ⟨X,n,xc,rfl,G,a3,b4⟩;have y:=G.len;rw[AD,List.length_reverse] at y;have y:up.length+1=n:=y;obtain⟨g,o,A,an,ac,B,bm,bd,rfl,hg,U,f⟩:=G.get (show n-1<n by omega);have a5:Y1 (up.reverse++[s]) (n-1)=s:=by
  have:=q3r up.reverse s;rw[List.length_reverse] at this;rw[show n-1=up.length by omega];exact this
 rw[a5] at U f;have T4:=T3.below b4 T3.lt;have O:=Z.below b4 Z.lt;have a9:=f.hn;have a8:=f.hm;have HL:=HI (λu:Grown w4=>qeo (kc:=xc) (k:=n) (q:=n-1) (w:=u.to) (λj v hv=>(u.ok.cell (p:=⟨g,_,none⟩) hg).trans (U j v hv)) (by have:=u.ok.size;omega) (by omega) (by omega));have E:=HI (λu:Grown w4=>q3h s.N lf k i hi true J A an ac B bm bd u.to (f.its.Y6 (Zb (S:=λk=>k<w3.1.size) (u.ok))) (f.Bg _ (Zb (S:=λk=>k<w3.1.size) (u.ok))) (by omega) (by omega));clear c0 c1 c2 hi J bt K1;have c0:=λu:Grown w4=>Grown.cell O.c0 O.lt u
 have c1:=λu:Grown w4=>Grown.cell O.c1 O.lt u
 have c2:=λu:Grown w4=>Grown.cell O.c2 O.lt u
 obtain⟨sN,ad,nx,hd,sh⟩:=s;unfold Vm at HL;dsimp only at HL E I W M Y lf ls K lw;rw[K] at HL E;have Q:=λw=>qep 0 A an ac B bm bd ad (nx:Int) hd sh w
 have R:=λw=>qb5 0 A an ac B bm bd w
 unfold Xx at Q R;replace K:=HI K;change ∀w,(Qal _).run _ w=_ at Q;change ∀w,(Qak _).run _ w=_ at R;go_wp2_with fail
 refine Ug (by kernel_rfl) (by kernel_rfl) ?_;repeat (go_big_quiet_step (first|(go_at_call 113;exact Calls.grown (HL.out _))|(go_at_call 87;exact Calls.grown (E.out _))|fail))
 refine wpQuiet_nil ?_;rintro _ ⟨u,rfl⟩;have b5:=u.ok;generalize u.to=w5 at b5 ⊢;clear c0 c1 c2 u HL E Q R;have F:=b3.trans ((b4.trans (b5.mono b4.size)).mono b3.size);have b0:=F.size;have z3:=b3.size;have a0:∀u,Turn S w5 u->Vo (Turn S w5) u (some ⟨g,o,none⟩) n xc (up.reverse++[⟨sN,ad,nx,hd,sh⟩]):=λu hu=>
  ((G.below b5).turned hu λg' a4 h=>by have:=hS g' h;have:=a3 g' a4;omega).mono λv hv=>(Zb (S:=λk=>k<w3.1.size) b5).trans hv λk hk=>.inl (by have:=hS k hk;show k<w3.1.size;omega)
 have m:=qb4 hb up (H.below F) (ht.below F ht.1) hP ⟨sN,ad,nx,hd,sh⟩ lf ls ⟨by rw[K.out];omega,by rw[K.out];omega⟩ lw (some ⟨g,o,none⟩) n xc a0 (by omega) ⟨0,[],[]⟩ ⟨λ_=>rfl,λh=>absurd rfl h⟩ (by unfold Nd.size;simp) K.out.symm none 0 0 none 0 0 (qpy _ 0) i (i+1) (Nat.le_succ _) Y I;unfold tv Xx at m;dsimp only at m;have K5:=O.below b5 O.lt;have T5:=T4.below b5 T4.lt;have y0:=T5.cell 0 rfl;have a7:i<=12:=by have:sN.size<=12:=ls;omega
 have a6:IntKind.i64.wrap ((i:Int)+1)=((i+1:Nat):Int):=by rw[show (i:Int)+1=((i+1:Nat):Int) by omega];exact IntWalk.i64_in _ (by omega)
 obtain⟨i1,a1⟩:∃i1,i+1=i1:=⟨_,rfl⟩;rw[a1] at a6 m;have Hx:=HI m;clear m I W M Y a0 G U f a1;go_wp2_with fail
 refine Hx.out.mono ?_;rintro e w7 ⟨z,rfl,hz,H7,X7,t7,p7⟩;have TF:=(Zb (S:=S) F).then X7;go_wp2_with fail
 go_ret2;exact⟨z,rfl,hz,H7,TF,t7,p7⟩
end
end
