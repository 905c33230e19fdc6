/- The code's edit: exchange of any way; Put and Delete -/
import Derived.Test.YthkfkhejjmhomaaGreatDoorDb35
namespace Go.Proofs.YthkfkhejjmhomaaGreatDoor
open Go Go.RowKit Go.Proofs
set_option maxHeartbeats 8000000
set_option maxRecDepth 100000
section
variable {b:Nat}{d p:Nat}{S0 S:Nat->Prop}{D:DM}
theorem qan (Y:1<b):∀(way:List Qs) {w:World} {T:Nat->Prop} {P P':Pl} (_:Qg b w d p S0 S T D P) (_:Tab w) (_:P.tidy) (s:Qs) (_:s.N.fit) (_:s.N.size<=12) (_:0<=s.N.lvl/\s.N.lvl<8) (_:Vq s way) (X:Option Addr) (n c:Nat) (_:∀u,Turn S w u->Ve (Turn S w) u X n c (way.reverse++[s])) (_:n<=20)
  (f:Nd) (_:f.fit) (_:f.size<=7) (_:f.lvl=s.N.lvl) (y:Option Addr) (I c2:Nat) (E:Option Addr) (G F:Nat) (_:Jf (Turn S w) f y I c2 E G F) (i j:Nat) (_:i<=j) (_:j<=s.N.size) {r:Option Int} (_:Y8 D way P s i j f=some (P',r)),
  Calls Tryz.prog 110 #[tv p,.slice X n c,.int .i64 (i:Int),.int .i64 (j:Int),Xw f.lvl y I c2 E G F] w (Gy b d p S0 S T D w P' r)
 |[],w,T,P,P',H,ht,hP,s,hfs,hss,hsl,hwf,X,n,c,hX,hn,f,hfc,hcs,hcl,y,I,c2,E,G,F,hB,i,j,hi,hj,r,hex=>by
  obtain⟨P1,hr,_⟩:=qjx hex;exact qc6 H Y ht hP s [] hfs hss hsl X n c hX hn f hfc hcs hcl y I c2 E G F hB i j hi hj hex hr (Lib.hid hwf) (λt K e=>by cases e)
 |t::way,w,T,P,P',H,ht,hP,s,hfs,hss,hsl,hwf,X,n,c,hX,hn,f,hfc,hcs,hcl,y,I,c2,E,G,F,hB,i,j,hi,hj,r,hex=>by
  obtain⟨P1,x,P2,P3,r2,hr,_⟩:=qfs hex;refine qc6 H Y ht hP s (t::way) hfs hss hsl X n c hX hn f hfc hcs hcl y I c2 E G F hB i j hi hj hex hr (Lib.hid hwf) (λt' K e=>?_);injection e with e1 e2;subst e1 e2;intro T2 w2 P3 H2 a2 U f2 s2 l2 a6 W m Q O M A n' c' B m' d' R i2 j2 Z a1 J;exact qan Y way H2 a2 U t f2 s2 l2 a6.out X (n-1) c W (by omega) m Q O M A n' c' B m' d' R i2 j2 Z a1 J
end
theorem qqb {N:Nd}(m:N.fit)(h0:N.lvl=0)(k:Kd):N.Zc k<=N.size/\(Vd N.keys k (N.Zc k)=true->N.Zc k<N.size):=by
 have f:=m.1 h0;have e:N.Zc k=lead N.keys k:=if_pos h0;have u:N.keys.length=N.items.length:=by unfold Nd.keys;rw[f];simp
 have y:N.size=N.items.length:=by unfold Nd.size;rw[f];simp
 have h1:=qb2 N.keys k;refine⟨by omega,λh=>?_⟩;unfold Vd at h;rw[Bool.and_eq_true] at h;have:=of_decide_eq_true h.1;omega
theorem qi0 (s:Qs)(j:Nat)(up:List Qs):Vq { s with next:=j } up↔Vq s up:=by
 cases up with
 |nil=>exact Iff.rfl
 |cons t way=>exact Iff.rfl
theorem q7k:∀(up:List Qs) (s:Qs),s.N.lvl<8->Vq s up->s.N.lvl+(up.length:Int)<=7
 |[],s,h,_=>by simp;omega
 |t::way,s,h,hw=>by
  obtain⟨_,_,m,e,_,f⟩:=hw;have:=q7k way t e f;rw[List.length_cons];omega
structure Nj (up:List Qs)(s:Qs):Prop where
 fit:s.N.fit
 size:s.N.size<=12
 lvl:s.N.lvl=0
 way:Vq s up
theorem qft {P:Pl}{D:DM}(hm:∀a,P.Qi D a=0->(P.Qd D a).may=true)(k:Kd):∀(f:Nat) (s:Qs) (up:List Qs) {e:List Qs} {m:Qs},s.N.may=true->Vq s up->P.Gw D k f s up=some (e,m)->Nj e m
 |0,s,up,e,m,hs,hw,h=>by
  have h:(if s.N.lvl<=0 then some (up,s) else none)=some (e,m):=h;have A:=q7d hs;split at h
  ·injection Option.some.inj h with u y;subst u y;exact⟨Me hs,q5i hs,by omega,hw⟩
  ·cases h
 |f+1,s,up,e,m,hs,hw,h=>by
  have h:(if s.N.lvl<=0 then some (up,s) else if P.Wi D s (s.N.Zc k)=true then P.Gw D k f (P.Je D s (s.N.Zc k)) ({ s with next:=s.N.Zc k }::up) else none)=some (e,m):=h;have A:=q7d hs;split at h
  ·injection Option.some.inj h with u y;subst u y;exact⟨Me hs,q5i hs,by omega,hw⟩
  ·split at h
   ·rename_i B;obtain⟨F,E,G⟩:=of_decide_eq_true B;refine qft hm k f _ _ (hm _ E) ?_ h;refine⟨Me hs,q5i hs,?_,A.2,?_,(qi0 s _ up).2 hw⟩
    ·show s.N.lvl=(P.Qd D (Qe s.N.kids (s.N.Zc k)).a).lvl+1;omega
    ·show s.N.Zc k+1<=s.N.size;unfold Nd.size;omega
   ·cases h
theorem qjy {P:Pl}{D:DM}(hm:∀a,P.Qi D a=0->(P.Qd D a).may=true){root:Int}{k:Kd}{up:List Qs}{s:Qs}(h:P.way D root k=some (up,s)):Nj up s:=by
 unfold Pl.way at h;split at h
 ·injection Option.some.inj h with e f;subst e f;exact⟨⟨λ_=>rfl,λh=>absurd rfl h⟩,by decide,rfl,trivial⟩
 ·split at h
  ·rename_i m;exact qft hm k 8 _ [] (hm root m) trivial h
  ·cases h
theorem qjz {w:World}{g o kc k q:Nat}{s:Qs}{A:Option Addr}{n c:Nat}{B:Option Addr}{m d:Nat}(E:w.rangeAt g (o+q*7) (Eb s A n c B m d))(M:g<w.1.size)(Q:k=q+1)(y:k<=1000) :
  Calls Tryz.prog 109 #[.slice (some ⟨g,o,none⟩) k kc] w λe U=>e=.returned (Vf s A n c B m d)/\Below w.1.size w U:=by
 obtain⟨N,u,F,hd,G⟩:=s;have f:Below w.1.size w (w.alloc Ud):=Qk;have H:=F9 w;have cell:∀(j:Nat) v,(Eb ⟨N,u,F,hd,G⟩ A n c B m d)[j]?=some v->(w.alloc Ud).cell? ⟨g,o+q*7+j,none⟩=some v:=λj v R=>(f.cell (p:=⟨g,_,none⟩) M).trans (E j v R)
 have K:=cell 0 _ rfl;have W:=cell 1 _ rfl;have X:=cell 2 _ rfl;have Y:=cell 3 _ rfl;have Z:=cell 4 _ rfl;have f5:=cell 5 _ rfl;have f6:=cell 6 _ rfl;rw[Nat.add_zero] at K;have hw:IntKind.i64.wrap ((k:Int)-1)=(q:Int):=by
  have:(k:Int)-1=(q:Int):=by omega
  rw[this];exact IntWalk.i64_in _ (by omega)
 have hj:(0:Int)<=(q:Int):=by omega
 have O:(q:Int)<(k:Int):=by omega
 clear cell E Q;go_enter Tryz.func109,Tryz.ntmps109
 go_wp2_with (first
  |(refine Nw rfl _ _ rfl w.1.size rfl N.lvl A n c B m d u (F:Int) hd G rfl H rfl ?_;intro wz I J)
  |fail)
 refine bodyPost_ret (Ny Tryz.results109 rfl (q56 I)) rfl ?_;exact⟨rfl,f.trans (J.below (λk y=>by have:k=w.1.size:=y;omega) f.size)⟩
section
theorem qxt {S:Nat->Prop}{w:World}(y:∀k,S k->k<w.1.size)(k:Kd){V:Option Addr}{q c:Nat}{v:List UInt8}(A:∀u,Turn S w u->Sl u V q c v) :
  Jf (Turn S (w.alloc (.cells #[.int .i64 k.obj,.int .i64 k.kind,.int .i64 k.off,.slice V q c] 50))) ⟨0,[⟨k,v⟩],[]⟩ (some ⟨w.1.size,0,none⟩) 1 1 none 0 0:=by
 have h0:Jq (w.alloc (.cells #[.int .i64 k.obj,.int .i64 k.kind,.int .i64 k.off,.slice V q c] 50)) 4 (some ⟨w.1.size,0,none⟩) 1 1 [Vm k V q c]:=(q1i w 50 4 (Vm k V q c) _ rfl rfl).Uo (by omega);refine⟨⟨[Vm k V q c],λu f=>q58 h0 f (λg e B=>by injection e with e;have e:w.1.size=g:=e;have:=y g B;omega),rfl,λj r x m E=>?_⟩,λu f=>qa8 u 4,rfl,rfl,⟨by omega,by omega,by unfold maxLen;omega⟩,⟨by omega,by omega,by unfold maxLen;omega⟩⟩;match j with
 |0=>
  obtain rfl:=Option.some.inj m;obtain rfl:=Option.some.inj E;exact⟨V,q,c,rfl,λu f=>A u ((Qx (S:=S) (Qk)).then f)⟩
 |j+1=>simp at m
theorem qk0 (l:Int)(A:Option Addr)(n c:Nat)(B:Option Addr)(m d:Nat)(a x:Int)(h s:Bool)(w:World):(Instr.field 180 (.agg #[.int .i64 l,.slice A n c,.slice B m d,.int .i64 a,.int .i64 x,.bool h,.bool s]) 0).run Tryz.prog w=.ok (Xw l A n c B m d) w:=by
 kernel_rfl
theorem qfu (l:Int)(A:Option Addr)(n c:Nat)(B:Option Addr)(m d:Nat)(w:World):(Instr.field 178 (Xw l A n c B m d) 0).run Tryz.prog w=.ok (Xw l A n c B m d) w:=by
 unfold Xw;kernel_rfl
def Qbb (v:Value):Sem Value:=Instr.field 180 v 0
theorem qqc (v:Value):Instr.field 180 v 0=Qbb v:=rfl
def Qba (v:Value):Sem Value:=Instr.field 178 v 0
theorem qqd (v:Value):Instr.field 178 v 0=Qba v:=rfl
attribute [local go_sem ↓] qqc
attribute [local go_sem ↓] qqd
section
variable {b:Nat}{w:World}{d p:Nat}{S0 S T:Nat->Prop}{D:DM}{P P':Pl}
theorem quh (H:Qg b w d p S0 S T D P)(hb:1<b)(ht:Tab w)(hP:P.tidy)(root:Int)(k:Kd)(V:Option Addr)(q c:Nat)(v:List UInt8)(hV:∀u,Turn S w u->Sl u V q c v)(hk:k.may=true)(hq:q<=28){r:Option Int}(hp:P.Et D root ⟨k,v⟩=some (P',r)) :
  Calls Tryz.prog 64 #[.pointer (some ⟨p,0,none⟩),.int .i64 root,.agg #[.int .i64 k.obj,.int .i64 k.kind,.int .i64 k.off],.slice V q c] w (Gy b d p S0 S T D w P' r):=by
 have hS:=H.low;obtain⟨up,s,hw,f⟩:∃up s,P.way D root k=some (up,s)/\Y8 D up P s (s.N.Zc k) (s.N.Zc k+if Vd s.N.keys k (s.N.Zc k)=true then 1 else 0) ⟨0,[⟨k,v⟩],[]⟩=some (P',r):=by
  unfold Pl.Et at hp;dsimp only at hp
  cases e:P.way D root k with
  |none=>rw[e] at hp;cases hp
  |some y=>rw[e] at hp;exact⟨y.1,y.2,rfl,hp⟩
 have hm:=λa h=>H.may a h
 obtain⟨lf,ls,U,lw⟩:=qjy hm hw;have Hw:=λ(u:World) (hu:Below w.1.size w u)=>qdx (H.below hu) (ht.below hu ht.1) hP.kind (qq6 hm) root k hw
 have b0:=q7k up s (by omega) lw;rw[U] at b0;have b0:up.length<=7:=by omega
 have Hm:=Lib.hid (λw=>q2d k true hk w);obtain⟨K1,b1⟩:=Y1 w k;have c9:¬((28:Int)<(q:Int)):=by omega
 unfold tv at Hw;replace Hw:=Lib.hid Hw;obtain⟨i,hi⟩:∃i,s.N.Zc k=i:=⟨_,rfl⟩;obtain⟨K,F⟩:=qqb lf U k;rw[hi] at f K F;clear hp hw;go_enter Tryz.func64,Tryz.ntmps64
 go_wp2_with fail
 generalize w.alloc (.cells #[.int .i64 k.obj,.int .i64 k.kind,.int .i64 k.off] 45)=w1 at K1 b1 ⊢;have c0:=K1.c0;have c1:=K1.c1;have c2:=K1.c2;go_wp2_with fail
 refine (Hm.out _).mono ?_;rintro e w2 ⟨rfl,b2⟩;clear c0 c1 c2;have K2:=K1.below b2 K1.lt;have bt:Below w2.1.size w2 (w2.alloc (.cells #[.pointer (some ⟨p,0,none⟩)] 173)):=Qk;have T3:=RB.new w2 [.pointer (some ⟨p,0,none⟩)] 173;have K3:=K2.below bt K2.lt;have b3:=b1.trans ((b2.trans (bt.mono b2.size)).mono b1.size);have c0:=K3.c0;have c1:=K3.c1;have c2:=K3.c2;go_wp2_with fail
 generalize (w2.alloc (.cells #[.pointer (some ⟨p,0,none⟩)] 173))=w3 at bt T3 K3 b3 c0 c1 c2 ⊢;refine (Hw.out w3 b3).mono ?_;rintro e w4 ⟨X,n,xc,rfl,G,b7,b4⟩;have I:=G.len;rw[List.length_append,List.length_reverse] at I;have I:up.length+1=n:=I;obtain⟨g,o,A,an,ac,B,bm,bd,rfl,hg,R,m⟩:=G.get (show n-1<n by omega);have c6:Y6 (up.reverse++[s]) (n-1)=s:=by
  have:=q59 up.reverse s;rw[List.length_reverse] at this;rw[show n-1=up.length by omega];exact this
 rw[c6] at R m;have T4:=T3.below b4 T3.lt;have W:=K3.below b4 K3.lt;have d1:=m.hn;have d0:=m.hm;obtain⟨rf,a6⟩:∃rf,Vd s.N.keys k i=rf:=⟨_,rfl⟩;rw[a6] at f F;have HL:=Lib.hid (λu:Grown w4=>qjz (kc:=xc) (k:=n) (q:=n-1) (w:=u.to) (λj v hv=>(u.ok.cell (p:=⟨g,_,none⟩) hg).trans (R j v hv)) (by have:=u.ok.size;omega) (by omega) (by omega));have M:=Lib.hid (λu:Grown w4=>q2i s.N lf k i hi rf a6 A an ac B bm bd u.to (m.its.Yc (Qx (S:=λk=>k<w3.1.size) (u.ok))) (m.Df _ (Qx (S:=λk=>k<w3.1.size) (u.ok))) (by omega) (by omega));clear c0 c1 c2 hi a6;have c0:=λu:Grown w4=>Grown.cell W.c0 W.lt u
 have c1:=λu:Grown w4=>Grown.cell W.c1 W.lt u
 have c2:=λu:Grown w4=>Grown.cell W.c2 W.lt u
 obtain⟨sN,ad,nx,hd,sh⟩:=s;unfold Vf at HL;dsimp only at HL M f K F lf ls U lw;rw[U] at HL M;have a1:=λw=>qk0 0 A an ac B bm bd ad (nx:Int) hd sh w
 have a2:=λw=>qfu 0 A an ac B bm bd w
 unfold Xw at a1 a2;replace U:=Lib.hid U;change ∀w,(Qbb _).run _ w=_ at a1;change ∀w,(Qba _).run _ w=_ at a2;go_wp2_with fail
 refine Uk (by kernel_rfl) (by kernel_rfl) ?_;repeat (go_big_quiet_step (first|(go_at_call 109;exact Calls.grown (HL.out _))|(go_at_call 97;exact Calls.grown (M.out _))|fail))
 refine wpQuiet_nil ?_;rintro _ ⟨u,rfl⟩;have b5:=u.ok;generalize u.to=Y at b5 ⊢;clear c0 c1 c2 u HL M a1 a2;have O:=b3.trans ((b4.trans (b5.mono b4.size)).mono b3.size);have d2:=O.size;have b6:Below Y.1.size Y (Y.alloc (.cells #[.int .i64 k.obj,.int .i64 k.kind,.int .i64 k.off,.slice V q c] 50)):=Qk;have J:=qxt (S:=S) (w:=Y) (λk hk=>by have:=hS k hk;omega) k (λu hu=>hV u ((Qx (S:=S) O).then hu));have Q:=O.trans (b6.mono O.size);have a7:Below w4.1.size w4 (Y.alloc (.cells #[.int .i64 k.obj,.int .i64 k.kind,.int .i64 k.off,.slice V q c] 50)):=b5.trans (b6.mono b5.size);have z3:=b3.size;have Z:∀u,Turn S (Y.alloc (.cells #[.int .i64 k.obj,.int .i64 k.kind,.int .i64 k.off,.slice V q c] 50)) u->Ve (Turn S (Y.alloc (.cells #[.int .i64 k.obj,.int .i64 k.kind,.int .i64 k.off,.slice V q c] 50))) u (some ⟨g,o,none⟩) n xc (up.reverse++[⟨sN,ad,nx,hd,sh⟩]):=λu hu=>
  ((G.below a7).turned hu λg' b8 h=>by have:=hS g' h;have:=b7 g' b8;omega).mono λv hv=>(Qx (S:=λk=>k<w3.1.size) a7).trans hv λk hk=>.inl (by have:=hS k hk;show k<w3.1.size;omega)
 have E:=λ(j:Nat) (b9:i<=j) (hj:j<=sN.size) (he:Y8 D up P ⟨sN,ad,nx,hd,sh⟩ i j ⟨0,[⟨k,v⟩],[]⟩=some (P',r))=>qan hb up (H.below Q) (ht.below Q ht.1) hP ⟨sN,ad,nx,hd,sh⟩ lf ls ⟨by rw[U.out];omega,by rw[U.out];omega⟩ lw (some ⟨g,o,none⟩) n xc Z (by omega) ⟨0,[⟨k,v⟩],[]⟩ ⟨λ_=>rfl,λh=>absurd rfl h⟩ (by unfold Nd.size;simp) U.out.symm (some ⟨Y.1.size,0,none⟩) 1 1 none 0 0 J i j b9 hj he
 unfold tv Xw at E;dsimp only at E;have K5:=W.below b5 W.lt;have T5:=T4.below b5 T4.lt;have y0:=T5.cell 0 rfl;have c0:=K5.c0;have c1:=K5.c1;have c2:=K5.c2;have c8:i<=12:=by have:sN.size<=12:=ls;omega
 cases rf with
 |false=>
  have Hx:=Lib.hid (E i (Nat.le_refl _) K f);clear E f K F Z J G R m;go_wp2_with fail
  refine Hx.out.mono ?_;rintro e w7 ⟨z,rfl,hz,H7,X7,t7,p7⟩;have TF:=(Qx (S:=S) Q).then X7;go_wp2_with fail
  go_ret2;exact⟨z,rfl,hz,H7,TF,t7,p7⟩
 |true=>
  have c7:IntKind.i64.wrap ((i:Int)+1)=((i+1:Nat):Int):=by rw[show (i:Int)+1=((i+1:Nat):Int) by omega];exact IntWalk.i64_in _ (by omega)
  have Hx:=E (i+1) (Nat.le_succ _) (F rfl) f;obtain⟨i1,a8⟩:∃i1,i+1=i1:=⟨_,rfl⟩;rw[a8] at c7 Hx;replace Hx:=Lib.hid Hx;clear E f K F Z J G R m a8;go_wp2_with fail
  refine Hx.out.mono ?_;rintro e w7 ⟨z,rfl,hz,H7,X7,t7,p7⟩;have TF:=(Qx (S:=S) Q).then X7;go_wp2_with fail
  go_ret2;exact⟨z,rfl,hz,H7,TF,t7,p7⟩
theorem qui (H:Qg b w d p S0 S T D P)(hb:1<b)(ht:Tab w)(hP:P.tidy)(root:Int)(k:Kd){up:List Qs}{s:Qs}(hw:P.way D root k=some (up,s))(J:Vd s.N.keys k (s.N.Zc k)=true){r:Option Int}(hp:P.Fp D root k=some (P',r)) :
  Calls Tryz.prog 66 #[.pointer (some ⟨p,0,none⟩),.int .i64 root,.agg #[.int .i64 k.obj,.int .i64 k.kind,.int .i64 k.off]] w (Gy b d p S0 S T D w P' r):=by
 have I:Y8 D up P s (s.N.Zc k) (s.N.Zc k+1) ⟨0,[],[]⟩=some (P',r):=by
  unfold Pl.Fp at hp;rw[hw] at hp;exact hp
 have hS:=H.low;have hm:=λa h=>H.may a h
 obtain⟨lf,ls,K,lw⟩:=qjy hm hw;have Hw:=λ(u:World) (hu:Below w.1.size w u)=>qdx (H.below hu) (ht.below hu ht.1) hP.kind (qq6 hm) root k hw
 have a6:=q7k up s (by omega) lw;rw[K] at a6;have a6:up.length<=7:=by omega
 obtain⟨K1,b1⟩:=Y1 w k;unfold tv at Hw;replace Hw:=Lib.hid Hw;obtain⟨i,hi⟩:∃i,s.N.Zc k=i:=⟨_,rfl⟩;obtain⟨W,M⟩:=qqb lf K k;rw[hi] at I W M J;have Y:=M J;clear hw;go_enter Tryz.func66,Tryz.ntmps66
 go_wp2_with fail
 have bt:Below (w.alloc (.cells #[.int .i64 k.obj,.int .i64 k.kind,.int .i64 k.off] 45)).1.size (w.alloc (.cells #[.int .i64 k.obj,.int .i64 k.kind,.int .i64 k.off] 45)) ((w.alloc (.cells #[.int .i64 k.obj,.int .i64 k.kind,.int .i64 k.off] 45)).alloc (.cells #[.pointer (some ⟨p,0,none⟩)] 173)):=Qk;have T3:=RB.new (w.alloc (.cells #[.int .i64 k.obj,.int .i64 k.kind,.int .i64 k.off] 45)) [.pointer (some ⟨p,0,none⟩)] 173;rw[World.size_alloc] at T3;have Z:=K1.below bt K1.lt;have b3:=b1.trans (bt.mono b1.size);have c0:=Z.c0;have c1:=Z.c1;have c2:=Z.c2;go_wp2_with fail
 generalize ((w.alloc (.cells #[.int .i64 k.obj,.int .i64 k.kind,.int .i64 k.off] 45)).alloc (.cells #[.pointer (some ⟨p,0,none⟩)] 173))=w3 at T3 Z b3 c0 c1 c2 ⊢;refine (Hw.out w3 b3).mono ?_;rintro e w4 ⟨X,n,xc,rfl,G,a7,b4⟩;have y:=G.len;rw[List.length_append,List.length_reverse] at y;have y:up.length+1=n:=y;obtain⟨g,o,A,an,ac,B,bm,bd,rfl,hg,U,f⟩:=G.get (show n-1<n by omega);have b0:Y6 (up.reverse++[s]) (n-1)=s:=by
  have:=q59 up.reverse s;rw[List.length_reverse] at this;rw[show n-1=up.length by omega];exact this
 rw[b0] at U f;have T4:=T3.below b4 T3.lt;have O:=Z.below b4 Z.lt;have b8:=f.hn;have b7:=f.hm;have HL:=Lib.hid (λu:Grown w4=>qjz (kc:=xc) (k:=n) (q:=n-1) (w:=u.to) (λj v hv=>(u.ok.cell (p:=⟨g,_,none⟩) hg).trans (U j v hv)) (by have:=u.ok.size;omega) (by omega) (by omega));have E:=Lib.hid (λu:Grown w4=>q2i s.N lf k i hi true J A an ac B bm bd u.to (f.its.Yc (Qx (S:=λk=>k<w3.1.size) (u.ok))) (f.Df _ (Qx (S:=λk=>k<w3.1.size) (u.ok))) (by omega) (by omega));clear c0 c1 c2 hi J bt K1;have c0:=λu:Grown w4=>Grown.cell O.c0 O.lt u
 have c1:=λu:Grown w4=>Grown.cell O.c1 O.lt u
 have c2:=λu:Grown w4=>Grown.cell O.c2 O.lt u
 obtain⟨sN,ad,nx,hd,sh⟩:=s;unfold Vf at HL;dsimp only at HL E I W M Y lf ls K lw;rw[K] at HL E;have Q:=λw=>qk0 0 A an ac B bm bd ad (nx:Int) hd sh w
 have R:=λw=>qfu 0 A an ac B bm bd w
 unfold Xw at Q R;replace K:=Lib.hid K;change ∀w,(Qbb _).run _ w=_ at Q;change ∀w,(Qba _).run _ w=_ at R;go_wp2_with fail
 refine Uk (by kernel_rfl) (by kernel_rfl) ?_;repeat (go_big_quiet_step (first|(go_at_call 109;exact Calls.grown (HL.out _))|(go_at_call 97;exact Calls.grown (E.out _))|fail))
 refine wpQuiet_nil ?_;rintro _ ⟨u,rfl⟩;have b5:=u.ok;generalize u.to=w5 at b5 ⊢;clear c0 c1 c2 u HL E Q R;have F:=b3.trans ((b4.trans (b5.mono b4.size)).mono b3.size);have b9:=F.size;have z3:=b3.size;have a1:∀u,Turn S w5 u->Ve (Turn S w5) u (some ⟨g,o,none⟩) n xc (up.reverse++[⟨sN,ad,nx,hd,sh⟩]):=λu hu=>
  ((G.below b5).turned hu λg' a8 h=>by have:=hS g' h;have:=a7 g' a8;omega).mono λv hv=>(Qx (S:=λk=>k<w3.1.size) b5).trans hv λk hk=>.inl (by have:=hS k hk;show k<w3.1.size;omega)
 have m:=qan hb up (H.below F) (ht.below F ht.1) hP ⟨sN,ad,nx,hd,sh⟩ lf ls ⟨by rw[K.out];omega,by rw[K.out];omega⟩ lw (some ⟨g,o,none⟩) n xc a1 (by omega) ⟨0,[],[]⟩ ⟨λ_=>rfl,λh=>absurd rfl h⟩ (by unfold Nd.size;simp) K.out.symm none 0 0 none 0 0 (qpv _ 0) i (i+1) (Nat.le_succ _) Y I;unfold tv Xw at m;dsimp only at m;have K5:=O.below b5 O.lt;have T5:=T4.below b5 T4.lt;have y0:=T5.cell 0 rfl;have b6:i<=12:=by have:sN.size<=12:=ls;omega
 have b2:IntKind.i64.wrap ((i:Int)+1)=((i+1:Nat):Int):=by rw[show (i:Int)+1=((i+1:Nat):Int) by omega];exact IntWalk.i64_in _ (by omega)
 obtain⟨i1,a2⟩:∃i1,i+1=i1:=⟨_,rfl⟩;rw[a2] at b2 m;have Hx:=Lib.hid m;clear m I W M Y a1 G U f a2;go_wp2_with fail
 refine Hx.out.mono ?_;rintro e w7 ⟨z,rfl,hz,H7,X7,t7,p7⟩;have TF:=(Qx (S:=S) F).then X7;go_wp2_with fail
 go_ret2;exact⟨z,rfl,hz,H7,TF,t7,p7⟩
end
end
