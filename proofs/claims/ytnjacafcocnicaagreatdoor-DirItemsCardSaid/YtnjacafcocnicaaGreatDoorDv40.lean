/- The code's edit: exchange of any way; Put and Delete -/
import Derived.Test.YtnjacafcocnicaaGreatDoorDv31
import Derived.Test.YtnjacafcocnicaaGreatDoorDv38
import Derived.Test.YtnjacafcocnicaaGreatDoorDv39
namespace Go.Proofs.YtnjacafcocnicaaGreatDoor
open Go Go.RowKit Go.Proofs Tryz
set_option maxHeartbeats 16000000
set_option maxRecDepth 100000
section
variable {b:Nat}{d p:Nat}{S0 S:NP}{D:DM}
theorem qbk (hb:1<b):∀(way:List Qy) {w:WD} {T:NP} {P P':Pl} (_:Ql b w d p S0 S T D P) (_:Tab w) (_:P.tidy) (s:Qy) (_:s.N.fit) (_:s.N.size<=12) (_:0<=s.N.lvl/\s.N.lvl<8) (_:Ud s way) (X:OA) (n c:Nat) (_:∀u,Turn S w u->Vr (Turn S w) u X n c (way.reverse++[s])) (_:n<=20)
  (f:Nd) (_:f.fit) (_:f.size<=7) (_:f.lvl=s.N.lvl) (y:OA) (I c2:Nat) (E:OA) (G F:Nat) (_:Jm (Turn S w) f y I c2 E G F) (i j:Nat) (_:i<=j) (_:j<=s.N.size) {r:Option Int} (_:Wu D way P s i j f=some (P',r)),
  Calls prog 72 #[tv p,.slice X n c,.int .i64 (i:Int),.int .i64 (j:Int),Ym f.lvl y I c2 E G F] w (Ak b d p S0 S T D w P' r)
 |[],w,T,P,P',H,ht,hP,s,hfs,hss,hsl,hwf,X,n,c,hX,hn,f,hfc,hcs,hcl,y,I,c2,E,G,F,hB,i,j,hi,hj,r,hex=>by
  obtain⟨P1,hr,_⟩:=qmq hex;exact qdq H hb ht hP s [] hfs hss hsl X n c hX hn f hfc hcs hcl y I c2 E G F hB i j hi hj hex hr (HI hwf) (λt K e=>by cases e)
 |t::way,w,T,P,P',H,ht,hP,s,hfs,hss,hsl,hwf,X,n,c,hX,hn,f,hfc,hcs,hcl,y,I,c2,E,G,F,hB,i,j,hi,hj,r,hex=>by
  obtain⟨P1,x,P2,P3,r2,hr,_⟩:=qhx hex;refine qdq H hb ht hP s (t::way) hfs hss hsl X n c hX hn f hfc hcs hcl y I c2 E G F hB i j hi hj hex hr (HI hwf) (λt' K e=>?_);injection e with e1 e2;subst e1 e2;intro T2 w2 P3 H2 a7 Z f2 s2 l2 a8 a1 q W O M A n' c' B m' d' Y i2 j2 a2 a6 J;exact qbk hb way H2 a7 Z t f2 s2 l2 a8.out X (n-1) c a1 (by omega) q W O M A n' c' B m' d' Y i2 j2 a2 a6 J
end
theorem qt5 {N:Nd}(q:N.fit)(h0:N.lvl=0)(k:Kd):N.Zw k<=N.size/\(U6 N.keys k (N.Zw k)=true->N.Zw k<N.size):=by
 have f:=q.1 h0;have e:N.Zw k=lead N.keys k:=AA h0;have u:N.keys.length=N.items.length:=by unfold Nd.keys;rw[f];simp
 have y:N.size=N.items.length:=by unfold Nd.size;rw[f];simp
 have h1:=qc4 N.keys k;refine⟨by omega,λh=>?_⟩;unfold U6 at h;rw[BN] at h;have:=AK h.1;omega
theorem qkb (s:Qy)(j:Nat)(up:List Qy):Ud { s with next:=j } up↔Ud s up:=by
 cases up with
 |nil=>exact Iff.rfl
 |cons t way=>exact Iff.rfl
theorem q8j:∀(up:List Qy) (s:Qy),s.N.lvl<8->Ud s up->s.N.lvl+(up.length:Int)<=7
 |[],s,h,_=>by simp;omega
 |t::way,s,h,hw=>by
  obtain⟨_,_,q,e,_,f⟩:=hw;have:=q8j way t e f;rw[AX];omega
structure Py (up:List Qy)(s:Qy):Prop where
 fit:s.N.fit
 size:s.N.size<=12
 lvl:s.N.lvl=0
 way:Ud s up
theorem qi2 {P:Pl}{D:DM}(hm:∀a,P.Qh D a=0->(P.Qd D a).may=true)(k:Kd):∀(f:Nat) (s:Qy) (up:List Qy) {e:List Qy} {q:Qy},s.N.may=true->Ud s up->P.Ai D k f s up=some (e,q)->Py e q
 |0,s,up,e,q,hs,hw,h=>by
  have h:(if s.N.lvl<=0 then some (up,s) else none)=some (e,q):=h;have A:=q87 hs;split at h
  ·injection OI h with u y;subst u y;exact⟨Tc hs,q62 hs,by omega,hw⟩
  ·cases h
 |f+1,s,up,e,q,hs,hw,h=>by
  have h:(if s.N.lvl<=0 then some (up,s) else if P.Kq D s (s.N.Zw k)=true then P.Ai D k f (P.Jk D s (s.N.Zw k)) ({ s with next:=s.N.Zw k }::up) else none)=some (e,q):=h;have A:=q87 hs;split at h
  ·injection OI h with u y;subst u y;exact⟨Tc hs,q62 hs,by omega,hw⟩
  ·split at h
   ·rename_i B;obtain⟨F,E,G⟩:=AK B;refine qi2 hm k f _ _ (hm _ E) ?_ h;refine⟨Tc hs,q62 hs,?_,A.2,?_,(qkb s _ up).2 hw⟩
    ·show s.N.lvl=(P.Qd D (Qk s.N.kids (s.N.Zw k)).a).lvl+1;omega
    ·show s.N.Zw k+1<=s.N.size;unfold Nd.size;omega
   ·cases h
theorem qms {P:Pl}{D:DM}(hm:∀a,P.Qh D a=0->(P.Qd D a).may=true){root:Int}{k:Kd}{up:List Qy}{s:Qy}(h:P.way D root k=some (up,s)):Py up s:=by
 unfold Pl.way at h;split at h
 ·injection OI h with e f;subst e f;exact⟨⟨λ_=>rfl,λh=>absurd rfl h⟩,by decide,rfl,trivial⟩
 ·split at h
  ·rename_i q;exact qi2 hm k 8 _ [] (hm root q) trivial h
  ·cases h
theorem qmt {w:WD}{g o kc k q:Nat}{s:Qy}{A:OA}{n c:Nat}{B:OA}{m d:Nat}(E:w.rangeAt g (o+q*7) (F7 s A n c B m d))(O:g<w.1.size)(X:k=q+1)(y:k<=1000) :
  Calls prog 71 #[.slice (some ⟨g,o,none⟩) k kc] w λe w'=>e=.returned (Vs s A n c B m d)/\Below w.1.size w w':=by
 obtain⟨N,u,F,hd,G⟩:=s;have f:Below w.1.size w (w.alloc Uy):=Qi;have I:=Nc w;have cell:∀(j:Nat) v,(F7 ⟨N,u,F,hd,G⟩ A n c B m d)[j]?=some v->(w.alloc Uy).cell? ⟨g,o+q*7+j,none⟩=some v:=λj v Y=>(f.cell (p:=⟨g,_,none⟩) O).trans (E j v Y)
 have M:=cell 0 _ rfl;have Z:=cell 1 _ rfl;have f2:=cell 2 _ rfl;have f3:=cell 3 _ rfl;have f4:=cell 4 _ rfl;have f5:=cell 5 _ rfl;have f6:=cell 6 _ rfl;rw[Nat.add_zero] at M;have hw:IntKind.i64.wrap ((k:Int)-1)=(q:Int):=by
  have:(k:Int)-1=(q:Int):=by omega
  rw[this];exact IntWalk.i64_in _ (by omega)
 have hj:(0:Int)<=(q:Int):=by omega
 have W:(q:Int)<(k:Int):=by omega
 clear cell E X;go_enter func71,ntmps71
 go_wp2_with (first
  |(refine Rf rfl _ _ rfl w.1.size rfl N.lvl A n c B m d u (F:Int) hd G rfl I rfl ?_;intro wz J K)
  |fail)
 refine bodyPost_ret (Rh Tryz.results71 rfl (q5r J)) rfl ?_;exact⟨rfl,f.trans (K.below (λk y=>by have:k=w.1.size:=y;omega) f.size)⟩
section
theorem qAv {S:NP}{w:WD}(A:∀k,S k->k<w.1.size)(k:Kd){V:OA}{q c:Nat}{v:LU}(B:∀u,Turn S w u->Sl u V q c v) :
  Jm (Turn S (w.alloc (.cells #[.int .i64 k.obj,.int .i64 k.kind,.int .i64 k.off,.slice V q c] 50))) ⟨0,[⟨k,v⟩],[]⟩ (some ⟨w.1.size,0,none⟩) 1 1 none 0 0:=by
 have h0:Jp (w.alloc (.cells #[.int .i64 k.obj,.int .i64 k.kind,.int .i64 k.off,.slice V q c] 50)) 4 (some ⟨w.1.size,0,none⟩) 1 1 [Vx k V q c]:=(q1n w 50 4 (Vx k V q c) _ rfl rfl).Gn (by omega);refine⟨⟨[Vx k V q c],λu f=>q5t h0 f (λg e E=>by injection e with e;have e:w.1.size=g:=e;have:=A g E;omega),rfl,λj r x y F=>?_⟩,λu f=>q6n u 4,rfl,rfl,⟨by omega,by omega,by unfold maxLen;omega⟩,⟨by omega,by omega,by unfold maxLen;omega⟩⟩;match j with
 |0=>
  obtain rfl:=OI y;obtain rfl:=OI F;exact⟨V,q,c,rfl,λu f=>B u ((Qz (S:=S) (Qi)).then f)⟩
 |j+1=>simp at y
theorem qmu (l:Int)(A:OA)(n c:Nat)(B:OA)(m d:Nat)(a x:Int)(h s:Bool)(w:WD):(Instr.field 144 (.agg #[.int .i64 l,.slice A n c,.slice B m d,.int .i64 a,.int .i64 x,.bool h,.bool s]) 0).run prog w=.ok (Ym l A n c B m d) w:=by
 kernel_rfl
theorem qi3 (l:Int)(A:OA)(n c:Nat)(B:OA)(m d:Nat)(w:WD):(Instr.field 142 (Ym l A n c B m d) 0).run prog w=.ok (Ym l A n c B m d) w:=by
 unfold Ym;kernel_rfl
def Qb0 (v:Value):Sem Value:=Instr.field 144 v 0
theorem qt6 (v:Value):Instr.field 144 v 0=Qb0 v:=rfl
def Qbz (v:Value):Sem Value:=Instr.field 142 v 0
theorem qt7 (v:Value):Instr.field 142 v 0=Qbz v:=rfl
attribute [local go_sem ↓] qt6
attribute [local go_sem ↓] qt7
section
variable {b:Nat}{w:WD}{d p:Nat}{S0 S T:NP}{D:DM}{P P':Pl}
theorem qx9 (H:Ql b w d p S0 S T D P)(hb:1<b)(ht:Tab w)(hP:P.tidy)(root:Int)(k:Kd)(V:OA)(q c:Nat)(v:LU)(hV:∀u,Turn S w u->Sl u V q c v)(hk:k.may=true)(hq:q<=28){r:Option Int}(hp:P.Ii D root ⟨k,v⟩=some (P',r)) :
  Calls prog 41 #[.pointer (some ⟨p,0,none⟩),.int .i64 root,.agg #[.int .i64 k.obj,.int .i64 k.kind,.int .i64 k.off],.slice V q c] w (Ak b d p S0 S T D w P' r):=by
 have hS:=H.low;obtain⟨up,s,hw,f⟩:∃up s,P.way D root k=some (up,s)/\Wu D up P s (s.N.Zw k) (s.N.Zw k+if U6 s.N.keys k (s.N.Zw k)=true then 1 else 0) ⟨0,[⟨k,v⟩],[]⟩=some (P',r):=by
  unfold Pl.Ii at hp;dsimp only at hp
  cases e:P.way D root k with
  |none=>rw[e] at hp;cases hp
  |some y=>rw[e] at hp;exact⟨y.1,y.2,rfl,hp⟩
 have hm:=λa h=>H.may a h
 obtain⟨lf,ls,ll,lw⟩:=qms hm hw;have Hw:=λ(u:WD) (hu:Below w.1.size w u)=>qfd (H.below hu) (ht.below hu ht.1) hP.kind (qsy hm) root k hw
 have b7:=q8j up s (by omega) lw;rw[ll] at b7;have b7:up.length<=7:=by omega
 have Hm:=HI (λw=>q2x k true hk w);obtain⟨K1,b1⟩:=Ws w k;have d0:¬((28:Int)<(q:Int)):=by omega
 unfold tv at Hw;replace Hw:=HI Hw;obtain⟨i,hi⟩:∃i,s.N.Zw k=i:=⟨_,rfl⟩;obtain⟨M,G⟩:=qt5 lf ll k;rw[hi] at f M G;clear hp hw;go_enter func41,ntmps41
 go_wp2_with fail
 generalize w.alloc (.cells #[.int .i64 k.obj,.int .i64 k.kind,.int .i64 k.off] 45)=w1 at K1 b1 ⊢;have c0:=K1.c0;have c1:=K1.c1;have c2:=K1.c2;go_wp2_with fail
 refine (Hm.out _).mono ?_;rintro e w2 ⟨rfl,b2⟩;clear c0 c1 c2;have K2:=K1.below b2 K1.lt;have bt:Below w2.1.size w2 (w2.alloc (.cells #[.pointer (some ⟨p,0,none⟩)] 137)):=Qi;have T3:=RB.new w2 [.pointer (some ⟨p,0,none⟩)] 137;have K3:=K2.below bt K2.lt;have b3:=b1.trans ((b2.trans (bt.mono b2.size)).mono b1.size);have c0:=K3.c0;have c1:=K3.c1;have c2:=K3.c2;go_wp2_with fail
 generalize (w2.alloc (.cells #[.pointer (some ⟨p,0,none⟩)] 137))=w3 at bt T3 K3 b3 c0 c1 c2 ⊢;refine (Hw.out w3 b3).mono ?_;rintro e w4 ⟨X,n,xc,rfl,I,b8,b4⟩;have J:=I.len;rw[AD,List.length_reverse] at J;have J:up.length+1=n:=J;obtain⟨g,o,A,an,ac,B,bm,bd,rfl,hg,Z,E⟩:=I.get (show n-1<n by omega);have c7:Wq (up.reverse++[s]) (n-1)=s:=by
  have:=q5u up.reverse s;rw[List.length_reverse] at this;rw[show n-1=up.length by omega];exact this
 rw[c7] at Z E;have T4:=T3.below b4 T3.lt;have K4:=K3.below b4 K3.lt;have d2:=E.hn;have d1:=E.hm;obtain⟨rf,a7⟩:∃rf,U6 s.N.keys k i=rf:=⟨_,rfl⟩;rw[a7] at f G;have HL:=HI (λu:Grown w4=>qmt (kc:=xc) (k:=n) (q:=n-1) (w:=u.to) (λj v hv=>(u.ok.cell (p:=⟨g,_,none⟩) hg).trans (Z j v hv)) (by have:=u.ok.size;omega) (by omega) (by omega));have O:=HI (λu:Grown w4=>q4r s.N lf k i hi rf a7 A an ac B bm bd u.to (E.its.Y3 (Qz (S:=λk=>k<w3.1.size) (u.ok))) (E.Ef _ (Qz (S:=λk=>k<w3.1.size) (u.ok))) (by omega) (by omega));clear c0 c1 c2 hi a7;have c0:=λu:Grown w4=>Grown.cell K4.c0 K4.lt u
 have c1:=λu:Grown w4=>Grown.cell K4.c1 K4.lt u
 have c2:=λu:Grown w4=>Grown.cell K4.c2 K4.lt u
 obtain⟨sN,ad,nx,hd,sh⟩:=s;unfold Vs at HL;dsimp only at HL O f M G lf ls ll lw;rw[ll] at HL O;have a2:=λw=>qmu 0 A an ac B bm bd ad (nx:Int) hd sh w
 have a6:=λw=>qi3 0 A an ac B bm bd w
 unfold Ym at a2 a6;replace ll:=HI ll;change ∀w,(Qb0 _).run _ w=_ at a2;change ∀w,(Qbz _).run _ w=_ at a6;go_wp2_with fail
 refine Ux (by kernel_rfl) (by kernel_rfl) ?_;repeat (go_big_quiet_step (first|(go_at_call 71;exact Calls.grown (HL.out _))|(go_at_call 60;exact Calls.grown (O.out _))|fail))
 refine wpQuiet_nil ?_;rintro _ ⟨u,rfl⟩;have b5:=u.ok;generalize u.to=w5 at b5 ⊢;clear c0 c1 c2 u HL O a2 a6;have W:=b3.trans ((b4.trans (b5.mono b4.size)).mono b3.size);have z35:=W.size;have b6:Below w5.1.size w5 (w5.alloc (.cells #[.int .i64 k.obj,.int .i64 k.kind,.int .i64 k.off,.slice V q c] 50)):=Qi;have K:=qAv (S:=S) (w:=w5) (λk hk=>by have:=hS k hk;omega) k (λu hu=>hV u ((Qz (S:=S) W).then hu));have Y:=W.trans (b6.mono W.size);have a8:Below w4.1.size w4 (w5.alloc (.cells #[.int .i64 k.obj,.int .i64 k.kind,.int .i64 k.off,.slice V q c] 50)):=b5.trans (b6.mono b5.size);have z3:=b3.size;have a1:∀u,Turn S (w5.alloc (.cells #[.int .i64 k.obj,.int .i64 k.kind,.int .i64 k.off,.slice V q c] 50)) u->Vr (Turn S (w5.alloc (.cells #[.int .i64 k.obj,.int .i64 k.kind,.int .i64 k.off,.slice V q c] 50))) u (some ⟨g,o,none⟩) n xc (up.reverse++[⟨sN,ad,nx,hd,sh⟩]):=λu hu=>
  ((I.below a8).turned hu λg' b9 h=>by have:=hS g' h;have:=b8 g' b9;omega).mono λv hv=>(Qz (S:=λk=>k<w3.1.size) a8).trans hv λk hk=>.inl (by have:=hS k hk;show k<w3.1.size;omega)
 have F:=λ(j:Nat) (c6:i<=j) (hj:j<=sN.size) (he:Wu D up P ⟨sN,ad,nx,hd,sh⟩ i j ⟨0,[⟨k,v⟩],[]⟩=some (P',r))=>qbk hb up (H.below Y) (ht.below Y ht.1) hP ⟨sN,ad,nx,hd,sh⟩ lf ls ⟨by rw[ll.out];omega,by rw[ll.out];omega⟩ lw (some ⟨g,o,none⟩) n xc a1 (by omega) ⟨0,[⟨k,v⟩],[]⟩ ⟨λ_=>rfl,λh=>absurd rfl h⟩ (by unfold Nd.size;simp) ll.out.symm (some ⟨w5.1.size,0,none⟩) 1 1 none 0 0 K i j c6 hj he
 unfold tv Ym at F;dsimp only at F;have K5:=K4.below b5 K4.lt;have T5:=T4.below b5 T4.lt;have y0:=T5.cell 0 rfl;have c0:=K5.c0;have c1:=K5.c1;have c2:=K5.c2;have c9:i<=12:=by have:sN.size<=12:=ls;omega
 cases rf with
 |false=>
  have Hx:=HI (F i (AE _) M f);clear F f M G a1 K I Z E;go_wp2_with fail
  refine Hx.out.mono ?_;rintro e w7 ⟨z,rfl,hz,H7,X7,t7,p7⟩;have TF:=(Qz (S:=S) Y).then X7;go_wp2_with fail
  go_ret2;exact⟨z,rfl,hz,H7,TF,t7,p7⟩
 |true=>
  have c8:IntKind.i64.wrap ((i:Int)+1)=((i+1:Nat):Int):=by rw[show (i:Int)+1=((i+1:Nat):Int) by omega];exact IntWalk.i64_in _ (by omega)
  have Hx:=F (i+1) (Nat.le_succ _) (G rfl) f;obtain⟨i1,b0⟩:∃i1,i+1=i1:=⟨_,rfl⟩;rw[b0] at c8 Hx;replace Hx:=HI Hx;clear F f M G a1 K I Z E b0;go_wp2_with fail
  refine Hx.out.mono ?_;rintro e w7 ⟨z,rfl,hz,H7,X7,t7,p7⟩;have TF:=(Qz (S:=S) Y).then X7;go_wp2_with fail
  go_ret2;exact⟨z,rfl,hz,H7,TF,t7,p7⟩
theorem qxa (H:Ql b w d p S0 S T D P)(hb:1<b)(ht:Tab w)(hP:P.tidy)(root:Int)(k:Kd){up:List Qy}{s:Qy}(hw:P.way D root k=some (up,s))(K:U6 s.N.keys k (s.N.Zw k)=true){r:Option Int}(hp:P.Lj D root k=some (P',r)) :
  Calls prog 50 #[.pointer (some ⟨p,0,none⟩),.int .i64 root,.agg #[.int .i64 k.obj,.int .i64 k.kind,.int .i64 k.off]] w (Ak b d p S0 S T D w P' r):=by
 have J:Wu D up P s (s.N.Zw k) (s.N.Zw k+1) ⟨0,[],[]⟩=some (P',r):=by
  unfold Pl.Lj at hp;rw[hw] at hp;exact hp
 have hS:=H.low;have hm:=λa h=>H.may a h
 obtain⟨lf,ls,M,lw⟩:=qms hm hw;have Hw:=λ(u:WD) (hu:Below w.1.size w u)=>qfd (H.below hu) (ht.below hu ht.1) hP.kind (qsy hm) root k hw
 have b0:=q8j up s (by omega) lw;rw[M] at b0;have b0:up.length<=7:=by omega
 obtain⟨K1,b1⟩:=Ws w k;unfold tv at Hw;replace Hw:=HI Hw;obtain⟨i,hi⟩:∃i,s.N.Zw k=i:=⟨_,rfl⟩;obtain⟨a2,O⟩:=qt5 lf M k;rw[hi] at J a2 O K;have a6:=O K;clear hw;go_enter func50,ntmps50
 go_wp2_with fail
 have bt:Below (w.alloc (.cells #[.int .i64 k.obj,.int .i64 k.kind,.int .i64 k.off] 45)).1.size (w.alloc (.cells #[.int .i64 k.obj,.int .i64 k.kind,.int .i64 k.off] 45)) ((w.alloc (.cells #[.int .i64 k.obj,.int .i64 k.kind,.int .i64 k.off] 45)).alloc (.cells #[.pointer (some ⟨p,0,none⟩)] 137)):=Qi;have T3:=RB.new (w.alloc (.cells #[.int .i64 k.obj,.int .i64 k.kind,.int .i64 k.off] 45)) [.pointer (some ⟨p,0,none⟩)] 137;rw[BH] at T3;have K3:=K1.below bt K1.lt;have b3:=b1.trans (bt.mono b1.size);have c0:=K3.c0;have c1:=K3.c1;have c2:=K3.c2;go_wp2_with fail
 generalize ((w.alloc (.cells #[.int .i64 k.obj,.int .i64 k.kind,.int .i64 k.off] 45)).alloc (.cells #[.pointer (some ⟨p,0,none⟩)] 137))=w3 at T3 K3 b3 c0 c1 c2 ⊢;refine (Hw.out w3 b3).mono ?_;rintro e w4 ⟨X,n,xc,rfl,I,b2,b4⟩;have E:=I.len;rw[AD,List.length_reverse] at E;have E:up.length+1=n:=E;obtain⟨g,o,A,an,ac,B,bm,bd,rfl,hg,a1,f⟩:=I.get (show n-1<n by omega);have b7:Wq (up.reverse++[s]) (n-1)=s:=by
  have:=q5u up.reverse s;rw[List.length_reverse] at this;rw[show n-1=up.length by omega];exact this
 rw[b7] at a1 f;have T4:=T3.below b4 T3.lt;have W:=K3.below b4 K3.lt;have c7:=f.hn;have c6:=f.hm;have HL:=HI (λu:Grown w4=>qmt (kc:=xc) (k:=n) (q:=n-1) (w:=u.to) (λj v hv=>(u.ok.cell (p:=⟨g,_,none⟩) hg).trans (a1 j v hv)) (by have:=u.ok.size;omega) (by omega) (by omega));have F:=HI (λu:Grown w4=>q4r s.N lf k i hi true K A an ac B bm bd u.to (f.its.Y3 (Qz (S:=λk=>k<w3.1.size) (u.ok))) (f.Ef _ (Qz (S:=λk=>k<w3.1.size) (u.ok))) (by omega) (by omega));clear c0 c1 c2 hi K bt K1;have c0:=λu:Grown w4=>Grown.cell W.c0 W.lt u
 have c1:=λu:Grown w4=>Grown.cell W.c1 W.lt u
 have c2:=λu:Grown w4=>Grown.cell W.c2 W.lt u
 obtain⟨sN,ad,nx,hd,sh⟩:=s;unfold Vs at HL;dsimp only at HL F J a2 O a6 lf ls M lw;rw[M] at HL F;have Y:=λw=>qmu 0 A an ac B bm bd ad (nx:Int) hd sh w
 have Z:=λw=>qi3 0 A an ac B bm bd w
 unfold Ym at Y Z;replace M:=HI M;change ∀w,(Qb0 _).run _ w=_ at Y;change ∀w,(Qbz _).run _ w=_ at Z;go_wp2_with fail
 refine Ux (by kernel_rfl) (by kernel_rfl) ?_;repeat (go_big_quiet_step (first|(go_at_call 71;exact Calls.grown (HL.out _))|(go_at_call 60;exact Calls.grown (F.out _))|fail))
 refine wpQuiet_nil ?_;rintro _ ⟨u,rfl⟩;have b5:=u.ok;generalize u.to=w5 at b5 ⊢;clear c0 c1 c2 u HL F Y Z;have G:=b3.trans ((b4.trans (b5.mono b4.size)).mono b3.size);have z35:=G.size;have z3:=b3.size;have a7:∀u,Turn S w5 u->Vr (Turn S w5) u (some ⟨g,o,none⟩) n xc (up.reverse++[⟨sN,ad,nx,hd,sh⟩]):=λu hu=>
  ((I.below b5).turned hu λg' b6 h=>by have:=hS g' h;have:=b2 g' b6;omega).mono λv hv=>(Qz (S:=λk=>k<w3.1.size) b5).trans hv λk hk=>.inl (by have:=hS k hk;show k<w3.1.size;omega)
 have y:=qbk hb up (H.below G) (ht.below G ht.1) hP ⟨sN,ad,nx,hd,sh⟩ lf ls ⟨by rw[M.out];omega,by rw[M.out];omega⟩ lw (some ⟨g,o,none⟩) n xc a7 (by omega) ⟨0,[],[]⟩ ⟨λ_=>rfl,λh=>absurd rfl h⟩ (by unfold Nd.size;simp) M.out.symm none 0 0 none 0 0 (qs2 _ 0) i (i+1) (Nat.le_succ _) a6 J;unfold tv Ym at y;dsimp only at y;have K5:=W.below b5 W.lt;have T5:=T4.below b5 T4.lt;have y0:=T5.cell 0 rfl;have b9:i<=12:=by have:sN.size<=12:=ls;omega
 have b8:IntKind.i64.wrap ((i:Int)+1)=((i+1:Nat):Int):=by rw[show (i:Int)+1=((i+1:Nat):Int) by omega];exact IntWalk.i64_in _ (by omega)
 obtain⟨i1,a8⟩:∃i1,i+1=i1:=⟨_,rfl⟩;rw[a8] at b8 y;have Hx:=HI y;clear y J a2 O a6 a7 I a1 f a8;go_wp2_with fail
 refine Hx.out.mono ?_;rintro e w7 ⟨z,rfl,hz,H7,X7,t7,p7⟩;have TF:=(Qz (S:=S) G).then X7;go_wp2_with fail
 go_ret2;exact⟨z,rfl,hz,H7,TF,t7,p7⟩
end
end
def Pl.like (P P':Pl):Prop:=P'.S=P.S/\P'.C.done=P.C.done
theorem Pl.like.refl (P:Pl):P.like P:=⟨rfl,rfl⟩
theorem Pl.like.trans {P P' P'':Pl}(h:P.like P')(h2:P'.like P''):P.like P'':=⟨h2.1.trans h.1,h2.2.trans h.2⟩
theorem qxb (P:Pl)(a:Int):P.like ⟨P.S,P.C.ref a,P.L⟩:=⟨rfl,by show (P.C.ref a).done=_;unfold Ct.ref;split<;>rfl⟩
theorem qdt (P:Pl)(a:Int):P.like ⟨P.S,P.C.Qw a,P.L⟩:=⟨rfl,by show (P.C.Qw a).done=_;unfold Ct.Qw;split<;>rfl⟩
theorem qa1 (P:Pl)(N:Nd):P.like (P.Js N):=by
 unfold Pl.Js;split
 ·unfold Pl.lay;split
  ·exact⟨rfl,by show P.C.alloc.done=_;unfold Ct.alloc;split<;>rfl⟩
  ·exact .refl _
 ·exact .refl _
theorem qxc (P:Pl)(a:Int)(N:Nd):P.like (P.Uc a N):=by
 unfold Pl.Uc;split
 ·exact⟨rfl,rfl⟩
 ·exact .refl _
theorem qdu:∀(l:LI) {P P':Pl},U7 l P=some P'->P.like P'
 |[],P,P',h=>by cases h;exact .refl _
 |a::l,P,P',h=>by
  unfold U7 at h;split at h
  ·exact (qxb P a).trans (qdu l h)
  ·cases h
theorem q9h:∀(l:LI) {P P':Pl},q3o l P=some P'->P.like P'
 |[],P,P',h=>by cases h;exact .refl _
 |a::l,P,P',h=>by
  unfold q3o at h;split at h
  ·exact (qdt P a).trans (q9h l h)
  ·cases h
theorem q51 {P P':Pl}{s:Qy}{i j:Nat}(h:P.Q9 s i j=some P'):P.like P':=by
 unfold Pl.Q9 at h;split at h
 ·exact qdu _ h
 ·split at h
  ·cases h;exact .refl _
  ·exact q9h _ h
theorem qi4 {P P':Pl}{D:DM}{s:Qy}{i:Nat}(h:P.near D s i=some P'):P.like P':=by
 unfold Pl.near at h;split at h
 ·exact q51 h
 ·cases h
theorem qt8 {P P':Pl}{D:DM}{s t:Qy}{b:Nd}{x:Tv}(h:P.have_ D s b t=some (x,P')):P.like P':=by
 unfold Pl.have_ at h;split at h
 ·cases h;exact .refl _
 ·split at h
  ·obtain⟨q,h1,h2⟩:=Option.map_eq_some_iff.1 h
   cases h2;exact qi4 h1
  ·obtain⟨q,h1,h2⟩:=Option.map_eq_some_iff.1 h
   cases h2;exact qi4 h1
theorem q8k {P P':Pl}{s:Qy}(h:P.leave s=some P'):P.like P':=by
 unfold Pl.leave at h;split at h
 ·cases h;exact .refl _
 ·split at h
  ·cases h;exact qdt P _
  ·cases h
theorem q7e:∀(l:List Qy) {P P':Pl} {r q:List Nd} {ks f:List Qn},Ae l P r ks=some (P',q,f)->P.like P'
 |[],P,P',r,q,ks,f,h=>by unfold Ae at h;cases h;exact .refl _
 |s::l,P,P',[],q,ks,f,h=>by
  unfold Ae at h;split at h
  ·rename_i u e;exact (q8k e).trans (q7e l h)
  ·cases h
 |s::l,P,P',b::r,q,ks,f,h=>by
  unfold Ae at h;split at h
  ·split at h
   ·rename_i u e;exact (q8k e).trans (q7e l h)
   ·cases h
  ·split at h
   ·exact (qxc P _ _).trans (q7e l h)
   ·cases h
theorem qmv:∀(l:List Nd) {P P':Pl} {ks:List Qn} {q:Option (List Qn)},Xk l P ks=some (P',q)->P.like P'
 |[],P,P',ks,q,h=>by unfold Xk at h;cases h;exact .refl _
 |b::l,P,P',ks,q,h=>by
  unfold Xk at h;split at h
  ·exact (qa1 P b).trans (qmv l h)
  ·split at h
   ·cases h;exact qa1 P b
   ·cases h
theorem qa2 {P P':Pl}{x:Tv}{q:Option (List Qn)}(h:P.Wl x=some (P',q)):P.like P':=by
 unfold Pl.Wl at h;split at h
 ·rename_i u f y e;exact (q7e _ e).trans (qmv _ h)
 ·cases h
theorem qxd {P P':Pl}{s:Qy}{b:Nd}{r:Option Int}(h:P.top s b=some (P',r)):P.like P':=by
 unfold Pl.top at h;split at h
 ·obtain⟨q,h1,h2⟩:=Option.map_eq_some_iff.1 h
  cases h2;exact q8k h1
 ·split at h
  ·rename_i f u e;have h0:=qa2 e;split at h
   ·cases h;exact h0
   ·split at h
    ·cases h;exact h0
    ·split at h
     ·cases h;exact h0.trans (qa1 f _)
     ·split at h
      ·cases h;exact h0.trans (qa1 f _)
      ·cases h
  ·rename_i f e
   cases h;exact qa2 e
  ·cases h
theorem qbl {D:DM}:∀(way:List Qy) {P P':Pl} {s:Qy} {i j:Nat} {f:Nd} {r:Option Int},Wu D way P s i j f=some (P',r)->P.like P'
 |[],P,P',s,i,j,f,r,h=>by
  unfold Wu at h;split at h
  ·rename_i u e;exact (q51 e).trans (qxd h)
  ·cases h
 |t::way,P,P',s,i,j,f,r,h=>by
  unfold Wu at h;split at h
  ·rename_i u e;split at h
   ·rename_i x B A;have h2:=(q51 e).trans (qt8 A);split at h
    ·rename_i y E q;exact (h2.trans (qa2 q)).trans (qbl way h)
    ·rename_i y q
     cases h;exact h2.trans (qa2 q)
    ·cases h
   ·cases h
  ·cases h
theorem qt9 {P P':Pl}{D:DM}{root:Int}{x:Qc}{r:Option Int}(h:P.Ii D root x=some (P',r)):P.like P':=by
 unfold Pl.Ii at h;split at h
 ·exact qbl _ h
 ·cases h
theorem qta {P P':Pl}{D:DM}{root:Int}{k:Kd}{r:Option Int}(h:P.Lj D root k=some (P',r)):P.like P':=by
 unfold Pl.Lj at h;split at h
 ·exact qbl _ h
 ·cases h
theorem qi5 {P P':Pl}(h:P.like P')(hn:P'.C.n=P.C.n):P'.C.kept=P.C.kept:=by
 unfold Ct.kept;rw[h.2,hn]
theorem qkc (C:Ct):C.commit.kept=C.used:=rfl
theorem qi6 (n:Nat):(Ct.zero n).kept=0:=by
 unfold Ct.kept;refine List.countP_eq_zero.2 λa e h=>AK h ?_
 show (List.replicate n (0:Int)).getD a 0=0;rw[AG,List.getElem?_replicate];split<;>rfl
theorem qtb {w:WD}{p:Nat}{R:Int->Nd × Int}(H:Src w p R)(ht:Tab w)(root:Int)(fr «to»:Kd)(most:Int)(J:root≠0->Zz R (Dk R root) root<=100000) :
  Calls prog 11 #[.pointer (some ⟨p,0,none⟩),.int .i64 root,.agg #[.int .i64 fr.obj,.int .i64 fr.kind,.int .i64 fr.off],.agg #[.int .i64 «to».obj,.int .i64 «to».kind,.int .i64 «to».off],.int .i64 most] w λe w'=>∃A n c,e=.returned (.tuple #[.slice A n c,.int .i64 (F5 R fr «to» most root).2])/\Xe w' w.1.size A n c (F5 R fr «to» most root).1/\Below w.1.size w w':=by
 obtain⟨G,f⟩:∃G,F5 R fr «to» most root=G:=⟨_,rfl⟩;rw[f];unfold F5 at f;obtain⟨K1,K2,b2⟩:=Qbt w fr «to»;have K:Below w.1.size w (((w.alloc (.cells #[.int .i64 fr.obj,.int .i64 fr.kind,.int .i64 fr.off] 45)).alloc (.cells #[.int .i64 «to».obj,.int .i64 «to».kind,.int .i64 «to».off] 45)).alloc (.cells #[.int .i64 most] 3)):=b2.alloc (by simp;omega) _;have a1:Below ((w.alloc (.cells #[.int .i64 fr.obj,.int .i64 fr.kind,.int .i64 fr.off] 45)).alloc (.cells #[.int .i64 «to».obj,.int .i64 «to».kind,.int .i64 «to».off] 45)).1.size _ (((w.alloc (.cells #[.int .i64 fr.obj,.int .i64 fr.kind,.int .i64 fr.off] 45)).alloc (.cells #[.int .i64 «to».obj,.int .i64 «to».kind,.int .i64 «to».off] 45)).alloc (.cells #[.int .i64 most] 3)):=Qi;have B:=K1.below a1 K1.lt;have Z:=K2.below a1 K2.lt;have V3:(((w.alloc (.cells #[.int .i64 fr.obj,.int .i64 fr.kind,.int .i64 fr.off] 45)).alloc (.cells #[.int .i64 «to».obj,.int .i64 «to».kind,.int .i64 «to».off] 45)).alloc (.cells #[.int .i64 most] 3)).1[w.1.size+2]?=some (.cells #[.int .i64 most] 3 (0,0)):=by
  have:=BE ((w.alloc (.cells #[.int .i64 fr.obj,.int .i64 fr.kind,.int .i64 fr.off] 45)).alloc (.cells #[.int .i64 «to».obj,.int .i64 «to».kind,.int .i64 «to».off] 45)) (.cells #[.int .i64 most] 3);rwa [BH,BH] at this
 have z3:(((w.alloc (.cells #[.int .i64 fr.obj,.int .i64 fr.kind,.int .i64 fr.off] 45)).alloc (.cells #[.int .i64 «to».obj,.int .i64 «to».kind,.int .i64 «to».off] 45)).alloc (.cells #[.int .i64 most] 3)).1.size=w.1.size+3:=by simp
 have c3:=cell_of_one V3;clear K1 K2 b2 a1;by_cases h0:root=0
 ·rw[AA (.inl h0)] at f;subst h0;subst f;go_enter func11,ntmps11
  go_wp2_with fail
  go_ret2;exact⟨none,0,0,rfl,q1o _ _,K⟩
 ·have g1:(root==0)=false:=by simp[h0]
  have g2:decide (root=0)=false:=AH h0;by_cases hm:most<1
  ·rw[AA (.inr hm)] at f;subst f;clear h0 J;go_enter func11,ntmps11
   go_wp2_with fail
   go_ret2;exact⟨none,0,0,rfl,q1o _ _,K⟩
  ·rw[AB (by rintro (h|h);exact h0 h;exact hm h)] at f;have hc:=J h0;have Hn:=HI (H.node _ K (ht.below K ht.1) root);have F:=H.may root;obtain⟨M,E,hR⟩:∃M E,R root=(M,E):=⟨_,_,rfl⟩;have HR:=HI hR;rw[hR] at Hn F;have F:E=0->M.may=true:=F;have hl:Dk R root=M.lvl.toNat:=by unfold Dk;rw[hR]
   rw[hl] at f hc;clear hR hl h0 J;by_cases hE:E=0
   ·subst hE;have X:=F rfl;have c9:0<=M.lvl/\M.lvl<8:=by
     by_cases h1:M.lvl=0
     ·omega
     ·have:=q0n X h1;omega
    obtain⟨l,hl⟩:∃l,M.lvl.toNat=l:=⟨_,rfl⟩;have a6:M.lvl=(l:Int):=by omega
    rw[hl] at f hc;rw[qa0 HR.out [] a6] at f;rw[q3x HR.out] at hc;have Hc:=HI hc;have HG:=HI f;have c6:=HI a6;have b1:=B.c0;have b6:=B.c1;have b7:=B.c2;clear hc f a6 hl c9 F;go_enter func11,ntmps11
    go_wp2_with fail
    refine Hn.out.mono ?_;generalize ((w.alloc (.cells #[.int .i64 fr.obj,.int .i64 fr.kind,.int .i64 fr.off] 45)).alloc (.cells #[.int .i64 «to».obj,.int .i64 «to».kind,.int .i64 «to».off] 45)).alloc (.cells #[.int .i64 most] 3)=w3 at B Z V3 z3 c3 K b1 b6 b7 ⊢;rintro e q ⟨A1,n1,c1,B1,m1,d1,rfl,b0,a8,hI,W,b4⟩;have Hd:=qrt b0 a8 hI W;have N4:NB (q.alloc (.cells #[.int .i64 0,.slice none 0 0,.slice none 0 0] 74)) q.1.size 0 none 0 0 none 0 0:=NB.new q _ _ _ _ _ _ _ _;have b5:Below q.1.size q (q.alloc (.cells #[.int .i64 0,.slice none 0 0,.slice none 0 0] 74)):=Qi;have z4:=b4.size;clear hI W Hn c3 b1 b6 b7;go_wp2_with (first
     |(refine Bj rfl (.tmp 12) _ rfl q.1.size rfl M.lvl A1 n1 c1 B1 m1 d1 rfl N4 ?_;intro y N6 T6;have I:Turn (λ_=>False) q y:=(Qz (S:=λ_=>False) b5).trans T6 (λk h=>.inr (by have h:k=q.1.size:=h;omega));have z6:=I.size;have d0:=N6.lt;have a2:Below y.1.size y (y.alloc (.cells #[.slice none 0 0] 41)):=Qi;have O:Turn (λ_=>False) w3 (y.alloc (.cells #[.slice none 0 0] 41)):=((Qz (S:=λ_=>False) b4).trans I (λ_ h=>.inl h)).trans (Qz (S:=λ_=>False) a2) (λ_ h=>.inl h);have K7:=B.keep (O.block _ B.lt (λh=>h));have k0:=K7.c0;have k1:=K7.c1;have k2:=K7.c2;have N7:=N6.below a2 N6.lt;have q0:=N7.c0;have q1:=N7.c1;have q2:=N7.c2)
     |fail)
    have c7:Turn (λ_=>False) q (y.alloc (.cells #[.slice none 0 0] 41)):=I.trans (Qz (S:=λ_=>False) a2) (λ_ h=>.inl h);have b9:=Hd.turn c7 (λ_ _ _ h=>h);have V7:(y.alloc (.cells #[.slice none 0 0] 41)).1[y.1.size]?=some (.cells #[.slice none 0 0] 41 (0,0)):=BE y _;have z7:(y.alloc (.cells #[.slice none 0 0] 41)).1.size=y.1.size+1:=by simp
    have S7:Oi (y.alloc (.cells #[.slice none 0 0] 41)) w.1.size (y.1.size+1) y.1.size (w.1.size+2) (w.1.size+1) most «to» none []:=by
     have c8:=Z.lt;exact⟨⟨_,0,V7,q1o _ _,λk h=>(by cases h)⟩,⟨_,(O.block _ (by omega) (λh=>h)).trans V3⟩,Z.keep (O.block _ c8 (λh=>h)),by omega,⟨by omega,by omega,by omega,by omega,by omega,by omega⟩⟩
    have B7:Below w.1.size w (y.alloc (.cells #[.slice none 0 0] 41)):=K.trans (O.below (λ_ h=>h.elim) K.size);clear k0 k1 k2 q0 q1 q2;refine (qi1 H ht fr «to» most (lim:=w.1.size) (base:=y.1.size+1) (vb:=y.1.size) (mb:=w.1.size+2) (tb:=w.1.size+1) (by omega) rfl l _ M w3.1.size q.1.size A1 n1 c1 B1 m1 d1 none [] B7 S7 b9 (λk h1 h2 h=>by
     rcases h with h|h
     ·omega
     ·cases h) (by omega) X c6.out (AW _) (by have:=Hc.out;simpa using this)).mono ?_
    rw[HG.out];rintro e w8 ⟨rfl,A8,h8,X8,d2⟩;have B8:Below w.1.size w w8:=B7.trans (X8.below (λk hk=>by
     rcases hk with h|h
     ·omega
     ·cases h) B7.size)
    by_cases u:G.2=0
    ·have g3:(G.2==0)=true:=by simp[u]
     have g4:(G.2 != 0)=false:=by simp[u]
     obtain⟨⟨t,c,hv,row,-⟩,-⟩:=h8 u;have d3:=cell_of_one hv;have b8:=HI u;clear u;go_wp2_with fail
     go_ret2;exact⟨A8,_,c,by rw[b8.out];rfl,row,B8⟩
    ·have g3:(G.2==0)=false:=by simp[u]
     have g4:(G.2 != 0)=true:=by simp[u]
     have Y:G.1=[]:=by
      have h:=u;rw[<-HG.out] at h ⊢;exact qp3 _ _ _ h
     have a7:=HI Y;clear u h8 Y;go_wp2_with fail
     go_ret2;exact⟨none,0,0,rfl,by rw[a7.out];exact q1o _ _,B8⟩
   ·have g3:(E==0)=false:=by simp[hE]
    have g4:(E != 0)=true:=by simp[hE]
    rw[q7c (by rw[HR.out];exact hE)] at f;rw[HR.out] at f;subst f;clear hE F hc;go_enter func11,ntmps11
    go_wp2_with fail
    refine Hn.out.mono ?_;rintro e q ⟨A1,n1,c1,B1,m1,d1,rfl,b0,a8,hI,W,b4⟩;have N4:NB (q.alloc (.cells #[.int .i64 0,.slice none 0 0,.slice none 0 0] 74)) q.1.size 0 none 0 0 none 0 0:=NB.new q _ _ _ _ _ _ _ _;have b5:Below q.1.size q (q.alloc (.cells #[.int .i64 0,.slice none 0 0,.slice none 0 0] 74)):=Qi;clear hI W Hn c3;go_wp2_with (first
     |(refine Bj rfl (.tmp 12) _ rfl q.1.size rfl M.lvl A1 n1 c1 B1 m1 d1 rfl N4 ?_;intro y N6 T6)
     |fail)
    go_ret2;have I:Turn (λ_=>False) q y:=(Qz (S:=λ_=>False) b5).trans T6 (λk h=>.inr (by have h:k=q.1.size:=h;omega));exact⟨none,0,0,rfl,q1o _ _,K.trans ((b4.mono K.size).trans (I.below (λ_ h=>h.elim) (by have:=b4.size;have:=K.size;omega)))⟩
structure Told (w:WD)(p:Nat)(R:Int->Nd × Int)(root:Int)(its:List Qc):Prop where
 src:Src w p R
 tree:Jg R root its
 Qo:Qo its
 len:its.length<=1000
theorem Told.below {w w':WD}{p:Nat}{R:Int->Nd × Int}{root:Int}{its:List Qc}(h:Told w p R root its)(hb:Below w.1.size w w'):Told w' p R root its:=⟨h.src.below hb,h.tree,h.Qo,h.len⟩
section
variable {w:WD}{p:Nat}{R:Int->Nd × Int}{root:Int}{its:List Qc}
theorem Told.Ri (h:Told w p R root its)(ht:Tab w)(fr «to»:Kd)(most:Int)(L:List Qc)(hL:(within fr «to» its).take most.toNat=L) :
  Calls prog 11 #[.pointer (some ⟨p,0,none⟩),.int .i64 root,.agg #[.int .i64 fr.obj,.int .i64 fr.kind,.int .i64 fr.off],.agg #[.int .i64 «to».obj,.int .i64 «to».kind,.int .i64 «to».off],.int .i64 most] w λe w'=>∃A n c,e=.returned (.tuple #[.slice A n c,.int .i64 0])/\Xe w' w.1.size A n c L/\Below w.1.size w w':=by
 have:=qtb h.src ht root fr «to» most (λh0=>by have:=qp4 (qt3 R) h.tree h0;have:=h.len;omega);rw[qro h.tree h.Qo,hL] at this;exact this
end
def Ul (r:Int):LI:=if r=0 then [] else [r]
structure Ed (b:Nat)(w:WD)(d p:Nat)(U:NP)(D:DM)(P:Pl)(H:LI)(m:Nat)(g:Int):Prop where
 sys:∃S0 S T,Ql b w d p S0 S T D P/\(∀k,S0 k->U k)/\∀k,S k->U k
 low:∀k,U k->b<=k/\k<w.heap.size
 tab:Tab w
 keep:∃S0 C0,Keep D S0 C0 [] H P
 Ya:D.Ya m
 gen:P.S.gen<=g
section
variable {b:Nat}{w w':WD}{d p:Nat}{U:NP}{D:DM}{P:Pl}{H H0:LI}{m:Nat}{g:Int}{root:Int}{its:List Qc}
theorem Ed.tidy (E:Ed b w d p U D P H m g):P.tidy:=by
 obtain⟨_,_,K⟩:=E.keep;exact⟨K.Zo.kind,K.laid⟩
theorem Ed.below (E:Ed b w d p U D P H m g)(hb:Below w.1.size w w'):Ed b w' d p U D P H m g:=by
 obtain⟨S0,S,T,h,h0,h1⟩:=E.sys;exact⟨⟨S0,S,T,h.below hb,h0,h1⟩,λk e=>⟨(E.low k e).1,by have:=(E.low k e).2;have:=hb.size;omega⟩,E.tab.below hb E.tab.1,E.keep,E.Ya,E.gen⟩
theorem Ed.src (E:Ed b w d p U D P H m g):Src w p (P.store D):=by
 obtain⟨S0,S,T,h,h0,h1⟩:=E.sys;obtain⟨_,_,K⟩:=E.keep;exact qCa h.Aq h.pool K.Zo.kind K.Zo.good
structure G8 (b:Nat)(w w':WD)(d p:Nat)(U:NP)(D:DM)(P P':Pl)(r:Int)(H0:LI)(its:List Qc)(m:Nat)(g:Int):Prop where
 ed:Ed b w' d p U D P' (Ul r++H0) m g
 tree:Jg (P'.store D) r its
 like:P.like P'
 n:P'.C.n=P.C.n
 free:P.C.free<=P'.C.free+17
 old:∀l a t,a∈H0->Qs (P.store D) l a t->Qs (P'.store D) l a t
 turn:Turn U w w'
end
def Vb (b:Nat)(w:WD)(d p:Nat)(U Q V:NP)(D:DM)(P:Pl):Prop:=
 ∃S0 S T,Ql b w d p S0 S T D P/\(∀k,S0 k->U k)/\(∀k,S k->U k)/\(∀k,Q k->T k)/\∀k,S k->V k
section
variable {b:Nat}{w w':WD}{d p:Nat}{U Q V:NP}{D:DM}{P:Pl}{H H0:LI}{m:Nat}{g:Int}{root:Int}{its:List Qc}
theorem Vb.below (h:Vb b w d p U Q V D P)(hb:Below w.1.size w w'):Vb b w' d p U Q V D P:=by
 obtain⟨S0,S,T,h1,h2,e,f,q⟩:=h;exact⟨S0,S,T,h1.below hb,h2,e,f,q⟩
theorem Vb.more (h:Vb b w d p U Q V D P)(hb:Below w.1.size w w'){Q':NP}(hQ:∀k,Q' k->Q k\/(w.1.size<=k/\k<w'.1.size)):Vb b w' d p U Q' V D P:=by
 obtain⟨S0,S,T,h1,h2,f,e,q⟩:=h;refine⟨S0,S,grow T w w',h1.more hb,h2,f,λk u=>?_,q⟩;rcases hQ k u with h|h
 ·exact⟨.inl (e k h),by have:=(h1.tight k (e k h)).2;have:=hb.size;omega⟩
 ·exact⟨.inr h.1,h.2⟩
theorem Ed.Qcz (E:Ed b w d p U D P H m g):Vb b w d p U (λ_=>False) U D P:=by
 obtain⟨S0,S,T,h,h0,h1⟩:=E.sys;exact⟨S0,S,T,h,h0,h1,λ_ h=>h.elim,h1⟩
theorem Ed.own (E:Ed b w d p U D P H m g)(h:Vb b w d p U Q V D P)(hb:1<b){S' Q':NP}(t:Turn S' w w')(hS:∀k,S' k->Q k)(hU:∀k,S' k->¬U k)(hQ:∀k,Q' k->Q k\/(w.1.size<=k/\k<w'.1.size)):Ed b w' d p U D P H m g/\Vb b w' d p U Q' V D P:=by
 obtain⟨S0,S,T,h1,h2,q,f,A⟩:=h;have B:=t.size;have y:=h1.grown t (λk e=>f k (hS k e)) (λk e u=>hU k e (h2 k u)) (λk e u=>hU k e (q k u));refine⟨⟨⟨S0,S,grow T w w',y,h2,q⟩,λk e=>⟨(E.low k e).1,by have:=(E.low k e).2;omega⟩,E.tab.turned t (λe=>by have:=(h1.tight _ (f _ (hS _ e))).1;omega),E.keep,E.Ya,E.gen⟩,S0,S,grow T w w',y,h2,q,λk e=>?_,A⟩;rcases hQ k e with h|h
 ·exact⟨.inl (f k h),by have:=(h1.tight k (f k h)).2;omega⟩
 ·exact⟨.inr h.1,h.2⟩
def qkd (b:Nat)(w:WD)(d p:Nat)(U Q V:NP)(D:DM)(P:Pl)(H0:LI)(its:List Qc)(m:Nat)(g:Int)(e:Ending)(w':WD):Prop:=
 (∃r P',e=.returned (.tuple #[.int .i64 r,.int .i64 0])/\G8 b w w' d p U D P P' r H0 its m g/\Vb b w' d p U Q V D P'/\Turn V w w')\/((∃v,e=.returned (.tuple #[.int .i64 v,.int .i64 6]))/\P.C.free<17)
theorem qmw {S0:Sp}{I:Ct}{T0 y A:NP}(G:Ed b w d p U D P H m g)(h0:∀k,T0 k->U k)(h1:∀k,y k->U k)(Y:∀k,Q k->A k)(J:∀k,y k->V k){E:Option (Pl × Option Int)}(ho:Yq D S0 I [] H0 P its 17 E)(hl:∀P' r,E=some (P',r)->P.like P')
  {f:FuncId} {q:Array Value} (K:∀P' r,E=some (P',r)->Calls prog f q w (Ak b d p T0 y A D w P' r)):Calls prog f q w (qkd b w d p U Q V D P H0 its m g):=by
 rcases ho with⟨P',r,B,F⟩|⟨P',B,hf⟩
 ·refine (K _ _ B).mono ?_;rintro e w' ⟨v,rfl,hv,u,X,W,td⟩;have:=hv r rfl;subst this;have O:=hl _ _ B;have ext:∀l a t,a∈H0->Qs (P.store D) l a t->Qs (P'.store D) l a t:=λl a t Z ht=>q4y.1 (F.old l a t Z (q4y.2 ht))
  have tr:=qf5.1 F.tree;exact .inl ⟨v,P',rfl,⟨⟨⟨T0,y,A,u,h0,h1⟩,λk M=>⟨(G.low k M).1,by have:=(G.low k M).2;have:=X.size;omega⟩,W,⟨S0,I,F.keep⟩,G.Ya,by rw[O.1];exact G.gen⟩,tr,O,F.n,F.free,ext,X.mono h1⟩,⟨T0,y,A,u,h0,h1,Y,J⟩,X.mono J⟩
 ·refine (K _ _ B).mono ?_;rintro e w' ⟨v,rfl,_,u,X,W,td⟩;exact .inr ⟨⟨v,rfl⟩,hf⟩
theorem Ed.Ii {k:Kd}{v:LU}(E:Ed b w d p U D P (Ul root++(nmI ⟨k,v⟩++H0)) m g)(hQ:Vb b w d p U Q V D P)(hb:1<b)(f:Jg (P.store D) root its)(hr:Qo its)(hf:∀x∈its,Zx x)(hx:Zx ⟨k,v⟩)(hdx:Dat (P.tell D) ⟨k,v⟩)(hfew:its.length<1000)(hH0:H0.length<=10000)(VV:OA)(q c:Nat)(hV:Sl w VV q c v)(hVU:v≠[]->∀g,q01 VV=some g->¬U g) :
  Calls prog 41 #[.pointer (some ⟨p,0,none⟩),.int .i64 root,.agg #[.int .i64 k.obj,.int .i64 k.kind,.int .i64 k.off],.slice VV q c] w (qkd b w d p U Q V D P H0 (Yh k v false its) m g):=by
 obtain⟨J,M,O,F,h0,h1,h2,y⟩:=hQ;obtain⟨S0,I,K⟩:=E.keep;replace f:=qf5.2 f;have B:q<=28:=by
  have:=hV.len;have:=hx.2;have e:(⟨k,v⟩:Qc).v=v:=rfl;rw[e] at this;omega
 exact qmw E h0 h1 h2 y (qwk K f hr hf hx (by rw[q2d];exact hdx) hfew hH0) (λ_ _ h=>qt9 h) λP' r e=>qx9 F hb E.tab E.tidy root k VV q c v (λu X=>hV.turned' X λG g A h=>hVU G g A (h1 g h)) hx.1 B e
theorem Ed.Lj (E:Ed b w d p U D P (Ul root++H0) m g)(hQ:Vb b w d p U Q V D P)(hb:1<b)(f:Jg (P.store D) root its)(hr:Qo its)(hf:∀x∈its,Zx x)(k:Kd)(hfew:its.length<1000)(hH0:H0.length<=10000)(hk:∃x∈its,x.k.same k=true) :
  Calls prog 50 #[.pointer (some ⟨p,0,none⟩),.int .i64 root,.agg #[.int .i64 k.obj,.int .i64 k.kind,.int .i64 k.off]] w (qkd b w d p U Q V D P H0 (U2 k its) m g):=by
 obtain⟨J,M,O,F,h0,h1,h2,q⟩:=hQ;obtain⟨S0,I,K⟩:=E.keep;replace f:=qf5.2 f;have u:root≠0:=by
  rcases f with⟨rfl,_⟩|⟨l,_,_,h,_⟩
  ·obtain⟨x,G,_⟩:=hk
   cases G
  ·omega
 obtain⟨up,s,A,W,y,B⟩:=qwl K f hr hf u k hfew hH0;exact qmw E h0 h1 h2 q (B (y.2 hk)) (λ_ _ h=>qta h) λP' r e=>qxa F hb E.tab E.tidy root k A (y.2 hk) e
theorem Ed.Qa7 (E:Ed b w d p U D P H m g)(hQ:Vb b w d p U Q V D P)(hb:1<b)(hm:m<=500000)(hg:g<=1000000) :
  Calls prog 25 #[.pointer (some ⟨p,0,none⟩)] w λe w'=>e=.returned (.int .i64 0)/\Ed b w' d p (grow U w w') (D.Qj P.steps) P.done H (m+2100) (g+1)/\Vb b w' d p (grow U w w') Q V (D.Qj P.steps) P.done/\Turn U w w'/\∀l a t,Qs (P.store D) l a t->Qs (P.done.store (D.Qj P.steps)) l a t:=by
 obtain⟨y,A,G,F,h0,h1,h2,B⟩:=hQ;obtain⟨S0,W,K⟩:=E.keep;have u:P.g<1099511627775:=by have:=E.gen;unfold Pl.g;omega
 refine (qrq F hb E.tab E.Ya hm u).mono ?_;rintro e w' ⟨rfl,q,X,O⟩;obtain⟨c1,c2,_⟩:=qri K.Zo.ok K.Zo.sound;rw[c1];rw[c2] at q;obtain⟨M,ext,_⟩:=qjx K u;have Y:=X.size;have I:∀k,grow y w w' k->grow U w w' k:=λk f=>⟨f.1.imp (h0 k) id,f.2⟩
 have J:∀k,A k->grow U w w' k:=λk f=>⟨.inl (h1 k f),by have:=(E.low k (h1 k f)).2;omega⟩
 refine⟨rfl,⟨⟨grow y w w',A,grow G w w',q,I,J⟩,λk f=>⟨f.1.elim (λh=>(E.low k h).1) λh=>by have:=F.base;omega,f.2⟩,O,⟨_,_,M⟩,(q3j _ E.Ya).mono (by have:=qw9 K.Zo.ok;omega),by show P.S.gen+1<=g+1;have:=E.gen;omega⟩,⟨grow y w w',A,grow G w w',q,I,J,λk f=>⟨.inl (h2 k f),by have:=(F.tight k (h2 k f)).2;omega⟩,B⟩,X.mono λk f=>f.elim (h0 k) (h1 k),λl a t h=>q10 ext h⟩
end
