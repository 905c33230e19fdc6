/- The code's edit: exchange of any way; Put and Delete -/
import Derived.Test.YthkfkhejjmhomaaGreatDoorEs34
import Derived.Test.YthkfkhejjmhomaaGreatDoorEs37
namespace Go.Proofs.YthkfkhejjmhomaaGreatDoor
open Go Go.RowKit Go.Proofs
set_option maxHeartbeats 8000000
set_option maxRecDepth 100000
section
variable {b:Nat}{d p:Nat}{S0 S:Nat->Prop}{D:DM}
theorem qb4 (hb:1<b):∀(way:List Qs) {w:World} {T:Nat->Prop} {P P':Pl} (_:Qe b w d p S0 S T D P) (_:Tab w) (_:P.tidy) (s:Qs) (_:s.N.fit) (_:s.N.size<=12) (_:0<=s.N.lvl/\s.N.lvl<8) (_:Vo s way) (X:Option Addr) (n c:Nat) (_:∀u,Turn S w u->Vd (Turn S w) u X n c (way.reverse++[s])) (_:n<=20)
  (f:Nd) (_:f.fit) (_:f.size<=7) (_:f.lvl=s.N.lvl) (E:Option Addr) (J c2:Nat) (F:Option Addr) (I G:Nat) (_:Jg (Turn S w) f E J c2 F I G) (i j:Nat) (_:i<=j) (_:j<=s.N.size) {r:Option Int} (_:Y8 D way P s i j f=some (P',r)),
  Calls Tryz.prog 110 #[tv p,.slice X n c,.int .i64 (i:Int),.int .i64 (j:Int),Xo f.lvl E J c2 F I G] w (Gq b d p S0 S T D w P' r)
 |[],w,T,P,P',H,ht,hP,s,hfs,hss,hsl,hwf,X,n,c,hX,hn,f,hfc,hcs,hcl,E,J,c2,F,I,G,hB,i,j,hi,hj,r,hex=>by
  obtain⟨P1,hr,_⟩:=qkr hex;exact qct H hb ht hP s [] hfs hss hsl X n c hX hn f hfc hcs hcl E J c2 F I G hB i j hi hj hex hr (Lib.hid hwf) (λt M e=>by cases e)
 |t::way,w,T,P,P',H,ht,hP,s,hfs,hss,hsl,hwf,X,n,c,hX,hn,f,hfc,hcs,hcl,E,J,c2,F,I,G,hB,i,j,hi,hj,r,hex=>by
  obtain⟨P1,x,P2,P3,r2,hr,_⟩:=qgd hex;refine qct H hb ht hP s (t::way) hfs hss hsl X n c hX hn f hfc hcs hcl E J c2 F I G hB i j hi hj hex hr (Lib.hid hwf) (λt' M e=>?_);injection e with e1 e2;subst e1 e2;intro T2 w2 P3 H2 a3 Z f2 s2 l2 a4 a0 y W Q O A n' c' B m' d' Y i2 j2 a1 a2 K;exact qb4 hb way H2 a3 Z t f2 s2 l2 a4.out X (n-1) c a0 (by omega) y W Q O A n' c' B m' d' Y i2 j2 a1 a2 K
end
theorem qiy {N:Nd}(u:N.fit)(h0:N.lvl=0)(k:Kd):N.Zb k<=N.size/\(Kz N.keys k (N.Zb k)=true->N.Zb k<N.size):=by
 have f:=u.1 h0;have e:N.Zb k=lead N.keys k:=if_pos h0;have y:N.keys.length=N.items.length:=by unfold Nd.keys;rw[f];simp
 have A:N.size=N.items.length:=by unfold Nd.size;rw[f];simp
 have h1:=qbi N.keys k;refine⟨by omega,λh=>?_⟩;unfold Kz at h;rw[Bool.and_eq_true] at h;have:=of_decide_eq_true h.1;omega
theorem qiz (s:Qs)(j:Nat)(up:List Qs):Vo { s with next:=j } up↔Vo s up:=by
 cases up with
 |nil=>exact Iff.rfl
 |cons t way=>exact Iff.rfl
theorem q5s:∀(up:List Qs) (s:Qs),s.N.lvl<8->Vo s up->s.N.lvl+(up.length:Int)<=7
 |[],s,h,_=>by simp;omega
 |t::way,s,h,hw=>by
  obtain⟨_,_,u,e,_,f⟩:=hw;have:=q5s way t e f;rw[List.length_cons];omega
structure Ny (up:List Qs)(s:Qs):Prop where
 fit:s.N.fit
 size:s.N.size<=12
 lvl:s.N.lvl=0
 way:Vo s up
theorem qgs {P:Pl}{D:DM}(hm:∀a,P.Qd D a=0->(P.Qa D a).may=true)(k:Kd):∀(f:Nat) (s:Qs) (up:List Qs) {e:List Qs} {u:Qs},s.N.may=true->Vo s up->P.Gn D k f s up=some (e,u)->Ny e u
 |0,s,up,e,u,hs,hw,h=>by
  have h:(if s.N.lvl<=0 then some (up,s) else none)=some (e,u):=h;have B:=q85 hs;split at h
  ·injection Option.some.inj h with y A;subst y A;exact⟨q1n hs,q62 hs,by omega,hw⟩
  ·cases h
 |f+1,s,up,e,u,hs,hw,h=>by
  have h:(if s.N.lvl<=0 then some (up,s) else if P.Wi D s (s.N.Zb k)=true then P.Gn D k f (P.Jf D s (s.N.Zb k)) ({ s with next:=s.N.Zb k }::up) else none)=some (e,u):=h;have B:=q85 hs;split at h
  ·injection Option.some.inj h with y A;subst y A;exact⟨q1n hs,q62 hs,by omega,hw⟩
  ·split at h
   ·rename_i E;obtain⟨G,F,I⟩:=of_decide_eq_true E;refine qgs hm k f _ _ (hm _ F) ?_ h;refine⟨q1n hs,q62 hs,?_,B.2,?_,(qiz s _ up).2 hw⟩
    ·show s.N.lvl=(P.Qa D (Qh s.N.kids (s.N.Zb k)).a).lvl+1;omega
    ·show s.N.Zb k+1<=s.N.size;unfold Nd.size;omega
   ·cases h
theorem qek {P:Pl}{D:DM}(hm:∀a,P.Qd D a=0->(P.Qa D a).may=true){root:Int}{k:Kd}{up:List Qs}{s:Qs}(h:P.way D root k=some (up,s)):Ny up s:=by
 unfold Pl.way at h;split at h
 ·injection Option.some.inj h with e f;subst e f;exact⟨⟨λ_=>rfl,λh=>absurd rfl h⟩,by decide,rfl,trivial⟩
 ·split at h
  ·rename_i u;exact qgs hm k 8 _ [] (hm root u) trivial h
  ·cases h
theorem qel {w:World}{g o kc k q:Nat}{s:Qs}{A:Option Addr}{n c:Nat}{B:Option Addr}{m d:Nat}(E:w.rangeAt g (o+q*7) (D9 s A n c B m d))(O:g<w.1.size)(W:k=q+1)(y:k<=1000) :
  Calls Tryz.prog 109 #[.slice (some ⟨g,o,none⟩) k kc] w λe w'=>e=.returned (Vb s A n c B m d)/\Below w.1.size w w':=by
 obtain⟨N,u,F,hd,G⟩:=s;have f:Below w.1.size w (w.alloc Ud):=Qn;have I:=Ig w;have cell:∀(j:Nat) v,(D9 ⟨N,u,F,hd,G⟩ A n c B m d)[j]?=some v->(w.alloc Ud).cell? ⟨g,o+q*7+j,none⟩=some v:=λj v X=>(f.cell (p:=⟨g,_,none⟩) O).trans (E j v X)
 have M:=cell 0 _ rfl;have Y:=cell 1 _ rfl;have Z:=cell 2 _ rfl;have f3:=cell 3 _ rfl;have f4:=cell 4 _ rfl;have f5:=cell 5 _ rfl;have f6:=cell 6 _ rfl;rw[Nat.add_zero] at M;have hw:IntKind.i64.wrap ((k:Int)-1)=(q:Int):=by
  have:(k:Int)-1=(q:Int):=by omega
  rw[this];exact IntWalk.i64_in _ (by omega)
 have hj:(0:Int)<=(q:Int):=by omega
 have Q:(q:Int)<(k:Int):=by omega
 clear cell E W;go_enter Tryz.func109,Tryz.ntmps109
 go_wp2_with (first
  |(refine Og rfl _ _ rfl w.1.size rfl N.lvl A n c B m d u (F:Int) hd G rfl I rfl ?_;intro wz J K)
  |fail)
 refine bodyPost_ret (Ol Tryz.results109 rfl (q5n J)) rfl ?_;exact⟨rfl,f.trans (K.below (λk y=>by have:k=w.1.size:=y;omega) f.size)⟩
section
theorem qxs {S:Nat->Prop}{w:World}(A:∀k,S k->k<w.1.size)(k:Kd){V:Option Addr}{q c:Nat}{v:List UInt8}(B:∀u,Turn S w u->Sl u V q c v) :
  Jg (Turn S (w.alloc (.cells #[.int .i64 k.obj,.int .i64 k.kind,.int .i64 k.off,.slice V q c] 50))) ⟨0,[⟨k,v⟩],[]⟩ (some ⟨w.1.size,0,none⟩) 1 1 none 0 0:=by
 have h0:Js (w.alloc (.cells #[.int .i64 k.obj,.int .i64 k.kind,.int .i64 k.off,.slice V q c] 50)) 4 (some ⟨w.1.size,0,none⟩) 1 1 [Vh k V q c]:=(q1q w 50 4 (Vh k V q c) _ rfl rfl).Kt (by omega);refine⟨⟨[Vh k V q c],λu f=>q5q h0 f (λg e E=>by injection e with e;have e:w.1.size=g:=e;have:=A g E;omega),rfl,λj r x y F=>?_⟩,λu f=>q8a u 4,rfl,rfl,⟨by omega,by omega,by unfold maxLen;omega⟩,⟨by omega,by omega,by unfold maxLen;omega⟩⟩;match j with
 |0=>
  obtain rfl:=Option.some.inj y;obtain rfl:=Option.some.inj F;exact⟨V,q,c,rfl,λu f=>B u ((Qu (S:=S) (Qn)).then f)⟩
 |j+1=>simp at y
theorem qem (l:Int)(A:Option Addr)(n c:Nat)(B:Option Addr)(m d:Nat)(a x:Int)(h s:Bool)(w:World):(Instr.field 180 (.agg #[.int .i64 l,.slice A n c,.slice B m d,.int .i64 a,.int .i64 x,.bool h,.bool s]) 0).run Tryz.prog w=.ok (Xo l A n c B m d) w:=by
 kernel_rfl
theorem qb5 (l:Int)(A:Option Addr)(n c:Nat)(B:Option Addr)(m d:Nat)(w:World):(Instr.field 178 (Xo l A n c B m d) 0).run Tryz.prog w=.ok (Xo l A n c B m d) w:=by
 unfold Xo;kernel_rfl
def Qat (v:Value):Sem Value:=Instr.field 180 v 0
theorem qr7 (v:Value):Instr.field 180 v 0=Qat v:=rfl
def Qas (v:Value):Sem Value:=Instr.field 178 v 0
theorem qr8 (v:Value):Instr.field 178 v 0=Qas v:=rfl
attribute [local go_sem ↓] qr7
attribute [local go_sem ↓] qr8
section
variable {b:Nat}{w:World}{d p:Nat}{S0 S T:Nat->Prop}{D:DM}{P P':Pl}
theorem quw (H:Qe b w d p S0 S T D P)(hb:1<b)(ht:Tab w)(hP:P.tidy)(root:Int)(k:Kd)(V:Option Addr)(q c:Nat)(v:List UInt8)(hV:∀u,Turn S w u->Sl u V q c v)(hk:k.may=true)(hq:q<=28){r:Option Int}(hp:P.Pn D root ⟨k,v⟩=some (P',r)) :
  Calls Tryz.prog 64 #[.pointer (some ⟨p,0,none⟩),.int .i64 root,.agg #[.int .i64 k.obj,.int .i64 k.kind,.int .i64 k.off],.slice V q c] w (Gq b d p S0 S T D w P' r):=by
 have hS:=H.low;obtain⟨up,s,hw,f⟩:∃up s,P.way D root k=some (up,s)/\Y8 D up P s (s.N.Zb k) (s.N.Zb k+if Kz s.N.keys k (s.N.Zb k)=true then 1 else 0) ⟨0,[⟨k,v⟩],[]⟩=some (P',r):=by
  unfold Pl.Pn at hp;dsimp only at hp
  cases e:P.way D root k with
  |none=>rw[e] at hp;cases hp
  |some y=>rw[e] at hp;exact⟨y.1,y.2,rfl,hp⟩
 have hm:=λa h=>H.may a h
 obtain⟨lf,ls,Z,lw⟩:=qek hm hw;have Hw:=λ(u:World) (hu:Below w.1.size w u)=>q9o (H.below hu) (ht.below hu ht.1) hP.kind (qiu hm) root k hw
 have a6:=q5s up s (by omega) lw;rw[Z] at a6;have a6:up.length<=7:=by omega
 have Hm:=Lib.hid (λw=>q2p k true hk w);obtain⟨K1,b1⟩:=Ym w k;have b9:¬((28:Int)<(q:Int)):=by omega
 unfold tv at Hw;replace Hw:=Lib.hid Hw;obtain⟨i,hi⟩:∃i,s.N.Zb k=i:=⟨_,rfl⟩;obtain⟨M,G⟩:=qiy lf Z k;rw[hi] at f M G;clear hp hw;go_enter Tryz.func64,Tryz.ntmps64
 go_wp2_with fail
 generalize w.alloc (.cells #[.int .i64 k.obj,.int .i64 k.kind,.int .i64 k.off] 45)=w1 at K1 b1 ⊢;have c0:=K1.c0;have c1:=K1.c1;have c2:=K1.c2;go_wp2_with fail
 refine (Hm.out _).mono ?_;rintro e w2 ⟨rfl,b2⟩;clear c0 c1 c2;have K2:=K1.below b2 K1.lt;have bt:Below w2.1.size w2 (w2.alloc (.cells #[.pointer (some ⟨p,0,none⟩)] 173)):=Qn;have T3:=RB.new w2 [.pointer (some ⟨p,0,none⟩)] 173;have K3:=K2.below bt K2.lt;have b3:=b1.trans ((b2.trans (bt.mono b2.size)).mono b1.size);have c0:=K3.c0;have c1:=K3.c1;have c2:=K3.c2;go_wp2_with fail
 generalize (w2.alloc (.cells #[.pointer (some ⟨p,0,none⟩)] 173))=w3 at bt T3 K3 b3 c0 c1 c2 ⊢;refine (Hw.out w3 b3).mono ?_;rintro e w4 ⟨X,n,xc,rfl,I,a7,b4⟩;have J:=I.len;rw[List.length_append,List.length_reverse] at J;have J:up.length+1=n:=J;obtain⟨g,o,A,an,ac,B,bm,bd,rfl,hg,Y,E⟩:=I.get (show n-1<n by omega);have b0:Yx (up.reverse++[s]) (n-1)=s:=by
  have:=q3o up.reverse s;rw[List.length_reverse] at this;rw[show n-1=up.length by omega];exact this
 rw[b0] at Y E;have T4:=T3.below b4 T3.lt;have K4:=K3.below b4 K3.lt;have c7:=E.hn;have c6:=E.hm;obtain⟨rf,a3⟩:∃rf,Kz s.N.keys k i=rf:=⟨_,rfl⟩;rw[a3] at f G;have HL:=Lib.hid (λu:Grown w4=>qel (kc:=xc) (k:=n) (q:=n-1) (w:=u.to) (λj v hv=>(u.ok.cell (p:=⟨g,_,none⟩) hg).trans (Y j v hv)) (by have:=u.ok.size;omega) (by omega) (by omega));have O:=Lib.hid (λu:Grown w4=>q28 s.N lf k i hi rf a3 A an ac B bm bd u.to (E.its.J5 (Qu (S:=λk=>k<w3.1.size) (u.ok))) (E.Bd _ (Qu (S:=λk=>k<w3.1.size) (u.ok))) (by omega) (by omega));clear c0 c1 c2 hi a3;have c0:=λu:Grown w4=>Grown.cell K4.c0 K4.lt u
 have c1:=λu:Grown w4=>Grown.cell K4.c1 K4.lt u
 have c2:=λu:Grown w4=>Grown.cell K4.c2 K4.lt u
 obtain⟨sN,ad,nx,hd,sh⟩:=s;unfold Vb at HL;dsimp only at HL O f M G lf ls Z lw;rw[Z] at HL O;have a1:=λw=>qem 0 A an ac B bm bd ad (nx:Int) hd sh w
 have a2:=λw=>qb5 0 A an ac B bm bd w
 unfold Xo at a1 a2;replace Z:=Lib.hid Z;change ∀w,(Qat _).run _ w=_ at a1;change ∀w,(Qas _).run _ w=_ at a2;go_wp2_with fail
 refine Ua (by kernel_rfl) (by kernel_rfl) ?_;repeat (go_big_quiet_step (first|(go_at_call 109;exact Calls.grown (HL.out _))|(go_at_call 97;exact Calls.grown (O.out _))|fail))
 refine wpQuiet_nil ?_;rintro _ ⟨u,rfl⟩;have b5:=u.ok;generalize u.to=w5 at b5 ⊢;clear c0 c1 c2 u HL O a1 a2;have Q:=b3.trans ((b4.trans (b5.mono b4.size)).mono b3.size);have c8:=Q.size;have b6:Below w5.1.size w5 (w5.alloc (.cells #[.int .i64 k.obj,.int .i64 k.kind,.int .i64 k.off,.slice V q c] 50)):=Qn;have K:=qxs (S:=S) (w:=w5) (λk hk=>by have:=hS k hk;omega) k (λu hu=>hV u ((Qu (S:=S) Q).then hu));have W:=Q.trans (b6.mono Q.size);have a4:Below w4.1.size w4 (w5.alloc (.cells #[.int .i64 k.obj,.int .i64 k.kind,.int .i64 k.off,.slice V q c] 50)):=b5.trans (b6.mono b5.size);have z3:=b3.size;have a0:∀u,Turn S (w5.alloc (.cells #[.int .i64 k.obj,.int .i64 k.kind,.int .i64 k.off,.slice V q c] 50)) u->Vd (Turn S (w5.alloc (.cells #[.int .i64 k.obj,.int .i64 k.kind,.int .i64 k.off,.slice V q c] 50))) u (some ⟨g,o,none⟩) n xc (up.reverse++[⟨sN,ad,nx,hd,sh⟩]):=λu hu=>
  ((I.below a4).turned hu λg' a8 h=>by have:=hS g' h;have:=a7 g' a8;omega).mono λv hv=>(Qu (S:=λk=>k<w3.1.size) a4).trans hv λk hk=>.inl (by have:=hS k hk;show k<w3.1.size;omega)
 have F:=λ(j:Nat) (a9:i<=j) (hj:j<=sN.size) (he:Y8 D up P ⟨sN,ad,nx,hd,sh⟩ i j ⟨0,[⟨k,v⟩],[]⟩=some (P',r))=>qb4 hb up (H.below W) (ht.below W ht.1) hP ⟨sN,ad,nx,hd,sh⟩ lf ls ⟨by rw[Z.out];omega,by rw[Z.out];omega⟩ lw (some ⟨g,o,none⟩) n xc a0 (by omega) ⟨0,[⟨k,v⟩],[]⟩ ⟨λ_=>rfl,λh=>absurd rfl h⟩ (by unfold Nd.size;simp) Z.out.symm (some ⟨w5.1.size,0,none⟩) 1 1 none 0 0 K i j a9 hj he
 unfold tv Xo at F;dsimp only at F;have K5:=K4.below b5 K4.lt;have T5:=T4.below b5 T4.lt;have y0:=T5.cell 0 rfl;have c0:=K5.c0;have c1:=K5.c1;have c2:=K5.c2;have b8:i<=12:=by have:sN.size<=12:=ls;omega
 cases rf with
 |false=>
  have Hx:=Lib.hid (F i (Nat.le_refl _) M f);clear F f M G a0 K I Y E;go_wp2_with fail
  refine Hx.out.mono ?_;rintro e w7 ⟨z,rfl,hz,H7,X7,t7,p7⟩;have TF:=(Qu (S:=S) W).then X7;go_wp2_with fail
  go_ret2;exact⟨z,rfl,hz,H7,TF,t7,p7⟩
 |true=>
  have b7:IntKind.i64.wrap ((i:Int)+1)=((i+1:Nat):Int):=by rw[show (i:Int)+1=((i+1:Nat):Int) by omega];exact IntWalk.i64_in _ (by omega)
  have Hx:=F (i+1) (Nat.le_succ _) (G rfl) f;obtain⟨i1,a5⟩:∃i1,i+1=i1:=⟨_,rfl⟩;rw[a5] at b7 Hx;replace Hx:=Lib.hid Hx;clear F f M G a0 K I Y E a5;go_wp2_with fail
  refine Hx.out.mono ?_;rintro e w7 ⟨z,rfl,hz,H7,X7,t7,p7⟩;have TF:=(Qu (S:=S) W).then X7;go_wp2_with fail
  go_ret2;exact⟨z,rfl,hz,H7,TF,t7,p7⟩
theorem qr9 (H:Qe b w d p S0 S T D P)(_:1<b)(ht:Tab w)(hP:P.tidy)(root:Int)(k:Kd){up:List Qs}{s:Qs}(hw:P.way D root k=some (up,s))(I:Kz s.N.keys k (s.N.Zb k)=false) :
  Calls Tryz.prog 66 #[.pointer (some ⟨p,0,none⟩),.int .i64 root,.agg #[.int .i64 k.obj,.int .i64 k.kind,.int .i64 k.off]] w λe w'=>e=.returned (.tuple #[.int .i64 0,.int .i64 10])/\Below w.1.size w w':=by
 have hS:=H.low;have hm:=λa h=>H.may a h
 obtain⟨lf,ls,O,lw⟩:=qek hm hw;have Hw:=λ(u:World) (hu:Below w.1.size w u)=>q9o (H.below hu) (ht.below hu ht.1) hP.kind (qiu hm) root k hw
 have Z:=q5s up s (by omega) lw;rw[O] at Z;have Z:up.length<=7:=by omega
 obtain⟨K1,b1⟩:=Ym w k;unfold tv at Hw;replace Hw:=Lib.hid Hw;obtain⟨i,hi⟩:∃i,s.N.Zb k=i:=⟨_,rfl⟩;obtain⟨a0,J⟩:=qiy lf O k;rw[hi] at a0 J I;have a3:=J;clear hw;go_enter Tryz.func66,Tryz.ntmps66
 go_wp2_with fail
 have bt:Below (w.alloc (.cells #[.int .i64 k.obj,.int .i64 k.kind,.int .i64 k.off] 45)).1.size (w.alloc (.cells #[.int .i64 k.obj,.int .i64 k.kind,.int .i64 k.off] 45)) ((w.alloc (.cells #[.int .i64 k.obj,.int .i64 k.kind,.int .i64 k.off] 45)).alloc (.cells #[.pointer (some ⟨p,0,none⟩)] 173)):=Qn;have T3:=RB.new (w.alloc (.cells #[.int .i64 k.obj,.int .i64 k.kind,.int .i64 k.off] 45)) [.pointer (some ⟨p,0,none⟩)] 173;rw[World.size_alloc] at T3;have K:=K1.below bt K1.lt;have b3:=b1.trans (bt.mono b1.size);have c0:=K.c0;have c1:=K.c1;have c2:=K.c2;go_wp2_with fail
 generalize ((w.alloc (.cells #[.int .i64 k.obj,.int .i64 k.kind,.int .i64 k.off] 45)).alloc (.cells #[.pointer (some ⟨p,0,none⟩)] 173))=w3 at T3 K b3 c0 c1 c2 ⊢;refine (Hw.out w3 b3).mono ?_;rintro e w4 ⟨X,n,xc,rfl,W,a4,b4⟩;have y:=W.len;rw[List.length_append,List.length_reverse] at y;have y:up.length+1=n:=y;obtain⟨g,o,A,an,ac,B,bm,bd,rfl,hg,Y,f⟩:=W.get (show n-1<n by omega);have a2:Yx (up.reverse++[s]) (n-1)=s:=by
  have:=q3o up.reverse s;rw[List.length_reverse] at this;rw[show n-1=up.length by omega];exact this
 rw[a2] at Y f;have T4:=T3.below b4 T3.lt;have M:=K.below b4 K.lt;have a6:=f.hn;have a5:=f.hm;have Q:=Lib.hid (λu:Grown w4=>qel (kc:=xc) (k:=n) (q:=n-1) (w:=u.to) (λj v hv=>(u.ok.cell (p:=⟨g,_,none⟩) hg).trans (Y j v hv)) (by have:=u.ok.size;omega) (by omega) (by omega));have E:=Lib.hid (λu:Grown w4=>q28 s.N lf k i hi false I A an ac B bm bd u.to (f.its.J5 (Qu (S:=λk=>k<w3.1.size) (u.ok))) (f.Bd _ (Qu (S:=λk=>k<w3.1.size) (u.ok))) (by omega) (by omega));clear c0 c1 c2 hi I bt K1;have c0:=λu:Grown w4=>Grown.cell M.c0 M.lt u
 have c1:=λu:Grown w4=>Grown.cell M.c1 M.lt u
 have c2:=λu:Grown w4=>Grown.cell M.c2 M.lt u
 obtain⟨sN,ad,nx,hd,sh⟩:=s;unfold Vb at Q;dsimp only at Q E a0 J a3 lf ls O lw;rw[O] at Q E;have F:=λw=>qem 0 A an ac B bm bd ad (nx:Int) hd sh w
 have G:=λw=>qb5 0 A an ac B bm bd w
 unfold Xo at F G;replace O:=Lib.hid O;change ∀w,(Qat _).run _ w=_ at F;change ∀w,(Qas _).run _ w=_ at G;go_wp2_with fail
 refine Ua (by kernel_rfl) (by kernel_rfl) ?_;repeat (go_big_quiet_step (first|(go_at_call 109;exact Calls.grown (Q.out _))|(go_at_call 97;exact Calls.grown (E.out _))|fail))
 refine wpQuiet_nil ?_;rintro _ ⟨u,rfl⟩;have b5:=u.ok;generalize u.to=w5 at b5 ⊢;clear c0 c1 c2 u Q E F G;have a1:=b3.trans ((b4.trans (b5.mono b4.size)).mono b3.size);go_wp2_with fail
 go_ret2;exact⟨rfl,a1⟩
theorem qux (H:Qe b w d p S0 S T D P)(hb:1<b)(ht:Tab w)(hP:P.tidy)(root:Int)(k:Kd){up:List Qs}{s:Qs}(hw:P.way D root k=some (up,s))(K:Kz s.N.keys k (s.N.Zb k)=true){r:Option Int}(hp:P.Oz D root k=some (P',r)) :
  Calls Tryz.prog 66 #[.pointer (some ⟨p,0,none⟩),.int .i64 root,.agg #[.int .i64 k.obj,.int .i64 k.kind,.int .i64 k.off]] w (Gq b d p S0 S T D w P' r):=by
 have J:Y8 D up P s (s.N.Zb k) (s.N.Zb k+1) ⟨0,[],[]⟩=some (P',r):=by
  unfold Pl.Oz at hp;rw[hw] at hp;exact hp
 have hS:=H.low;have hm:=λa h=>H.may a h
 obtain⟨lf,ls,M,lw⟩:=qek hm hw;have Hw:=λ(u:World) (hu:Below w.1.size w u)=>q9o (H.below hu) (ht.below hu ht.1) hP.kind (qiu hm) root k hw
 have a4:=q5s up s (by omega) lw;rw[M] at a4;have a4:up.length<=7:=by omega
 obtain⟨K1,b1⟩:=Ym w k;unfold tv at Hw;replace Hw:=Lib.hid Hw;obtain⟨i,hi⟩:∃i,s.N.Zb k=i:=⟨_,rfl⟩;obtain⟨a0,O⟩:=qiy lf M k;rw[hi] at J a0 O K;have a1:=O K;clear hw;go_enter Tryz.func66,Tryz.ntmps66
 go_wp2_with fail
 have bt:Below (w.alloc (.cells #[.int .i64 k.obj,.int .i64 k.kind,.int .i64 k.off] 45)).1.size (w.alloc (.cells #[.int .i64 k.obj,.int .i64 k.kind,.int .i64 k.off] 45)) ((w.alloc (.cells #[.int .i64 k.obj,.int .i64 k.kind,.int .i64 k.off] 45)).alloc (.cells #[.pointer (some ⟨p,0,none⟩)] 173)):=Qn;have T3:=RB.new (w.alloc (.cells #[.int .i64 k.obj,.int .i64 k.kind,.int .i64 k.off] 45)) [.pointer (some ⟨p,0,none⟩)] 173;rw[World.size_alloc] at T3;have K3:=K1.below bt K1.lt;have b3:=b1.trans (bt.mono b1.size);have c0:=K3.c0;have c1:=K3.c1;have c2:=K3.c2;go_wp2_with fail
 generalize ((w.alloc (.cells #[.int .i64 k.obj,.int .i64 k.kind,.int .i64 k.off] 45)).alloc (.cells #[.pointer (some ⟨p,0,none⟩)] 173))=w3 at T3 K3 b3 c0 c1 c2 ⊢;refine (Hw.out w3 b3).mono ?_;rintro e w4 ⟨X,n,xc,rfl,I,a5,b4⟩;have E:=I.len;rw[List.length_append,List.length_reverse] at E;have E:up.length+1=n:=E;obtain⟨g,o,A,an,ac,B,bm,bd,rfl,hg,Z,f⟩:=I.get (show n-1<n by omega);have a7:Yx (up.reverse++[s]) (n-1)=s:=by
  have:=q3o up.reverse s;rw[List.length_reverse] at this;rw[show n-1=up.length by omega];exact this
 rw[a7] at Z f;have T4:=T3.below b4 T3.lt;have Q:=K3.below b4 K3.lt;have b2:=f.hn;have b0:=f.hm;have HL:=Lib.hid (λu:Grown w4=>qel (kc:=xc) (k:=n) (q:=n-1) (w:=u.to) (λj v hv=>(u.ok.cell (p:=⟨g,_,none⟩) hg).trans (Z j v hv)) (by have:=u.ok.size;omega) (by omega) (by omega));have F:=Lib.hid (λu:Grown w4=>q28 s.N lf k i hi true K A an ac B bm bd u.to (f.its.J5 (Qu (S:=λk=>k<w3.1.size) (u.ok))) (f.Bd _ (Qu (S:=λk=>k<w3.1.size) (u.ok))) (by omega) (by omega));clear c0 c1 c2 hi K bt K1;have c0:=λu:Grown w4=>Grown.cell Q.c0 Q.lt u
 have c1:=λu:Grown w4=>Grown.cell Q.c1 Q.lt u
 have c2:=λu:Grown w4=>Grown.cell Q.c2 Q.lt u
 obtain⟨sN,ad,nx,hd,sh⟩:=s;unfold Vb at HL;dsimp only at HL F J a0 O a1 lf ls M lw;rw[M] at HL F;have W:=λw=>qem 0 A an ac B bm bd ad (nx:Int) hd sh w
 have Y:=λw=>qb5 0 A an ac B bm bd w
 unfold Xo at W Y;replace M:=Lib.hid M;change ∀w,(Qat _).run _ w=_ at W;change ∀w,(Qas _).run _ w=_ at Y;go_wp2_with fail
 refine Ua (by kernel_rfl) (by kernel_rfl) ?_;repeat (go_big_quiet_step (first|(go_at_call 109;exact Calls.grown (HL.out _))|(go_at_call 97;exact Calls.grown (F.out _))|fail))
 refine wpQuiet_nil ?_;rintro _ ⟨u,rfl⟩;have b5:=u.ok;generalize u.to=w5 at b5 ⊢;clear c0 c1 c2 u HL F W Y;have G:=b3.trans ((b4.trans (b5.mono b4.size)).mono b3.size);have b6:=G.size;have z3:=b3.size;have a2:∀u,Turn S w5 u->Vd (Turn S w5) u (some ⟨g,o,none⟩) n xc (up.reverse++[⟨sN,ad,nx,hd,sh⟩]):=λu hu=>
  ((I.below b5).turned hu λg' a6 h=>by have:=hS g' h;have:=a5 g' a6;omega).mono λv hv=>(Qu (S:=λk=>k<w3.1.size) b5).trans hv λk hk=>.inl (by have:=hS k hk;show k<w3.1.size;omega)
 have y:=qb4 hb up (H.below G) (ht.below G ht.1) hP ⟨sN,ad,nx,hd,sh⟩ lf ls ⟨by rw[M.out];omega,by rw[M.out];omega⟩ lw (some ⟨g,o,none⟩) n xc a2 (by omega) ⟨0,[],[]⟩ ⟨λ_=>rfl,λh=>absurd rfl h⟩ (by unfold Nd.size;simp) M.out.symm none 0 0 none 0 0 (qq4 _ 0) i (i+1) (Nat.le_succ _) a1 J;unfold tv Xo at y;dsimp only at y;have K5:=Q.below b5 Q.lt;have T5:=T4.below b5 T4.lt;have y0:=T5.cell 0 rfl;have a9:i<=12:=by have:sN.size<=12:=ls;omega
 have a8:IntKind.i64.wrap ((i:Int)+1)=((i+1:Nat):Int):=by rw[show (i:Int)+1=((i+1:Nat):Int) by omega];exact IntWalk.i64_in _ (by omega)
 obtain⟨i1,a3⟩:∃i1,i+1=i1:=⟨_,rfl⟩;rw[a3] at a8 y;have Hx:=Lib.hid y;clear y J a0 O a1 a2 I Z f a3;go_wp2_with fail
 refine Hx.out.mono ?_;rintro e w7 ⟨z,rfl,hz,H7,X7,t7,p7⟩;have TF:=(Qu (S:=S) G).then X7;go_wp2_with fail
 go_ret2;exact⟨z,rfl,hz,H7,TF,t7,p7⟩
end
end
structure Xc (R:Int->Nd × Int)(roots:List Int)(Ns:List (Int × Nd))(seen:Nat->Bool)(todo:List Int):Prop where
 got:∀x∈Ns,R x.1=(x.2,0)/\∃c:Nat,x.1=(c:Int)/\seen c=true
 all:∀c:Nat,seen c=true->(R (c:Int)).2=0->((c:Int),(R (c:Int)).1)∈Ns
 one:Ns.Pairwise λx y=>x.1≠y.1
 root:∀a:Nat,0<a->a<2048->(a:Int)∈roots->seen a=true\/(a:Int)∈todo
 kid:∀x∈Ns,∀y∈x.2.kids,∀a:Nat,y.a=(a:Int)->0<a->a<2048->seen a=true\/(a:Int)∈todo
section
variable {R:Int->Nd × Int}{roots:List Int}{Ns:List (Int × Nd)}{seen:Nat->Bool}{r:List Int}{x:Int}
end
theorem quy (n:Nat)(a:Int):(Ct.zero n).get a=0:=by
 unfold Ct.get Ct.zero nm;split
 ·show (List.replicate n (0:Int)).getD a.toNat 0=0;rw[List.getD_eq_getElem?_getD,List.getElem?_replicate];split<;>rfl
 ·rfl
theorem q39 (P:Pl)(D:DM):P.hide D []=P.tell D:=by
 funext a
 exact if_neg (by simp)
theorem qnd (P:Pl)(D:DM)(a:Int):(P.tell D a).1.named=(P.Qa D a).named:=by
 by_cases e:P.Qd D a=0
 ·rw[D5 e];rfl
 ·rw[q75 e];by_cases h0:P.C.get a=0
  ·rw[q32 h0]
  ·rw[qbm h0 e];rfl
theorem q6h {P:Pl}{D:DM}:∀{l:Nat} {a:Int} {its:List Qg},Qi (P.tell D) l a its↔Qi (P.store D) l a its
 |0,a,its=>by
  constructor
  ·intro h;have e:P.Qd D a=0:=qez (by rw[h.1]) (by rw[h.1];exact Int.le_refl 0);exact⟨by rw[<-D5 e];exact h.1,h.2⟩
  ·intro h;have e:P.Qd D a=0:=congrArg Prod.snd h.1;exact⟨by rw[D5 e];exact h.1,h.2⟩
 |l+1,a,its=>by
  constructor
  ·rintro⟨kids,parts,h1,h2,y,A,f⟩;have e:P.Qd D a=0:=qez (by rw[h1]) (by rw[h1];exact Int.natCast_nonneg (l+1));exact⟨kids,parts,by rw[<-D5 e];exact h1,h2,y,A,λj u=>⟨q6h.1 (f j u).1,(f j u).2⟩⟩
  ·rintro⟨kids,parts,h1,h2,y,A,f⟩;have e:P.Qd D a=0:=congrArg Prod.snd h1;exact⟨kids,parts,by rw[D5 e];exact h1,h2,y,A,λj u=>⟨q6h.2 (f j u).1,(f j u).2⟩⟩
theorem q2g {P:Pl}{D:DM}{l:Nat}{a:Int}{its:List Qg}:Qi (P.hide D []) l a its↔Qi (P.store D) l a its:=by rw[q39];exact q6h
theorem q9s {P:Pl}{D:DM}{root:Int}{its:List Qg}:Zl (P.hide D []) root its↔Zl (P.store D) root its:=by
 unfold Zl;constructor
 ·rintro (h|⟨l,h1,h2,e⟩)
  ·exact .inl h
  ·exact .inr ⟨l,h1,q2g.1 h2,e⟩
 ·rintro (h|⟨l,h1,h2,e⟩)
  ·exact .inl h
  ·exact .inr ⟨l,h1,q2g.2 h2,e⟩
theorem qne {n:Nat}(h1:32<=n)(h2:n<=2048):Keep ((DM.mk0 n).Qx (Xq n)) (fmtS n) (Ct.zero n) [] [] (Pl.fresh n):=by
 obtain⟨_,h,_⟩:=qk7 (D:=DM.mk0 n) h1 h2 rfl ⟨rfl,rfl⟩;have e:∀a:Int,(Pl.fresh n).C.get a=0:=quy n;refine⟨⟨qtp h1 h2,h,λa b y=>(by cases y)⟩,λa u=>absurd (e a) (q2w u),⟨λa _ _=>?_⟩,λx A=>(by cases A),λa _ h0=>absurd (e a) h0⟩;have f:∀b,(Pl.fresh n).cnt b=0:=λb=>by unfold Pl.cnt;rw[e];rfl
 rw[f];have:refs (λb=>((Pl.fresh n).hide ((DM.mk0 n).Qx (Xq n)) [] (b:Int)).1.named) (Pl.fresh n).C.n (Pl.fresh n).cnt a=0:=q5v λb _=>by rw[f];rfl
 rw[this];rfl
section
variable {D:DM}{S0:Sp}{C0:Ct}{H:List Int}{P:Pl}
theorem Keep.Ii (K:Keep D S0 C0 [] H P):P.Vz D H:=Jz.same K.Vz (λ_ _=>rfl) λb _ _=>by rw[q39,qnd];rfl
theorem Keep.Yp (K:Keep D S0 C0 [] H P):P.Yp D:=by
 have L:=λ{a:Nat} (f:P.Qd D (a:Int)=0)=>by
  have e:=D5 f;have hm:=q1y K.Ze f;have:=K.Qbe (x:=(a:Int)) (by rw[q39,e];exact f) (by rw[q39,e];exact (q85 hm).1);rw[q39] at this;exact this
 refine⟨λa _ _ f=>q1y K.Ze f,λa _ _ f x B c E=>?_,λa _ _ f x B=>?_⟩
 ·have h1:=(L f).data x (by rw[D5 f];exact B) c E;exact (q7q K.Ze h1).2
 ·obtain⟨I,F,J,_⟩:=(L f).kids x (by rw[D5 f];exact B);have A:=q1y K.Ze f;have G:(P.tell D (a:Int)).1.lvl=(P.Qa D (a:Int)).lvl:=by rw[D5 f];rfl
  have M:1<=(P.Qa D (a:Int)).lvl:=by
   refine Classical.byContradiction λE=>?_
   have h0:(P.Qa D (a:Int)).lvl=0:=by have:=(q85 A).1;omega
   have e:(P.Qa D (a:Int)).kids=[]:=congrArg Nd.kids (q16 A h0).1;rw[e] at B
   cases B
  rw[G] at F;have u:=qez I (by omega);obtain⟨c,e,E⟩:=Uc (qbn I);have y:P.C.get (c:Int)≠0:=by rw[<-e];exact qbn I
  obtain⟨c0,_⟩:=K.first y
  rw[D5 u] at F J;rw[e] at F J u;exact⟨c,e,c0,E,y,u,F,J⟩
end
theorem qgt {α:Type}:∀{l l':List α},l.Nodup->(∀x∈l,x∈l')->l.length<=l'.length
 |[],_,_,_=>Nat.zero_le _
 |x::t,l',hn,hs=>by
  obtain⟨h1,h2⟩:=List.nodup_cons.1 hn;obtain⟨s,u,rfl⟩:=List.append_of_mem (hs x (List.mem_cons_self ..));have:=qgt (l':=s++u) h2 λy e=>by
   have f:=hs y (List.mem_cons_of_mem _ e);rcases List.mem_append.1 f with h|h
   ·exact List.mem_append_left _ h
   ·rcases List.mem_cons.1 h with h|h
    ·exact absurd (h▸e) h1
    ·exact List.mem_append_right _ h
  rw[List.length_append,List.length_cons] at *;simp only[List.length_cons];omega
theorem ql5 {α:Type}{p a b c d:α->Bool}:∀(l:List α),(∀x∈l,p x=true->a x=true\/b x=true\/c x=true\/d x=true)->l.countP p<=l.countP a+(l.countP b+(l.countP c+l.countP d))
 |[],_=>by simp
 |x::t,h=>by
  have A:=ql5 t λy u=>h y (List.mem_cons_of_mem _ u)
  have f:=h x (List.mem_cons_self ..);simp only[List.countP_cons];by_cases e:p x=true
  ·rcases f e with h|h|h|h<;>rw[if_pos h,if_pos e]<;>split<;>omega
  ·rw[if_neg e];omega
def Jl (R:Int->Nd × Int):Nat->Int->List Int
 |0,a=>[a]
 |l+1,a=>a::(R a).1.kids.flatMap λx=>Jl R l x.a
theorem q8h (R:Int->Nd × Int):∀(l:Nat) (a:Int),a∈Jl R l a
 |0,_a=>List.mem_cons_self ..
 |_l+1,_a=>List.mem_cons_self ..
theorem q53 {R:Int->Nd × Int}:∀{l:Nat} {r b:Int} {its:List Qg},Qi R l r its->b∈Jl R l r->∀x∈(R b).1.kids,x.a∈Jl R l r
 |0,r,b,its,h,f,x,hx=>by
  obtain rfl:b=r:=List.mem_singleton.1 f;rw[h.1] at hx
  cases hx
 |l+1,r,b,its,h,f,x,hx=>by
  rcases List.mem_cons.1 f with rfl|f
  ·exact List.mem_cons_of_mem _ (List.mem_flatMap.2 ⟨x,hx,q8h R l x.a⟩)
  ·obtain⟨k,y,f⟩:=List.mem_flatMap.1 f;obtain⟨kids,parts,e,G,I,J,F⟩:=h;rw[e] at y;obtain⟨j,u,E⟩:=List.getElem_of_mem y;have B:Qh kids j=k:=by
    have:=q11 u;rw[List.getElem?_eq_getElem u,E] at this;exact (Option.some.inj this).symm
   have A:=(F j u).1;rw[B] at A;have:=q53 A f x hx;refine List.mem_cons_of_mem _ (List.mem_flatMap.2 ⟨k,?_,this⟩);rw[e];exact y
theorem qb6 {R:Int->Nd × Int}{l:Nat}(h:∀y:Ja,good1 R l y->(Jl R l y.1).length+2<=y.2.length):∀(G:List Ja),(∀x∈G,good1 R l x)->(G.flatMap λx=>Jl R l x.1).length+2*G.length<=(G.map (·.2)).flatten.length
 |[],_=>by simp
 |y::G,hg=>by
  have h1:=h y (hg y (List.mem_cons_self ..));have h2:=qb6 h G λx e=>hg x (List.mem_cons_of_mem _ e)
  simp only[List.flatMap_cons,List.map_cons,List.flatten_cons,List.length_append,List.length_cons];omega
section
variable {D:DM}{S0:Sp}{C0:Ct}{H:List Int}{P:Pl}
theorem qd0 (R:Int->Nd × Int)(l:Nat)(G:List Ja):((G.map Qp).flatMap λx=>Jl R l x.a)=G.flatMap λx=>Jl R l x.1:=by
 induction G with
 |nil=>rfl
 |cons y G ih=>rw[List.map_cons,List.flatMap_cons,List.flatMap_cons,ih];rfl
theorem Keep.few (K:Keep D S0 C0 [] H P):∀(l:Nat) (y:Ja),good1 (P.hide D []) l y->(Jl (P.hide D []) l y.1).length+2<=y.2.length
 |0,y,h=>by
  have:=K.long 0 y h;show 1+2<=_;omega
 |l+1,y,h=>by
  obtain⟨M,f,B,_,_⟩:=K.Fb h.1;have A:=(q3m f).1 h.2.1;obtain⟨G,e,rfl,E⟩:=f;have u:Qr ((l+1:Nat):Int)=6:=if_neg (by omega);rw[u,List.length_map] at A;have h2:=qb6 (λy F=>K.few l y F) G E;show (y.1::_).length+2<=_;rw[List.length_cons,e,qd0,<-B];omega
theorem Keep.Qaj (K:Keep D S0 C0 [] H P){l:Nat}{a:Int}{its:List Qg}(h:Qi (P.hide D []) l a its):(Jl (P.hide D []) l a).length<=its.length:=by
 obtain⟨M,u,B,A,F⟩:=K.Fb h
 cases l with
 |zero=>
  have:=h.2;show 1<=_;exact List.length_pos_iff.2 this
 |succ l=>
  obtain⟨G,e,rfl,E⟩:=u;have h2:=qb6 (λy I=>K.few l y I) G E;have f:=(Fe A.may (by rw[e];show ¬((l+1:Nat):Int)=0;omega)).2.2.2.1;rw[e] at f;have f:2<=(G.map Qp).length:=f;rw[List.length_map] at f;show (a::_).length<=_;rw[List.length_cons,e,qd0,<-B];omega
def Ct.used (C:Ct):Nat:=(List.range C.n).countP λa=>decide (nm C.now a≠0)
def Ct.kept (C:Ct):Nat:=(List.range C.n).countP λa=>decide (nm C.done a≠0)
theorem qra (C:Ct):C.n<=C.free+(C.first+(C.used+C.kept)):=by
 have h:=ql5 (p:=λ_=>true) (a:=λj=>C.may j) (b:=λj=>decide (j<C.first)) (c:=λa=>decide (nm C.now a≠0)) (d:=λa=>decide (nm C.done a≠0)) (List.range C.n) λx B _=>by
  by_cases h1:x<C.first
  ·exact .inr (.inl (decide_eq_true h1))
  ·by_cases h2:nm C.now x=0
   ·by_cases e:nm C.done x=0
    ·left
     unfold Ct.may Ct.Vg;simp[h2,e];omega
    ·exact .inr (.inr (.inr (decide_eq_true e)))
   ·exact .inr (.inr (.inl (decide_eq_true h2)))
 have u:(List.range C.n).countP (λ_=>true)=C.n:=by
  rw[List.countP_eq_length.2 λ_ _=>rfl,List.length_range]
 have A:(List.range C.n).countP (λj=>decide (j<C.first))<=C.first:=by
  generalize C.n=n;generalize C.first=f
  induction n with
  |zero=>simp
  |succ n ih=>
   rw[List.range_succ,List.countP_append];by_cases hn:n<f
   ·have:(List.range n).countP (λj=>decide (j<f))<=n:=by
     have:=List.countP_le_length (p:=λj=>decide (j<f)) (l:=List.range n);rw[List.length_range] at this;exact this
    simp[hn];omega
   ·simp[hn];omega
 have y:(List.range C.n).countP (λj=>C.may j)=C.free:=by unfold Ct.free Ct.J3;rfl
 rw[u,y] at h;unfold Ct.used Ct.kept;omega
def Aw (R:Int->Nd × Int)(L:List (Nat × Int × List Qg)):Prop:=∀x∈L,Qi R x.1 x.2.1 x.2.2
theorem qb7 {R:Int->Nd × Int}:∀{l:Nat} {r b:Int} {its:List Qg},Qi R l r its->b∈Jl R l r->∀x∈(R b).1.items,x∈its
 |0,r,b,its,h,f,x,hx=>by
  obtain rfl:b=r:=List.mem_singleton.1 f;rw[h.1] at hx;exact hx
 |l+1,r,b,its,h,f,x,hx=>by
  obtain⟨kids,parts,e,I,J,F,G⟩:=h;rcases List.mem_cons.1 f with rfl|f
  ·rw[e] at hx;cases hx
  ·obtain⟨k,A,f⟩:=List.mem_flatMap.1 f;rw[e] at A;obtain⟨j,u,E⟩:=List.getElem_of_mem A;have B:Qh kids j=k:=by
    have:=q11 u;rw[List.getElem?_eq_getElem u,E] at this;exact (Option.some.inj this).symm
   have y:=(G j u).1;rw[B] at y;have u:j<kids.length:=u;have h1:=qb7 y f x hx;rw[F];rw[List.getD_eq_getElem?_getD,List.getElem?_eq_getElem (by omega)] at h1;exact List.mem_flatten.2 ⟨_,List.getElem_mem (by omega),h1⟩
theorem Keep.used (K:Keep D S0 C0 [] H P){L:List (Nat × Int × List Qg)}{X:List Int}(hL:Aw (P.hide D []) L)(hH:∀a∈H,(∃x∈L,x.2.1=a)\/a∈X)(hX:∀a∈X,P.Qd D a≠0):P.C.used<=(L.map λx=>x.2.2.length).sum+((L.map λx=>(x.2.2.filterMap Y4).length).sum+X.length):=by
 have E:∀a:Nat,(a:Int)∈H->P.Qd D (a:Int)=0->∀x∈L,x.2.1=(a:Int)->(a:Int)∈L.flatMap λx=>Jl (P.hide D []) x.1 x.2.1:=λa _ _ x u e=>List.mem_flatMap.2 ⟨x,u,e▸q8h _ _ _⟩
 have h1:∀a:Nat,a<P.C.n->P.Qd D (a:Int)=0->(a:Int)∈L.flatMap λx=>Jl (P.hide D []) x.1 x.2.1:=λa J I=>
  q3e K.Ii K.Yp K.c K.Ze.ok.res (S:=λa:Nat=>(a:Int)∈L.flatMap λx=>Jl (P.hide D []) x.1 x.2.1) (λb W M O f=>by
   rcases hH _ O with⟨x,u,e⟩|h
   ·exact E b O f x u e
   ·exact absurd f (hX _ h)) (λb c W M a2 hc f Y ⟨y,F,e⟩=>by
   obtain⟨x,u,B⟩:=List.mem_flatMap.1 Y;refine List.mem_flatMap.2 ⟨x,u,?_⟩;rw[<-e];refine q53 (hL x u) B y ?_;rw[q39,D5 f];exact F) a J I
 have h2:∀a:Nat,a<P.C.n->P.C.get (a:Int)≠0->(a:Int)∈(L.flatMap λx=>Jl (P.hide D []) x.1 x.2.1)++((L.flatMap λx=>x.2.2.filterMap Y4)++X):=λa J h0=>by
  by_cases I:P.Qd D (a:Int)=0
  ·exact List.mem_append_left _ (h1 a J I)
  ·refine List.mem_append_right _ ?_;obtain⟨Z,_⟩:=K.first h0
   rcases K.Ii.by_ Z J ((q84 K.c).2 h0) with hm|⟨b,M,a1,hm⟩
   ·rcases hH _ hm with⟨x,u,e⟩|h
    ·have:=(q3v (hL x u)).2;rw[e] at this;exact absurd this I
    ·exact List.mem_append_right _ h
   ·have f:=q2x hm;refine List.mem_append_left _ ?_;obtain⟨x,u,B⟩:=List.mem_flatMap.1 (h1 b M f);rcases q86 K.Yp M hm with⟨_,_,_,_,k,_⟩|_
    ·exact absurd k I
    ·have Q:(a:Int)∈(P.Qa D (b:Int)).named:=hm;unfold Nd.named at Q;rcases List.mem_append.1 Q with h|h
     ·obtain⟨y,F,e⟩:=List.mem_map.1 h;obtain⟨c,A,_,_,_,G,_⟩:=K.Yp.kids b M (q3k f) f y F;rw[A] at e;rw[e] at G;exact absurd G I
     ·obtain⟨y,F,e⟩:=List.mem_filterMap.1 h;refine List.mem_flatMap.2 ⟨x,u,List.mem_filterMap.2 ⟨y,?_,e⟩⟩;refine qb7 (hL x u) B y ?_;rw[q39,D5 f];exact F
 have A:(((List.range P.C.n).filter λa=>decide (nm P.C.now a≠0)).map λa:Nat=>(a:Int)).length<=((L.flatMap λx=>Jl (P.hide D []) x.1 x.2.1)++((L.flatMap λx=>x.2.2.filterMap Y4)++X)).length:=by
  refine qgt ?_ λx u=>?_
  ·refine List.Pairwise.map _ (R:=λa b:Nat=>a≠b) (λa b h (e:(a:Int)=(b:Int))=>h (by omega)) ?_;exact List.nodup_range.filter _
  ·obtain⟨a,J,rfl⟩:=List.mem_map.1 u;obtain⟨A,G⟩:=List.mem_filter.1 J;have A:=List.mem_range.1 A;refine h2 a A λe=>of_decide_eq_true G ?_
   unfold Ct.get at e;rw[if_pos (by omega),Int.toNat_natCast] at e;exact e
 rw[List.length_map,<-List.countP_eq_length_filter,List.length_append,List.length_append] at A;have G:∀(L:List (Nat × Int × List Qg)),Aw (P.hide D []) L->(L.flatMap λx=>Jl (P.hide D []) x.1 x.2.1).length<=(L.map λx=>x.2.2.length).sum:=by
  intro L;induction L with
  |nil=>intro _;simp
  |cons x t ih=>
   intro h;have i1:=K.Qaj (h x (List.mem_cons_self ..));have i2:=ih λy F=>h y (List.mem_cons_of_mem _ F)
   rw[List.flatMap_cons,List.length_append,List.map_cons,List.sum_cons];omega
 have h5:(L.flatMap λx=>x.2.2.filterMap Y4).length=(L.map λx=>(x.2.2.filterMap Y4).length).sum:=by
  generalize L=L;induction L with
  |nil=>rfl
  |cons x t ih=>rw[List.flatMap_cons,List.length_append,List.map_cons,List.sum_cons,ih]
 have h6:=G L hL;have h7:P.C.used=(List.range P.C.n).countP λa=>decide (nm P.C.now a≠0):=rfl
 omega
end
def Pl.like (P P':Pl):Prop:=P'.S=P.S/\P'.C.done=P.C.done
theorem Pl.like.refl (P:Pl):P.like P:=⟨rfl,rfl⟩
theorem Pl.like.trans {P P' P'':Pl}(h:P.like P')(h2:P'.like P''):P.like P'':=⟨h2.1.trans h.1,h2.2.trans h.2⟩
theorem ql6 (P:Pl)(a:Int):P.like ⟨P.S,P.C.ref a,P.L⟩:=⟨rfl,by show (P.C.ref a).done=_;unfold Ct.ref;split<;>rfl⟩
theorem q8i (P:Pl)(a:Int):P.like ⟨P.S,P.C.Qj a,P.L⟩:=⟨rfl,by show (P.C.Qj a).done=_;unfold Ct.Qj;split<;>rfl⟩
theorem q9t (P:Pl)(N:Nd):P.like (P.Jm N):=by
 unfold Pl.Jm;split
 ·unfold Pl.lay;split
  ·exact⟨rfl,by show P.C.alloc.done=_;unfold Ct.alloc;split<;>rfl⟩
  ·exact .refl _
 ·exact .refl _
theorem quz (P:Pl)(a:Int)(N:Nd):P.like (P.Vm a N):=by
 unfold Pl.Vm;split
 ·exact⟨rfl,rfl⟩
 ·exact .refl _
theorem qd1:∀(l:List Int) {P P':Pl},Ui l P=some P'->P.like P'
 |[],P,P',h=>by cases h;exact .refl _
 |a::l,P,P',h=>by
  unfold Ui at h;split at h
  ·exact (ql6 P a).trans (qd1 l h)
  ·cases h
theorem q97:∀(l:List Int) {P P':Pl},G8 l P=some P'->P.like P'
 |[],P,P',h=>by cases h;exact .refl _
 |a::l,P,P',h=>by
  unfold G8 at h;split at h
  ·exact (q8i P a).trans (q97 l h)
  ·cases h
theorem q54 {P P':Pl}{s:Qs}{i j:Nat}(h:P.Qv s i j=some P'):P.like P':=by
 unfold Pl.Qv at h;split at h
 ·exact qd1 _ h
 ·split at h
  ·cases h;exact .refl _
  ·exact q97 _ h
theorem qgu {P P':Pl}{D:DM}{s:Qs}{i:Nat}(h:P.near D s i=some P'):P.like P':=by
 unfold Pl.near at h;split at h
 ·exact q54 h
 ·cases h
theorem qrb {P P':Pl}{D:DM}{s t:Qs}{b:Nd}{x:Ri}(h:P.have_ D s b t=some (x,P')):P.like P':=by
 unfold Pl.have_ at h;split at h
 ·cases h;exact .refl _
 ·split at h
  ·obtain⟨q,h1,h2⟩:=Option.map_eq_some_iff.1 h
   cases h2;exact qgu h1
  ·obtain⟨q,h1,h2⟩:=Option.map_eq_some_iff.1 h
   cases h2;exact qgu h1
theorem q8j {P P':Pl}{s:Qs}(h:P.leave s=some P'):P.like P':=by
 unfold Pl.leave at h;split at h
 ·cases h;exact .refl _
 ·split at h
  ·cases h;exact q8i P _
  ·cases h
theorem q7b:∀(l:List Qs) {P P':Pl} {r u:List Nd} {ks f:List Qm},Gh l P r ks=some (P',u,f)->P.like P'
 |[],P,P',r,u,ks,f,h=>by unfold Gh at h;cases h;exact .refl _
 |s::l,P,P',[],u,ks,f,h=>by
  unfold Gh at h;split at h
  ·rename_i y e;exact (q8j e).trans (q7b l h)
  ·cases h
 |s::l,P,P',b::r,u,ks,f,h=>by
  unfold Gh at h;split at h
  ·split at h
   ·rename_i y e;exact (q8j e).trans (q7b l h)
   ·cases h
  ·split at h
   ·exact (quz P _ _).trans (q7b l h)
   ·cases h
theorem ql7:∀(l:List Nd) {P P':Pl} {ks:List Qm} {q:Option (List Qm)},J8 l P ks=some (P',q)->P.like P'
 |[],P,P',ks,q,h=>by unfold J8 at h;cases h;exact .refl _
 |b::l,P,P',ks,q,h=>by
  unfold J8 at h;split at h
  ·exact (q9t P b).trans (ql7 l h)
  ·split at h
   ·cases h;exact q9t P b
   ·cases h
theorem q9u {P P':Pl}{x:Ri}{q:Option (List Qm)}(h:P.Y1 x=some (P',q)):P.like P':=by
 unfold Pl.Y1 at h;split at h
 ·rename_i u f y e;exact (q7b _ e).trans (ql7 _ h)
 ·cases h
theorem qv0 {P P':Pl}{s:Qs}{b:Nd}{r:Option Int}(h:P.top s b=some (P',r)):P.like P':=by
 unfold Pl.top at h;split at h
 ·obtain⟨q,h1,h2⟩:=Option.map_eq_some_iff.1 h
  cases h2;exact q8j h1
 ·split at h
  ·rename_i f u e;have h0:=q9u e;split at h
   ·cases h;exact h0
   ·split at h
    ·cases h;exact h0
    ·split at h
     ·cases h;exact h0.trans (q9t f _)
     ·split at h
      ·cases h;exact h0.trans (q9t f _)
      ·cases h
  ·rename_i f e
   cases h;exact q9u e
  ·cases h
theorem qb8 {D:DM}:∀(way:List Qs) {P P':Pl} {s:Qs} {i j:Nat} {f:Nd} {r:Option Int},Y8 D way P s i j f=some (P',r)->P.like P'
 |[],P,P',s,i,j,f,r,h=>by
  unfold Y8 at h;split at h
  ·rename_i y e;exact (q54 e).trans (qv0 h)
  ·cases h
 |t::way,P,P',s,i,j,f,r,h=>by
  unfold Y8 at h;split at h
  ·rename_i y e;split at h
   ·rename_i x E B;have h2:=(q54 e).trans (qrb B);split at h
    ·rename_i A F u;exact (h2.trans (q9u u)).trans (qb8 way h)
    ·rename_i A u
     cases h;exact h2.trans (q9u u)
    ·cases h
   ·cases h
  ·cases h
theorem qrc {P P':Pl}{D:DM}{root:Int}{x:Qg}{r:Option Int}(h:P.Pn D root x=some (P',r)):P.like P':=by
 unfold Pl.Pn at h;split at h
 ·exact qb8 _ h
 ·cases h
theorem qrd {P P':Pl}{D:DM}{root:Int}{k:Kd}{r:Option Int}(h:P.Oz D root k=some (P',r)):P.like P':=by
 unfold Pl.Oz at h;split at h
 ·exact qb8 _ h
 ·cases h
theorem qre {P P':Pl}(h:P.like P')(hn:P'.C.n=P.C.n):P'.C.kept=P.C.kept:=by
 unfold Ct.kept;rw[h.2,hn]
theorem qrf (n:Nat):(Ct.zero n).kept=0:=by
 unfold Ct.kept;refine List.countP_eq_zero.2 λa e h=>of_decide_eq_true h ?_
 show (List.replicate n (0:Int)).getD a 0=0;rw[List.getD_eq_getElem?_getD,List.getElem?_replicate];split<;>rfl
theorem qgv {C e:Ct}(hn:e.n=C.n)(hd:e.done=C.done)(h:C.used=0)(u:e.used=0):e.free=C.free:=by
 have y:e.first=C.first:=by unfold Ct.first;rw[hn]
 have z:∀{C:Ct},C.used=0->∀a,a<C.n->nm C.now a=0:=λ{C} h a f=>by
  unfold Ct.used at h;have:=List.countP_eq_zero.1 h a (List.mem_range.2 f);simpa using this
 unfold Ct.free Ct.J3;rw[hn];refine List.countP_congr λa f=>?_
 have f:=List.mem_range.1 f;unfold Ct.may Ct.Vg;rw[z h a f,z u a (by omega),hd,y]
def Jy (r:Int):List Int:=if r=0 then [] else [r]
structure Ed (b:Nat)(w:World)(d p:Nat)(U:Nat->Prop)(D:DM)(P:Pl)(H:List Int)(m:Nat)(g:Int):Prop where
 sys:∃S0 S T,Qe b w d p S0 S T D P/\(∀k,S0 k->U k)/\∀k,S k->U k
 low:∀k,U k->b<=k/\k<w.heap.size
 tab:Tab w
 keep:∃S0 C0,Keep D S0 C0 [] H P
 Xw:D.Xw m
 gen:P.S.gen<=g
section
variable {b:Nat}{w w':World}{d p:Nat}{U:Nat->Prop}{D:DM}{P:Pl}{H H0:List Int}{m:Nat}{g:Int}{root:Int}{its:List Qg}
theorem Ed.tidy (E:Ed b w d p U D P H m g):P.tidy:=by
 obtain⟨_,_,K⟩:=E.keep;exact⟨K.Ze.kind,K.laid⟩
theorem Ed.below (E:Ed b w d p U D P H m g)(hb:Below w.1.size w w'):Ed b w' d p U D P H m g:=by
 obtain⟨S0,S,T,h,h0,h1⟩:=E.sys;exact⟨⟨S0,S,T,h.below hb,h0,h1⟩,λk e=>⟨(E.low k e).1,by have:=(E.low k e).2;have:=hb.size;omega⟩,E.tab.below hb E.tab.1,E.keep,E.Xw,E.gen⟩
theorem Ed.src (E:Ed b w d p U D P H m g):Src w p (P.store D):=by
 obtain⟨S0,S,T,h,h0,h1⟩:=E.sys;obtain⟨_,_,K⟩:=E.keep;exact qz0 h.Ba h.pool K.Ze.kind K.Ze.good
structure Rt (b:Nat)(w w':World)(d p:Nat)(U:Nat->Prop)(D:DM)(P P':Pl)(r:Int)(H0:List Int)(its:List Qg)(m:Nat)(g:Int):Prop where
 ed:Ed b w' d p U D P' (Jy r++H0) m g
 tree:Zl (P'.store D) r its
 like:P.like P'
 n:P'.C.n=P.C.n
 free:P.C.free<=P'.C.free+17
 old:∀l a t,a∈H0->Qi (P.store D) l a t->Qi (P'.store D) l a t
 turn:Turn U w w'
def Lh (b:Nat)(w:World)(d p:Nat)(U:Nat->Prop)(D:DM)(P:Pl)(H0:List Int)(its:List Qg)(m:Nat)(g:Int)(e:Ending)(w':World):Prop:=
 (∃r P',e=.returned (.tuple #[.int .i64 r,.int .i64 0])/\Rt b w w' d p U D P P' r H0 its m g)\/((∃v,e=.returned (.tuple #[.int .i64 v,.int .i64 6]))/\P.C.free<17/\Turn U w w'/\Tab w')
theorem qrg {S0:Sp}{C0:Ct}{A B J:Nat->Prop}(I:Ed b w d p U D P H m g)(_:Qe b w d p A B J D P)(h0:∀k,A k->U k)(h1:∀k,B k->U k){E:Option (Pl × Option Int)}(ho:Xx D S0 C0 [] H0 P its 17 E)(Z:∀P' r,E=some (P',r)->P.like P')
  {f:FuncId} {u:Array Value} (M:∀P' r,E=some (P',r)->Calls Tryz.prog f u w (Gq b d p A B J D w P' r)):Calls Tryz.prog f u w (Lh b w d p U D P H0 its m g):=by
 rcases ho with⟨P',r,G,F⟩|⟨P',G,Y⟩
 ·refine (M _ _ G).mono ?_;rintro e w' ⟨v,rfl,hv,y,X,K,td⟩;have:=hv r rfl;subst this;have Q:=Z _ _ G;have ext:∀l a t,a∈H0->Qi (P.store D) l a t->Qi (P'.store D) l a t:=λl a t W ht=>q2g.1 (F.old l a t W (q2g.2 ht))
  have tr:=q9s.1 F.tree;refine .inl ⟨v,P',rfl,⟨⟨⟨A,B,J,y,h0,h1⟩,λk O=>⟨(I.low k O).1,by have:=(I.low k O).2;have:=X.size;omega⟩,K,⟨S0,C0,F.keep⟩,I.Xw,by rw[Q.1];exact I.gen⟩,tr,Q,F.n,F.free,ext,X.mono h1⟩⟩
 ·refine (M _ _ G).mono ?_;rintro e w' ⟨v,rfl,_,y,X,K,td⟩;exact .inr ⟨⟨v,rfl⟩,Y,X.mono h1,K⟩
theorem Ed.put {k:Kd}{v:List UInt8}(E:Ed b w d p U D P (Jy root++(nmI ⟨k,v⟩++H0)) m g)(hb:1<b)(f:Zl (P.store D) root its)(hr:Qk its)(hf:∀x∈its,Zr x)(hx:Zr ⟨k,v⟩)(hdx:Dat (P.tell D) ⟨k,v⟩)(hfew:its.length<1000)(hH0:H0.length<=10000)(V:Option Addr)(q c:Nat)(hV:Sl w V q c v)(hVU:v≠[]->∀g,q01 V=some g->¬U g) :
  Calls Tryz.prog 64 #[.pointer (some ⟨p,0,none⟩),.int .i64 root,.agg #[.int .i64 k.obj,.int .i64 k.kind,.int .i64 k.off],.slice V q c] w (Lh b w d p U D P H0 (Wq k v false its) m g):=by
 obtain⟨G,I,J,y,h0,h1⟩:=E.sys;obtain⟨S0,C0,K⟩:=E.keep;replace f:=q9s.2 f;have B:q<=28:=by
  have:=hV.len;have:=hx.2;have e:(⟨k,v⟩:Qg).v=v:=rfl;rw[e] at this;omega
 exact qrg E y h0 h1 (qur K f hr hf hx (by rw[q39];exact hdx) hfew hH0) (λ_ _ h=>qrc h) λP' r e=>quw y hb E.tab E.tidy root k V q c v (λu X=>hV.turned' X λF g A h=>hVU F g A (h1 g h)) hx.1 B e
theorem Ed.del (E:Ed b w d p U D P (Jy root++H0) m g)(hb:1<b)(f:Zl (P.store D) root its)(hr:Qk its)(hf:∀x∈its,Zr x)(k:Kd)(hfew:its.length<1000)(hH0:H0.length<=10000)(hk:∃x∈its,x.k.same k=true) :
  Calls Tryz.prog 66 #[.pointer (some ⟨p,0,none⟩),.int .i64 root,.agg #[.int .i64 k.obj,.int .i64 k.kind,.int .i64 k.off]] w (Lh b w d p U D P H0 (Ur k its) m g):=by
 obtain⟨I,J,M,A,h0,h1⟩:=E.sys;obtain⟨S0,C0,K⟩:=E.keep;replace f:=q9s.2 f;have u:root≠0:=by
  rcases f with⟨rfl,_⟩|⟨l,_,_,h,_⟩
  ·obtain⟨x,G,_⟩:=hk
   cases G
  ·omega
 obtain⟨up,s,B,O,y,F⟩:=ql3 K f hr hf u k hfew hH0;exact qrg E A h0 h1 (F (y.2 hk)) (λ_ _ h=>qrd h) λP' r e=>qux A hb E.tab E.tidy root k B (y.2 hk) e
theorem Ed.Qcc (E:Ed b w d p U D P (Jy root++H0) m g)(hb:1<b)(u:Zl (P.store D) root its)(hr:Qk its)(hf:∀x∈its,Zr x)(k:Kd)(hfew:its.length<1000)(hH0:H0.length<=10000)(hk:¬∃x∈its,x.k.same k=true) :
  Calls Tryz.prog 66 #[.pointer (some ⟨p,0,none⟩),.int .i64 root,.agg #[.int .i64 k.obj,.int .i64 k.kind,.int .i64 k.off]] w λe w'=>e=.returned (.tuple #[.int .i64 0,.int .i64 10])/\Below w.1.size w w':=by
 obtain⟨G,I,J,A,h0,h1⟩:=E.sys;obtain⟨S0,C0,K⟩:=E.keep;replace u:=q9s.2 u;by_cases f:root=0
 ·exact qr9 A hb E.tab E.tidy root k (if_pos f:P.way D root k=some ([],q49)) rfl
 ·obtain⟨up,s,B,M,F,O⟩:=ql3 K u hr hf f k hfew hH0;refine qr9 A hb E.tab E.tidy root k B ?_
  cases y:Kz s.N.keys k (s.N.Zb k) with
  |false=>rfl
  |true=>exact absurd (F.1 y) hk
theorem Ed.free (E:Ed b w d p U D P H m g)(n:Nat)(hn:P.C.free=n):Calls Tryz.prog 23 #[.pointer (some ⟨p,0,none⟩)] w λe w'=>e=.returned (.int .i64 (n:Int))/\w=w':=by
 obtain⟨u,y,A,f,h0,h1⟩:=E.sys;exact qpm f.pool n hn
theorem Ed.count (E:Ed b w d p U D P H m g)(a:Int):Calls Tryz.prog 38 #[.pointer (some ⟨p,0,none⟩),.int .i64 a] w λe w'=>e=.returned (.int .i64 (P.C.get a))/\w=w':=by
 obtain⟨u,y,A,f,h0,h1⟩:=E.sys;exact q1l f.pool a _ rfl
end
