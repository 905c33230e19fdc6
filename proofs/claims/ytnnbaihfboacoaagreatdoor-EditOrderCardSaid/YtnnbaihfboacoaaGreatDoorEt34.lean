/- The code's edit: exchange of any way; Put and Delete -/
import Derived.Test.YtnnbaihfboacoaaGreatDoorEt30
import Derived.Test.YtnnbaihfboacoaaGreatDoorEt32
import Derived.Test.YtnnbaihfboacoaaGreatDoorEt33
import Derived.Test.YtnnbaihfboacoaaGreatDoorFrCf
namespace Go.Proofs.YtnnbaihfboacoaaGreatDoor
open Go Go.RowKit Go.Proofs
set_option maxHeartbeats 8000000
set_option maxRecDepth 100000
section
variable {b:Nat}{d p:Nat}{S0 S:Nat->Prop}{D:DM}
theorem qar (hb:1<b):∀(way:List Qu) {w:World} {T:Nat->Prop} {P P':Pl} (_:Qi b w d p S0 S T D P) (_:Tab w) (_:P.tidy) (s:Qu) (_:s.N.fit) (_:s.N.size<=12) (_:0<=s.N.lvl/\s.N.lvl<8) (_:Vt s way) (X:Option Addr) (n c:Nat) (_:∀u,Turn S w u->Vj (Turn S w) u X n c (way.reverse++[s])) (_:n<=20)
  (f:Nd) (_:f.fit) (_:f.size<=7) (_:f.lvl=s.N.lvl) (E:Option Addr) (J c2:Nat) (F:Option Addr) (I G:Nat) (_:Jl (Turn S w) f E J c2 F I G) (i j:Nat) (_:i<=j) (_:j<=s.N.size) {r:Option Int} (_:Wj D way P s i j f=some (P',r)),
  Calls Tryz.prog 65 #[tv p,.slice X n c,.int .i64 (i:Int),.int .i64 (j:Int),Xy f.lvl E J c2 F I G] w (Gz b d p S0 S T D w P' r)
 |[],w,T,P,P',H,ht,hP,s,hfs,hss,hsl,hwf,X,n,c,hX,hn,f,hfc,hcs,hcl,E,J,c2,F,I,G,hB,i,j,hi,hj,r,hex=>by
  obtain⟨P1,hr,_⟩:=qkb hex;exact qcp H hb ht hP s [] hfs hss hsl X n c hX hn f hfc hcs hcl E J c2 F I G hB i j hi hj hex hr (Lib.hid hwf) (λt M e=>by cases e)
 |t::way,w,T,P,P',H,ht,hP,s,hfs,hss,hsl,hwf,X,n,c,hX,hn,f,hfc,hcs,hcl,E,J,c2,F,I,G,hB,i,j,hi,hj,r,hex=>by
  obtain⟨P1,x,P2,P3,r2,hr,_⟩:=qgc hex;refine qcp H hb ht hP s (t::way) hfs hss hsl X n c hX hn f hfc hcs hcl E J c2 F I G hB i j hi hj hex hr (Lib.hid hwf) (λt' M e=>?_);injection e with e1 e2;subst e1 e2;intro T2 w2 P3 H2 a7 Z f2 s2 l2 a8 a1 y W Q O A n' c' B m' d' Y i2 j2 a2 a6 K;exact qar hb way H2 a7 Z t f2 s2 l2 a8.out X (n-1) c a1 (by omega) y W Q O A n' c' B m' d' Y i2 j2 a2 a6 K
end
theorem qid {N:Nd}(u:N.fit)(h0:N.lvl=0)(k:Kd):N.Za k<=N.size/\(Vb N.keys k (N.Za k)=true->N.Za k<N.size):=by
 have f:=u.1 h0;have e:N.Za k=lead N.keys k:=if_pos h0;have y:N.keys.length=N.items.length:=by unfold Nd.keys;rw[f];simp
 have B:N.size=N.items.length:=by unfold Nd.size;rw[f];simp
 have h1:=qb2 N.keys k;refine⟨by omega,λh=>?_⟩;unfold Vb at h;rw[Bool.and_eq_true] at h;have:=of_decide_eq_true h.1;omega
theorem qie (s:Qu)(j:Nat)(up:List Qu):Vt { s with next:=j } up↔Vt s up:=by
 cases up with
 |nil=>exact Iff.rfl
 |cons t way=>exact Iff.rfl
theorem q5p:∀(up:List Qu) (s:Qu),s.N.lvl<8->Vt s up->s.N.lvl+(up.length:Int)<=7
 |[],s,h,_=>by simp;omega
 |t::way,s,h,hw=>by
  obtain⟨_,_,u,e,_,f⟩:=hw;have:=q5p way t e f;rw[List.length_cons];omega
structure Nu (up:List Qu)(s:Qu):Prop where
 fit:s.N.fit
 size:s.N.size<=12
 lvl:s.N.lvl=0
 way:Vt s up
theorem qgl {P:Pl}{D:DM}(hm:∀a,P.Zh D a=0->(P.Qh D a).may=true)(k:Kd):∀(f:Nat) (s:Qu) (up:List Qu) {e:List Qu} {u:Qu},s.N.may=true->Vt s up->P.Gx D k f s up=some (e,u)->Nu e u
 |0,s,up,e,u,hs,hw,h=>by
  have h:(if s.N.lvl<=0 then some (up,s) else none)=some (e,u):=h;have E:=qe3 hs;split at h
  ·injection Option.some.inj h with y B;subst y B;exact⟨Nj hs,q5y hs,by omega,hw⟩
  ·cases h
 |f+1,s,up,e,u,hs,hw,h=>by
  have h:(if s.N.lvl<=0 then some (up,s) else if P.Wn D s (s.N.Za k)=true then P.Gx D k f (P.Jj D s (s.N.Za k)) ({ s with next:=s.N.Za k }::up) else none)=some (e,u):=h;have E:=qe3 hs;split at h
  ·injection Option.some.inj h with y B;subst y B;exact⟨Nj hs,q5y hs,by omega,hw⟩
  ·split at h
   ·rename_i F;obtain⟨I,G,J⟩:=of_decide_eq_true F;refine qgl hm k f _ _ (hm _ G) ?_ h;refine⟨Nj hs,q5y hs,?_,E.2,?_,(qie s _ up).2 hw⟩
    ·show s.N.lvl=(P.Qh D (Qg s.N.kids (s.N.Za k)).a).lvl+1;omega
    ·show s.N.Za k+1<=s.N.size;unfold Nd.size;omega
   ·cases h
theorem qem {P:Pl}{D:DM}(hm:∀a,P.Zh D a=0->(P.Qh D a).may=true){root:Int}{k:Kd}{up:List Qu}{s:Qu}(h:P.way D root k=some (up,s)):Nu up s:=by
 unfold Pl.way at h;split at h
 ·injection Option.some.inj h with e f;subst e f;exact⟨⟨λ_=>rfl,λh=>absurd rfl h⟩,by decide,rfl,trivial⟩
 ·split at h
  ·rename_i u;exact qgl hm k 8 _ [] (hm root u) trivial h
  ·cases h
theorem qen {w:World}{g o kc k q:Nat}{s:Qu}{A:Option Addr}{n c:Nat}{B:Option Addr}{m d:Nat}(E:w.rangeAt g (o+q*7) (Ef s A n c B m d))(O:g<w.1.size)(W:k=q+1)(y:k<=1000) :
  Calls Tryz.prog 64 #[.slice (some ⟨g,o,none⟩) k kc] w λe w'=>e=.returned (Vh s A n c B m d)/\Below w.1.size w w':=by
 obtain⟨N,u,F,hd,G⟩:=s;have f:Below w.1.size w (w.alloc Ud):=Qm;have I:=Ih w;have cell:∀(j:Nat) v,(Ef ⟨N,u,F,hd,G⟩ A n c B m d)[j]?=some v->(w.alloc Ud).cell? ⟨g,o+q*7+j,none⟩=some v:=λj v X=>(f.cell (p:=⟨g,_,none⟩) O).trans (E j v X)
 have M:=cell 0 _ rfl;have Y:=cell 1 _ rfl;have Z:=cell 2 _ rfl;have f3:=cell 3 _ rfl;have f4:=cell 4 _ rfl;have f5:=cell 5 _ rfl;have f6:=cell 6 _ rfl;rw[Nat.add_zero] at M;have hw:IntKind.i64.wrap ((k:Int)-1)=(q:Int):=by
  have:(k:Int)-1=(q:Int):=by omega
  rw[this];exact IntWalk.i64_in _ (by omega)
 have hj:(0:Int)<=(q:Int):=by omega
 have Q:(q:Int)<(k:Int):=by omega
 clear cell E W;go_enter Tryz.func64,Tryz.ntmps64
 go_wp2_with (first
  |(refine Oe rfl _ _ rfl w.1.size rfl N.lvl A n c B m d u (F:Int) hd G rfl I rfl ?_;intro wz J K)
  |fail)
 refine bodyPost_ret (Og Tryz.results64 rfl (q5m J)) rfl ?_;exact⟨rfl,f.trans (K.below (λk y=>by have:k=w.1.size:=y;omega) f.size)⟩
section
theorem qwr {S:Nat->Prop}{w:World}(B:∀k,S k->k<w.1.size)(k:Kd){V:Option Addr}{q c:Nat}{v:List UInt8}(E:∀u,Turn S w u->Sl u V q c v) :
  Jl (Turn S (w.alloc (.cells #[.int .i64 k.obj,.int .i64 k.kind,.int .i64 k.off,.slice V q c] 68))) ⟨0,[⟨k,v⟩],[]⟩ (some ⟨w.1.size,0,none⟩) 1 1 none 0 0:=by
 have h0:Jf (w.alloc (.cells #[.int .i64 k.obj,.int .i64 k.kind,.int .i64 k.off,.slice V q c] 68)) 4 (some ⟨w.1.size,0,none⟩) 1 1 [Yi k V q c]:=(q1q w 68 4 (Yi k V q c) _ rfl rfl).Vs (by omega);refine⟨⟨[Yi k V q c],λu f=>q5o h0 f (λg e F=>by injection e with e;have e:w.1.size=g:=e;have:=B g F;omega),rfl,λj r x y G=>?_⟩,λu f=>q67 u 4,rfl,rfl,⟨by omega,by omega,by unfold maxLen;omega⟩,⟨by omega,by omega,by unfold maxLen;omega⟩⟩;match j with
 |0=>
  obtain rfl:=Option.some.inj y;obtain rfl:=Option.some.inj G;exact⟨V,q,c,rfl,λu f=>E u ((Qv (S:=S) (Qm)).then f)⟩
 |j+1=>simp at y
theorem qeo (l:Int)(A:Option Addr)(n c:Nat)(B:Option Addr)(m d:Nat)(a x:Int)(h s:Bool)(w:World):(Instr.field 129 (.agg #[.int .i64 l,.slice A n c,.slice B m d,.int .i64 a,.int .i64 x,.bool h,.bool s]) 0).run Tryz.prog w=.ok (Xy l A n c B m d) w:=by
 kernel_rfl
theorem qas (l:Int)(A:Option Addr)(n c:Nat)(B:Option Addr)(m d:Nat)(w:World):(Instr.field 127 (Xy l A n c B m d) 0).run Tryz.prog w=.ok (Xy l A n c B m d) w:=by
 unfold Xy;kernel_rfl
def Qan (v:Value):Sem Value:=Instr.field 129 v 0
theorem qgm (v:Value):Instr.field 129 v 0=Qan v:=rfl
def Qam (v:Value):Sem Value:=Instr.field 127 v 0
theorem qgn (v:Value):Instr.field 127 v 0=Qam v:=rfl
attribute [local go_sem ↓] qgm
attribute [local go_sem ↓] qgn
section
variable {b:Nat}{w:World}{d p:Nat}{S0 S T:Nat->Prop}{D:DM}{P P':Pl}
theorem qty (H:Qi b w d p S0 S T D P)(hb:1<b)(ht:Tab w)(hP:P.tidy)(root:Int)(k:Kd)(V:Option Addr)(q c:Nat)(v:List UInt8)(hV:∀u,Turn S w u->Sl u V q c v)(hk:k.may=true)(hq:q<=28){r:Option Int}(hp:P.O6 D root ⟨k,v⟩=some (P',r)) :
  Calls Tryz.prog 30 #[.pointer (some ⟨p,0,none⟩),.int .i64 root,.agg #[.int .i64 k.obj,.int .i64 k.kind,.int .i64 k.off],.slice V q c] w (Gz b d p S0 S T D w P' r):=by
 have hS:=H.low;obtain⟨up,s,hw,f⟩:∃up s,P.way D root k=some (up,s)/\Wj D up P s (s.N.Za k) (s.N.Za k+if Vb s.N.keys k (s.N.Za k)=true then 1 else 0) ⟨0,[⟨k,v⟩],[]⟩=some (P',r):=by
  unfold Pl.O6 at hp;dsimp only at hp
  cases e:P.way D root k with
  |none=>rw[e] at hp;cases hp
  |some y=>rw[e] at hp;exact⟨y.1,y.2,rfl,hp⟩
 have hm:=λa h=>H.may a h
 obtain⟨lf,ls,Z,lw⟩:=qem hm hw;have Hw:=λ(u:World) (hu:Below w.1.size w u)=>q95 (H.below hu) (ht.below hu ht.1) hP.kind (qi9 hm) root k hw
 have b7:=q5p up s (by omega) lw;rw[Z] at b7;have b7:up.length<=7:=by omega
 have Hm:=Lib.hid (λw=>q20 k true hk w);obtain⟨K1,b1⟩:=Xb w k;have d0:¬((28:Int)<(q:Int)):=by omega
 unfold tv at Hw;replace Hw:=Lib.hid Hw;obtain⟨i,hi⟩:∃i,s.N.Za k=i:=⟨_,rfl⟩;obtain⟨M,G⟩:=qid lf Z k;rw[hi] at f M G;clear hp hw;go_enter Tryz.func30,Tryz.ntmps30
 go_wp2_with fail
 generalize w.alloc (.cells #[.int .i64 k.obj,.int .i64 k.kind,.int .i64 k.off] 30)=w1 at K1 b1 ⊢;have c0:=K1.c0;have c1:=K1.c1;have c2:=K1.c2;go_wp2_with fail
 refine (Hm.out _).mono ?_;rintro e w2 ⟨rfl,b2⟩;clear c0 c1 c2;have K2:=K1.below b2 K1.lt;have bt:Below w2.1.size w2 (w2.alloc (.cells #[.pointer (some ⟨p,0,none⟩)] 122)):=Qm;have T3:=RB.new w2 [.pointer (some ⟨p,0,none⟩)] 122;have K3:=K2.below bt K2.lt;have b3:=b1.trans ((b2.trans (bt.mono b2.size)).mono b1.size);have c0:=K3.c0;have c1:=K3.c1;have c2:=K3.c2;go_wp2_with fail
 generalize (w2.alloc (.cells #[.pointer (some ⟨p,0,none⟩)] 122))=w3 at bt T3 K3 b3 c0 c1 c2 ⊢;refine (Hw.out w3 b3).mono ?_;rintro e w4 ⟨X,n,xc,rfl,I,b8,b4⟩;have J:=I.len;rw[List.length_append,List.length_reverse] at J;have J:up.length+1=n:=J;obtain⟨g,o,A,an,ac,B,bm,bd,rfl,hg,Y,E⟩:=I.get (show n-1<n by omega);have c7:Y5 (up.reverse++[s]) (n-1)=s:=by
  have:=q3p up.reverse s;rw[List.length_reverse] at this;rw[show n-1=up.length by omega];exact this
 rw[c7] at Y E;have T4:=T3.below b4 T3.lt;have K4:=K3.below b4 K3.lt;have d2:=E.hn;have d1:=E.hm;obtain⟨rf,a7⟩:∃rf,Vb s.N.keys k i=rf:=⟨_,rfl⟩;rw[a7] at f G;have HL:=Lib.hid (λu:Grown w4=>qen (kc:=xc) (k:=n) (q:=n-1) (w:=u.to) (λj v hv=>(u.ok.cell (p:=⟨g,_,none⟩) hg).trans (Y j v hv)) (by have:=u.ok.size;omega) (by omega) (by omega));have O:=Lib.hid (λu:Grown w4=>q22 s.N lf k i hi rf a7 A an ac B bm bd u.to (E.its.Zq (Qv (S:=λk=>k<w3.1.size) (u.ok))) (E.Bo _ (Qv (S:=λk=>k<w3.1.size) (u.ok))) (by omega) (by omega));clear c0 c1 c2 hi a7;have c0:=λu:Grown w4=>Grown.cell K4.c0 K4.lt u
 have c1:=λu:Grown w4=>Grown.cell K4.c1 K4.lt u
 have c2:=λu:Grown w4=>Grown.cell K4.c2 K4.lt u
 obtain⟨sN,ad,nx,hd,sh⟩:=s;unfold Vh at HL;dsimp only at HL O f M G lf ls Z lw;rw[Z] at HL O;have a2:=λw=>qeo 0 A an ac B bm bd ad (nx:Int) hd sh w
 have a6:=λw=>qas 0 A an ac B bm bd w
 unfold Xy at a2 a6;replace Z:=Lib.hid Z;change ∀w,(Qan _).run _ w=_ at a2;change ∀w,(Qam _).run _ w=_ at a6;go_wp2_with fail
 refine Yc (by kernel_rfl) (by kernel_rfl) ?_;repeat (go_big_quiet_step (first|(go_at_call 64;exact Calls.grown (HL.out _))|(go_at_call 42;exact Calls.grown (O.out _))|fail))
 refine wpQuiet_nil ?_;rintro _ ⟨u,rfl⟩;have b5:=u.ok;generalize u.to=w5 at b5 ⊢;clear c0 c1 c2 u HL O a2 a6;have Q:=b3.trans ((b4.trans (b5.mono b4.size)).mono b3.size);have z35:=Q.size;have b6:Below w5.1.size w5 (w5.alloc (.cells #[.int .i64 k.obj,.int .i64 k.kind,.int .i64 k.off,.slice V q c] 68)):=Qm;have K:=qwr (S:=S) (w:=w5) (λk hk=>by have:=hS k hk;omega) k (λu hu=>hV u ((Qv (S:=S) Q).then hu));have W:=Q.trans (b6.mono Q.size);have a8:Below w4.1.size w4 (w5.alloc (.cells #[.int .i64 k.obj,.int .i64 k.kind,.int .i64 k.off,.slice V q c] 68)):=b5.trans (b6.mono b5.size);have z3:=b3.size;have a1:∀u,Turn S (w5.alloc (.cells #[.int .i64 k.obj,.int .i64 k.kind,.int .i64 k.off,.slice V q c] 68)) u->Vj (Turn S (w5.alloc (.cells #[.int .i64 k.obj,.int .i64 k.kind,.int .i64 k.off,.slice V q c] 68))) u (some ⟨g,o,none⟩) n xc (up.reverse++[⟨sN,ad,nx,hd,sh⟩]):=λu hu=>
  ((I.below a8).turned hu λg' b9 h=>by have:=hS g' h;have:=b8 g' b9;omega).mono λv hv=>(Qv (S:=λk=>k<w3.1.size) a8).trans hv λk hk=>.inl (by have:=hS k hk;show k<w3.1.size;omega)
 have F:=λ(j:Nat) (c6:i<=j) (hj:j<=sN.size) (he:Wj D up P ⟨sN,ad,nx,hd,sh⟩ i j ⟨0,[⟨k,v⟩],[]⟩=some (P',r))=>qar hb up (H.below W) (ht.below W ht.1) hP ⟨sN,ad,nx,hd,sh⟩ lf ls ⟨by rw[Z.out];omega,by rw[Z.out];omega⟩ lw (some ⟨g,o,none⟩) n xc a1 (by omega) ⟨0,[⟨k,v⟩],[]⟩ ⟨λ_=>rfl,λh=>absurd rfl h⟩ (by unfold Nd.size;simp) Z.out.symm (some ⟨w5.1.size,0,none⟩) 1 1 none 0 0 K i j c6 hj he
 unfold tv Xy at F;dsimp only at F;have K5:=K4.below b5 K4.lt;have T5:=T4.below b5 T4.lt;have y0:=T5.cell 0 rfl;have c0:=K5.c0;have c1:=K5.c1;have c2:=K5.c2;have c9:i<=12:=by have:sN.size<=12:=ls;omega
 cases rf with
 |false=>
  have Hx:=Lib.hid (F i (Nat.le_refl _) M f);clear F f M G a1 K I Y E;go_wp2_with fail
  refine Hx.out.mono ?_;rintro e w7 ⟨z,rfl,hz,H7,X7,t7,p7⟩;have TF:=(Qv (S:=S) W).then X7;go_wp2_with fail
  go_ret2;exact⟨z,rfl,hz,H7,TF,t7,p7⟩
 |true=>
  have c8:IntKind.i64.wrap ((i:Int)+1)=((i+1:Nat):Int):=by rw[show (i:Int)+1=((i+1:Nat):Int) by omega];exact IntWalk.i64_in _ (by omega)
  have Hx:=F (i+1) (Nat.le_succ _) (G rfl) f;obtain⟨i1,b0⟩:∃i1,i+1=i1:=⟨_,rfl⟩;rw[b0] at c8 Hx;replace Hx:=Lib.hid Hx;clear F f M G a1 K I Y E b0;go_wp2_with fail
  refine Hx.out.mono ?_;rintro e w7 ⟨z,rfl,hz,H7,X7,t7,p7⟩;have TF:=(Qv (S:=S) W).then X7;go_wp2_with fail
  go_ret2;exact⟨z,rfl,hz,H7,TF,t7,p7⟩
theorem qqb (H:Qi b w d p S0 S T D P)(_:1<b)(ht:Tab w)(hP:P.tidy)(root:Int)(k:Kd){up:List Qu}{s:Qu}(hw:P.way D root k=some (up,s))(I:Vb s.N.keys k (s.N.Za k)=false) :
  Calls Tryz.prog 31 #[.pointer (some ⟨p,0,none⟩),.int .i64 root,.agg #[.int .i64 k.obj,.int .i64 k.kind,.int .i64 k.off]] w λe w'=>e=.returned (.tuple #[.int .i64 0,.int .i64 10])/\Below w.1.size w w':=by
 have hS:=H.low;have hm:=λa h=>H.may a h
 obtain⟨lf,ls,O,lw⟩:=qem hm hw;have Hw:=λ(u:World) (hu:Below w.1.size w u)=>q95 (H.below hu) (ht.below hu ht.1) hP.kind (qi9 hm) root k hw
 have Z:=q5p up s (by omega) lw;rw[O] at Z;have Z:up.length<=7:=by omega
 obtain⟨K1,b1⟩:=Xb w k;unfold tv at Hw;replace Hw:=Lib.hid Hw;obtain⟨i,hi⟩:∃i,s.N.Za k=i:=⟨_,rfl⟩;obtain⟨a1,J⟩:=qid lf O k;rw[hi] at a1 J I;have a7:=J;clear hw;go_enter Tryz.func31,Tryz.ntmps31
 go_wp2_with fail
 have bt:Below (w.alloc (.cells #[.int .i64 k.obj,.int .i64 k.kind,.int .i64 k.off] 30)).1.size (w.alloc (.cells #[.int .i64 k.obj,.int .i64 k.kind,.int .i64 k.off] 30)) ((w.alloc (.cells #[.int .i64 k.obj,.int .i64 k.kind,.int .i64 k.off] 30)).alloc (.cells #[.pointer (some ⟨p,0,none⟩)] 122)):=Qm;have T3:=RB.new (w.alloc (.cells #[.int .i64 k.obj,.int .i64 k.kind,.int .i64 k.off] 30)) [.pointer (some ⟨p,0,none⟩)] 122;rw[World.size_alloc] at T3;have K:=K1.below bt K1.lt;have b3:=b1.trans (bt.mono b1.size);have c0:=K.c0;have c1:=K.c1;have c2:=K.c2;go_wp2_with fail
 generalize ((w.alloc (.cells #[.int .i64 k.obj,.int .i64 k.kind,.int .i64 k.off] 30)).alloc (.cells #[.pointer (some ⟨p,0,none⟩)] 122))=w3 at T3 K b3 c0 c1 c2 ⊢;refine (Hw.out w3 b3).mono ?_;rintro e w4 ⟨X,n,xc,rfl,W,a8,b4⟩;have y:=W.len;rw[List.length_append,List.length_reverse] at y;have y:up.length+1=n:=y;obtain⟨g,o,A,an,ac,B,bm,bd,rfl,hg,Y,f⟩:=W.get (show n-1<n by omega);have a6:Y5 (up.reverse++[s]) (n-1)=s:=by
  have:=q3p up.reverse s;rw[List.length_reverse] at this;rw[show n-1=up.length by omega];exact this
 rw[a6] at Y f;have T4:=T3.below b4 T3.lt;have M:=K.below b4 K.lt;have b2:=f.hn;have b0:=f.hm;have Q:=Lib.hid (λu:Grown w4=>qen (kc:=xc) (k:=n) (q:=n-1) (w:=u.to) (λj v hv=>(u.ok.cell (p:=⟨g,_,none⟩) hg).trans (Y j v hv)) (by have:=u.ok.size;omega) (by omega) (by omega));have E:=Lib.hid (λu:Grown w4=>q22 s.N lf k i hi false I A an ac B bm bd u.to (f.its.Zq (Qv (S:=λk=>k<w3.1.size) (u.ok))) (f.Bo _ (Qv (S:=λk=>k<w3.1.size) (u.ok))) (by omega) (by omega));clear c0 c1 c2 hi I bt K1;have c0:=λu:Grown w4=>Grown.cell M.c0 M.lt u
 have c1:=λu:Grown w4=>Grown.cell M.c1 M.lt u
 have c2:=λu:Grown w4=>Grown.cell M.c2 M.lt u
 obtain⟨sN,ad,nx,hd,sh⟩:=s;unfold Vh at Q;dsimp only at Q E a1 J a7 lf ls O lw;rw[O] at Q E;have F:=λw=>qeo 0 A an ac B bm bd ad (nx:Int) hd sh w
 have G:=λw=>qas 0 A an ac B bm bd w
 unfold Xy at F G;replace O:=Lib.hid O;change ∀w,(Qan _).run _ w=_ at F;change ∀w,(Qam _).run _ w=_ at G;go_wp2_with fail
 refine Yc (by kernel_rfl) (by kernel_rfl) ?_;repeat (go_big_quiet_step (first|(go_at_call 64;exact Calls.grown (Q.out _))|(go_at_call 42;exact Calls.grown (E.out _))|fail))
 refine wpQuiet_nil ?_;rintro _ ⟨u,rfl⟩;have b5:=u.ok;generalize u.to=w5 at b5 ⊢;clear c0 c1 c2 u Q E F G;have a2:=b3.trans ((b4.trans (b5.mono b4.size)).mono b3.size);go_wp2_with fail
 go_ret2;exact⟨rfl,a2⟩
theorem qtz (H:Qi b w d p S0 S T D P)(hb:1<b)(ht:Tab w)(hP:P.tidy)(root:Int)(k:Kd){up:List Qu}{s:Qu}(hw:P.way D root k=some (up,s))(K:Vb s.N.keys k (s.N.Za k)=true){r:Option Int}(hp:P.Oq D root k=some (P',r)) :
  Calls Tryz.prog 31 #[.pointer (some ⟨p,0,none⟩),.int .i64 root,.agg #[.int .i64 k.obj,.int .i64 k.kind,.int .i64 k.off]] w (Gz b d p S0 S T D w P' r):=by
 have J:Wj D up P s (s.N.Za k) (s.N.Za k+1) ⟨0,[],[]⟩=some (P',r):=by
  unfold Pl.Oq at hp;rw[hw] at hp;exact hp
 have hS:=H.low;have hm:=λa h=>H.may a h
 obtain⟨lf,ls,M,lw⟩:=qem hm hw;have Hw:=λ(u:World) (hu:Below w.1.size w u)=>q95 (H.below hu) (ht.below hu ht.1) hP.kind (qi9 hm) root k hw
 have a8:=q5p up s (by omega) lw;rw[M] at a8;have a8:up.length<=7:=by omega
 obtain⟨K1,b1⟩:=Xb w k;unfold tv at Hw;replace Hw:=Lib.hid Hw;obtain⟨i,hi⟩:∃i,s.N.Za k=i:=⟨_,rfl⟩;obtain⟨a1,O⟩:=qid lf M k;rw[hi] at J a1 O K;have a2:=O K;clear hw;go_enter Tryz.func31,Tryz.ntmps31
 go_wp2_with fail
 have bt:Below (w.alloc (.cells #[.int .i64 k.obj,.int .i64 k.kind,.int .i64 k.off] 30)).1.size (w.alloc (.cells #[.int .i64 k.obj,.int .i64 k.kind,.int .i64 k.off] 30)) ((w.alloc (.cells #[.int .i64 k.obj,.int .i64 k.kind,.int .i64 k.off] 30)).alloc (.cells #[.pointer (some ⟨p,0,none⟩)] 122)):=Qm;have T3:=RB.new (w.alloc (.cells #[.int .i64 k.obj,.int .i64 k.kind,.int .i64 k.off] 30)) [.pointer (some ⟨p,0,none⟩)] 122;rw[World.size_alloc] at T3;have K3:=K1.below bt K1.lt;have b3:=b1.trans (bt.mono b1.size);have c0:=K3.c0;have c1:=K3.c1;have c2:=K3.c2;go_wp2_with fail
 generalize ((w.alloc (.cells #[.int .i64 k.obj,.int .i64 k.kind,.int .i64 k.off] 30)).alloc (.cells #[.pointer (some ⟨p,0,none⟩)] 122))=w3 at T3 K3 b3 c0 c1 c2 ⊢;refine (Hw.out w3 b3).mono ?_;rintro e w4 ⟨X,n,xc,rfl,I,b0,b4⟩;have E:=I.len;rw[List.length_append,List.length_reverse] at E;have E:up.length+1=n:=E;obtain⟨g,o,A,an,ac,B,bm,bd,rfl,hg,Z,f⟩:=I.get (show n-1<n by omega);have b6:Y5 (up.reverse++[s]) (n-1)=s:=by
  have:=q3p up.reverse s;rw[List.length_reverse] at this;rw[show n-1=up.length by omega];exact this
 rw[b6] at Z f;have T4:=T3.below b4 T3.lt;have Q:=K3.below b4 K3.lt;have c6:=f.hn;have b9:=f.hm;have HL:=Lib.hid (λu:Grown w4=>qen (kc:=xc) (k:=n) (q:=n-1) (w:=u.to) (λj v hv=>(u.ok.cell (p:=⟨g,_,none⟩) hg).trans (Z j v hv)) (by have:=u.ok.size;omega) (by omega) (by omega));have F:=Lib.hid (λu:Grown w4=>q22 s.N lf k i hi true K A an ac B bm bd u.to (f.its.Zq (Qv (S:=λk=>k<w3.1.size) (u.ok))) (f.Bo _ (Qv (S:=λk=>k<w3.1.size) (u.ok))) (by omega) (by omega));clear c0 c1 c2 hi K bt K1;have c0:=λu:Grown w4=>Grown.cell Q.c0 Q.lt u
 have c1:=λu:Grown w4=>Grown.cell Q.c1 Q.lt u
 have c2:=λu:Grown w4=>Grown.cell Q.c2 Q.lt u
 obtain⟨sN,ad,nx,hd,sh⟩:=s;unfold Vh at HL;dsimp only at HL F J a1 O a2 lf ls M lw;rw[M] at HL F;have W:=λw=>qeo 0 A an ac B bm bd ad (nx:Int) hd sh w
 have Y:=λw=>qas 0 A an ac B bm bd w
 unfold Xy at W Y;replace M:=Lib.hid M;change ∀w,(Qan _).run _ w=_ at W;change ∀w,(Qam _).run _ w=_ at Y;go_wp2_with fail
 refine Yc (by kernel_rfl) (by kernel_rfl) ?_;repeat (go_big_quiet_step (first|(go_at_call 64;exact Calls.grown (HL.out _))|(go_at_call 42;exact Calls.grown (F.out _))|fail))
 refine wpQuiet_nil ?_;rintro _ ⟨u,rfl⟩;have b5:=u.ok;generalize u.to=w5 at b5 ⊢;clear c0 c1 c2 u HL F W Y;have G:=b3.trans ((b4.trans (b5.mono b4.size)).mono b3.size);have z35:=G.size;have z3:=b3.size;have a6:∀u,Turn S w5 u->Vj (Turn S w5) u (some ⟨g,o,none⟩) n xc (up.reverse++[⟨sN,ad,nx,hd,sh⟩]):=λu hu=>
  ((I.below b5).turned hu λg' b2 h=>by have:=hS g' h;have:=b0 g' b2;omega).mono λv hv=>(Qv (S:=λk=>k<w3.1.size) b5).trans hv λk hk=>.inl (by have:=hS k hk;show k<w3.1.size;omega)
 have y:=qar hb up (H.below G) (ht.below G ht.1) hP ⟨sN,ad,nx,hd,sh⟩ lf ls ⟨by rw[M.out];omega,by rw[M.out];omega⟩ lw (some ⟨g,o,none⟩) n xc a6 (by omega) ⟨0,[],[]⟩ ⟨λ_=>rfl,λh=>absurd rfl h⟩ (by unfold Nd.size;simp) M.out.symm none 0 0 none 0 0 (qph _ 0) i (i+1) (Nat.le_succ _) a2 J;unfold tv Xy at y;dsimp only at y;have K5:=Q.below b5 Q.lt;have T5:=T4.below b5 T4.lt;have y0:=T5.cell 0 rfl;have b8:i<=12:=by have:sN.size<=12:=ls;omega
 have b7:IntKind.i64.wrap ((i:Int)+1)=((i+1:Nat):Int):=by rw[show (i:Int)+1=((i+1:Nat):Int) by omega];exact IntWalk.i64_in _ (by omega)
 obtain⟨i1,a7⟩:∃i1,i+1=i1:=⟨_,rfl⟩;rw[a7] at b7 y;have Hx:=Lib.hid y;clear y J a1 O a2 a6 I Z f a7;go_wp2_with fail
 refine Hx.out.mono ?_;rintro e w7 ⟨z,rfl,hz,H7,X7,t7,p7⟩;have TF:=(Qv (S:=S) G).then X7;go_wp2_with fail
 go_ret2;exact⟨z,rfl,hz,H7,TF,t7,p7⟩
end
end
structure Qcl (R:Int->Nd × Int)(roots:List Int)(Ns:List (Int × Nd))(seen:Nat->Bool)(todo:List Int):Prop where
 got:∀x∈Ns,R x.1=(x.2,0)/\∃c:Nat,x.1=(c:Int)/\seen c=true
 all:∀c:Nat,seen c=true->(R (c:Int)).2=0->((c:Int),(R (c:Int)).1)∈Ns
 one:Ns.Pairwise λx y=>x.1≠y.1
 root:∀a:Nat,0<a->a<2048->(a:Int)∈roots->seen a=true\/(a:Int)∈todo
 kid:∀x∈Ns,∀y∈x.2.kids,∀a:Nat,y.a=(a:Int)->0<a->a<2048->seen a=true\/(a:Int)∈todo
section
variable {R:Int->Nd × Int}{roots:List Int}{Ns:List (Int × Nd)}{seen:Nat->Bool}{r:List Int}{x:Int}
end
theorem qu0 (n:Nat)(a:Int):(Ct.zero n).get a=0:=by
 unfold Ct.get Ct.zero nm;split
 ·show (List.replicate n (0:Int)).getD a.toNat 0=0;rw[List.getD_eq_getElem?_getD,List.getElem?_replicate];split<;>rfl
 ·rfl
theorem Nh (P:Pl)(D:DM):P.hide D []=P.store D:=by
 funext a
 exact if_neg (by simp)
theorem qml {n:Nat}(h1:32<=n)(h2:n<=2048):Keep ((DM.mk0 n).Qk (Xt n)) (fmtS n) (Ct.zero n) [] [] (Pl.fresh n):=by
 obtain⟨_,h,_⟩:=qdl (D:=DM.mk0 n) h1 h2 rfl ⟨rfl,rfl⟩;have e:∀a:Int,(Pl.fresh n).C.get a=0:=qu0 n;refine⟨⟨qje h1 h2,h,λa b y=>(by cases y)⟩,λa u=>absurd (e a) (q31 u),⟨λa _ _=>?_⟩,λx B=>(by cases B),λa _ h0=>absurd (e a) h0⟩;have f:∀b,(Pl.fresh n).cnt b=0:=λb=>by unfold Pl.cnt;rw[e];rfl
 rw[f];have:refs (λb=>((Pl.fresh n).hide ((DM.mk0 n).Qk (Xt n)) [] (b:Int)).1.named) (Pl.fresh n).C.n (Pl.fresh n).cnt a=0:=qc4 λb _=>by rw[f];rfl
 rw[this];rfl
section
variable {D:DM}{S0:Sp}{C0:Ct}{H:List Int}{P:Pl}
theorem Keep.Ui (K:Keep D S0 C0 [] H P):P.Ui D:=by
 have L:=λ{a:Nat} (h0:P.C.get (a:Int)≠0)=>by
  have:=K.told h0 (by simp:(a:Int)∉([]:List Int));rw[Nh] at this;exact this
 refine⟨λa _ h0=>(L h0).err,λa _ h0=>(L h0).may,λa _ h0=>(L h0).bare,λa _ h0 x E=>?_⟩;obtain⟨F,u,y,_⟩:=(L h0).kids x E;obtain⟨c,e,B,f⟩:=q4q F;obtain⟨c0,_⟩:=K.first f
 rw[e] at u y;exact⟨c,e,c0,B,f,u,y⟩
theorem Keep.Qcd (K:Keep D S0 C0 [] H P):P.Uc D H:=Jo.same K.Uc (λ_ _=>rfl) λb _ _=>by rw[Nh];rfl
end
theorem qgo {α:Type}:∀{l l':List α},l.Nodup->(∀x∈l,x∈l')->l.length<=l'.length
 |[],_,_,_=>Nat.zero_le _
 |x::t,l',hn,hs=>by
  obtain⟨h1,h2⟩:=List.nodup_cons.1 hn;obtain⟨s,u,rfl⟩:=List.append_of_mem (hs x (List.mem_cons_self ..));have:=qgo (l':=s++u) h2 λy e=>by
   have f:=hs y (List.mem_cons_of_mem _ e);rcases List.mem_append.1 f with h|h
   ·exact List.mem_append_left _ h
   ·rcases List.mem_cons.1 h with h|h
    ·exact absurd (h▸e) h1
    ·exact List.mem_append_right _ h
  rw[List.length_append,List.length_cons] at *;simp only[List.length_cons];omega
theorem qkm {α:Type}{p a b c d:α->Bool}:∀(l:List α),(∀x∈l,p x=true->a x=true\/b x=true\/c x=true\/d x=true)->l.countP p<=l.countP a+(l.countP b+(l.countP c+l.countP d))
 |[],_=>by simp
 |x::t,h=>by
  have B:=qkm t λy u=>h y (List.mem_cons_of_mem _ u)
  have f:=h x (List.mem_cons_self ..);simp only[List.countP_cons];by_cases e:p x=true
  ·rcases f e with h|h|h|h<;>rw[if_pos h,if_pos e]<;>split<;>omega
  ·rw[if_neg e];omega
def Yk (R:Int->Nd × Int):Nat->Int->List Int
 |0,a=>[a]
 |l+1,a=>a::(R a).1.kids.flatMap λx=>Yk R l x.a
theorem qcw (R:Int->Nd × Int):∀(l:Nat) (a:Int),a∈Yk R l a
 |0,_a=>List.mem_cons_self ..
 |_l+1,_a=>List.mem_cons_self ..
theorem q8q {R:Int->Nd × Int}:∀{l:Nat} {r b:Int} {its:List Qc},Qp R l r its->b∈Yk R l r->∀x∈(R b).1.kids,x.a∈Yk R l r
 |0,r,b,its,h,f,x,hx=>by
  obtain rfl:b=r:=List.mem_singleton.1 f;rw[h.1] at hx
  cases hx
 |l+1,r,b,its,h,f,x,hx=>by
  rcases List.mem_cons.1 f with rfl|f
  ·exact List.mem_cons_of_mem _ (List.mem_flatMap.2 ⟨x,hx,qcw R l x.a⟩)
  ·obtain⟨k,y,f⟩:=List.mem_flatMap.1 f;obtain⟨kids,parts,e,I,J,K,G⟩:=h;rw[e] at y;obtain⟨j,u,F⟩:=List.getElem_of_mem y;have E:Qg kids j=k:=by
    have:=Rf u;rw[List.getElem?_eq_getElem u,F] at this;exact (Option.some.inj this).symm
   have B:=(G j u).1;rw[E] at B;have:=q8q B f x hx;refine List.mem_cons_of_mem _ (List.mem_flatMap.2 ⟨k,?_,this⟩);rw[e];exact y
theorem qat {R:Int->Nd × Int}{l:Nat}(h:∀y:Zw,good1 R l y->(Yk R l y.1).length+2<=y.2.length):∀(G:List Zw),(∀x∈G,good1 R l x)->(G.flatMap λx=>Yk R l x.1).length+2*G.length<=(G.map (·.2)).flatten.length
 |[],_=>by simp
 |y::G,hg=>by
  have h1:=h y (hg y (List.mem_cons_self ..));have h2:=qat h G λx e=>hg x (List.mem_cons_of_mem _ e)
  simp only[List.flatMap_cons,List.map_cons,List.flatten_cons,List.length_append,List.length_cons];omega
section
variable {D:DM}{S0:Sp}{C0:Ct}{H:List Int}{P:Pl}
theorem qcx (R:Int->Nd × Int)(l:Nat)(G:List Zw):((G.map Qn).flatMap λx=>Yk R l x.a)=G.flatMap λx=>Yk R l x.1:=by
 induction G with
 |nil=>rfl
 |cons y G ih=>rw[List.map_cons,List.flatMap_cons,List.flatMap_cons,ih];rfl
theorem Keep.few (K:Keep D S0 C0 [] H P):∀(l:Nat) (y:Zw),good1 (P.hide D []) l y->(Yk (P.hide D []) l y.1).length+2<=y.2.length
 |0,y,h=>by
  have:=K.long 0 y h;show 1+2<=_;omega
 |l+1,y,h=>by
  obtain⟨M,f,E,_,_⟩:=K.Fp h.1;have B:=(q3n f).1 h.2.1;obtain⟨G,e,rfl,F⟩:=f;have u:Qr ((l+1:Nat):Int)=6:=if_neg (by omega);rw[u,List.length_map] at B;have h2:=qat (λy I=>K.few l y I) G F;show (y.1::_).length+2<=_;rw[List.length_cons,e,qcx,<-E];omega
theorem Keep.Qae (K:Keep D S0 C0 [] H P){l:Nat}{a:Int}{its:List Qc}(h:Qp (P.hide D []) l a its):(Yk (P.hide D []) l a).length<=its.length:=by
 obtain⟨M,u,E,B,I⟩:=K.Fp h
 cases l with
 |zero=>
  have:=h.2;show 1<=_;exact List.length_pos_iff.2 this
 |succ l=>
  obtain⟨G,e,rfl,F⟩:=u;have h2:=qat (λy J=>K.few l y J) G F;have f:=(Py B.may (by rw[e];show ¬((l+1:Nat):Int)=0;omega)).2.2.2.1;rw[e] at f;have f:2<=(G.map Qn).length:=f;rw[List.length_map] at f;show (a::_).length<=_;rw[List.length_cons,e,qcx,<-E];omega
def Ct.used (C:Ct):Nat:=(List.range C.n).countP λa=>decide (nm C.now a≠0)
def Ct.kept (C:Ct):Nat:=(List.range C.n).countP λa=>decide (nm C.done a≠0)
theorem qau (C:Ct):C.n<=C.free+(C.first+(C.used+C.kept)):=by
 have h:=qkm (p:=λ_=>true) (a:=λj=>C.may j) (b:=λj=>decide (j<C.first)) (c:=λa=>decide (nm C.now a≠0)) (d:=λa=>decide (nm C.done a≠0)) (List.range C.n) λx E _=>by
  by_cases h1:x<C.first
  ·exact .inr (.inl (decide_eq_true h1))
  ·by_cases h2:nm C.now x=0
   ·by_cases e:nm C.done x=0
    ·left
     unfold Ct.may Ct.U3;simp[h2,e];omega
    ·exact .inr (.inr (.inr (decide_eq_true e)))
   ·exact .inr (.inr (.inl (decide_eq_true h2)))
 have u:(List.range C.n).countP (λ_=>true)=C.n:=by
  rw[List.countP_eq_length.2 λ_ _=>rfl,List.length_range]
 have B:(List.range C.n).countP (λj=>decide (j<C.first))<=C.first:=by
  generalize C.n=n;generalize C.first=f
  induction n with
  |zero=>simp
  |succ n ih=>
   rw[List.range_succ,List.countP_append];by_cases hn:n<f
   ·have:(List.range n).countP (λj=>decide (j<f))<=n:=by
     have:=List.countP_le_length (p:=λj=>decide (j<f)) (l:=List.range n);rw[List.length_range] at this;exact this
    simp[hn];omega
   ·simp[hn];omega
 have y:(List.range C.n).countP (λj=>C.may j)=C.free:=by unfold Ct.free Ct.Jw;rfl
 rw[u,y] at h;unfold Ct.used Ct.kept;omega
def Nw (R:Int->Nd × Int)(L:List (Nat × Int × List Qc)):Prop:=∀x∈L,Qp R x.1 x.2.1 x.2.2
theorem Keep.used (K:Keep D S0 C0 [] H P){L:List (Nat × Int × List Qc)}(hL:Nw (P.hide D []) L)(hH:∀a∈H,∃x∈L,x.2.1=a):P.C.used<=(L.map λx=>x.2.2.length).sum:=by
 have h1:∀a:Nat,a<P.C.n->P.C.get (a:Int)≠0->(a:Int)∈L.flatMap λx=>Yk (P.hide D []) x.1 x.2.1:=λa B h0=>
  qbp K.Qcd K.Ui K.c K.Zt.ok.res (S:=λa:Nat=>(a:Int)∈L.flatMap λx=>Yk (P.hide D []) x.1 x.2.1) (λb E O F=>by
   obtain⟨x,f,e⟩:=hH _ F;exact List.mem_flatMap.2 ⟨x,f,e▸qcw _ _ _⟩) (λb c E O W X Q G ⟨y,J,e⟩=>by
   obtain⟨x,f,I⟩:=List.mem_flatMap.1 G;refine List.mem_flatMap.2 ⟨x,f,?_⟩;rw[<-e];refine q8q (hL x f) I y ?_;rw[Nh];exact J) a B h0
 have h2:(((List.range P.C.n).filter λa=>decide (nm P.C.now a≠0)).map λa:Nat=>(a:Int)).length<=(L.flatMap λx=>Yk (P.hide D []) x.1 x.2.1).length:=by
  refine qgo ?_ λx f=>?_
  ·refine List.Pairwise.map _ (R:=λa b:Nat=>a≠b) (λa b h (e:(a:Int)=(b:Int))=>h (by omega)) ?_;exact List.nodup_range.filter _
  ·obtain⟨a,B,rfl⟩:=List.mem_map.1 f;obtain⟨u,M⟩:=List.mem_filter.1 B;have u:=List.mem_range.1 u;refine h1 a u λe=>of_decide_eq_true M ?_
   unfold Ct.get at e;rw[if_pos (by omega),Int.toNat_natCast] at e;exact e
 rw[List.length_map,<-List.countP_eq_length_filter] at h2;have u:∀(L:List (Nat × Int × List Qc)),Nw (P.hide D []) L->(L.flatMap λx=>Yk (P.hide D []) x.1 x.2.1).length<=(L.map λx=>x.2.2.length).sum:=by
  intro L;induction L with
  |nil=>intro _;simp
  |cons x t ih=>
   intro h;have Y:=K.Qae (h x (List.mem_cons_self ..));have Z:=ih λy J=>h y (List.mem_cons_of_mem _ J)
   rw[List.flatMap_cons,List.length_append,List.map_cons,List.sum_cons];omega
 exact Nat.le_trans h2 (u L hL)
end
def Pl.like (P P':Pl):Prop:=P'.S=P.S/\P'.C.done=P.C.done
theorem Pl.like.refl (P:Pl):P.like P:=⟨rfl,rfl⟩
theorem Pl.like.trans {P P' P'':Pl}(h:P.like P')(h2:P'.like P''):P.like P'':=⟨h2.1.trans h.1,h2.2.trans h.2⟩
theorem qu1 (P:Pl)(a:Int):P.like ⟨P.S,P.C.ref a,P.L⟩:=⟨rfl,by show (P.C.ref a).done=_;unfold Ct.ref;split<;>rfl⟩
theorem qcy (P:Pl)(a:Int):P.like ⟨P.S,P.C.Qy a,P.L⟩:=⟨rfl,by show (P.C.Qy a).done=_;unfold Ct.Qy;split<;>rfl⟩
theorem q98 (P:Pl)(N:Nd):P.like (P.Zn N):=by
 unfold Pl.Zn;split
 ·unfold Pl.lay;split
  ·exact⟨rfl,by show P.C.alloc.done=_;unfold Ct.alloc;split<;>rfl⟩
  ·exact .refl _
 ·exact .refl _
theorem qu2 (P:Pl)(a:Int)(N:Nd):P.like (P.Vq a N):=by
 unfold Pl.Vq;split
 ·exact⟨rfl,rfl⟩
 ·exact .refl _
theorem qcz:∀(l:List Int) {P P':Pl},Um l P=some P'->P.like P'
 |[],P,P',h=>by cases h;exact .refl _
 |a::l,P,P',h=>by
  unfold Um at h;split at h
  ·exact (qu1 P a).trans (qcz l h)
  ·cases h
theorem q8r:∀(l:List Int) {P P':Pl},q3g l P=some P'->P.like P'
 |[],P,P',h=>by cases h;exact .refl _
 |a::l,P,P',h=>by
  unfold q3g at h;split at h
  ·exact (qcy P a).trans (q8r l h)
  ·cases h
theorem q4y {P P':Pl}{s:Qu}{i j:Nat}(h:P.Qx s i j=some P'):P.like P':=by
 unfold Pl.Qx at h;split at h
 ·exact qcz _ h
 ·split at h
  ·cases h;exact .refl _
  ·exact q8r _ h
theorem qgp {P P':Pl}{D:DM}{s:Qu}{i:Nat}(h:P.near D s i=some P'):P.like P':=by
 unfold Pl.near at h;split at h
 ·exact q4y h
 ·cases h
theorem qqc {P P':Pl}{D:DM}{s t:Qu}{b:Nd}{x:Px}(h:P.have_ D s b t=some (x,P')):P.like P':=by
 unfold Pl.have_ at h;split at h
 ·cases h;exact .refl _
 ·split at h
  ·obtain⟨q,h1,h2⟩:=Option.map_eq_some_iff.1 h
   cases h2;exact qgp h1
  ·obtain⟨q,h1,h2⟩:=Option.map_eq_some_iff.1 h
   cases h2;exact qgp h1
theorem q82 {P P':Pl}{s:Qu}(h:P.leave s=some P'):P.like P':=by
 unfold Pl.leave at h;split at h
 ·cases h;exact .refl _
 ·split at h
  ·cases h;exact qcy P _
  ·cases h
theorem q6y:∀(l:List Qu) {P P':Pl} {r u:List Nd} {ks f:List Ql},Gu l P r ks=some (P',u,f)->P.like P'
 |[],P,P',r,u,ks,f,h=>by unfold Gu at h;cases h;exact .refl _
 |s::l,P,P',[],u,ks,f,h=>by
  unfold Gu at h;split at h
  ·rename_i y e;exact (q82 e).trans (q6y l h)
  ·cases h
 |s::l,P,P',b::r,u,ks,f,h=>by
  unfold Gu at h;split at h
  ·split at h
   ·rename_i y e;exact (q82 e).trans (q6y l h)
   ·cases h
  ·split at h
   ·exact (qu2 P _ _).trans (q6y l h)
   ·cases h
theorem qkn:∀(l:List Nd) {P P':Pl} {ks:List Ql} {q:Option (List Ql)},Xe l P ks=some (P',q)->P.like P'
 |[],P,P',ks,q,h=>by unfold Xe at h;cases h;exact .refl _
 |b::l,P,P',ks,q,h=>by
  unfold Xe at h;split at h
  ·exact (q98 P b).trans (qkn l h)
  ·split at h
   ·cases h;exact q98 P b
   ·cases h
theorem q99 {P P':Pl}{x:Px}{q:Option (List Ql)}(h:P.Y7 x=some (P',q)):P.like P':=by
 unfold Pl.Y7 at h;split at h
 ·rename_i u f y e;exact (q6y _ e).trans (qkn _ h)
 ·cases h
theorem qu3 {P P':Pl}{s:Qu}{b:Nd}{r:Option Int}(h:P.top s b=some (P',r)):P.like P':=by
 unfold Pl.top at h;split at h
 ·obtain⟨q,h1,h2⟩:=Option.map_eq_some_iff.1 h
  cases h2;exact q82 h1
 ·split at h
  ·rename_i f u e;have h0:=q99 e;split at h
   ·cases h;exact h0
   ·split at h
    ·cases h;exact h0
    ·split at h
     ·cases h;exact h0.trans (q98 f _)
     ·split at h
      ·cases h;exact h0.trans (q98 f _)
      ·cases h
  ·rename_i f e
   cases h;exact q99 e
  ·cases h
theorem qav {D:DM}:∀(way:List Qu) {P P':Pl} {s:Qu} {i j:Nat} {f:Nd} {r:Option Int},Wj D way P s i j f=some (P',r)->P.like P'
 |[],P,P',s,i,j,f,r,h=>by
  unfold Wj at h;split at h
  ·rename_i y e;exact (q4y e).trans (qu3 h)
  ·cases h
 |t::way,P,P',s,i,j,f,r,h=>by
  unfold Wj at h;split at h
  ·rename_i y e;split at h
   ·rename_i x F E;have h2:=(q4y e).trans (qqc E);split at h
    ·rename_i B G u;exact (h2.trans (q99 u)).trans (qav way h)
    ·rename_i B u
     cases h;exact h2.trans (q99 u)
    ·cases h
   ·cases h
  ·cases h
theorem qqd {P P':Pl}{D:DM}{root:Int}{x:Qc}{r:Option Int}(h:P.O6 D root x=some (P',r)):P.like P':=by
 unfold Pl.O6 at h;split at h
 ·exact qav _ h
 ·cases h
theorem qqe {P P':Pl}{D:DM}{root:Int}{k:Kd}{r:Option Int}(h:P.Oq D root k=some (P',r)):P.like P':=by
 unfold Pl.Oq at h;split at h
 ·exact qav _ h
 ·cases h
theorem q4z {P P':Pl}(h:P.like P')(hn:P'.C.n=P.C.n):P'.C.kept=P.C.kept:=by
 unfold Ct.kept;rw[h.2,hn]
theorem q6z (n:Nat):(Ct.zero n).kept=0:=by
 unfold Ct.kept;refine List.countP_eq_zero.2 λa e h=>of_decide_eq_true h ?_
 show (List.replicate n (0:Int)).getD a 0=0;rw[List.getD_eq_getElem?_getD,List.getElem?_replicate];split<;>rfl
def Jr (r:Int):List Int:=if r=0 then [] else [r]
structure Ed (b:Nat)(w:World)(d p:Nat)(U:Nat->Prop)(D:DM)(P:Pl)(H:List Int)(m:Nat)(g:Int):Prop where
 sys:∃S0 S T,Qi b w d p S0 S T D P/\(∀k,S0 k->U k)/\∀k,S k->U k
 low:∀k,U k->b<=k/\k<w.heap.size
 tab:Tab w
 keep:∃S0 C0,Keep D S0 C0 [] H P
 Ya:D.Ya m
 gen:P.S.gen<=g
section
variable {b:Nat}{w w':World}{d p:Nat}{U:Nat->Prop}{D:DM}{P:Pl}{H H0:List Int}{m:Nat}{g:Int}{root:Int}{its:List Qc}
theorem Ed.tidy (E:Ed b w d p U D P H m g):P.tidy:=by
 obtain⟨_,_,K⟩:=E.keep;exact⟨K.Zt.kind,K.laid⟩
theorem Ed.below (E:Ed b w d p U D P H m g)(hb:Below w.1.size w w'):Ed b w' d p U D P H m g:=by
 obtain⟨S0,S,T,h,h0,h1⟩:=E.sys;exact⟨⟨S0,S,T,h.below hb,h0,h1⟩,λk e=>⟨(E.low k e).1,by have:=(E.low k e).2;have:=hb.size;omega⟩,E.tab.below hb E.tab.1,E.keep,E.Ya,E.gen⟩
theorem Ed.src (E:Ed b w d p U D P H m g):Src w p (P.store D):=by
 obtain⟨S0,S,T,h,h0,h1⟩:=E.sys;obtain⟨_,_,K⟩:=E.keep;exact qvb h.U8 h.pool K.Zt.kind K.Zt.good
structure Bd (b:Nat)(w w':World)(d p:Nat)(U:Nat->Prop)(D:DM)(P P':Pl)(r:Int)(H0:List Int)(its:List Qc)(m:Nat)(g:Int):Prop where
 ed:Ed b w' d p U D P' (Jr r++H0) m g
 tree:Zb (P'.store D) r its
 like:P.like P'
 n:P'.C.n=P.C.n
 free:P.C.free<=P'.C.free+17
 old:∀l a t,a∈H0->Qp (P.store D) l a t->Qp (P'.store D) l a t
 turn:Turn U w w'
def Iz (b:Nat)(w:World)(d p:Nat)(U:Nat->Prop)(D:DM)(P:Pl)(H0:List Int)(its:List Qc)(m:Nat)(g:Int)(e:Ending)(w':World):Prop:=
 (∃r P',e=.returned (.tuple #[.int .i64 r,.int .i64 0])/\Bd b w w' d p U D P P' r H0 its m g)\/((∃v,e=.returned (.tuple #[.int .i64 v,.int .i64 6]))/\P.C.free<17/\Turn U w w'/\Tab w')
theorem qqf {S0:Sp}{C0:Ct}{B G K:Nat->Prop}(J:Ed b w d p U D P H m g)(_:Qi b w d p B G K D P)(h0:∀k,B k->U k)(h1:∀k,G k->U k){E:Option (Pl × Option Int)}(ho:Yf D S0 C0 [] H0 P its 17 E)(hl:∀P' r,E=some (P',r)->P.like P')
  {f:FuncId} {u:Array Value} (O:∀P' r,E=some (P',r)->Calls Tryz.prog f u w (Gz b d p B G K D w P' r)):Calls Tryz.prog f u w (Iz b w d p U D P H0 its m g):=by
 rcases ho with⟨P',r,I,F⟩|⟨P',I,Z⟩
 ·refine (O _ _ I).mono ?_;rintro e w' ⟨v,rfl,hv,y,X,M,td⟩;have:=hv r rfl;subst this;have W:=hl _ _ I;have ext:=F.old;rw[Nh,Nh] at ext;have Y:=F.tree;rw[Nh] at Y;refine .inl ⟨v,P',rfl,⟨⟨⟨B,G,K,y,h0,h1⟩,λk Q=>⟨(J.low k Q).1,by have:=(J.low k Q).2;have:=X.size;omega⟩,M,⟨S0,C0,F.keep⟩,J.Ya,by rw[W.1];exact J.gen⟩,Y,W,F.n,F.free,ext,X.mono h1⟩⟩
 ·refine (O _ _ I).mono ?_;rintro e w' ⟨v,rfl,_,y,X,M,td⟩;exact .inr ⟨⟨v,rfl⟩,Z,X.mono h1,M⟩
theorem Ed.put (E:Ed b w d p U D P (Jr root++H0) m g)(hb:1<b)(hT:Zb (P.store D) root its)(hr:Qd its)(hf:∀x∈its,Ze x)(k:Kd)(v:List UInt8)(hx:Ze ⟨k,v⟩)(hfew:its.length<1000)(hH0:H0.length<=10000)(V:Option Addr)(q c:Nat)(hV:Sl w V q c v)(hVU:v≠[]->∀g,q01 V=some g->¬U g) :
  Calls Tryz.prog 30 #[.pointer (some ⟨p,0,none⟩),.int .i64 root,.agg #[.int .i64 k.obj,.int .i64 k.kind,.int .i64 k.off],.slice V q c] w (Iz b w d p U D P H0 (Zo k v false its) m g):=by
 obtain⟨G,I,J,f,h0,h1⟩:=E.sys;obtain⟨S0,C0,K⟩:=E.keep;rw[<-Nh] at hT;have B:q<=28:=by
  have:=hV.len;have:=hx.2.1;have e:(⟨k,v⟩:Qc).v=v:=rfl;rw[e] at this;omega
 exact qqf E f h0 h1 (qtw K hT hr hf hx hfew hH0) (λ_ _ h=>qqd h) λP' r e=>qty f hb E.tab E.tidy root k V q c v (λu X=>hV.turned' X λF g y h=>hVU F g y (h1 g h)) hx.1 B e
theorem Ed.del (E:Ed b w d p U D P (Jr root++H0) m g)(hb:1<b)(hT:Zb (P.store D) root its)(hr:Qd its)(hf:∀x∈its,Ze x)(k:Kd)(hfew:its.length<1000)(hH0:H0.length<=10000)(hk:∃x∈its,x.k.same k=true) :
  Calls Tryz.prog 31 #[.pointer (some ⟨p,0,none⟩),.int .i64 root,.agg #[.int .i64 k.obj,.int .i64 k.kind,.int .i64 k.off]] w (Iz b w d p U D P H0 (Jv k its) m g):=by
 obtain⟨I,J,M,y,h0,h1⟩:=E.sys;obtain⟨S0,C0,K⟩:=E.keep;rw[<-Nh] at hT;have f:root≠0:=by
  rcases hT with⟨rfl,_⟩|⟨l,_,_,h,_⟩
  ·obtain⟨x,G,_⟩:=hk
   cases G
  ·omega
 obtain⟨up,s,B,O,u,F⟩:=qkj K hT hr hf f k hfew hH0;exact qqf E y h0 h1 (F (u.2 hk)) (λ_ _ h=>qqe h) λP' r e=>qtz y hb E.tab E.tidy root k B (u.2 hk) e
theorem Ed.Qaz (E:Ed b w d p U D P (Jr root++H0) m g)(hb:1<b)(hT:Zb (P.store D) root its)(hr:Qd its)(hf:∀x∈its,Ze x)(k:Kd)(hfew:its.length<1000)(hH0:H0.length<=10000)(hk:¬∃x∈its,x.k.same k=true) :
  Calls Tryz.prog 31 #[.pointer (some ⟨p,0,none⟩),.int .i64 root,.agg #[.int .i64 k.obj,.int .i64 k.kind,.int .i64 k.off]] w λe w'=>e=.returned (.tuple #[.int .i64 0,.int .i64 10])/\Below w.1.size w w':=by
 obtain⟨G,I,J,y,h0,h1⟩:=E.sys;obtain⟨S0,C0,K⟩:=E.keep;rw[<-Nh] at hT;by_cases f:root=0
 ·exact qqb y hb E.tab E.tidy root k (if_pos f:P.way D root k=some ([],q46)) rfl
 ·obtain⟨up,s,B,M,F,O⟩:=qkj K hT hr hf f k hfew hH0;refine qqb y hb E.tab E.tidy root k B ?_
  cases u:Vb s.N.keys k (s.N.Za k) with
  |false=>rfl
  |true=>exact absurd (F.1 u) hk
theorem Ed.free (E:Ed b w d p U D P H m g)(n:Nat)(hn:P.C.free=n):Calls Tryz.prog 28 #[.pointer (some ⟨p,0,none⟩)] w λe w'=>e=.returned (.int .i64 (n:Int))/\w=w':=by
 obtain⟨u,y,B,f,h0,h1⟩:=E.sys;exact qoo f.pool n hn
end
section
variable {b:Nat}{w w':World}{d p:Nat}{U:Nat->Prop}{D:DM}{P:Pl}{H H0:List Int}{m:Nat}{g:Int}{root:Int}{its:List Qc}
theorem Ed.Vd (E:Ed b w d p U D P (Jr root) m g)(hT:Zb (P.store D) root its):P.C.n<=P.C.free+(P.C.first+(its.length+P.C.kept))/\P.C.used<=its.length:=by
 obtain⟨S0,C0,K⟩:=E.keep;rcases hT with⟨rfl,rfl⟩|⟨l,_,h,h1,_⟩
 ·have h1:=K.used (L:=[]) (λx u=>by cases u) (λa f=>by cases f);have h2:=qau P.C;have h1:P.C.used<=0:=h1;simp only[List.length_nil];omega
 ·rw[<-Nh] at h;have e:Jr root=[root]:=if_neg (by omega);rw[e] at K;have h1:=K.used (L:=[(l,root,its)]) (λx u=>by cases List.mem_singleton.1 u;exact h) (λa f=>⟨_,List.mem_singleton_self _,(List.mem_singleton.1 f).symm⟩);have h2:=qau P.C;have h1:P.C.used<=its.length+0:=h1;omega
theorem Ed.told (E:Ed b w d p U D P H m g)(hT:Zb (P.store D) root its)(hr:Qd its)(hl:its.length<=150):Told w p (P.store D) root its:=⟨E.src,hT,hr,hl⟩
end
theorem q9a (n:Nat)(hn:Qb n)(w:World)(Y:Tab w) :
  Calls Tryz.prog 11 #[.int .i64 n] w λe w'=>∃p d U D,e=.returned (.pointer (some ⟨p,0,none⟩))/\Ed w.1.size w' d p U D (Pl.fresh n) [] 100 2/\Below w.1.size w w'/\(∀k,U k->w.1.size<=k):=by
 have hG:=Y.1;have h1:32<=n:=hn.1;have h2:n<=2048:=hn.2;go_enter Tryz.func11,Tryz.ntmps11
 go_wp2_with fail
 refine (qxa n hn w).mono ?_;rintro e w1 ⟨d,rfl,X,I⟩;have Z:=Y.below I hG;go_wp2_with fail
 refine (qhs X ⟨rfl,rfl⟩ (by omega) Z (qjk n) (by omega)).mono ?_;rintro e K ⟨p,q,rfl,u⟩;have G:(DM.mk0 n).n=n:=rfl;rw[G] at u;have y:=(q3c (Xt n) (qjk n)).mono (m':=100) (by have:=qxz (n:=n) h2;omega);have J:=qml h1 h2;obtain⟨W,E⟩:∃D,(DM.mk0 n).Qk (Xt n)=D:=⟨_,rfl⟩;rw[E] at u y J;obtain⟨P,O⟩:∃P,Pl.fresh n=P:=⟨_,rfl⟩;have hg:P.S.gen=1:=by rw[<-O];rfl
 rw[O] at u J;have B:=qxy (b:=w.1.size) u (λk f=>f) I.size;have t2:=Z.turned u.turn (by omega);have z1:=I.size;have M:Below w.1.size w K:=I.trans (u.turn.below (λk f=>f) z1);obtain⟨S0,S,B⟩:=B;obtain⟨T,Q⟩:∃T:Nat->Prop,(λk=>w.1.size<=k/\k<K.1.size)=T:=⟨_,rfl⟩;have F:∀k,T k->w.1.size<=k/\k<K.1.size:=λk f=>by rw[<-Q] at f;exact f
 rw[Q] at B;have E2:Ed w.1.size K d p T W P [] 100 2:=⟨⟨S0,S,T,B,B.sub,B.Cj⟩,F,t2,⟨_,_,J⟩,y,by omega⟩;clear u X Q E J y G;go_wp2_with fail
 go_ret;exact⟨p,d,T,W,rfl,O▸E2,M,λk f=>(F k f).1⟩
def edX:Qc:=⟨⟨1,1,0⟩,shB⟩
theorem qko:Ze edX:=⟨by decide,by decide,by decide⟩
theorem qaw {C e:Ct}(h:e.n=C.n):e.first=C.first:=by unfold Ct.first;rw[h]
theorem qep (n:Nat):(Pl.fresh n).C.n=n:=Ct.Q9 n
theorem q50 {b:Nat}{w w':World}{d p:Nat}{U:Nat->Prop}{D:DM}{P P':Pl}{r:Int}{H0:List Int}{its:List Qc}{m:Nat}{g:Int}(h:Bd b w w' d p U D P P' r H0 its m g):r=0↔its=[]:=by
 rcases h.tree with⟨rfl,rfl⟩|⟨l,_,e,h1,_⟩
 ·exact⟨λ_=>rfl,λ_=>rfl⟩
 ·constructor
  ·intro h;omega
  ·rintro rfl;obtain⟨x,t,h⟩:=q39 e
   cases h
theorem q83 (w:World)(ht:Tab w):Calls Tryz.prog 10 #[] w λe w'=>e=.returned (.bool true)/\Below w.1.size w w':=by
 have hG:=ht.1;have hM:=Lib.hid (q9a 64 ⟨by omega,by omega⟩ w ht);have J:=qep 64;have a2:(Pl.fresh 64).C.first=4:=by unfold Ct.first;rw[J];rfl
 have a6:(Pl.fresh 64).C.kept=0:=q6z 64;obtain⟨P,hP⟩:∃P,Pl.fresh 64=P:=⟨_,rfl⟩;rw[hP] at hM J a2 a6;go_enter Tryz.func10,Tryz.ntmps10
 go_wp2_with fail
 refine hM.out.mono ?_;rintro e u ⟨p,d,U,D,rfl,E2,B2,hU⟩;clear hM;have K3:KB (u.alloc (.cells #[.int .i64 0,.int .i64 0,.int .i64 0] 30)) u.1.size ⟨0,0,0⟩:=KB.new u 0 0 0 _;have b3:Below u.1.size u (u.alloc (.cells #[.int .i64 0,.int .i64 0,.int .i64 0] 30)):=Qm;have kc:=λ(w:World) (C:Array Value) (n c:Nat)=>Lib.run_convert_bytes_const (P:=Tryz.prog) w 31 5 C n c Tryz.underlying31 Tryz.underlying5
 go_wp2_with (first
  |(refine q0x rfl (.tmp 2) (.tmp 14) rfl u.1.size rfl ⟨1,1,0⟩ _ rfl K3 ?_;intro F M T4;have c0:=M.c0;have c1:=M.c1;have c2:=M.c2)
  |fail)
 have y:Below u.1.size u F:=b3.trans (T4.below (λk hk=>by have hk:k=u.1.size:=hk;omega) b3.size);have E4:=E2.below y;have W:=B2.trans (y.mono B2.size);have B:∀k,U k->k<u.1.size:=λk hk=>(E2.low k hk).2
 clear K3 b3 T4;have b5:Below F.1.size F (F.alloc (.cells #[.int .u8 97,.int .u8 98] 5 (2,3))):=Qm;have s5:Sl (F.alloc (.cells #[.int .u8 97,.int .u8 98] 5 (2,3))) (some ⟨F.1.size,0,none⟩) 2 2 shB:=qvq F 5 (2,3) [97,98] #[.int .u8 97,.int .u8 98] rfl (by simp);have I:Zb (P.store D) 0 []:=.inl ⟨rfl,rfl⟩;have f:=(E4.Vd (root:=0) I).1;rw[J,a2,a6] at f;simp only[List.length_nil] at f;have z24:=y.size;have HP:=Lib.hid ((E4.below b5).put (root:=0) (H0:=[]) hG I List.Pairwise.nil (λx K=>by cases K) ⟨1,1,0⟩ shB qko (by simp) (by simp) _ 2 2 s5 (λ_ g hg c6=>by have:=B g c6;have hg:F.1.size=g:=Option.some.inj hg;omega));have K5:=M.below b5 M.lt;have X:=W.trans (b5.mono W.size);go_wp2_with fail
 refine HP.out.mono ?_;rintro e w6 (⟨r,P6,rfl,G⟩|⟨_,hf,_⟩)
 case inr=>omega
 have E:=q50 G;have z26:u.1.size<=w6.1.size:=Nat.le_trans (y.trans (b5.mono y.size)).size G.turn.size;have E:r≠0:=λh=>by have:=E.1 h;cases this
 have X6:=G.turn;have Y:Below w.1.size w w6:=X.trans (X6.below hU X.size);have O:KB w6 u.1.size ⟨1,1,0⟩:=K5.keep (X6.block _ K5.lt λh=>by have:=B _ h;omega);have b0:=O.c0;have b1:=O.c1;have b2:=O.c2;have E6:=G.ed;have a8:=G.free;have T6:Zb (P6.store D) r [edX]:=G.tree;have a7:Qd [edX]:=List.pairwise_singleton ..;have Hg:=Lib.hid ((E6.told T6 a7 (by simp)).Qbg E6.tab ⟨1,1,0⟩ (shB,0) rfl);clear c0 c1 c2 M K5 HP G s5 I kc;go_wp2_with fail
 refine Hg.out.mono ?_;rintro e w7 ⟨A7,n7,d7,rfl,s7,c8,b7⟩;have E7:=E6.below b7;have Q:=O.below b7 O.lt;have Z:=Y.trans (b7.mono Y.size);have b4:=Q.c0;have b6:=Q.c1;have b8:=Q.c2;have HD:=Lib.hid (E7.del (root:=r) (H0:=[]) hG T6 a7 (λx K=>by cases List.mem_singleton.1 K;exact qko) ⟨1,1,0⟩ (by simp) (by simp) ⟨edX,List.mem_singleton_self _,by decide⟩);clear b0 b1 b2 O Hg E6 X6;go_wp2_with fail
 refine HD.out.mono ?_;rintro e w8 (⟨r8,P8,rfl,N8⟩|⟨_,hf,_⟩)
 case inr=>omega
 have c7:r8=0:=(q50 N8).2 (by decide);subst c7;have X8:=N8.turn;have a1:Below w.1.size w w8:=Z.trans (X8.below hU Z.size);have K8:KB w8 u.1.size ⟨1,1,0⟩:=Q.keep (X8.block _ Q.lt λh=>by have:=B _ h;omega);have s8:Sl w8 A7 n7 d7 shB:=s7.turned' X8 λh1 g hg h=>by have:=c8 h1 g hg;have:=B _ h;have:=z26;omega
 have c9:=K8.c0;have d0:=K8.c1;have d1:=K8.c2;have E8:=N8.ed;have HN:=Lib.hid (E8.Qaz (root:=0) (H0:=[]) (its:=[]) hG (.inl ⟨rfl,rfl⟩) List.Pairwise.nil (λx K=>by cases K) ⟨1,1,0⟩ (by simp) (by simp) (λ⟨x,K,_⟩=>by cases K));clear b4 b6 b8 Q HD N8 X8;go_wp2_with fail
 refine HN.out.mono ?_;rintro e w9 ⟨rfl,b9⟩;have s9:=s8.below b9;have d2:=Pg s9;have h3:(r != 0)=true:=by simpa using E
 have h4:decide (r=0)=false:=by simpa using E
 clear HN;go_wp2_with fail
 go_ret;exact⟨rfl,a1.trans (b9.mono a1.size)⟩
def FU (U:Nat->Prop)(V:Option Addr)(v:List UInt8):Prop:=v≠[]->∀g,q01 V=some g->¬U g
structure J8 (U:Nat->Prop)(w:World)(A:Option Addr)(n c:Nat)(xs:List Qc):Prop where
 row:Zg (FU U) w A n c xs
 blk:xs≠[]->∀g,q01 A=some g->¬U g
section
variable {U:Nat->Prop}{w w':World}{A:Option Addr}{n c:Nat}{xs:List Qc}
theorem q3s {F y:Option Addr->List UInt8->Prop}(h:Zg F w A n c xs)(hF:∀V p q v,Sl w V p q v->F V v->y V v):Zg y w A n c xs:=by
 obtain⟨u,h1,h2,B⟩:=h;refine⟨u,h1,h2,λj r x E G=>?_⟩;obtain⟨V,p,q,e,f⟩:=B j r x E G;exact⟨V,p,q,e,f.1,hF _ _ _ _ f.1 f.2⟩
theorem J8.Zq (h:J8 U w A n c xs):Zl w A n c xs:=h.row.Zq
theorem J8.len (h:J8 U w A n c xs):xs.length=n:=h.row.Zq.len
theorem J8.below (h:J8 U w A n c xs)(hb:Below w.1.size w w'):J8 U w' A n c xs:=⟨h.row.below hb,h.blk⟩
theorem J8.turned (h:J8 U w A n c xs)(T:Turn U w w'):J8 U w' A n c xs:=by
 by_cases f:xs=[]
 ·subst f;obtain⟨e,h1,h2,E⟩:=h.row;obtain rfl:e=[]:=List.eq_nil_of_length_eq_zero h2;exact⟨⟨[],⟨h1.1,h1.2.1,h1.2.2.1,λj x u=>by simp at u⟩,rfl,λj r x y=>by simp at y⟩,λh=>absurd rfl h⟩
 ·exact⟨h.row.turned T (h.blk f) λV v B=>B,h.blk⟩
theorem J8.cell (h:J8 U w A n c xs){j:Nat}(hj:j<n):∃b o V p q,A=some ⟨b,o,none⟩/\b<w.1.size/\¬U b/\w.cell? ⟨b,o+j*4,none⟩=some (.int .i64 (Qj xs j).k.obj)/\w.cell? ⟨b,o+j*4+1,none⟩=some (.int .i64 (Qj xs j).k.kind)/\w.cell? ⟨b,o+j*4+2,none⟩=some (.int .i64 (Qj xs j).k.off)/\w.cell? ⟨b,o+j*4+3,none⟩=some (.slice V p q)/\Sl w V p q (Qj xs j).v/\((Qj xs j).v≠[]->∀g,q01 V=some g->¬U g):=by
 have f:=h.len;have B:xs≠[]:=λe=>by rw[e] at f;simp at f;omega
 obtain⟨b,o,V,p,q,rfl,y,c0,c1,c2,c3,u⟩:=h.row.cell hj;exact⟨b,o,V,p,q,rfl,y,h.blk B _ rfl,c0,c1,c2,c3,u.1,u.2⟩
end
theorem q84 (v:List UInt8):(Zd v).length=v.length:=by unfold Zd;split<;>simp
theorem q8s (k:Kd)(v:List UInt8):Ko ⟨k,Zd v⟩=none:=by
 unfold Ko;refine if_neg λ⟨_,h1,h2⟩=>?_
 have h1:(Zd v).length=3:=h1;have h2:Wh (Zd v) 0=1:=h2;rw[q84] at h1;unfold Zd at h2;by_cases e:Wh v 0=1
 ·rw[if_pos ⟨h1,e⟩] at h2;have:Wh (v.set 0 2) 0=2:=by
   match v,h1 with
   |[a,b,c],_=>rfl
  omega
 ·rw[if_neg λh=>e h.2] at h2;exact e h2
section
variable {b:Nat}{w w':World}{d p:Nat}{U:Nat->Prop}{D:DM}{P:Pl}{H H0:List Int}{m:Nat}{g:Int}{root:Int}{its:List Qc}
theorem Ed.nil (E:Ed b w d p U D P (H++[]) m g):Ed b w d p U D P H m g:=by
 rw[List.append_nil] at E;exact E
theorem Ed.Ey (E:Ed b w d p U D P (Jr root++H0) m g)(hb:1<b)(hT:Zb (P.store D) root its)(hr:Qd its)(hf:∀x∈its,Ze x)(k:Kd)(v:List UInt8)(hx:Ze ⟨k,v⟩)(hfew:its.length<1000)(hH0:H0.length<=10000)(V:Option Addr)(q c:Nat)(hV:Sl w V q c v)(hVU:v≠[]->∀g,q01 V=some g->¬U g)(hfree:17<=P.C.free)(its':List Qc)(hi:Zo k v false its=its') :
  Calls Tryz.prog 30 #[.pointer (some ⟨p,0,none⟩),.int .i64 root,.agg #[.int .i64 k.obj,.int .i64 k.kind,.int .i64 k.off],.slice V q c] w λe w'=>∃r P',e=.returned (.tuple #[.int .i64 r,.int .i64 0])/\Bd b w w' d p U D P P' r H0 its' m g:=by
 subst hi;refine (E.put hb hT hr hf k v hx hfew hH0 V q c hV hVU).mono ?_;rintro e w' (⟨r,P',rfl,N⟩|⟨_,h,_⟩)
 ·exact⟨r,P',rfl,N⟩
 ·omega
end
theorem q70 {U:Nat->Prop}{w:World}{base n c:Nat}{e:TypeId}{A:Option Addr}{l:List UInt8}(h:Own w base e A n c l)(y:∀k,U k->k<base):∀g,q01 A=some g->¬U g:=λg u f=>by
 have h1:=y g f
 cases A with
 |none=>cases u
 |some ad=>
  have h2:=h.block ad rfl;have B:ad.block=g:=Option.some.inj u;omega
