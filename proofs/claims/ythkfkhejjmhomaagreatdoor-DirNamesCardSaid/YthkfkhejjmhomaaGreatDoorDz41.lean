/- The code's edit: exchange of any way; Put and Delete -/
import Derived.Test.YthkfkhejjmhomaaGreatDoorDz35
import Derived.Test.YthkfkhejjmhomaaGreatDoorDz39
import Derived.Test.YthkfkhejjmhomaaGreatDoorDz40
namespace Go.Proofs.YthkfkhejjmhomaaGreatDoor
open Go Go.RowKit Go.Proofs
set_option maxHeartbeats 8000000
set_option maxRecDepth 100000
section
variable {b:Nat}{d p:Nat}{S0 S:Nat->Prop}{D:DM}
theorem Qgg (hb:1<b):∀(way:List Zz) {w:World} {T:Nat->Prop} {P P':Pl} (_:Zb b w d p S0 S T D P) (_:Tab w) (_:P.tidy) (s:Zz) (_:s.N.fit) (_:s.N.size<=12) (_:0<=s.N.lvl/\s.N.lvl<8) (_:Qcn s way) (X:Option Addr) (n c:Nat) (_:∀u,Turn S w u->Spl (Turn S w) u X n c (way.reverse++[s])) (_:n<=20)
  (f:Nd) (_:f.fit) (_:f.size<=7) (_:f.lvl=s.N.lvl) (y:Option Addr) (G c2:Nat) (z:Option Addr) (F E:Nat) (_:U6 (Turn S w) f y G c2 z F E) (i j:Nat) (_:i<=j) (_:j<=s.N.size) {r:Option Int} (_:Qas D way P s i j f=some (P',r)),
  Calls Tryz.prog 110 #[tv p,.slice X n c,.int .i64 (i:Int),.int .i64 (j:Int),Px f.lvl y G c2 z F E] w (Qf9 b d p S0 S T D w P' r)
 |[],w,T,P,P',H,ht,hP,s,hfs,hss,hsl,hwf,X,n,c,hX,hn,f,hfc,hcs,hcl,y,G,c2,z,F,E,hB,i,j,hi,hj,r,hex=>by
  obtain⟨P1,hr,_⟩:=Qop hex;exact Qig H hb ht hP s [] hfs hss hsl X n c hX hn f hfc hcs hcl y G c2 z F E hB i j hi hj hex hr (Lib.hid hwf) (λt J e=>by cases e)
 |t::way,w,T,P,P',H,ht,hP,s,hfs,hss,hsl,hwf,X,n,c,hX,hn,f,hfc,hcs,hcl,y,G,c2,z,F,E,hB,i,j,hi,hj,r,hex=>by
  obtain⟨P1,x,P2,P3,r2,hr,_⟩:=Qla hex;refine Qig H hb ht hP s (t::way) hfs hss hsl X n c hX hn f hfc hcs hcl y G c2 z F E hB i j hi hj hex hr (Lib.hid hwf) (λt' J e=>?_);injection e with e1 e2;subst e1 e2;intro T2 w2 P3 H2 a6 Y f2 s2 l2 a7 Z q O M K A n' c' B m' d' W i2 j2 a1 a2 I;exact Qgg hb way H2 a6 Y t f2 s2 l2 a7.out X (n-1) c Z (by omega) q O M K A n' c' B m' d' W i2 j2 a1 a2 I
end
theorem Que {N:Nd}(q:N.fit)(h0:N.lvl=0)(k:Kd):N.Xv k<=N.size/\(foundAt N.keys k (N.Xv k)=true->N.Xv k<N.size):=by
 have f:=q.1 h0;have e:N.Xv k=lead N.keys k:=if_pos h0;have u:N.keys.length=N.items.length:=by unfold Nd.keys;rw[f];simp
 have y:N.size=N.items.length:=by unfold Nd.size;rw[f];simp
 have h1:=Qfh N.keys k;refine⟨by omega,λh=>?_⟩;unfold foundAt at h;rw[Bool.and_eq_true] at h;have:=of_decide_eq_true h.1;omega
theorem Qql (s:Zz)(j:Nat)(up:List Zz):Qcn { s with next:=j } up↔Qcn s up:=by
 cases up with
 |nil=>exact Iff.rfl
 |cons t way=>exact Iff.rfl
theorem Qex:∀(up:List Zz) (s:Zz),s.N.lvl<8->Qcn s up->s.N.lvl+(up.length:Int)<=7
 |[],s,h,_=>by simp;omega
 |t::way,s,h,hw=>by
  obtain⟨_,_,q,e,_,f⟩:=hw;have:=Qex way t e f;rw[List.length_cons];omega
structure Qta (up:List Zz)(s:Zz):Prop where
 fit:s.N.fit
 size:s.N.size<=12
 lvl:s.N.lvl=0
 way:Qcn s up
theorem Qmg {P:Pl}{D:DM}(hm:∀a,P.Qj D a=0->(P.Qb D a).may=true)(k:Kd):∀(f:Nat) (s:Zz) (up:List Zz) {e:List Zz} {q:Zz},s.N.may=true->Qcn s up->P.Vd D k f s up=some (e,q)->Qta e q
 |0,s,up,e,q,hs,hw,h=>by
  have h:(if s.N.lvl<=0 then some (up,s) else none)=some (e,q):=h;have z:=Qdq hs;split at h
  ·injection Option.some.inj h with u y;subst u y;exact⟨U0 hs,Qbs hs,by omega,hw⟩
  ·cases h
 |f+1,s,up,e,q,hs,hw,h=>by
  have h:(if s.N.lvl<=0 then some (up,s) else if P.Yc D s (s.N.Xv k)=true then P.Vd D k f (P.W9 D s (s.N.Xv k)) ({ s with next:=s.N.Xv k }::up) else none)=some (e,q):=h;have z:=Qdq hs;split at h
  ·injection Option.some.inj h with u y;subst u y;exact⟨U0 hs,Qbs hs,by omega,hw⟩
  ·split at h
   ·rename_i A;obtain⟨E,B,F⟩:=of_decide_eq_true A;refine Qmg hm k f _ _ (hm _ B) ?_ h;refine⟨U0 hs,Qbs hs,?_,z.2,?_,(Qql s _ up).2 hw⟩
    ·show s.N.lvl=(P.Qb D (Ql s.N.kids (s.N.Xv k)).a).lvl+1;omega
    ·show s.N.Xv k+1<=s.N.size;unfold Nd.size;omega
   ·cases h
theorem Qqm {P:Pl}{D:DM}(hm:∀a,P.Qj D a=0->(P.Qb D a).may=true){root:Int}{k:Kd}{up:List Zz}{s:Zz}(h:P.way D root k=some (up,s)):Qta up s:=by
 unfold Pl.way at h;split at h
 ·injection Option.some.inj h with e f;subst e f;exact⟨⟨λ_=>rfl,λh=>absurd rfl h⟩,by decide,rfl,trivial⟩
 ·split at h
  ·rename_i q;exact Qmg hm k 8 _ [] (hm root q) trivial h
  ·cases h
theorem Qoi {w:World}{g o kc k q:Nat}{s:Zz}{A:Option Addr}{n c:Nat}{B:Option Addr}{m d:Nat}(z:w.rangeAt g (o+q*7) (spV s A n c B m d))(M:g<w.1.size)(W:k=q+1)(y:k<=1000) :
  Calls Tryz.prog 109 #[.slice (some ⟨g,o,none⟩) k kc] w λe w'=>e=.returned (spA s A n c B m d)/\Below w.1.size w w':=by
 obtain⟨N,u,E,hd,F⟩:=s;have f:Below w.1.size w (w.alloc zsp):=Ib;have G:=Nu w;have cell:∀(j:Nat) v,(spV ⟨N,u,E,hd,F⟩ A n c B m d)[j]?=some v->(w.alloc zsp).cell? ⟨g,o+q*7+j,none⟩=some v:=λj v X=>(f.cell (p:=⟨g,_,none⟩) M).trans (z j v X)
 have K:=cell 0 _ rfl;have Y:=cell 1 _ rfl;have Z:=cell 2 _ rfl;have f3:=cell 3 _ rfl;have f4:=cell 4 _ rfl;have f5:=cell 5 _ rfl;have f6:=cell 6 _ rfl;rw[Nat.add_zero] at K;have hw:IntKind.i64.wrap ((k:Int)-1)=(q:Int):=by
  have:(k:Int)-1=(q:Int):=by omega
  rw[this];exact IntWalk.i64_in _ (by omega)
 have hj:(0:Int)<=(q:Int):=by omega
 have O:(q:Int)<(k:Int):=by omega
 clear cell z W;go_enter Tryz.func109,Tryz.ntmps109
 go_wp2_with (first
  |(refine Le rfl _ _ rfl w.1.size rfl N.lvl A n c B m d u (E:Int) hd F rfl G rfl ?_;intro wz I J)
  |fail)
 refine bodyPost_ret (Rl Tryz.results109 rfl (Qbr I)) rfl ?_;exact⟨rfl,f.trans (J.below (λk y=>by have:k=w.1.size:=y;omega) f.size)⟩
section
theorem Zbz {S:Nat->Prop}{w:World}(z:∀k,S k->k<w.1.size)(k:Kd){V:Option Addr}{q c:Nat}{v:List UInt8}(A:∀u,Turn S w u->Sl u V q c v) :
  U6 (Turn S (w.alloc (.cells #[.int .i64 k.obj,.int .i64 k.kind,.int .i64 k.off,.slice V q c] 50))) ⟨0,[⟨k,v⟩],[]⟩ (some ⟨w.1.size,0,none⟩) 1 1 none 0 0:=by
 have h0:Zg (w.alloc (.cells #[.int .i64 k.obj,.int .i64 k.kind,.int .i64 k.off,.slice V q c] 50)) 4 (some ⟨w.1.size,0,none⟩) 1 1 [Yp k V q c]:=(Np w 50 4 (Yp k V q c) _ rfl rfl).Hr (by omega);refine⟨⟨[Yp k V q c],λu f=>Qci h0 f (λg e B=>by injection e with e;have e:w.1.size=g:=e;have:=z g B;omega),rfl,λj r x y E=>?_⟩,λu f=>Qf0 u 4,rfl,rfl,⟨by omega,by omega,by unfold maxLen;omega⟩,⟨by omega,by omega,by unfold maxLen;omega⟩⟩;match j with
 |0=>
  obtain rfl:=Option.some.inj y;obtain rfl:=Option.some.inj E;exact⟨V,q,c,rfl,λu f=>A u ((Uk (S:=S) (Ib)).then f)⟩
 |j+1=>simp at y
theorem Qos (l:Int)(A:Option Addr)(n c:Nat)(B:Option Addr)(m d:Nat)(a x:Int)(h s:Bool)(w:World):(Instr.field 180 (.agg #[.int .i64 l,.slice A n c,.slice B m d,.int .i64 a,.int .i64 x,.bool h,.bool s]) 0).run Tryz.prog w=.ok (Px l A n c B m d) w:=by
 kernel_rfl
theorem Qld (l:Int)(A:Option Addr)(n c:Nat)(B:Option Addr)(m d:Nat)(w:World):(Instr.field 178 (Px l A n c B m d) 0).run Tryz.prog w=.ok (Px l A n c B m d) w:=by
 unfold Px;kernel_rfl
def Zel (v:Value):Sem Value:=Instr.field 180 v 0
theorem Qvk (v:Value):Instr.field 180 v 0=Zel v:=rfl
def Zek (v:Value):Sem Value:=Instr.field 178 v 0
theorem Qvj (v:Value):Instr.field 178 v 0=Zek v:=rfl
attribute [local go_sem ↓] Qvk
attribute [local go_sem ↓] Qvj
section
variable {b:Nat}{w:World}{d p:Nat}{S0 S T:Nat->Prop}{D:DM}{P P':Pl}
theorem Qyk (H:Zb b w d p S0 S T D P)(hb:1<b)(ht:Tab w)(hP:P.tidy)(root:Int)(k:Kd)(V:Option Addr)(q c:Nat)(v:List UInt8)(hV:∀u,Turn S w u->Sl u V q c v)(hk:k.may=true)(hq:q<=28){r:Option Int}(hp:P.Qpz D root ⟨k,v⟩=some (P',r)) :
  Calls Tryz.prog 64 #[.pointer (some ⟨p,0,none⟩),.int .i64 root,.agg #[.int .i64 k.obj,.int .i64 k.kind,.int .i64 k.off],.slice V q c] w (Qf9 b d p S0 S T D w P' r):=by
 have hS:=H.low;obtain⟨up,s,hw,f⟩:∃up s,P.way D root k=some (up,s)/\Qas D up P s (s.N.Xv k) (s.N.Xv k+if foundAt s.N.keys k (s.N.Xv k)=true then 1 else 0) ⟨0,[⟨k,v⟩],[]⟩=some (P',r):=by
  unfold Pl.Qpz at hp;dsimp only at hp
  cases e:P.way D root k with
  |none=>rw[e] at hp;cases hp
  |some y=>rw[e] at hp;exact⟨y.1,y.2,rfl,hp⟩
 have hm:=λa h=>H.may a h
 obtain⟨lf,ls,ll,lw⟩:=Qqm hm hw;have Hw:=λ(u:World) (hu:Below w.1.size w u)=>Qoo (H.below hu) (ht.below hu ht.1) hP.kind (Quj hm) root k hw
 have b7:=Qex up s (by omega) lw;rw[ll] at b7;have b7:up.length<=7:=by omega
 have Hm:=Lib.hid (λw=>Rj k true hk w);obtain⟨K1,b1⟩:=Qap w k;have d0:¬((28:Int)<(q:Int)):=by omega
 unfold tv at Hw;replace Hw:=Lib.hid Hw;obtain⟨i,hi⟩:∃i,s.N.Xv k=i:=⟨_,rfl⟩;obtain⟨M,G⟩:=Que lf ll k;rw[hi] at f M G;clear hp hw;go_enter Tryz.func64,Tryz.ntmps64
 go_wp2_with fail
 generalize w.alloc (.cells #[.int .i64 k.obj,.int .i64 k.kind,.int .i64 k.off] 45)=w1 at K1 b1 ⊢;have c0:=K1.c0;have c1:=K1.c1;have c2:=K1.c2;go_wp2_with fail
 refine (Hm.out _).mono ?_;rintro e w2 ⟨rfl,b2⟩;clear c0 c1 c2;have K2:=K1.below b2 K1.lt;have bt:Below w2.1.size w2 (w2.alloc (.cells #[.pointer (some ⟨p,0,none⟩)] 173)):=Ib;have T3:=RB.new w2 [.pointer (some ⟨p,0,none⟩)] 173;have K3:=K2.below bt K2.lt;have b3:=b1.trans ((b2.trans (bt.mono b2.size)).mono b1.size);have c0:=K3.c0;have c1:=K3.c1;have c2:=K3.c2;go_wp2_with fail
 generalize (w2.alloc (.cells #[.pointer (some ⟨p,0,none⟩)] 173))=w3 at bt T3 K3 b3 c0 c1 c2 ⊢;refine (Hw.out w3 b3).mono ?_;rintro e w4 ⟨X,n,xc,rfl,I,b8,b4⟩;have J:=I.len;rw[List.length_append,List.length_reverse] at J;have J:up.length+1=n:=J;obtain⟨g,o,A,an,ac,B,bm,bd,rfl,hg,Z,E⟩:=I.get (show n-1<n by omega);have c7:Qaa (up.reverse++[s]) (n-1)=s:=by
  have:=Qcj up.reverse s;rw[List.length_reverse] at this;rw[show n-1=up.length by omega];exact this
 rw[c7] at Z E;have T4:=T3.below b4 T3.lt;have K4:=K3.below b4 K3.lt;have d2:=E.hn;have d1:=E.hm;obtain⟨rf,a7⟩:∃rf,foundAt s.N.keys k i=rf:=⟨_,rfl⟩;rw[a7] at f G;have HL:=Lib.hid (λu:Grown w4=>Qoi (kc:=xc) (k:=n) (q:=n-1) (w:=u.to) (λj v hv=>(u.ok.cell (p:=⟨g,_,none⟩) hg).trans (Z j v hv)) (by have:=u.ok.size;omega) (by omega) (by omega));have O:=Lib.hid (λu:Grown w4=>Qbn s.N lf k i hi rf a7 A an ac B bm bd u.to (E.its.Qaf (Uk (S:=λk=>k<w3.1.size) (u.ok))) (E.Ic _ (Uk (S:=λk=>k<w3.1.size) (u.ok))) (by omega) (by omega));clear c0 c1 c2 hi a7;have c0:=λu:Grown w4=>Grown.cell K4.c0 K4.lt u
 have c1:=λu:Grown w4=>Grown.cell K4.c1 K4.lt u
 have c2:=λu:Grown w4=>Grown.cell K4.c2 K4.lt u
 obtain⟨sN,ad,nx,hd,sh⟩:=s;unfold spA at HL;dsimp only at HL O f M G lf ls ll lw;rw[ll] at HL O;have a2:=λw=>Qos 0 A an ac B bm bd ad (nx:Int) hd sh w
 have a6:=λw=>Qld 0 A an ac B bm bd w
 unfold Px at a2 a6;replace ll:=Lib.hid ll;change ∀w,(Zel _).run _ w=_ at a2;change ∀w,(Zek _).run _ w=_ at a6;go_wp2_with fail
 refine Iq (by kernel_rfl) (by kernel_rfl) ?_;repeat (go_big_quiet_step (first|(go_at_call 109;exact Calls.grown (HL.out _))|(go_at_call 97;exact Calls.grown (O.out _))|fail))
 refine wpQuiet_nil ?_;rintro _ ⟨u,rfl⟩;have b5:=u.ok;generalize u.to=w5 at b5 ⊢;clear c0 c1 c2 u HL O a2 a6;have W:=b3.trans ((b4.trans (b5.mono b4.size)).mono b3.size);have d3:=W.size;have b6:Below w5.1.size w5 (w5.alloc (.cells #[.int .i64 k.obj,.int .i64 k.kind,.int .i64 k.off,.slice V q c] 50)):=Ib;have K:=Zbz (S:=S) (w:=w5) (λk hk=>by have:=hS k hk;omega) k (λu hu=>hV u ((Uk (S:=S) W).then hu));have Y:=W.trans (b6.mono W.size);have a8:Below w4.1.size w4 (w5.alloc (.cells #[.int .i64 k.obj,.int .i64 k.kind,.int .i64 k.off,.slice V q c] 50)):=b5.trans (b6.mono b5.size);have z3:=b3.size;have a1:∀u,Turn S (w5.alloc (.cells #[.int .i64 k.obj,.int .i64 k.kind,.int .i64 k.off,.slice V q c] 50)) u->Spl (Turn S (w5.alloc (.cells #[.int .i64 k.obj,.int .i64 k.kind,.int .i64 k.off,.slice V q c] 50))) u (some ⟨g,o,none⟩) n xc (up.reverse++[⟨sN,ad,nx,hd,sh⟩]):=λu hu=>
  ((I.below a8).turned hu λg' b9 h=>by have:=hS g' h;have:=b8 g' b9;omega).mono λv hv=>(Uk (S:=λk=>k<w3.1.size) a8).trans hv λk hk=>.inl (by have:=hS k hk;show k<w3.1.size;omega)
 have F:=λ(j:Nat) (c6:i<=j) (hj:j<=sN.size) (he:Qas D up P ⟨sN,ad,nx,hd,sh⟩ i j ⟨0,[⟨k,v⟩],[]⟩=some (P',r))=>Qgg hb up (H.below Y) (ht.below Y ht.1) hP ⟨sN,ad,nx,hd,sh⟩ lf ls ⟨by rw[ll.out];omega,by rw[ll.out];omega⟩ lw (some ⟨g,o,none⟩) n xc a1 (by omega) ⟨0,[⟨k,v⟩],[]⟩ ⟨λ_=>rfl,λh=>absurd rfl h⟩ (by unfold Nd.size;simp) ll.out.symm (some ⟨w5.1.size,0,none⟩) 1 1 none 0 0 K i j c6 hj he
 unfold tv Px at F;dsimp only at F;have K5:=K4.below b5 K4.lt;have T5:=T4.below b5 T4.lt;have y0:=T5.cell 0 rfl;have c0:=K5.c0;have c1:=K5.c1;have c2:=K5.c2;have c9:i<=12:=by have:sN.size<=12:=ls;omega
 cases rf with
 |false=>
  have Hx:=Lib.hid (F i (Nat.le_refl _) M f);clear F f M G a1 K I Z E;go_wp2_with fail
  refine Hx.out.mono ?_;rintro e w7 ⟨z,rfl,hz,H7,X7,t7,p7⟩;have TF:=(Uk (S:=S) Y).then X7;go_wp2_with fail
  go_ret2;exact⟨z,rfl,hz,H7,TF,t7,p7⟩
 |true=>
  have c8:IntKind.i64.wrap ((i:Int)+1)=((i+1:Nat):Int):=by rw[show (i:Int)+1=((i+1:Nat):Int) by omega];exact IntWalk.i64_in _ (by omega)
  have Hx:=F (i+1) (Nat.le_succ _) (G rfl) f;obtain⟨i1,b0⟩:∃i1,i+1=i1:=⟨_,rfl⟩;rw[b0] at c8 Hx;replace Hx:=Lib.hid Hx;clear F f M G a1 K I Z E b0;go_wp2_with fail
  refine Hx.out.mono ?_;rintro e w7 ⟨z,rfl,hz,H7,X7,t7,p7⟩;have TF:=(Uk (S:=S) Y).then X7;go_wp2_with fail
  go_ret2;exact⟨z,rfl,hz,H7,TF,t7,p7⟩
theorem Qye (H:Zb b w d p S0 S T D P)(hb:1<b)(ht:Tab w)(hP:P.tidy)(root:Int)(k:Kd){up:List Zz}{s:Zz}(hw:P.way D root k=some (up,s))(K:foundAt s.N.keys k (s.N.Xv k)=true){r:Option Int}(hp:P.Qoc D root k=some (P',r)) :
  Calls Tryz.prog 66 #[.pointer (some ⟨p,0,none⟩),.int .i64 root,.agg #[.int .i64 k.obj,.int .i64 k.kind,.int .i64 k.off]] w (Qf9 b d p S0 S T D w P' r):=by
 have J:Qas D up P s (s.N.Xv k) (s.N.Xv k+1) ⟨0,[],[]⟩=some (P',r):=by
  unfold Pl.Qoc at hp;rw[hw] at hp;exact hp
 have hS:=H.low;have hm:=λa h=>H.may a h
 obtain⟨lf,ls,M,lw⟩:=Qqm hm hw;have Hw:=λ(u:World) (hu:Below w.1.size w u)=>Qoo (H.below hu) (ht.below hu ht.1) hP.kind (Quj hm) root k hw
 have b0:=Qex up s (by omega) lw;rw[M] at b0;have b0:up.length<=7:=by omega
 obtain⟨K1,b1⟩:=Qap w k;unfold tv at Hw;replace Hw:=Lib.hid Hw;obtain⟨i,hi⟩:∃i,s.N.Xv k=i:=⟨_,rfl⟩;obtain⟨a2,O⟩:=Que lf M k;rw[hi] at J a2 O K;have a6:=O K;clear hw;go_enter Tryz.func66,Tryz.ntmps66
 go_wp2_with fail
 have bt:Below (w.alloc (.cells #[.int .i64 k.obj,.int .i64 k.kind,.int .i64 k.off] 45)).1.size (w.alloc (.cells #[.int .i64 k.obj,.int .i64 k.kind,.int .i64 k.off] 45)) ((w.alloc (.cells #[.int .i64 k.obj,.int .i64 k.kind,.int .i64 k.off] 45)).alloc (.cells #[.pointer (some ⟨p,0,none⟩)] 173)):=Ib;have T3:=RB.new (w.alloc (.cells #[.int .i64 k.obj,.int .i64 k.kind,.int .i64 k.off] 45)) [.pointer (some ⟨p,0,none⟩)] 173;rw[World.size_alloc] at T3;have K3:=K1.below bt K1.lt;have b3:=b1.trans (bt.mono b1.size);have c0:=K3.c0;have c1:=K3.c1;have c2:=K3.c2;go_wp2_with fail
 generalize ((w.alloc (.cells #[.int .i64 k.obj,.int .i64 k.kind,.int .i64 k.off] 45)).alloc (.cells #[.pointer (some ⟨p,0,none⟩)] 173))=w3 at T3 K3 b3 c0 c1 c2 ⊢;refine (Hw.out w3 b3).mono ?_;rintro e w4 ⟨X,n,xc,rfl,I,b2,b4⟩;have E:=I.len;rw[List.length_append,List.length_reverse] at E;have E:up.length+1=n:=E;obtain⟨g,o,A,an,ac,B,bm,bd,rfl,hg,a1,f⟩:=I.get (show n-1<n by omega);have b7:Qaa (up.reverse++[s]) (n-1)=s:=by
  have:=Qcj up.reverse s;rw[List.length_reverse] at this;rw[show n-1=up.length by omega];exact this
 rw[b7] at a1 f;have T4:=T3.below b4 T3.lt;have W:=K3.below b4 K3.lt;have c7:=f.hn;have c6:=f.hm;have HL:=Lib.hid (λu:Grown w4=>Qoi (kc:=xc) (k:=n) (q:=n-1) (w:=u.to) (λj v hv=>(u.ok.cell (p:=⟨g,_,none⟩) hg).trans (a1 j v hv)) (by have:=u.ok.size;omega) (by omega) (by omega));have F:=Lib.hid (λu:Grown w4=>Qbn s.N lf k i hi true K A an ac B bm bd u.to (f.its.Qaf (Uk (S:=λk=>k<w3.1.size) (u.ok))) (f.Ic _ (Uk (S:=λk=>k<w3.1.size) (u.ok))) (by omega) (by omega));clear c0 c1 c2 hi K bt K1;have c0:=λu:Grown w4=>Grown.cell W.c0 W.lt u
 have c1:=λu:Grown w4=>Grown.cell W.c1 W.lt u
 have c2:=λu:Grown w4=>Grown.cell W.c2 W.lt u
 obtain⟨sN,ad,nx,hd,sh⟩:=s;unfold spA at HL;dsimp only at HL F J a2 O a6 lf ls M lw;rw[M] at HL F;have Y:=λw=>Qos 0 A an ac B bm bd ad (nx:Int) hd sh w
 have Z:=λw=>Qld 0 A an ac B bm bd w
 unfold Px at Y Z;replace M:=Lib.hid M;change ∀w,(Zel _).run _ w=_ at Y;change ∀w,(Zek _).run _ w=_ at Z;go_wp2_with fail
 refine Iq (by kernel_rfl) (by kernel_rfl) ?_;repeat (go_big_quiet_step (first|(go_at_call 109;exact Calls.grown (HL.out _))|(go_at_call 97;exact Calls.grown (F.out _))|fail))
 refine wpQuiet_nil ?_;rintro _ ⟨u,rfl⟩;have b5:=u.ok;generalize u.to=w5 at b5 ⊢;clear c0 c1 c2 u HL F Y Z;have G:=b3.trans ((b4.trans (b5.mono b4.size)).mono b3.size);have c8:=G.size;have z3:=b3.size;have a7:∀u,Turn S w5 u->Spl (Turn S w5) u (some ⟨g,o,none⟩) n xc (up.reverse++[⟨sN,ad,nx,hd,sh⟩]):=λu hu=>
  ((I.below b5).turned hu λg' b6 h=>by have:=hS g' h;have:=b2 g' b6;omega).mono λv hv=>(Uk (S:=λk=>k<w3.1.size) b5).trans hv λk hk=>.inl (by have:=hS k hk;show k<w3.1.size;omega)
 have y:=Qgg hb up (H.below G) (ht.below G ht.1) hP ⟨sN,ad,nx,hd,sh⟩ lf ls ⟨by rw[M.out];omega,by rw[M.out];omega⟩ lw (some ⟨g,o,none⟩) n xc a7 (by omega) ⟨0,[],[]⟩ ⟨λ_=>rfl,λh=>absurd rfl h⟩ (by unfold Nd.size;simp) M.out.symm none 0 0 none 0 0 (Qth _ 0) i (i+1) (Nat.le_succ _) a6 J;unfold tv Px at y;dsimp only at y;have K5:=W.below b5 W.lt;have T5:=T4.below b5 T4.lt;have y0:=T5.cell 0 rfl;have b9:i<=12:=by have:sN.size<=12:=ls;omega
 have b8:IntKind.i64.wrap ((i:Int)+1)=((i+1:Nat):Int):=by rw[show (i:Int)+1=((i+1:Nat):Int) by omega];exact IntWalk.i64_in _ (by omega)
 obtain⟨i1,a8⟩:∃i1,i+1=i1:=⟨_,rfl⟩;rw[a8] at b8 y;have Hx:=Lib.hid y;clear y J a2 O a6 a7 I a1 f a8;go_wp2_with fail
 refine Hx.out.mono ?_;rintro e w7 ⟨z,rfl,hz,H7,X7,t7,p7⟩;have TF:=(Uk (S:=S) G).then X7;go_wp2_with fail
 go_ret2;exact⟨z,rfl,hz,H7,TF,t7,p7⟩
end
end
def Pl.like (P P':Pl):Prop:=P'.S=P.S/\P'.C.done=P.C.done
theorem Pl.like.refl (P:Pl):P.like P:=⟨rfl,rfl⟩
theorem Pl.like.trans {P P' P'':Pl}(h:P.like P')(h2:P'.like P''):P.like P'':=⟨h2.1.trans h.1,h2.2.trans h.2⟩
theorem Qzi (P:Pl)(a:Int):P.like ⟨P.S,P.C.ref a,P.L⟩:=⟨rfl,by show (P.C.ref a).done=_;unfold Ct.ref;split<;>rfl⟩
theorem Qi1 (P:Pl)(a:Int):P.like ⟨P.S,P.C.Zf a,P.L⟩:=⟨rfl,by show (P.C.Zf a).done=_;unfold Ct.Zf;split<;>rfl⟩
theorem Qfi (P:Pl)(N:Nd):P.like (P.Xb N):=by
 unfold Pl.Xb;split
 ·unfold Pl.lay;split
  ·exact⟨rfl,by show P.C.alloc.done=_;unfold Ct.alloc;split<;>rfl⟩
  ·exact .refl _
 ·exact .refl _
theorem Qzj (P:Pl)(a:Int)(N:Nd):P.like (P.Qch a N):=by
 unfold Pl.Qch;split
 ·exact⟨rfl,rfl⟩
 ·exact .refl _
theorem Qjq:∀(l:List Int) {P P':Pl},Yg l P=some P'->P.like P'
 |[],P,P',h=>by cases h;exact .refl _
 |a::l,P,P',h=>by
  unfold Yg at h;split at h
  ·exact (Qzi P a).trans (Qjq l h)
  ·cases h
theorem Qf4:∀(l:List Int) {P P':Pl},Ag l P=some P'->P.like P'
 |[],P,P',h=>by cases h;exact .refl _
 |a::l,P,P',h=>by
  unfold Ag at h;split at h
  ·exact (Qi1 P a).trans (Qf4 l h)
  ·cases h
theorem Qce {P P':Pl}{s:Zz}{i j:Nat}(h:P.X7 s i j=some P'):P.like P':=by
 unfold Pl.X7 at h;split at h
 ·exact Qjq _ h
 ·split at h
  ·cases h;exact .refl _
  ·exact Qf4 _ h
theorem Qlp {P P':Pl}{D:DM}{s:Zz}{i:Nat}(h:P.near D s i=some P'):P.like P':=by
 unfold Pl.near at h;split at h
 ·exact Qce h
 ·cases h
theorem Qvr {P P':Pl}{D:DM}{s t:Zz}{b:Nd}{x:Ia}(h:P.have_ D s b t=some (x,P')):P.like P':=by
 unfold Pl.have_ at h;split at h
 ·cases h;exact .refl _
 ·split at h
  ·obtain⟨q,h1,h2⟩:=Option.map_eq_some_iff.1 h
   cases h2;exact Qlp h1
  ·obtain⟨q,h1,h2⟩:=Option.map_eq_some_iff.1 h
   cases h2;exact Qlp h1
theorem Qem {P P':Pl}{s:Zz}(h:P.leave s=some P'):P.like P':=by
 unfold Pl.leave at h;split at h
 ·cases h;exact .refl _
 ·split at h
  ·cases h;exact Qi1 P _
  ·cases h
theorem Qds:∀(l:List Zz) {P P':Pl} {r q:List Nd} {ks f:List Qk},Ld l P r ks=some (P',q,f)->P.like P'
 |[],P,P',r,q,ks,f,h=>by unfold Ld at h;cases h;exact .refl _
 |s::l,P,P',[],q,ks,f,h=>by
  unfold Ld at h;split at h
  ·rename_i u e;exact (Qem e).trans (Qds l h)
  ·cases h
 |s::l,P,P',b::r,q,ks,f,h=>by
  unfold Ld at h;split at h
  ·split at h
   ·rename_i u e;exact (Qem e).trans (Qds l h)
   ·cases h
  ·split at h
   ·exact (Qzj P _ _).trans (Qds l h)
   ·cases h
theorem Qpm:∀(l:List Nd) {P P':Pl} {ks:List Qk} {q:Option (List Qk)},Oi l P ks=some (P',q)->P.like P'
 |[],P,P',ks,q,h=>by unfold Oi at h;cases h;exact .refl _
 |b::l,P,P',ks,q,h=>by
  unfold Oi at h;split at h
  ·exact (Qfi P b).trans (Qpm l h)
  ·split at h
   ·cases h;exact Qfi P b
   ·cases h
theorem Qfg {P P':Pl}{x:Ia}{q:Option (List Qk)}(h:P.Tq x=some (P',q)):P.like P':=by
 unfold Pl.Tq at h;split at h
 ·rename_i u f y e;exact (Qds _ e).trans (Qpm _ h)
 ·cases h
theorem Zbd {P P':Pl}{s:Zz}{b:Nd}{r:Option Int}(h:P.top s b=some (P',r)):P.like P':=by
 unfold Pl.top at h;split at h
 ·obtain⟨q,h1,h2⟩:=Option.map_eq_some_iff.1 h
  cases h2;exact Qem h1
 ·split at h
  ·rename_i f u e;have h0:=Qfg e;split at h
   ·cases h;exact h0
   ·split at h
    ·cases h;exact h0
    ·split at h
     ·cases h;exact h0.trans (Qfi f _)
     ·split at h
      ·cases h;exact h0.trans (Qfi f _)
      ·cases h
  ·rename_i f e
   cases h;exact Qfg e
  ·cases h
theorem Qgi {D:DM}:∀(way:List Zz) {P P':Pl} {s:Zz} {i j:Nat} {f:Nd} {r:Option Int},Qas D way P s i j f=some (P',r)->P.like P'
 |[],P,P',s,i,j,f,r,h=>by
  unfold Qas at h;split at h
  ·rename_i u e;exact (Qce e).trans (Zbd h)
  ·cases h
 |t::way,P,P',s,i,j,f,r,h=>by
  unfold Qas at h;split at h
  ·rename_i u e;split at h
   ·rename_i x A z;have h2:=(Qce e).trans (Qvr z);split at h
    ·rename_i y B q;exact (h2.trans (Qfg q)).trans (Qgi way h)
    ·rename_i y q
     cases h;exact h2.trans (Qfg q)
    ·cases h
   ·cases h
  ·cases h
theorem Qws {P P':Pl}{D:DM}{root:Int}{x:Qq}{r:Option Int}(h:P.Qpz D root x=some (P',r)):P.like P':=by
 unfold Pl.Qpz at h;split at h
 ·exact Qgi _ h
 ·cases h
theorem Qu7 {P P':Pl}{D:DM}{root:Int}{k:Kd}{r:Option Int}(h:P.Qoc D root k=some (P',r)):P.like P':=by
 unfold Pl.Qoc at h;split at h
 ·exact Qgi _ h
 ·cases h
theorem Qv0 {P P':Pl}(h:P.like P')(hn:P'.C.n=P.C.n):P'.C.kept=P.C.kept:=by
 unfold Ct.kept;rw[h.2,hn]
theorem Qv1 (n:Nat):(Ct.zero n).kept=0:=by
 unfold Ct.kept;refine List.countP_eq_zero.2 λa e h=>of_decide_eq_true h ?_
 show (List.replicate n (0:Int)).getD a 0=0;rw[List.getD_eq_getElem?_getD,List.getElem?_replicate];split<;>rfl
structure Told (w:World)(p:Nat)(R:Int->Nd × Int)(root:Int)(its:List Qq):Prop where
 src:Src w p R
 tree:Ua R root its
 Zt:Zt its
 len:its.length<=150
theorem Told.below {w w':World}{p:Nat}{R:Int->Nd × Int}{root:Int}{its:List Qq}(h:Told w p R root its)(hb:Below w.1.size w w'):Told w' p R root its:=⟨h.src.below hb,h.tree,h.Zt,h.len⟩
section
variable {w:World}{p:Nat}{R:Int->Nd × Int}{root:Int}{its:List Qq}
theorem Told.Zdc (h:Told w p R root its)(ht:Tab w)(fr «to»:Kd)(most:Int)(L:List Qq)(hL:(within fr «to» its).take most.toNat=L) :
  Calls Tryz.prog 18 #[.pointer (some ⟨p,0,none⟩),.int .i64 root,.agg #[.int .i64 fr.obj,.int .i64 fr.kind,.int .i64 fr.off],.agg #[.int .i64 «to».obj,.int .i64 «to».kind,.int .i64 «to».off],.int .i64 most] w λe w'=>∃A n c,e=.returned (.tuple #[.slice A n c,.int .i64 0])/\Zn w' w.1.size A n c L/\Below w.1.size w w':=by
 have:=Qvn h.src ht root fr «to» most (λh0=>by have:=Qs2 (Qv6 R) h.tree h0;have:=h.len;omega);rw[Qxb h.tree h.Zt,hL] at this;exact this
end
def Qfv (r:Int):List Int:=if r=0 then [] else [r]
structure We7 (b:Nat)(w:World)(d p:Nat)(U:Nat->Prop)(D:DM)(P:Pl)(H:List Int)(m:Nat)(g:Int):Prop where
 sys:∃S0 S T,Zb b w d p S0 S T D P/\(∀k,S0 k->U k)/\∀k,S k->U k
 low:∀k,U k->b<=k/\k<w.heap.size
 tab:Tab w
 keep:∃S0 C0,Keep D S0 C0 [] H P
 Y4:D.Y4 m
 gen:P.S.gen<=g
section
variable {b:Nat}{w w':World}{d p:Nat}{U:Nat->Prop}{D:DM}{P:Pl}{H H0:List Int}{m:Nat}{g:Int}{root:Int}{its:List Qq}
theorem We7.tidy (E:We7 b w d p U D P H m g):P.tidy:=by
 obtain⟨_,_,K⟩:=E.keep;exact⟨K.Zu.kind,K.laid⟩
theorem We7.below (E:We7 b w d p U D P H m g)(hb:Below w.1.size w w'):We7 b w' d p U D P H m g:=by
 obtain⟨S0,S,T,h,h0,h1⟩:=E.sys;exact⟨⟨S0,S,T,h.below hb,h0,h1⟩,λk e=>⟨(E.low k e).1,by have:=(E.low k e).2;have:=hb.size;omega⟩,E.tab.below hb E.tab.1,E.keep,E.Y4,E.gen⟩
theorem We7.src (E:We7 b w d p U D P H m g):Src w p (P.store D):=by
 obtain⟨S0,S,T,h,h0,h1⟩:=E.sys;obtain⟨_,_,K⟩:=E.keep;exact src_of h.Vh h.pool K.Zu.kind K.Zu.good
structure Qg4 (b:Nat)(w w':World)(d p:Nat)(U:Nat->Prop)(D:DM)(P P':Pl)(r:Int)(H0:List Int)(its:List Qq)(m:Nat)(g:Int):Prop where
 ed:We7 b w' d p U D P' (Qfv r++H0) m g
 tree:Ua (P'.store D) r its
 like:P.like P'
 n:P'.C.n=P.C.n
 free:P.C.free<=P'.C.free+17
 old:∀l a t,a∈H0->Qe (P.store D) l a t->Qe (P'.store D) l a t
 turn:Turn U w w'
end
theorem Zb7 {i:Int}(hi:0<=i/\i<=2147483647):Ctx i [] []:=⟨hi,λ_ h=>absurd h List.not_mem_nil,λ_ h=>absurd h List.not_mem_nil,List.Pairwise.nil,List.Pairwise.nil,λ_ h=>absurd h List.not_mem_nil,λ_ h=>absurd h List.not_mem_nil⟩
theorem Qu6 {R:Int->Nd × Int}(i o:Int)(v:List UInt8):Dat R ⟨⟨i,2,o⟩,v⟩:=λc e=>by
 have:Vy ⟨⟨i,2,o⟩,v⟩=none:=if_neg λh=>by have:=h.1;simp at this
 rw[this] at e
 cases e
theorem Qwi (i o:Int)(v:List UInt8):nmI ⟨⟨i,2,o⟩,v⟩=[]:=by
 have:Vy ⟨⟨i,2,o⟩,v⟩=none:=if_neg λh=>by have:=h.1;simp at this
 unfold nmI;rw[this];rfl
section
variable {b:Nat}{w w':World}{d p:Nat}{U:Nat->Prop}{D:DM}{P:Pl}{m:Nat}{g:Int}{root:Int}{its:List Qq}
theorem We7.Zfz (E:We7 b w d p U D P (Qfv root++[]) m g)(hT:Ua (P.store D) root its):P.C.used<=2*its.length/\P.C.n<=P.C.free+(P.C.first+P.C.kept+2*its.length):=by
 obtain⟨S0,z,K⟩:=E.keep;have h2:=Qxg P.C;have y:P.C.used<=2*its.length:=by
  rcases hT with⟨rfl,rfl⟩|⟨l,h0,u,_⟩
  ·have h1:=K.used (L:=[]) (X:=[]) (λx q=>absurd q List.not_mem_nil) (λa f=>absurd (show a∈([]:List Int) from f) List.not_mem_nil) (λa f=>absurd f List.not_mem_nil);simpa using h1
  ·have e:Qfv root=[root]:=if_neg (by omega);rw[e] at K;have h1:=K.used (L:=[(l,root,its)]) (X:=[]) (λx q=>by
    obtain rfl:=List.mem_singleton.1 q;exact holds_nil.2 u) (λa f=>by
    obtain rfl:=List.mem_singleton.1 (show a∈[root] from f);exact .inl ⟨_,List.mem_singleton.2 rfl,rfl⟩) (λa f=>absurd f List.not_mem_nil)
   have A:=List.length_filterMap_le Vy its;simp at h1;omega
 exact⟨y,by omega⟩
theorem Qlb {C:Ct}(h:C.n=512):C.first<=20:=by
 unfold Ct.first
 rw[h];decide
end
theorem Qi6 (n:Nat)(hn:Qa n)(w:World)(X:Tab w) :
  Calls Tryz.prog 13 #[.int .i64 n] w λe w'=>∃p d U D,e=.returned (.pointer (some ⟨p,0,none⟩))/\We7 w.1.size w' d p U D (Pl.fresh n) [] 100 2/\Below w.1.size w w'/\(∀k,U k->w.1.size<=k):=by
 have hG:=X.1;have h1:32<=n:=hn.1;have h2:n<=2048:=hn.2;go_enter Tryz.func13,Tryz.ntmps13
 go_wp2_with fail
 refine (Zc2 n hn w).mono ?_;rintro e w1 ⟨d,rfl,W,F⟩;have Y:=X.below F hG;go_wp2_with fail
 refine (Qpr W ⟨rfl,rfl⟩ (by omega) Y (Qqh n) (by omega)).mono ?_;rintro e I ⟨p,q,rfl,u⟩;have E:(DM.mk0 n).n=n:=rfl;rw[E] at u;have y:=(Qdf (Qw n) (Qqh n)).mono (m':=100) (by have:=Zem (n:=n) h2;omega);have G:=Qrv h1 h2;obtain⟨O,A⟩:∃D,(DM.mk0 n).Qn (Qw n)=D:=⟨_,rfl⟩;rw[A] at u y G;obtain⟨P,K⟩:∃P,Pl.fresh n=P:=⟨_,rfl⟩;have hg:P.S.gen=1:=by rw[<-K];rfl
 rw[K] at u G;have z:=Ze8 (b:=w.1.size) u (λk f=>f) F.size;have t2:=Y.turned u.turn (by omega);have z1:=F.size;have J:Below w.1.size w I:=F.trans (u.turn.below (λk f=>f) z1);obtain⟨S0,S,z⟩:=z;obtain⟨T,M⟩:∃T:Nat->Prop,(λk=>w.1.size<=k/\k<I.1.size)=T:=⟨_,rfl⟩;have B:∀k,T k->w.1.size<=k/\k<I.1.size:=λk f=>by rw[<-M] at f;exact f
 rw[M] at z;have Z:We7 w.1.size I d p T O P [] 100 2:=⟨⟨S0,S,T,z,z.sub,z.Va⟩,B,t2,⟨_,_,G⟩,y,by omega⟩;clear u W M A G y E;go_wp2_with fail
 go_ret;exact⟨p,d,T,O,rfl,K▸Z,J,λk f=>(B k f).1⟩
theorem Qov (n:Nat):(Pl.fresh n).C.n=n:=Ct.Qg n
def Qcu (b:Nat)(w:World)(d p:Nat)(U Q V:Nat->Prop)(D:DM)(P:Pl):Prop:=
 ∃S0 S T,Zb b w d p S0 S T D P/\(∀k,S0 k->U k)/\(∀k,S k->U k)/\(∀k,Q k->T k)/\∀k,S k->V k
section
variable {b:Nat}{w w':World}{d p:Nat}{U Q V:Nat->Prop}{D:DM}{P:Pl}{H H0:List Int}{m:Nat}{g:Int}{root:Int}{its:List Qq}
theorem Qcu.below (h:Qcu b w d p U Q V D P)(hb:Below w.1.size w w'):Qcu b w' d p U Q V D P:=by
 obtain⟨S0,S,T,h1,h2,e,f,q⟩:=h;exact⟨S0,S,T,h1.below hb,h2,e,f,q⟩
theorem Qcu.more (h:Qcu b w d p U Q V D P)(hb:Below w.1.size w w'){Q':Nat->Prop}(hQ:∀k,Q' k->Q k\/(w.1.size<=k/\k<w'.1.size)):Qcu b w' d p U Q' V D P:=by
 obtain⟨S0,S,T,h1,h2,f,e,q⟩:=h;refine⟨S0,S,grow T w w',h1.more hb,h2,f,λk u=>?_,q⟩;rcases hQ k u with h|h
 ·exact⟨.inl (e k h),by have:=(h1.tight k (e k h)).2;have:=hb.size;omega⟩
 ·exact⟨.inr h.1,h.2⟩
theorem We7.Zge (E:We7 b w d p U D P H m g):Qcu b w d p U (λ_=>False) U D P:=by
 obtain⟨S0,S,T,h,h0,h1⟩:=E.sys;exact⟨S0,S,T,h,h0,h1,λ_ h=>h.elim,h1⟩
theorem We7.own (E:We7 b w d p U D P H m g)(h:Qcu b w d p U Q V D P)(hb:1<b){S' Q':Nat->Prop}(t:Turn S' w w')(hS:∀k,S' k->Q k)(hU:∀k,S' k->¬U k)(hQ:∀k,Q' k->Q k\/(w.1.size<=k/\k<w'.1.size)):We7 b w' d p U D P H m g/\Qcu b w' d p U Q' V D P:=by
 obtain⟨S0,S,T,h1,h2,q,f,z⟩:=h;have A:=t.size;have y:=h1.grown t (λk e=>f k (hS k e)) (λk e u=>hU k e (h2 k u)) (λk e u=>hU k e (q k u));refine⟨⟨⟨S0,S,grow T w w',y,h2,q⟩,λk e=>⟨(E.low k e).1,by have:=(E.low k e).2;omega⟩,E.tab.turned t (λe=>by have:=(h1.tight _ (f _ (hS _ e))).1;omega),E.keep,E.Y4,E.gen⟩,S0,S,grow T w w',y,h2,q,λk e=>?_,z⟩;rcases hQ k e with h|h
 ·exact⟨.inl (f k h),by have:=(h1.tight k (f k h)).2;omega⟩
 ·exact⟨.inr h.1,h.2⟩
def Qmj (b:Nat)(w:World)(d p:Nat)(U Q V:Nat->Prop)(D:DM)(P:Pl)(H0:List Int)(its:List Qq)(m:Nat)(g:Int)(e:Ending)(w':World):Prop:=
 (∃r P',e=.returned (.tuple #[.int .i64 r,.int .i64 0])/\Qg4 b w w' d p U D P P' r H0 its m g/\Qcu b w' d p U Q V D P'/\Turn V w w')\/((∃v,e=.returned (.tuple #[.int .i64 v,.int .i64 6]))/\P.C.free<17)
theorem Qof {S0:Sp}{G:Ct}{T0 y z:Nat->Prop}(B:We7 b w d p U D P H m g)(h0:∀k,T0 k->U k)(h1:∀k,y k->U k)(W:∀k,Q k->z k)(I:∀k,y k->V k){E:Option (Pl × Option Int)}(ho:P8 D S0 G [] H0 P its 17 E)(hl:∀P' r,E=some (P',r)->P.like P')
  {f:FuncId} {q:Array Value} (J:∀P' r,E=some (P',r)->Calls Tryz.prog f q w (Qf9 b d p T0 y z D w P' r)):Calls Tryz.prog f q w (Qmj b w d p U Q V D P H0 its m g):=by
 rcases ho with⟨P',r,A,F⟩|⟨P',A,Z⟩
 ·refine (J _ _ A).mono ?_;rintro e w' ⟨v,rfl,hv,u,X,O,td⟩;have:=hv r rfl;subst this;have M:=hl _ _ A;have ext:∀l a t,a∈H0->Qe (P.store D) l a t->Qe (P'.store D) l a t:=λl a t Y ht=>holds_nil.1 (F.old l a t Y (holds_nil.2 ht))
  have tr:=Qj8.1 F.tree;exact .inl ⟨v,P',rfl,⟨⟨⟨T0,y,z,u,h0,h1⟩,λk K=>⟨(B.low k K).1,by have:=(B.low k K).2;have:=X.size;omega⟩,O,⟨S0,G,F.keep⟩,B.Y4,by rw[M.1];exact B.gen⟩,tr,M,F.n,F.free,ext,X.mono h1⟩,⟨T0,y,z,u,h0,h1,W,I⟩,X.mono I⟩
 ·refine (J _ _ A).mono ?_;rintro e w' ⟨v,rfl,_,u,X,O,td⟩;exact .inr ⟨⟨v,rfl⟩,Z⟩
theorem We7.Qpz {k:Kd}{v:List UInt8}(E:We7 b w d p U D P (Qfv root++(nmI ⟨k,v⟩++H0)) m g)(hQ:Qcu b w d p U Q V D P)(hb:1<b)(f:Ua (P.store D) root its)(hr:Zt its)(hf:∀x∈its,Nj x)(hx:Nj ⟨k,v⟩)(hdx:Dat (P.tell D) ⟨k,v⟩)(hfew:its.length<1000)(hH0:H0.length<=10000)(VV:Option Addr)(q c:Nat)(hV:Sl w VV q c v)(hVU:v≠[]->∀g,Xq VV=some g->¬U g) :
  Calls Tryz.prog 64 #[.pointer (some ⟨p,0,none⟩),.int .i64 root,.agg #[.int .i64 k.obj,.int .i64 k.kind,.int .i64 k.off],.slice VV q c] w (Qmj b w d p U Q V D P H0 (Si k v false its) m g):=by
 obtain⟨I,J,M,B,h0,h1,h2,y⟩:=hQ;obtain⟨S0,G,K⟩:=E.keep;replace f:=Qj8.2 f;have A:q<=28:=by
  have:=hV.len;have:=hx.2;have e:(⟨k,v⟩:Qq).v=v:=rfl;rw[e] at this;omega
 exact Qof E h0 h1 h2 y (Zaa K f hr hf hx (by rw[Tm];exact hdx) hfew hH0) (λ_ _ h=>Qws h) λP' r e=>Qyk B hb E.tab E.tidy root k VV q c v (λu X=>hV.turned' X λF g z h=>hVU F g z (h1 g h)) hx.1 A e
theorem We7.Qoc (E:We7 b w d p U D P (Qfv root++H0) m g)(hQ:Qcu b w d p U Q V D P)(hb:1<b)(f:Ua (P.store D) root its)(hr:Zt its)(hf:∀x∈its,Nj x)(k:Kd)(hfew:its.length<1000)(hH0:H0.length<=10000)(hk:∃x∈its,x.k.same k=true) :
  Calls Tryz.prog 66 #[.pointer (some ⟨p,0,none⟩),.int .i64 root,.agg #[.int .i64 k.obj,.int .i64 k.kind,.int .i64 k.off]] w (Qmj b w d p U Q V D P H0 (Qc3 k its) m g):=by
 obtain⟨I,J,M,B,h0,h1,h2,q⟩:=hQ;obtain⟨S0,G,K⟩:=E.keep;replace f:=Qj8.2 f;have u:root≠0:=by
  rcases f with⟨rfl,_⟩|⟨l,_,_,h,_⟩
  ·obtain⟨x,F,_⟩:=hk
   cases F
  ·omega
 obtain⟨up,s,z,O,y,A⟩:=Qx7 K f hr hf u k hfew hH0;exact Qof E h0 h1 h2 q (A (y.2 hk)) (λ_ _ h=>Qu7 h) λP' r e=>Qye B hb E.tab E.tidy root k z (y.2 hk) e
end
