/- The code's edit: kid, last -/
import Derived.Test.YtloolbmdiimanaaGreatDoorGv29
import Derived.Deep.CutRange
namespace Go.Proofs.YtloolbmdiimanaaGreatDoor
open Go Go.RowKit Go.Proofs Tryz
set_option maxHeartbeats 8000000
set_option maxRecDepth 100000
section
def stS (p v:Value):Sem Unit:=Instr.storeAt 195 p v
theorem qee (p v:Value):Instr.storeAt 195 p v=stS p v:=rfl
theorem qih {w:WD}{b:Nat}{r:LV}(H:RB w b r)(g:r.length=7)(l:Int)(A:OA)(n c:Nat)(B:OA)(m d:Nat)(e f:Int)(h s:Bool) :
  (stS (.pointer (some ⟨b,0,none⟩)) (.agg #[.int .i64 l,.slice A n c,.slice B m d,.int .i64 e,.int .i64 f,.bool h,.bool s])).run prog w=.ok () (w.setCells b 0 (Ja l A n c B m d e f h s)):=
 run_storeAt_mid w b 0 195 (Ja l A n c B m d e f h s).toArray (by have:=H.there;rw[g] at this;exact this) (by kernel_rfl) (by simp[Ja,Value.oneCell'])
theorem qef {g v:WD}{q:Nat}{r:LV}(y:Below g.1.size g v)(F:g.1.size<=q)(H:RB v q r)(u:r.length=7)(l:Int)(A:OA)(n c:Nat)(B:OA)(m d:Nat)(e f:Int)(h s:Bool) :
  (stS (.pointer (some ⟨q,0,none⟩)) (.agg #[.int .i64 l,.slice A n c,.slice B m d,.int .i64 e,.int .i64 f,.bool h,.bool s])).run prog v=.ok () (v.setCells q 0 (Ja l A n c B m d e f h s))/\RB (v.setCells q 0 (Ja l A n c B m d e f h s)) q (Ja l A n c B m d e f h s)/\
   Turn (λk=>k=q) v (v.setCells q 0 (Ja l A n c B m d e f h s))/\Below g.1.size g (v.setCells q 0 (Ja l A n c B m d e f h s)):=by
 have T:Turn (λk=>k=q) v (v.setCells q 0 (Ja l A n c B m d e f h s)):=Us (S:=λk=>k=q) rfl _ 0 v;exact⟨qih H u l A n c B m d e f h s,H.stored _ u,T,y.trans (T.below (λk E=>by have:k=q:=E;omega) y.size)⟩
theorem qeg {B e:Nat}{u g:WD}{M:Nd}{A:OA}{n c:Nat}{f:OA}{m d:Nat}(E:Je (Turn (λk=>k<B) u) M A n c f m d)(X:Turn (λk=>k<B) u g)(G:e<=B):Je (Turn (λk=>k<e) g) M A n c f m d:=
 E.mono λv F=>X.trans F λk y=>.inl (by have:k<e:=y;show k<B;omega)
abbrev Ui:Obj:=.cells #[.int .i64 0,.slice none 0 0,.slice none 0 0,.int .i64 0,.int .i64 0,.bool false,.bool false] 195
theorem Ii (w:WD):RB (w.alloc Ui) w.1.size (Ja 0 none 0 0 none 0 0 0 0 false false):=RB.new w (Ja 0 none 0 0 none 0 0 0 0 false false) 195
attribute [local go_sem ↓] qee
section
variable {b:Nat}{w w':WD}{d p:Nat}{S0 S T:NP}{D:DM}{P P':Pl}
theorem qkj (H:Qh b w d p S0 S T D P)(ht:Tab w)(a4:∀a b,P.L a=some b->b.kindOk)(s:Qr)(A:OA)(n c:Nat)(B:OA)(m F:Nat)(hB:Ro (Turn S w) B m F s.N.kids)(hl:1<=s.N.lvl/\s.N.lvl<8)(i:Nat)(W:P.Wj D s i=true) :
  Calls prog 140 #[tv p,Vm s A n c B m F,.int .i64 (i:Int)] w λe w'=>∃A n c B m F,e=.returned (.tuple #[Vm (P.Jd D s i) A n c B m F,.int .i64 0])/\Je (Turn (λk=>k<w.1.size) w') (P.Jd D s i).N A n c B m F/\Below w.1.size w w':=by
 obtain⟨N,ad,nx,hd,K⟩:=s;obtain⟨k1,k2,k3⟩:=AK W;unfold Pl.Jd;dsimp only at hB hl k1 k2 k3 ⊢;clear W;have a0:=hB w (Turn.refl _ _);have a6:=a0.len;obtain⟨g,o,rfl,hg,-,-,-,x3⟩:=a0.cell (show i<m by omega);obtain⟨a,ha⟩:∃a,(Qi N.kids i).a=a:=⟨_,rfl⟩;rw[ha] at x3 k2 k3 ⊢;clear a0 hB ha;obtain⟨R,a2⟩:∃R,N.lvl=R:=⟨_,rfl⟩;rw[a2] at hl k3;have T1:RB (((w.alloc (.cells #[.pointer (some ⟨p,0,none⟩)] 188)).alloc (.cells (Ja R A n c (some ⟨g,o,none⟩) m F ad (nx:Int) hd K).toArray 195)).alloc (.cells (Ja 0 none 0 0 none 0 0 0 0 false false).toArray 195)) w.1.size [.pointer (some ⟨p,0,none⟩)]:=(RB.new w [.pointer (some ⟨p,0,none⟩)] 188).below ((Ql).alloc (by simp) _) (by simp);have X1:RB (((w.alloc (.cells #[.pointer (some ⟨p,0,none⟩)] 188)).alloc (.cells (Ja R A n c (some ⟨g,o,none⟩) m F ad (nx:Int) hd K).toArray 195)).alloc (.cells (Ja 0 none 0 0 none 0 0 0 0 false false).toArray 195)) (w.1.size+1) (Ja R A n c (some ⟨g,o,none⟩) m F ad (nx:Int) hd K):=by
  have:=RB.new (w.alloc (.cells #[.pointer (some ⟨p,0,none⟩)] 188)) (Ja R A n c (some ⟨g,o,none⟩) m F ad (nx:Int) hd K) 195;rw[BH] at this;exact this.below (Ql) (by simp)
 have R1:RB (((w.alloc (.cells #[.pointer (some ⟨p,0,none⟩)] 188)).alloc (.cells (Ja R A n c (some ⟨g,o,none⟩) m F ad (nx:Int) hd K).toArray 195)).alloc (.cells (Ja 0 none 0 0 none 0 0 0 0 false false).toArray 195)) (w.1.size+2) (Ja 0 none 0 0 none 0 0 0 0 false false):=by
  have:=RB.new ((w.alloc (.cells #[.pointer (some ⟨p,0,none⟩)] 188)).alloc (.cells (Ja R A n c (some ⟨g,o,none⟩) m F ad (nx:Int) hd K).toArray 195)) (Ja 0 none 0 0 none 0 0 0 0 false false) 195;rwa [BH,BH] at this
 have U:Below w.1.size w (((w.alloc (.cells #[.pointer (some ⟨p,0,none⟩)] 188)).alloc (.cells (Ja R A n c (some ⟨g,o,none⟩) m F ad (nx:Int) hd K).toArray 195)).alloc (.cells (Ja 0 none 0 0 none 0 0 0 0 false false).toArray 195)):=((Ql).alloc (by simp) _).alloc (by simp;omega) _;have Hr:=λ(u:WD) (hu:Below w.1.size w u)=>qgc (H.below hu) (ht.below hu ht.1) a4 a K k2
 unfold Vm Pl.spot tv at Hr;unfold Pl.spot;dsimp only at Hr ⊢;obtain⟨M,hM⟩:∃M,P.Qd D a=M:=⟨_,rfl⟩;obtain⟨r,hr⟩:∃r,(K||decide (1<P.C.get a))=r:=⟨_,rfl⟩;rw[hM,hr] at Hr ⊢;rw[hM] at k3;have Hr:=HI Hr;have HE:=HI k3;clear hM hr;unfold tv Vm;dsimp only;rw[a2];unfold Ja at T1 X1 R1 U;have hj:(0:Int)<=(i:Int):=by omega
 have a7:(i:Int)<(m:Int):=by omega
 clear k2 k3;go_enter func140,ntmps140
 go_wp2_with fail
 generalize (((w.alloc (.cells #[.pointer (some ⟨p,0,none⟩)] 188)).alloc (.cells #[.int .i64 R,.slice A n c,.slice (some ⟨g,o,none⟩) m F,.int .i64 ad,.int .i64 (nx:Int),.bool hd,.bool K] 195)).alloc (.cells #[.int .i64 0,.slice none 0 0,.slice none 0 0,.int .i64 0,.int .i64 0,.bool false,.bool false] 195))=f at T1 X1 R1 U ⊢;have a3:=(U.cell (p:=⟨g,_,none⟩) hg).trans x3;have z1:=R1.lt;have z0:=U.size;have hF:∀u,Below f.1.size f u->u.cell? ⟨w.1.size,0,none⟩=some (.pointer (some ⟨p,0,none⟩))/\u.cell? ⟨w.1.size+1,2,none⟩=some (.slice (some ⟨g,o,none⟩) m F)/\u.cell? ⟨w.1.size+1,6,none⟩=some (.bool K)/\u.cell? ⟨g,o+i*4+3,none⟩=some (.int .i64 a):=λu hu=>
  ⟨(T1.below hu T1.lt).cell 0 rfl,(X1.below hu X1.lt).cell 2 rfl,(X1.below hu X1.lt).cell 6 rfl,(hu.cell (p:=⟨g,_,none⟩) (by show g<_;omega)).trans a3⟩
 have bD:Below f.1.size f f.drew:=(AI _ _).drew;have bA:Below f.1.size f (f.alloc Ui).drew:=(Ql).drew;have QA:RB (f.alloc Ui).drew f.1.size (Ja 0 none 0 0 none 0 0 0 0 false false):=Ii f;go_cut [8,9] from 10 to 24 (λq e wx=>∃(qb:Nat) (A:OA) (n c:Nat) (B:OA) (m F:Nat),q=.pointer (some ⟨qb,0,none⟩)/\e=.int .i64 0/\f.1.size<=qb/\RB wx qb (Ja M.lvl A n c B m F a 0 K r)/\Je (Turn (λk=>k<f.1.size) wx) M A n c B m F/\Below f.1.size f wx)
 case first=>
  go_region_held3 (λw'=>w'.cell? ⟨w.1.size,0,none⟩=some (.pointer (some ⟨p,0,none⟩))/\w'.cell? ⟨w.1.size+1,2,none⟩=some (.slice (some ⟨g,o,none⟩) m F)/\w'.cell? ⟨w.1.size+1,6,none⟩=some (.bool K)/\w'.cell? ⟨g,o+i*4+3,none⟩=some (.int .i64 a))
   (first|(with_reducible assumption)|(with_reducible exact hF _ bD)|(with_reducible exact hF _ bA)|(with_reducible exact hF _ y)|(with_reducible exact hF _ (y.alloc y.size Ui))|(with_reducible exact a1.out))
   (first
    |(go_at_call 139;(with_reducible refine (Hr.out f.drew (U.trans (bD.mono U.size))).mono ?_);rintro e w3 ⟨Z,n3,c3,B3,m3,d3,rfl,O,E⟩;have y:Below f.1.size f w3:=bD.trans E;have I:=y.alloc y.size Ui;obtain⟨a5,G,Y,J⟩:=qef I y.size (Ii w3) rfl M.lvl Z n3 c3 B3 m3 d3 a 0 K r;have a1:=HI (hF _ J);have HX:=HI (And.intro G (And.intro Y (And.intro J (And.intro I E))));clear G Y J I E)
    |(go_at_call 139;(with_reducible refine (Hr.out (f.alloc Ui).drew (U.trans (bA.mono U.size))).mono ?_);rintro e w3 ⟨Z,n3,c3,B3,m3,d3,rfl,O,E⟩;have y:Below f.1.size f w3:=bA.trans (E.mono bA.size);have I:=y;obtain⟨a5,G,Y,J⟩:=qef y (AE _) (QA.below E QA.lt) rfl M.lvl Z n3 c3 B3 m3 d3 a 0 K r;have a1:=HI (hF _ J);have HX:=HI (And.intro G (And.intro Y (And.intro J (And.intro I E))));clear G Y J I E)
    |fail)
  ·obtain⟨G,Y,J,I,E⟩:=HX.out;go_wp2_with fail
   go_meet
   refine⟨w3.1.size,Z,n3,c3,B3,m3,d3,rfl,rfl,y.size,G,qeg O ((Zb (S:=λk=>k<f.drew.1.size) ((AI _ _).alloc (AE _) Ui)).trans Y λk W=>.inr (by have:k=w3.1.size:=W;omega)) ?_,J⟩;exact AE _
  ·obtain⟨G,Y,J,I,E⟩:=HX.out;go_wp2_with fail
   go_meet
   have b0:(f.alloc Ui).drew.1.size=f.1.size+1:=by show (f.alloc Ui).1.size=_;simp
   refine⟨f.1.size,Z,n3,c3,B3,m3,d3,rfl,rfl,AE _,G,qeg O (Y.mono λk W=>?_) ?_,J⟩
   ·have:k=f.1.size:=W;show k<(f.alloc Ui).drew.1.size;omega
   ·omega
 case rest=>
  obtain⟨qb,Z,n3,c3,B3,m3,d3,rfl,rfl,a9,G,O,J⟩:=hcut;have XQ:=X1.below J X1.lt;have RR:=R1.below J R1.lt;have e0:=XQ.cell 0 rfl;have f0:=G.cell 0 rfl;have f1:=G.cell 1 rfl;have f2:=G.cell 2 rfl;have f3:=G.cell 3 rfl;have f4:=G.cell 4 rfl;have f5:=G.cell 5 rfl;have f6:=G.cell 6 rfl;have a8:(M.lvl != R-1)=false:=by simp[HE.out]
  have BW:=U.trans (J.mono U.size);clear hF QA bA bD x3 a3;unfold Ja at f0 f1 f2 f3 f4 f5 f6;go_wp2_with (first
   |(refine Nz rfl _ _ rfl (w.1.size+2) rfl M.lvl Z n3 c3 B3 m3 d3 a 0 K r rfl RR rfl ?_;intro wz Rz Tz)
   |fail)
  refine bodyPost_ret (Ag Tryz.results140 rfl (q5g Rz)) rfl ?_;have zz:=J.size;exact⟨Z,n3,c3,B3,m3,d3,rfl,qeg O (Tz.mono λk W=>by have:k=w.1.size+2:=W;show k<f.1.size;omega) z0,BW.trans (Tz.below (λk W=>by have:k=w.1.size+2:=W;omega) BW.size)⟩
end
end
theorem qii (w:WD)(t:TypeId){s:Nat}(u:0<s)(xs:List (LV))(e:Array Value)(g:e=xs.flatten.toArray)(m:∀x∈xs,x.length=s)(y:xs.length<=1000):Jy (w.alloc (.cells e t)) s (some ⟨w.1.size,0,none⟩) xs.length xs.length xs:=by
 have h:Qz (w.alloc (.cells e t)) w.1.size t s (some ⟨w.1.size,0,none⟩) xs.length xs.length xs:=by
  have f:=qct m;refine⟨⟨f,.inr ⟨w.1.size,xs.length,e,rfl,AE _,BE w _,AE _,by unfold maxLen;omega,?_,?_⟩⟩,m⟩
  ·rw[g];simpa using f
  ·rw[g];show List.take (xs.length*s) xs.flatten=xs.flatten;rw[<-f,List.take_length]
 exact h.Um u
theorem qq7 {Q:WD->Prop}{w:WD}{X:OA}{k kc:Nat}{Ns:List Nd}{e:List (LV)}(h:Jy w 3 X k kc e)(f:e.length=Ns.length)(g:∀(j:Nat) r N,e[j]?=some r->Ns[j]?=some N->∃A n c B m d,r=Vj N.lvl A n c B m d/\Je Q N A n c B m d):G9 Q w X k kc Ns:=⟨e,h,f,g⟩
theorem qij {Q:WD->Prop}(w:WD)(t:TypeId){e f:Nd}{g m u y:OA}{H I c1 c2 F G A B:Nat}(h1:Je Q e g H c1 u F A)(h2:Je Q f m I c2 y G B) :
  G9 Q (w.alloc (.cells #[.int .i64 e.lvl,.slice g H c1,.slice u F A,.int .i64 f.lvl,.slice m I c2,.slice y G B] t)) (some ⟨w.1.size,0,none⟩) 2 2 [e,f]:=by
 have:=qii w t (s:=3) (by omega) [Vj e.lvl g H c1 u F A,Vj f.lvl m I c2 y G B] _ rfl (by simp[Vj]) (by simp);refine qq7 this rfl λj r N J E=>?_
 match j with
 |0=>
  obtain rfl:=OI J;obtain rfl:=OI E;exact⟨_,_,_,_,_,_,rfl,h1⟩
 |1=>
  obtain rfl:=OI J;obtain rfl:=OI E;exact⟨_,_,_,_,_,_,rfl,h2⟩
 |j+2=>simp at E
theorem qq8 {Q:WD->Prop}(w:WD)(t:TypeId){e f g:Nd}{u y A B E F:OA}{R U W c1 c2 c3 K M O G H I:Nat}(h1:Je Q e u R c1 B K G)(h2:Je Q f y U c2 E M H)(Y:Je Q g A W c3 F O I) :
  G9 Q (w.alloc (.cells #[.int .i64 e.lvl,.slice u R c1,.slice B K G,.int .i64 f.lvl,.slice y U c2,.slice E M H,.int .i64 g.lvl,.slice A W c3,.slice F O I] t)) (some ⟨w.1.size,0,none⟩) 3 3 [e,f,g]:=by
 have:=qii w t (s:=3) (by omega) [Vj e.lvl u R c1 B K G,Vj f.lvl y U c2 E M H,Vj g.lvl A W c3 F O I] _ rfl (by simp[Vj]) (by simp);refine qq7 this rfl λj r N J m=>?_
 match j with
 |0=>
  obtain rfl:=OI J;obtain rfl:=OI m;exact⟨_,_,_,_,_,_,rfl,h1⟩
 |1=>
  obtain rfl:=OI J;obtain rfl:=OI m;exact⟨_,_,_,_,_,_,rfl,h2⟩
 |2=>
  obtain rfl:=OI J;obtain rfl:=OI m;exact⟨_,_,_,_,_,_,rfl,Y⟩
 |j+3=>simp at m
def Vo (Q:WD->Prop)(w:WD)(X:OA)(k kc:Nat)(ss:List Qr):Prop:=
 ∃e,Jy w 7 X k kc e/\e.length=ss.length/\∀(j:Nat) r s,e[j]?=some r->ss[j]?=some s->∃A n c B m d,r=Ea s A n c B m d/\Je Q s.N A n c B m d
def Y1 (ss:List Qr)(j:Nat):Qr:=ss.getD j q44
theorem qq9 {ss:List Qr}{j:Nat}(h:j<ss.length):ss[j]?=some (Y1 ss j):=by simp[Y1,List.getD,h]
section
variable {Q Q':WD->Prop}{w w':WD}{X:OA}{k kc:Nat}{ss:List Qr}
theorem Vo.len (h:Vo Q w X k kc ss):ss.length=k:=by
 obtain⟨e,h1,h2,_⟩:=h;rw[<-h2];exact h1.len
theorem Vo.below (h:Vo Q w X k kc ss)(hb:Below w.1.size w w'):Vo Q w' X k kc ss:=by
 obtain⟨e,h1,h2⟩:=h;exact⟨e,h1.below hb,h2⟩
theorem Vo.mono (h:Vo Q w X k kc ss)(hq:∀w,Q' w->Q w):Vo Q' w X k kc ss:=by
 obtain⟨f,h1,h2,g⟩:=h;refine⟨f,h1,h2,λj r s y E=>?_⟩;obtain⟨A,n,c,B,m,d,e,u⟩:=g j r s y E;exact⟨A,n,c,B,m,d,e,u.mono hq⟩
theorem Vo.take (h:Vo Q w X k kc ss){j:Nat}(hj:j<=k):Vo Q w X j kc (ss.take j):=by
 obtain⟨g,h1,h2,m⟩:=h;refine⟨g.take j,h1.take hj,by rw[AR,AR,h2],λi r s e f=>?_⟩;rw[List.getElem?_take] at e f;split at e
 ·rename_i hi;rw[AA hi] at f;exact m i r s e f
 ·cases e
theorem Vo.get (h:Vo Q w X k kc ss){j:Nat}(hj:j<k):∃g o A n c B m d,X=some ⟨g,o,none⟩/\g<w.1.size/\w.rangeAt g (o+j*7) (Ea (Y1 ss j) A n c B m d)/\Je Q (Y1 ss j).N A n c B m d:=by
 have H:=h.len;obtain⟨f,h1,h2,E⟩:=h;have y:f[j]?=some (f[j]'(by omega)):=AC (by omega);obtain⟨A,n,c,B,m,d,e,F⟩:=E j _ _ y (qq9 (by omega));obtain⟨g,o,rfl,G,_,u⟩:=h1.2.2.2 j _ y;rw[e] at u;exact⟨g,o,A,n,c,B,m,d,rfl,G,u,F⟩
theorem Vo.cap (h:Vo Q w X k kc ss):k<=kc/\kc<=maxLen:=by
 obtain⟨e,h1,_⟩:=h;exact⟨h1.cap,h1.max⟩
end
theorem qgd {Q:WD->Prop}{w:WD}{X:OA}{k kc:Nat}{ss:List Qr}(h:Vo Q w X k kc ss)(F:1<=k)(W:k<=1000) :
  Calls prog 113 #[.slice X k kc] w λe w'=>∃A n c B m d,e=.returned (Vm (Y1 ss (k-1)) A n c B m d)/\Je Q (Y1 ss (k-1)).N A n c B m d/\Below w.1.size w w':=by
 obtain⟨g,o,A,n,c,B,m,d,rfl,R,f,E⟩:=h.get (show k-1<k by omega);obtain⟨⟨N,y,H,hd,I⟩,G⟩:∃s,Y1 ss (k-1)=s:=⟨_,rfl⟩;rw[G] at f E ⊢;obtain⟨q,Y⟩:∃q,k-1=q:=⟨_,rfl⟩;rw[Y] at f;have u:Below w.1.size w (w.alloc Ui):=Ql;have J:=Ii w;have cell:∀(j:Nat) v,(Ea ⟨N,y,H,hd,I⟩ A n c B m d)[j]?=some v->(w.alloc Ui).cell? ⟨g,o+q*7+j,none⟩=some v:=λj v Z=>(u.cell (p:=⟨g,_,none⟩) R).trans (f j v Z)
 have O:=cell 0 _ rfl;have f1:=cell 1 _ rfl;have f2:=cell 2 _ rfl;have f3:=cell 3 _ rfl;have f4:=cell 4 _ rfl;have f5:=cell 5 _ rfl;have f6:=cell 6 _ rfl;rw[Nat.add_zero] at O;have hw:IntKind.i64.wrap ((k:Int)-1)=(q:Int):=by
  have:(k:Int)-1=(q:Int):=by omega
  rw[this];exact IntWalk.i64_in _ (by omega)
 have hj:(0:Int)<=(q:Int):=by omega
 have U:(q:Int)<(k:Int):=by omega
 clear cell f G h;go_enter func113,ntmps113
 go_wp2_with (first
  |(refine Nz rfl _ _ rfl w.1.size rfl N.lvl A n c B m d y (H:Int) hd I rfl J rfl ?_;intro wz K M)
  |fail)
 refine bodyPost_ret (Oc Tryz.results113 rfl (q5g K)) rfl ?_;exact⟨A,n,c,B,m,d,rfl,E,u.trans (M.below (λk F=>by have:k=w.1.size:=F;omega) u.size)⟩
theorem qas {Q:WD->Prop}{N:Nd}{A B:OA}{n c m d:Nat}(h:Je Q N A n c B m d)(e:N.fit){j:Nat}(u:j<=N.size):j<=if N.lvl=0 then n else m:=by
 have y:=h.size;have f:=h.ln;have g:=h.lm;by_cases h0:N.lvl=0
 ·rw[AA h0];have:=e.1 h0;rw[this] at g;simp at g;omega
 ·rw[AB h0];have:=e.2 h0;rw[this] at f;simp at f;omega
theorem q7x {N:Nd}(h:N.fit)(i j:Nat):(N.cut i j).fit:=by
 unfold Nd.cut;by_cases h0:N.lvl=0
 ·rw[AA h0];exact⟨λ_=>h.1 h0,λhn=>absurd h0 hn⟩
 ·rw[AB h0];exact⟨λe=>absurd e h0,λ_=>h.2 h0⟩
theorem qu4 {s:Qr}(h:s.N.fit)(i j:Nat):(Zm s i j).fit:=by
 unfold Zm Zw;constructor
 ·intro h0;have h0:s.N.lvl=0:=h0;have e:=λa b=>(q7x h a b).1 (by unfold Nd.cut;rw[AA h0];exact h0)
  simp[e]
 ·intro h0;have h0:¬s.N.lvl=0:=h0;have e:=λa b=>(q7x h a b).2 (by unfold Nd.cut;rw[AB h0];exact h0)
  simp[e]
theorem q2b (N:Nd)(i j:Nat):(N.cut i j).items.length<=N.items.length/\(N.cut i j).kids.length<=N.kids.length:=by
 unfold Nd.cut;split
 ·refine⟨?_,AE _⟩;show ((N.items.drop i).take (j-i)).length<=_;rw[AR,AS];omega
 ·refine⟨AE _,?_⟩;show ((N.kids.drop i).take (j-i)).length<=_;rw[AR,AS];omega
section
variable {b:Nat}{w w':WD}{d p:Nat}{S0 S T:NP}{D:DM}{P P':Pl}
theorem q8p (H:Qh b w d p S0 S T D P)(hb:1<b)(ht:Tab w)(s:Qr)(F:s.N.fit)(A:OA)(n c:Nat)(B:OA)(m I:Nat)(U:Je (Turn S w) s.N A n c B m I)(i j:Nat)(hi:i<=j)(hj:j<=s.N.size)(a4:s.N.size<=20)(W:P.Qw s i j=some P') :
  Calls prog 141 #[tv p,Vm s A n c B m I,.int .i64 (i:Int),.int .i64 (j:Int)] w λe w'=>e=.returned (.int .i64 0)/\Qh b w' d p S0 S T D P'/\Turn S w w'/\Tab w':=by
 have hS:=H.low;have hn:=U.hn;have hm:=U.hm;have y:=U.size;have R:=qas U F hj;have a3:=qu4 F i j;obtain⟨N,ad,nx,hd,sh⟩:=s;dsimp only at F U hj a4 hn hm y R;have Z:RB ((w.alloc (.cells #[.pointer (some ⟨p,0,none⟩)] 188)).alloc (.cells (Ja N.lvl A n c B m I ad (nx:Int) hd sh).toArray 195)) w.1.size [.pointer (some ⟨p,0,none⟩)]:=(RB.new w [.pointer (some ⟨p,0,none⟩)] 188).below (Ql) (by simp);have g:RB ((w.alloc (.cells #[.pointer (some ⟨p,0,none⟩)] 188)).alloc (.cells (Ja N.lvl A n c B m I ad (nx:Int) hd sh).toArray 195)) (w.1.size+1) (Ja N.lvl A n c B m I ad (nx:Int) hd sh):=by
  have:=RB.new (w.alloc (.cells #[.pointer (some ⟨p,0,none⟩)] 188)) (Ja N.lvl A n c B m I ad (nx:Int) hd sh) 195;rwa [BH] at this
 have G:Below w.1.size w ((w.alloc (.cells #[.pointer (some ⟨p,0,none⟩)] 188)).alloc (.cells (Ja N.lvl A n c B m I ad (nx:Int) hd sh).toArray 195)):=(Ql).alloc (by simp) _;unfold Pl.Qw at W;dsimp only at W;unfold tv Vm;dsimp only;unfold Ja at Z g G
 cases sh with
 |true=>
  rw[AA rfl] at W;have HP:=HI W;clear W;obtain⟨A1,n1,c1,B1,m1,d1,e1,q1,l1⟩:=q7v U (i:=0) (j:=i) (AW _) (by omega);obtain⟨A2,n2,c2,B2,m2,d2,e2,q2,l2⟩:=q7v U (i:=j) (j:=N.size) (by omega) (qas U F (AE _));have f:=λu=>q3p N.lvl A n c B m I 0 i (AW _) (by omega) ⟨hn.2.1,hn.2.2⟩ ⟨hm.2.1,hm.2.2⟩ u
  have Y:=λu=>q3p N.lvl A n c B m I j N.size (by omega) (qas U F (AE _)) ⟨hn.2.1,hn.2.2⟩ ⟨hm.2.1,hm.2.2⟩ u
  have HS:=λu=>q21 N.lvl A n c B m I (by omega) (by omega) u
  rw[e1] at f;rw[show ((0:Nat):Int)=0 from rfl] at f;rw[e2] at Y;rw[<-y] at HS;unfold Xx at f Y HS;have f:=HI f;have Y:=HI Y;have HS:=HI HS;have a6:n+m<=20:=by omega
  clear e1 e2 R y;go_enter func141,ntmps141
  have x6:=g.cell 6 rfl;go_wp2_with fail
  generalize ((w.alloc (.cells #[.pointer (some ⟨p,0,none⟩)] 188)).alloc (.cells #[.int .i64 N.lvl,.slice A n c,.slice B m I,.int .i64 ad,.int .i64 (nx:Int),.bool hd,.bool true] 195))=K at Z g G ⊢;have z1:=g.lt;have z0:=G.size;have hF:∀u,Below K.1.size K u->u.cell? ⟨w.1.size,0,none⟩=some (.pointer (some ⟨p,0,none⟩))/\u.cell? ⟨w.1.size+1,0,none⟩=some (.int .i64 N.lvl)/\u.cell? ⟨w.1.size+1,1,none⟩=some (.slice A n c)/\u.cell? ⟨w.1.size+1,2,none⟩=some (.slice B m I):=λu J=>
   ⟨(Z.below J Z.lt).cell 0 rfl,(g.below J g.lt).cell 0 rfl,(g.below J g.lt).cell 1 rfl,(g.below J g.lt).cell 2 rfl⟩
  have hT:∀u,Below K.1.size K u->∀v,Turn S u v->v.cell? ⟨w.1.size,0,none⟩=some (.pointer (some ⟨p,0,none⟩))/\v.cell? ⟨w.1.size+1,0,none⟩=some (.int .i64 N.lvl)/\v.cell? ⟨w.1.size+1,1,none⟩=some (.slice A n c)/\v.cell? ⟨w.1.size+1,2,none⟩=some (.slice B m I):=λu J v hv=>
   have t1:=(Z.below J Z.lt).turned hv (λh=>by have:=hS _ h;omega);have x1:=(g.below J g.lt).turned hv (λh=>by have:=hS _ h;omega);⟨t1.cell 0 rfl,x1.cell 0 rfl,x1.cell 1 rfl,x1.cell 2 rfl⟩
  have E:Below K.1.size K K.drew:=(AI _ _).drew;have a7:Zm ⟨N,ad,nx,hd,true⟩ i j=Zw N.lvl [N.cut 0 i,N.cut j N.size]:=rfl;have Hj:=(λ(u:WD) (J:Below K.1.size K u) (X:OA) (O:G9 (Turn S w) u X 2 2 [N.cut 0 i,N.cut j N.size])=>q45 (S:=S) (w:=u) (λk hk=>by have:=hS k hk;have:=J.size;omega) [N.cut 0 i,N.cut j N.size] N.lvl l1 X 2 2 (by
    obtain⟨a5,r1,r2,r3⟩:=O;exact⟨a5,r1,r2,λj r M hr hM=>by
     obtain⟨A',n',c',B',m',d',e',hq⟩:=r3 j r M hr hM;exact⟨A',n',c',B',m',d',e',hq.mono λv hv=>(Zb (S:=S) (G.trans (J.mono G.size))).trans hv λk hk=>.inl hk⟩⟩) (by omega) (by omega)
    (by have h1:=q2b N 0 i;have h2:=q2b N j N.size;have h3:=U.ln;simp only[BC,List.flatMap_nil,AD,List.length_nil];omega)
    (by have h1:=q2b N 0 i;have h2:=q2b N j N.size;have h3:=U.lm;simp only[BC,List.flatMap_nil,AD,List.length_nil];omega))
  unfold Xx at Hj;replace Hj:=HI Hj;have Hr:∀(u:WD) (_:Below K.1.size K u) (A':OA) (n' c':Nat) (B':OA) (m' d':Nat) (_:Je (Turn S u) (Zw N.lvl [N.cut 0 i,N.cut j N.size]) A' n' c' B' m' d'),Calls prog 163 #[.agg #[.pointer (some ⟨p,0,none⟩)],.agg #[.int .i64 N.lvl,.slice A' n' c',.slice B' m' d']] u λe w'=>e=.returned (.int .i64 0)/\Qh b w' d p S0 S T D P'/\Turn S u w'/\Tab w':=
   (λu J A' n' c' B' m' d' hq=>qq3 (H.below (G.trans (J.mono G.size))) hb (ht.below (G.trans (J.mono G.size)) ht.1) (Zm ⟨N,ad,nx,hd,true⟩ i j) a3 A' n' c' B' m' d' hq HP.out)
  replace Hr:=HI Hr;clear x6;have O:=HI (λu=>qij (Q:=Turn S w) u 193 q1 q2);rw[l1,l2] at O;go_region_held3 (λw'=>w'.cell? ⟨w.1.size,0,none⟩=some (.pointer (some ⟨p,0,none⟩))/\w'.cell? ⟨w.1.size+1,0,none⟩=some (.int .i64 N.lvl)/\w'.cell? ⟨w.1.size+1,1,none⟩=some (.slice A n c)/\w'.cell? ⟨w.1.size+1,2,none⟩=some (.slice B m I))
   (first|(with_reducible assumption)|(with_reducible exact hF _ E)|(with_reducible exact hF _ (E.alloc E.size _))|(with_reducible exact a1.out))
   (first
    |(go_at_call 143;(with_reducible refine (f.out _).mono ?_);rintro e wX ⟨rfl,O⟩;replace E:=E.trans (O.mono E.size);clear O)
    |(go_at_call 143;(with_reducible refine (Y.out _).mono ?_);rintro e wX ⟨rfl,O⟩;replace E:=E.trans (O.mono E.size);clear O)
    |(go_at_call 144;(with_reducible refine (HS.out _).mono ?_);rintro e wX ⟨rfl,O⟩;replace E:=E.trans (O.mono E.size);clear O)
    |(go_at_call 142;refine (Hj.out _ (E.alloc E.size _) _ (O.out _)).mono ?_;rintro e wX ⟨A3,n3,c3,B3,m3,d3,rfl,a2,a0⟩;replace E:=(E.alloc E.size _).trans (a0.mono (E.alloc E.size _).size);clear a0)
    |(go_at_call 163;refine (Hr.out _ E _ _ _ _ _ _ a2).mono ?_;rintro e w5 ⟨rfl,H5,X5,t5⟩;have XX:Turn S w w5:=(Zb (S:=S) (G.trans (E.mono G.size))).trans X5 λk hk=>.inl hk;have a1:=HI (hT _ E _ X5);replace H5:=HI H5)
    |fail)
  all_goals (go_wp2_with fail;go_ret;exact⟨rfl,H5.out,XX,t5⟩)
 |false=>
  rw[AB Bool.false_ne_true] at W;by_cases hl:0<N.lvl
  ·rw[AA hl] at W;obtain rfl:=OI W;clear W;have H1:=H.below G;have t1:=ht.below G ht.1;have x6:=g.cell 6 rfl;have x0:=g.cell 0 rfl;clear R y;go_enter func141,ntmps141
   go_wp2;go_ret;exact⟨rfl,H1,Zb G,t1⟩
  ·rw[AB hl] at W;have HP:=HI W;clear W;obtain⟨A1,n1,c1,B1,m1,d1,e1,q1,l1⟩:=q7v U hi R;have f:=λu=>q3p N.lvl A n c B m I i j hi R ⟨hn.2.1,hn.2.2⟩ ⟨hm.2.1,hm.2.2⟩ u
   rw[e1] at f;unfold Xx at f;replace f:=HI f;have Hr:∀(u:WD) (_:Below w.1.size w u),Calls prog 164 #[.agg #[.pointer (some ⟨p,0,none⟩)],.agg #[.int .i64 N.lvl,.slice A1 n1 c1,.slice B1 m1 d1]] u λe w'=>e=.returned (.int .i64 0)/\Qh b w' d p S0 S T D P'/\Turn S u w'/\Tab w':=λu J=>by
    have:=qif (H.below J) hb (ht.below J ht.1) (N.cut i j) (q7x F i j) A1 n1 c1 B1 m1 d1 (q1.mono λv hv=>(Zb (S:=S) J).trans hv λk hk=>.inl hk) HP.out;rw[l1] at this;exact this
   replace Hr:=HI Hr;have x6:=g.cell 6 rfl;have x0:=g.cell 0 rfl;clear e1 R y;go_enter func141,ntmps141
   go_wp2_with fail
   generalize ((w.alloc (.cells #[.pointer (some ⟨p,0,none⟩)] 188)).alloc (.cells #[.int .i64 N.lvl,.slice A n c,.slice B m I,.int .i64 ad,.int .i64 (nx:Int),.bool hd,.bool false] 195))=K at Z g G x6 x0 ⊢;have g0:∀u:Grown K,u.to.cell? ⟨w.1.size,0,none⟩=some (.pointer (some ⟨p,0,none⟩)):=Grown.cell (Z.cell 0 rfl) Z.lt;have g1:∀u:Grown K,u.to.cell? ⟨w.1.size+1,0,none⟩=some (.int .i64 N.lvl):=Grown.cell (g.cell 0 rfl) g.lt;have g2:∀u:Grown K,u.to.cell? ⟨w.1.size+1,1,none⟩=some (.slice A n c):=Grown.cell (g.cell 1 rfl) g.lt;have g3:∀u:Grown K,u.to.cell? ⟨w.1.size+1,2,none⟩=some (.slice B m I):=Grown.cell (g.cell 2 rfl) g.lt;refine q27 6 (by kernel_rfl) (by kernel_rfl) ?_;simp only[List.take_succ_cons,List.take_zero,List.drop_succ_cons,List.drop_zero];repeat (go_big_quiet_step (first|(go_at_call 143;exact Calls.grown (f.out _))|fail))
   refine wpQuiet_nil ?_;rintro _ ⟨u,rfl⟩;have BB:=G.trans (u.ok.mono G.size);go_wp2_with fail
   refine (Hr.out _ BB).mono ?_;rintro e w5 ⟨rfl,H5,X5,t5⟩;go_wp2;go_ret;exact⟨rfl,H5,(Zb (S:=S) BB).trans X5 λk hk=>.inl hk,t5⟩
end
section
attribute [local go_sem ↓] qee
section
variable {b:Nat}{w w':WD}{d p:Nat}{S0 S T:NP}{D:DM}{P P':Pl}
theorem qge (H:Qh b w d p S0 S T D P)(hb:1<b)(ht:Tab w)(a6:∀a b,P.L a=some b->b.kindOk)(s:Qr)(A:OA)(n c:Nat)(B:OA)(m G:Nat)(hB:Ro (Turn S w) B m G s.N.kids)(hl:1<=s.N.lvl/\s.N.lvl<8)(i:Nat)(f:P.Wj D s i=true)(F:(P.Jd D s i).N.may=true)(hP:P.Qw (P.Jd D s i) 0 0=some P') :
  Calls prog 168 #[tv p,Vm s A n c B m G,.int .i64 (i:Int)] w λe w'=>∃A n c B m G,e=.returned (.tuple #[Vm (P.Jd D s i) A n c B m G,.int .i64 0])/\Je (Turn (λk=>k<w.1.size) w') (P.Jd D s i).N A n c B m G/\Qh b w' d p S0 S T D P'/\Turn S w w'/\Tab w':=by
 have hS:=H.low;have Hk:=λ(u:WD) (hu:Below w.1.size w u)=>qkj (H.below hu) (ht.below hu ht.1) a6 s A n c B m G (λv hv=>hB v ((Zb (S:=S) hu).trans hv λk f=>.inl f)) hl i f
 obtain⟨o,ho⟩:∃o,P.Jd D s i=o:=⟨_,rfl⟩;rw[ho] at Hk F hP ⊢;clear f ho hl hB;obtain⟨N,K,O,hd,R⟩:=s;obtain⟨M,oa,ox,oh,os⟩:=o;dsimp only at F;have I:=Pe F;have a8:M.size<=12:=by
  unfold Nd.size;by_cases h0:M.lvl=0
  ·obtain⟨e1,_,_,h6⟩:=q1c F h0;have h7:=I.1 h0;rw[h7];simp;omega
  ·have h6:=(q0o F h0).2.2.2.2.1;have h7:=I.2 h0;rw[h7];simp;omega
 unfold tv Vm at Hk;dsimp only at Hk;have T1:RB (((w.alloc (.cells #[.pointer (some ⟨p,0,none⟩)] 188)).alloc (.cells (Ja N.lvl A n c B m G K (O:Int) hd R).toArray 195)).alloc Ui) w.1.size [.pointer (some ⟨p,0,none⟩)]:=(RB.new w [.pointer (some ⟨p,0,none⟩)] 188).below ((Ql).alloc (by simp) _) (by simp);have X1:RB (((w.alloc (.cells #[.pointer (some ⟨p,0,none⟩)] 188)).alloc (.cells (Ja N.lvl A n c B m G K (O:Int) hd R).toArray 195)).alloc Ui) (w.1.size+1) (Ja N.lvl A n c B m G K (O:Int) hd R):=by
  have:=RB.new (w.alloc (.cells #[.pointer (some ⟨p,0,none⟩)] 188)) (Ja N.lvl A n c B m G K (O:Int) hd R) 195;rw[BH] at this;exact this.below (Ql) (by simp)
 have R1:RB (((w.alloc (.cells #[.pointer (some ⟨p,0,none⟩)] 188)).alloc (.cells (Ja N.lvl A n c B m G K (O:Int) hd R).toArray 195)).alloc Ui) (w.1.size+2) (Ja 0 none 0 0 none 0 0 0 0 false false):=by
  have:=Ii ((w.alloc (.cells #[.pointer (some ⟨p,0,none⟩)] 188)).alloc (.cells (Ja N.lvl A n c B m G K (O:Int) hd R).toArray 195));rwa [BH,BH] at this
 have b1:Below w.1.size w (((w.alloc (.cells #[.pointer (some ⟨p,0,none⟩)] 188)).alloc (.cells (Ja N.lvl A n c B m G K (O:Int) hd R).toArray 195)).alloc Ui):=((Ql).alloc (by simp) _).alloc (by simp;omega) _;replace Hk:=HI Hk;have HP:=HI hP;clear hP;have y0:=T1.cell 0 rfl;have y:∀(j:Nat) v,(Ja N.lvl A n c B m G K (O:Int) hd R)[j]?=some v->(((w.alloc (.cells #[.pointer (some ⟨p,0,none⟩)] 188)).alloc (.cells (Ja N.lvl A n c B m G K (O:Int) hd R).toArray 195)).alloc Ui).cell? ⟨w.1.size+1,j,none⟩=some v:=λj v hv=>X1.cell j hv
 have x0:=y 0 _ rfl;have x1:=y 1 _ rfl;have x2:=y 2 _ rfl;have x3:=y 3 _ rfl;have x4:=y 4 _ rfl;have x5:=y 5 _ rfl;have x6:=y 6 _ rfl;clear y;unfold tv Vm;dsimp only;unfold Ja at T1 X1 R1 b1 y0 x0 x1 x2 x3 x4 x5 x6;go_enter func168,ntmps168
 go_wp2_with fail
 generalize (((w.alloc (.cells #[.pointer (some ⟨p,0,none⟩)] 188)).alloc (.cells #[.int .i64 N.lvl,.slice A n c,.slice B m G,.int .i64 K,.int .i64 (O:Int),.bool hd,.bool R] 195)).alloc Ui)=J at T1 X1 R1 b1 y0 x0 x1 x2 x3 x4 x5 x6 ⊢;refine (Hk.out J b1).mono ?_;rintro e g ⟨W,n3,c3,Y,m3,Z,rfl,a2,b2⟩;have z1:=R1.lt;have z0:=b1.size;have z2:=b2.size;have T2:=T1.below b2 T1.lt;have R2:=R1.below b2 R1.lt;clear y0 x0 x1 x2 x3 x4 x5 x6;go_wp2_with (first
  |(refine Nz rfl (.tmp 8) _ rfl g.1.size rfl M.lvl W n3 c3 Y m3 Z oa (ox:Int) oh os rfl (Ii g) rfl ?_;intro U Q3 TQ)
  |fail)
 have bz:Below g.1.size g (g.alloc Ui):=Ql;have b3:Below g.1.size g U:=bz.trans (TQ.below (λk f=>by have:k=g.1.size:=f;omega) bz.size);have T3:=T2.below b3 T2.lt;have R3:=R2.below b3 R2.lt;have BB:=b1.trans ((b2.trans (b3.mono b2.size)).mono b1.size);clear T1 X1 R1 T2 R2 TQ bz;have z3:=b3.size;have zQ:=Q3.lt;have E:=λ(u:WD) (hu:Qh b u d p S0 S (grow T w J) D P) (a7:Tab u) (hx:Turn (λk=>k<J.1.size) g u)=>q8p hu hb a7 ⟨M,oa,ox,oh,os⟩ I W n3 c3 Y m3 Z (a2.mono λv hv=>hx.trans hv λk f=>.inl (by have:=hS k f;show k<J.1.size;omega)) 0 0 (AE _) (AW _) (by show M.size<=20;omega) HP.out
 unfold tv Vm at E;dsimp only at E;rw[show ((0:Nat):Int)=0 from rfl] at E;replace E:=HI E;have bD:Below U.1.size U U.drew:=(AI _ _).drew;have HD:Qh b U.drew d p S0 S (grow T w J) D P:=(H.more b1).below ((b2.trans (b3.mono b2.size)).trans (bD.mono (by omega)));have tD:Tab U.drew:=ht.below (BB.trans (bD.mono BB.size)) ht.1;have cells:∀u,Turn (λk=>S k\/k=w.1.size+2) U u->u.cell? ⟨w.1.size,0,none⟩=some (.pointer (some ⟨p,0,none⟩))/\u.cell? ⟨g.1.size,0,none⟩=some (.int .i64 M.lvl)/\u.cell? ⟨g.1.size,1,none⟩=some (.slice W n3 c3)/\u.cell? ⟨g.1.size,2,none⟩=some (.slice Y m3 Z)/\u.cell? ⟨g.1.size,3,none⟩=some (.int .i64 oa)/\u.cell? ⟨g.1.size,4,none⟩=some (.int .i64 (ox:Int))/\u.cell? ⟨g.1.size,5,none⟩=some (.bool oh)/\u.cell? ⟨g.1.size,6,none⟩=some (.bool os):=λu hu=>
  have t1:=T3.turned hu (λh=>h.elim (λh=>by have:=hS _ h;omega) λh=>by omega);have q1:=Q3.turned hu (λh=>h.elim (λh=>by have:=hS _ h;omega) λh=>by omega);⟨t1.cell 0 rfl,q1.cell 0 rfl,q1.cell 1 rfl,q1.cell 2 rfl,q1.cell 3 rfl,q1.cell 4 rfl,q1.cell 5 rfl,q1.cell 6 rfl⟩
 have c1:=cells U.drew (Zb bD);go_region_held3 (λu=>u.cell? ⟨w.1.size,0,none⟩=some (.pointer (some ⟨p,0,none⟩))/\u.cell? ⟨g.1.size,0,none⟩=some (.int .i64 M.lvl)/\u.cell? ⟨g.1.size,1,none⟩=some (.slice W n3 c3)/\u.cell? ⟨g.1.size,2,none⟩=some (.slice Y m3 Z)/\u.cell? ⟨g.1.size,3,none⟩=some (.int .i64 oa)/\u.cell? ⟨g.1.size,4,none⟩=some (.int .i64 (ox:Int))/\u.cell? ⟨g.1.size,5,none⟩=some (.bool oh)/\u.cell? ⟨g.1.size,6,none⟩=some (.bool os))
  (first|(with_reducible assumption)|(with_reducible exact a4.out)|(with_reducible exact a5.out))
  (first
   |(go_at_call 141;(with_reducible refine (E.out U.drew HD tD ((Zb (S:=λk=>k<J.1.size) b3).trans (Zb (S:=λk=>k<J.1.size) bD) λk f=>.inl f)).mono ?_);rintro e w5 ⟨rfl,H5,X5,t5⟩;have XX:Turn S U w5:=(Zb (S:=S) bD).trans X5 λk f=>.inl f;have a4:=HI (cells w5 (XX.mono λk f=>.inl f));have T6:Turn (λk=>k=w.1.size+2) w5 (w5.setCells (w.1.size+2) 0 (Ja M.lvl W n3 c3 Y m3 Z oa (ox:Int) oh os)):=Us (S:=λk=>k=w.1.size+2) rfl _ 0 w5;have a5:=HI (cells _ ((XX.mono (S':=λk=>S k\/k=w.1.size+2) λk f=>.inl f).trans T6 λk f=>.inl (.inr f)));replace H5:=HI H5;have R5:=R3.turned XX (λh=>by have:=hS _ h;omega);have a9:=qih R5 rfl M.lvl W n3 c3 Y m3 Z oa (ox:Int) oh os;have R6:=HI (R5.stored (Ja M.lvl W n3 c3 Y m3 Z oa (ox:Int) oh os) rfl))
   |fail)
 go_wp2_with fail
 have b0:=X5.size;refine bodyPost_ret (Ag Tryz.results168 rfl (q5g R6.out)) rfl ?_;have a3:∀k,S k->k<J.1.size:=λk f=>by have:=hS k f;omega
 have zX:=XX.size;refine⟨W,n3,c3,Y,m3,Z,rfl,qeg a2 (((Zb (S:=λk=>k<J.1.size) b3).trans XX λk f=>.inl (a3 k f)).trans T6 λk f=>.inl (by have:k=w.1.size+2:=f;show k<J.1.size;omega)) z0,?_,?_,?_⟩
 ·have a0:=H.sub;have a1:=H.Dw;have h2:grow T w J (w.1.size+2):=⟨.inr (by omega),by omega⟩;have Ho:=H5.out.own T6 (λk f=>by have:k=w.1.size+2:=f;rw[this];exact h2) (λk f h=>by have:k=w.1.size+2:=f;have:=(H.tight k (a0 k h)).2;omega) (λk f h=>by have:k=w.1.size+2:=f;have:=hS k h;omega);exact Ho.less (λk f=>⟨.inl f,by have:=(H.tight k f).2;omega⟩) a0 a1
 ·exact ((Zb (S:=S) BB).trans XX λk f=>.inl f).trans T6 λk f=>.inr (by have:k=w.1.size+2:=f;omega)
 ·exact t5.turned T6 (λh=>by have h:1=w.1.size+2:=h;have:=ht.1;omega)
end
end
