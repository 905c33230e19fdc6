/- The code's edit: kid, last -/
import Derived.Test.YthkfkhejjmhomaaGreatDoorDb31
import Derived.Deep.CutRange
namespace Go.Proofs.YthkfkhejjmhomaaGreatDoor
open Go Go.RowKit Go.Proofs
set_option maxHeartbeats 8000000
set_option maxRecDepth 100000
section
def stS (p v:Value):Sem Unit:=Instr.storeAt 180 p v
theorem qdt (p v:Value):Instr.storeAt 180 p v=stS p v:=rfl
theorem qht {w:World}{b:Nat}{r:List Value}(H:RB w b r)(u:r.length=7)(l:Int)(A:Option Addr)(n c:Nat)(B:Option Addr)(m d:Nat)(e f:Int)(h s:Bool) :
  (stS (.pointer (some ⟨b,0,none⟩)) (.agg #[.int .i64 l,.slice A n c,.slice B m d,.int .i64 e,.int .i64 f,.bool h,.bool s])).run Tryz.prog w=.ok () (w.setCells b 0 (Jb l A n c B m d e f h s)):=
 run_storeAt_mid w b 0 180 (Jb l A n c B m d e f h s).toArray (by have:=H.there;rw[u] at this;exact this) (by kernel_rfl) (by simp[Jb,Value.oneCell'])
theorem qdu {u v:World}{q:Nat}{r:List Value}(E:Below u.1.size u v)(G:u.1.size<=q)(H:RB v q r)(y:r.length=7)(l:Int)(A:Option Addr)(n c:Nat)(B:Option Addr)(m d:Nat)(e f:Int)(h s:Bool) :
  (stS (.pointer (some ⟨q,0,none⟩)) (.agg #[.int .i64 l,.slice A n c,.slice B m d,.int .i64 e,.int .i64 f,.bool h,.bool s])).run Tryz.prog v=.ok () (v.setCells q 0 (Jb l A n c B m d e f h s))/\RB (v.setCells q 0 (Jb l A n c B m d e f h s)) q (Jb l A n c B m d e f h s)/\
   Turn (λk=>k=q) v (v.setCells q 0 (Jb l A n c B m d e f h s))/\Below u.1.size u (v.setCells q 0 (Jb l A n c B m d e f h s)):=by
 have T:Turn (λk=>k=q) v (v.setCells q 0 (Jb l A n c B m d e f h s)):=Vb (S:=λk=>k=q) rfl _ 0 v;exact⟨qht H y l A n c B m d e f h s,H.stored _ y,T,E.trans (T.below (λk F=>by have:k=q:=F;omega) E.size)⟩
theorem qdv {B e:Nat}{y u:World}{M:Nd}{A:Option Addr}{n c:Nat}{f:Option Addr}{m d:Nat}(F:Jf (Turn (λk=>k<B) y) M A n c f m d)(X:Turn (λk=>k<B) y u)(H:e<=B):Jf (Turn (λk=>k<e) u) M A n c f m d:=
 F.mono λv G=>X.trans G λk E=>.inl (by have:k<e:=E;show k<B;omega)
abbrev Ud:Obj:=.cells #[.int .i64 0,.slice none 0 0,.slice none 0 0,.int .i64 0,.int .i64 0,.bool false,.bool false] 180
theorem F9 (w:World):RB (w.alloc Ud) w.1.size (Jb 0 none 0 0 none 0 0 0 0 false false):=RB.new w (Jb 0 none 0 0 none 0 0 0 0 false false) 180
attribute [local go_sem ↓] qdt
section
variable {b:Nat}{w w':World}{d p:Nat}{S0 S T:Nat->Prop}{D:DM}{P P':Pl}
theorem qjv (H:Qg b w d p S0 S T D P)(ht:Tab w)(a8:∀a b,P.L a=some b->b.kindOk)(s:Qs)(A:Option Addr)(n c:Nat)(B:Option Addr)(m F:Nat)(hB:P5 (Turn S w) B m F s.N.kids)(hl:1<=s.N.lvl/\s.N.lvl<8)(i:Nat)(W:P.Wi D s i=true) :
  Calls Tryz.prog 184 #[tv p,Vf s A n c B m F,.int .i64 (i:Int)] w λe w'=>∃A n c B m F,e=.returned (.tuple #[Vf (P.Je D s i) A n c B m F,.int .i64 0])/\Jf (Turn (λk=>k<w.1.size) w') (P.Je D s i).N A n c B m F/\Below w.1.size w w':=by
 obtain⟨N,ad,nx,hd,K⟩:=s;obtain⟨k1,k2,k3⟩:=of_decide_eq_true W;unfold Pl.Je;dsimp only at hB hl k1 k2 k3 ⊢;clear W;have a1:=hB w (Turn.refl _ _);have b2:=a1.len;obtain⟨g,o,rfl,hg,-,-,-,x3⟩:=a1.cell (show i<m by omega);obtain⟨a,ha⟩:∃a,(Qe N.kids i).a=a:=⟨_,rfl⟩;rw[ha] at x3 k2 k3 ⊢;clear a1 hB ha;obtain⟨R,a6⟩:∃R,N.lvl=R:=⟨_,rfl⟩;rw[a6] at hl k3;have T1:RB (((w.alloc (.cells #[.pointer (some ⟨p,0,none⟩)] 173)).alloc (.cells (Jb R A n c (some ⟨g,o,none⟩) m F ad (nx:Int) hd K).toArray 180)).alloc (.cells (Jb 0 none 0 0 none 0 0 0 0 false false).toArray 180)) w.1.size [.pointer (some ⟨p,0,none⟩)]:=(RB.new w [.pointer (some ⟨p,0,none⟩)] 173).below ((Qk).alloc (by simp) _) (by simp);have X1:RB (((w.alloc (.cells #[.pointer (some ⟨p,0,none⟩)] 173)).alloc (.cells (Jb R A n c (some ⟨g,o,none⟩) m F ad (nx:Int) hd K).toArray 180)).alloc (.cells (Jb 0 none 0 0 none 0 0 0 0 false false).toArray 180)) (w.1.size+1) (Jb R A n c (some ⟨g,o,none⟩) m F ad (nx:Int) hd K):=by
  have:=RB.new (w.alloc (.cells #[.pointer (some ⟨p,0,none⟩)] 173)) (Jb R A n c (some ⟨g,o,none⟩) m F ad (nx:Int) hd K) 180;rw[World.size_alloc] at this;exact this.below (Qk) (by simp)
 have R1:RB (((w.alloc (.cells #[.pointer (some ⟨p,0,none⟩)] 173)).alloc (.cells (Jb R A n c (some ⟨g,o,none⟩) m F ad (nx:Int) hd K).toArray 180)).alloc (.cells (Jb 0 none 0 0 none 0 0 0 0 false false).toArray 180)) (w.1.size+2) (Jb 0 none 0 0 none 0 0 0 0 false false):=by
  have:=RB.new ((w.alloc (.cells #[.pointer (some ⟨p,0,none⟩)] 173)).alloc (.cells (Jb R A n c (some ⟨g,o,none⟩) m F ad (nx:Int) hd K).toArray 180)) (Jb 0 none 0 0 none 0 0 0 0 false false) 180;rwa [World.size_alloc,World.size_alloc] at this
 have U:Below w.1.size w (((w.alloc (.cells #[.pointer (some ⟨p,0,none⟩)] 173)).alloc (.cells (Jb R A n c (some ⟨g,o,none⟩) m F ad (nx:Int) hd K).toArray 180)).alloc (.cells (Jb 0 none 0 0 none 0 0 0 0 false false).toArray 180)):=((Qk).alloc (by simp) _).alloc (by simp;omega) _;have Hr:=λ(u:World) (hu:Below w.1.size w u)=>qfo (H.below hu) (ht.below hu ht.1) a8 a K k2
 unfold Vf Pl.spot tv at Hr;unfold Pl.spot;dsimp only at Hr ⊢;obtain⟨M,hM⟩:∃M,P.Qd D a=M:=⟨_,rfl⟩;obtain⟨r,hr⟩:∃r,(K||decide (1<P.C.get a))=r:=⟨_,rfl⟩;rw[hM,hr] at Hr ⊢;rw[hM] at k3;have Hr:=Lib.hid Hr;have HE:=Lib.hid k3;clear hM hr;unfold tv Vf;dsimp only;rw[a6];unfold Jb at T1 X1 R1 U;have hj:(0:Int)<=(i:Int):=by omega
 have b3:(i:Int)<(m:Int):=by omega
 clear k2 k3;go_enter Tryz.func184,Tryz.ntmps184
 go_wp2_with fail
 generalize (((w.alloc (.cells #[.pointer (some ⟨p,0,none⟩)] 173)).alloc (.cells #[.int .i64 R,.slice A n c,.slice (some ⟨g,o,none⟩) m F,.int .i64 ad,.int .i64 (nx:Int),.bool hd,.bool K] 180)).alloc (.cells #[.int .i64 0,.slice none 0 0,.slice none 0 0,.int .i64 0,.int .i64 0,.bool false,.bool false] 180))=f at T1 X1 R1 U ⊢;have a7:=(U.cell (p:=⟨g,_,none⟩) hg).trans x3;have z1:=R1.lt;have z0:=U.size;have hF:∀u,Below f.1.size f u->u.cell? ⟨w.1.size,0,none⟩=some (.pointer (some ⟨p,0,none⟩))/\u.cell? ⟨w.1.size+1,2,none⟩=some (.slice (some ⟨g,o,none⟩) m F)/\u.cell? ⟨w.1.size+1,6,none⟩=some (.bool K)/\u.cell? ⟨g,o+i*4+3,none⟩=some (.int .i64 a):=λu hu=>
  ⟨(T1.below hu T1.lt).cell 0 rfl,(X1.below hu X1.lt).cell 2 rfl,(X1.below hu X1.lt).cell 6 rfl,(hu.cell (p:=⟨g,_,none⟩) (by show g<_;omega)).trans a7⟩
 have bD:Below f.1.size f f.drew:=(Below.refl _ _).drew;have bA:Below f.1.size f (f.alloc Ud).drew:=(Qk).drew;have QA:RB (f.alloc Ud).drew f.1.size (Jb 0 none 0 0 none 0 0 0 0 false false):=F9 f;go_cut [8,9] from 10 to 24 (λq e wx=>∃(qb:Nat) (A:Option Addr) (n c:Nat) (B:Option Addr) (m F:Nat),q=.pointer (some ⟨qb,0,none⟩)/\e=.int .i64 0/\f.1.size<=qb/\RB wx qb (Jb M.lvl A n c B m F a 0 K r)/\Jf (Turn (λk=>k<f.1.size) wx) M A n c B m F/\Below f.1.size f wx)
 case first=>
  go_region_held3 (λw'=>w'.cell? ⟨w.1.size,0,none⟩=some (.pointer (some ⟨p,0,none⟩))/\w'.cell? ⟨w.1.size+1,2,none⟩=some (.slice (some ⟨g,o,none⟩) m F)/\w'.cell? ⟨w.1.size+1,6,none⟩=some (.bool K)/\w'.cell? ⟨g,o+i*4+3,none⟩=some (.int .i64 a))
   (first|(with_reducible assumption)|(with_reducible exact hF _ bD)|(with_reducible exact hF _ bA)|(with_reducible exact hF _ y)|(with_reducible exact hF _ (y.alloc y.size Ud))|(with_reducible exact a2.out))
   (first
    |(go_at_call 183;(with_reducible refine (Hr.out f.drew (U.trans (bD.mono U.size))).mono ?_);rintro e w3 ⟨Z,n3,c3,B3,m3,d3,rfl,O,E⟩;have y:Below f.1.size f w3:=bD.trans E;have I:=y.alloc y.size Ud;obtain⟨b0,G,Y,J⟩:=qdu I y.size (F9 w3) rfl M.lvl Z n3 c3 B3 m3 d3 a 0 K r;have a2:=Lib.hid (hF _ J);have HX:=Lib.hid (And.intro G (And.intro Y (And.intro J (And.intro I E))));clear G Y J I E)
    |(go_at_call 183;(with_reducible refine (Hr.out (f.alloc Ud).drew (U.trans (bA.mono U.size))).mono ?_);rintro e w3 ⟨Z,n3,c3,B3,m3,d3,rfl,O,E⟩;have y:Below f.1.size f w3:=bA.trans (E.mono bA.size);have I:=y;obtain⟨b0,G,Y,J⟩:=qdu y (Nat.le_refl _) (QA.below E QA.lt) rfl M.lvl Z n3 c3 B3 m3 d3 a 0 K r;have a2:=Lib.hid (hF _ J);have HX:=Lib.hid (And.intro G (And.intro Y (And.intro J (And.intro I E))));clear G Y J I E)
    |fail)
  ·obtain⟨G,Y,J,I,E⟩:=HX.out;go_wp2_with fail
   go_meet
   refine⟨w3.1.size,Z,n3,c3,B3,m3,d3,rfl,rfl,y.size,G,qdv O ((Qx (S:=λk=>k<f.drew.1.size) ((Below.refl _ _).alloc (Nat.le_refl _) Ud)).trans Y λk W=>.inr (by have:k=w3.1.size:=W;omega)) ?_,J⟩;exact Nat.le_refl _
  ·obtain⟨G,Y,J,I,E⟩:=HX.out;go_wp2_with fail
   go_meet
   have b6:(f.alloc Ud).drew.1.size=f.1.size+1:=by show (f.alloc Ud).1.size=_;simp
   refine⟨f.1.size,Z,n3,c3,B3,m3,d3,rfl,rfl,Nat.le_refl _,G,qdv O (Y.mono λk W=>?_) ?_,J⟩
   ·have:k=f.1.size:=W;show k<(f.alloc Ud).drew.1.size;omega
   ·omega
 case rest=>
  obtain⟨qb,Z,n3,c3,B3,m3,d3,rfl,rfl,b5,G,O,J⟩:=hcut;have XQ:=X1.below J X1.lt;have RR:=R1.below J R1.lt;have e0:=XQ.cell 0 rfl;have f0:=G.cell 0 rfl;have f1:=G.cell 1 rfl;have f2:=G.cell 2 rfl;have f3:=G.cell 3 rfl;have f4:=G.cell 4 rfl;have f5:=G.cell 5 rfl;have f6:=G.cell 6 rfl;have b4:(M.lvl != R-1)=false:=by simp[HE.out]
  have BW:=U.trans (J.mono U.size);clear hF QA bA bD x3 a7;unfold Jb at f0 f1 f2 f3 f4 f5 f6;go_wp2_with (first
   |(refine Nw rfl _ _ rfl (w.1.size+2) rfl M.lvl Z n3 c3 B3 m3 d3 a 0 K r rfl RR rfl ?_;intro wz Rz Tz)
   |fail)
  refine bodyPost_ret (Ak Tryz.results184 rfl (q56 Rz)) rfl ?_;have zz:=J.size;exact⟨Z,n3,c3,B3,m3,d3,rfl,qdv O (Tz.mono λk W=>by have:k=w.1.size+2:=W;show k<f.1.size;omega) z0,BW.trans (Tz.below (λk W=>by have:k=w.1.size+2:=W;omega) BW.size)⟩
end
end
theorem qhu (w:World)(t:TypeId){s:Nat}(y:0<s)(xs:List (List Value))(e:Array Value)(m:e=xs.flatten.toArray)(u:∀x∈xs,x.length=s)(A:xs.length<=1000):Jq (w.alloc (.cells e t)) s (some ⟨w.1.size,0,none⟩) xs.length xs.length xs:=by
 have h:Qr (w.alloc (.cells e t)) w.1.size t s (some ⟨w.1.size,0,none⟩) xs.length xs.length xs:=by
  have f:=qby u;refine⟨⟨f,.inr ⟨w.1.size,xs.length,e,rfl,Nat.le_refl _,heap_alloc_new w _,Nat.le_refl _,by unfold maxLen;omega,?_,?_⟩⟩,u⟩
  ·rw[m];simpa using f
  ·rw[m];show List.take (xs.length*s) xs.flatten=xs.flatten;rw[<-f,List.take_length]
 exact h.Uo y
theorem qq1 {Q:World->Prop}{w:World}{X:Option Addr}{k kc:Nat}{Ns:List Nd}{e:List (List Value)}(h:Jq w 3 X k kc e)(f:e.length=Ns.length)(u:∀(j:Nat) r N,e[j]?=some r->Ns[j]?=some N->∃A n c B m d,r=Va N.lvl A n c B m d/\Jf Q N A n c B m d):Ah Q w X k kc Ns:=⟨e,h,f,u⟩
theorem qhv {Q:World->Prop}(w:World)(t:TypeId){e f:Nd}{m u y A:Option Addr}{I J c1 c2 G H B E:Nat}(h1:Jf Q e m I c1 y G B)(h2:Jf Q f u J c2 A H E) :
  Ah Q (w.alloc (.cells #[.int .i64 e.lvl,.slice m I c1,.slice y G B,.int .i64 f.lvl,.slice u J c2,.slice A H E] t)) (some ⟨w.1.size,0,none⟩) 2 2 [e,f]:=by
 have:=qhu w t (s:=3) (by omega) [Va e.lvl m I c1 y G B,Va f.lvl u J c2 A H E] _ rfl (by simp[Va]) (by simp);refine qq1 this rfl λj r N K F=>?_
 match j with
 |0=>
  obtain rfl:=Option.some.inj K;obtain rfl:=Option.some.inj F;exact⟨_,_,_,_,_,_,rfl,h1⟩
 |1=>
  obtain rfl:=Option.some.inj K;obtain rfl:=Option.some.inj F;exact⟨_,_,_,_,_,_,rfl,h2⟩
 |j+2=>simp at F
theorem qq2 {Q:World->Prop}(w:World)(t:TypeId){e f m:Nd}{y A B E F G:Option Addr}{U W Y c1 c2 c3 M O R H I J:Nat}(h1:Jf Q e y U c1 E M H)(h2:Jf Q f A W c2 F O I)(Z:Jf Q m B Y c3 G R J) :
  Ah Q (w.alloc (.cells #[.int .i64 e.lvl,.slice y U c1,.slice E M H,.int .i64 f.lvl,.slice A W c2,.slice F O I,.int .i64 m.lvl,.slice B Y c3,.slice G R J] t)) (some ⟨w.1.size,0,none⟩) 3 3 [e,f,m]:=by
 have:=qhu w t (s:=3) (by omega) [Va e.lvl y U c1 E M H,Va f.lvl A W c2 F O I,Va m.lvl B Y c3 G R J] _ rfl (by simp[Va]) (by simp);refine qq1 this rfl λj r N K u=>?_
 match j with
 |0=>
  obtain rfl:=Option.some.inj K;obtain rfl:=Option.some.inj u;exact⟨_,_,_,_,_,_,rfl,h1⟩
 |1=>
  obtain rfl:=Option.some.inj K;obtain rfl:=Option.some.inj u;exact⟨_,_,_,_,_,_,rfl,h2⟩
 |2=>
  obtain rfl:=Option.some.inj K;obtain rfl:=Option.some.inj u;exact⟨_,_,_,_,_,_,rfl,Z⟩
 |j+3=>simp at u
def Ve (Q:World->Prop)(w:World)(X:Option Addr)(k kc:Nat)(ss:List Qs):Prop:=
 ∃e,Jq w 7 X k kc e/\e.length=ss.length/\∀(j:Nat) r s,e[j]?=some r->ss[j]?=some s->∃A n c B m d,r=Eb s A n c B m d/\Jf Q s.N A n c B m d
def Y6 (ss:List Qs)(j:Nat):Qs:=ss.getD j q4e
theorem qq3 {ss:List Qs}{j:Nat}(h:j<ss.length):ss[j]?=some (Y6 ss j):=by simp[Y6,List.getD,h]
section
variable {Q Q':World->Prop}{w w':World}{X:Option Addr}{k kc:Nat}{ss:List Qs}
theorem Ve.len (h:Ve Q w X k kc ss):ss.length=k:=by
 obtain⟨e,h1,h2,_⟩:=h;rw[<-h2];exact h1.len
theorem Ve.below (h:Ve Q w X k kc ss)(hb:Below w.1.size w w'):Ve Q w' X k kc ss:=by
 obtain⟨e,h1,h2⟩:=h;exact⟨e,h1.below hb,h2⟩
theorem Ve.mono (h:Ve Q w X k kc ss)(hq:∀w,Q' w->Q w):Ve Q' w X k kc ss:=by
 obtain⟨f,h1,h2,u⟩:=h;refine⟨f,h1,h2,λj r s E F=>?_⟩;obtain⟨A,n,c,B,m,d,e,y⟩:=u j r s E F;exact⟨A,n,c,B,m,d,e,y.mono hq⟩
theorem Ve.take (h:Ve Q w X k kc ss){j:Nat}(hj:j<=k):Ve Q w X j kc (ss.take j):=by
 obtain⟨m,h1,h2,u⟩:=h;refine⟨m.take j,h1.take hj,by rw[List.length_take,List.length_take,h2],λi r s e f=>?_⟩;rw[List.getElem?_take] at e f;split at e
 ·rename_i hi;rw[if_pos hi] at f;exact u i r s e f
 ·cases e
theorem Ve.get (h:Ve Q w X k kc ss){j:Nat}(hj:j<k):∃g o A n c B m d,X=some ⟨g,o,none⟩/\g<w.1.size/\w.rangeAt g (o+j*7) (Eb (Y6 ss j) A n c B m d)/\Jf Q (Y6 ss j).N A n c B m d:=by
 have H:=h.len;obtain⟨f,h1,h2,E⟩:=h;have y:f[j]?=some (f[j]'(by omega)):=List.getElem?_eq_getElem (by omega);obtain⟨A,n,c,B,m,d,e,F⟩:=E j _ _ y (qq3 (by omega));obtain⟨g,o,rfl,G,_,u⟩:=h1.2.2.2 j _ y;rw[e] at u;exact⟨g,o,A,n,c,B,m,d,rfl,G,u,F⟩
theorem Ve.cap (h:Ve Q w X k kc ss):k<=kc/\kc<=maxLen:=by
 obtain⟨e,h1,_⟩:=h;exact⟨h1.cap,h1.max⟩
end
theorem qfp {Q:World->Prop}{w:World}{X:Option Addr}{k kc:Nat}{ss:List Qs}(h:Ve Q w X k kc ss)(F:1<=k)(W:k<=1000) :
  Calls Tryz.prog 109 #[.slice X k kc] w λe w'=>∃A n c B m d,e=.returned (Vf (Y6 ss (k-1)) A n c B m d)/\Jf Q (Y6 ss (k-1)).N A n c B m d/\Below w.1.size w w':=by
 obtain⟨g,o,A,n,c,B,m,d,rfl,R,f,E⟩:=h.get (show k-1<k by omega);obtain⟨⟨N,y,H,hd,I⟩,G⟩:∃s,Y6 ss (k-1)=s:=⟨_,rfl⟩;rw[G] at f E ⊢;obtain⟨q,Y⟩:∃q,k-1=q:=⟨_,rfl⟩;rw[Y] at f;have u:Below w.1.size w (w.alloc Ud):=Qk;have J:=F9 w;have cell:∀(j:Nat) v,(Eb ⟨N,y,H,hd,I⟩ A n c B m d)[j]?=some v->(w.alloc Ud).cell? ⟨g,o+q*7+j,none⟩=some v:=λj v Z=>(u.cell (p:=⟨g,_,none⟩) R).trans (f j v Z)
 have O:=cell 0 _ rfl;have f1:=cell 1 _ rfl;have f2:=cell 2 _ rfl;have f3:=cell 3 _ rfl;have f4:=cell 4 _ rfl;have f5:=cell 5 _ rfl;have f6:=cell 6 _ rfl;rw[Nat.add_zero] at O;have hw:IntKind.i64.wrap ((k:Int)-1)=(q:Int):=by
  have:(k:Int)-1=(q:Int):=by omega
  rw[this];exact IntWalk.i64_in _ (by omega)
 have hj:(0:Int)<=(q:Int):=by omega
 have U:(q:Int)<(k:Int):=by omega
 clear cell f G h;go_enter Tryz.func109,Tryz.ntmps109
 go_wp2_with (first
  |(refine Nw rfl _ _ rfl w.1.size rfl N.lvl A n c B m d y (H:Int) hd I rfl J rfl ?_;intro wz K M)
  |fail)
 refine bodyPost_ret (Ny Tryz.results109 rfl (q56 K)) rfl ?_;exact⟨A,n,c,B,m,d,rfl,E,u.trans (M.below (λk F=>by have:k=w.1.size:=F;omega) u.size)⟩
theorem qah {Q:World->Prop}{N:Nd}{A B:Option Addr}{n c m d:Nat}(h:Jf Q N A n c B m d)(e:N.fit){j:Nat}(y:j<=N.size):j<=if N.lvl=0 then n else m:=by
 have E:=h.size;have f:=h.ln;have u:=h.lm;by_cases h0:N.lvl=0
 ·rw[if_pos h0];have:=e.1 h0;rw[this] at u;simp at u;omega
 ·rw[if_neg h0];have:=e.2 h0;rw[this] at f;simp at f;omega
theorem q7j {N:Nd}(h:N.fit)(i j:Nat):(N.cut i j).fit:=by
 unfold Nd.cut;by_cases h0:N.lvl=0
 ·rw[if_pos h0];exact⟨λ_=>h.1 h0,λhn=>absurd h0 hn⟩
 ·rw[if_neg h0];exact⟨λe=>absurd e h0,λ_=>h.2 h0⟩
theorem qu8 {s:Qs}(h:s.N.fit)(i j:Nat):(Zl s i j).fit:=by
 unfold Zl Zw;constructor
 ·intro h0;have h0:s.N.lvl=0:=h0;have e:=λa b=>(q7j h a b).1 (by unfold Nd.cut;rw[if_pos h0];exact h0)
  simp[e]
 ·intro h0;have h0:¬s.N.lvl=0:=h0;have e:=λa b=>(q7j h a b).2 (by unfold Nd.cut;rw[if_neg h0];exact h0)
  simp[e]
theorem q25 (N:Nd)(i j:Nat):(N.cut i j).items.length<=N.items.length/\(N.cut i j).kids.length<=N.kids.length:=by
 unfold Nd.cut;split
 ·refine⟨?_,Nat.le_refl _⟩;show ((N.items.drop i).take (j-i)).length<=_;rw[List.length_take,List.length_drop];omega
 ·refine⟨Nat.le_refl _,?_⟩;show ((N.kids.drop i).take (j-i)).length<=_;rw[List.length_take,List.length_drop];omega
section
variable {b:Nat}{w w':World}{d p:Nat}{S0 S T:Nat->Prop}{D:DM}{P P':Pl}
theorem q8e (H:Qg b w d p S0 S T D P)(hb:1<b)(ht:Tab w)(s:Qs)(G:s.N.fit)(A:Option Addr)(n c:Nat)(B:Option Addr)(m J:Nat)(W:Jf (Turn S w) s.N A n c B m J)(i j:Nat)(hi:i<=j)(hj:j<=s.N.size)(a8:s.N.size<=20)(Y:P.Q8 s i j=some P') :
  Calls Tryz.prog 185 #[tv p,Vf s A n c B m J,.int .i64 (i:Int),.int .i64 (j:Int)] w λe w'=>e=.returned (.int .i64 0)/\Qg b w' d p S0 S T D P'/\Turn S w w'/\Tab w':=by
 have hS:=H.low;have hn:=W.hn;have hm:=W.hm;have E:=W.size;have U:=qah W G hj;have a7:=qu8 G i j;obtain⟨N,ad,nx,hd,sh⟩:=s;dsimp only at G W hj a8 hn hm E U;have T1:RB ((w.alloc (.cells #[.pointer (some ⟨p,0,none⟩)] 173)).alloc (.cells (Jb N.lvl A n c B m J ad (nx:Int) hd sh).toArray 180)) w.1.size [.pointer (some ⟨p,0,none⟩)]:=(RB.new w [.pointer (some ⟨p,0,none⟩)] 173).below (Qk) (by simp);have y:RB ((w.alloc (.cells #[.pointer (some ⟨p,0,none⟩)] 173)).alloc (.cells (Jb N.lvl A n c B m J ad (nx:Int) hd sh).toArray 180)) (w.1.size+1) (Jb N.lvl A n c B m J ad (nx:Int) hd sh):=by
  have:=RB.new (w.alloc (.cells #[.pointer (some ⟨p,0,none⟩)] 173)) (Jb N.lvl A n c B m J ad (nx:Int) hd sh) 180;rwa [World.size_alloc] at this
 have I:Below w.1.size w ((w.alloc (.cells #[.pointer (some ⟨p,0,none⟩)] 173)).alloc (.cells (Jb N.lvl A n c B m J ad (nx:Int) hd sh).toArray 180)):=(Qk).alloc (by simp) _;unfold Pl.Q8 at Y;dsimp only at Y;unfold tv Vf;dsimp only;unfold Jb at T1 y I
 cases sh with
 |true=>
  rw[if_pos rfl] at Y;have HP:=Lib.hid Y;clear Y;obtain⟨A1,n1,c1,B1,m1,d1,e1,q1,l1⟩:=q7i W (i:=0) (j:=i) (Nat.zero_le _) (by omega);obtain⟨A2,n2,c2,B2,m2,d2,e2,q2,l2⟩:=q7i W (i:=j) (j:=N.size) (by omega) (qah W G (Nat.le_refl _));have f:=λu=>q3d N.lvl A n c B m J 0 i (Nat.zero_le _) (by omega) ⟨hn.2.1,hn.2.2⟩ ⟨hm.2.1,hm.2.2⟩ u
  have Z:=λu=>q3d N.lvl A n c B m J j N.size (by omega) (qah W G (Nat.le_refl _)) ⟨hn.2.1,hn.2.2⟩ ⟨hm.2.1,hm.2.2⟩ u
  have HS:=λu=>q1u N.lvl A n c B m J (by omega) (by omega) u
  rw[e1] at f;rw[show ((0:Nat):Int)=0 from rfl] at f;rw[e2] at Z;rw[<-E] at HS;unfold Xw at f Z HS;have f:=Lib.hid f;have Z:=Lib.hid Z;have HS:=Lib.hid HS;have b2:n+m<=20:=by omega
  clear e1 e2 U E;go_enter Tryz.func185,Tryz.ntmps185
  have x6:=y.cell 6 rfl;go_wp2_with fail
  generalize ((w.alloc (.cells #[.pointer (some ⟨p,0,none⟩)] 173)).alloc (.cells #[.int .i64 N.lvl,.slice A n c,.slice B m J,.int .i64 ad,.int .i64 (nx:Int),.bool hd,.bool true] 180))=O at T1 y I ⊢;have z1:=y.lt;have z0:=I.size;have hF:∀u,Below O.1.size O u->u.cell? ⟨w.1.size,0,none⟩=some (.pointer (some ⟨p,0,none⟩))/\u.cell? ⟨w.1.size+1,0,none⟩=some (.int .i64 N.lvl)/\u.cell? ⟨w.1.size+1,1,none⟩=some (.slice A n c)/\u.cell? ⟨w.1.size+1,2,none⟩=some (.slice B m J):=λu K=>
   ⟨(T1.below K T1.lt).cell 0 rfl,(y.below K y.lt).cell 0 rfl,(y.below K y.lt).cell 1 rfl,(y.below K y.lt).cell 2 rfl⟩
  have hT:∀u,Below O.1.size O u->∀v,Turn S u v->v.cell? ⟨w.1.size,0,none⟩=some (.pointer (some ⟨p,0,none⟩))/\v.cell? ⟨w.1.size+1,0,none⟩=some (.int .i64 N.lvl)/\v.cell? ⟨w.1.size+1,1,none⟩=some (.slice A n c)/\v.cell? ⟨w.1.size+1,2,none⟩=some (.slice B m J):=λu K v hv=>
   have t1:=(T1.below K T1.lt).turned hv (λh=>by have:=hS _ h;omega);have x1:=(y.below K y.lt).turned hv (λh=>by have:=hS _ h;omega);⟨t1.cell 0 rfl,x1.cell 0 rfl,x1.cell 1 rfl,x1.cell 2 rfl⟩
  have F:Below O.1.size O O.drew:=(Below.refl _ _).drew;have b3:Zl ⟨N,ad,nx,hd,true⟩ i j=Zw N.lvl [N.cut 0 i,N.cut j N.size]:=rfl;have Hj:=(λ(u:World) (K:Below O.1.size O u) (X:Option Addr) (R:Ah (Turn S w) u X 2 2 [N.cut 0 i,N.cut j N.size])=>q3w (S:=S) (w:=u) (λk hk=>by have:=hS k hk;have:=K.size;omega) [N.cut 0 i,N.cut j N.size] N.lvl l1 X 2 2 (by
    obtain⟨b0,r1,r2,r3⟩:=R;exact⟨b0,r1,r2,λj r M hr hM=>by
     obtain⟨A',n',c',B',m',d',e',hq⟩:=r3 j r M hr hM;exact⟨A',n',c',B',m',d',e',hq.mono λv hv=>(Qx (S:=S) (I.trans (K.mono I.size))).trans hv λk hk=>.inl hk⟩⟩) (by omega) (by omega)
    (by have h1:=q25 N 0 i;have h2:=q25 N j N.size;have h3:=W.ln;simp only[List.flatMap_cons,List.flatMap_nil,List.length_append,List.length_nil];omega)
    (by have h1:=q25 N 0 i;have h2:=q25 N j N.size;have h3:=W.lm;simp only[List.flatMap_cons,List.flatMap_nil,List.length_append,List.length_nil];omega))
  unfold Xw at Hj;replace Hj:=Lib.hid Hj;have Hr:∀(u:World) (_:Below O.1.size O u) (A':Option Addr) (n' c':Nat) (B':Option Addr) (m' d':Nat) (_:Jf (Turn S u) (Zw N.lvl [N.cut 0 i,N.cut j N.size]) A' n' c' B' m' d'),Calls Tryz.prog 229 #[.agg #[.pointer (some ⟨p,0,none⟩)],.agg #[.int .i64 N.lvl,.slice A' n' c',.slice B' m' d']] u λe w'=>e=.returned (.int .i64 0)/\Qg b w' d p S0 S T D P'/\Turn S u w'/\Tab w':=
   (λu K A' n' c' B' m' d' hq=>qq0 (H.below (I.trans (K.mono I.size))) hb (ht.below (I.trans (K.mono I.size)) ht.1) (Zl ⟨N,ad,nx,hd,true⟩ i j) a7 A' n' c' B' m' d' hq HP.out)
  replace Hr:=Lib.hid Hr;clear x6;have R:=Lib.hid (λu=>qhv (Q:=Turn S w) u 178 q1 q2);rw[l1,l2] at R;go_region_held3 (λw'=>w'.cell? ⟨w.1.size,0,none⟩=some (.pointer (some ⟨p,0,none⟩))/\w'.cell? ⟨w.1.size+1,0,none⟩=some (.int .i64 N.lvl)/\w'.cell? ⟨w.1.size+1,1,none⟩=some (.slice A n c)/\w'.cell? ⟨w.1.size+1,2,none⟩=some (.slice B m J))
   (first|(with_reducible assumption)|(with_reducible exact hF _ F)|(with_reducible exact hF _ (F.alloc F.size _))|(with_reducible exact a2.out))
   (first
    |(go_at_call 187;(with_reducible refine (f.out _).mono ?_);rintro e wX ⟨rfl,R⟩;replace F:=F.trans (R.mono F.size);clear R)
    |(go_at_call 187;(with_reducible refine (Z.out _).mono ?_);rintro e wX ⟨rfl,R⟩;replace F:=F.trans (R.mono F.size);clear R)
    |(go_at_call 188;(with_reducible refine (HS.out _).mono ?_);rintro e wX ⟨rfl,R⟩;replace F:=F.trans (R.mono F.size);clear R)
    |(go_at_call 186;refine (Hj.out _ (F.alloc F.size _) _ (R.out _)).mono ?_;rintro e wX ⟨A3,n3,c3,B3,m3,d3,rfl,a6,a1⟩;replace F:=(F.alloc F.size _).trans (a1.mono (F.alloc F.size _).size);clear a1)
    |(go_at_call 229;refine (Hr.out _ F _ _ _ _ _ _ a6).mono ?_;rintro e w5 ⟨rfl,H5,X5,t5⟩;have XX:Turn S w w5:=(Qx (S:=S) (I.trans (F.mono I.size))).trans X5 λk hk=>.inl hk;have a2:=Lib.hid (hT _ F _ X5);replace H5:=Lib.hid H5)
    |fail)
  all_goals (go_wp2_with fail;go_ret;exact⟨rfl,H5.out,XX,t5⟩)
 |false=>
  rw[if_neg Bool.false_ne_true] at Y;by_cases hl:0<N.lvl
  ·rw[if_pos hl] at Y;obtain rfl:=Option.some.inj Y;clear Y;have H1:=H.below I;have t1:=ht.below I ht.1;have x6:=y.cell 6 rfl;have x0:=y.cell 0 rfl;clear U E;go_enter Tryz.func185,Tryz.ntmps185
   go_wp2;go_ret;exact⟨rfl,H1,Qx I,t1⟩
  ·rw[if_neg hl] at Y;have HP:=Lib.hid Y;clear Y;obtain⟨A1,n1,c1,B1,m1,d1,e1,q1,l1⟩:=q7i W hi U;have f:=λu=>q3d N.lvl A n c B m J i j hi U ⟨hn.2.1,hn.2.2⟩ ⟨hm.2.1,hm.2.2⟩ u
   rw[e1] at f;unfold Xw at f;replace f:=Lib.hid f;have Hr:∀(u:World) (_:Below w.1.size w u),Calls Tryz.prog 230 #[.agg #[.pointer (some ⟨p,0,none⟩)],.agg #[.int .i64 N.lvl,.slice A1 n1 c1,.slice B1 m1 d1]] u λe w'=>e=.returned (.int .i64 0)/\Qg b w' d p S0 S T D P'/\Turn S u w'/\Tab w':=λu K=>by
    have:=qhs (H.below K) hb (ht.below K ht.1) (N.cut i j) (q7j G i j) A1 n1 c1 B1 m1 d1 (q1.mono λv hv=>(Qx (S:=S) K).trans hv λk hk=>.inl hk) HP.out;rw[l1] at this;exact this
   replace Hr:=Lib.hid Hr;have x6:=y.cell 6 rfl;have x0:=y.cell 0 rfl;clear e1 U E;go_enter Tryz.func185,Tryz.ntmps185
   go_wp2_with fail
   generalize ((w.alloc (.cells #[.pointer (some ⟨p,0,none⟩)] 173)).alloc (.cells #[.int .i64 N.lvl,.slice A n c,.slice B m J,.int .i64 ad,.int .i64 (nx:Int),.bool hd,.bool false] 180))=O at T1 y I x6 x0 ⊢;have g0:∀u:Grown O,u.to.cell? ⟨w.1.size,0,none⟩=some (.pointer (some ⟨p,0,none⟩)):=Grown.cell (T1.cell 0 rfl) T1.lt;have g1:∀u:Grown O,u.to.cell? ⟨w.1.size+1,0,none⟩=some (.int .i64 N.lvl):=Grown.cell (y.cell 0 rfl) y.lt;have g2:∀u:Grown O,u.to.cell? ⟨w.1.size+1,1,none⟩=some (.slice A n c):=Grown.cell (y.cell 1 rfl) y.lt;have g3:∀u:Grown O,u.to.cell? ⟨w.1.size+1,2,none⟩=some (.slice B m J):=Grown.cell (y.cell 2 rfl) y.lt;refine q1j 6 (by kernel_rfl) (by kernel_rfl) ?_;simp only[List.take_succ_cons,List.take_zero,List.drop_succ_cons,List.drop_zero];repeat (go_big_quiet_step (first|(go_at_call 187;exact Calls.grown (f.out _))|fail))
   refine wpQuiet_nil ?_;rintro _ ⟨u,rfl⟩;have BB:=I.trans (u.ok.mono I.size);go_wp2_with fail
   refine (Hr.out _ BB).mono ?_;rintro e w5 ⟨rfl,H5,X5,t5⟩;go_wp2;go_ret;exact⟨rfl,H5,(Qx (S:=S) BB).trans X5 λk hk=>.inl hk,t5⟩
end
section
attribute [local go_sem ↓] qdt
section
variable {b:Nat}{w w':World}{d p:Nat}{S0 S T:Nat->Prop}{D:DM}{P P':Pl}
theorem qfq (H:Qg b w d p S0 S T D P)(hb:1<b)(ht:Tab w)(b4:∀a b,P.L a=some b->b.kindOk)(s:Qs)(A:Option Addr)(n c:Nat)(B:Option Addr)(m I:Nat)(hB:P5 (Turn S w) B m I s.N.kids)(hl:1<=s.N.lvl/\s.N.lvl<8)(i:Nat)(f:P.Wi D s i=true)(G:(P.Je D s i).N.may=true)(hP:P.Q8 (P.Je D s i) 0 0=some P') :
  Calls Tryz.prog 234 #[tv p,Vf s A n c B m I,.int .i64 (i:Int)] w λe w'=>∃A n c B m I,e=.returned (.tuple #[Vf (P.Je D s i) A n c B m I,.int .i64 0])/\Jf (Turn (λk=>k<w.1.size) w') (P.Je D s i).N A n c B m I/\Qg b w' d p S0 S T D P'/\Turn S w w'/\Tab w':=by
 have hS:=H.low;have Hk:=λ(u:World) (hu:Below w.1.size w u)=>qjv (H.below hu) (ht.below hu ht.1) b4 s A n c B m I (λv hv=>hB v ((Qx (S:=S) hu).trans hv λk f=>.inl f)) hl i f
 obtain⟨o,ho⟩:∃o,P.Je D s i=o:=⟨_,rfl⟩;rw[ho] at Hk G hP ⊢;clear f ho hl hB;obtain⟨N,O,R,hd,U⟩:=s;obtain⟨M,oa,ox,oh,os⟩:=o;dsimp only at G;have J:=Me G;have b6:M.size<=12:=by
  unfold Nd.size;by_cases h0:M.lvl=0
  ·obtain⟨e1,_,_,h6⟩:=q19 G h0;have h7:=J.1 h0;rw[h7];simp;omega
  ·have h6:=(Pe G h0).2.2.2.2.1;have h7:=J.2 h0;rw[h7];simp;omega
 unfold tv Vf at Hk;dsimp only at Hk;have T1:RB (((w.alloc (.cells #[.pointer (some ⟨p,0,none⟩)] 173)).alloc (.cells (Jb N.lvl A n c B m I O (R:Int) hd U).toArray 180)).alloc Ud) w.1.size [.pointer (some ⟨p,0,none⟩)]:=(RB.new w [.pointer (some ⟨p,0,none⟩)] 173).below ((Qk).alloc (by simp) _) (by simp);have X1:RB (((w.alloc (.cells #[.pointer (some ⟨p,0,none⟩)] 173)).alloc (.cells (Jb N.lvl A n c B m I O (R:Int) hd U).toArray 180)).alloc Ud) (w.1.size+1) (Jb N.lvl A n c B m I O (R:Int) hd U):=by
  have:=RB.new (w.alloc (.cells #[.pointer (some ⟨p,0,none⟩)] 173)) (Jb N.lvl A n c B m I O (R:Int) hd U) 180;rw[World.size_alloc] at this;exact this.below (Qk) (by simp)
 have R1:RB (((w.alloc (.cells #[.pointer (some ⟨p,0,none⟩)] 173)).alloc (.cells (Jb N.lvl A n c B m I O (R:Int) hd U).toArray 180)).alloc Ud) (w.1.size+2) (Jb 0 none 0 0 none 0 0 0 0 false false):=by
  have:=F9 ((w.alloc (.cells #[.pointer (some ⟨p,0,none⟩)] 173)).alloc (.cells (Jb N.lvl A n c B m I O (R:Int) hd U).toArray 180));rwa [World.size_alloc,World.size_alloc] at this
 have b1:Below w.1.size w (((w.alloc (.cells #[.pointer (some ⟨p,0,none⟩)] 173)).alloc (.cells (Jb N.lvl A n c B m I O (R:Int) hd U).toArray 180)).alloc Ud):=((Qk).alloc (by simp) _).alloc (by simp;omega) _;replace Hk:=Lib.hid Hk;have HP:=Lib.hid hP;clear hP;have y0:=T1.cell 0 rfl;have y:∀(j:Nat) v,(Jb N.lvl A n c B m I O (R:Int) hd U)[j]?=some v->(((w.alloc (.cells #[.pointer (some ⟨p,0,none⟩)] 173)).alloc (.cells (Jb N.lvl A n c B m I O (R:Int) hd U).toArray 180)).alloc Ud).cell? ⟨w.1.size+1,j,none⟩=some v:=λj v hv=>X1.cell j hv
 have x0:=y 0 _ rfl;have x1:=y 1 _ rfl;have x2:=y 2 _ rfl;have x3:=y 3 _ rfl;have x4:=y 4 _ rfl;have x5:=y 5 _ rfl;have x6:=y 6 _ rfl;clear y;unfold tv Vf;dsimp only;unfold Jb at T1 X1 R1 b1 y0 x0 x1 x2 x3 x4 x5 x6;go_enter Tryz.func234,Tryz.ntmps234
 go_wp2_with fail
 generalize (((w.alloc (.cells #[.pointer (some ⟨p,0,none⟩)] 173)).alloc (.cells #[.int .i64 N.lvl,.slice A n c,.slice B m I,.int .i64 O,.int .i64 (R:Int),.bool hd,.bool U] 180)).alloc Ud)=K at T1 X1 R1 b1 y0 x0 x1 x2 x3 x4 x5 x6 ⊢;refine (Hk.out K b1).mono ?_;rintro e E ⟨Y,n3,c3,Z,m3,d3,rfl,a6,b2⟩;have z1:=R1.lt;have z0:=b1.size;have z2:=b2.size;have T2:=T1.below b2 T1.lt;have R2:=R1.below b2 R1.lt;clear y0 x0 x1 x2 x3 x4 x5 x6;go_wp2_with (first
  |(refine Nw rfl (.tmp 8) _ rfl E.1.size rfl M.lvl Y n3 c3 Z m3 d3 oa (ox:Int) oh os rfl (F9 E) rfl ?_;intro W Q3 TQ)
  |fail)
 have bz:Below E.1.size E (E.alloc Ud):=Qk;have b3:Below E.1.size E W:=bz.trans (TQ.below (λk f=>by have:k=E.1.size:=f;omega) bz.size);have T3:=T2.below b3 T2.lt;have R3:=R2.below b3 R2.lt;have BB:=b1.trans ((b2.trans (b3.mono b2.size)).mono b1.size);clear T1 X1 R1 T2 R2 TQ bz;have z3:=b3.size;have zQ:=Q3.lt;have F:=λ(u:World) (hu:Qg b u d p S0 S (grow T w K) D P) (b5:Tab u) (hx:Turn (λk=>k<K.1.size) E u)=>q8e hu hb b5 ⟨M,oa,ox,oh,os⟩ J Y n3 c3 Z m3 d3 (a6.mono λv hv=>hx.trans hv λk f=>.inl (by have:=hS k f;show k<K.1.size;omega)) 0 0 (Nat.le_refl _) (Nat.zero_le _) (by show M.size<=20;omega) HP.out
 unfold tv Vf at F;dsimp only at F;rw[show ((0:Nat):Int)=0 from rfl] at F;replace F:=Lib.hid F;have bD:Below W.1.size W W.drew:=(Below.refl _ _).drew;have HD:Qg b W.drew d p S0 S (grow T w K) D P:=(H.more b1).below ((b2.trans (b3.mono b2.size)).trans (bD.mono (by omega)));have tD:Tab W.drew:=ht.below (BB.trans (bD.mono BB.size)) ht.1;have cells:∀u,Turn (λk=>S k\/k=w.1.size+2) W u->u.cell? ⟨w.1.size,0,none⟩=some (.pointer (some ⟨p,0,none⟩))/\u.cell? ⟨E.1.size,0,none⟩=some (.int .i64 M.lvl)/\u.cell? ⟨E.1.size,1,none⟩=some (.slice Y n3 c3)/\u.cell? ⟨E.1.size,2,none⟩=some (.slice Z m3 d3)/\u.cell? ⟨E.1.size,3,none⟩=some (.int .i64 oa)/\u.cell? ⟨E.1.size,4,none⟩=some (.int .i64 (ox:Int))/\u.cell? ⟨E.1.size,5,none⟩=some (.bool oh)/\u.cell? ⟨E.1.size,6,none⟩=some (.bool os):=λu hu=>
  have t1:=T3.turned hu (λh=>h.elim (λh=>by have:=hS _ h;omega) λh=>by omega);have q1:=Q3.turned hu (λh=>h.elim (λh=>by have:=hS _ h;omega) λh=>by omega);⟨t1.cell 0 rfl,q1.cell 0 rfl,q1.cell 1 rfl,q1.cell 2 rfl,q1.cell 3 rfl,q1.cell 4 rfl,q1.cell 5 rfl,q1.cell 6 rfl⟩
 have c1:=cells W.drew (Qx bD);go_region_held3 (λu=>u.cell? ⟨w.1.size,0,none⟩=some (.pointer (some ⟨p,0,none⟩))/\u.cell? ⟨E.1.size,0,none⟩=some (.int .i64 M.lvl)/\u.cell? ⟨E.1.size,1,none⟩=some (.slice Y n3 c3)/\u.cell? ⟨E.1.size,2,none⟩=some (.slice Z m3 d3)/\u.cell? ⟨E.1.size,3,none⟩=some (.int .i64 oa)/\u.cell? ⟨E.1.size,4,none⟩=some (.int .i64 (ox:Int))/\u.cell? ⟨E.1.size,5,none⟩=some (.bool oh)/\u.cell? ⟨E.1.size,6,none⟩=some (.bool os))
  (first|(with_reducible assumption)|(with_reducible exact a8.out)|(with_reducible exact b0.out))
  (first
   |(go_at_call 185;(with_reducible refine (F.out W.drew HD tD ((Qx (S:=λk=>k<K.1.size) b3).trans (Qx (S:=λk=>k<K.1.size) bD) λk f=>.inl f)).mono ?_);rintro e w5 ⟨rfl,H5,X5,t5⟩;have XX:Turn S W w5:=(Qx (S:=S) bD).trans X5 λk f=>.inl f;have a8:=Lib.hid (cells w5 (XX.mono λk f=>.inl f));have T6:Turn (λk=>k=w.1.size+2) w5 (w5.setCells (w.1.size+2) 0 (Jb M.lvl Y n3 c3 Z m3 d3 oa (ox:Int) oh os)):=Vb (S:=λk=>k=w.1.size+2) rfl _ 0 w5;have b0:=Lib.hid (cells _ ((XX.mono (S':=λk=>S k\/k=w.1.size+2) λk f=>.inl f).trans T6 λk f=>.inl (.inr f)));replace H5:=Lib.hid H5;have R5:=R3.turned XX (λh=>by have:=hS _ h;omega);have b7:=qht R5 rfl M.lvl Y n3 c3 Z m3 d3 oa (ox:Int) oh os;have R6:=Lib.hid (R5.stored (Jb M.lvl Y n3 c3 Z m3 d3 oa (ox:Int) oh os) rfl))
   |fail)
 go_wp2_with fail
 have b8:=X5.size;refine bodyPost_ret (Ak Tryz.results234 rfl (q56 R6.out)) rfl ?_;have a7:∀k,S k->k<K.1.size:=λk f=>by have:=hS k f;omega
 have zX:=XX.size;refine⟨Y,n3,c3,Z,m3,d3,rfl,qdv a6 (((Qx (S:=λk=>k<K.1.size) b3).trans XX λk f=>.inl (a7 k f)).trans T6 λk f=>.inl (by have:k=w.1.size+2:=f;show k<K.1.size;omega)) z0,?_,?_,?_⟩
 ·have a1:=H.sub;have a2:=H.Aw;have h2:grow T w K (w.1.size+2):=⟨.inr (by omega),by omega⟩;have Ho:=H5.out.own T6 (λk f=>by have:k=w.1.size+2:=f;rw[this];exact h2) (λk f h=>by have:k=w.1.size+2:=f;have:=(H.tight k (a1 k h)).2;omega) (λk f h=>by have:k=w.1.size+2:=f;have:=hS k h;omega);exact Ho.less (λk f=>⟨.inl f,by have:=(H.tight k f).2;omega⟩) a1 a2
 ·exact ((Qx (S:=S) BB).trans XX λk f=>.inl f).trans T6 λk f=>.inr (by have:k=w.1.size+2:=f;omega)
 ·exact t5.turned T6 (λh=>by have h:1=w.1.size+2:=h;have:=ht.1;omega)
end
end
