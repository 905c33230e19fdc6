/- Inode's PutExtent and TakeExtent -/
import Derived.Test.YtnjacafcocnicaaGreatDoorDv4
import Derived.Test.YtnjacafcocnicaaGreatDoorDv6
namespace Go.Proofs.YtnjacafcocnicaaGreatDoor
open Go Go.RowKit Go.Proofs Tryz
set_option maxHeartbeats 4000000
set_option maxRecDepth 10000
theorem btr {a b c:WD}(h:Below a.1.size a b)(k:Below b.1.size b c):Below a.1.size a c:=h.trans (k.mono h.size)
theorem qfl (l:LU)(n:Nat)(h:l.length=n):Qx (Qq l:Int) n=l:=by
 subst h;refine qgr (J8 _ _) ?_;rw[qaa];exact Nat.mod_eq_of_lt (q3m l)
theorem qxq (l:LU)(f:Ue l=true)(p:(Zu l 1).length=5):(J9 l).bytes=l:=by
 obtain⟨q,u⟩:=(q2y l).1 f;have e:(bodyT l 1).length=Qq (l.take 1):=by unfold bodyT;rw[AR,AS];omega
 unfold J9 Qm.bytes;dsimp only;have m:((⟨(bodyT l 1).toArray⟩:ByteArray).size:Int)=(Qq (l.take 1):Int):=by rw[<-e];rfl
 rw[m,qfl _ 1 (by simp;omega),qfl _ 4 (by simp;omega),qfl _ 1 (by simp;omega),AN (l:=(Zu l 1).drop 4) (by simp;omega),AV];show l.take 1++bodyT l 1++Zu l 1=l;unfold bodyT Zu;rw[<-List.drop_drop,AM,AV,AV]
theorem qbr (l:LU)(h:Xa l=true):(J9 l).may=true/\(J9 l).bytes=l:=by
 obtain⟨h1,h2⟩:=Bool.and_eq_true_iff.1 h;obtain⟨e,f⟩:=Bool.and_eq_true_iff.1 h2;obtain⟨m,p⟩:=Bool.and_eq_true_iff.1 f;exact⟨by unfold Qm.may;rw[e,p];rfl,qxq l h1 (AK m)⟩
def Lm (e:Qm):Int:=if e.may=true then 0 else 1
def Ll (e:Qm):LU:=if e.may=true then e.bytes else []
theorem qn1 {i:Qm}(h:i.may=false):Lm i=1/\Ll i=[]:=by unfold Lm Ll;rw[h];exact⟨rfl,rfl⟩
theorem qif {i:Qm}(h:i.may=true):Lm i=0/\Ll i=i.bytes:=by unfold Lm Ll;rw[AA h,AA h];exact⟨rfl,rfl⟩
theorem qig (A:OA)(k c:Nat)(l:LU)(x n:Int)(w:WD)(h:Sl w A k c l)(B:k<=17592186044416)(h1:1<=n)(h2:n<=8) :
  Calls prog 64 #[.slice A k c,.int .i64 x,.int .i64 n] w λe q=>∃m f p,e=.returned (.slice m f p)/\Own q w.1.size 5 m f p (l++Qx x n.toNat)/\f<=k+8/\Below w.1.size w q:=by
 have h:=qd1 A k c l x n w h B;rw[show Uw l x n=l++Qx x n.toNat from AA ⟨h1,h2⟩] at h;refine h.mono ?_;rintro e q ⟨m,f,p,rfl,own,y⟩;refine⟨m,f,p,rfl,own,?_,y⟩;have u:=own.len;rw[AD,J8,(show l.length=k from (by assumption:Sl w A k c l).len)] at u;omega
def rtN (l:LU)(n:Nat):Int:=if n<=l.length then Qq (l.take n) else 0
def rtR (l:LU)(n:Nat):LU:=if n<=l.length then l.drop n else []
theorem qz3 (A:OA)(k c:Nat)(l:LU)(n:Int)(w:WD)(h:Sl w A k c l)(E:k<=1000000)(h1:1<=n)(D:n<=7) :
  Calls prog 37 #[.slice A k c,.int .i64 n] w λe m=>∃p f q x,e=.returned (.tuple #[.int .i64 (rtN l n.toNat),.slice p f q,.int .i64 x])/\Sl m p f q (rtR l n.toNat)/\f<=1000000/\Below w.1.size w m:=by
 have F:=h.len;by_cases B:(k:Int)<n
 ·unfold rtN rtR;rw[AB (by omega),AB (by omega)];refine (q7d A k c n w (by omega) (by omega) B).mono ?_;rintro e m ⟨rfl,rfl⟩;exact⟨_,_,_,_,rfl,Il w,by omega,AI _ _⟩
 ·unfold rtN rtR;rw[AA (by omega),AA (by omega)];refine (q6k A k c l n w h (by omega) (by omega) (by omega) (by omega)).mono ?_;rintro e m ⟨p,f,q,rfl,u,y⟩;have:=u.len;rw[AS] at this;exact⟨_,_,_,_,rfl,u.sl,by omega,y⟩
theorem Qbh {w:WD}{A:OA}{n c:Nat}{l:LU}(h:Sl w A n c l):(convert 48 9 (.slice A n c)).run prog w=.ok (.string ⟨l.toArray⟩) w:=
 q68 48 9 5 Cb underlying5 underlying9 h
theorem qpd (A B:OA)(k c n d:Nat)(l y:LU)(m x:Int)(w:WD)(h:Sl w A k c l)(K:Sl w B n d y)(O:k<=17592186044416)(hn:n<=17592186044416)(T:(n:Int)<=x)(h1:1<=m)(M:m<=8) :
  Calls prog 121 #[.slice A k c,.slice B n d,.int .i64 m,.int .i64 x] w λe H=>∃D F E,e=.returned (.tuple #[.slice D F E,.int .i64 0])/\Own H w.1.size 5 D F E (l++(Qx n m.toNat++y))/\Below w.1.size w H:=by
 have J:=HI h.len;go_enter func121,ntmps121
 go_wp2_with fail
 refine (qd1 A k c l n m w h O).mono ?_;rintro e U ⟨I,G,c1,rfl,f,p⟩;rw[show Uw l n m=l++Qx n m.toNat from AA ⟨h1,M⟩] at f;have P:G<=17592186044424:=by have h2:=f.len;rw[AD,J8,J.out] at h2;omega
 have Q:=K.below p;go_wp2_with (at_builtin;refine q1r _ Cb rfl _ _ rfl w.1.size I G c1 _ rfl f B n d y rfl Q (by omega) p.size ?_)
 intro R c2 V q u;go_wp2;go_ret2;exact⟨_,_,_,rfl,q,p.trans u⟩
theorem qbs (A:OA)(k c:Nat)(l:LU)(s:ByteArray)(w:WD)(h:Sl w A k c l)(D:k<=17592186044416)(G:s.size<=255) :
  Calls prog 63 #[.slice A k c,.string s] w λe B=>∃q y u,e=.returned (.tuple #[.slice q y u,.int .i64 0])/\Own B w.1.size 5 q y u (l++(Qx s.size 1++s.data.toList))/\Below w.1.size w B:=by
 have p:=qm3 s;have hd:=q42 w 5 s;have E:=q7s w 5 s (by unfold maxLen;omega);go_enter func63,ntmps63
 go_wp2_with (go_at_call 121;refine (qpd A _ k c _ _ l s.data.toList 1 255 _ (h.below hd) E D (by omega) (by omega) (by omega) (by omega)).mono ?_;rintro e I ⟨F,H,c1,rfl,f,m⟩)
 go_ret2;exact⟨_,_,_,rfl,f.less hd.size,hd.trans (m.mono hd.size)⟩
theorem qfm (i:Qm)(w:WD) :
  Calls prog 38 #[.agg #[.string i.name,.int .i64 i.ino,.int .i64 i.kind]] w λe f=>∃A n c,e=.returned (.tuple #[.slice A n c,.int .i64 (Lm i)])/\Sl f A n c (Ll i)/\Below w.1.size w f:=by
 obtain⟨s,x,y⟩:=i;have m:IB (w.alloc (.cells #[.string s,.int .i64 x,.int .i64 y] 32)) w.1.size [.string s,.int .i64 x,.int .i64 y]:=IB.new w _ _;have K:Below w.1.size w (w.alloc (.cells #[.string s,.int .i64 x,.int .i64 y] 32)):=Qi
 cases h:(Qm.mk s x y).may
 ·obtain⟨F,D⟩:=qn1 h;rw[F,D];have hm:¬((1<=s.size/\s.size<=20)/\(1<=x/\x<=2147483647)/\1<=y/\y<=2):=by
   rintro⟨h1,h2,h3⟩;have:(Qm.mk s x y).may=true:=by
    unfold Qm.may q8o Gu;rw[AL h1,AL ⟨h2,h3⟩];rfl
   rw[h] at this
   cases this
  have q0:=m.cell 0 rfl;have q1:=m.cell 1 rfl;have q2:=m.cell 2 rfl;generalize H:s.size=M at hm;have hc:((M:Int)<1\/20<(M:Int))\/(1<=(M:Int)/\(M:Int)<=20)/\((x<1\/2147483647<x)\/(1<=x/\x<=2147483647)/\(y<1\/2<y)):=by omega
  rw[<-H] at hc;clear hm h F D H;dsimp only;go_enter func38,ntmps38
  go_wp2_with fail
  all_goals
   go_ret2;exact⟨_,_,_,rfl,Il _,K⟩
 ·obtain⟨F,D⟩:=qif h;rw[F,D];obtain⟨hn,hr⟩:=Bool.and_eq_true_iff.1 h;obtain⟨m1,m2⟩:1<=s.size/\s.size<=20:=AK hn;obtain⟨⟨m3,m4⟩,m5,m6⟩:(1<=x/\x<=2147483647)/\1<=y/\y<=2:=AK hr;have G:=HI (show ([]++(Qx (s.size:Int) 1++s.data.toList))++Qx x (4:Int).toNat++Qx y (1:Int).toNat=(Qm.mk s x y).bytes by simp[Qm.bytes]);generalize (Qm.mk s x y).bytes=bs at G;dsimp only;have q0:=m.cell 0 rfl;have q1:=m.cell 1 rfl;have q2:=m.cell 2 rfl;clear h F D hn hr;go_enter func38,ntmps38
  go_wp2_with fail
  generalize w.alloc (.cells #[.string s,.int .i64 x,.int .i64 y] 32)=w0 at m K q0 q1 q2 ⊢;refine (qbs none 0 0 [] s w0 (Il _) (by omega) (by omega)).mono ?_;rintro e p ⟨A1,Z,c1,rfl,q,B⟩;have a1:Z<=21:=by
   have:=q.len;have D:s.data.size=s.size:=rfl;simp[J8] at this;omega
  have O:=m.below B m.lt;have b2:=btr K B;clear m K q0 q1 q2 B;go_wp2_with fail
  have z1:=O.lt;have hS:∀f:WD,Below (w.1.size+1) p f->f.cell? ⟨w.1.size,1,none⟩=some (.int .i64 x)/\f.cell? ⟨w.1.size,2,none⟩=some (.int .i64 y)/\Below (w.1.size+1) p f:=
   λf V=>⟨(O.below V (by omega)).cell 1 rfl,(O.below V (by omega)).cell 2 rfl,V⟩
  have Q:(1:Int)<=1:=by omega
  have R:(1:Int)<=4:=by omega
  have T:(1:Int)<=8:=by omega
  have U:(4:Int)<=8:=by omega
  have h0:Z<=17592186044416:=by omega
  have J:w.1.size+1<=p.drew.1.size:=z1;have BD:Below (w.1.size+1) p p.drew:=(AI _ p).drew;go_region_held3 (λf=>f.cell? ⟨w.1.size,1,none⟩=some (.int .i64 x)/\f.cell? ⟨w.1.size,2,none⟩=some (.int .i64 y)/\Below (w.1.size+1) p f)
   (first|assumption|exact hS _ BD|exact hS _ ‹Below (w.1.size+1) p _›)
   (first
    |(go_at_call 64;refine (qig A2 n2 c2 _ y 1 _ I.sl h2 Q T).mono ?_;rintro e w3 ⟨A3,n3,c3,rfl,u,a2,X⟩;have P:Below (w.1.size+1) p w3:=E.trans (X.mono (AZ J E.size)))
    |(go_at_call 64;refine (qig A1 Z c1 _ x 4 _ q.drew.sl h0 R U).mono ?_;rintro e w2 ⟨A2,n2,c2,rfl,I,Y,W⟩;have E:Below (w.1.size+1) p w2:=BD.trans (W.mono J);have h2:n2<=17592186044416:=AZ Y (by omega))
    |fail)
  all_goals
   rw[G.out] at u;go_wp2;go_ret2;exact⟨A3,n3,c3,rfl,u.sl,b2.trans (P.mono (Nat.le_succ w.1.size))⟩
def rtS (l:LU):ByteArray:=if Ue l=true then ⟨(bodyT l 1).toArray⟩ else ⟨#[]⟩
def rtT (l:LU):LU:=if Ue l=true then Zu l 1 else []
def Io (l:LU):Qm:=⟨rtS l,rtN (rtT l) 4,rtN (rtR (rtT l) 4) 1⟩
theorem qB5 (A:OA)(k c:Nat)(l:LU)(w:WD)(h:Sl w A k c l)(E:k<=1000000) :
  Calls prog 36 #[.slice A k c] w λe f=>∃p m q x,e=.returned (.tuple #[.string (rtS l),.slice p m q,.int .i64 x])/\Sl f p m q (rtT l)/\m<=1000000/\Below w.1.size w f:=by
 unfold rtS rtT
 cases B:Ue l
 ·refine (qbj A k c l w h (by omega) (λh=>absurd ((q2y l).2 h) (by rw[B];exact Bool.false_ne_true))).mono ?_;rintro e f ⟨rfl,u⟩;exact⟨_,_,_,_,rfl,Il f,by omega,u⟩
 ·refine (q9o A k c l w h (by omega) ((q2y l).1 B)).mono ?_;rintro e f ⟨p,m,q,rfl,y,_,u⟩;have h1:=y.len;have h2:=qf0 l 1;have D:=h.len;exact⟨_,_,_,_,rfl,y,by omega,u⟩
theorem qtp (l:LU)(e:Ue l=true)(q:(Zu l 1).length=5):Io l=J9 l:=by
 have f:rtT l=Zu l 1:=AA e;have m:rtS l=⟨(bodyT l 1).toArray⟩:=AA e;have p:rtR (Zu l 1) 4=(Zu l 1).drop 4:=AA (by omega);unfold Io;rw[f,m,p];unfold rtN J9;rw[AA (by omega),AA (by simp;omega)]
theorem q9i (l:LU)(h:Xa l=true):Ue l=true/\(Zu l 1).length=5:=by
 obtain⟨h1,h2⟩:=Bool.and_eq_true_iff.1 h;obtain⟨_,e⟩:=Bool.and_eq_true_iff.1 h2;exact⟨h1,AK (Bool.and_eq_true_iff.1 e).1⟩
theorem qxr (l:LU)(h:(Io l).may=false):Xa l=false:=by
 cases e:Xa l
 ·rfl
 ·obtain⟨h1,h2⟩:=q9i l e;rw[qtp l h1 h2,(qbr l e).1] at h
  cases h
theorem qxs (l:LU)(h:(Io l).bytes≠l):Xa l=false:=by
 cases e:Xa l
 ·rfl
 ·obtain⟨h1,h2⟩:=q9i l e;rw[qtp l h1 h2] at h;exact absurd (qbr l e).2 h
theorem qxt (l:LU)(hm:(Io l).may=true)(h:(Io l).bytes=l):Xa l=true/\Io l=J9 l:=by
 obtain⟨h1,h2⟩:=qfr (Io l) hm;rw[h] at h1 h2;exact⟨h2,h1.symm⟩
theorem qcl (B:OA)(m d:Nat)(l:LU)(w:WD)(hs:Sl w B m d l)(hm:m<=1000000) :
  Calls prog 12 #[.slice B m d] w λe w'=>e=.returned (.tuple #[.agg #[.string (Ei l).name,.int .i64 (Ei l).ino,.int .i64 (Ei l).kind],.int .i64 (Fg l)])/\Below w.1.size w w':=by
 have W:IB (w.alloc (.cells Qm.zero.vs.toArray 32)) w.1.size Qm.zero.vs:=IB.new w _ _;have b1:Below w.1.size w (w.alloc (.cells Qm.zero.vs.toArray 32)):=Qi;have K:Io l=⟨rtS l,rtN (rtT l) 4,rtN (rtR (rtT l) 4) 1⟩:=rfl;obtain⟨s,P⟩:∃s,rtS l=s:=⟨_,rfl⟩;obtain⟨y,hy⟩:∃y,rtN (rtT l) 4=y:=⟨_,rfl⟩;obtain⟨z,hz⟩:∃z,rtN (rtR (rtT l) 4) 1=z:=⟨_,rfl⟩;rw[P,hy,hz] at K;have u:=HI K;have Hx:=HI P;have Hy:=HI hy;have Hz:=HI hz;clear K P hy hz;go_enter func12,ntmps12
 go_wp2_with fail
 change Calls _ _ _ (w.alloc (.cells Qm.zero.vs.toArray 32)) _;generalize w.alloc (.cells Qm.zero.vs.toArray 32)=w1 at W b1 ⊢;have s1:=hs.below b1;refine (qB5 B m d l w1 s1 hm).mono ?_;rw[Hx.out];rintro e w2 ⟨A2,n2,c2,x2,rfl,t2,a1,D⟩;have R2:=W.below D W.lt;have s2:=s1.below D;have B2:=btr b1 D;go_wp2_with fail
 refine (qz3 A2 n2 c2 _ 4 w2 t2 a1 (by omega) (by omega)).mono ?_;rw[show (4:Int).toNat=4 from rfl,Hy.out];rintro e w3 ⟨A3,n3,c3,x3,rfl,t3,a2,E⟩;have R3:=R2.below E R2.lt;have s3:=s2.below E;have B3:=btr B2 E;go_wp2_with fail
 refine (qz3 A3 n3 c3 _ 1 w3 t3 a2 (by omega) (by omega)).mono ?_;rw[show (1:Int).toNat=1 from rfl,Hz.out];rintro e I ⟨A4,n4,c4,x4,rfl,t4,a7,F⟩;have X:=R3.below F R3.lt;have s4:=s3.below F;have B4:=btr B3 F;clear W R2 R3 s1 s2 s3 t2 t3 t4 b1 B2 B3 D E F;have H5:IB (I.alloc (.cells #[.string s,.int .i64 y,.int .i64 z] 32)) I.1.size (Qm.mk s y z).vs:=IB.new I _ _;have V:Below I.1.size I (I.alloc (.cells #[.string s,.int .i64 y,.int .i64 z] 32)):=Qi;have a6:=X.lt;go_wp2_with fail
 generalize I.alloc (.cells #[.string s,.int .i64 y,.int .i64 z] 32)=w5 at H5 V ⊢;have Y:=X.below V X.lt;have s5:=s4.below V;have B5:=btr B4 V;clear X s4 B4 V;refine (qfm (Qm.mk s y z) w5).mono ?_
 cases f:(Qm.mk s y z).may
 ·obtain⟨M,O⟩:=qn1 f;rw[M,O];rintro e w6 ⟨A6,n6,c6,rfl,s6,p⟩;have Z:=Y.below p Y.lt;have J:=btr B5 p;obtain⟨G,H⟩:=qkk (qxr l (by rw[u.out];exact f));have Q:=HI G;have R:=HI H;clear G H M O f;go_wp2_with (refine q1s rfl _ _ _ rfl w.1.size rfl Qm.zero.vs rfl Z rfl (by kernel_rfl) rfl ?_;intro w7 T U)
  refine bodyPost_ret (q66 Tryz.results12 rfl (q1q T)) rfl ⟨by rw[Q.out,R.out];rfl,?_⟩;exact J.trans (U.below (λx P=>by omega) J.size)
 ·obtain⟨M,O⟩:=qif f;rw[M,O];rintro e w6 ⟨A6,n6,c6,rfl,s6,p⟩;have Z:=Y.below p Y.lt;have H6:=H5.below p H5.lt;have J:=btr B5 p;have k6:=Qbh s6;have k5:=Qbh (s5.below p);obtain⟨bs,A⟩:∃bs,(Qm.mk s y z).bytes=bs:=⟨_,rfl⟩;rw[A] at k6;by_cases q:bs=l
  ·obtain⟨g1,g2⟩:=qxt l (by rw[u.out];exact f) (by rw[u.out,A];exact q);obtain⟨G,H⟩:=q5w g1;have Q:=HI (G.trans (g2.symm.trans u.out));have R:=HI H;rw[q] at k6;clear G H M O f g1 g2 A q;go_wp2_with (first
    |(refine q8n rfl _ _ rfl I.1.size rfl _ H6 underlying32 rfl (by kernel_rfl) ?_)
    |(refine q1s rfl _ _ _ rfl w.1.size rfl (Qm.mk s y z).vs rfl Z rfl (by kernel_rfl) rfl ?_;intro w7 T U))
   refine bodyPost_ret (q66 Tryz.results12 rfl (q1q T)) rfl ⟨by rw[Q.out,R.out];rfl,?_⟩;exact J.trans (U.below (λx P=>by omega) J.size)
  ·obtain⟨G,H⟩:=qkk (qxs l (by rw[u.out,A];exact q));have Q:=HI G;have R:=HI H;have a8:(bs==l)=false:=by simpa using q
   clear G H M O f A q;go_wp2_with (refine q1s rfl _ _ _ rfl w.1.size rfl Qm.zero.vs rfl Z rfl (by kernel_rfl) rfl ?_;intro w7 T U)
   refine bodyPost_ret (q66 Tryz.results12 rfl (q1q T)) rfl ⟨by rw[Q.out,R.out];rfl,?_⟩;exact J.trans (U.below (λx P=>by omega) J.size)
