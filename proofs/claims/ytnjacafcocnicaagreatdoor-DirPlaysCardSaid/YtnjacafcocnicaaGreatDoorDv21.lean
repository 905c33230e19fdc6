/- The code's node: whether all are noughts, by the library's Count -/
import Derived.Test.YtnjacafcocnicaaGreatDoorDv6
import Derived.Test.YtnjacafcocnicaaGreatDoorDv11
import Derived.Test.YtnjacafcocnicaaGreatDoorDv15
import Derived.Test.YtnjacafcocnicaaGreatDoorDv20
import Derived.Shelf.Bytes.SlCountOne
import Derived.Laws.Externs
namespace Go.Proofs.YtnjacafcocnicaaGreatDoor
open Go Go.RowKit Go.Proofs Tryz
set_option maxHeartbeats 8000000
set_option maxRecDepth 100000
def ints (l:LU):LI:=l.map λx=>(x.toNat:Int)
theorem qo7 (l:LU):Lib.bytesOf (ints l)=l:=by
 unfold Lib.bytesOf ints;rw[List.map_map];conv=>rhs;rw[<-List.map_id l]
 refine List.map_congr_left λx _=>?_
 simp
theorem qA1 {w:WD}{a:Addr}{n c:Nat}{l:LU}(h:Sl w (some a) n c l):∀i,i<n->w.cell? (a.add i)=some (.int .u8 ((ints l).getD i 0)):=by
 intro i hi;obtain⟨p,e,_,f⟩:=h.cell hi;injection e with e;subst e;rw[f];have m:i<l.length:=by have:=h.len;omega
 simp[ints,Vd,List.getD_eq_getElem?_getD,List.getElem?_map,List.getElem?_eq_getElem m]
theorem qeq {P:Program}{w:WD}{A:OA}{n c:Nat}{l:LU}(h:Sl w A n c l)(cv:Int) :
  (Extern.BytealgCount.count #[.slice A n c,.int .u8 cv]).run P w=.ok (.int .i64 (Lib.countByte l cv.toNat.toUInt8)) w:=by
 cases A with
 |some a=>
  have:=Lib.run_countAt (P:=P) w a n c (ints l) (by unfold ints;rw[AF];exact h.len) (qA1 h) cv;rwa [qo7] at this
 |none=>
  have hn:n=0:=by
   rcases Nat.eq_zero_or_pos n with h0|h0
   ·exact h0
   ·obtain⟨m,e,_⟩:=h.cell h0
    cases e
  have f:l=[]:=BF (by rw[h.len];exact hn);rw[Lib.run_countNil,f];rfl
theorem qr2 (l:LU):(Lib.countByte l 0=l.length)↔Y9 l=true:=by
 unfold Lib.countByte Y9;rw[List.count_eq_length,List.all_eq_true];constructor
 ·intro h x e;rw[<-h x e];rfl
 ·intro h x e;have:=h x e;exact (by simpa using this:x=0).symm
theorem qo8 (A:OA)(n c:Nat)(l:LU)(g d:Nat)(w:WD)(h:Sl w A n c l)(f:w.cell? ⟨g,0,none⟩=some (.int .u8 0)) :
  Calls prog 163 #[.slice A n c,.slice (some ⟨g,0,none⟩) 1 d] w λe w'=>e=.returned (.int .i64 (Lib.countByte l 0:Nat))/\w=w':=by
 go_enter func163,ntmps163
 go_wp2;rw[run_callFunc_extern func189 (by kernel_rfl) (by kernel_rfl) (by kernel_rfl) (e:=Extern.BytealgCount.count) (by kernel_rfl),qeq h 0];simp only[Result.andThen];rw[Oper.upon_value];go_wp2;go_ret;exact⟨rfl,rfl⟩
theorem q3i (A:OA)(n c:Nat)(l:LU)(r:Bool)(B:Y9 l=r)(w:WD)(h:Sl w A n c l) :
  Calls prog 113 #[.slice A n c] w λe w'=>e=.returned (.bool r)/\Below w.1.size w w':=by
 have f:=h.len;have p:Below w.1.size w (w.alloc (.cells #[.int .u8 0] 5)):=Qi;have y:(w.alloc (.cells #[.int .u8 0] 5)).cell? ⟨w.1.size,0,none⟩=some (.int .u8 0):=by rw[cell_of_row _ _ _ _ _ _ (BE w _)];rfl
 obtain⟨q,u⟩:∃q,Lib.countByte l 0=q:=⟨_,rfl⟩;have m:=HI (show ((q:Int)==(n:Int))=r by
  have:=qr2 l;rw[u,f,B] at this
  cases r
  ·exact AH (λe:(q:Int)=(n:Int)=>by have:=this.1 (by omega);cases this)
  ·exact AL (by have:=this.2 rfl;omega:(q:Int)=(n:Int)))
 clear f;go_enter func113,ntmps113
 go_wp2_with fail
 refine (qo8 A n c l w.1.size 1 _ (h.below p) y).mono ?_;rw[u];rintro e D ⟨rfl,rfl⟩;go_wp2;go_ret;exact⟨by rw[<-m.out];rfl,p⟩
def Di (H:Hd)(addr:Int):Option (Nd × LU)->Option Nd
 |some (N,r)=>if H.kind=(if H.level=0 then 3 else 4)/\H.addr=addr/\Y9 r=true/\N.may=true then some N else none
 |none=>none
def Zb (b:LU)(addr:Int):Option Nd:=if Nv b=0 then Di (Yz b) addr (Jy (Yz b).level (U8 b) (Yz b).count.toNat) else none
def q4a (b:LU)(addr:Int)(w:WD)(e:Ending)(w':WD):Prop:=
 ∃p m c1 q f u,e=.returned (.tuple #[.agg #[.int .i64 ((Zb b addr).getD ⟨0,[],[]⟩).lvl,.slice p m c1,.slice q f u],.int .i64 (if (Zb b addr).isSome=true then 0 else 3)])/\m<=20/\f<=20/\
   Xe w' w.1.size p m c1 ((Zb b addr).getD ⟨0,[],[]⟩).items/\Q8 w' w.1.size 125 4 q f u (((Zb b addr).getD ⟨0,[],[]⟩).kids.map Qn.vs)/\Below w.1.size w w'
theorem Xe.less {w:WD}{b base n c:Nat}{A:OA}{xs:List Qc}(h:Xe w base A n c xs)(hb:b<=base):Xe w b A n c xs:=by
 obtain⟨m,h1,h2,B⟩:=h;refine⟨m,h1.less hb,h2,λj r x D F=>?_⟩;obtain⟨V,p,q,e,E,f⟩:=B j r x D F;exact⟨V,p,q,e,E,λy g u=>⟨AZ hb (f y g u).1,(f y g u).2⟩⟩
theorem q4b {b:LU}{addr:Int}{w w':WD}(h:Zb b addr=none)(e:Below w.1.size w w'):q4a b addr w (.returned (.tuple #[.agg #[.int .i64 0,.slice none 0 0,.slice none 0 0],.int .i64 3])) w':=by
 unfold q4a;rw[h];exact⟨none,0,0,none,0,0,rfl,by omega,by omega,q1o _ _,q0z _ _ _ _,e⟩
theorem qlo {b:LU}{addr:Int}{N:Nd}{w w':WD}(h:Zb b addr=some N){A:OA}{n c:Nat}{B:OA}{m d:Nat}(hn:n<=20)(hm:m<=20)(e:Xe w' w.1.size A n c N.items)(f:Q8 w' w.1.size 125 4 B m d (N.kids.map Qn.vs))(p:Below w.1.size w w') :
  q4a b addr w (.returned (.tuple #[.agg #[.int .i64 N.lvl,.slice A n c,.slice B m d],.int .i64 0])) w':=by
 unfold q4a;rw[h];exact⟨A,n,c,B,m,d,rfl,hn,hm,e,f,p⟩
theorem qgu (A:OA)(k c:Nat)(b:LU)(addr:Int)(w:WD)(hs:Sl w A k c b)(ht:Tab w) :
  Calls prog 59 #[.slice A k c,.int .i64 addr] w λe w'=>q4a b addr w e w':=by
 go_enter func59,ntmps59
 go_wp2_with fail
 have R1:NB (w.alloc (.cells #[.int .i64 0,.slice none 0 0,.slice none 0 0] 74)) w.1.size 0 none 0 0 none 0 0:=NB.new w _ _ _ _ _ _ _ _;have W1:Below w.1.size w (w.alloc (.cells #[.int .i64 0,.slice none 0 0,.slice none 0 0] 74)):=Qi;generalize w.alloc (.cells #[.int .i64 0,.slice none 0 0,.slice none 0 0] 74)=w1 at R1 W1 ⊢;have hO:=q59 A k c b w1 (hs.below W1) (ht.below W1 ht.1);unfold q23 Hd.v at hO;obtain⟨H,hH⟩:∃H,Yz b=H:=⟨_,rfl⟩;obtain⟨R,hR⟩:∃R,U8 b=R:=⟨_,rfl⟩;obtain⟨E,hE⟩:∃E,Nv b=E:=⟨_,rfl⟩;rw[hH,hR,hE] at hO;refine hO.mono ?_;clear hO;rintro e v ⟨A2,n2,c2,rfl,b0,c6⟩;have Rv:=R1.below c6 R1.lt;have Wv:=W1.trans (c6.mono W1.size);have bx:Below v.1.size v (v.alloc (.cells #[.int .i64 H.kind,.int .i64 H.addr,.int .i64 H.count,.int .i64 H.level,.int .i64 H.gen] 153)):=Qi;have H3:HB (v.alloc (.cells #[.int .i64 H.kind,.int .i64 H.addr,.int .i64 H.count,.int .i64 H.level,.int .i64 H.gen] 153)) v.1.size H:=⟨_,BE v _⟩;have R3:=Rv.below bx Rv.lt;have W3:=Wv.trans (bx.mono Wv.size);have s3:=b0.sl.below bx;have zw:w.1.size<v.1.size:=Rv.lt;have a7:v.1.size<(v.alloc (.cells #[.int .i64 H.kind,.int .i64 H.addr,.int .i64 H.count,.int .i64 H.level,.int .i64 H.gen] 153)).1.size:=by simp
 by_cases b2:E=0
 ·subst b2;have e0:R.length<=236:=by
   cases hb:okB b
   ·obtain⟨_,_,h3⟩:=qkm hb;rw[h3] at hE;omega
   ·obtain⟨_,h2,_⟩:=q7j hb;have:=(AK hb).1;rw[<-hR,h2,AS];omega
  have c7:=qyj hE;rw[hH] at c7;have d6:(0<=H.level/\H.level<=8)/\0<=H.count/\H.count<=65535:=by
   have:=AK c7;omega
  obtain⟨⟨d7,d8⟩,d4,d5⟩:=d6;have e2:n2<=236:=by have:=b0.len;omega
  have F:=HI (show Zb b addr=Di H addr (Jy H.level R H.count.toNat) by unfold Zb;rw[hE,AA rfl,hH,hR]);have c8:∀g,q01 A2=some g->g<v.1.size:=λg hg=>by
   cases A2 with
   |none=>cases hg
   |some ad=>have:=(b0.block ad rfl).2;have e:ad.block=g:=OI hg;omega
  clear c7 hE hH hR Rv Wv bx b0 c6;obtain⟨kd,ad,ct,D,gn⟩:=H;simp only at d7 d8 d4 d5;obtain⟨cnt,rfl⟩:∃cnt:Nat,ct=(cnt:Int):=⟨ct.toNat,by omega⟩;obtain⟨Kb,d2⟩:∃Kb:Int,(if D=0 then 3 else 4)=Kb:=⟨_,rfl⟩;have b1:=HI d2;clear d2;go_wp2_with fail
  generalize v.alloc (.cells #[.int .i64 kd,.int .i64 ad,.int .i64 (cnt:Int),.int .i64 D,.int .i64 gn] 153)=w3 at H3 R3 W3 s3 a7 ⊢;have y0:=H3.at_ 0;have y1:=H3.at_ 2;have y3:=H3.at_ 1;simp only[Y0,Hd.Fj] at y0 y1 y3;have p0:∀u:Grown w3,u.to.cell? ⟨v.1.size,0,none⟩=some (.int .i64 kd):=Grown.cell y0 a7;have p1:∀u:Grown w3,u.to.cell? ⟨v.1.size,1,none⟩=some (.int .i64 ad):=Grown.cell y1 a7;have p3:∀u:Grown w3,u.to.cell? ⟨v.1.size,3,none⟩=some (.int .i64 D):=Grown.cell y3 a7;clear y0 y1 y3;by_cases hk:kd=Kb
  ·have Hk:=HI hk;have k1:(kd==Kb)=true:=by simp[hk]
   have k2:(kd != Kb)=false:=by simp[hk]
   clear hk;by_cases ha:ad=addr
   ·have Ha:=HI ha;have a1:(ad==addr)=true:=by simp[ha]
    have a2:(ad != addr)=false:=by simp[ha]
    clear ha;refine Ux (by kernel_rfl) (by kernel_rfl) ?_;repeat (go_big_quiet_step (first
     |(go_at_call 107;exact Calls.Xh (q4j D Kb b1.out _))
     |fail))
    refine wpQuiet_nil ?_;rintro _ ⟨u,rfl⟩;have H4:=H3.below u.ok a7;have R4:=R3.below u.ok R3.lt;have W4:=W3.trans (u.ok.mono W3.size);have s4:=s3.below u.ok;have J:v.1.size<u.to.1.size:=Nat.lt_of_lt_of_le a7 u.ok.size;generalize u.to=w4 at H4 R4 W4 s4 J ⊢;clear p0 p1 p3 H3 R3 W3 s3 a7 k1 k2 a1 a2 u;have y3:=H4.at_ 1;simp only[Y0,Hd.Fj] at y3;by_cases b9:D=0
    ·subst b9;have d3:=HI (show Kb=3 by rw[<-b1.out];rfl);go_wp2_with fail
     have N5:NB (w4.alloc (.cells #[.int .i64 0,.slice none 0 0,.slice none 0 0] 74)) w4.1.size 0 none 0 0 none 0 0:=NB.new w4 _ _ _ _ _ _ _ _;have b5:Below w4.1.size w4 (w4.alloc (.cells #[.int .i64 0,.slice none 0 0,.slice none 0 0] 74)):=Qi;have H5:=H4.below b5 J;have R5:=R4.below b5 R4.lt;have W5:=W4.trans (b5.mono W4.size);have s5:=s4.below b5;generalize w4.alloc (.cells #[.int .i64 0,.slice none 0 0,.slice none 0 0] 74)=w5 at N5 b5 H5 R5 W5 s5 ⊢;obtain⟨q,a8⟩:∃q,w4.1.size=q:=⟨_,rfl⟩;have d9:v.1.size<q:=by rw[<-a8];exact J
     rw[a8] at N5 ⊢;clear a8 b5 H4 R4 W4 s4 J;refine (q1c 0 true rfl none 0 0 none 0 0 w5).mono ?_;rintro e w6 ⟨rfl,G⟩;have N6:=N5.below G N5.lt;have H6:=H5.below G (by have:=N5.lt;omega);have R6:=R5.below G R5.lt;have W6:=W5.trans (G.mono W5.size);have s6:=s5.below G;have y2:=H6.at_ 3;simp only[Y0,Hd.Fj] at y2;clear N5 H5 R5 W5 s5 G;go_wp2_with fail
     refine (qnu R cnt A2 n2 c2 w6 s6 (by omega) (by omega)).mono ?_;rintro e w7 (⟨W,r,A1,c1,A4,n4,c4,M,rfl,b8,row,s7,a6,f⟩|⟨E,hE,M,rfl,f⟩)
     ·have I:=HI (show Zb b addr=(if Y9 r=true/\(⟨0,W,[]⟩:Nd).may=true then some (⟨0,W,[]⟩:Nd) else none) by
        rw[F.out];show Di ⟨kd,ad,(cnt:Int),0,gn⟩ addr (Jy 0 R (cnt:Int).toNat)=_;rw[AJ,M];show (if kd=(if (0:Int)=0 then 3 else 4)/\ad=addr/\Y9 r=true/\(⟨0,W,[]⟩:Nd).may=true then some (⟨0,W,[]⟩:Nd) else none)=_;rw[AA (rfl:(0:Int)=0),<-d3.out];by_cases O:Y9 r=true/\(⟨0,W,[]⟩:Nd).may=true
        ·rw[AA O,AA ⟨Hk.out,Ha.out,O⟩]
        ·rw[AB O,AB (λh=>O h.2.2)])
      have Y:=N6.below f N6.lt;have R7:=R6.below f R6.lt;have W7:=W6.trans (f.mono W6.size);have z6:q<w6.1.size:=N6.lt;have f1:=Y.fz 1;have g1:=Y.c1;have U:Turn (λg=>g=q) w7 (w7.setCell ⟨q,1,none⟩ (.slice A1 cnt c1)):=Gw (a:=⟨q,1,none⟩) _ rfl;have N8:=Y.set1 A1 cnt c1;have X:=R7.keep (U.block w.1.size R7.lt (by show ¬w.1.size=q;omega));have P:=row.low U (λk hk=>by have:k=q:=hk;omega);have s8:=s7.turned U (λg hg e=>by
       have h2:g=q:=e;rcases a6 g hg with h1|h1
       ·have:=c8 g h1;omega
       ·omega)
      have Z:=W7.trans (U.below (B:=w.1.size) (λx hx=>by have:x=q:=hx;omega) (by have:=W7.size;omega));clear N6 R6 W6 s6 H6 f Y R7 W7 row s7 a6 M y2;go_wp2_with fail
      generalize w7.setCell ⟨q,1,none⟩ (.slice A1 cnt c1)=w8 at N8 X P s8 Z U ⊢;clear U f1 g1
      cases O:Y9 r
      ·refine (q3i A4 n4 c4 r false O w8 s8).mono ?_;rintro e w9 ⟨rfl,m⟩;have R9:=X.below m X.lt;have W9:=Z.trans (m.mono Z.size);have p:=HI (I.out.trans (AB (λh=>by rw[O] at h;exact absurd h.1 (by simp))));clear O I;go_wp2_with (first
        |(refine Bj rfl (.tmp 4) (.tmp 68) rfl w.1.size rfl 0 none 0 0 none 0 0 rfl R9 ?_;intro wz T K)
        |fail)
       refine bodyPost_ret (Bl Tryz.results59 rfl (Nh T)) rfl ?_;exact q4b p.out (W9.trans (K.Za R9.lt))
      ·refine (q3i A4 n4 c4 r true O w8 s8).mono ?_;rintro e w9 ⟨rfl,m⟩;have N9:=N8.below m N8.lt;have R9:=X.below m X.lt;have Q:=P.below m;have W9:=Z.trans (m.mono Z.size);have q0:=N9.c0;have q1:=N9.c1;have q2:=N9.c2;have Hz:=HI O;clear O N8 X P s8 Z m;go_wp2_with fail
       cases hm:(⟨0,W,[]⟩:Nd).may
       ·refine (q2g ⟨0,W,[]⟩ false hm A1 cnt c1 none 0 0 w9 Q.Y3 (qn6 w9) (by omega) (by omega)).mono ?_;rintro e wA ⟨rfl,y⟩;have RA:=R9.below y R9.lt;have WA:=W9.trans (y.mono W9.size);have p:=HI (I.out.trans (AB (λh=>by rw[hm] at h;exact absurd h.2 (by simp))));clear hm I q0 q1 q2;go_wp2_with (first
         |(refine Bj rfl (.tmp 4) (.tmp 68) rfl w.1.size rfl 0 none 0 0 none 0 0 rfl RA ?_;intro wz T K)
         |fail)
        refine bodyPost_ret (Bl Tryz.results59 rfl (Nh T)) rfl ?_;exact q4b p.out (WA.trans (K.Za RA.lt))
       ·refine (q2g ⟨0,W,[]⟩ true hm A1 cnt c1 none 0 0 w9 Q.Y3 (qn6 w9) (by omega) (by omega)).mono ?_;rintro e wA ⟨rfl,y⟩;have RA:=R9.below y R9.lt;have NA:=N9.below y N9.lt;have V:=Q.below y;have WA:=W9.trans (y.mono W9.size);have b6:=HI (I.out.trans (AA (And.intro Hz.out hm)));have b4:=q31 hm;have b3:cnt<=20:=by have h1:=b4.1;have h2:=V.Y3.len;have h3:W.length<=6:=h1;omega
        have q0:=NA.c0;have q1:=NA.c1;have q2:=NA.c2;clear hm I b4;go_wp2_with (first
         |(refine Bj rfl (.tmp 4) (.tmp 69) rfl w.1.size rfl 0 A1 cnt c1 none 0 0 rfl RA ?_;intro wz T K)
         |fail)
        refine bodyPost_ret (Bl Tryz.results59 rfl (Nh T)) rfl ?_;have b7:=V.low K (λk hk=>by have:k=w.1.size:=hk;omega);exact qlo b6.out b3 (by omega) (b7.less (by omega)) (q0z _ _ _ _) (WA.trans (K.Za RA.lt))
     ·have p:=HI (show Zb b addr=none by
        rw[F.out];show Di ⟨kd,ad,(cnt:Int),0,gn⟩ addr (Jy 0 R (cnt:Int).toNat)=none;rw[AJ,M];rfl)
      have Y:=N6.below f N6.lt;have R7:=R6.below f R6.lt;have W7:=W6.trans (f.mono W6.size);have f1:=Y.fz 1;have g1:=Y.c1;have U:Turn (λg=>g=q) w7 (w7.setCell ⟨q,1,none⟩ (.slice none 0 0)):=Gw (a:=⟨q,1,none⟩) _ rfl;have X:=R7.keep (U.block w.1.size R7.lt (by show ¬w.1.size=q;omega));have Z:=W7.trans (U.below (B:=w.1.size) (λx hx=>by have:x=q:=hx;omega) (by have:=W7.size;omega));have c9:decide (E=0)=false:=AH hE;have d0:(E==0)=false:=by simp[hE]
      have d1:(E != 0)=true:=by simp[hE]
      clear N6 R6 W6 s6 H6 f Y R7 W7 M y2 U;go_wp2_with (first
       |(refine Bj rfl (.tmp 4) (.tmp 68) rfl w.1.size rfl 0 none 0 0 none 0 0 rfl X ?_;intro wz T K)
       |fail)
      refine bodyPost_ret (Bl Tryz.results59 rfl (Nh T)) rfl ?_;exact q4b p.out (Z.trans (K.Za X.lt))
    ·have e1:decide (D=0)=false:=AH b9;go_wp2_with fail
     have N5:NB (w4.alloc (.cells #[.int .i64 D,.slice none 0 0,.slice none 0 0] 74)) w4.1.size D none 0 0 none 0 0:=NB.new w4 _ _ _ _ _ _ _ _;have b5:Below w4.1.size w4 (w4.alloc (.cells #[.int .i64 D,.slice none 0 0,.slice none 0 0] 74)):=Qi;have H5:=H4.below b5 J;have R5:=R4.below b5 R4.lt;have W5:=W4.trans (b5.mono W4.size);have s5:=s4.below b5;generalize w4.alloc (.cells #[.int .i64 D,.slice none 0 0,.slice none 0 0] 74)=w5 at N5 b5 H5 R5 W5 s5 ⊢;obtain⟨q,a8⟩:∃q,w4.1.size=q:=⟨_,rfl⟩;have d9:v.1.size<q:=by rw[<-a8];exact J
     rw[a8] at N5 ⊢;clear a8 b5 H4 R4 W4 s4 J;refine (q1c D false (AH b9) none 0 0 none 0 0 w5).mono ?_;rintro e w6 ⟨rfl,G⟩;have N6:=N5.below G N5.lt;have H6:=H5.below G (by have:=N5.lt;omega);have R6:=R5.below G R5.lt;have W6:=W5.trans (G.mono W5.size);have s6:=s5.below G;have y2:=H6.at_ 3;simp only[Y0,Hd.Fj] at y2;clear N5 H5 R5 W5 s5 G;go_wp2_with fail
     refine (qnv D b9 R cnt A2 n2 c2 w6 s6 (by omega) (by omega)).mono ?_;rintro e w7 (⟨W,r,A1,c1,A4,n4,c4,M,rfl,b8,row,s7,a6,f⟩|⟨E,hE,M,rfl,f⟩)
     ·have I:=HI (show Zb b addr=(if Y9 r=true/\(⟨D,[],W⟩:Nd).may=true then some (⟨D,[],W⟩:Nd) else none) by
        rw[F.out];show Di ⟨kd,ad,(cnt:Int),D,gn⟩ addr (Jy D R (cnt:Int).toNat)=_;rw[AJ,M];show (if kd=(if (D:Int)=0 then 3 else 4)/\ad=addr/\Y9 r=true/\(⟨D,[],W⟩:Nd).may=true then some (⟨D,[],W⟩:Nd) else none)=_;rw[b1.out];by_cases O:Y9 r=true/\(⟨D,[],W⟩:Nd).may=true
        ·rw[AA O,AA ⟨Hk.out,Ha.out,O⟩]
        ·rw[AB O,AB (λh=>O h.2.2)])
      have Y:=N6.below f N6.lt;have R7:=R6.below f R6.lt;have W7:=W6.trans (f.mono W6.size);have z6:q<w6.1.size:=N6.lt;have f1:=Y.fz 2;have g1:=Y.c2;have U:Turn (λg=>g=q) w7 (w7.setCell ⟨q,2,none⟩ (.slice A1 cnt c1)):=Gw (a:=⟨q,2,none⟩) _ rfl;have N8:=Y.set2 A1 cnt c1;have X:=R7.keep (U.block w.1.size R7.lt (by show ¬w.1.size=q;omega));have P:=row.turned U (λk hk e=>by have h1:=(row.Qa k hk).1;have h2:k=q:=e;omega);have s8:=s7.turned U (λg hg e=>by
       have h2:g=q:=e;rcases a6 g hg with h1|h1
       ·have:=c8 g h1;omega
       ·omega)
      have Z:=W7.trans (U.below (B:=w.1.size) (λx hx=>by have:x=q:=hx;omega) (by have:=W7.size;omega));clear N6 R6 W6 s6 H6 f Y R7 W7 row s7 a6 M y2;go_wp2_with fail
      generalize w7.setCell ⟨q,2,none⟩ (.slice A1 cnt c1)=w8 at N8 X P s8 Z U ⊢;clear U f1 g1
      cases O:Y9 r
      ·refine (q3i A4 n4 c4 r false O w8 s8).mono ?_;rintro e w9 ⟨rfl,m⟩;have R9:=X.below m X.lt;have W9:=Z.trans (m.mono Z.size);have p:=HI (I.out.trans (AB (λh=>by rw[O] at h;exact absurd h.1 (by simp))));clear O I;go_wp2_with (first
        |(refine Bj rfl (.tmp 4) (.tmp 68) rfl w.1.size rfl 0 none 0 0 none 0 0 rfl R9 ?_;intro wz T K)
        |fail)
       refine bodyPost_ret (Bl Tryz.results59 rfl (Nh T)) rfl ?_;exact q4b p.out (W9.trans (K.Za R9.lt))
      ·refine (q3i A4 n4 c4 r true O w8 s8).mono ?_;rintro e w9 ⟨rfl,m⟩;have N9:=N8.below m N8.lt;have R9:=X.below m X.lt;have Q:=P.below m;have W9:=Z.trans (m.mono Z.size);have q0:=N9.c0;have q1:=N9.c1;have q2:=N9.c2;have Hz:=HI O;clear O N8 X P s8 Z m;go_wp2_with fail
       cases hm:(⟨D,[],W⟩:Nd).may
       ·refine (q2g ⟨D,[],W⟩ false hm none 0 0 A1 cnt c1 w9 (qn5 w9) (show Zr _ _ _ _ _ from Q.Gn (by omega)) (by omega) (by omega)).mono ?_;rintro e wA ⟨rfl,y⟩;have RA:=R9.below y R9.lt;have WA:=W9.trans (y.mono W9.size);have p:=HI (I.out.trans (AB (λh=>by rw[hm] at h;exact absurd h.2 (by simp))));clear hm I q0 q1 q2;go_wp2_with (first
         |(refine Bj rfl (.tmp 4) (.tmp 68) rfl w.1.size rfl 0 none 0 0 none 0 0 rfl RA ?_;intro wz T K)
         |fail)
        refine bodyPost_ret (Bl Tryz.results59 rfl (Nh T)) rfl ?_;exact q4b p.out (WA.trans (K.Za RA.lt))
       ·refine (q2g ⟨D,[],W⟩ true hm none 0 0 A1 cnt c1 w9 (qn5 w9) (show Zr _ _ _ _ _ from Q.Gn (by omega)) (by omega) (by omega)).mono ?_;rintro e wA ⟨rfl,y⟩;have RA:=R9.below y R9.lt;have NA:=N9.below y N9.lt;have V:=Q.below y;have WA:=W9.trans (y.mono W9.size);have b6:=HI (I.out.trans (AA (And.intro Hz.out hm)));have b4:=q31 hm;have b3:cnt<=20:=by have h1:=b4.2.1;have h2:=(show Zr _ _ _ _ W from V.Gn (by omega)).len;have h3:W.length<=12:=h1;omega
        have q0:=NA.c0;have q1:=NA.c1;have q2:=NA.c2;clear hm I b4;go_wp2_with (first
         |(refine Bj rfl (.tmp 4) (.tmp 69) rfl w.1.size rfl D none 0 0 A1 cnt c1 rfl RA ?_;intro wz T K)
         |fail)
        refine bodyPost_ret (Bl Tryz.results59 rfl (Nh T)) rfl ?_;have b7:=V.turned K (λk hk e=>by have h1:=(V.Qa k hk).1;have h2:k=w.1.size:=e;omega);exact qlo b6.out (by omega) b3 (q1o _ _) (Q8.less b7 (by omega)) (WA.trans (K.Za RA.lt))
     ·have p:=HI (show Zb b addr=none by
        rw[F.out];show Di ⟨kd,ad,(cnt:Int),D,gn⟩ addr (Jy D R (cnt:Int).toNat)=none;rw[AJ,M];rfl)
      have Y:=N6.below f N6.lt;have R7:=R6.below f R6.lt;have W7:=W6.trans (f.mono W6.size);have f1:=Y.fz 2;have g1:=Y.c2;have U:Turn (λg=>g=q) w7 (w7.setCell ⟨q,2,none⟩ (.slice none 0 0)):=Gw (a:=⟨q,2,none⟩) _ rfl;have X:=R7.keep (U.block w.1.size R7.lt (by show ¬w.1.size=q;omega));have Z:=W7.trans (U.below (B:=w.1.size) (λx hx=>by have:x=q:=hx;omega) (by have:=W7.size;omega));have c9:decide (E=0)=false:=AH hE;have d0:(E==0)=false:=by simp[hE]
      have d1:(E != 0)=true:=by simp[hE]
      clear N6 R6 W6 s6 H6 f Y R7 W7 M y2 U;go_wp2_with (first
       |(refine Bj rfl (.tmp 4) (.tmp 68) rfl w.1.size rfl 0 none 0 0 none 0 0 rfl X ?_;intro wz T K)
       |fail)
      refine bodyPost_ret (Bl Tryz.results59 rfl (Nh T)) rfl ?_;exact q4b p.out (Z.trans (K.Za X.lt))
   ·have p:=HI (show Zb b addr=none by
     rw[F.out]
     cases Jy D R (cnt:Int).toNat with
     |none=>rfl
     |some x=>exact AB (λh=>ha h.2.1))
    have a1:(ad==addr)=false:=by simp[ha]
    have a2:(ad != addr)=true:=by simp[ha]
    clear ha;refine Ux (by kernel_rfl) (by kernel_rfl) ?_;repeat (go_big_quiet_step (first
     |(go_at_call 107;exact Calls.Xh (q4j D Kb b1.out _))
     |fail))
    refine wpQuiet_nil ?_;rintro _ ⟨u,rfl⟩;have R4:=R3.below u.ok R3.lt;have W4:=W3.trans (u.ok.mono W3.size);clear p0 p1 p3;go_wp2_with (first
     |(refine Bj rfl (.tmp 4) (.tmp 32) rfl w.1.size rfl 0 none 0 0 none 0 0 rfl R4 ?_;intro wz T K)
     |fail)
    refine bodyPost_ret (Bl Tryz.results59 rfl (Nh T)) rfl ?_;exact q4b p.out (W4.trans (K.Za R4.lt))
  ·have p:=HI (show Zb b addr=none by
    rw[F.out]
    cases Jy D R (cnt:Int).toNat with
    |none=>rfl
    |some x=>exact AB (λh=>hk (h.1.trans b1.out)))
   have k1:(kd==Kb)=false:=by simp[hk]
   have k2:(kd != Kb)=true:=by simp[hk]
   clear hk;refine Ux (by kernel_rfl) (by kernel_rfl) ?_;repeat (go_big_quiet_step (first
    |(go_at_call 107;exact Calls.Xh (q4j D Kb b1.out _))
    |fail))
   refine wpQuiet_nil ?_;rintro _ ⟨u,rfl⟩;have R4:=R3.below u.ok R3.lt;have W4:=W3.trans (u.ok.mono W3.size);clear p0 p1 p3;go_wp2_with (first
    |(refine Bj rfl (.tmp 4) (.tmp 32) rfl w.1.size rfl 0 none 0 0 none 0 0 rfl R4 ?_;intro wz T K)
    |fail)
   refine bodyPost_ret (Bl Tryz.results59 rfl (Nh T)) rfl ?_;exact q4b p.out (W4.trans (K.Za R4.lt))
 ·have p:=HI (show Zb b addr=none by unfold Zb;rw[hE,AB b2]);have c9:decide (E=0)=false:=AH b2;have d0:(E==0)=false:=by simp[b2]
  have d1:(E != 0)=true:=by simp[b2]
  clear b2 hE hH hR Rv Wv;go_wp2_with fail
  generalize v.alloc (.cells #[.int .i64 H.kind,.int .i64 H.addr,.int .i64 H.count,.int .i64 H.level,.int .i64 H.gen] 153)=w3 at H3 R3 W3 s3 a7 ⊢;refine Ux (by kernel_rfl) (by kernel_rfl) ?_;repeat (go_big_quiet_step (fail))
  refine wpQuiet_nil ?_;rintro _ ⟨u,rfl⟩;have R4:=R3.below u.ok R3.lt;have W4:=W3.trans (u.ok.mono W3.size);go_wp2_with (first
   |(refine Bj rfl (.tmp 4) (.tmp 32) rfl w.1.size rfl 0 none 0 0 none 0 0 rfl R4 ?_;intro wz T K)
   |fail)
  refine bodyPost_ret (Bl Tryz.results59 rfl (Nh T)) rfl ?_;exact q4b p.out (W4.trans (K.Za R4.lt))
theorem qys {r:LU}(h:Gz r=0):r=(Ba r).bytes++Kt r:=by
 unfold Gz at h;split at h
 ·rename_i e;have p:9<=r.length:=AK (by unfold ktY at e;rw[BN] at e;exact e.1);unfold Ba Kt;rw[AA e,AA e];unfold Eo Kd.bytes;dsimp only;rw[q3n _ 4 (by simp;omega),q3n _ 1 (by simp;omega),q3n _ 4 (by simp;omega)];have m:(r.drop 5).take 4++r.drop 9=r.drop 5:=by have:=AV 4 (r.drop 5);rwa [List.drop_drop] at this
  have f:(r.drop 4).take 1++r.drop 5=r.drop 4:=by have:=AV 1 (r.drop 4);rwa [List.drop_drop] at this
  rw[AM,AM,m,f,AV]
 ·split at h<;>omega
theorem qC1 {r:LU}(h:Nl r=0):r=Qx ((Oh r).length:Int) 1++(Oh r++Pv r):=by
 unfold Nl at h;split at h
 ·rename_i e;obtain⟨h1,h2⟩:=AK e;unfold Oh Pv;rw[AA e,AA e];unfold bodyT Zu;have f:((r.drop 1).take (Qq (r.take 1))).length=Qq (r.take 1):=by rw[AR,AS];omega
  rw[f,q3n _ 1 (by simp;omega)];have m:(r.drop 1).take (Qq (r.take 1))++r.drop (1+Qq (r.take 1))=r.drop 1:=by have:=AV (Qq (r.take 1)) (r.drop 1);rwa [List.drop_drop] at this
  rw[m,AV]
 ·omega
theorem qC2 {r:LU}(h:Nk r=0):r=Qx (Ti r) 2++Pq r:=by
 unfold Nk at h;split at h
 ·rename_i e;have h1:=AK e;unfold Ti Pq;rw[AA e,AA e,q3n _ 2 (by simp;omega),AV]
 ·omega
theorem qA2 (v l:LU)(q:v.length<=255):Oh (Qx (v.length:Int) 1++(v++l))=v/\Pv (Qx (v.length:Int) 1++(v++l))=l/\Nl (Qx (v.length:Int) 1++(v++l))=0:=by
 have f:(Qx (v.length:Int) 1++(v++l)).take 1=Qx (v.length:Int) 1:=List.take_left' (J8 _ _);have m:(Qx (v.length:Int) 1++(v++l)).drop 1=v++l:=List.drop_left' (J8 _ _);have p:Qq (Qx (v.length:Int) 1)=v.length:=by rw[qab,Nat.mod_eq_of_lt (by omega)]
 have e:ttY (Qx (v.length:Int) 1++(v++l))=true:=by
  refine AL ?_;rw[f,p];simp[J8]
 unfold Oh Pv Nl bodyT Zu;rw[AA e,AA e,AA e,f,p,m,<-List.drop_drop,m];exact⟨List.take_left' rfl,List.drop_left' rfl,rfl⟩
theorem qA3 (a:Int)(l:LU)(h0:0<=a)(h1:a<65536):Ti (Qx a 2++l)=a/\Pq (Qx a 2++l)=l/\Nk (Qx a 2++l)=0:=by
 have e:t2Y (Qx a 2++l)=true:=AL (by rw[AD,J8];omega);unfold Ti Pq Nk;rw[AA e,AA e,AA e,List.take_left' (J8 _ _),List.drop_left' (J8 _ _),q1p a 2 h0 (by omega)];exact⟨rfl,rfl,rfl⟩
theorem qgv (xs:List Qc)(x:Qc)(l:LU)(y:x.k.may=true)(B:x.v.length<=28):Xq ⟨0,xs,[]⟩ (Ik x++l)=some (⟨0,xs++[x],[]⟩,l):=by
 have e:Ik x++l=x.k.bytes++(Qx (x.v.length:Int) 1++(x.v++l)):=by unfold Ik;simp
 obtain⟨f,m,a3⟩:=qu8 x.k y (Qx (x.v.length:Int) 1++(x.v++l));obtain⟨p,q,u⟩:=qA2 x.v l (by omega);rw[e];unfold Xq;rw[f,m,a3,p,q,u,AA rfl,AA rfl,AA rfl]
theorem qer (f:Int)(D:f≠0)(xs:List Qn)(x:Qn)(l:LU)(B:x.k.may=true)(h0:0<=x.a)(h1:x.a<65536):Xq ⟨f,[],xs⟩ (Ij x++l)=some (⟨f,[],xs++[x]⟩,l):=by
 have e:Ij x++l=x.k.bytes++(Qx x.a 2++l):=by unfold Ij;simp
 obtain⟨m,p,a3⟩:=qu8 x.k B (Qx x.a 2++l);obtain⟨q,u,y⟩:=qA3 x.a l h0 h1;rw[e];unfold Xq;rw[m,p,a3,q,u,y,AA rfl,AB D,AA rfl]
theorem qlp (xs:List Qc)(z:LU)(f:∀j,j<xs.length->(Zc xs j).k.may=true/\(Zc xs j).v.length<=28):∀j,j<=xs.length->Jy 0 (xs.flatMap Ik++z) j=some (⟨0,xs.take j,[]⟩,(xs.drop j).flatMap Ik++z)
 |0,_=>rfl
 |j+1,hj=>by
  have p:=qlp xs z f j (by omega);rw[q4n _ _ _ _ _ p];have e:=q22 (show j<xs.length by omega);have hd:xs.drop j=Zc xs j::xs.drop (j+1):=by
   rw[<-List.getElem_cons_drop (h:=by omega)];rw[AC (by omega)] at e;rw[OI e]
  obtain⟨h1,h2⟩:=f j (by omega);rw[hd,BC,AM,qgv _ _ _ h1 h2];have m:xs.take (j+1)=xs.take j++[Zc xs j]:=by
   rw[List.take_succ_eq_append_getElem (by omega)];rw[AC (by omega)] at e;rw[OI e]
  rw[m]
theorem qr3 (e:Int)(p:e≠0)(xs:List Qn)(z:LU)(m:∀j,j<xs.length->(Qk xs j).k.may=true/\0<=(Qk xs j).a/\(Qk xs j).a<65536):∀j,j<=xs.length->Jy e (xs.flatMap Ij++z) j=some (⟨e,[],xs.take j⟩,(xs.drop j).flatMap Ij++z)
 |0,_=>rfl
 |j+1,hj=>by
  have y:=qr3 e p xs z m j (by omega);rw[q4n _ _ _ _ _ y];have f:=q16 (show j<xs.length by omega);have hd:xs.drop j=Qk xs j::xs.drop (j+1):=by
   rw[<-List.getElem_cons_drop (h:=by omega)];rw[AC (by omega)] at f;rw[OI f]
  obtain⟨h1,h2,q⟩:=m j (by omega);rw[hd,BC,AM,qer e p _ _ _ h1 h2 q];have u:xs.take (j+1)=xs.take j++[Qk xs j]:=by
   rw[List.take_succ_eq_append_getElem (by omega)];rw[AC (by omega)] at f;rw[OI f]
  rw[u]
theorem qA4 {N:Nd}(hm:N.may=true)(z:LU):Jy N.lvl (N.body++z) (N.items.length+N.kids.length)=some (N,z):=by
 have f:=Tc hm;obtain⟨l,its,p⟩:=N;by_cases m:l=0
 ·subst m;have u:p=[]:=f.1 rfl;subst u;have y:=hm;rw[qlm _ rfl rfl] at hm;unfold Es at hm;rw[BN] at hm;have h2:=qep.1 hm.2;have:=qlp its z (λj q=>by
   have e:=h2 j q;unfold okI Kz Rx at e;rw[BN,BN,qeo] at e;exact⟨e.1.1,AK e.2⟩) its.length (AE _)
  unfold Nd.body;simp only[List.flatMap_nil,BM,List.length_nil,Nat.add_zero];rw[this,List.take_length,List.drop_length];rfl
 ·have hi:its=[]:=f.2 m;subst hi;have B:1<=l/\l<=7:=by
   unfold Nd.may at hm;rw[AB m,BN,BN] at hm;have h:=AK hm.2.2;exact⟨h.1,Int.lt_add_one_iff.1 h.2.1⟩
  rw[qgs _ m B rfl] at hm;unfold Et at hm;rw[BN] at hm;have h2:=qep.1 hm.2;have:=qr3 l m p z (λj q=>by
   have e:=h2 j q;unfold okK Kz Ry at e;rw[BN,BN,qas] at e;have D:1<=(Qk p j).a/\(Qk p j).a<=2047:=AK e.2;exact⟨e.1.1,by omega,by omega⟩) p.length (AE _)
  unfold Nd.body;simp only[List.flatMap_nil,BG,List.length_nil,AT];rw[this,List.take_length,List.drop_length];rfl
theorem qyt (l:Int)(body:LU):∀(j:Nat) (N:Nd) (r:LU),Jy l body j=some (N,r)->body=N.body++r/\N.lvl=l/\N.items.length+N.kids.length=j/\(l=0->N.kids=[])/\(l≠0->N.items=[])
 |0,N,r,h=>by
  injection h with h;injection h with h1 h2;subst h1 h2;exact⟨rfl,rfl,rfl,λ_=>rfl,λ_=>rfl⟩
 |j+1,N,r,h=>by
  cases y:Jy l body j with
  |none=>rw[qac l body j (j+1) y (by omega)] at h;cases h
  |some p=>
   obtain⟨M,s⟩:=p;rw[q4n _ _ _ _ _ y] at h;obtain⟨B,u,G,E,F⟩:=qyt l body j M s y;unfold Xq at h;split at h
   ·rename_i D;split at h
    ·rename_i h0;split at h
     ·rename_i m;injection h with h;injection h with h1 h2;subst h1 h2;have q:l=0:=u.symm.trans h0;have f:=E q;refine⟨?_,u,?_,λ_=>f,λh=>absurd q h⟩
      ·rw[B];unfold Nd.body;dsimp only;rw[f];simp only[List.flatMap_nil,BM,List.flatMap_append,BC];rw[AM];congr 1
       conv=>lhs;rw[qys D,qC1 m]
       unfold Ik;simp
      ·dsimp only;rw[AD];simp;omega
     ·cases h
    ·rename_i h0;split at h
     ·rename_i m;injection h with h;injection h with h1 h2;subst h1 h2;have q:l≠0:=λe=>h0 (u.trans e)
      have f:=F q;refine⟨?_,u,?_,λh=>absurd h q,λ_=>f⟩
      ·rw[B];unfold Nd.body;dsimp only;rw[f];simp only[List.flatMap_nil,BG,List.flatMap_append,BC];rw[AM];congr 1
       conv=>lhs;rw[qys D,qC2 m]
       unfold Ij;simp
      ·dsimp only;rw[AD];simp;omega
     ·cases h
   ·cases h
theorem qgw (N:Nd)(h0:0<=N.lvl):(if 0<N.lvl then (4:Int) else 3)=(if N.lvl=0 then 3 else 4):=by
 by_cases h:N.lvl=0
 ·rw[AA h,AB (by omega)]
 ·rw[AB h,AA (by omega)]
theorem qA5 {M:Nd}{h:Hd}{addr:Int}(h0:0<=M.lvl)(p:M.lvl=h.level)(f:(M.items.length:Int)+(M.kids.length:Int)=h.count)(m:h.kind=if h.level=0 then 3 else 4)(e:h.addr=addr):M.head addr h.gen=h:=by
 obtain⟨B,u,ct,q,y⟩:=h;have p:M.lvl=q:=p;have f:(M.items.length:Int)+(M.kids.length:Int)=ct:=f;have m:B=if q=0 then 3 else 4:=m
 have e:u=addr:=e;have h1:=qgw M h0;show (⟨if 0<M.lvl then 4 else 3,addr,(M.items.length:Int)+(M.kids.length:Int),M.lvl,y⟩:Hd)=_;rw[h1,f,p,<-m,e]
theorem qr4 (h:Hd)(l r:LU)(f:Y9 r=true)(m:l.length+r.length=236):Zn h l=Zn h (l++r):=by
 have e:Yx h l=Yx h (l++r):=by
  unfold Yx;have z:=ql9 f;rw[show 236-(l++r).length=0 by rw[AD];omega,show 236-l.length=r.length by omega,<-z];simp
 unfold Zn;rw[e]
theorem qo9 (n:Nat):Y9 (List.replicate n 0)=true:=by
 unfold Y9;rw[List.all_eq_true];intro x e;rw[(List.mem_replicate.1 e).2];rfl
theorem q84 {N:Nd}{addr gen:Int}(hm:N.may=true)(m:Zi N addr gen=0)(f:Int):Zb (Jo N addr gen) f=if addr=f then some N else none:=by
 unfold Zi at m;rw[AA hm] at m;obtain⟨q,D,u⟩:=q6y _ _ m;unfold Jo;rw[AA hm,u];obtain⟨E,F,G⟩:=q5a _ _ q D;obtain⟨_,_,_,h0⟩:=q31 hm;unfold Zb;rw[AA G,E,F];have y:(N.head addr gen).count.toNat=N.items.length+N.kids.length:=by unfold Nd.head;dsimp only;omega
 have p:(N.head addr gen).level=N.lvl:=rfl;rw[y,p,qA4 hm];unfold Di;dsimp only;by_cases e:addr=f
 ·have B:(N.head addr gen).kind=(if (N.head addr gen).level=0 then 3 else 4):=qgw N h0;rw[AA e,AA ⟨B,e,qo9 _,hm⟩]
 ·rw[AB e,AB (λh=>e h.2.1)]
theorem qoa (b:LU)(addr:Int):Zb b addr=Nj b addr:=by
 refine Option.ext λN=>?_
 constructor
 ·intro h;unfold Zb at h;split at h
  ·rename_i B;have u:okB b=true:=by
    cases T:okB b
    ·rw[(qkm T).2.2] at B;cases B
    ·rfl
   cases e:Jy (Yz b).level (U8 b) (Yz b).count.toNat with
   |none=>rw[e] at h;cases h
   |some p=>
    obtain⟨M,r⟩:=p;rw[e] at h;unfold Di at h;dsimp only at h;by_cases E:(Yz b).kind=(if (Yz b).level=0 then 3 else 4)/\(Yz b).addr=addr/\Y9 r=true/\M.may=true
    ·rw[AA E] at h;obtain⟨h1,h2,R,G⟩:=E;injection h with h;subst h;obtain⟨J,O,W,P,Q⟩:=qyt _ _ _ _ _ e;obtain⟨X,Y,_,V⟩:=q31 G;have m:=qyj B;have U:=AK m;have D:qee b=(Yz b).count.toNat:=by
      have:M.items.length+M.kids.length<=12:=by
       by_cases K:(Yz b).level=0
       ·rw[P K];simp;omega
       ·rw[Q K];simp;omega
      unfold qee;omega
     have q:=(q7j u).2.1;have H:=(AK u).1;have F:M.body.length+r.length=236:=by
      have:=congrArg List.length J;rw[q,AS,AD] at this;omega
     have f:M.head addr (Yz b).gen=Yz b:=qA5 V O (by omega) h1 h2;unfold Nj;rw[AA B,D,e];unfold qef;dsimp only;have y:Zi M addr (Yz b).gen=0:=by
      unfold Zi;rw[AA G,f];unfold Xr;rw[AA m,AA (by omega)]
     have I:Jo M addr (Yz b).gen=b:=by
      unfold Jo;rw[AA G,f];unfold Xw;rw[AA m,AA (by omega),qr4 _ _ r R F,<-J,q];have:=(qzh b u).2;unfold Xw at this;rw[AA m,AA (by rw[AS];omega)] at this;exact this
     rw[AA ⟨y,I⟩]
    ·rw[AB E] at h;cases h
  ·cases h
 ·intro h;unfold Nj at h;split at h
  ·rename_i B
   cases e:Jy (Yz b).level (U8 b) (qee b) with
   |none=>rw[e] at h;cases h
   |some p=>
    obtain⟨M,r⟩:=p;rw[e] at h;unfold qef at h;dsimp only at h;split at h
    ·rename_i E;obtain⟨y,I⟩:=E;injection h with h;subst h;have hm:M.may=true:=by
      cases hm:M.may
      ·unfold Zi at y;rw[hm] at y;cases y
      ·rfl
     have:=q84 hm y addr;rw[I,AA rfl] at this;exact this
    ·cases h
  ·cases h
theorem qr5 {N:Nd}(hm:N.may=true):N.body.length<=236:=by
 obtain⟨h1,h2,y,_⟩:=q31 hm;have q:∀f:List Qc,(∀j,j<f.length->(Zc f j).v.length<=28)->(f.flatMap Ik).length<=38*f.length:=by
  intro f;induction f with
  |nil=>intro _;simp
  |cons x f ih=>
   intro h;have F:x.v.length<=28:=h 0 (by simp);have:=ih (λj E=>h (j+1) (by simp;omega));rw[BC,AD,AX];have e:(Ik x).length=10+x.v.length:=by unfold Ik;rw[AD,AD,Kd.Yj,J8];omega
   omega
 have u:∀f:List Qn,(f.flatMap Ij).length=11*f.length:=by
  intro f;induction f with
  |nil=>simp
  |cons x f ih=>
   rw[BC,AD,AX,ih];have e:(Ij x).length=11:=by unfold Ij;rw[AD,Kd.Yj,J8]
   omega
 have m:=Tc hm;have B:=q N.items y;have D:=u N.kids;unfold Nd.body;rw[AD];by_cases p:N.lvl=0
 ·rw[m.1 p];simp only[List.flatMap_nil,List.length_nil];omega
 ·rw[m.2 p];simp only[List.flatMap_nil,List.length_nil];omega
theorem qvu {N:Nd}{addr gen:Int}(hm:N.may=true)(f:¬Zi N addr gen=0):Zi N addr gen=1/\(addr<0\/2048<=addr\/gen<0\/1099511627775<gen):=by
 unfold Zi at f ⊢;rw[AA hm] at f ⊢;have m:=qr5 hm;unfold Xr at f ⊢;by_cases e:(N.head addr gen).ok=true
 ·rw[AA e,AA m] at f;exact absurd rfl f
 ·rw[AB e];refine⟨rfl,?_⟩;obtain⟨h1,h2,_,q⟩:=q31 hm;have u:N.lvl<=7:=by
   unfold Nd.may at hm;split at hm
   ·omega
   ·rw[BN,BN] at hm;have:=AK hm.2.2;omega
  refine Classical.byContradiction λp=>e (AL ?_)
  unfold Nd.head;dsimp only;refine⟨?_,?_,?_,?_,?_⟩;all_goals first|omega|(split<;>omega)
theorem q35 {P:Program}{w:WD}(base:Nat)(t ty e:TypeId)(i:TypeInfo)(size:Nat)(u:P.underlying t=some (.slice e))(hi:P.info? e=some i)
  (A:OA) (n c:Nat) (xs:LV) (f:w.ownsRow base e size (.slice A n c) n xs) (B:OA) (d:Nat) (_:size≠0) (_:i.size=size) :
  (Builtin.append_ #[t,t] ty #[.slice A n c,.slice B 0 d]).run P w=.ok (.slice A n c) w:=by
 rcases f.2 with⟨q,h0⟩|⟨g,cap,y,q,_,_,p,_⟩
 ·injection q with h1 h2 m;subst h1 h2 m
  cases B<;>simp[Builtin.append_,run_underlying u,sizeOf,typeInfo,hi,Builtin.lenOf,Builtin.firstCells,loadCells,loadCellsFrom]
 ·injection q with h1 h2 m;subst h1 m
  cases B<;>simp[Builtin.append_,run_underlying u,sizeOf,typeInfo,hi,Builtin.lenOf,Builtin.firstCells,p,storeCells,loadCells,loadCellsFrom]
theorem q73 (i:Qm)(h:i.may=true)(w:WD) :
  Calls prog 39 #[.agg #[.string i.name,.int .i64 i.ino,.int .i64 i.kind]] w λe w'=>∃A n c,e=.returned (.tuple #[.slice A n c,.int .i64 0])/\Sl w' A n c i.bytes/\(∀g,q01 A=some g->w.1.size<=g)/\Below w.1.size w w':=by
 have q:IB (w.alloc (.cells i.vs.toArray 32)) w.1.size i.vs:=IB.new w _ _;have y:Below w.1.size w (w.alloc (.cells i.vs.toArray 32)):=Qi;go_enter func39,ntmps39
 go_wp2_with fail
 change Calls _ _ _ (w.alloc (.cells i.vs.toArray 32)) _;generalize w.alloc (.cells i.vs.toArray 32)=I at q y ⊢;obtain⟨hn,M⟩:=Bool.and_eq_true_iff.1 h;refine (q2n i.name true hn I).mono ?_;rintro e Q ⟨rfl,rfl⟩;have V:i.name.size<=20:=(AK hn).2;have W:=q.cell 0 rfl;clear h hn;go_wp2_with (first
  |(go_at_call 66;refine (q4w none 0 0 [] i.name I (Il _) (by omega) (by omega)).mono ?_;rw[BG];rintro e Q ⟨T,O,c2,rfl,f,p⟩;have G:=q.below p q.lt;have K:O<=21:=(by have:=f.len;rw[AD,J8,Array.length_toList] at this;have U:i.name.data.size=i.name.size:=rfl;omega))
  |(go_at_call 68;refine (qbx w.1.size _).mono ?_;rintro e R ⟨g,rfl,hF,H,m⟩)
  |(go_at_call 67;refine (qxy (Jj w.1.size) i.x _ _ _ _ _ _ _ R hF (qn9 (G.below m G.lt)) (by rw[qkj _ i _ rfl rfl];exact M) (f.sl.below m) (by omega) (by omega) (by omega) (qtz _)).mono ?_;rw[qBa];rintro e X ⟨J,P,c4,rfl,E,D,B⟩))
 go_ret2;have F:=y.trans (p.mono y.size);have u:=F.trans (m.mono F.size);exact⟨J,P,c4,rfl,E,λg H=>by have:=D g H;have:=u.size;omega,u.trans (B.mono u.size)⟩
theorem qes (o:BinOp)(f:o=.eql\/o=.neq)(x y:Operand)(xs e:Array Value)(w:WD):(eqGuard o 32 x y (.agg xs) (.agg e)).run prog w=.ok () w:=by
 rcases f with rfl|rfl
 ·exact run_eqGuard_agg w .eql 32 x y xs e (by kernel_rfl)
 ·exact run_eqGuard_agg w .neq 32 x y xs e (by kernel_rfl)
theorem qyu (s:ByteArray)(y z:Int)(w:WD):(binOp .eql 32 (.agg #[.string s,.int .i64 y,.int .i64 z]) (.agg #[.string s,.int .i64 y,.int .i64 z])).run prog w=.ok (.bool true) w:=by
 rw[run_eql_struct,run_equalIn_agg w 9999 32 _ _ (by kernel_rfl) (by kernel_rfl)];unfold Program.fieldsOf;rw[underlying32];simp[go_sem,underlying3,underlying9]
theorem qyv (s:ByteArray)(y z:Int)(w:WD):(binOp .neq 32 (.agg #[.string s,.int .i64 y,.int .i64 z]) (.agg #[.string s,.int .i64 y,.int .i64 z])).run prog w=.ok (.bool false) w:=by
 rw[run_neq_struct,run_equalIn_agg w 9999 32 _ _ (by kernel_rfl) (by kernel_rfl)];unfold Program.fieldsOf;rw[underlying32];simp[go_sem,underlying3,underlying9]
theorem Qbs:Eh prog 26 32 3 32 (.agg #[.string ⟨#[]⟩,.int .i64 0,.int .i64 0]):=⟨underlying26,by kernel_rfl,rfl,by omega⟩
def Zg (w:WD)(A:OA)(n c:Nat)(l:List Qm):Prop:=Jp w 3 A n c (l.map Qm.vs)
def Jz (w:WD)(base:Nat)(A:OA)(n c:Nat)(l:List Qm):Prop:=Q8 w base 32 3 A n c (l.map Qm.vs)
def Zm (l:List Qm)(j:Nat):Qm:=l.getD j Qm.zero
theorem q1y {l:List Qm}{j:Nat}(h:j<l.length):l[j]?=some (Zm l j):=by unfold Zm;simp[List.getD,h]
theorem qet {l:List Qm}{j:Nat}(h:j<l.length):Zm l j=l[j]:=by unfold Zm;simp[List.getD,h]
theorem qr6 (e:Qm):∀u∈e.vs,u.oneCell'=true:=λu f=>by
 rcases List.mem_cons.1 f with rfl|f
 ·rfl
 rcases List.mem_cons.1 f with rfl|f
 ·rfl
 ·rw[List.mem_singleton.1 f];rfl
section
variable {w w':WD}{base n c:Nat}{A:OA}{l:List Qm}
theorem Zg.len (h:Zg w A n c l):l.length=n:=by have:=Jp.len h;simpa using this
theorem Zg.bounds (h:Zg w A n c l):n<=c/\c<=maxLen:=⟨Jp.cap h,Jp.max h⟩
theorem Zg.below (h:Zg w A n c l)(hb:Below w.1.size w w'):Zg w' A n c l:=Jp.below h hb
theorem qvv (w:WD):Zg w none 0 0 []:=q6n w 3
theorem Zg.turned {S:NP}(h:Zg w A n c l)(T:Turn S w w')(hA:∀g,q01 A=some g->¬S g):Zg w' A n c l:=
 Jp.keep h T.size λg o e f=>T.block g f (hA g (by rw[e];rfl))
theorem Zg.take (h:Zg w A n c l){k:Nat}(hk:k<=n):Zg w A k c (l.take k):=by
 have:=Jp.take h hk;rwa [<-List.map_take] at this
theorem Zg.at_ (h:Zg w A n c l){j:Nat}(hj:j<n):∃g o,A=some ⟨g,o,none⟩/\g<w.1.size/\w.rangeAt g (o+j*3) (Zm l j).vs:=by
 have p:=h.len;obtain⟨g,o,e,f,_,m⟩:=h.2.2.2 j _ (by rw[BA,q1y (by omega)];rfl);exact⟨g,o,e,f,m⟩
theorem Zg.drop (h:Zg w A n c l){k:Nat}(hk:k<=n):Zg w (if c=k then A else A.map (·.add (k*3))) (n-k) (c-k) (l.drop k):=by
 have q:=Jp.cap h;refine⟨by have:=h.len;simp;omega,by omega,by have:=Jp.max h;omega,λj x e=>?_⟩;have y:=h.len;rw[BA,List.getElem?_drop] at e;have u:k+j<n:=by
  by_cases h1:k+j<l.length
  ·omega
  ·rw[List.getElem?_eq_none (by omega)] at e;cases e
 obtain⟨g,o,rfl,m,f,p⟩:=h.2.2.2 (k+j) x (by rw[BA];exact e);refine⟨g,o+k*3,by rw[AB (by omega)];show some ((⟨g,o,none⟩:Addr).add (k*3))=_;rw[Addr.add_mid],m,f,?_⟩;rw[show o+k*3+j*3=o+(k+j)*3 by omega];exact p
theorem Jz.ents (h:Jz w base A n c l):Zg w A n c l:=Q8.Gn h (by omega)
theorem Jz.below (h:Jz w base A n c l)(hb:Below w.1.size w w'):Jz w' base A n c l:=Q8.below h hb
theorem Jz.less {b:Nat}(h:Jz w base A n c l)(hb:b<=base):Jz w b A n c l:=Q8.less h hb
theorem Jz.Qa (h:Jz w base A n c l):∀k,q01 A=some k->base<=k/\k<w.1.size:=Q8.Qa h
theorem qr7 (w:WD)(base:Nat):Jz w base none 0 0 []:=q0z w base _ 3
theorem q1g (w:WD):Jz (w.alloc (.cells #[] 32)) w.1.size (some ⟨w.1.size,0,none⟩) 0 0 []:=qtq w _ 3
theorem q1z (w:WD)(e:Qm):Zg (w.alloc (.cells #[.string e.name,.int .i64 e.ino,.int .i64 e.kind] 32)) (some ⟨w.1.size,0,none⟩) 1 1 [e]:=
 Jz.ents (q1n w _ 3 e.vs _ rfl rfl)
theorem q96 (ty:TypeId)(f:Jz w base A n c l)(B:OA)(m d:Nat)(G:List Qm)(H:Zg w B m d G)(E:n+m<=1000000)(p:base<=w.1.size) :
  ∃q D w',(Builtin.append_ #[26,26] ty #[.slice A n c,.slice B m d]).run prog w=.ok (.slice q (n+m) D) w'/\Jz w' base q (n+m) D (l++G)/\Turn (λk=>q01 A=some k) w w'/\(q01 q=q01 A\/q01 q=some w.1.size):=by
 by_cases hm:m=0
 ·subst hm;obtain rfl:G=[]:=BF H.len;obtain⟨i,hi,O,F,Q⟩:=info_parts Qbs.info;refine⟨A,c,w,q35 (P:=prog) base 26 ty 32 i 3 Qbs.sl hi A n c _ f.1 B d (by decide) F,?_,Turn.refl _ _,.inl rfl⟩;rw[BM];exact f
 ·obtain⟨q,D,w',h1,h2,I,J,_⟩:=q2m (P:=prog) w Qbs ty base A n c _ f B m d _ H (by omega) (λy M u K=>by
   obtain⟨e,_,rfl⟩:=List.mem_map.1 M;exact qr6 e u K) E (by decide) p
  refine⟨q,D,w',h1,?_,I,J⟩;rw[<-List.map_append] at h2;exact h2
theorem q36 {y:Array Oper}{e:List Oper}{o:Oper}{a:Act}{Q:Exit->Act->WD->Prop}(E:o.guard=none)(H x:Operand)
  (O:o.op=.call { callee:=.builtin .append,args:=#[H,x],argTypes:=#[26,26] })
  (R:a.eval H=.slice A n c) (q:Jz w base A n c l)
  (B:OA) (m d:Nat) (G:List Qm) (T:a.eval x=.slice B m d) (P:Zg w B m d G) (F:n+m<=1000000) (f:base<=w.1.size)
  (h:∀p D w',Jz w' base p (n+m) D (l++G)->Turn (λk=>q01 A=some k) w w'->(q01 p=q01 A\/q01 p=some w.1.size)->wpList prog y Q e (a.put o.dst (.slice p (n+m) D)) w'):wpList prog y Q (o::e) a w:=
 wpList_plain E λK M=>by
  obtain⟨p,D,w',u,h2,I,J⟩:=q96 (w:=w) o.type q B m d G P F f;unfold Oper.wp execOp;simp only[O,resolve,invoke,builtin,Sem.run_bind,Sem.run_pure,Result.andThen_ok,List.map_toArray,BJ,List.map_nil,R,T,u];exact M _ _ (h p D w' h2 I J)
theorem Na {o:Oper}{a:Act}{K:Act->WD->Prop}{F:Exit->Act->WD->Prop}(E x:Operand)
  (I:o.op=.call { callee:=.builtin .append,args:=#[E,x],argTypes:=#[26,26] })
  (M:a.eval E=.slice A n c) (p:Jz w base A n c l)
  (B:OA) (m d:Nat) (D:List Qm) (O:a.eval x=.slice B m d) (J:Zg w B m d D) (y:n+m<=1000000) (e:base<=w.1.size)
  (h:∀f u w',Jz w' base f (n+m) u (l++D)->Turn (λk=>q01 A=some k) w w'->(q01 f=q01 A\/q01 f=some w.1.size)->K (a.put o.dst (.slice f (n+m) u)) w'):Oper.wp prog o a w K F:=by
 obtain⟨f,u,w',q,h2,G,H⟩:=q96 (w:=w) o.type p B m d D J y e;unfold Oper.wp execOp;simp only[I,resolve,invoke,builtin,Sem.run_bind,Sem.run_pure,Result.andThen_ok,List.map_toArray,BJ,List.map_nil,M,O,q];exact h f u w' h2 G H
end
