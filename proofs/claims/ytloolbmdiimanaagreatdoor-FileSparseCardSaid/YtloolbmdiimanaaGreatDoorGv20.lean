/- The code's node: whether all are noughts, by the library's Count -/
import Derived.Test.YtloolbmdiimanaaGreatDoorGv10
import Derived.Test.YtloolbmdiimanaaGreatDoorGv15
import Derived.Shelf.Bytes.SlCountOne
import Derived.Laws.Externs
namespace Go.Proofs.YtloolbmdiimanaaGreatDoor
open Go Go.RowKit Go.Proofs Tryz
set_option maxHeartbeats 8000000
set_option maxRecDepth 100000
def ints (l:LU):LI:=l.map λx=>(x.toNat:Int)
theorem qm8 (l:LU):Lib.bytesOf (ints l)=l:=by
 unfold Lib.bytesOf ints;rw[List.map_map];conv=>rhs;rw[<-List.map_id l]
 refine List.map_congr_left λx _=>?_
 simp
theorem qwt {w:WD}{a:Addr}{n c:Nat}{l:LU}(h:Sl w (some a) n c l):∀i,i<n->w.cell? (a.add i)=some (.int .u8 ((ints l).getD i 0)):=by
 intro i hi;obtain⟨g,e,_,d⟩:=h.cell hi;injection e with e;subst e;rw[d];have f:i<l.length:=by have:=h.len;omega
 simp[ints,Xr,List.getD_eq_getElem?_getD,List.getElem?_map,List.getElem?_eq_getElem f]
theorem qe6 {P:Program}{w:WD}{A:OA}{n c:Nat}{l:LU}(h:Sl w A n c l)(cv:Int) :
  (Extern.BytealgCount.count #[.slice A n c,.int .u8 cv]).run P w=.ok (.int .i64 (Lib.countByte l cv.toNat.toUInt8)) w:=by
 cases A with
 |some a=>
  have:=Lib.run_countAt (P:=P) w a n c (ints l) (by unfold ints;rw[AF];exact h.len) (qwt h) cv;rwa [qm8] at this
 |none=>
  have hn:n=0:=by
   rcases Nat.eq_zero_or_pos n with h0|h0
   ·exact h0
   ·obtain⟨f,e,_⟩:=h.cell h0
    cases e
  have d:l=[]:=BF (by rw[h.len];exact hn);rw[Lib.run_countNil,d];rfl
theorem qfw (l:LU):(Lib.countByte l 0=l.length)↔Yc l=true:=by
 unfold Lib.countByte Yc;rw[List.count_eq_length,List.all_eq_true];constructor
 ·intro h x d;rw[<-h x d];rfl
 ·intro h x d;have:=h x d;exact (by simpa using this:x=0).symm
theorem qce (A:OA)(n c:Nat)(l:LU)(g d:Nat)(w:WD)(h:Sl w A n c l)(m:w.cell? ⟨g,0,none⟩=some (.int .u8 0)) :
  Calls prog 105 #[.slice A n c,.slice (some ⟨g,0,none⟩) 1 d] w λe f=>e=.returned (.int .i64 (Lib.countByte l 0:Nat))/\w=f:=by
 go_enter func105,ntmps105
 go_wp2;rw[run_callFunc_extern func134 (by kernel_rfl) (by kernel_rfl) (by kernel_rfl) (e:=Extern.BytealgCount.count) (by kernel_rfl),qe6 h 0];simp only[Result.andThen];rw[Oper.upon_value];go_wp2;go_ret;exact⟨rfl,rfl⟩
theorem q33 (A:OA)(n c:Nat)(l:LU)(r:Bool)(u:Yc l=r)(w:WD)(h:Sl w A n c l) :
  Calls prog 121 #[.slice A n c] w λe y=>e=.returned (.bool r)/\Below w.1.size w y:=by
 have d:=h.len;have g:Below w.1.size w (w.alloc (.cells #[.int .u8 0] 5)):=Ql;have p:(w.alloc (.cells #[.int .u8 0] 5)).cell? ⟨w.1.size,0,none⟩=some (.int .u8 0):=by rw[cell_of_row _ _ _ _ _ _ (BE w _)];rfl
 obtain⟨q,m⟩:∃q,Lib.countByte l 0=q:=⟨_,rfl⟩;have f:=HI (show ((q:Int)==(n:Int))=r by
  have:=qfw l;rw[m,d,u] at this
  cases r
  ·exact AH (λe:(q:Int)=(n:Int)=>by have:=this.1 (by omega);cases this)
  ·exact AL (by have:=this.2 rfl;omega:(q:Int)=(n:Int)))
 clear d;go_enter func121,ntmps121
 go_wp2_with fail
 refine (qce A n c l w.1.size 1 _ (h.below g) p).mono ?_;rw[m];rintro e B ⟨rfl,rfl⟩;go_wp2;go_ret;exact⟨by rw[<-f.out];rfl,g⟩
def Ci (H:Hd)(addr:Int):Option (Nd × LU)->Option Nd
 |some (N,r)=>if H.kind=(if H.level=0 then 3 else 4)/\H.addr=addr/\Yc r=true/\N.may=true then some N else none
 |none=>none
def Zd (b:LU)(addr:Int):Option Nd:=if Me b=0 then Ci (Xo b) addr (Js (Xo b).level (Un b) (Xo b).count.toNat) else none
def q41 (b:LU)(addr:Int)(w:WD)(e:Ending)(w':WD):Prop:=
 ∃g f c1 m d p,e=.returned (.tuple #[.agg #[.int .i64 ((Zd b addr).getD ⟨0,[],[]⟩).lvl,.slice g f c1,.slice m d p],.int .i64 (if (Zd b addr).isSome=true then 0 else 3)])/\f<=20/\d<=20/\
   J5 w' w.1.size g f c1 ((Zd b addr).getD ⟨0,[],[]⟩).items/\Qz w' w.1.size 159 4 m d p (((Zd b addr).getD ⟨0,[],[]⟩).kids.map Qk.vs)/\Below w.1.size w w'
theorem J5.less {w:WD}{b base n c:Nat}{A:OA}{xs:List Qb}(h:J5 w base A n c xs)(hb:b<=base):J5 w b A n c xs:=by
 obtain⟨f,h1,h2,y⟩:=h;refine⟨f,h1.less hb,h2,λj r x B E=>?_⟩;obtain⟨V,p,q,e,D,d⟩:=y j r x B E;exact⟨V,p,q,e,D,λu g m=>⟨AZ hb (d u g m).1,(d u g m).2⟩⟩
theorem q42 {b:LU}{addr:Int}{w w':WD}(h:Zd b addr=none)(d:Below w.1.size w w'):q41 b addr w (.returned (.tuple #[.agg #[.int .i64 0,.slice none 0 0,.slice none 0 0],.int .i64 3])) w':=by
 unfold q41;rw[h];exact⟨none,0,0,none,0,0,rfl,by omega,by omega,P6 _ _,I5 _ _ _ _,d⟩
theorem qjw {b:LU}{addr:Int}{N:Nd}{w w':WD}(h:Zd b addr=some N){A:OA}{n c:Nat}{B:OA}{m d:Nat}(hn:n<=20)(hm:m<=20)(e:J5 w' w.1.size A n c N.items)(f:Qz w' w.1.size 159 4 B m d (N.kids.map Qk.vs))(g:Below w.1.size w w') :
  q41 b addr w (.returned (.tuple #[.agg #[.int .i64 N.lvl,.slice A n c,.slice B m d],.int .i64 0])) w':=by
 unfold q41;rw[h];exact⟨A,n,c,B,m,d,rfl,hn,hm,e,f,g⟩
theorem qfx (A:OA)(k c:Nat)(b:LU)(addr:Int)(w:WD)(hs:Sl w A k c b)(ht:Tab w) :
  Calls prog 86 #[.slice A k c,.int .i64 addr] w λe w'=>q41 b addr w e w':=by
 go_enter func86,ntmps86
 go_wp2_with fail
 have R1:NB (w.alloc (.cells #[.int .i64 0,.slice none 0 0,.slice none 0 0] 108)) w.1.size 0 none 0 0 none 0 0:=NB.new w _ _ _ _ _ _ _ _;have W1:Below w.1.size w (w.alloc (.cells #[.int .i64 0,.slice none 0 0,.slice none 0 0] 108)):=Ql;generalize w.alloc (.cells #[.int .i64 0,.slice none 0 0,.slice none 0 0] 108)=w1 at R1 W1 ⊢;have hO:=q5s A k c b w1 (hs.below W1) (ht.below W1 ht.1);unfold Tv Hd.v at hO;obtain⟨H,hH⟩:∃H,Xo b=H:=⟨_,rfl⟩;obtain⟨R,hR⟩:∃R,Un b=R:=⟨_,rfl⟩;obtain⟨E,hE⟩:∃E,Me b=E:=⟨_,rfl⟩;rw[hH,hR,hE] at hO;refine hO.mono ?_;clear hO;rintro e v ⟨A2,n2,c2,rfl,a5,b4⟩;have Rv:=R1.below b4 R1.lt;have Wv:=W1.trans (b4.mono W1.size);have bx:Below v.1.size v (v.alloc (.cells #[.int .i64 H.kind,.int .i64 H.addr,.int .i64 H.count,.int .i64 H.level,.int .i64 H.gen] 94)):=Ql;have H3:HB (v.alloc (.cells #[.int .i64 H.kind,.int .i64 H.addr,.int .i64 H.count,.int .i64 H.level,.int .i64 H.gen] 94)) v.1.size H:=⟨_,BE v _⟩;have R3:=Rv.below bx Rv.lt;have W3:=Wv.trans (bx.mono Wv.size);have s3:=a5.sl.below bx;have zw:w.1.size<v.1.size:=Rv.lt;have a3:v.1.size<(v.alloc (.cells #[.int .i64 H.kind,.int .i64 H.addr,.int .i64 H.count,.int .i64 H.level,.int .i64 H.gen] 94)).1.size:=by simp
 by_cases a7:E=0
 ·subst a7;have d8:R.length<=236:=by
   cases hb:okB b
   ·obtain⟨_,_,h3⟩:=qh8 hb;rw[h3] at hE;omega
   ·obtain⟨_,h2,_⟩:=q5y hb;have:=(AK hb).1;rw[<-hR,h2,AS];omega
  have b6:=qvl hE;rw[hH] at b6;have d4:(0<=H.level/\H.level<=8)/\0<=H.count/\H.count<=65535:=by
   have:=AK b6;omega
  obtain⟨⟨d5,d6⟩,d2,d3⟩:=d4;have e0:n2<=236:=by have:=a5.len;omega
  have F:=HI (show Zd b addr=Ci H addr (Js H.level R H.count.toNat) by unfold Zd;rw[hE,AA rfl,hH,hR]);have b7:∀g,q01 A2=some g->g<v.1.size:=λg hg=>by
   cases A2 with
   |none=>cases hg
   |some ad=>have:=(a5.block ad rfl).2;have e:ad.block=g:=OI hg;omega
  clear b6 hE hH hR Rv Wv bx a5 b4;obtain⟨kd,ad,ct,D,gn⟩:=H;simp only at d5 d6 d2 d3;obtain⟨cnt,rfl⟩:∃cnt:Nat,ct=(cnt:Int):=⟨ct.toNat,by omega⟩;obtain⟨Kb,d0⟩:∃Kb:Int,(if D=0 then 3 else 4)=Kb:=⟨_,rfl⟩;have a6:=HI d0;clear d0;go_wp2_with fail
  generalize v.alloc (.cells #[.int .i64 kd,.int .i64 ad,.int .i64 (cnt:Int),.int .i64 D,.int .i64 gn] 94)=w3 at H3 R3 W3 s3 a3 ⊢;have y0:=H3.at_ 0;have y1:=H3.at_ 2;have y3:=H3.at_ 1;simp only[Xv,Hd.Bf] at y0 y1 y3;have p0:∀u:Grown w3,u.to.cell? ⟨v.1.size,0,none⟩=some (.int .i64 kd):=Grown.cell y0 a3;have p1:∀u:Grown w3,u.to.cell? ⟨v.1.size,1,none⟩=some (.int .i64 ad):=Grown.cell y1 a3;have p3:∀u:Grown w3,u.to.cell? ⟨v.1.size,3,none⟩=some (.int .i64 D):=Grown.cell y3 a3;clear y0 y1 y3;by_cases hk:kd=Kb
  ·have Hk:=HI hk;have k1:(kd==Kb)=true:=by simp[hk]
   have k2:(kd != Kb)=false:=by simp[hk]
   clear hk;by_cases ha:ad=addr
   ·have Ha:=HI ha;have a1:(ad==addr)=true:=by simp[ha]
    have a2:(ad != addr)=false:=by simp[ha]
    clear ha;refine Ug (by kernel_rfl) (by kernel_rfl) ?_;repeat (go_big_quiet_step (first
     |(go_at_call 115;exact Calls.J7 (q4e D Kb a6.out _))
     |fail))
    refine wpQuiet_nil ?_;rintro _ ⟨u,rfl⟩;have H4:=H3.below u.ok a3;have R4:=R3.below u.ok R3.lt;have W4:=W3.trans (u.ok.mono W3.size);have s4:=s3.below u.ok;have J:v.1.size<u.to.1.size:=Nat.lt_of_lt_of_le a3 u.ok.size;generalize u.to=w4 at H4 R4 W4 s4 J ⊢;clear p0 p1 p3 H3 R3 W3 s3 a3 k1 k2 a1 a2 u;have y3:=H4.at_ 1;simp only[Xv,Hd.Bf] at y3;by_cases b3:D=0
    ·subst b3;have d1:=HI (show Kb=3 by rw[<-a6.out];rfl);go_wp2_with fail
     have N5:NB (w4.alloc (.cells #[.int .i64 0,.slice none 0 0,.slice none 0 0] 108)) w4.1.size 0 none 0 0 none 0 0:=NB.new w4 _ _ _ _ _ _ _ _;have b5:Below w4.1.size w4 (w4.alloc (.cells #[.int .i64 0,.slice none 0 0,.slice none 0 0] 108)):=Ql;have H5:=H4.below b5 J;have R5:=R4.below b5 R4.lt;have W5:=W4.trans (b5.mono W4.size);have s5:=s4.below b5;generalize w4.alloc (.cells #[.int .i64 0,.slice none 0 0,.slice none 0 0] 108)=w5 at N5 b5 H5 R5 W5 s5 ⊢;obtain⟨p,a4⟩:∃p,w4.1.size=p:=⟨_,rfl⟩;have d7:v.1.size<p:=by rw[<-a4];exact J
     rw[a4] at N5 ⊢;clear a4 b5 H4 R4 W4 s4 J;refine (Pz 0 true rfl none 0 0 none 0 0 w5).mono ?_;rintro e w6 ⟨rfl,G⟩;have N6:=N5.below G N5.lt;have H6:=H5.below G (by have:=N5.lt;omega);have R6:=R5.below G R5.lt;have W6:=W5.trans (G.mono W5.size);have s6:=s5.below G;have y2:=H6.at_ 3;simp only[Xv,Hd.Bf] at y2;clear N5 H5 R5 W5 s5 G;go_wp2_with fail
     refine (qlx R cnt A2 n2 c2 w6 s6 (by omega) (by omega)).mono ?_;rintro e w7 (⟨X,r,A1,c1,A4,n4,c4,M,rfl,b2,row,s7,a0,d⟩|⟨E,hE,M,rfl,d⟩)
     ·have I:=HI (show Zd b addr=(if Yc r=true/\(⟨0,X,[]⟩:Nd).may=true then some (⟨0,X,[]⟩:Nd) else none) by
        rw[F.out];show Ci ⟨kd,ad,(cnt:Int),0,gn⟩ addr (Js 0 R (cnt:Int).toNat)=_;rw[AJ,M];show (if kd=(if (0:Int)=0 then 3 else 4)/\ad=addr/\Yc r=true/\(⟨0,X,[]⟩:Nd).may=true then some (⟨0,X,[]⟩:Nd) else none)=_;rw[AA (rfl:(0:Int)=0),<-d1.out];by_cases O:Yc r=true/\(⟨0,X,[]⟩:Nd).may=true
        ·rw[AA O,AA ⟨Hk.out,Ha.out,O⟩]
        ·rw[AB O,AB (λh=>O h.2.2)])
      have Z:=N6.below d N6.lt;have R7:=R6.below d R6.lt;have W7:=W6.trans (d.mono W6.size);have z6:p<w6.1.size:=N6.lt;have f1:=Z.fz 1;have g1:=Z.c1;have U:Turn (λg=>g=p) w7 (w7.setCell ⟨p,1,none⟩ (.slice A1 cnt c1)):=Cc (a:=⟨p,1,none⟩) _ rfl;have N8:=Z.set1 A1 cnt c1;have Y:=R7.keep (U.block w.1.size R7.lt (by show ¬w.1.size=p;omega));have P:=row.low U (λk hk=>by have:k=p:=hk;omega);have s8:=s7.turned U (λg hg e=>by
       have h2:g=p:=e;rcases a0 g hg with h1|h1
       ·have:=b7 g h1;omega
       ·omega)
      have W8:=W7.trans (U.below (B:=w.1.size) (λx hx=>by have:x=p:=hx;omega) (by have:=W7.size;omega));clear N6 R6 W6 s6 H6 d Z R7 W7 row s7 a0 M y2;go_wp2_with fail
      generalize w7.setCell ⟨p,1,none⟩ (.slice A1 cnt c1)=w8 at N8 Y P s8 W8 U ⊢;clear U f1 g1
      cases O:Yc r
      ·refine (q33 A4 n4 c4 r false O w8 s8).mono ?_;rintro e w9 ⟨rfl,f⟩;have R9:=Y.below f Y.lt;have W9:=W8.trans (f.mono W8.size);have m:=HI (I.out.trans (AB (λh=>by rw[O] at h;exact absurd h.1 (by simp))));clear O I;go_wp2_with (first
        |(refine Ae rfl (.tmp 4) (.tmp 68) rfl w.1.size rfl 0 none 0 0 none 0 0 rfl R9 ?_;intro wz T K)
        |fail)
       refine bodyPost_ret (Ag Tryz.results86 rfl (Ik T)) rfl ?_;exact q42 m.out (W9.trans (K.Q9 R9.lt))
      ·refine (q33 A4 n4 c4 r true O w8 s8).mono ?_;rintro e w9 ⟨rfl,f⟩;have N9:=N8.below f N8.lt;have R9:=Y.below f Y.lt;have Q:=P.below f;have W9:=W8.trans (f.mono W8.size);have q0:=N9.c0;have q1:=N9.c1;have q2:=N9.c2;have Hz:=HI O;clear O N8 Y P s8 W8 f;go_wp2_with fail
       cases hm:(⟨0,X,[]⟩:Nd).may
       ·refine (q28 ⟨0,X,[]⟩ false hm A1 cnt c1 none 0 0 w9 Q.Y6 (qkg w9) (by omega) (by omega)).mono ?_;rintro e wA ⟨rfl,y⟩;have RA:=R9.below y R9.lt;have WA:=W9.trans (y.mono W9.size);have m:=HI (I.out.trans (AB (λh=>by rw[hm] at h;exact absurd h.2 (by simp))));clear hm I q0 q1 q2;go_wp2_with (first
         |(refine Ae rfl (.tmp 4) (.tmp 68) rfl w.1.size rfl 0 none 0 0 none 0 0 rfl RA ?_;intro wz T K)
         |fail)
        refine bodyPost_ret (Ag Tryz.results86 rfl (Ik T)) rfl ?_;exact q42 m.out (WA.trans (K.Q9 RA.lt))
       ·refine (q28 ⟨0,X,[]⟩ true hm A1 cnt c1 none 0 0 w9 Q.Y6 (qkg w9) (by omega) (by omega)).mono ?_;rintro e wA ⟨rfl,y⟩;have RA:=R9.below y R9.lt;have NA:=N9.below y N9.lt;have W:=Q.below y;have WA:=W9.trans (y.mono W9.size);have b0:=HI (I.out.trans (AA (And.intro Hz.out hm)));have a9:=q2z hm;have a8:cnt<=20:=by have h1:=a9.1;have h2:=W.Y6.len;have h3:X.length<=6:=h1;omega
        have q0:=NA.c0;have q1:=NA.c1;have q2:=NA.c2;clear hm I a9;go_wp2_with (first
         |(refine Ae rfl (.tmp 4) (.tmp 69) rfl w.1.size rfl 0 A1 cnt c1 none 0 0 rfl RA ?_;intro wz T K)
         |fail)
        refine bodyPost_ret (Ag Tryz.results86 rfl (Ik T)) rfl ?_;have b1:=W.low K (λk hk=>by have:k=w.1.size:=hk;omega);exact qjw b0.out a8 (by omega) (b1.less (by omega)) (I5 _ _ _ _) (WA.trans (K.Q9 RA.lt))
     ·have m:=HI (show Zd b addr=none by
        rw[F.out];show Ci ⟨kd,ad,(cnt:Int),0,gn⟩ addr (Js 0 R (cnt:Int).toNat)=none;rw[AJ,M];rfl)
      have Z:=N6.below d N6.lt;have R7:=R6.below d R6.lt;have W7:=W6.trans (d.mono W6.size);have f1:=Z.fz 1;have g1:=Z.c1;have U:Turn (λg=>g=p) w7 (w7.setCell ⟨p,1,none⟩ (.slice none 0 0)):=Cc (a:=⟨p,1,none⟩) _ rfl;have Y:=R7.keep (U.block w.1.size R7.lt (by show ¬w.1.size=p;omega));have W8:=W7.trans (U.below (B:=w.1.size) (λx hx=>by have:x=p:=hx;omega) (by have:=W7.size;omega));have b8:decide (E=0)=false:=AH hE;have b9:(E==0)=false:=by simp[hE]
      have c9:(E != 0)=true:=by simp[hE]
      clear N6 R6 W6 s6 H6 d Z R7 W7 M y2 U;go_wp2_with (first
       |(refine Ae rfl (.tmp 4) (.tmp 68) rfl w.1.size rfl 0 none 0 0 none 0 0 rfl Y ?_;intro wz T K)
       |fail)
      refine bodyPost_ret (Ag Tryz.results86 rfl (Ik T)) rfl ?_;exact q42 m.out (W8.trans (K.Q9 Y.lt))
    ·have d9:decide (D=0)=false:=AH b3;go_wp2_with fail
     have N5:NB (w4.alloc (.cells #[.int .i64 D,.slice none 0 0,.slice none 0 0] 108)) w4.1.size D none 0 0 none 0 0:=NB.new w4 _ _ _ _ _ _ _ _;have b5:Below w4.1.size w4 (w4.alloc (.cells #[.int .i64 D,.slice none 0 0,.slice none 0 0] 108)):=Ql;have H5:=H4.below b5 J;have R5:=R4.below b5 R4.lt;have W5:=W4.trans (b5.mono W4.size);have s5:=s4.below b5;generalize w4.alloc (.cells #[.int .i64 D,.slice none 0 0,.slice none 0 0] 108)=w5 at N5 b5 H5 R5 W5 s5 ⊢;obtain⟨p,a4⟩:∃p,w4.1.size=p:=⟨_,rfl⟩;have d7:v.1.size<p:=by rw[<-a4];exact J
     rw[a4] at N5 ⊢;clear a4 b5 H4 R4 W4 s4 J;refine (Pz D false (AH b3) none 0 0 none 0 0 w5).mono ?_;rintro e w6 ⟨rfl,G⟩;have N6:=N5.below G N5.lt;have H6:=H5.below G (by have:=N5.lt;omega);have R6:=R5.below G R5.lt;have W6:=W5.trans (G.mono W5.size);have s6:=s5.below G;have y2:=H6.at_ 3;simp only[Xv,Hd.Bf] at y2;clear N5 H5 R5 W5 s5 G;go_wp2_with fail
     refine (qly D b3 R cnt A2 n2 c2 w6 s6 (by omega) (by omega)).mono ?_;rintro e w7 (⟨X,r,A1,c1,A4,n4,c4,M,rfl,b2,row,s7,a0,d⟩|⟨E,hE,M,rfl,d⟩)
     ·have I:=HI (show Zd b addr=(if Yc r=true/\(⟨D,[],X⟩:Nd).may=true then some (⟨D,[],X⟩:Nd) else none) by
        rw[F.out];show Ci ⟨kd,ad,(cnt:Int),D,gn⟩ addr (Js D R (cnt:Int).toNat)=_;rw[AJ,M];show (if kd=(if (D:Int)=0 then 3 else 4)/\ad=addr/\Yc r=true/\(⟨D,[],X⟩:Nd).may=true then some (⟨D,[],X⟩:Nd) else none)=_;rw[a6.out];by_cases O:Yc r=true/\(⟨D,[],X⟩:Nd).may=true
        ·rw[AA O,AA ⟨Hk.out,Ha.out,O⟩]
        ·rw[AB O,AB (λh=>O h.2.2)])
      have Z:=N6.below d N6.lt;have R7:=R6.below d R6.lt;have W7:=W6.trans (d.mono W6.size);have z6:p<w6.1.size:=N6.lt;have f1:=Z.fz 2;have g1:=Z.c2;have U:Turn (λg=>g=p) w7 (w7.setCell ⟨p,2,none⟩ (.slice A1 cnt c1)):=Cc (a:=⟨p,2,none⟩) _ rfl;have N8:=Z.set2 A1 cnt c1;have Y:=R7.keep (U.block w.1.size R7.lt (by show ¬w.1.size=p;omega));have P:=row.turned U (λk hk e=>by have h1:=(row.Qc k hk).1;have h2:k=p:=e;omega);have s8:=s7.turned U (λg hg e=>by
       have h2:g=p:=e;rcases a0 g hg with h1|h1
       ·have:=b7 g h1;omega
       ·omega)
      have W8:=W7.trans (U.below (B:=w.1.size) (λx hx=>by have:x=p:=hx;omega) (by have:=W7.size;omega));clear N6 R6 W6 s6 H6 d Z R7 W7 row s7 a0 M y2;go_wp2_with fail
      generalize w7.setCell ⟨p,2,none⟩ (.slice A1 cnt c1)=w8 at N8 Y P s8 W8 U ⊢;clear U f1 g1
      cases O:Yc r
      ·refine (q33 A4 n4 c4 r false O w8 s8).mono ?_;rintro e w9 ⟨rfl,f⟩;have R9:=Y.below f Y.lt;have W9:=W8.trans (f.mono W8.size);have m:=HI (I.out.trans (AB (λh=>by rw[O] at h;exact absurd h.1 (by simp))));clear O I;go_wp2_with (first
        |(refine Ae rfl (.tmp 4) (.tmp 68) rfl w.1.size rfl 0 none 0 0 none 0 0 rfl R9 ?_;intro wz T K)
        |fail)
       refine bodyPost_ret (Ag Tryz.results86 rfl (Ik T)) rfl ?_;exact q42 m.out (W9.trans (K.Q9 R9.lt))
      ·refine (q33 A4 n4 c4 r true O w8 s8).mono ?_;rintro e w9 ⟨rfl,f⟩;have N9:=N8.below f N8.lt;have R9:=Y.below f Y.lt;have Q:=P.below f;have W9:=W8.trans (f.mono W8.size);have q0:=N9.c0;have q1:=N9.c1;have q2:=N9.c2;have Hz:=HI O;clear O N8 Y P s8 W8 f;go_wp2_with fail
       cases hm:(⟨D,[],X⟩:Nd).may
       ·refine (q28 ⟨D,[],X⟩ false hm none 0 0 A1 cnt c1 w9 (qkf w9) (show Zn _ _ _ _ _ from Q.Um (by omega)) (by omega) (by omega)).mono ?_;rintro e wA ⟨rfl,y⟩;have RA:=R9.below y R9.lt;have WA:=W9.trans (y.mono W9.size);have m:=HI (I.out.trans (AB (λh=>by rw[hm] at h;exact absurd h.2 (by simp))));clear hm I q0 q1 q2;go_wp2_with (first
         |(refine Ae rfl (.tmp 4) (.tmp 68) rfl w.1.size rfl 0 none 0 0 none 0 0 rfl RA ?_;intro wz T K)
         |fail)
        refine bodyPost_ret (Ag Tryz.results86 rfl (Ik T)) rfl ?_;exact q42 m.out (WA.trans (K.Q9 RA.lt))
       ·refine (q28 ⟨D,[],X⟩ true hm none 0 0 A1 cnt c1 w9 (qkf w9) (show Zn _ _ _ _ _ from Q.Um (by omega)) (by omega) (by omega)).mono ?_;rintro e wA ⟨rfl,y⟩;have RA:=R9.below y R9.lt;have NA:=N9.below y N9.lt;have W:=Q.below y;have WA:=W9.trans (y.mono W9.size);have b0:=HI (I.out.trans (AA (And.intro Hz.out hm)));have a9:=q2z hm;have a8:cnt<=20:=by have h1:=a9.2.1;have h2:=(show Zn _ _ _ _ X from W.Um (by omega)).len;have h3:X.length<=12:=h1;omega
        have q0:=NA.c0;have q1:=NA.c1;have q2:=NA.c2;clear hm I a9;go_wp2_with (first
         |(refine Ae rfl (.tmp 4) (.tmp 69) rfl w.1.size rfl D none 0 0 A1 cnt c1 rfl RA ?_;intro wz T K)
         |fail)
        refine bodyPost_ret (Ag Tryz.results86 rfl (Ik T)) rfl ?_;have b1:=W.turned K (λk hk e=>by have h1:=(W.Qc k hk).1;have h2:k=w.1.size:=e;omega);exact qjw b0.out (by omega) a8 (P6 _ _) (Qz.less b1 (by omega)) (WA.trans (K.Q9 RA.lt))
     ·have m:=HI (show Zd b addr=none by
        rw[F.out];show Ci ⟨kd,ad,(cnt:Int),D,gn⟩ addr (Js D R (cnt:Int).toNat)=none;rw[AJ,M];rfl)
      have Z:=N6.below d N6.lt;have R7:=R6.below d R6.lt;have W7:=W6.trans (d.mono W6.size);have f1:=Z.fz 2;have g1:=Z.c2;have U:Turn (λg=>g=p) w7 (w7.setCell ⟨p,2,none⟩ (.slice none 0 0)):=Cc (a:=⟨p,2,none⟩) _ rfl;have Y:=R7.keep (U.block w.1.size R7.lt (by show ¬w.1.size=p;omega));have W8:=W7.trans (U.below (B:=w.1.size) (λx hx=>by have:x=p:=hx;omega) (by have:=W7.size;omega));have b8:decide (E=0)=false:=AH hE;have b9:(E==0)=false:=by simp[hE]
      have c9:(E != 0)=true:=by simp[hE]
      clear N6 R6 W6 s6 H6 d Z R7 W7 M y2 U;go_wp2_with (first
       |(refine Ae rfl (.tmp 4) (.tmp 68) rfl w.1.size rfl 0 none 0 0 none 0 0 rfl Y ?_;intro wz T K)
       |fail)
      refine bodyPost_ret (Ag Tryz.results86 rfl (Ik T)) rfl ?_;exact q42 m.out (W8.trans (K.Q9 Y.lt))
   ·have m:=HI (show Zd b addr=none by
     rw[F.out]
     cases Js D R (cnt:Int).toNat with
     |none=>rfl
     |some x=>exact AB (λh=>ha h.2.1))
    have a1:(ad==addr)=false:=by simp[ha]
    have a2:(ad != addr)=true:=by simp[ha]
    clear ha;refine Ug (by kernel_rfl) (by kernel_rfl) ?_;repeat (go_big_quiet_step (first
     |(go_at_call 115;exact Calls.J7 (q4e D Kb a6.out _))
     |fail))
    refine wpQuiet_nil ?_;rintro _ ⟨u,rfl⟩;have R4:=R3.below u.ok R3.lt;have W4:=W3.trans (u.ok.mono W3.size);clear p0 p1 p3;go_wp2_with (first
     |(refine Ae rfl (.tmp 4) (.tmp 32) rfl w.1.size rfl 0 none 0 0 none 0 0 rfl R4 ?_;intro wz T K)
     |fail)
    refine bodyPost_ret (Ag Tryz.results86 rfl (Ik T)) rfl ?_;exact q42 m.out (W4.trans (K.Q9 R4.lt))
  ·have m:=HI (show Zd b addr=none by
    rw[F.out]
    cases Js D R (cnt:Int).toNat with
    |none=>rfl
    |some x=>exact AB (λh=>hk (h.1.trans a6.out)))
   have k1:(kd==Kb)=false:=by simp[hk]
   have k2:(kd != Kb)=true:=by simp[hk]
   clear hk;refine Ug (by kernel_rfl) (by kernel_rfl) ?_;repeat (go_big_quiet_step (first
    |(go_at_call 115;exact Calls.J7 (q4e D Kb a6.out _))
    |fail))
   refine wpQuiet_nil ?_;rintro _ ⟨u,rfl⟩;have R4:=R3.below u.ok R3.lt;have W4:=W3.trans (u.ok.mono W3.size);clear p0 p1 p3;go_wp2_with (first
    |(refine Ae rfl (.tmp 4) (.tmp 32) rfl w.1.size rfl 0 none 0 0 none 0 0 rfl R4 ?_;intro wz T K)
    |fail)
   refine bodyPost_ret (Ag Tryz.results86 rfl (Ik T)) rfl ?_;exact q42 m.out (W4.trans (K.Q9 R4.lt))
 ·have m:=HI (show Zd b addr=none by unfold Zd;rw[hE,AB a7]);have b8:decide (E=0)=false:=AH a7;have b9:(E==0)=false:=by simp[a7]
  have c9:(E != 0)=true:=by simp[a7]
  clear a7 hE hH hR Rv Wv;go_wp2_with fail
  generalize v.alloc (.cells #[.int .i64 H.kind,.int .i64 H.addr,.int .i64 H.count,.int .i64 H.level,.int .i64 H.gen] 94)=w3 at H3 R3 W3 s3 a3 ⊢;refine Ug (by kernel_rfl) (by kernel_rfl) ?_;repeat (go_big_quiet_step (fail))
  refine wpQuiet_nil ?_;rintro _ ⟨u,rfl⟩;have R4:=R3.below u.ok R3.lt;have W4:=W3.trans (u.ok.mono W3.size);go_wp2_with (first
   |(refine Ae rfl (.tmp 4) (.tmp 32) rfl w.1.size rfl 0 none 0 0 none 0 0 rfl R4 ?_;intro wz T K)
   |fail)
  refine bodyPost_ret (Ag Tryz.results86 rfl (Ik T)) rfl ?_;exact q42 m.out (W4.trans (K.Q9 R4.lt))
theorem qvp {r:LU}(h:U8 r=0):r=(Gx r).bytes++Wl r:=by
 unfold U8 at h;split at h
 ·rename_i d;have g:9<=r.length:=AK (by unfold ktY at d;rw[BN] at d;exact d.1);unfold Gx Wl;rw[AA d,AA d];unfold Dh Kd.bytes;dsimp only;rw[q3d _ 4 (by simp;omega),q3d _ 1 (by simp;omega),q3d _ 4 (by simp;omega)];have f:(r.drop 5).take 4++r.drop 9=r.drop 5:=by have:=AV 4 (r.drop 5);rwa [List.drop_drop] at this
  have e:(r.drop 4).take 1++r.drop 5=r.drop 4:=by have:=AV 1 (r.drop 4);rwa [List.drop_drop] at this
  rw[AM,AM,f,e,AV]
 ·split at h<;>omega
theorem qyj {r:LU}(h:Ir r=0):r=Q8 ((Lc r).length:Int) 1++(Lc r++Nj r):=by
 unfold Ir at h;split at h
 ·rename_i d;obtain⟨h1,h2⟩:=AK d;unfold Lc Nj;rw[AA d,AA d];unfold bodyT Uz;have e:((r.drop 1).take (Qq (r.take 1))).length=Qq (r.take 1):=by rw[AR,AS];omega
  rw[e,q3d _ 1 (by simp;omega)];have f:(r.drop 1).take (Qq (r.take 1))++r.drop (1+Qq (r.take 1))=r.drop 1:=by have:=AV (Qq (r.take 1)) (r.drop 1);rwa [List.drop_drop] at this
  rw[f,AV]
 ·omega
theorem qyk {r:LU}(h:Iq r=0):r=Q8 (Pm r) 2++Nh r:=by
 unfold Iq at h;split at h
 ·rename_i d;have h1:=AK d;unfold Pm Nh;rw[AA d,AA d,q3d _ 2 (by simp;omega),AV]
 ·omega
theorem qwu (v l:LU)(m:v.length<=255):Lc (Q8 (v.length:Int) 1++(v++l))=v/\Nj (Q8 (v.length:Int) 1++(v++l))=l/\Ir (Q8 (v.length:Int) 1++(v++l))=0:=by
 have e:(Q8 (v.length:Int) 1++(v++l)).take 1=Q8 (v.length:Int) 1:=List.take_left' (Xz _ _);have f:(Q8 (v.length:Int) 1++(v++l)).drop 1=v++l:=List.drop_left' (Xz _ _);have g:Qq (Q8 (v.length:Int) 1)=v.length:=by rw[qbq,Nat.mod_eq_of_lt (by omega)]
 have d:ttY (Q8 (v.length:Int) 1++(v++l))=true:=by
  refine AL ?_;rw[e,g];simp[Xz]
 unfold Lc Nj Ir bodyT Uz;rw[AA d,AA d,AA d,e,g,f,<-List.drop_drop,f];exact⟨List.take_left' rfl,List.drop_left' rfl,rfl⟩
theorem qwv (a:Int)(l:LU)(h0:0<=a)(h1:a<65536):Pm (Q8 a 2++l)=a/\Nh (Q8 a 2++l)=l/\Iq (Q8 a 2++l)=0:=by
 have d:t2Y (Q8 a 2++l)=true:=AL (by rw[AD,Xz];omega);unfold Pm Nh Iq;rw[AA d,AA d,AA d,List.take_left' (Xz _ _),List.drop_left' (Xz _ _),Rf a 2 h0 (by omega)];exact⟨rfl,rfl,rfl⟩
theorem qfy (xs:List Qb)(x:Qb)(l:LU)(y:x.k.may=true)(A:x.v.length<=28):Xa ⟨0,xs,[]⟩ (Ew x++l)=some (⟨0,xs++[x],[]⟩,l):=by
 have e:Ew x++l=x.k.bytes++(Q8 (x.v.length:Int) 1++(x.v++l)):=by unfold Ew;simp
 obtain⟨d,f,g⟩:=qrt x.k y (Q8 (x.v.length:Int) 1++(x.v++l));obtain⟨m,p,u⟩:=qwu x.v l (by omega);rw[e];unfold Xa;rw[d,f,g,m,p,u,AA rfl,AA rfl,AA rfl]
theorem qe7 (d:Int)(B:d≠0)(xs:List Qk)(x:Qk)(l:LU)(A:x.k.may=true)(h0:0<=x.a)(h1:x.a<65536):Xa ⟨d,[],xs⟩ (Eu x++l)=some (⟨d,[],xs++[x]⟩,l):=by
 have e:Eu x++l=x.k.bytes++(Q8 x.a 2++l):=by unfold Eu;simp
 obtain⟨f,g,m⟩:=qrt x.k A (Q8 x.a 2++l);obtain⟨p,u,y⟩:=qwv x.a l h0 h1;rw[e];unfold Xa;rw[f,g,m,p,u,y,AA rfl,AB B,AA rfl]
theorem qjx (xs:List Qb)(z:LU)(e:∀j,j<xs.length->(Qu xs j).k.may=true/\(Qu xs j).v.length<=28):∀j,j<=xs.length->Js 0 (xs.flatMap Ew++z) j=some (⟨0,xs.take j,[]⟩,(xs.drop j).flatMap Ew++z)
 |0,_=>rfl
 |j+1,hj=>by
  have g:=qjx xs z e j (by omega);rw[q4m _ _ _ _ _ g];have d:=Et (show j<xs.length by omega);have hd:xs.drop j=Qu xs j::xs.drop (j+1):=by
   rw[<-List.getElem_cons_drop (h:=by omega)];rw[AC (by omega)] at d;rw[OI d]
  obtain⟨h1,h2⟩:=e j (by omega);rw[hd,BC,AM,qfy _ _ _ h1 h2];have f:xs.take (j+1)=xs.take j++[Qu xs j]:=by
   rw[List.take_succ_eq_append_getElem (by omega)];rw[AC (by omega)] at d;rw[OI d]
  rw[f]
theorem qp4 (d:Int)(g:d≠0)(xs:List Qk)(z:LU)(f:∀j,j<xs.length->(Qi xs j).k.may=true/\0<=(Qi xs j).a/\(Qi xs j).a<65536):∀j,j<=xs.length->Js d (xs.flatMap Eu++z) j=some (⟨d,[],xs.take j⟩,(xs.drop j).flatMap Eu++z)
 |0,_=>rfl
 |j+1,hj=>by
  have u:=qp4 d g xs z f j (by omega);rw[q4m _ _ _ _ _ u];have e:=q16 (show j<xs.length by omega);have hd:xs.drop j=Qi xs j::xs.drop (j+1):=by
   rw[<-List.getElem_cons_drop (h:=by omega)];rw[AC (by omega)] at e;rw[OI e]
  obtain⟨h1,h2,m⟩:=f j (by omega);rw[hd,BC,AM,qe7 d g _ _ _ h1 h2 m];have p:xs.take (j+1)=xs.take j++[Qi xs j]:=by
   rw[List.take_succ_eq_append_getElem (by omega)];rw[AC (by omega)] at e;rw[OI e]
  rw[p]
theorem qww {N:Nd}(hm:N.may=true)(z:LU):Js N.lvl (N.body++z) (N.items.length+N.kids.length)=some (N,z):=by
 have e:=Pe hm;obtain⟨l,its,g⟩:=N;by_cases f:l=0
 ·subst f;have p:g=[]:=e.1 rfl;subst p;have u:=hm;rw[qjh _ rfl rfl] at hm;unfold Dj at hm;rw[BN] at hm;have h2:=qdw.1 hm.2;have:=qjx its z (λj m=>by
   have d:=h2 j m;unfold okI Ws Ot at d;rw[BN,BN,qf5] at d;exact⟨d.1.1,AK d.2⟩) its.length (AE _)
  unfold Nd.body;simp only[List.flatMap_nil,BM,List.length_nil,Nat.add_zero];rw[this,List.take_length,List.drop_length];rfl
 ·have hi:its=[]:=e.2 f;subst hi;have y:1<=l/\l<=7:=by
   unfold Nd.may at hm;rw[AB f,BN,BN] at hm;have h:=AK hm.2.2;exact⟨h.1,Int.lt_add_one_iff.1 h.2.1⟩
  rw[qfe _ f y rfl] at hm;unfold Dk at hm;rw[BN] at hm;have h2:=qdw.1 hm.2;have:=qp4 l f g z (λj m=>by
   have d:=h2 j m;unfold okK Ws Ou at d;rw[BN,BN,qbt] at d;have A:1<=(Qi g j).a/\(Qi g j).a<=2047:=AK d.2;exact⟨d.1.1,by omega,by omega⟩) g.length (AE _)
  unfold Nd.body;simp only[List.flatMap_nil,BG,List.length_nil,AT];rw[this,List.take_length,List.drop_length];rfl
theorem qvq (l:Int)(body:LU):∀(j:Nat) (N:Nd) (r:LU),Js l body j=some (N,r)->body=N.body++r/\N.lvl=l/\N.items.length+N.kids.length=j/\(l=0->N.kids=[])/\(l≠0->N.items=[])
 |0,N,r,h=>by
  injection h with h;injection h with h1 h2;subst h1 h2;exact⟨rfl,rfl,rfl,λ_=>rfl,λ_=>rfl⟩
 |j+1,N,r,h=>by
  cases u:Js l body j with
  |none=>rw[qa5 l body j (j+1) u (by omega)] at h;cases h
  |some p=>
   obtain⟨M,s⟩:=p;rw[q4m _ _ _ _ _ u] at h;obtain⟨y,m,E,B,D⟩:=qvq l body j M s u;unfold Xa at h;split at h
   ·rename_i A;split at h
    ·rename_i h0;split at h
     ·rename_i f;injection h with h;injection h with h1 h2;subst h1 h2;have g:l=0:=m.symm.trans h0;have d:=B g;refine⟨?_,m,?_,λ_=>d,λh=>absurd g h⟩
      ·rw[y];unfold Nd.body;dsimp only;rw[d];simp only[List.flatMap_nil,BM,List.flatMap_append,BC];rw[AM];congr 1
       conv=>lhs;rw[qvp A,qyj f]
       unfold Ew;simp
      ·dsimp only;rw[AD];simp;omega
     ·cases h
    ·rename_i h0;split at h
     ·rename_i f;injection h with h;injection h with h1 h2;subst h1 h2;have g:l≠0:=λe=>h0 (m.trans e)
      have d:=D g;refine⟨?_,m,?_,λh=>absurd h g,λ_=>d⟩
      ·rw[y];unfold Nd.body;dsimp only;rw[d];simp only[List.flatMap_nil,BG,List.flatMap_append,BC];rw[AM];congr 1
       conv=>lhs;rw[qvp A,qyk f]
       unfold Eu;simp
      ·dsimp only;rw[AD];simp;omega
     ·cases h
   ·cases h
theorem qfz (N:Nd)(h0:0<=N.lvl):(if 0<N.lvl then (4:Int) else 3)=(if N.lvl=0 then 3 else 4):=by
 by_cases h:N.lvl=0
 ·rw[AA h,AB (by omega)]
 ·rw[AB h,AA (by omega)]
theorem qwx {M:Nd}{h:Hd}{addr:Int}(h0:0<=M.lvl)(g:M.lvl=h.level)(e:(M.items.length:Int)+(M.kids.length:Int)=h.count)(f:h.kind=if h.level=0 then 3 else 4)(d:h.addr=addr):M.head addr h.gen=h:=by
 obtain⟨y,p,ct,m,u⟩:=h;have g:M.lvl=m:=g;have e:(M.items.length:Int)+(M.kids.length:Int)=ct:=e;have f:y=if m=0 then 3 else 4:=f
 have d:p=addr:=d;have h1:=qfz M h0;show (⟨if 0<M.lvl then 4 else 3,addr,(M.items.length:Int)+(M.kids.length:Int),M.lvl,u⟩:Hd)=_;rw[h1,e,g,<-f,d]
theorem qwy (h:Hd)(l r:LU)(d:Yc r=true)(f:l.length+r.length=236):Zk h l=Zk h (l++r):=by
 have e:Yi h l=Yi h (l++r):=by
  unfold Yi;have z:=qlh d;rw[show 236-(l++r).length=0 by rw[AD];omega,show 236-l.length=r.length by omega,<-z];simp
 unfold Zk;rw[e]
theorem qm9 (n:Nat):Yc (List.replicate n 0)=true:=by
 unfold Yc;rw[List.all_eq_true];intro x d;rw[(List.mem_replicate.1 d).2];rfl
theorem qcf {N:Nd}{addr gen:Int}(hm:N.may=true)(f:Zh N addr gen=0)(e:Int):Zd (Jr N addr gen) e=if addr=e then some N else none:=by
 unfold Zh at f;rw[AA hm] at f;obtain⟨m,A,p⟩:=q7f _ _ f;unfold Jr;rw[AA hm,p];obtain⟨B,D,E⟩:=q4i _ _ m A;obtain⟨_,_,_,h0⟩:=q2z hm;unfold Zd;rw[AA E,B,D];have u:(N.head addr gen).count.toNat=N.items.length+N.kids.length:=by unfold Nd.head;dsimp only;omega
 have g:(N.head addr gen).level=N.lvl:=rfl;rw[u,g,qww hm];unfold Ci;dsimp only;by_cases d:addr=e
 ·have y:(N.head addr gen).kind=(if (N.head addr gen).level=0 then 3 else 4):=qfz N h0;rw[AA d,AA ⟨y,d,qm9 _,hm⟩]
 ·rw[AB d,AB (λh=>d h.2.1)]
theorem qma (b:LU)(addr:Int):Zd b addr=Ip b addr:=by
 refine Option.ext λN=>?_
 constructor
 ·intro h;unfold Zd at h;split at h
  ·rename_i y;have m:okB b=true:=by
    cases Q:okB b
    ·rw[(qh8 Q).2.2] at y;cases y
    ·rfl
   cases d:Js (Xo b).level (Un b) (Xo b).count.toNat with
   |none=>rw[d] at h;cases h
   |some p=>
    obtain⟨M,r⟩:=p;rw[d] at h;unfold Ci at h;dsimp only at h;by_cases B:(Xo b).kind=(if (Xo b).level=0 then 3 else 4)/\(Xo b).addr=addr/\Yc r=true/\M.may=true
    ·rw[AA B] at h;obtain⟨h1,h2,P,E⟩:=B;injection h with h;subst h;obtain⟨H,J,U,K,O⟩:=qvq _ _ _ _ _ d;obtain⟨W,X,_,T⟩:=q2z E;have f:=qvl y;have R:=AK f;have A:qe1 b=(Xo b).count.toNat:=by
      have:M.items.length+M.kids.length<=12:=by
       by_cases I:(Xo b).level=0
       ·rw[K I];simp;omega
       ·rw[O I];simp;omega
      unfold qe1;omega
     have g:=(q5y m).2.1;have F:=(AK m).1;have D:M.body.length+r.length=236:=by
      have:=congrArg List.length H;rw[g,AS,AD] at this;omega
     have e:M.head addr (Xo b).gen=Xo b:=qwx T J (by omega) h1 h2;unfold Ip;rw[AA y,A,d];unfold qe2;dsimp only;have u:Zh M addr (Xo b).gen=0:=by
      unfold Zh;rw[AA E,e];unfold Xb;rw[AA f,AA (by omega)]
     have G:Jr M addr (Xo b).gen=b:=by
      unfold Jr;rw[AA E,e];unfold Xi;rw[AA f,AA (by omega),qwy _ _ r P D,<-H,g];have:=(qy1 b m).2;unfold Xi at this;rw[AA f,AA (by rw[AS];omega)] at this;exact this
     rw[AA ⟨u,G⟩]
    ·rw[AB B] at h;cases h
  ·cases h
 ·intro h;unfold Ip at h;split at h
  ·rename_i y
   cases d:Js (Xo b).level (Un b) (qe1 b) with
   |none=>rw[d] at h;cases h
   |some p=>
    obtain⟨M,r⟩:=p;rw[d] at h;unfold qe2 at h;dsimp only at h;split at h
    ·rename_i B;obtain⟨u,G⟩:=B;injection h with h;subst h;have hm:M.may=true:=by
      cases hm:M.may
      ·unfold Zh at u;rw[hm] at u;cases u
      ·rfl
     have:=qcf hm u addr;rw[G,AA rfl] at this;exact this
    ·cases h
  ·cases h
theorem qp5 {N:Nd}(hm:N.may=true):N.body.length<=236:=by
 obtain⟨h1,h2,u,_⟩:=q2z hm;have m:∀d:List Qb,(∀j,j<d.length->(Qu d j).v.length<=28)->(d.flatMap Ew).length<=38*d.length:=by
  intro d;induction d with
  |nil=>intro _;simp
  |cons x d ih=>
   intro h;have D:x.v.length<=28:=h 0 (by simp);have:=ih (λj B=>h (j+1) (by simp;omega));rw[BC,AD,AX];have e:(Ew x).length=10+x.v.length:=by unfold Ew;rw[AD,AD,Kd.X0,Xz];omega
   omega
 have p:∀d:List Qk,(d.flatMap Eu).length=11*d.length:=by
  intro d;induction d with
  |nil=>simp
  |cons x d ih=>
   rw[BC,AD,AX,ih];have e:(Eu x).length=11:=by unfold Eu;rw[AD,Kd.X0,Xz]
   omega
 have f:=Pe hm;have y:=m N.items u;have A:=p N.kids;unfold Nd.body;rw[AD];by_cases g:N.lvl=0
 ·rw[f.1 g];simp only[List.flatMap_nil,List.length_nil];omega
 ·rw[f.2 g];simp only[List.flatMap_nil,List.length_nil];omega
theorem qth {N:Nd}{addr gen:Int}(hm:N.may=true)(e:¬Zh N addr gen=0):Zh N addr gen=1/\(addr<0\/2048<=addr\/gen<0\/1099511627775<gen):=by
 unfold Zh at e ⊢;rw[AA hm] at e ⊢;have f:=qp5 hm;unfold Xb at e ⊢;by_cases d:(N.head addr gen).ok=true
 ·rw[AA d,AA f] at e;exact absurd rfl e
 ·rw[AB d];refine⟨rfl,?_⟩;obtain⟨h1,h2,_,m⟩:=q2z hm;have p:N.lvl<=7:=by
   unfold Nd.may at hm;split at hm
   ·omega
   ·rw[BN,BN] at hm;have:=AK hm.2.2;omega
  refine Classical.byContradiction λg=>d (AL ?_)
  unfold Nd.head;dsimp only;refine⟨?_,?_,?_,?_,?_⟩;all_goals first|omega|(split<;>omega)
theorem q4p {P:Program}{w:WD}(base:Nat)(t ty e:TypeId)(i:TypeInfo)(size:Nat)(y:P.underlying t=some (.slice e))(hi:P.info? e=some i)
  (A:OA) (n c:Nat) (xs:LV) (f:w.ownsRow base e size (.slice A n c) n xs) (B:OA) (d:Nat) (_:size≠0) (_:i.size=size) :
  (Builtin.append_ #[t,t] ty #[.slice A n c,.slice B 0 d]).run P w=.ok (.slice A n c) w:=by
 rcases f.2 with⟨u,h0⟩|⟨g,cap,D,u,_,_,p,_⟩
 ·injection u with h1 h2 m;subst h1 h2 m
  cases B<;>simp[Builtin.append_,run_underlying y,sizeOf,typeInfo,hi,Builtin.lenOf,Builtin.firstCells,loadCells,loadCellsFrom]
 ·injection u with h1 h2 m;subst h1 m
  cases B<;>simp[Builtin.append_,run_underlying y,sizeOf,typeInfo,hi,Builtin.lenOf,Builtin.firstCells,p,storeCells,loadCells,loadCellsFrom]
