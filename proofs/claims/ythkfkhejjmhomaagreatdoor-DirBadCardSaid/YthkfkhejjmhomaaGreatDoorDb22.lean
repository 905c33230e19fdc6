/- The code's node: whether all are noughts, by the library's Count -/
import Derived.Test.YthkfkhejjmhomaaGreatDoorDb10
import Derived.Test.YthkfkhejjmhomaaGreatDoorDb16
import Derived.Test.YthkfkhejjmhomaaGreatDoorDb19
import Derived.Shelf.Bytes.SlCountOne
import Derived.Laws.Externs
namespace Go.Proofs.YthkfkhejjmhomaaGreatDoor
open Go Go.RowKit Go.Proofs
set_option maxHeartbeats 8000000
set_option maxRecDepth 100000
def ints (l:List UInt8):List Int:=l.map λx=>(x.toNat:Int)
theorem qlr (l:List UInt8):Lib.bytesOf (ints l)=l:=by
 unfold Lib.bytesOf ints;rw[List.map_map];conv=>rhs;rw[<-List.map_id l]
 refine List.map_congr_left λx _=>?_
 simp
theorem qx2 {w:World}{a:Addr}{n c:Nat}{l:List UInt8}(h:Sl w (some a) n c l):∀i,i<n->w.cell? (a.add i)=some (.int .u8 ((ints l).getD i 0)):=by
 intro i hi;obtain⟨m,e,_,d⟩:=h.cell hi;injection e with e;subst e;rw[d];have f:i<l.length:=by have:=h.len;omega
 simp[ints,Ku,List.getD_eq_getElem?_getD,List.getElem?_map,List.getElem?_eq_getElem f]
theorem qde {P:Program}{w:World}{A:Option Addr}{n c:Nat}{l:List UInt8}(h:Sl w A n c l)(cv:Int) :
  (Extern.BytealgCount.count #[.slice A n c,.int .u8 cv]).run P w=.ok (.int .i64 (Lib.countByte l cv.toNat.toUInt8)) w:=by
 cases A with
 |some a=>
  have:=Lib.run_countAt (P:=P) w a n c (ints l) (by unfold ints;rw[List.length_map];exact h.len) (qx2 h) cv;rwa [qlr] at this
 |none=>
  have hn:n=0:=by
   rcases Nat.eq_zero_or_pos n with h0|h0
   ·exact h0
   ·obtain⟨f,e,_⟩:=h.cell h0
    cases e
  have d:l=[]:=List.eq_nil_of_length_eq_zero (by rw[h.len];exact hn);rw[Lib.run_countNil,d];rfl
theorem qoq (l:List UInt8):(Lib.countByte l 0=l.length)↔Y7 l=true:=by
 unfold Lib.countByte Y7;rw[List.count_eq_length,List.all_eq_true];constructor
 ·intro h x d;rw[<-h x d];rfl
 ·intro h x d;have:=h x d;exact (by simpa using this:x=0).symm
theorem qls (A:Option Addr)(n c:Nat)(l:List UInt8)(g d:Nat)(w:World)(h:Sl w A n c l)(f:w.cell? ⟨g,0,none⟩=some (.int .u8 0)) :
  Calls Tryz.prog 213 #[.slice A n c,.slice (some ⟨g,0,none⟩) 1 d] w λe w'=>e=.returned (.int .i64 (Lib.countByte l 0:Nat))/\w=w':=by
 go_enter Tryz.func213,Tryz.ntmps213
 go_wp2;rw[run_callFunc_extern Tryz.func246 (by kernel_rfl) (by kernel_rfl) (by kernel_rfl) (e:=Extern.BytealgCount.count) (by kernel_rfl),qde h 0];simp only[Result.andThen];rw[Oper.upon_value];go_wp2;go_ret;exact⟨rfl,rfl⟩
theorem q2v (A:Option Addr)(n c:Nat)(l:List UInt8)(r:Bool)(y:Y7 l=r)(w:World)(h:Sl w A n c l) :
  Calls Tryz.prog 146 #[.slice A n c] w λe w'=>e=.returned (.bool r)/\Below w.1.size w w':=by
 have d:=h.len;have m:Below w.1.size w (w.alloc (.cells #[.int .u8 0] 5)):=Qk;have u:(w.alloc (.cells #[.int .u8 0] 5)).cell? ⟨w.1.size,0,none⟩=some (.int .u8 0):=by rw[cell_of_row _ _ _ _ _ _ (heap_alloc_new w _)];rfl
 obtain⟨q,p⟩:∃q,Lib.countByte l 0=q:=⟨_,rfl⟩;have f:=Lib.hid (show ((q:Int)==(n:Int))=r by
  have:=qoq l;rw[p,d,y] at this
  cases r
  ·exact decide_eq_false (λe:(q:Int)=(n:Int)=>by have:=this.1 (by omega);cases this)
  ·exact decide_eq_true (by have:=this.2 rfl;omega:(q:Int)=(n:Int)))
 clear d;go_enter Tryz.func146,Tryz.ntmps146
 go_wp2_with fail
 refine (qls A n c l w.1.size 1 _ (h.below m) u).mono ?_;rw[p];rintro e B ⟨rfl,rfl⟩;go_wp2;go_ret;exact⟨by rw[<-f.out];rfl,m⟩
def Di (H:Hd)(addr:Int):Option (Nd × List UInt8)->Option Nd
 |some (N,r)=>if H.kind=(if H.level=0 then 3 else 4)/\H.addr=addr/\Y7 r=true/\N.may=true then some N else none
 |none=>none
def Ze (b:List UInt8)(addr:Int):Option Nd:=if Lp b=0 then Di (Yk b) addr (Jr (Yk b).level (Un b) (Yk b).count.toNat) else none
def q3s (b:List UInt8)(addr:Int)(w:World)(e:Ending)(w':World):Prop:=
 ∃m f c1 p d u,e=.returned (.tuple #[.agg #[.int .i64 ((Ze b addr).getD ⟨0,[],[]⟩).lvl,.slice m f c1,.slice p d u],.int .i64 (if (Ze b addr).isSome=true then 0 else 3)])/\f<=20/\d<=20/\
   J4 w' w.1.size m f c1 ((Ze b addr).getD ⟨0,[],[]⟩).items/\Qr w' w.1.size 148 4 p d u (((Ze b addr).getD ⟨0,[],[]⟩).kids.map Qj.vs)/\Below w.1.size w w'
theorem J4.less {w:World}{b base n c:Nat}{A:Option Addr}{xs:List Qb}(h:J4 w base A n c xs)(hb:b<=base):J4 w b A n c xs:=by
 obtain⟨f,h1,h2,y⟩:=h;refine⟨f,h1.less hb,h2,λj r x B E=>?_⟩;obtain⟨V,p,q,e,D,d⟩:=y j r x B E;exact⟨V,p,q,e,D,λu g m=>⟨Nat.le_trans hb (d u g m).1,(d u g m).2⟩⟩
theorem q3t {b:List UInt8}{addr:Int}{w w':World}(h:Ze b addr=none)(d:Below w.1.size w w'):q3s b addr w (.returned (.tuple #[.agg #[.int .i64 0,.slice none 0 0,.slice none 0 0],.int .i64 3])) w':=by
 unfold q3s;rw[h];exact⟨none,0,0,none,0,0,rfl,by omega,by omega,Ox _ _,Lu _ _ _ _,d⟩
theorem qja {b:List UInt8}{addr:Int}{N:Nd}{w w':World}(h:Ze b addr=some N){A:Option Addr}{n c:Nat}{B:Option Addr}{m d:Nat}(hn:n<=20)(hm:m<=20)(e:J4 w' w.1.size A n c N.items)(f:Qr w' w.1.size 148 4 B m d (N.kids.map Qj.vs))(p:Below w.1.size w w') :
  q3s b addr w (.returned (.tuple #[.agg #[.int .i64 N.lvl,.slice A n c,.slice B m d],.int .i64 0])) w':=by
 unfold q3s;rw[h];exact⟨A,n,c,B,m,d,rfl,hn,hm,e,f,p⟩
theorem qf6 (A:Option Addr)(k c:Nat)(b:List UInt8)(addr:Int)(w:World)(hs:Sl w A k c b)(ht:Tab w) :
  Calls Tryz.prog 84 #[.slice A k c,.int .i64 addr] w λe w'=>q3s b addr w e w':=by
 go_enter Tryz.func84,Tryz.ntmps84
 go_wp2_with fail
 have R1:NB (w.alloc (.cells #[.int .i64 0,.slice none 0 0,.slice none 0 0] 77)) w.1.size 0 none 0 0 none 0 0:=NB.new w _ _ _ _ _ _ _ _;have W1:Below w.1.size w (w.alloc (.cells #[.int .i64 0,.slice none 0 0,.slice none 0 0] 77)):=Qk;generalize w.alloc (.cells #[.int .i64 0,.slice none 0 0,.slice none 0 0] 77)=w1 at R1 W1 ⊢;have hO:=q6y A k c b w1 (hs.below W1) (ht.below W1 ht.1);unfold q1y Hd.v at hO;obtain⟨H,hH⟩:∃H,Yk b=H:=⟨_,rfl⟩;obtain⟨R,hR⟩:∃R,Un b=R:=⟨_,rfl⟩;obtain⟨E,hE⟩:∃E,Lp b=E:=⟨_,rfl⟩;rw[hH,hR,hE] at hO;refine hO.mono ?_;clear hO;rintro e v ⟨A2,n2,c2,rfl,b0,c6⟩;have Rv:=R1.below c6 R1.lt;have Wv:=W1.trans (c6.mono W1.size);have bx:Below v.1.size v (v.alloc (.cells #[.int .i64 H.kind,.int .i64 H.addr,.int .i64 H.count,.int .i64 H.level,.int .i64 H.gen] 198)):=Qk;have H3:HB (v.alloc (.cells #[.int .i64 H.kind,.int .i64 H.addr,.int .i64 H.count,.int .i64 H.level,.int .i64 H.gen] 198)) v.1.size H:=⟨_,heap_alloc_new v _⟩;have R3:=Rv.below bx Rv.lt;have W3:=Wv.trans (bx.mono Wv.size);have s3:=b0.sl.below bx;have zw:w.1.size<v.1.size:=Rv.lt;have a7:v.1.size<(v.alloc (.cells #[.int .i64 H.kind,.int .i64 H.addr,.int .i64 H.count,.int .i64 H.level,.int .i64 H.gen] 198)).1.size:=by simp
 by_cases b2:E=0
 ·subst b2;have e0:R.length<=236:=by
   cases hb:okB b
   ·obtain⟨_,_,h3⟩:=qif hb;rw[h3] at hE;omega
   ·obtain⟨_,h2,_⟩:=q6x hb;have:=(of_decide_eq_true hb).1;rw[<-hR,h2,List.length_drop];omega
  have c7:=qvt hE;rw[hH] at c7;have d6:(0<=H.level/\H.level<=8)/\0<=H.count/\H.count<=65535:=by
   have:=of_decide_eq_true c7;omega
  obtain⟨⟨d7,d8⟩,d4,d5⟩:=d6;have e2:n2<=236:=by have:=b0.len;omega
  have F:=Lib.hid (show Ze b addr=Di H addr (Jr H.level R H.count.toNat) by unfold Ze;rw[hE,if_pos rfl,hH,hR]);have c8:∀g,q01 A2=some g->g<v.1.size:=λg hg=>by
   cases A2 with
   |none=>cases hg
   |some ad=>have:=(b0.block ad rfl).2;have e:ad.block=g:=Option.some.inj hg;omega
  clear c7 hE hH hR Rv Wv bx b0 c6;obtain⟨kd,ad,ct,D,gn⟩:=H;simp only at d7 d8 d4 d5;obtain⟨cnt,rfl⟩:∃cnt:Nat,ct=(cnt:Int):=⟨ct.toNat,by omega⟩;obtain⟨Kb,d2⟩:∃Kb:Int,(if D=0 then 3 else 4)=Kb:=⟨_,rfl⟩;have b1:=Lib.hid d2;clear d2;go_wp2_with fail
  generalize v.alloc (.cells #[.int .i64 kd,.int .i64 ad,.int .i64 (cnt:Int),.int .i64 D,.int .i64 gn] 198)=w3 at H3 R3 W3 s3 a7 ⊢;have y0:=H3.at_ 0;have y1:=H3.at_ 2;have y3:=H3.at_ 1;simp only[Yr,Hd.En] at y0 y1 y3;have p0:∀u:Grown w3,u.to.cell? ⟨v.1.size,0,none⟩=some (.int .i64 kd):=Grown.cell y0 a7;have p1:∀u:Grown w3,u.to.cell? ⟨v.1.size,1,none⟩=some (.int .i64 ad):=Grown.cell y1 a7;have p3:∀u:Grown w3,u.to.cell? ⟨v.1.size,3,none⟩=some (.int .i64 D):=Grown.cell y3 a7;clear y0 y1 y3;by_cases hk:kd=Kb
  ·have Hk:=Lib.hid hk;have k1:(kd==Kb)=true:=by simp[hk]
   have k2:(kd != Kb)=false:=by simp[hk]
   clear hk;by_cases ha:ad=addr
   ·have Ha:=Lib.hid ha;have a1:(ad==addr)=true:=by simp[ha]
    have a2:(ad != addr)=false:=by simp[ha]
    clear ha;refine Uk (by kernel_rfl) (by kernel_rfl) ?_;repeat (go_big_quiet_step (first
     |(go_at_call 140;exact Calls.J6 (q41 D Kb b1.out _))
     |fail))
    refine wpQuiet_nil ?_;rintro _ ⟨u,rfl⟩;have H4:=H3.below u.ok a7;have R4:=R3.below u.ok R3.lt;have W4:=W3.trans (u.ok.mono W3.size);have s4:=s3.below u.ok;have J:v.1.size<u.to.1.size:=Nat.lt_of_lt_of_le a7 u.ok.size;generalize u.to=w4 at H4 R4 W4 s4 J ⊢;clear p0 p1 p3 H3 R3 W3 s3 a7 k1 k2 a1 a2 u;have y3:=H4.at_ 1;simp only[Yr,Hd.En] at y3;by_cases b9:D=0
    ·subst b9;have d3:=Lib.hid (show Kb=3 by rw[<-b1.out];rfl);go_wp2_with fail
     have N5:NB (w4.alloc (.cells #[.int .i64 0,.slice none 0 0,.slice none 0 0] 77)) w4.1.size 0 none 0 0 none 0 0:=NB.new w4 _ _ _ _ _ _ _ _;have b5:Below w4.1.size w4 (w4.alloc (.cells #[.int .i64 0,.slice none 0 0,.slice none 0 0] 77)):=Qk;have H5:=H4.below b5 J;have R5:=R4.below b5 R4.lt;have W5:=W4.trans (b5.mono W4.size);have s5:=s4.below b5;generalize w4.alloc (.cells #[.int .i64 0,.slice none 0 0,.slice none 0 0] 77)=w5 at N5 b5 H5 R5 W5 s5 ⊢;obtain⟨p,a8⟩:∃p,w4.1.size=p:=⟨_,rfl⟩;have d9:v.1.size<p:=by rw[<-a8];exact J
     rw[a8] at N5 ⊢;clear a8 b5 H4 R4 W4 s4 J;refine (Pm 0 true rfl none 0 0 none 0 0 w5).mono ?_;rintro e w6 ⟨rfl,G⟩;have N6:=N5.below G N5.lt;have H6:=H5.below G (by have:=N5.lt;omega);have R6:=R5.below G R5.lt;have W6:=W5.trans (G.mono W5.size);have s6:=s5.below G;have y2:=H6.at_ 3;simp only[Yr,Hd.En] at y2;clear N5 H5 R5 W5 s5 G;go_wp2_with fail
     refine (qle R cnt A2 n2 c2 w6 s6 (by omega) (by omega)).mono ?_;rintro e w7 (⟨X,r,A1,c1,A4,n4,c4,M,rfl,b8,row,s7,a6,d⟩|⟨E,hE,M,rfl,d⟩)
     ·have I:=Lib.hid (show Ze b addr=(if Y7 r=true/\(⟨0,X,[]⟩:Nd).may=true then some (⟨0,X,[]⟩:Nd) else none) by
        rw[F.out];show Di ⟨kd,ad,(cnt:Int),0,gn⟩ addr (Jr 0 R (cnt:Int).toNat)=_;rw[Int.toNat_natCast,M];show (if kd=(if (0:Int)=0 then 3 else 4)/\ad=addr/\Y7 r=true/\(⟨0,X,[]⟩:Nd).may=true then some (⟨0,X,[]⟩:Nd) else none)=_;rw[if_pos (rfl:(0:Int)=0),<-d3.out];by_cases O:Y7 r=true/\(⟨0,X,[]⟩:Nd).may=true
        ·rw[if_pos O,if_pos ⟨Hk.out,Ha.out,O⟩]
        ·rw[if_neg O,if_neg (λh=>O h.2.2)])
      have Z:=N6.below d N6.lt;have R7:=R6.below d R6.lt;have W7:=W6.trans (d.mono W6.size);have z6:p<w6.1.size:=N6.lt;have f1:=Z.fz 1;have g1:=Z.c1;have U:Turn (λg=>g=p) w7 (w7.setCell ⟨p,1,none⟩ (.slice A1 cnt c1)):=Ac (a:=⟨p,1,none⟩) _ rfl;have N8:=Z.set1 A1 cnt c1;have Y:=R7.keep (U.block w.1.size R7.lt (by show ¬w.1.size=p;omega));have P:=row.low U (λk hk=>by have:k=p:=hk;omega);have s8:=s7.turned U (λg hg e=>by
       have h2:g=p:=e;rcases a6 g hg with h1|h1
       ·have:=c8 g h1;omega
       ·omega)
      have W8:=W7.trans (U.below (B:=w.1.size) (λx hx=>by have:x=p:=hx;omega) (by have:=W7.size;omega));clear N6 R6 W6 s6 H6 d Z R7 W7 row s7 a6 M y2;go_wp2_with fail
      generalize w7.setCell ⟨p,1,none⟩ (.slice A1 cnt c1)=w8 at N8 Y P s8 W8 U ⊢;clear U f1 g1
      cases O:Y7 r
      ·refine (q2v A4 n4 c4 r false O w8 s8).mono ?_;rintro e w9 ⟨rfl,f⟩;have R9:=Y.below f Y.lt;have W9:=W8.trans (f.mono W8.size);have m:=Lib.hid (I.out.trans (if_neg (λh=>by rw[O] at h;exact absurd h.1 (by simp))));clear O I;go_wp2_with (first
        |(refine Gp rfl (.tmp 4) (.tmp 68) rfl w.1.size rfl 0 none 0 0 none 0 0 rfl R9 ?_;intro wz T K)
        |fail)
       refine bodyPost_ret (Ak Tryz.results84 rfl (He T)) rfl ?_;exact q3t m.out (W9.trans (K.Q9 R9.lt))
      ·refine (q2v A4 n4 c4 r true O w8 s8).mono ?_;rintro e w9 ⟨rfl,f⟩;have N9:=N8.below f N8.lt;have R9:=Y.below f Y.lt;have Q:=P.below f;have W9:=W8.trans (f.mono W8.size);have q0:=N9.c0;have q1:=N9.c1;have q2:=N9.c2;have Hz:=Lib.hid O;clear O N8 Y P s8 W8 f;go_wp2_with fail
       cases hm:(⟨0,X,[]⟩:Nd).may
       ·refine (q1z ⟨0,X,[]⟩ false hm A1 cnt c1 none 0 0 w9 Q.Yc (qdq w9) (by omega) (by omega)).mono ?_;rintro e wA ⟨rfl,y⟩;have RA:=R9.below y R9.lt;have WA:=W9.trans (y.mono W9.size);have m:=Lib.hid (I.out.trans (if_neg (λh=>by rw[hm] at h;exact absurd h.2 (by simp))));clear hm I q0 q1 q2;go_wp2_with (first
         |(refine Gp rfl (.tmp 4) (.tmp 68) rfl w.1.size rfl 0 none 0 0 none 0 0 rfl RA ?_;intro wz T K)
         |fail)
        refine bodyPost_ret (Ak Tryz.results84 rfl (He T)) rfl ?_;exact q3t m.out (WA.trans (K.Q9 RA.lt))
       ·refine (q1z ⟨0,X,[]⟩ true hm A1 cnt c1 none 0 0 w9 Q.Yc (qdq w9) (by omega) (by omega)).mono ?_;rintro e wA ⟨rfl,y⟩;have RA:=R9.below y R9.lt;have NA:=N9.below y N9.lt;have W:=Q.below y;have WA:=W9.trans (y.mono W9.size);have b6:=Lib.hid (I.out.trans (if_pos (And.intro Hz.out hm)));have b4:=q2s hm;have b3:cnt<=20:=by have h1:=b4.1;have h2:=W.Yc.len;have h3:X.length<=6:=h1;omega
        have q0:=NA.c0;have q1:=NA.c1;have q2:=NA.c2;clear hm I b4;go_wp2_with (first
         |(refine Gp rfl (.tmp 4) (.tmp 69) rfl w.1.size rfl 0 A1 cnt c1 none 0 0 rfl RA ?_;intro wz T K)
         |fail)
        refine bodyPost_ret (Ak Tryz.results84 rfl (He T)) rfl ?_;have b7:=W.low K (λk hk=>by have:k=w.1.size:=hk;omega);exact qja b6.out b3 (by omega) (b7.less (by omega)) (Lu _ _ _ _) (WA.trans (K.Q9 RA.lt))
     ·have m:=Lib.hid (show Ze b addr=none by
        rw[F.out];show Di ⟨kd,ad,(cnt:Int),0,gn⟩ addr (Jr 0 R (cnt:Int).toNat)=none;rw[Int.toNat_natCast,M];rfl)
      have Z:=N6.below d N6.lt;have R7:=R6.below d R6.lt;have W7:=W6.trans (d.mono W6.size);have f1:=Z.fz 1;have g1:=Z.c1;have U:Turn (λg=>g=p) w7 (w7.setCell ⟨p,1,none⟩ (.slice none 0 0)):=Ac (a:=⟨p,1,none⟩) _ rfl;have Y:=R7.keep (U.block w.1.size R7.lt (by show ¬w.1.size=p;omega));have W8:=W7.trans (U.below (B:=w.1.size) (λx hx=>by have:x=p:=hx;omega) (by have:=W7.size;omega));have c9:decide (E=0)=false:=decide_eq_false hE;have d0:(E==0)=false:=by simp[hE]
      have d1:(E != 0)=true:=by simp[hE]
      clear N6 R6 W6 s6 H6 d Z R7 W7 M y2 U;go_wp2_with (first
       |(refine Gp rfl (.tmp 4) (.tmp 68) rfl w.1.size rfl 0 none 0 0 none 0 0 rfl Y ?_;intro wz T K)
       |fail)
      refine bodyPost_ret (Ak Tryz.results84 rfl (He T)) rfl ?_;exact q3t m.out (W8.trans (K.Q9 Y.lt))
    ·have e1:decide (D=0)=false:=decide_eq_false b9;go_wp2_with fail
     have N5:NB (w4.alloc (.cells #[.int .i64 D,.slice none 0 0,.slice none 0 0] 77)) w4.1.size D none 0 0 none 0 0:=NB.new w4 _ _ _ _ _ _ _ _;have b5:Below w4.1.size w4 (w4.alloc (.cells #[.int .i64 D,.slice none 0 0,.slice none 0 0] 77)):=Qk;have H5:=H4.below b5 J;have R5:=R4.below b5 R4.lt;have W5:=W4.trans (b5.mono W4.size);have s5:=s4.below b5;generalize w4.alloc (.cells #[.int .i64 D,.slice none 0 0,.slice none 0 0] 77)=w5 at N5 b5 H5 R5 W5 s5 ⊢;obtain⟨p,a8⟩:∃p,w4.1.size=p:=⟨_,rfl⟩;have d9:v.1.size<p:=by rw[<-a8];exact J
     rw[a8] at N5 ⊢;clear a8 b5 H4 R4 W4 s4 J;refine (Pm D false (decide_eq_false b9) none 0 0 none 0 0 w5).mono ?_;rintro e w6 ⟨rfl,G⟩;have N6:=N5.below G N5.lt;have H6:=H5.below G (by have:=N5.lt;omega);have R6:=R5.below G R5.lt;have W6:=W5.trans (G.mono W5.size);have s6:=s5.below G;have y2:=H6.at_ 3;simp only[Yr,Hd.En] at y2;clear N5 H5 R5 W5 s5 G;go_wp2_with fail
     refine (qlf D b9 R cnt A2 n2 c2 w6 s6 (by omega) (by omega)).mono ?_;rintro e w7 (⟨X,r,A1,c1,A4,n4,c4,M,rfl,b8,row,s7,a6,d⟩|⟨E,hE,M,rfl,d⟩)
     ·have I:=Lib.hid (show Ze b addr=(if Y7 r=true/\(⟨D,[],X⟩:Nd).may=true then some (⟨D,[],X⟩:Nd) else none) by
        rw[F.out];show Di ⟨kd,ad,(cnt:Int),D,gn⟩ addr (Jr D R (cnt:Int).toNat)=_;rw[Int.toNat_natCast,M];show (if kd=(if (D:Int)=0 then 3 else 4)/\ad=addr/\Y7 r=true/\(⟨D,[],X⟩:Nd).may=true then some (⟨D,[],X⟩:Nd) else none)=_;rw[b1.out];by_cases O:Y7 r=true/\(⟨D,[],X⟩:Nd).may=true
        ·rw[if_pos O,if_pos ⟨Hk.out,Ha.out,O⟩]
        ·rw[if_neg O,if_neg (λh=>O h.2.2)])
      have Z:=N6.below d N6.lt;have R7:=R6.below d R6.lt;have W7:=W6.trans (d.mono W6.size);have z6:p<w6.1.size:=N6.lt;have f1:=Z.fz 2;have g1:=Z.c2;have U:Turn (λg=>g=p) w7 (w7.setCell ⟨p,2,none⟩ (.slice A1 cnt c1)):=Ac (a:=⟨p,2,none⟩) _ rfl;have N8:=Z.set2 A1 cnt c1;have Y:=R7.keep (U.block w.1.size R7.lt (by show ¬w.1.size=p;omega));have P:=row.turned U (λk hk e=>by have h1:=(row.Qc k hk).1;have h2:k=p:=e;omega);have s8:=s7.turned U (λg hg e=>by
       have h2:g=p:=e;rcases a6 g hg with h1|h1
       ·have:=c8 g h1;omega
       ·omega)
      have W8:=W7.trans (U.below (B:=w.1.size) (λx hx=>by have:x=p:=hx;omega) (by have:=W7.size;omega));clear N6 R6 W6 s6 H6 d Z R7 W7 row s7 a6 M y2;go_wp2_with fail
      generalize w7.setCell ⟨p,2,none⟩ (.slice A1 cnt c1)=w8 at N8 Y P s8 W8 U ⊢;clear U f1 g1
      cases O:Y7 r
      ·refine (q2v A4 n4 c4 r false O w8 s8).mono ?_;rintro e w9 ⟨rfl,f⟩;have R9:=Y.below f Y.lt;have W9:=W8.trans (f.mono W8.size);have m:=Lib.hid (I.out.trans (if_neg (λh=>by rw[O] at h;exact absurd h.1 (by simp))));clear O I;go_wp2_with (first
        |(refine Gp rfl (.tmp 4) (.tmp 68) rfl w.1.size rfl 0 none 0 0 none 0 0 rfl R9 ?_;intro wz T K)
        |fail)
       refine bodyPost_ret (Ak Tryz.results84 rfl (He T)) rfl ?_;exact q3t m.out (W9.trans (K.Q9 R9.lt))
      ·refine (q2v A4 n4 c4 r true O w8 s8).mono ?_;rintro e w9 ⟨rfl,f⟩;have N9:=N8.below f N8.lt;have R9:=Y.below f Y.lt;have Q:=P.below f;have W9:=W8.trans (f.mono W8.size);have q0:=N9.c0;have q1:=N9.c1;have q2:=N9.c2;have Hz:=Lib.hid O;clear O N8 Y P s8 W8 f;go_wp2_with fail
       cases hm:(⟨D,[],X⟩:Nd).may
       ·refine (q1z ⟨D,[],X⟩ false hm none 0 0 A1 cnt c1 w9 (qjm w9) (show Zk _ _ _ _ _ from Q.Uo (by omega)) (by omega) (by omega)).mono ?_;rintro e wA ⟨rfl,y⟩;have RA:=R9.below y R9.lt;have WA:=W9.trans (y.mono W9.size);have m:=Lib.hid (I.out.trans (if_neg (λh=>by rw[hm] at h;exact absurd h.2 (by simp))));clear hm I q0 q1 q2;go_wp2_with (first
         |(refine Gp rfl (.tmp 4) (.tmp 68) rfl w.1.size rfl 0 none 0 0 none 0 0 rfl RA ?_;intro wz T K)
         |fail)
        refine bodyPost_ret (Ak Tryz.results84 rfl (He T)) rfl ?_;exact q3t m.out (WA.trans (K.Q9 RA.lt))
       ·refine (q1z ⟨D,[],X⟩ true hm none 0 0 A1 cnt c1 w9 (qjm w9) (show Zk _ _ _ _ _ from Q.Uo (by omega)) (by omega) (by omega)).mono ?_;rintro e wA ⟨rfl,y⟩;have RA:=R9.below y R9.lt;have NA:=N9.below y N9.lt;have W:=Q.below y;have WA:=W9.trans (y.mono W9.size);have b6:=Lib.hid (I.out.trans (if_pos (And.intro Hz.out hm)));have b4:=q2s hm;have b3:cnt<=20:=by have h1:=b4.2.1;have h2:=(show Zk _ _ _ _ X from W.Uo (by omega)).len;have h3:X.length<=12:=h1;omega
        have q0:=NA.c0;have q1:=NA.c1;have q2:=NA.c2;clear hm I b4;go_wp2_with (first
         |(refine Gp rfl (.tmp 4) (.tmp 69) rfl w.1.size rfl D none 0 0 A1 cnt c1 rfl RA ?_;intro wz T K)
         |fail)
        refine bodyPost_ret (Ak Tryz.results84 rfl (He T)) rfl ?_;have b7:=W.turned K (λk hk e=>by have h1:=(W.Qc k hk).1;have h2:k=w.1.size:=e;omega);exact qja b6.out (by omega) b3 (Ox _ _) (Qr.less b7 (by omega)) (WA.trans (K.Q9 RA.lt))
     ·have m:=Lib.hid (show Ze b addr=none by
        rw[F.out];show Di ⟨kd,ad,(cnt:Int),D,gn⟩ addr (Jr D R (cnt:Int).toNat)=none;rw[Int.toNat_natCast,M];rfl)
      have Z:=N6.below d N6.lt;have R7:=R6.below d R6.lt;have W7:=W6.trans (d.mono W6.size);have f1:=Z.fz 2;have g1:=Z.c2;have U:Turn (λg=>g=p) w7 (w7.setCell ⟨p,2,none⟩ (.slice none 0 0)):=Ac (a:=⟨p,2,none⟩) _ rfl;have Y:=R7.keep (U.block w.1.size R7.lt (by show ¬w.1.size=p;omega));have W8:=W7.trans (U.below (B:=w.1.size) (λx hx=>by have:x=p:=hx;omega) (by have:=W7.size;omega));have c9:decide (E=0)=false:=decide_eq_false hE;have d0:(E==0)=false:=by simp[hE]
      have d1:(E != 0)=true:=by simp[hE]
      clear N6 R6 W6 s6 H6 d Z R7 W7 M y2 U;go_wp2_with (first
       |(refine Gp rfl (.tmp 4) (.tmp 68) rfl w.1.size rfl 0 none 0 0 none 0 0 rfl Y ?_;intro wz T K)
       |fail)
      refine bodyPost_ret (Ak Tryz.results84 rfl (He T)) rfl ?_;exact q3t m.out (W8.trans (K.Q9 Y.lt))
   ·have m:=Lib.hid (show Ze b addr=none by
     rw[F.out]
     cases Jr D R (cnt:Int).toNat with
     |none=>rfl
     |some x=>exact if_neg (λh=>ha h.2.1))
    have a1:(ad==addr)=false:=by simp[ha]
    have a2:(ad != addr)=true:=by simp[ha]
    clear ha;refine Uk (by kernel_rfl) (by kernel_rfl) ?_;repeat (go_big_quiet_step (first
     |(go_at_call 140;exact Calls.J6 (q41 D Kb b1.out _))
     |fail))
    refine wpQuiet_nil ?_;rintro _ ⟨u,rfl⟩;have R4:=R3.below u.ok R3.lt;have W4:=W3.trans (u.ok.mono W3.size);clear p0 p1 p3;go_wp2_with (first
     |(refine Gp rfl (.tmp 4) (.tmp 32) rfl w.1.size rfl 0 none 0 0 none 0 0 rfl R4 ?_;intro wz T K)
     |fail)
    refine bodyPost_ret (Ak Tryz.results84 rfl (He T)) rfl ?_;exact q3t m.out (W4.trans (K.Q9 R4.lt))
  ·have m:=Lib.hid (show Ze b addr=none by
    rw[F.out]
    cases Jr D R (cnt:Int).toNat with
    |none=>rfl
    |some x=>exact if_neg (λh=>hk (h.1.trans b1.out)))
   have k1:(kd==Kb)=false:=by simp[hk]
   have k2:(kd != Kb)=true:=by simp[hk]
   clear hk;refine Uk (by kernel_rfl) (by kernel_rfl) ?_;repeat (go_big_quiet_step (first
    |(go_at_call 140;exact Calls.J6 (q41 D Kb b1.out _))
    |fail))
   refine wpQuiet_nil ?_;rintro _ ⟨u,rfl⟩;have R4:=R3.below u.ok R3.lt;have W4:=W3.trans (u.ok.mono W3.size);clear p0 p1 p3;go_wp2_with (first
    |(refine Gp rfl (.tmp 4) (.tmp 32) rfl w.1.size rfl 0 none 0 0 none 0 0 rfl R4 ?_;intro wz T K)
    |fail)
   refine bodyPost_ret (Ak Tryz.results84 rfl (He T)) rfl ?_;exact q3t m.out (W4.trans (K.Q9 R4.lt))
 ·have m:=Lib.hid (show Ze b addr=none by unfold Ze;rw[hE,if_neg b2]);have c9:decide (E=0)=false:=decide_eq_false b2;have d0:(E==0)=false:=by simp[b2]
  have d1:(E != 0)=true:=by simp[b2]
  clear b2 hE hH hR Rv Wv;go_wp2_with fail
  generalize v.alloc (.cells #[.int .i64 H.kind,.int .i64 H.addr,.int .i64 H.count,.int .i64 H.level,.int .i64 H.gen] 198)=w3 at H3 R3 W3 s3 a7 ⊢;refine Uk (by kernel_rfl) (by kernel_rfl) ?_;repeat (go_big_quiet_step (fail))
  refine wpQuiet_nil ?_;rintro _ ⟨u,rfl⟩;have R4:=R3.below u.ok R3.lt;have W4:=W3.trans (u.ok.mono W3.size);go_wp2_with (first
   |(refine Gp rfl (.tmp 4) (.tmp 32) rfl w.1.size rfl 0 none 0 0 none 0 0 rfl R4 ?_;intro wz T K)
   |fail)
  refine bodyPost_ret (Ak Tryz.results84 rfl (He T)) rfl ?_;exact q3t m.out (W4.trans (K.Q9 R4.lt))
theorem q2k {P:Program}{w:World}(base:Nat)(t ty e:TypeId)(i:TypeInfo)(size:Nat)(y:P.underlying t=some (.slice e))(hi:P.info? e=some i)
  (A:Option Addr) (n c:Nat) (xs:List Value) (f:w.ownsRow base e size (.slice A n c) n xs) (B:Option Addr) (d:Nat) (_:size≠0) (_:i.size=size) :
  (Builtin.append_ #[t,t] ty #[.slice A n c,.slice B 0 d]).run P w=.ok (.slice A n c) w:=by
 rcases f.2 with⟨u,h0⟩|⟨g,cap,D,u,_,_,p,_⟩
 ·injection u with h1 h2 m;subst h1 h2 m
  cases B<;>simp[Builtin.append_,run_underlying y,sizeOf,typeInfo,hi,Builtin.lenOf,Builtin.firstCells,loadCells,loadCellsFrom]
 ·injection u with h1 h2 m;subst h1 m
  cases B<;>simp[Builtin.append_,run_underlying y,sizeOf,typeInfo,hi,Builtin.lenOf,Builtin.firstCells,p,storeCells,loadCells,loadCellsFrom]
theorem qtd {w:World}{base n c:Nat}{e:TypeId}{A:Option Addr}{l:List UInt8}(h:Own w base e A n c l):∀g,q01 A=some g->base<=g:=λg d=>by
 cases A with
 |none=>cases d
 |some ad=>
  have h2:=h.block ad rfl;have f:ad.block=g:=Option.some.inj d;omega
theorem qte (fs:List Uy)(x:Nat->Int)(A:Option Addr)(n c:Nat)(B:Option Addr)(m d:Nat)(l:List UInt8)(w:World)(hF:Vz w A n c fs)(hN:Nums w fs x)(hr:G9 fs x=true)
  (hs:Sl w B m d l) (b5:1<=n) (hm:m<=1000) (hn:n<=100) (hw:∀j,j<n->1<=(Jc fs j).wid/\(Jc fs j).wid<=7) :
  Calls Tryz.prog 105 #[.slice B m d,.slice A n c] w λe w'=>∃E H I,e=.returned (.tuple #[.slice E H I,.int .i64 0])/\Sl w' E H I (Ce fs x l n)/\(∀g,q01 E=some g->w.1.size<=g)/\Below w.1.size w w':=by
 have Hm:=qdb fs x A n c w hF hN;rw[hr] at Hm;have P:=Lib.hid hF.len;have Hl:=Lib.hid hs.len;obtain⟨b4,a7⟩:=hF.bounds;unfold maxLen at a7;go_enter Tryz.func105,Tryz.ntmps105
 go_wp2_with (go_at_call 179;refine Hm.mono ?_;rintro e w1 ⟨rfl,D⟩)
 have Z:=hF.below D;have a2:=hN.below D;have b1:=hs.below D;go_loopw [0,13] (λs i wr=>∃(j:Nat) (E:Option Addr) (H I:Nat),j<=n/\s=.slice E H I/\i=.int .i64 (j:Int)/\Sl wr E H I (Ce fs x l j)/\(j=0\/∀g,q01 E=some g->w.1.size<=g)/\Below w1.1.size w1 wr) (λ_ i _=>n-(intOf i).toNat)
 case atStart=>exact⟨0,B,m,d,Nat.zero_le _,rfl,rfl,b1,.inl rfl,Below.refl _ _⟩
 case round=>
  obtain⟨j,E,H,I,hj,rfl,rfl,G,a1,O⟩:=hrel;by_cases M:j<n
  ·obtain⟨g,o,hA,hg,c0,c1,c2,c3⟩:=(Z.below O).cell M;subst hA;obtain⟨T,W⟩:=a2 j (by rw[P.out];exact M);have b3:=hw j M;have R:=qj2 (x:=x) (l:=l) hw j hj;have F:Aa (Ce fs x l j) (x j) (Jc fs j).wid=Ce fs x l (j+1):=by unfold Aa;rw[if_pos (by omega)];rfl
   have a8:=G.len;obtain⟨f,hf⟩:∃f,Jc fs j=f:=⟨_,rfl⟩;obtain⟨y,hy⟩:∃y,x j=y:=⟨_,rfl⟩;rw[hf] at c0 c1 c2 c3 T W b3 F;rw[hy] at W F;have b0:H<=17592186044416:=by rw[Hl.out] at R;omega
   have Y:=Lib.hid F;clear hf hy F R a8;go_wp2_with fail
   have U:Below wr.1.size wr (wr.alloc (.cells #[.pointer (some ⟨f.b,f.o,none⟩),.int .i64 f.wid,.int .i64 f.lo,.int .i64 f.hi] 263)):=Qk;have X:(wr.alloc (.cells #[.pointer (some ⟨f.b,f.o,none⟩),.int .i64 f.wid,.int .i64 f.lo,.int .i64 f.hi] 263)).1[wr.1.size]?=some (.cells #[.pointer (some ⟨f.b,f.o,none⟩),.int .i64 f.wid,.int .i64 f.lo,.int .i64 f.hi] 263 (0,0)):=heap_alloc_new wr _;have zx:wr.1.size<(wr.alloc (.cells #[.pointer (some ⟨f.b,f.o,none⟩),.int .i64 f.wid,.int .i64 f.lo,.int .i64 f.hi] 263)).1.size:=by simp
   generalize wr.alloc (.cells #[.pointer (some ⟨f.b,f.o,none⟩),.int .i64 f.wid,.int .i64 f.lo,.int .i64 f.hi] 263)=J at U X zx ⊢;have q0:J.cell? ⟨wr.1.size,0,none⟩=some (.pointer (some ⟨f.b,f.o,none⟩)):=by rw[cell_of_row _ _ _ _ _ _ X];rfl
   have q1:J.cell? ⟨wr.1.size,1,none⟩=some (.int .i64 f.wid):=by rw[cell_of_row _ _ _ _ _ _ X];rfl
   have qx:J.cell? ⟨f.b,f.o,none⟩=some (.int .i64 y):=(U.cell (p:=⟨_,_,none⟩) (by have:=O.size;show f.b<_;omega)).trans ((O.cell (p:=⟨_,_,none⟩) T).trans W);have K:=O.trans (U.mono O.size);have b2:=G.below U;clear c0 c1 c2 c3 X W G;go_still_tail 7,(by kernel_rfl)
   change wpList _ _ _ _ _ J.drew;go_wp2_with (go_at_call 180;refine (q79 E H I (Ce fs x l j) y f.wid _ b2.drew b0).mono ?_;rintro e w3 ⟨A3,n3,c3,rfl,u,a6⟩)
   rw[Y.out] at u;have Q:Below J.1.size J w3:=(Below.refl _ _).drew.trans a6;exact⟨⟨j+1,A3,n3,c3,by omega,rfl,rfl,u.sl,.inr (λg hg=>by have:=qtd u g hg;have h1:=K.size;have h2:=D.size;have h3:J.drew.1.size=J.1.size:=rfl;omega),K.trans (Q.mono K.size)⟩,by simp[intOf];omega⟩
  ·obtain rfl:j=n:=by omega
   go_wp2;go_ret2;exact⟨E,H,I,rfl,G,a1.resolve_left (by omega),D.trans (O.mono D.size)⟩
theorem q6g (i:Za)(h:i.may=true)(w:World) :
  Calls Tryz.prog 62 #[.agg #[.string i.name,.int .i64 i.ino,.int .i64 i.kind]] w λe w'=>∃A n c,e=.returned (.tuple #[.slice A n c,.int .i64 0])/\Sl w' A n c i.bytes/\(∀g,q01 A=some g->w.1.size<=g)/\Below w.1.size w w':=by
 have p:IB (w.alloc (.cells i.vs.toArray 32)) w.1.size i.vs:=IB.new w _ _;have y:Below w.1.size w (w.alloc (.cells i.vs.toArray 32)):=Qk;go_enter Tryz.func62,Tryz.ntmps62
 go_wp2_with fail
 change Calls _ _ _ (w.alloc (.cells i.vs.toArray 32)) _;generalize w.alloc (.cells i.vs.toArray 32)=I at p y ⊢;obtain⟨hn,M⟩:=Bool.and_eq_true_iff.1 h;refine (q22 i.name true hn I).mono ?_;rintro e Q ⟨rfl,rfl⟩;have W:i.name.size<=20:=(of_decide_eq_true hn).2;have X:=p.cell 0 rfl;clear h hn;go_wp2_with (first
  |(go_at_call 104;refine (q4j none 0 0 [] i.name I (Ik _) (by omega) (by omega)).mono ?_;rw[List.nil_append];rintro e Q ⟨T,O,c2,rfl,d,m⟩;have G:=p.below m p.lt;have K:O<=21:=(by have:=d.len;rw[List.length_append,Xf,Array.length_toList] at this;have U:i.name.data.size=i.name.size:=rfl;omega))
  |(go_at_call 106;refine (q9p w.1.size _).mono ?_;rintro e R ⟨g,rfl,hF,H,f⟩)
  |(go_at_call 105;refine (qte (Jd w.1.size) i.x _ _ _ _ _ _ _ R hF (qj3 (G.below f G.lt)) (by rw[qhb _ i _ rfl rfl];exact M) (d.sl.below f) (by omega) (by omega) (by omega) (qo4 _)).mono ?_;rw[qwt];rintro e Y ⟨J,P,c4,rfl,E,D,B⟩))
 go_ret2;have F:=y.trans (m.mono y.size);have u:=F.trans (f.mono F.size);exact⟨J,P,c4,rfl,E,λg H=>by have:=D g H;have:=u.size;omega,u.trans (B.mono u.size)⟩
theorem qx3 (o:BinOp)(e:o=.eql\/o=.neq)(x y:Operand)(xs d:Array Value)(w:World):(eqGuard o 32 x y (.agg xs) (.agg d)).run Tryz.prog w=.ok () w:=by
 rcases e with rfl|rfl
 ·exact run_eqGuard_agg w .eql 32 x y xs d (by kernel_rfl)
 ·exact run_eqGuard_agg w .neq 32 x y xs d (by kernel_rfl)
theorem qyu (s:ByteArray)(y z:Int)(w:World):(binOp .eql 32 (.agg #[.string s,.int .i64 y,.int .i64 z]) (.agg #[.string s,.int .i64 y,.int .i64 z])).run Tryz.prog w=.ok (.bool true) w:=by
 rw[run_eql_struct,run_equalIn_agg w 9999 32 _ _ (by kernel_rfl) (by kernel_rfl)];unfold Program.fieldsOf;rw[Tryz.underlying32];simp[go_sem,Tryz.underlying3,Tryz.underlying9]
theorem Qa2:Dh Tryz.prog 26 32 3 32 (.agg #[.string ⟨#[]⟩,.int .i64 0,.int .i64 0]):=⟨Tryz.underlying26,by kernel_rfl,rfl,by omega⟩
def Gi (w:World)(A:Option Addr)(n c:Nat)(l:List Za):Prop:=Jq w 3 A n c (l.map Za.vs)
def Vy (w:World)(base:Nat)(A:Option Addr)(n c:Nat)(l:List Za):Prop:=Qr w base 32 3 A n c (l.map Za.vs)
def Bo (l:List Za)(j:Nat):Za:=l.getD j Za.zero
theorem qor {l:List Za}{j:Nat}(h:j<l.length):l[j]?=some (Bo l j):=by unfold Bo;simp[List.getD,h]
theorem qtf {l:List Za}{j:Nat}(h:j<l.length):Bo l j=l[j]:=by unfold Bo;simp[List.getD,h]
theorem qos (e:Za):∀u∈e.vs,u.oneCell'=true:=λu d=>by
 rcases List.mem_cons.1 d with rfl|d
 ·rfl
 rcases List.mem_cons.1 d with rfl|d
 ·rfl
 ·rw[List.mem_singleton.1 d];rfl
section
variable {w w':World}{base n c:Nat}{A:Option Addr}{l:List Za}
theorem Gi.len (h:Gi w A n c l):l.length=n:=by have:=Jq.len h;simpa using this
theorem Gi.bounds (h:Gi w A n c l):n<=c/\c<=maxLen:=⟨Jq.cap h,Jq.max h⟩
theorem Gi.at_ (h:Gi w A n c l){j:Nat}(hj:j<n):∃g o,A=some ⟨g,o,none⟩/\g<w.1.size/\w.rangeAt g (o+j*3) (Bo l j).vs:=by
 have m:=h.len;obtain⟨g,o,e,d,_,f⟩:=h.2.2.2 j _ (by rw[List.getElem?_map,qor (by omega)];rfl);exact⟨g,o,e,d,f⟩
theorem Vy.ents (h:Vy w base A n c l):Gi w A n c l:=Qr.Uo h (by omega)
theorem Vy.below (h:Vy w base A n c l)(hb:Below w.1.size w w'):Vy w' base A n c l:=Qr.below h hb
theorem Vy.Qc (h:Vy w base A n c l):∀k,q01 A=some k->base<=k/\k<w.1.size:=Qr.Qc h
theorem qot (w:World)(base:Nat):Vy w base none 0 0 []:=Lu w base _ 3
theorem qtg (w:World)(e:Za):Gi (w.alloc (.cells #[.string e.name,.int .i64 e.ino,.int .i64 e.kind] 32)) (some ⟨w.1.size,0,none⟩) 1 1 [e]:=
 Vy.ents (q1i w _ 3 e.vs _ rfl rfl)
theorem qf7 (ty:TypeId)(f:Vy w base A n c l)(B:Option Addr)(m d:Nat)(H:List Za)(I:Gi w B m d H)(F:n+m<=1000000)(p:base<=w.1.size) :
  ∃D E w',(Builtin.append_ #[26,26] ty #[.slice A n c,.slice B m d]).run Tryz.prog w=.ok (.slice D (n+m) E) w'/\Vy w' base D (n+m) E (l++H)/\Turn (λk=>q01 A=some k) w w'/\(q01 D=q01 A\/q01 D=some w.1.size):=by
 by_cases hm:m=0
 ·subst hm;obtain rfl:H=[]:=List.eq_nil_of_length_eq_zero I.len;obtain⟨i,hi,Q,G,R⟩:=info_parts Qa2.info;refine⟨A,c,w,q2k (P:=Tryz.prog) base 26 ty 32 i 3 Qa2.sl hi A n c _ f.1 B d (by decide) G,?_,Turn.refl _ _,.inl rfl⟩;rw[List.append_nil];exact f
 ·obtain⟨D,E,w',h1,h2,J,K,_⟩:=q23 (P:=Tryz.prog) w Qa2 ty base A n c _ f B m d _ I (by omega) (λy O u M=>by
   obtain⟨e,_,rfl⟩:=List.mem_map.1 O;exact qos e u M) F (by decide) p
  refine⟨D,E,w',h1,?_,J,K⟩;rw[<-List.map_append] at h2;exact h2
theorem qhh {D:Array Oper}{e:List Oper}{o:Oper}{a:Act}{Q:Exit->Act->World->Prop}(F:o.guard=none)(I x:Operand)
  (P:o.op=.call { callee:=.builtin .append,args:=#[I,x],argTypes:=#[26,26] })
  (T:a.eval I=.slice A n c) (u:Vy w base A n c l)
  (B:Option Addr) (m d:Nat) (H:List Za) (U:a.eval x=.slice B m d) (R:Gi w B m d H) (G:n+m<=1000000) (f:base<=w.1.size)
  (h:∀p E w',Vy w' base p (n+m) E (l++H)->Turn (λk=>q01 A=some k) w w'->(q01 p=q01 A\/q01 p=some w.1.size)->wpList Tryz.prog D Q e (a.put o.dst (.slice p (n+m) E)) w'):wpList Tryz.prog D Q (o::e) a w:=
 wpList_plain F λK O=>by
  obtain⟨p,E,w',y,h2,J,M⟩:=qf7 (w:=w) o.type u B m d H R G f;unfold Oper.wp execOp;simp only[P,resolve,invoke,builtin,Sem.run_bind,Sem.run_pure,Result.andThen_ok,List.map_toArray,List.map_cons,List.map_nil,T,U,y];exact O _ _ (h p E w' h2 J M)
end
