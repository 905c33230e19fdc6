/- The code's node: whether all are noughts, by the library's Count -/
import Derived.Test.YthkfkhejjmhomaaGreatDoorEs11
import Derived.Test.YthkfkhejjmhomaaGreatDoorEs12
import Derived.Test.YthkfkhejjmhomaaGreatDoorEs16
import Derived.Test.YthkfkhejjmhomaaGreatDoorEs17
import Derived.Shelf.Bytes.SlCountOne
import Derived.Laws.Externs
namespace Go.Proofs.YthkfkhejjmhomaaGreatDoor
open Go Go.RowKit Go.Proofs
set_option maxHeartbeats 8000000
set_option maxRecDepth 100000
def ints (l:List UInt8):List Int:=l.map λx=>(x.toNat:Int)
theorem qmf (l:List UInt8):Lib.bytesOf (ints l)=l:=by
 unfold Lib.bytesOf ints;rw[List.map_map];conv=>rhs;rw[<-List.map_id l]
 refine List.map_congr_left λx _=>?_
 simp
theorem qwz {w:World}{a:Addr}{n c:Nat}{l:List UInt8}(h:Sl w (some a) n c l):∀i,i<n->w.cell? (a.add i)=some (.int .u8 ((ints l).getD i 0)):=by
 intro i d;obtain⟨m,e,_,b⟩:=h.cell d;injection e with e;subst e;rw[b];have f:i<l.length:=by have:=h.len;omega
 simp[ints,Yy,List.getD_eq_getElem?_getD,List.getElem?_map,List.getElem?_eq_getElem f]
theorem qdy {P:Program}{w:World}{A:Option Addr}{n c:Nat}{l:List UInt8}(h:Sl w A n c l)(cv:Int) :
  (Extern.BytealgCount.count #[.slice A n c,.int .u8 cv]).run P w=.ok (.int .i64 (Lib.countByte l cv.toNat.toUInt8)) w:=by
 cases A with
 |some a=>
  have:=Lib.run_countAt (P:=P) w a n c (ints l) (by unfold ints;rw[List.length_map];exact h.len) (qwz h) cv;rwa [qmf] at this
 |none=>
  have hn:n=0:=by
   rcases Nat.eq_zero_or_pos n with h0|h0
   ·exact h0
   ·obtain⟨d,e,_⟩:=h.cell h0
    cases e
  have b:l=[]:=List.eq_nil_of_length_eq_zero (by rw[h.len];exact hn);rw[Lib.run_countNil,b];rfl
theorem qpe (l:List UInt8):(Lib.countByte l 0=l.length)↔Y5 l=true:=by
 unfold Lib.countByte Y5;rw[List.count_eq_length,List.all_eq_true];constructor
 ·intro h x b;rw[<-h x b];rfl
 ·intro h x b;have:=h x b;exact (by simpa using this:x=0).symm
theorem qmg (A:Option Addr)(n c:Nat)(l:List UInt8)(g d:Nat)(w:World)(h:Sl w A n c l)(f:w.cell? ⟨g,0,none⟩=some (.int .u8 0)) :
  Calls Tryz.prog 213 #[.slice A n c,.slice (some ⟨g,0,none⟩) 1 d] w λe b=>e=.returned (.int .i64 (Lib.countByte l 0:Nat))/\w=b:=by
 go_enter Tryz.func213,Tryz.ntmps213
 go_wp2;rw[run_callFunc_extern Tryz.func246 (by kernel_rfl) (by kernel_rfl) (by kernel_rfl) (e:=Extern.BytealgCount.count) (by kernel_rfl),qdy h 0];simp only[Result.andThen];rw[Oper.upon_value];go_wp2;go_ret;exact⟨rfl,rfl⟩
theorem q36 (A:Option Addr)(n c:Nat)(l:List UInt8)(r:Bool)(u:Y5 l=r)(w:World)(h:Sl w A n c l) :
  Calls Tryz.prog 146 #[.slice A n c] w λe y=>e=.returned (.bool r)/\Below w.1.size w y:=by
 have b:=h.len;have f:Below w.1.size w (w.alloc (.cells #[.int .u8 0] 5)):=Qn;have p:(w.alloc (.cells #[.int .u8 0] 5)).cell? ⟨w.1.size,0,none⟩=some (.int .u8 0):=by rw[cell_of_row _ _ _ _ _ _ (heap_alloc_new w _)];rfl
 obtain⟨q,m⟩:∃q,Lib.countByte l 0=q:=⟨_,rfl⟩;have d:=Lib.hid (show ((q:Int)==(n:Int))=r by
  have:=qpe l;rw[m,b,u] at this
  cases r
  ·exact decide_eq_false (λe:(q:Int)=(n:Int)=>by have:=this.1 (by omega);cases this)
  ·exact decide_eq_true (by have:=this.2 rfl;omega:(q:Int)=(n:Int)))
 clear b;go_enter Tryz.func146,Tryz.ntmps146
 go_wp2_with fail
 refine (qmg A n c l w.1.size 1 _ (h.below f) p).mono ?_;rw[m];rintro e B ⟨rfl,rfl⟩;go_wp2;go_ret;exact⟨by rw[<-d.out];rfl,f⟩
def Ci (H:Hd)(addr:Int):Option (Nd × List UInt8)->Option Nd
 |some (N,r)=>if H.kind=(if H.level=0 then 3 else 4)/\H.addr=addr/\Y5 r=true/\N.may=true then some N else none
 |none=>none
def Zj (b:List UInt8)(addr:Int):Option Nd:=if Nh b=0 then Ci (Yf b) addr (Ju (Yf b).level (Ul b) (Yf b).count.toNat) else none
def q46 (b:List UInt8)(addr:Int)(w:World)(e:Ending)(w':World):Prop:=
 ∃m f c1 p d u,e=.returned (.tuple #[.agg #[.int .i64 ((Zj b addr).getD ⟨0,[],[]⟩).lvl,.slice m f c1,.slice p d u],.int .i64 (if (Zj b addr).isSome=true then 0 else 3)])/\f<=20/\d<=20/\
   Jt w' w.1.size m f c1 ((Zj b addr).getD ⟨0,[],[]⟩).items/\Qo w' w.1.size 148 4 p d u (((Zj b addr).getD ⟨0,[],[]⟩).kids.map Qm.vs)/\Below w.1.size w w'
theorem Jt.less {w:World}{b base n c:Nat}{A:Option Addr}{xs:List Qg}(h:Jt w base A n c xs)(hb:b<=base):Jt w b A n c xs:=by
 obtain⟨f,h1,h2,y⟩:=h;refine⟨f,h1.less hb,h2,λj r x B E=>?_⟩;obtain⟨V,p,q,e,D,d⟩:=y j r x B E;exact⟨V,p,q,e,D,λu g m=>⟨Nat.le_trans hb (d u g m).1,(d u g m).2⟩⟩
theorem q47 {b:List UInt8}{addr:Int}{w w':World}(h:Zj b addr=none)(d:Below w.1.size w w'):q46 b addr w (.returned (.tuple #[.agg #[.int .i64 0,.slice none 0 0,.slice none 0 0],.int .i64 3])) w':=by
 unfold q46;rw[h];exact⟨none,0,0,none,0,0,rfl,by omega,by omega,Pq _ _,Ir _ _ _ _,d⟩
theorem qk9 {b:List UInt8}{addr:Int}{N:Nd}{w w':World}(h:Zj b addr=some N){A:Option Addr}{n c:Nat}{B:Option Addr}{m d:Nat}(hn:n<=20)(hm:m<=20)(e:Jt w' w.1.size A n c N.items)(f:Qo w' w.1.size 148 4 B m d (N.kids.map Qm.vs))(p:Below w.1.size w w') :
  q46 b addr w (.returned (.tuple #[.agg #[.int .i64 N.lvl,.slice A n c,.slice B m d],.int .i64 0])) w':=by
 unfold q46;rw[h];exact⟨A,n,c,B,m,d,rfl,hn,hm,e,f,p⟩
theorem qfr (A:Option Addr)(k c:Nat)(b:List UInt8)(addr:Int)(w:World)(hs:Sl w A k c b)(ht:Tab w) :
  Calls Tryz.prog 84 #[.slice A k c,.int .i64 addr] w λe w'=>q46 b addr w e w':=by
 go_enter Tryz.func84,Tryz.ntmps84
 go_wp2_with fail
 have R1:NB (w.alloc (.cells #[.int .i64 0,.slice none 0 0,.slice none 0 0] 77)) w.1.size 0 none 0 0 none 0 0:=NB.new w _ _ _ _ _ _ _ _;have W1:Below w.1.size w (w.alloc (.cells #[.int .i64 0,.slice none 0 0,.slice none 0 0] 77)):=Qn;generalize w.alloc (.cells #[.int .i64 0,.slice none 0 0,.slice none 0 0] 77)=w1 at R1 W1 ⊢;have hO:=q6q A k c b w1 (hs.below W1) (ht.below W1 ht.1);unfold q24 Hd.v at hO;obtain⟨H,hH⟩:∃H,Yf b=H:=⟨_,rfl⟩;obtain⟨R,hR⟩:∃R,Ul b=R:=⟨_,rfl⟩;obtain⟨E,hE⟩:∃E,Nh b=E:=⟨_,rfl⟩;rw[hH,hR,hE] at hO;refine hO.mono ?_;clear hO;rintro e v ⟨A2,n2,c2,rfl,a5,b4⟩;have Rv:=R1.below b4 R1.lt;have Wv:=W1.trans (b4.mono W1.size);have bx:Below v.1.size v (v.alloc (.cells #[.int .i64 H.kind,.int .i64 H.addr,.int .i64 H.count,.int .i64 H.level,.int .i64 H.gen] 198)):=Qn;have H3:HB (v.alloc (.cells #[.int .i64 H.kind,.int .i64 H.addr,.int .i64 H.count,.int .i64 H.level,.int .i64 H.gen] 198)) v.1.size H:=⟨_,heap_alloc_new v _⟩;have R3:=Rv.below bx Rv.lt;have W3:=Wv.trans (bx.mono Wv.size);have s3:=a5.sl.below bx;have zw:w.1.size<v.1.size:=Rv.lt;have a3:v.1.size<(v.alloc (.cells #[.int .i64 H.kind,.int .i64 H.addr,.int .i64 H.count,.int .i64 H.level,.int .i64 H.gen] 198)).1.size:=by simp
 by_cases a7:E=0
 ·subst a7;have d5:R.length<=236:=by
   cases hb:okB b
   ·obtain⟨_,_,h3⟩:=qjb hb;rw[h3] at hE;omega
   ·obtain⟨_,h2,_⟩:=q7i hb;have:=(of_decide_eq_true hb).1;rw[<-hR,h2,List.length_drop];omega
  have b6:=qvt hE;rw[hH] at b6;have d1:(0<=H.level/\H.level<=8)/\0<=H.count/\H.count<=65535:=by
   have:=of_decide_eq_true b6;omega
  obtain⟨⟨d2,d3⟩,c9,d0⟩:=d1;have d7:n2<=236:=by have:=a5.len;omega
  have F:=Lib.hid (show Zj b addr=Ci H addr (Ju H.level R H.count.toNat) by unfold Zj;rw[hE,if_pos rfl,hH,hR]);have b7:∀g,q01 A2=some g->g<v.1.size:=λg hg=>by
   cases A2 with
   |none=>cases hg
   |some ad=>have:=(a5.block ad rfl).2;have e:ad.block=g:=Option.some.inj hg;omega
  clear b6 hE hH hR Rv Wv bx a5 b4;obtain⟨kd,ad,ct,D,gn⟩:=H;simp only at d2 d3 c9 d0;obtain⟨cnt,rfl⟩:∃cnt:Nat,ct=(cnt:Int):=⟨ct.toNat,by omega⟩;obtain⟨Kb,c7⟩:∃Kb:Int,(if D=0 then 3 else 4)=Kb:=⟨_,rfl⟩;have a6:=Lib.hid c7;clear c7;go_wp2_with fail
  generalize v.alloc (.cells #[.int .i64 kd,.int .i64 ad,.int .i64 (cnt:Int),.int .i64 D,.int .i64 gn] 198)=w3 at H3 R3 W3 s3 a3 ⊢;have y0:=H3.at_ 0;have y1:=H3.at_ 2;have y3:=H3.at_ 1;simp only[Yo,Hd.Eh] at y0 y1 y3;have p0:∀u:Grown w3,u.to.cell? ⟨v.1.size,0,none⟩=some (.int .i64 kd):=Grown.cell y0 a3;have p1:∀u:Grown w3,u.to.cell? ⟨v.1.size,1,none⟩=some (.int .i64 ad):=Grown.cell y1 a3;have p3:∀u:Grown w3,u.to.cell? ⟨v.1.size,3,none⟩=some (.int .i64 D):=Grown.cell y3 a3;clear y0 y1 y3;by_cases hk:kd=Kb
  ·have Hk:=Lib.hid hk;have k1:(kd==Kb)=true:=by simp[hk]
   have k2:(kd != Kb)=false:=by simp[hk]
   clear hk;by_cases ha:ad=addr
   ·have Ha:=Lib.hid ha;have a1:(ad==addr)=true:=by simp[ha]
    have a2:(ad != addr)=false:=by simp[ha]
    clear ha;refine Ua (by kernel_rfl) (by kernel_rfl) ?_;repeat (go_big_quiet_step (first
     |(go_at_call 140;exact Calls.J7 (q4m D Kb a6.out _))
     |fail))
    refine wpQuiet_nil ?_;rintro _ ⟨u,rfl⟩;have H4:=H3.below u.ok a3;have R4:=R3.below u.ok R3.lt;have W4:=W3.trans (u.ok.mono W3.size);have s4:=s3.below u.ok;have J:v.1.size<u.to.1.size:=Nat.lt_of_lt_of_le a3 u.ok.size;generalize u.to=w4 at H4 R4 W4 s4 J ⊢;clear p0 p1 p3 H3 R3 W3 s3 a3 k1 k2 a1 a2 u;have y3:=H4.at_ 1;simp only[Yo,Hd.Eh] at y3;by_cases b3:D=0
    ·subst b3;have c8:=Lib.hid (show Kb=3 by rw[<-a6.out];rfl);go_wp2_with fail
     have N5:NB (w4.alloc (.cells #[.int .i64 0,.slice none 0 0,.slice none 0 0] 77)) w4.1.size 0 none 0 0 none 0 0:=NB.new w4 _ _ _ _ _ _ _ _;have b5:Below w4.1.size w4 (w4.alloc (.cells #[.int .i64 0,.slice none 0 0,.slice none 0 0] 77)):=Qn;have H5:=H4.below b5 J;have R5:=R4.below b5 R4.lt;have W5:=W4.trans (b5.mono W4.size);have s5:=s4.below b5;generalize w4.alloc (.cells #[.int .i64 0,.slice none 0 0,.slice none 0 0] 77)=w5 at N5 b5 H5 R5 W5 s5 ⊢;obtain⟨p,a4⟩:∃p,w4.1.size=p:=⟨_,rfl⟩;have d4:v.1.size<p:=by rw[<-a4];exact J
     rw[a4] at N5 ⊢;clear a4 b5 H4 R4 W4 s4 J;refine (Rn 0 true rfl none 0 0 none 0 0 w5).mono ?_;rintro e w6 ⟨rfl,G⟩;have N6:=N5.below G N5.lt;have H6:=H5.below G (by have:=N5.lt;omega);have R6:=R5.below G R5.lt;have W6:=W5.trans (G.mono W5.size);have s6:=s5.below G;have y2:=H6.at_ 3;simp only[Yo,Hd.Eh] at y2;clear N5 H5 R5 W5 s5 G;go_wp2_with fail
     refine (qm3 R cnt A2 n2 c2 w6 s6 (by omega) (by omega)).mono ?_;rintro e w7 (⟨W,r,A1,c1,A4,n4,c4,M,rfl,b2,row,s7,a0,d⟩|⟨E,hE,M,rfl,d⟩)
     ·have I:=Lib.hid (show Zj b addr=(if Y5 r=true/\(⟨0,W,[]⟩:Nd).may=true then some (⟨0,W,[]⟩:Nd) else none) by
        rw[F.out];show Ci ⟨kd,ad,(cnt:Int),0,gn⟩ addr (Ju 0 R (cnt:Int).toNat)=_;rw[Int.toNat_natCast,M];show (if kd=(if (0:Int)=0 then 3 else 4)/\ad=addr/\Y5 r=true/\(⟨0,W,[]⟩:Nd).may=true then some (⟨0,W,[]⟩:Nd) else none)=_;rw[if_pos (rfl:(0:Int)=0),<-c8.out];by_cases O:Y5 r=true/\(⟨0,W,[]⟩:Nd).may=true
        ·rw[if_pos O,if_pos ⟨Hk.out,Ha.out,O⟩]
        ·rw[if_neg O,if_neg (λh=>O h.2.2)])
      have Y:=N6.below d N6.lt;have R7:=R6.below d R6.lt;have W7:=W6.trans (d.mono W6.size);have z6:p<w6.1.size:=N6.lt;have f1:=Y.fz 1;have g1:=Y.c1;have U:Turn (λg=>g=p) w7 (w7.setCell ⟨p,1,none⟩ (.slice A1 cnt c1)):=Dy (a:=⟨p,1,none⟩) _ rfl;have N8:=Y.set1 A1 cnt c1;have X:=R7.keep (U.block w.1.size R7.lt (by show ¬w.1.size=p;omega));have P:=row.low U (λk hk=>by have:k=p:=hk;omega);have s8:=s7.turned U (λg hg e=>by
       have h2:g=p:=e;rcases a0 g hg with h1|h1
       ·have:=b7 g h1;omega
       ·omega)
      have Z:=W7.trans (U.below (B:=w.1.size) (λx hx=>by have:x=p:=hx;omega) (by have:=W7.size;omega));clear N6 R6 W6 s6 H6 d Y R7 W7 row s7 a0 M y2;go_wp2_with fail
      generalize w7.setCell ⟨p,1,none⟩ (.slice A1 cnt c1)=w8 at N8 X P s8 Z U ⊢;clear U f1 g1
      cases O:Y5 r
      ·refine (q36 A4 n4 c4 r false O w8 s8).mono ?_;rintro e w9 ⟨rfl,f⟩;have R9:=X.below f X.lt;have W9:=Z.trans (f.mono Z.size);have m:=Lib.hid (I.out.trans (if_neg (λh=>by rw[O] at h;exact absurd h.1 (by simp))));clear O I;go_wp2_with (first
        |(refine Ub rfl (.tmp 4) (.tmp 68) rfl w.1.size rfl 0 none 0 0 none 0 0 rfl R9 ?_;intro wz T K)
        |fail)
       refine bodyPost_ret (Gi Tryz.results84 rfl (Ew T)) rfl ?_;exact q47 m.out (W9.trans (K.Qy R9.lt))
      ·refine (q36 A4 n4 c4 r true O w8 s8).mono ?_;rintro e w9 ⟨rfl,f⟩;have N9:=N8.below f N8.lt;have R9:=X.below f X.lt;have Q:=P.below f;have W9:=Z.trans (f.mono Z.size);have q0:=N9.c0;have q1:=N9.c1;have q2:=N9.c2;have Hz:=Lib.hid O;clear O N8 X P s8 Z f;go_wp2_with fail
       cases hm:(⟨0,W,[]⟩:Nd).may
       ·refine (q27 ⟨0,W,[]⟩ false hm A1 cnt c1 none 0 0 w9 Q.J5 (q9m w9) (by omega) (by omega)).mono ?_;rintro e wA ⟨rfl,y⟩;have RA:=R9.below y R9.lt;have WA:=W9.trans (y.mono W9.size);have m:=Lib.hid (I.out.trans (if_neg (λh=>by rw[hm] at h;exact absurd h.2 (by simp))));clear hm I q0 q1 q2;go_wp2_with (first
         |(refine Ub rfl (.tmp 4) (.tmp 68) rfl w.1.size rfl 0 none 0 0 none 0 0 rfl RA ?_;intro wz T K)
         |fail)
        refine bodyPost_ret (Gi Tryz.results84 rfl (Ew T)) rfl ?_;exact q47 m.out (WA.trans (K.Qy RA.lt))
       ·refine (q27 ⟨0,W,[]⟩ true hm A1 cnt c1 none 0 0 w9 Q.J5 (q9m w9) (by omega) (by omega)).mono ?_;rintro e wA ⟨rfl,y⟩;have RA:=R9.below y R9.lt;have NA:=N9.below y N9.lt;have rowA:=Q.below y;have WA:=W9.trans (y.mono W9.size);have b0:=Lib.hid (I.out.trans (if_pos (And.intro Hz.out hm)));have a9:=q26 hm;have a8:cnt<=20:=by have h1:=a9.1;have h2:=rowA.J5.len;have h3:W.length<=6:=h1;omega
        have q0:=NA.c0;have q1:=NA.c1;have q2:=NA.c2;clear hm I a9;go_wp2_with (first
         |(refine Ub rfl (.tmp 4) (.tmp 69) rfl w.1.size rfl 0 A1 cnt c1 none 0 0 rfl RA ?_;intro wz T K)
         |fail)
        refine bodyPost_ret (Gi Tryz.results84 rfl (Ew T)) rfl ?_;have b1:=rowA.low K (λk hk=>by have:k=w.1.size:=hk;omega);exact qk9 b0.out a8 (by omega) (b1.less (by omega)) (Ir _ _ _ _) (WA.trans (K.Qy RA.lt))
     ·have m:=Lib.hid (show Zj b addr=none by
        rw[F.out];show Ci ⟨kd,ad,(cnt:Int),0,gn⟩ addr (Ju 0 R (cnt:Int).toNat)=none;rw[Int.toNat_natCast,M];rfl)
      have Y:=N6.below d N6.lt;have R7:=R6.below d R6.lt;have W7:=W6.trans (d.mono W6.size);have f1:=Y.fz 1;have g1:=Y.c1;have U:Turn (λg=>g=p) w7 (w7.setCell ⟨p,1,none⟩ (.slice none 0 0)):=Dy (a:=⟨p,1,none⟩) _ rfl;have X:=R7.keep (U.block w.1.size R7.lt (by show ¬w.1.size=p;omega));have Z:=W7.trans (U.below (B:=w.1.size) (λx hx=>by have:x=p:=hx;omega) (by have:=W7.size;omega));have b8:decide (E=0)=false:=decide_eq_false hE;have b9:(E==0)=false:=by simp[hE]
      have c6:(E != 0)=true:=by simp[hE]
      clear N6 R6 W6 s6 H6 d Y R7 W7 M y2 U;go_wp2_with (first
       |(refine Ub rfl (.tmp 4) (.tmp 68) rfl w.1.size rfl 0 none 0 0 none 0 0 rfl X ?_;intro wz T K)
       |fail)
      refine bodyPost_ret (Gi Tryz.results84 rfl (Ew T)) rfl ?_;exact q47 m.out (Z.trans (K.Qy X.lt))
    ·have d6:decide (D=0)=false:=decide_eq_false b3;go_wp2_with fail
     have N5:NB (w4.alloc (.cells #[.int .i64 D,.slice none 0 0,.slice none 0 0] 77)) w4.1.size D none 0 0 none 0 0:=NB.new w4 _ _ _ _ _ _ _ _;have b5:Below w4.1.size w4 (w4.alloc (.cells #[.int .i64 D,.slice none 0 0,.slice none 0 0] 77)):=Qn;have H5:=H4.below b5 J;have R5:=R4.below b5 R4.lt;have W5:=W4.trans (b5.mono W4.size);have s5:=s4.below b5;generalize w4.alloc (.cells #[.int .i64 D,.slice none 0 0,.slice none 0 0] 77)=w5 at N5 b5 H5 R5 W5 s5 ⊢;obtain⟨p,a4⟩:∃p,w4.1.size=p:=⟨_,rfl⟩;have d4:v.1.size<p:=by rw[<-a4];exact J
     rw[a4] at N5 ⊢;clear a4 b5 H4 R4 W4 s4 J;refine (Rn D false (decide_eq_false b3) none 0 0 none 0 0 w5).mono ?_;rintro e w6 ⟨rfl,G⟩;have N6:=N5.below G N5.lt;have H6:=H5.below G (by have:=N5.lt;omega);have R6:=R5.below G R5.lt;have W6:=W5.trans (G.mono W5.size);have s6:=s5.below G;have y2:=H6.at_ 3;simp only[Yo,Hd.Eh] at y2;clear N5 H5 R5 W5 s5 G;go_wp2_with fail
     refine (qm4 D b3 R cnt A2 n2 c2 w6 s6 (by omega) (by omega)).mono ?_;rintro e w7 (⟨W,r,A1,c1,A4,n4,c4,M,rfl,b2,row,s7,a0,d⟩|⟨E,hE,M,rfl,d⟩)
     ·have I:=Lib.hid (show Zj b addr=(if Y5 r=true/\(⟨D,[],W⟩:Nd).may=true then some (⟨D,[],W⟩:Nd) else none) by
        rw[F.out];show Ci ⟨kd,ad,(cnt:Int),D,gn⟩ addr (Ju D R (cnt:Int).toNat)=_;rw[Int.toNat_natCast,M];show (if kd=(if (D:Int)=0 then 3 else 4)/\ad=addr/\Y5 r=true/\(⟨D,[],W⟩:Nd).may=true then some (⟨D,[],W⟩:Nd) else none)=_;rw[a6.out];by_cases O:Y5 r=true/\(⟨D,[],W⟩:Nd).may=true
        ·rw[if_pos O,if_pos ⟨Hk.out,Ha.out,O⟩]
        ·rw[if_neg O,if_neg (λh=>O h.2.2)])
      have Y:=N6.below d N6.lt;have R7:=R6.below d R6.lt;have W7:=W6.trans (d.mono W6.size);have z6:p<w6.1.size:=N6.lt;have f1:=Y.fz 2;have g1:=Y.c2;have U:Turn (λg=>g=p) w7 (w7.setCell ⟨p,2,none⟩ (.slice A1 cnt c1)):=Dy (a:=⟨p,2,none⟩) _ rfl;have N8:=Y.set2 A1 cnt c1;have X:=R7.keep (U.block w.1.size R7.lt (by show ¬w.1.size=p;omega));have P:=row.turned U (λk hk e=>by have h1:=(row.Qc k hk).1;have h2:k=p:=e;omega);have s8:=s7.turned U (λg hg e=>by
       have h2:g=p:=e;rcases a0 g hg with h1|h1
       ·have:=b7 g h1;omega
       ·omega)
      have Z:=W7.trans (U.below (B:=w.1.size) (λx hx=>by have:x=p:=hx;omega) (by have:=W7.size;omega));clear N6 R6 W6 s6 H6 d Y R7 W7 row s7 a0 M y2;go_wp2_with fail
      generalize w7.setCell ⟨p,2,none⟩ (.slice A1 cnt c1)=w8 at N8 X P s8 Z U ⊢;clear U f1 g1
      cases O:Y5 r
      ·refine (q36 A4 n4 c4 r false O w8 s8).mono ?_;rintro e w9 ⟨rfl,f⟩;have R9:=X.below f X.lt;have W9:=Z.trans (f.mono Z.size);have m:=Lib.hid (I.out.trans (if_neg (λh=>by rw[O] at h;exact absurd h.1 (by simp))));clear O I;go_wp2_with (first
        |(refine Ub rfl (.tmp 4) (.tmp 68) rfl w.1.size rfl 0 none 0 0 none 0 0 rfl R9 ?_;intro wz T K)
        |fail)
       refine bodyPost_ret (Gi Tryz.results84 rfl (Ew T)) rfl ?_;exact q47 m.out (W9.trans (K.Qy R9.lt))
      ·refine (q36 A4 n4 c4 r true O w8 s8).mono ?_;rintro e w9 ⟨rfl,f⟩;have N9:=N8.below f N8.lt;have R9:=X.below f X.lt;have Q:=P.below f;have W9:=Z.trans (f.mono Z.size);have q0:=N9.c0;have q1:=N9.c1;have q2:=N9.c2;have Hz:=Lib.hid O;clear O N8 X P s8 Z f;go_wp2_with fail
       cases hm:(⟨D,[],W⟩:Nd).may
       ·refine (q27 ⟨D,[],W⟩ false hm none 0 0 A1 cnt c1 w9 (qe8 w9) (show Zp _ _ _ _ _ from Q.Kt (by omega)) (by omega) (by omega)).mono ?_;rintro e wA ⟨rfl,y⟩;have RA:=R9.below y R9.lt;have WA:=W9.trans (y.mono W9.size);have m:=Lib.hid (I.out.trans (if_neg (λh=>by rw[hm] at h;exact absurd h.2 (by simp))));clear hm I q0 q1 q2;go_wp2_with (first
         |(refine Ub rfl (.tmp 4) (.tmp 68) rfl w.1.size rfl 0 none 0 0 none 0 0 rfl RA ?_;intro wz T K)
         |fail)
        refine bodyPost_ret (Gi Tryz.results84 rfl (Ew T)) rfl ?_;exact q47 m.out (WA.trans (K.Qy RA.lt))
       ·refine (q27 ⟨D,[],W⟩ true hm none 0 0 A1 cnt c1 w9 (qe8 w9) (show Zp _ _ _ _ _ from Q.Kt (by omega)) (by omega) (by omega)).mono ?_;rintro e wA ⟨rfl,y⟩;have RA:=R9.below y R9.lt;have NA:=N9.below y N9.lt;have rowA:=Q.below y;have WA:=W9.trans (y.mono W9.size);have b0:=Lib.hid (I.out.trans (if_pos (And.intro Hz.out hm)));have a9:=q26 hm;have a8:cnt<=20:=by have h1:=a9.2.1;have h2:=(show Zp _ _ _ _ W from rowA.Kt (by omega)).len;have h3:W.length<=12:=h1;omega
        have q0:=NA.c0;have q1:=NA.c1;have q2:=NA.c2;clear hm I a9;go_wp2_with (first
         |(refine Ub rfl (.tmp 4) (.tmp 69) rfl w.1.size rfl D none 0 0 A1 cnt c1 rfl RA ?_;intro wz T K)
         |fail)
        refine bodyPost_ret (Gi Tryz.results84 rfl (Ew T)) rfl ?_;have b1:=rowA.turned K (λk hk e=>by have h1:=(rowA.Qc k hk).1;have h2:k=w.1.size:=e;omega);exact qk9 b0.out (by omega) a8 (Pq _ _) (Qo.less b1 (by omega)) (WA.trans (K.Qy RA.lt))
     ·have m:=Lib.hid (show Zj b addr=none by
        rw[F.out];show Ci ⟨kd,ad,(cnt:Int),D,gn⟩ addr (Ju D R (cnt:Int).toNat)=none;rw[Int.toNat_natCast,M];rfl)
      have Y:=N6.below d N6.lt;have R7:=R6.below d R6.lt;have W7:=W6.trans (d.mono W6.size);have f1:=Y.fz 2;have g1:=Y.c2;have U:Turn (λg=>g=p) w7 (w7.setCell ⟨p,2,none⟩ (.slice none 0 0)):=Dy (a:=⟨p,2,none⟩) _ rfl;have X:=R7.keep (U.block w.1.size R7.lt (by show ¬w.1.size=p;omega));have Z:=W7.trans (U.below (B:=w.1.size) (λx hx=>by have:x=p:=hx;omega) (by have:=W7.size;omega));have b8:decide (E=0)=false:=decide_eq_false hE;have b9:(E==0)=false:=by simp[hE]
      have c6:(E != 0)=true:=by simp[hE]
      clear N6 R6 W6 s6 H6 d Y R7 W7 M y2 U;go_wp2_with (first
       |(refine Ub rfl (.tmp 4) (.tmp 68) rfl w.1.size rfl 0 none 0 0 none 0 0 rfl X ?_;intro wz T K)
       |fail)
      refine bodyPost_ret (Gi Tryz.results84 rfl (Ew T)) rfl ?_;exact q47 m.out (Z.trans (K.Qy X.lt))
   ·have m:=Lib.hid (show Zj b addr=none by
     rw[F.out]
     cases Ju D R (cnt:Int).toNat with
     |none=>rfl
     |some x=>exact if_neg (λh=>ha h.2.1))
    have a1:(ad==addr)=false:=by simp[ha]
    have a2:(ad != addr)=true:=by simp[ha]
    clear ha;refine Ua (by kernel_rfl) (by kernel_rfl) ?_;repeat (go_big_quiet_step (first
     |(go_at_call 140;exact Calls.J7 (q4m D Kb a6.out _))
     |fail))
    refine wpQuiet_nil ?_;rintro _ ⟨u,rfl⟩;have R4:=R3.below u.ok R3.lt;have W4:=W3.trans (u.ok.mono W3.size);clear p0 p1 p3;go_wp2_with (first
     |(refine Ub rfl (.tmp 4) (.tmp 32) rfl w.1.size rfl 0 none 0 0 none 0 0 rfl R4 ?_;intro wz T K)
     |fail)
    refine bodyPost_ret (Gi Tryz.results84 rfl (Ew T)) rfl ?_;exact q47 m.out (W4.trans (K.Qy R4.lt))
  ·have m:=Lib.hid (show Zj b addr=none by
    rw[F.out]
    cases Ju D R (cnt:Int).toNat with
    |none=>rfl
    |some x=>exact if_neg (λh=>hk (h.1.trans a6.out)))
   have k1:(kd==Kb)=false:=by simp[hk]
   have k2:(kd != Kb)=true:=by simp[hk]
   clear hk;refine Ua (by kernel_rfl) (by kernel_rfl) ?_;repeat (go_big_quiet_step (first
    |(go_at_call 140;exact Calls.J7 (q4m D Kb a6.out _))
    |fail))
   refine wpQuiet_nil ?_;rintro _ ⟨u,rfl⟩;have R4:=R3.below u.ok R3.lt;have W4:=W3.trans (u.ok.mono W3.size);clear p0 p1 p3;go_wp2_with (first
    |(refine Ub rfl (.tmp 4) (.tmp 32) rfl w.1.size rfl 0 none 0 0 none 0 0 rfl R4 ?_;intro wz T K)
    |fail)
   refine bodyPost_ret (Gi Tryz.results84 rfl (Ew T)) rfl ?_;exact q47 m.out (W4.trans (K.Qy R4.lt))
 ·have m:=Lib.hid (show Zj b addr=none by unfold Zj;rw[hE,if_neg a7]);have b8:decide (E=0)=false:=decide_eq_false a7;have b9:(E==0)=false:=by simp[a7]
  have c6:(E != 0)=true:=by simp[a7]
  clear a7 hE hH hR Rv Wv;go_wp2_with fail
  generalize v.alloc (.cells #[.int .i64 H.kind,.int .i64 H.addr,.int .i64 H.count,.int .i64 H.level,.int .i64 H.gen] 198)=w3 at H3 R3 W3 s3 a3 ⊢;refine Ua (by kernel_rfl) (by kernel_rfl) ?_;repeat (go_big_quiet_step (fail))
  refine wpQuiet_nil ?_;rintro _ ⟨u,rfl⟩;have R4:=R3.below u.ok R3.lt;have W4:=W3.trans (u.ok.mono W3.size);go_wp2_with (first
   |(refine Ub rfl (.tmp 4) (.tmp 32) rfl w.1.size rfl 0 none 0 0 none 0 0 rfl R4 ?_;intro wz T K)
   |fail)
  refine bodyPost_ret (Gi Tryz.results84 rfl (Ew T)) rfl ?_;exact q47 m.out (W4.trans (K.Qy R4.lt))
theorem qw2 {r:List UInt8}(h:U6 r=0):r=(Gw r).bytes++Wj r:=by
 unfold U6 at h;split at h
 ·rename_i b;have f:9<=r.length:=of_decide_eq_true (by unfold ktY at b;rw[Bool.and_eq_true] at b;exact b.1);unfold Gw Wj;rw[if_pos b,if_pos b];unfold Dc Kd.bytes;dsimp only;rw[q3c _ 4 (by simp;omega),q3c _ 1 (by simp;omega),q3c _ 4 (by simp;omega)];have e:(r.drop 5).take 4++r.drop 9=r.drop 5:=by have:=List.take_append_drop 4 (r.drop 5);rwa [List.drop_drop] at this
  have d:(r.drop 4).take 1++r.drop 5=r.drop 4:=by have:=List.take_append_drop 1 (r.drop 4);rwa [List.drop_drop] at this
  rw[List.append_assoc,List.append_assoc,e,d,List.take_append_drop]
 ·split at h<;>omega
theorem qyr {r:List UInt8}(h:Il r=0):r=Zc ((Lc r).length:Int) 1++(Lc r++Nv r):=by
 unfold Il at h;split at h
 ·rename_i b;obtain⟨h1,h2⟩:=of_decide_eq_true b;unfold Lc Nv;rw[if_pos b,if_pos b];unfold bodyT Uy;have d:((r.drop 1).take (Za (r.take 1))).length=Za (r.take 1):=by rw[List.length_take,List.length_drop];omega
  rw[d,q3c _ 1 (by simp;omega)];have e:(r.drop 1).take (Za (r.take 1))++r.drop (1+Za (r.take 1))=r.drop 1:=by have:=List.take_append_drop (Za (r.take 1)) (r.drop 1);rwa [List.drop_drop] at this
  rw[e,List.take_append_drop]
 ·omega
theorem qys {r:List UInt8}(h:Ij r=0):r=Zc (Px r) 2++Nu r:=by
 unfold Ij at h;split at h
 ·rename_i b;have h1:=of_decide_eq_true b;unfold Px Nu;rw[if_pos b,if_pos b,q3c _ 2 (by simp;omega),List.take_append_drop]
 ·omega
theorem qx0 (v l:List UInt8)(m:v.length<=255):Lc (Zc (v.length:Int) 1++(v++l))=v/\Nv (Zc (v.length:Int) 1++(v++l))=l/\Il (Zc (v.length:Int) 1++(v++l))=0:=by
 have d:(Zc (v.length:Int) 1++(v++l)).take 1=Zc (v.length:Int) 1:=List.take_left' (Ya _ _);have e:(Zc (v.length:Int) 1++(v++l)).drop 1=v++l:=List.drop_left' (Ya _ _);have f:Za (Zc (v.length:Int) 1)=v.length:=by rw[qa2,Nat.mod_eq_of_lt (by omega)]
 have b:ttY (Zc (v.length:Int) 1++(v++l))=true:=by
  refine decide_eq_true ?_;rw[d,f];simp[Ya]
 unfold Lc Nv Il bodyT Uy;rw[if_pos b,if_pos b,if_pos b,d,f,e,<-List.drop_drop,e];exact⟨List.take_left' rfl,List.drop_left' rfl,rfl⟩
theorem qx1 (a:Int)(l:List UInt8)(h0:0<=a)(h1:a<65536):Px (Zc a 2++l)=a/\Nu (Zc a 2++l)=l/\Ij (Zc a 2++l)=0:=by
 have b:t2Y (Zc a 2++l)=true:=decide_eq_true (by rw[List.length_append,Ya];omega);unfold Px Nu Ij;rw[if_pos b,if_pos b,if_pos b,List.take_left' (Ya _ _),List.drop_left' (Ya _ _),Ro a 2 h0 (by omega)];exact⟨rfl,rfl,rfl⟩
theorem qfs (xs:List Qg)(x:Qg)(l:List UInt8)(y:x.k.may=true)(A:x.v.length<=28):Xa ⟨0,xs,[]⟩ (Eu x++l)=some (⟨0,xs++[x],[]⟩,l):=by
 have e:Eu x++l=x.k.bytes++(Zc (x.v.length:Int) 1++(x.v++l)):=by unfold Eu;simp
 obtain⟨b,d,f⟩:=qsd x.k y (Zc (x.v.length:Int) 1++(x.v++l));obtain⟨m,p,u⟩:=qx0 x.v l (by omega);rw[e];unfold Xa;rw[b,d,f,m,p,u,if_pos rfl,if_pos rfl,if_pos rfl]
theorem qdz (b:Int)(B:b≠0)(xs:List Qm)(x:Qm)(l:List UInt8)(A:x.k.may=true)(h0:0<=x.a)(h1:x.a<65536):Xa ⟨b,[],xs⟩ (Es x++l)=some (⟨b,[],xs++[x]⟩,l):=by
 have e:Es x++l=x.k.bytes++(Zc x.a 2++l):=by unfold Es;simp
 obtain⟨d,f,m⟩:=qsd x.k A (Zc x.a 2++l);obtain⟨p,u,y⟩:=qx1 x.a l h0 h1;rw[e];unfold Xa;rw[d,f,m,p,u,y,if_pos rfl,if_neg B,if_pos rfl]
theorem qka (xs:List Qg)(z:List UInt8)(d:∀j,j<xs.length->(Qz xs j).k.may=true/\(Qz xs j).v.length<=28):∀j,j<=xs.length->Ju 0 (xs.flatMap Eu++z) j=some (⟨0,xs.take j,[]⟩,(xs.drop j).flatMap Eu++z)
 |0,_=>rfl
 |j+1,hj=>by
  have f:=qka xs z d j (by omega);rw[q4q _ _ _ _ _ f];have b:=q1x (show j<xs.length by omega);have hd:xs.drop j=Qz xs j::xs.drop (j+1):=by
   rw[<-List.getElem_cons_drop (h:=by omega)];rw[List.getElem?_eq_getElem (by omega)] at b;rw[Option.some.inj b]
  obtain⟨h1,h2⟩:=d j (by omega);rw[hd,List.flatMap_cons,List.append_assoc,qfs _ _ _ h1 h2];have e:xs.take (j+1)=xs.take j++[Qz xs j]:=by
   rw[List.take_succ_eq_append_getElem (by omega)];rw[List.getElem?_eq_getElem (by omega)] at b;rw[Option.some.inj b]
  rw[e]
theorem qpf (b:Int)(f:b≠0)(xs:List Qm)(z:List UInt8)(e:∀j,j<xs.length->(Qh xs j).k.may=true/\0<=(Qh xs j).a/\(Qh xs j).a<65536):∀j,j<=xs.length->Ju b (xs.flatMap Es++z) j=some (⟨b,[],xs.take j⟩,(xs.drop j).flatMap Es++z)
 |0,_=>rfl
 |j+1,hj=>by
  have u:=qpf b f xs z e j (by omega);rw[q4q _ _ _ _ _ u];have d:=q11 (show j<xs.length by omega);have hd:xs.drop j=Qh xs j::xs.drop (j+1):=by
   rw[<-List.getElem_cons_drop (h:=by omega)];rw[List.getElem?_eq_getElem (by omega)] at d;rw[Option.some.inj d]
  obtain⟨h1,h2,m⟩:=e j (by omega);rw[hd,List.flatMap_cons,List.append_assoc,qdz b f _ _ _ h1 h2 m];have p:xs.take (j+1)=xs.take j++[Qh xs j]:=by
   rw[List.take_succ_eq_append_getElem (by omega)];rw[List.getElem?_eq_getElem (by omega)] at d;rw[Option.some.inj d]
  rw[p]
theorem qx2 {N:Nd}(hm:N.may=true)(z:List UInt8):Ju N.lvl (N.body++z) (N.items.length+N.kids.length)=some (N,z):=by
 have d:=q1n hm;obtain⟨l,its,f⟩:=N;by_cases e:l=0
 ·subst e;have u:f=[]:=d.1 rfl;subst u;have y:=hm;rw[qjs _ rfl rfl] at hm;unfold Di at hm;rw[Bool.and_eq_true] at hm;have h2:=qdo.1 hm.2;have:=qka its z (λj m=>by
   have b:=h2 j m;unfold okI Ws O0 at b;rw[Bool.and_eq_true,Bool.and_eq_true,qdm] at b;exact⟨b.1.1,of_decide_eq_true b.2⟩) its.length (Nat.le_refl _)
  unfold Nd.body;simp only[List.flatMap_nil,List.append_nil,List.length_nil,Nat.add_zero];rw[this,List.take_length,List.drop_length];rfl
 ·have p:its=[]:=d.2 e;subst p;have A:1<=l/\l<=7:=by
   unfold Nd.may at hm;rw[if_neg e,Bool.and_eq_true,Bool.and_eq_true] at hm;have h:=of_decide_eq_true hm.2.2;exact⟨h.1,Int.lt_add_one_iff.1 h.2.1⟩
  rw[qf7 _ e A rfl] at hm;unfold Dj at hm;rw[Bool.and_eq_true] at hm;have h2:=qdo.1 hm.2;have:=qpf l e f z (λj m=>by
   have b:=h2 j m;unfold okK Ws O9 at b;rw[Bool.and_eq_true,Bool.and_eq_true,qa4] at b;have B:1<=(Qh f j).a/\(Qh f j).a<=2047:=of_decide_eq_true b.2;exact⟨b.1.1,by omega,by omega⟩) f.length (Nat.le_refl _)
  unfold Nd.body;simp only[List.flatMap_nil,List.nil_append,List.length_nil,Nat.zero_add];rw[this,List.take_length,List.drop_length];rfl
theorem qw3 (l:Int)(body:List UInt8):∀(j:Nat) (N:Nd) (r:List UInt8),Ju l body j=some (N,r)->body=N.body++r/\N.lvl=l/\N.items.length+N.kids.length=j/\(l=0->N.kids=[])/\(l≠0->N.items=[])
 |0,N,r,h=>by
  injection h with h;injection h with h1 h2;subst h1 h2;exact⟨rfl,rfl,rfl,λ_=>rfl,λ_=>rfl⟩
 |j+1,N,r,h=>by
  cases u:Ju l body j with
  |none=>rw[qa3 l body j (j+1) u (by omega)] at h;cases h
  |some p=>
   obtain⟨M,s⟩:=p;rw[q4q _ _ _ _ _ u] at h;obtain⟨y,m,E,B,D⟩:=qw3 l body j M s u;unfold Xa at h;split at h
   ·rename_i A;split at h
    ·rename_i h0;split at h
     ·rename_i d;injection h with h;injection h with h1 h2;subst h1 h2;have f:l=0:=m.symm.trans h0;have b:=B f;refine⟨?_,m,?_,λ_=>b,λh=>absurd f h⟩
      ·rw[y];unfold Nd.body;dsimp only;rw[b];simp only[List.flatMap_nil,List.append_nil,List.flatMap_append,List.flatMap_cons];rw[List.append_assoc];congr 1
       conv=>lhs;rw[qw2 A,qyr d]
       unfold Eu;simp
      ·dsimp only;rw[List.length_append];simp;omega
     ·cases h
    ·rename_i h0;split at h
     ·rename_i d;injection h with h;injection h with h1 h2;subst h1 h2;have f:l≠0:=λe=>h0 (m.trans e)
      have b:=D f;refine⟨?_,m,?_,λh=>absurd h f,λ_=>b⟩
      ·rw[y];unfold Nd.body;dsimp only;rw[b];simp only[List.flatMap_nil,List.nil_append,List.flatMap_append,List.flatMap_cons];rw[List.append_assoc];congr 1
       conv=>lhs;rw[qw2 A,qys d]
       unfold Es;simp
      ·dsimp only;rw[List.length_append];simp;omega
     ·cases h
   ·cases h
theorem qft (N:Nd)(h0:0<=N.lvl):(if 0<N.lvl then (4:Int) else 3)=(if N.lvl=0 then 3 else 4):=by
 by_cases h:N.lvl=0
 ·rw[if_pos h,if_neg (by omega)]
 ·rw[if_neg h,if_pos (by omega)]
theorem qx3 {M:Nd}{h:Hd}{addr:Int}(h0:0<=M.lvl)(f:M.lvl=h.level)(d:(M.items.length:Int)+(M.kids.length:Int)=h.count)(e:h.kind=if h.level=0 then 3 else 4)(b:h.addr=addr):M.head addr h.gen=h:=by
 obtain⟨y,p,ct,m,u⟩:=h;have f:M.lvl=m:=f;have d:(M.items.length:Int)+(M.kids.length:Int)=ct:=d;have e:y=if m=0 then 3 else 4:=e
 have b:p=addr:=b;have h1:=qft M h0;show (⟨if 0<M.lvl then 4 else 3,addr,(M.items.length:Int)+(M.kids.length:Int),M.lvl,u⟩:Hd)=_;rw[h1,d,f,<-e,b]
theorem qx4 (h:Hd)(l r:List UInt8)(b:Y5 r=true)(d:l.length+r.length=236):Zt h l=Zt h (l++r):=by
 have e:Yc h l=Yc h (l++r):=by
  unfold Yc;have z:=qjw b;rw[show 236-(l++r).length=0 by rw[List.length_append];omega,show 236-l.length=r.length by omega,<-z];simp
 unfold Zt;rw[e]
theorem qmh (n:Nat):Y5 (List.replicate n 0)=true:=by
 unfold Y5;rw[List.all_eq_true];intro x b;rw[(List.mem_replicate.1 b).2];rfl
theorem qc8 {N:Nd}{addr gen:Int}(hm:N.may=true)(e:Zm N addr gen=0)(d:Int):Zj (Jr N addr gen) d=if addr=d then some N else none:=by
 unfold Zm at e;rw[if_pos hm] at e;obtain⟨m,A,p⟩:=q6u _ _ e;unfold Jr;rw[if_pos hm,p];obtain⟨B,D,E⟩:=q6t _ _ m A;obtain⟨_,_,_,h0⟩:=q26 hm;unfold Zj;rw[if_pos E,B,D];have u:(N.head addr gen).count.toNat=N.items.length+N.kids.length:=by unfold Nd.head;dsimp only;omega
 have f:(N.head addr gen).level=N.lvl:=rfl;rw[u,f,qx2 hm];unfold Ci;dsimp only;by_cases b:addr=d
 ·have y:(N.head addr gen).kind=(if (N.head addr gen).level=0 then 3 else 4):=qft N h0;rw[if_pos b,if_pos ⟨y,b,qmh _,hm⟩]
 ·rw[if_neg b,if_neg (λh=>b h.2.1)]
theorem qmi (b:List UInt8)(addr:Int):Zj b addr=Ih b addr:=by
 refine Option.ext λN=>?_
 constructor
 ·intro h;unfold Zj at h;split at h
  ·rename_i A;have u:okB b=true:=by
    cases R:okB b
    ·rw[(qjb R).2.2] at A;cases A
    ·rfl
   cases d:Ju (Yf b).level (Ul b) (Yf b).count.toNat with
   |none=>rw[d] at h;cases h
   |some p=>
    obtain⟨M,r⟩:=p;rw[d] at h;unfold Ci at h;dsimp only at h;by_cases D:(Yf b).kind=(if (Yf b).level=0 then 3 else 4)/\(Yf b).addr=addr/\Y5 r=true/\M.may=true
    ·rw[if_pos D] at h;obtain⟨h1,h2,Q,F⟩:=D;injection h with h;subst h;obtain⟨I,K,W,O,P⟩:=qw3 _ _ _ _ _ d;obtain⟨X,Y,_,U⟩:=q26 F;have f:=qvt A;have T:=of_decide_eq_true f;have B:qdk b=(Yf b).count.toNat:=by
      have:M.items.length+M.kids.length<=12:=by
       by_cases J:(Yf b).level=0
       ·rw[O J];simp;omega
       ·rw[P J];simp;omega
      unfold qdk;omega
     have m:=(q7i u).2.1;have G:=(of_decide_eq_true u).1;have E:M.body.length+r.length=236:=by
      have:=congrArg List.length I;rw[m,List.length_drop,List.length_append] at this;omega
     have e:M.head addr (Yf b).gen=Yf b:=qx3 U K (by omega) h1 h2;unfold Ih;rw[if_pos A,B,d];unfold qdl;dsimp only;have y:Zm M addr (Yf b).gen=0:=by
      unfold Zm;rw[if_pos F,e];unfold Xb;rw[if_pos f,if_pos (by omega)]
     have H:Jr M addr (Yf b).gen=b:=by
      unfold Jr;rw[if_pos F,e];unfold Xg;rw[if_pos f,if_pos (by omega),qx4 _ _ r Q E,<-I,m];have:=(qwi b u).2;unfold Xg at this;rw[if_pos f,if_pos (by rw[List.length_drop];omega)] at this;exact this
     rw[if_pos ⟨y,H⟩]
    ·rw[if_neg D] at h;cases h
  ·cases h
 ·intro h;unfold Ih at h;split at h
  ·rename_i A
   cases d:Ju (Yf b).level (Ul b) (qdk b) with
   |none=>rw[d] at h;cases h
   |some p=>
    obtain⟨M,r⟩:=p;rw[d] at h;unfold qdl at h;dsimp only at h;split at h
    ·rename_i D;obtain⟨y,H⟩:=D;injection h with h;subst h;have hm:M.may=true:=by
      cases hm:M.may
      ·unfold Zm at y;rw[hm] at y;cases y
      ·rfl
     have:=qc8 hm y addr;rw[H,if_pos rfl] at this;exact this
    ·cases h
  ·cases h
theorem qpg {N:Nd}(hm:N.may=true):N.body.length<=236:=by
 obtain⟨h1,h2,u,_⟩:=q26 hm;have m:∀b:List Qg,(∀j,j<b.length->(Qz b j).v.length<=28)->(b.flatMap Eu).length<=38*b.length:=by
  intro b;induction b with
  |nil=>intro _;simp
  |cons x b ih=>
   intro h;have D:x.v.length<=28:=h 0 (by simp);have:=ih (λj B=>h (j+1) (by simp;omega));rw[List.flatMap_cons,List.length_append,List.length_cons];have e:(Eu x).length=10+x.v.length:=by unfold Eu;rw[List.length_append,List.length_append,Kd.Xu,Ya];omega
   omega
 have p:∀b:List Qm,(b.flatMap Es).length=11*b.length:=by
  intro b;induction b with
  |nil=>simp
  |cons x b ih=>
   rw[List.flatMap_cons,List.length_append,List.length_cons,ih];have e:(Es x).length=11:=by unfold Es;rw[List.length_append,Kd.Xu,Ya]
   omega
 have d:=q1n hm;have y:=m N.items u;have A:=p N.kids;unfold Nd.body;rw[List.length_append];by_cases f:N.lvl=0
 ·rw[d.1 f];simp only[List.flatMap_nil,List.length_nil];omega
 ·rw[d.2 f];simp only[List.flatMap_nil,List.length_nil];omega
theorem qtr {N:Nd}{addr gen:Int}(hm:N.may=true)(d:¬Zm N addr gen=0):Zm N addr gen=1/\(addr<0\/2048<=addr\/gen<0\/1099511627775<gen):=by
 unfold Zm at d ⊢;rw[if_pos hm] at d ⊢;have e:=qpg hm;unfold Xb at d ⊢;by_cases b:(N.head addr gen).ok=true
 ·rw[if_pos b,if_pos e] at d;exact absurd rfl d
 ·rw[if_neg b];refine⟨rfl,?_⟩;obtain⟨h1,h2,_,m⟩:=q26 hm;have p:N.lvl<=7:=by
   unfold Nd.may at hm;split at hm
   ·omega
   ·rw[Bool.and_eq_true,Bool.and_eq_true] at hm;have:=of_decide_eq_true hm.2.2;omega
  refine Classical.byContradiction λf=>b (decide_eq_true ?_)
  unfold Nd.head;dsimp only;refine⟨?_,?_,?_,?_,?_⟩;all_goals first|omega|(split<;>omega)
theorem q2v {P:Program}{w:World}(base:Nat)(t ty e:TypeId)(i:TypeInfo)(size:Nat)(y:P.underlying t=some (.slice e))(u:P.info? e=some i)
  (A:Option Addr) (n c:Nat) (xs:List Value) (b:w.ownsRow base e size (.slice A n c) n xs) (B:Option Addr) (d:Nat) (_:size≠0) (_:i.size=size) :
  (Builtin.append_ #[t,t] ty #[.slice A n c,.slice B 0 d]).run P w=.ok (.slice A n c) w:=by
 rcases b.2 with⟨p,h0⟩|⟨g,cap,D,p,_,_,m,_⟩
 ·injection p with h1 h2 f;subst h1 h2 f
  cases B<;>simp[Builtin.append_,run_underlying y,sizeOf,typeInfo,u,Builtin.lenOf,Builtin.firstCells,loadCells,loadCellsFrom]
 ·injection p with h1 h2 f;subst h1 f
  cases B<;>simp[Builtin.append_,run_underlying y,sizeOf,typeInfo,u,Builtin.lenOf,Builtin.firstCells,m,storeCells,loadCells,loadCellsFrom]
theorem q0k {w:World}{ops:Array Oper}{e:List Oper}{o:Oper}{a:Act}{Q:Exit->Act->World->Prop}(p:o.guard=none)(H x:Operand)
  (O:o.op=.call { callee:=.builtin .append,args:=#[H,x],argTypes:=#[67,67] })
  (base:Nat) (A:Option Addr) (n c:Nat) (zs:List Int) (T:a.eval H=.slice A n c) (b:Qo w base 3 1 A n c (zs.map iv))
  (B:Option Addr) (m d:Nat) (ys:List Int) (U:a.eval x=.slice B m d) (R:Vw w B m d ys) (E:n+m<=1000000) (f:base<=w.1.size)
  (h:∀J M I,Qo I base 3 1 J (n+m) M ((zs++ys).map iv)->Below base w I->wpList Tryz.prog ops Q e (a.put o.dst (.slice J (n+m) M)) I):wpList Tryz.prog ops Q (o::e) a w:=by
 by_cases hm:m=0
 ·subst hm;have F:ys=[]:=by
   have:=R.len;simpa using this
  subst F;rw[List.append_nil] at h;refine wpList_plain p λK W=>?_
  obtain⟨i,X,Z,G,a0⟩:=info_parts Fp.info;have D:=q2v (P:=Tryz.prog) base 67 o.type 3 i 1 Fp.sl X A n c _ b.1 B d (by decide) G;unfold Oper.wp execOp;simp only[O,resolve,invoke,builtin,Sem.run_bind,Sem.run_pure,Result.andThen_ok,List.map_toArray,List.map_cons,List.map_nil,T,U,D];exact W _ _ (h A c w b (Below.refl _ _))
 ·refine q4b w Fp p H x O base A n c (zs.map iv) T b B m d (ys.map iv) U R (by omega) (λy F u Y=>?_) E (by decide) f ?_
  ·obtain⟨z,_,rfl⟩:=List.mem_map.1 F;exact qdf z (iv z) (List.mem_cons_self ..) u Y
  ·rw[<-List.map_append];exact h
