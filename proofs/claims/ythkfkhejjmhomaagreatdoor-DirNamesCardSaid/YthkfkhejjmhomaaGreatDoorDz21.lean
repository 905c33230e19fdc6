/- The code's node: whether all are noughts, by the library's Count -/
import Derived.Test.YthkfkhejjmhomaaGreatDoorDz10
import Derived.Test.YthkfkhejjmhomaaGreatDoorDz15
import Derived.Test.YthkfkhejjmhomaaGreatDoorDz20
import Derived.Shelf.Bytes.SlCountOne
import Derived.Laws.Externs
namespace Go.Proofs.YthkfkhejjmhomaaGreatDoor
open Go Go.RowKit Go.Proofs
set_option maxHeartbeats 8000000
set_option maxRecDepth 100000
def ints (l:List UInt8):List Int:=l.map λx=>(x.toNat:Int)
theorem Qrt (l:List UInt8):Lib.bytesOf (ints l)=l:=by
 unfold Lib.bytesOf ints;rw[List.map_map];conv=>rhs;rw[<-List.map_id l]
 refine List.map_congr_left λx _=>?_
 simp
theorem Zdd {w:World}{a:Addr}{n c:Nat}{l:List UInt8}(h:Sl w (some a) n c l):∀i,i<n->w.cell? (a.add i)=some (.int .u8 ((ints l).getD i 0)):=by
 intro i hi;obtain⟨g,e,_,d⟩:=h.cell hi;injection e with e;subst e;rw[d];have f:i<l.length:=by have:=h.len;omega
 simp[ints,Xy,List.getD_eq_getElem?_getD,List.getElem?_map,List.getElem?_eq_getElem f]
theorem Qks {P:Program}{w:World}{A:Option Addr}{n c:Nat}{l:List UInt8}(h:Sl w A n c l)(cv:Int) :
  (Extern.BytealgCount.count #[.slice A n c,.int .u8 cv]).run P w=.ok (.int .i64 (Lib.countByte l cv.toNat.toUInt8)) w:=by
 cases A with
 |some a=>
  have:=Lib.run_countAt (P:=P) w a n c (ints l) (by unfold ints;rw[List.length_map];exact h.len) (Zdd h) cv;rwa [Qrt] at this
 |none=>
  have hn:n=0:=by
   rcases Nat.eq_zero_or_pos n with h0|h0
   ·exact h0
   ·obtain⟨f,e,_⟩:=h.cell h0
    cases e
  have d:l=[]:=List.eq_nil_of_length_eq_zero (by rw[h.len];exact hn);rw[Lib.run_countNil,d];rfl
theorem Qux (l:List UInt8):(Lib.countByte l 0=l.length)↔Wl l=true:=by
 unfold Lib.countByte Wl;rw[List.count_eq_length,List.all_eq_true];constructor
 ·intro h x d;rw[<-h x d];rfl
 ·intro h x d;have:=h x d;exact (by simpa using this:x=0).symm
theorem Qq4 (A:Option Addr)(n c:Nat)(l:List UInt8)(g d:Nat)(w:World)(h:Sl w A n c l)(f:w.cell? ⟨g,0,none⟩=some (.int .u8 0)) :
  Calls Tryz.prog 213 #[.slice A n c,.slice (some ⟨g,0,none⟩) 1 d] w λe w'=>e=.returned (.int .i64 (Lib.countByte l 0:Nat))/\w=w':=by
 go_enter Tryz.func213,Tryz.ntmps213
 go_wp2;rw[run_callFunc_extern Tryz.func246 (by kernel_rfl) (by kernel_rfl) (by kernel_rfl) (e:=Extern.BytealgCount.count) (by kernel_rfl),Qks h 0];simp only[Result.andThen];rw[Oper.upon_value];go_wp2;go_ret;exact⟨rfl,rfl⟩
theorem Qac (A:Option Addr)(n c:Nat)(l:List UInt8)(r:Bool)(u:Wl l=r)(w:World)(h:Sl w A n c l) :
  Calls Tryz.prog 146 #[.slice A n c] w λe w'=>e=.returned (.bool r)/\Below w.1.size w w':=by
 have d:=h.len;have g:Below w.1.size w (w.alloc (.cells #[.int .u8 0] 5)):=Ib;have p:(w.alloc (.cells #[.int .u8 0] 5)).cell? ⟨w.1.size,0,none⟩=some (.int .u8 0):=by rw[cell_of_row _ _ _ _ _ _ (heap_alloc_new w _)];rfl
 obtain⟨q,m⟩:∃q,Lib.countByte l 0=q:=⟨_,rfl⟩;have f:=Lib.hid (show ((q:Int)==(n:Int))=r by
  have:=Qux l;rw[m,d,u] at this
  cases r
  ·exact decide_eq_false (λe:(q:Int)=(n:Int)=>by have:=this.1 (by omega);cases this)
  ·exact decide_eq_true (by have:=this.2 rfl;omega:(q:Int)=(n:Int)))
 clear d;go_enter Tryz.func146,Tryz.ntmps146
 go_wp2_with fail
 refine (Qq4 A n c l w.1.size 1 _ (h.below g) p).mono ?_;rw[m];rintro e y ⟨rfl,rfl⟩;go_wp2;go_ret;exact⟨by rw[<-f.out];rfl,g⟩
def Uc (H:Hd)(addr:Int):Option (Nd × List UInt8)->Option Nd
 |some (N,r)=>if H.kind=(if H.level=0 then 3 else 4)/\H.addr=addr/\Wl r=true/\N.may=true then some N else none
 |none=>none
def Xh (b:List UInt8)(addr:Int):Option Nd:=if Cm b=0 then Uc (Vk b) addr (Ky (Vk b).level (Gf b) (Vk b).count.toNat) else none
def Qan (b:List UInt8)(addr:Int)(w:World)(e:Ending)(w':World):Prop:=
 ∃g f c1 m d p,e=.returned (.tuple #[.agg #[.int .i64 ((Xh b addr).getD ⟨0,[],[]⟩).lvl,.slice g f c1,.slice m d p],.int .i64 (if (Xh b addr).isSome=true then 0 else 3)])/\f<=20/\d<=20/\
   Zn w' w.1.size g f c1 ((Xh b addr).getD ⟨0,[],[]⟩).items/\Qr w' w.1.size 148 4 m d p (((Xh b addr).getD ⟨0,[],[]⟩).kids.map Qk.vs)/\Below w.1.size w w'
theorem Zn.less {w:World}{b base n c:Nat}{A:Option Addr}{xs:List Qq}(h:Zn w base A n c xs)(hb:b<=base):Zn w b A n c xs:=by
 obtain⟨f,h1,h2,y⟩:=h;refine⟨f,h1.less hb,h2,λj r x z D=>?_⟩;obtain⟨V,p,q,e,B,d⟩:=y j r x z D;exact⟨V,p,q,e,B,λu g m=>⟨Nat.le_trans hb (d u g m).1,(d u g m).2⟩⟩
theorem Qad {b:List UInt8}{addr:Int}{w w':World}(h:Xh b addr=none)(d:Below w.1.size w w'):Qan b addr w (.returned (.tuple #[.agg #[.int .i64 0,.slice none 0 0,.slice none 0 0],.int .i64 3])) w':=by
 unfold Qan;rw[h];exact⟨none,0,0,none,0,0,rfl,by omega,by omega,Ob _ _,Lp _ _ _ _,d⟩
theorem Qn7 {b:List UInt8}{addr:Int}{N:Nd}{w w':World}(h:Xh b addr=some N){A:Option Addr}{n c:Nat}{B:Option Addr}{m d:Nat}(hn:n<=20)(hm:m<=20)(e:Zn w' w.1.size A n c N.items)(f:Qr w' w.1.size 148 4 B m d (N.kids.map Qk.vs))(g:Below w.1.size w w') :
  Qan b addr w (.returned (.tuple #[.agg #[.int .i64 N.lvl,.slice A n c,.slice B m d],.int .i64 0])) w':=by
 unfold Qan;rw[h];exact⟨A,n,c,B,m,d,rfl,hn,hm,e,f,g⟩
theorem Qk1 (A:Option Addr)(k c:Nat)(b:List UInt8)(addr:Int)(w:World)(hs:Sl w A k c b)(ht:Tab w) :
  Calls Tryz.prog 84 #[.slice A k c,.int .i64 addr] w λe w'=>Qan b addr w e w':=by
 go_enter Tryz.func84,Tryz.ntmps84
 go_wp2_with fail
 have R1:NB (w.alloc (.cells #[.int .i64 0,.slice none 0 0,.slice none 0 0] 77)) w.1.size 0 none 0 0 none 0 0:=NB.new w _ _ _ _ _ _ _ _;have W1:Below w.1.size w (w.alloc (.cells #[.int .i64 0,.slice none 0 0,.slice none 0 0] 77)):=Ib;generalize w.alloc (.cells #[.int .i64 0,.slice none 0 0,.slice none 0 0] 77)=w1 at R1 W1 ⊢;have hO:=open_any A k c b w1 (hs.below W1) (ht.below W1 ht.1);unfold Ox Hd.v at hO;obtain⟨H,hH⟩:∃H,Vk b=H:=⟨_,rfl⟩;obtain⟨R,hR⟩:∃R,Gf b=R:=⟨_,rfl⟩;obtain⟨E,hE⟩:∃E,Cm b=E:=⟨_,rfl⟩;rw[hH,hR,hE] at hO;refine hO.mono ?_;clear hO;rintro e v ⟨A2,n2,c2,rfl,a7,b8⟩;have Rv:=R1.below b8 R1.lt;have Wv:=W1.trans (b8.mono W1.size);have bx:Below v.1.size v (v.alloc (.cells #[.int .i64 H.kind,.int .i64 H.addr,.int .i64 H.count,.int .i64 H.level,.int .i64 H.gen] 198)):=Ib;have H3:HB (v.alloc (.cells #[.int .i64 H.kind,.int .i64 H.addr,.int .i64 H.count,.int .i64 H.level,.int .i64 H.gen] 198)) v.1.size H:=⟨_,heap_alloc_new v _⟩;have R3:=Rv.below bx Rv.lt;have W3:=Wv.trans (bx.mono Wv.size);have s3:=a7.sl.below bx;have zw:w.1.size<v.1.size:=Rv.lt;have Z:v.1.size<(v.alloc (.cells #[.int .i64 H.kind,.int .i64 H.addr,.int .i64 H.count,.int .i64 H.level,.int .i64 H.gen] 198)).1.size:=by simp
 by_cases b0:E=0
 ·subst b0;have d8:R.length<=236:=by
   cases hb:okB b
   ·obtain⟨_,_,h3⟩:=Qje hb;rw[h3] at hE;omega
   ·obtain⟨_,h2,_⟩:=Qcc hb;have:=(of_decide_eq_true hb).1;rw[<-hR,h2,List.length_drop];omega
  have b9:=Qz1 hE;rw[hH] at b9;have d4:(0<=H.level/\H.level<=8)/\0<=H.count/\H.count<=65535:=by
   have:=of_decide_eq_true b9;omega
  obtain⟨⟨d5,d6⟩,d2,d3⟩:=d4;have e0:n2<=236:=by have:=a7.len;omega
  have z:=Lib.hid (show Xh b addr=Uc H addr (Ky H.level R H.count.toNat) by unfold Xh;rw[hE,if_pos rfl,hH,hR]);have c6:∀g,Xq A2=some g->g<v.1.size:=λg hg=>by
   cases A2 with
   |none=>cases hg
   |some ad=>have:=(a7.block ad rfl).2;have e:ad.block=g:=Option.some.inj hg;omega
  clear b9 hE hH hR Rv Wv bx a7 b8;obtain⟨kd,ad,ct,y,gn⟩:=H;simp only at d5 d6 d2 d3;obtain⟨cnt,rfl⟩:∃cnt:Nat,ct=(cnt:Int):=⟨ct.toNat,by omega⟩;obtain⟨Kb,d0⟩:∃Kb:Int,(if y=0 then 3 else 4)=Kb:=⟨_,rfl⟩;have a8:=Lib.hid d0;clear d0;go_wp2_with fail
  generalize v.alloc (.cells #[.int .i64 kd,.int .i64 ad,.int .i64 (cnt:Int),.int .i64 y,.int .i64 gn] 198)=w3 at H3 R3 W3 s3 Z ⊢;have y0:=H3.at_ 0;have y1:=H3.at_ 2;have y3:=H3.at_ 1;simp only[Ym,Hd.Bl] at y0 y1 y3;have p0:∀u:Grown w3,u.to.cell? ⟨v.1.size,0,none⟩=some (.int .i64 kd):=Grown.cell y0 Z;have p1:∀u:Grown w3,u.to.cell? ⟨v.1.size,1,none⟩=some (.int .i64 ad):=Grown.cell y1 Z;have p3:∀u:Grown w3,u.to.cell? ⟨v.1.size,3,none⟩=some (.int .i64 y):=Grown.cell y3 Z;clear y0 y1 y3;by_cases hk:kd=Kb
  ·have Hk:=Lib.hid hk;have k1:(kd==Kb)=true:=by simp[hk]
   have k2:(kd != Kb)=false:=by simp[hk]
   clear hk;by_cases ha:ad=addr
   ·have Ha:=Lib.hid ha;have a1:(ad==addr)=true:=by simp[ha]
    have a2:(ad != addr)=false:=by simp[ha]
    clear ha;refine Iq (by kernel_rfl) (by kernel_rfl) ?_;repeat (go_big_quiet_step (first
     |(go_at_call 140;exact Calls.Oh (Qa2 y Kb a8.out _))
     |fail))
    refine wpQuiet_nil ?_;rintro _ ⟨u,rfl⟩;have H4:=H3.below u.ok Z;have R4:=R3.below u.ok R3.lt;have W4:=W3.trans (u.ok.mono W3.size);have s4:=s3.below u.ok;have G:v.1.size<u.to.1.size:=Nat.lt_of_lt_of_le Z u.ok.size;generalize u.to=w4 at H4 R4 W4 s4 G ⊢;clear p0 p1 p3 H3 R3 W3 s3 Z k1 k2 a1 a2 u;have y3:=H4.at_ 1;simp only[Ym,Hd.Bl] at y3;by_cases b7:y=0
    ·subst b7;have d1:=Lib.hid (show Kb=3 by rw[<-a8.out];rfl);go_wp2_with fail
     have N5:NB (w4.alloc (.cells #[.int .i64 0,.slice none 0 0,.slice none 0 0] 77)) w4.1.size 0 none 0 0 none 0 0:=NB.new w4 _ _ _ _ _ _ _ _;have b5:Below w4.1.size w4 (w4.alloc (.cells #[.int .i64 0,.slice none 0 0,.slice none 0 0] 77)):=Ib;have H5:=H4.below b5 G;have R5:=R4.below b5 R4.lt;have W5:=W4.trans (b5.mono W4.size);have s5:=s4.below b5;generalize w4.alloc (.cells #[.int .i64 0,.slice none 0 0,.slice none 0 0] 77)=w5 at N5 b5 H5 R5 W5 s5 ⊢;obtain⟨p,a6⟩:∃p,w4.1.size=p:=⟨_,rfl⟩;have d7:v.1.size<p:=by rw[<-a6];exact G
     rw[a6] at N5 ⊢;clear a6 b5 H4 R4 W4 s4 G;refine (Nl 0 true rfl none 0 0 none 0 0 w5).mono ?_;rintro e w6 ⟨rfl,D⟩;have N6:=N5.below D N5.lt;have H6:=H5.below D (by have:=N5.lt;omega);have R6:=R5.below D R5.lt;have W6:=W5.trans (D.mono W5.size);have s6:=s5.below D;have y2:=H6.at_ 3;simp only[Ym,Hd.Bl] at y2;clear N5 H5 R5 W5 s5 D;go_wp2_with fail
     refine (Qrb R cnt A2 n2 c2 w6 s6 (by omega) (by omega)).mono ?_;rintro e w7 (⟨U,r,A1,c1,A4,n4,c4,J,rfl,b6,row,s7,Y,d⟩|⟨E,hE,J,rfl,d⟩)
     ·have F:=Lib.hid (show Xh b addr=(if Wl r=true/\(⟨0,U,[]⟩:Nd).may=true then some (⟨0,U,[]⟩:Nd) else none) by
        rw[z.out];show Uc ⟨kd,ad,(cnt:Int),0,gn⟩ addr (Ky 0 R (cnt:Int).toNat)=_;rw[Int.toNat_natCast,J];show (if kd=(if (0:Int)=0 then 3 else 4)/\ad=addr/\Wl r=true/\(⟨0,U,[]⟩:Nd).may=true then some (⟨0,U,[]⟩:Nd) else none)=_;rw[if_pos (rfl:(0:Int)=0),<-d1.out];by_cases K:Wl r=true/\(⟨0,U,[]⟩:Nd).may=true
        ·rw[if_pos K,if_pos ⟨Hk.out,Ha.out,K⟩]
        ·rw[if_neg K,if_neg (λh=>K h.2.2)])
      have W:=N6.below d N6.lt;have R7:=R6.below d R6.lt;have W7:=W6.trans (d.mono W6.size);have z6:p<w6.1.size:=N6.lt;have f1:=W.fz 1;have g1:=W.c1;have Q:Turn (λg=>g=p) w7 (w7.setCell ⟨p,1,none⟩ (.slice A1 cnt c1)):=Gi (a:=⟨p,1,none⟩) _ rfl;have N8:=W.set1 A1 cnt c1;have V:=R7.keep (Q.block w.1.size R7.lt (by show ¬w.1.size=p;omega));have M:=row.low Q (λk hk=>by have:k=p:=hk;omega);have s8:=s7.turned Q (λg hg e=>by
       have h2:g=p:=e;rcases Y g hg with h1|h1
       ·have:=c6 g h1;omega
       ·omega)
      have X:=W7.trans (Q.below (B:=w.1.size) (λx hx=>by have:x=p:=hx;omega) (by have:=W7.size;omega));clear N6 R6 W6 s6 H6 d W R7 W7 row s7 Y J y2;go_wp2_with fail
      generalize w7.setCell ⟨p,1,none⟩ (.slice A1 cnt c1)=w8 at N8 V M s8 X Q ⊢;clear Q f1 g1
      cases K:Wl r
      ·refine (Qac A4 n4 c4 r false K w8 s8).mono ?_;rintro e w9 ⟨rfl,f⟩;have R9:=V.below f V.lt;have W9:=X.trans (f.mono X.size);have m:=Lib.hid (F.out.trans (if_neg (λh=>by rw[K] at h;exact absurd h.1 (by simp))));clear K F;go_wp2_with (first
        |(refine Ir rfl (.tmp 4) (.tmp 68) rfl w.1.size rfl 0 none 0 0 none 0 0 rfl R9 ?_;intro wz P I)
        |fail)
       refine bodyPost_ret (Md Tryz.results84 rfl (Nq P)) rfl ?_;exact Qad m.out (W9.trans (I.I9 R9.lt))
      ·refine (Qac A4 n4 c4 r true K w8 s8).mono ?_;rintro e w9 ⟨rfl,f⟩;have N9:=N8.below f N8.lt;have R9:=V.below f V.lt;have O:=M.below f;have W9:=X.trans (f.mono X.size);have q0:=N9.c0;have q1:=N9.c1;have q2:=N9.c2;have Hz:=Lib.hid K;clear K N8 V M s8 X f;go_wp2_with fail
       cases hm:(⟨0,U,[]⟩:Nd).may
       ·refine (Pm ⟨0,U,[]⟩ false hm A1 cnt c1 none 0 0 w9 O.Qaf (Qo5 w9) (by omega) (by omega)).mono ?_;rintro e wA ⟨rfl,q⟩;have RA:=R9.below q R9.lt;have WA:=W9.trans (q.mono W9.size);have m:=Lib.hid (F.out.trans (if_neg (λh=>by rw[hm] at h;exact absurd h.2 (by simp))));clear hm F q0 q1 q2;go_wp2_with (first
         |(refine Ir rfl (.tmp 4) (.tmp 68) rfl w.1.size rfl 0 none 0 0 none 0 0 rfl RA ?_;intro wz P I)
         |fail)
        refine bodyPost_ret (Md Tryz.results84 rfl (Nq P)) rfl ?_;exact Qad m.out (WA.trans (I.I9 RA.lt))
       ·refine (Pm ⟨0,U,[]⟩ true hm A1 cnt c1 none 0 0 w9 O.Qaf (Qo5 w9) (by omega) (by omega)).mono ?_;rintro e wA ⟨rfl,q⟩;have RA:=R9.below q R9.lt;have NA:=N9.below q N9.lt;have T:=O.below q;have WA:=W9.trans (q.mono W9.size);have b3:=Lib.hid (F.out.trans (if_pos (And.intro Hz.out hm)));have b2:=Gx hm;have b1:cnt<=20:=by have h1:=b2.1;have h2:=T.Qaf.len;have h3:U.length<=6:=h1;omega
        have q0:=NA.c0;have q1:=NA.c1;have q2:=NA.c2;clear hm F b2;go_wp2_with (first
         |(refine Ir rfl (.tmp 4) (.tmp 69) rfl w.1.size rfl 0 A1 cnt c1 none 0 0 rfl RA ?_;intro wz P I)
         |fail)
        refine bodyPost_ret (Md Tryz.results84 rfl (Nq P)) rfl ?_;have b4:=T.low I (λk hk=>by have:k=w.1.size:=hk;omega);exact Qn7 b3.out b1 (by omega) (b4.less (by omega)) (Lp _ _ _ _) (WA.trans (I.I9 RA.lt))
     ·have m:=Lib.hid (show Xh b addr=none by
        rw[z.out];show Uc ⟨kd,ad,(cnt:Int),0,gn⟩ addr (Ky 0 R (cnt:Int).toNat)=none;rw[Int.toNat_natCast,J];rfl)
      have W:=N6.below d N6.lt;have R7:=R6.below d R6.lt;have W7:=W6.trans (d.mono W6.size);have f1:=W.fz 1;have g1:=W.c1;have Q:Turn (λg=>g=p) w7 (w7.setCell ⟨p,1,none⟩ (.slice none 0 0)):=Gi (a:=⟨p,1,none⟩) _ rfl;have V:=R7.keep (Q.block w.1.size R7.lt (by show ¬w.1.size=p;omega));have X:=W7.trans (Q.below (B:=w.1.size) (λx hx=>by have:x=p:=hx;omega) (by have:=W7.size;omega));have c7:decide (E=0)=false:=decide_eq_false hE;have c8:(E==0)=false:=by simp[hE]
      have c9:(E != 0)=true:=by simp[hE]
      clear N6 R6 W6 s6 H6 d W R7 W7 J y2 Q;go_wp2_with (first
       |(refine Ir rfl (.tmp 4) (.tmp 68) rfl w.1.size rfl 0 none 0 0 none 0 0 rfl V ?_;intro wz P I)
       |fail)
      refine bodyPost_ret (Md Tryz.results84 rfl (Nq P)) rfl ?_;exact Qad m.out (X.trans (I.I9 V.lt))
    ·have d9:decide (y=0)=false:=decide_eq_false b7;go_wp2_with fail
     have N5:NB (w4.alloc (.cells #[.int .i64 y,.slice none 0 0,.slice none 0 0] 77)) w4.1.size y none 0 0 none 0 0:=NB.new w4 _ _ _ _ _ _ _ _;have b5:Below w4.1.size w4 (w4.alloc (.cells #[.int .i64 y,.slice none 0 0,.slice none 0 0] 77)):=Ib;have H5:=H4.below b5 G;have R5:=R4.below b5 R4.lt;have W5:=W4.trans (b5.mono W4.size);have s5:=s4.below b5;generalize w4.alloc (.cells #[.int .i64 y,.slice none 0 0,.slice none 0 0] 77)=w5 at N5 b5 H5 R5 W5 s5 ⊢;obtain⟨p,a6⟩:∃p,w4.1.size=p:=⟨_,rfl⟩;have d7:v.1.size<p:=by rw[<-a6];exact G
     rw[a6] at N5 ⊢;clear a6 b5 H4 R4 W4 s4 G;refine (Nl y false (decide_eq_false b7) none 0 0 none 0 0 w5).mono ?_;rintro e w6 ⟨rfl,D⟩;have N6:=N5.below D N5.lt;have H6:=H5.below D (by have:=N5.lt;omega);have R6:=R5.below D R5.lt;have W6:=W5.trans (D.mono W5.size);have s6:=s5.below D;have y2:=H6.at_ 3;simp only[Ym,Hd.Bl] at y2;clear N5 H5 R5 W5 s5 D;go_wp2_with fail
     refine (Qrc y b7 R cnt A2 n2 c2 w6 s6 (by omega) (by omega)).mono ?_;rintro e w7 (⟨U,r,A1,c1,A4,n4,c4,J,rfl,b6,row,s7,Y,d⟩|⟨E,hE,J,rfl,d⟩)
     ·have F:=Lib.hid (show Xh b addr=(if Wl r=true/\(⟨y,[],U⟩:Nd).may=true then some (⟨y,[],U⟩:Nd) else none) by
        rw[z.out];show Uc ⟨kd,ad,(cnt:Int),y,gn⟩ addr (Ky y R (cnt:Int).toNat)=_;rw[Int.toNat_natCast,J];show (if kd=(if (y:Int)=0 then 3 else 4)/\ad=addr/\Wl r=true/\(⟨y,[],U⟩:Nd).may=true then some (⟨y,[],U⟩:Nd) else none)=_;rw[a8.out];by_cases K:Wl r=true/\(⟨y,[],U⟩:Nd).may=true
        ·rw[if_pos K,if_pos ⟨Hk.out,Ha.out,K⟩]
        ·rw[if_neg K,if_neg (λh=>K h.2.2)])
      have W:=N6.below d N6.lt;have R7:=R6.below d R6.lt;have W7:=W6.trans (d.mono W6.size);have z6:p<w6.1.size:=N6.lt;have f1:=W.fz 2;have g1:=W.c2;have Q:Turn (λg=>g=p) w7 (w7.setCell ⟨p,2,none⟩ (.slice A1 cnt c1)):=Gi (a:=⟨p,2,none⟩) _ rfl;have N8:=W.set2 A1 cnt c1;have V:=R7.keep (Q.block w.1.size R7.lt (by show ¬w.1.size=p;omega));have M:=row.turned Q (λk hk e=>by have h1:=(row.Zx k hk).1;have h2:k=p:=e;omega);have s8:=s7.turned Q (λg hg e=>by
       have h2:g=p:=e;rcases Y g hg with h1|h1
       ·have:=c6 g h1;omega
       ·omega)
      have X:=W7.trans (Q.below (B:=w.1.size) (λx hx=>by have:x=p:=hx;omega) (by have:=W7.size;omega));clear N6 R6 W6 s6 H6 d W R7 W7 row s7 Y J y2;go_wp2_with fail
      generalize w7.setCell ⟨p,2,none⟩ (.slice A1 cnt c1)=w8 at N8 V M s8 X Q ⊢;clear Q f1 g1
      cases K:Wl r
      ·refine (Qac A4 n4 c4 r false K w8 s8).mono ?_;rintro e w9 ⟨rfl,f⟩;have R9:=V.below f V.lt;have W9:=X.trans (f.mono X.size);have m:=Lib.hid (F.out.trans (if_neg (λh=>by rw[K] at h;exact absurd h.1 (by simp))));clear K F;go_wp2_with (first
        |(refine Ir rfl (.tmp 4) (.tmp 68) rfl w.1.size rfl 0 none 0 0 none 0 0 rfl R9 ?_;intro wz P I)
        |fail)
       refine bodyPost_ret (Md Tryz.results84 rfl (Nq P)) rfl ?_;exact Qad m.out (W9.trans (I.I9 R9.lt))
      ·refine (Qac A4 n4 c4 r true K w8 s8).mono ?_;rintro e w9 ⟨rfl,f⟩;have N9:=N8.below f N8.lt;have R9:=V.below f V.lt;have O:=M.below f;have W9:=X.trans (f.mono X.size);have q0:=N9.c0;have q1:=N9.c1;have q2:=N9.c2;have Hz:=Lib.hid K;clear K N8 V M s8 X f;go_wp2_with fail
       cases hm:(⟨y,[],U⟩:Nd).may
       ·refine (Pm ⟨y,[],U⟩ false hm none 0 0 A1 cnt c1 w9 (Qo1 w9) (show Q7 _ _ _ _ _ from O.Hr (by omega)) (by omega) (by omega)).mono ?_;rintro e wA ⟨rfl,q⟩;have RA:=R9.below q R9.lt;have WA:=W9.trans (q.mono W9.size);have m:=Lib.hid (F.out.trans (if_neg (λh=>by rw[hm] at h;exact absurd h.2 (by simp))));clear hm F q0 q1 q2;go_wp2_with (first
         |(refine Ir rfl (.tmp 4) (.tmp 68) rfl w.1.size rfl 0 none 0 0 none 0 0 rfl RA ?_;intro wz P I)
         |fail)
        refine bodyPost_ret (Md Tryz.results84 rfl (Nq P)) rfl ?_;exact Qad m.out (WA.trans (I.I9 RA.lt))
       ·refine (Pm ⟨y,[],U⟩ true hm none 0 0 A1 cnt c1 w9 (Qo1 w9) (show Q7 _ _ _ _ _ from O.Hr (by omega)) (by omega) (by omega)).mono ?_;rintro e wA ⟨rfl,q⟩;have RA:=R9.below q R9.lt;have NA:=N9.below q N9.lt;have T:=O.below q;have WA:=W9.trans (q.mono W9.size);have b3:=Lib.hid (F.out.trans (if_pos (And.intro Hz.out hm)));have b2:=Gx hm;have b1:cnt<=20:=by have h1:=b2.2.1;have h2:=(show Q7 _ _ _ _ U from T.Hr (by omega)).len;have h3:U.length<=12:=h1;omega
        have q0:=NA.c0;have q1:=NA.c1;have q2:=NA.c2;clear hm F b2;go_wp2_with (first
         |(refine Ir rfl (.tmp 4) (.tmp 69) rfl w.1.size rfl y none 0 0 A1 cnt c1 rfl RA ?_;intro wz P I)
         |fail)
        refine bodyPost_ret (Md Tryz.results84 rfl (Nq P)) rfl ?_;have b4:=T.turned I (λk hk e=>by have h1:=(T.Zx k hk).1;have h2:k=w.1.size:=e;omega);exact Qn7 b3.out (by omega) b1 (Ob _ _) (Qr.less b4 (by omega)) (WA.trans (I.I9 RA.lt))
     ·have m:=Lib.hid (show Xh b addr=none by
        rw[z.out];show Uc ⟨kd,ad,(cnt:Int),y,gn⟩ addr (Ky y R (cnt:Int).toNat)=none;rw[Int.toNat_natCast,J];rfl)
      have W:=N6.below d N6.lt;have R7:=R6.below d R6.lt;have W7:=W6.trans (d.mono W6.size);have f1:=W.fz 2;have g1:=W.c2;have Q:Turn (λg=>g=p) w7 (w7.setCell ⟨p,2,none⟩ (.slice none 0 0)):=Gi (a:=⟨p,2,none⟩) _ rfl;have V:=R7.keep (Q.block w.1.size R7.lt (by show ¬w.1.size=p;omega));have X:=W7.trans (Q.below (B:=w.1.size) (λx hx=>by have:x=p:=hx;omega) (by have:=W7.size;omega));have c7:decide (E=0)=false:=decide_eq_false hE;have c8:(E==0)=false:=by simp[hE]
      have c9:(E != 0)=true:=by simp[hE]
      clear N6 R6 W6 s6 H6 d W R7 W7 J y2 Q;go_wp2_with (first
       |(refine Ir rfl (.tmp 4) (.tmp 68) rfl w.1.size rfl 0 none 0 0 none 0 0 rfl V ?_;intro wz P I)
       |fail)
      refine bodyPost_ret (Md Tryz.results84 rfl (Nq P)) rfl ?_;exact Qad m.out (X.trans (I.I9 V.lt))
   ·have m:=Lib.hid (show Xh b addr=none by
     rw[z.out]
     cases Ky y R (cnt:Int).toNat with
     |none=>rfl
     |some x=>exact if_neg (λh=>ha h.2.1))
    have a1:(ad==addr)=false:=by simp[ha]
    have a2:(ad != addr)=true:=by simp[ha]
    clear ha;refine Iq (by kernel_rfl) (by kernel_rfl) ?_;repeat (go_big_quiet_step (first
     |(go_at_call 140;exact Calls.Oh (Qa2 y Kb a8.out _))
     |fail))
    refine wpQuiet_nil ?_;rintro _ ⟨u,rfl⟩;have R4:=R3.below u.ok R3.lt;have W4:=W3.trans (u.ok.mono W3.size);clear p0 p1 p3;go_wp2_with (first
     |(refine Ir rfl (.tmp 4) (.tmp 32) rfl w.1.size rfl 0 none 0 0 none 0 0 rfl R4 ?_;intro wz P I)
     |fail)
    refine bodyPost_ret (Md Tryz.results84 rfl (Nq P)) rfl ?_;exact Qad m.out (W4.trans (I.I9 R4.lt))
  ·have m:=Lib.hid (show Xh b addr=none by
    rw[z.out]
    cases Ky y R (cnt:Int).toNat with
    |none=>rfl
    |some x=>exact if_neg (λh=>hk (h.1.trans a8.out)))
   have k1:(kd==Kb)=false:=by simp[hk]
   have k2:(kd != Kb)=true:=by simp[hk]
   clear hk;refine Iq (by kernel_rfl) (by kernel_rfl) ?_;repeat (go_big_quiet_step (first
    |(go_at_call 140;exact Calls.Oh (Qa2 y Kb a8.out _))
    |fail))
   refine wpQuiet_nil ?_;rintro _ ⟨u,rfl⟩;have R4:=R3.below u.ok R3.lt;have W4:=W3.trans (u.ok.mono W3.size);clear p0 p1 p3;go_wp2_with (first
    |(refine Ir rfl (.tmp 4) (.tmp 32) rfl w.1.size rfl 0 none 0 0 none 0 0 rfl R4 ?_;intro wz P I)
    |fail)
   refine bodyPost_ret (Md Tryz.results84 rfl (Nq P)) rfl ?_;exact Qad m.out (W4.trans (I.I9 R4.lt))
 ·have m:=Lib.hid (show Xh b addr=none by unfold Xh;rw[hE,if_neg b0]);have c7:decide (E=0)=false:=decide_eq_false b0;have c8:(E==0)=false:=by simp[b0]
  have c9:(E != 0)=true:=by simp[b0]
  clear b0 hE hH hR Rv Wv;go_wp2_with fail
  generalize v.alloc (.cells #[.int .i64 H.kind,.int .i64 H.addr,.int .i64 H.count,.int .i64 H.level,.int .i64 H.gen] 198)=w3 at H3 R3 W3 s3 Z ⊢;refine Iq (by kernel_rfl) (by kernel_rfl) ?_;repeat (go_big_quiet_step (fail))
  refine wpQuiet_nil ?_;rintro _ ⟨u,rfl⟩;have R4:=R3.below u.ok R3.lt;have W4:=W3.trans (u.ok.mono W3.size);go_wp2_with (first
   |(refine Ir rfl (.tmp 4) (.tmp 32) rfl w.1.size rfl 0 none 0 0 none 0 0 rfl R4 ?_;intro wz P I)
   |fail)
  refine bodyPost_ret (Md Tryz.results84 rfl (Nq P)) rfl ?_;exact Qad m.out (W4.trans (I.I9 R4.lt))
theorem Tt {P:Program}{w:World}(base:Nat)(t ty e:TypeId)(i:TypeInfo)(size:Nat)(u:P.underlying t=some (.slice e))(hi:P.info? e=some i)
  (A:Option Addr) (n c:Nat) (xs:List Value) (f:w.ownsRow base e size (.slice A n c) n xs) (B:Option Addr) (d:Nat) (_:size≠0) (_:i.size=size) :
  (Builtin.append_ #[t,t] ty #[.slice A n c,.slice B 0 d]).run P w=.ok (.slice A n c) w:=by
 rcases f.2 with⟨q,h0⟩|⟨g,cap,y,q,_,_,p,_⟩
 ·injection q with h1 h2 m;subst h1 h2 m
  cases B<;>simp[Builtin.append_,run_underlying u,sizeOf,typeInfo,hi,Builtin.lenOf,Builtin.firstCells,loadCells,loadCellsFrom]
 ·injection q with h1 h2 m;subst h1 m
  cases B<;>simp[Builtin.append_,run_underlying u,sizeOf,typeInfo,hi,Builtin.lenOf,Builtin.firstCells,p,storeCells,loadCells,loadCellsFrom]
theorem Qz3 {w:World}{base n c:Nat}{e:TypeId}{A:Option Addr}{l:List UInt8}(h:Own w base e A n c l):∀g,Xq A=some g->base<=g:=λg d=>by
 cases A with
 |none=>cases d
 |some ad=>
  have h2:=h.block ad rfl;have f:ad.block=g:=Option.some.inj d;omega
theorem Qy0 (fs:List Az)(x:Nat->Int)(A:Option Addr)(n c:Nat)(B:Option Addr)(m d:Nat)(l:List UInt8)(w:World)(hF:Qcy w A n c fs)(hN:Nums w fs x)(hr:Qho fs x=true)
  (hs:Sl w B m d l) (b2:1<=n) (hm:m<=1000) (hn:n<=100) (hw:∀j,j<n->1<=(Nk fs j).wid/\(Nk fs j).wid<=7) :
  Calls Tryz.prog 105 #[.slice B m d,.slice A n c] w λe w'=>∃z F G,e=.returned (.tuple #[.slice z F G,.int .i64 0])/\Sl w' z F G (Qjm fs x l n)/\(∀g,Xq z=some g->w.1.size<=g)/\Below w.1.size w w':=by
 have Hm:=Qow fs x A n c w hF hN;rw[hr] at Hm;have M:=Lib.hid hF.len;have Hl:=Lib.hid hs.len;obtain⟨b1,a1⟩:=hF.bounds;unfold maxLen at a1;go_enter Tryz.func105,Tryz.ntmps105
 go_wp2_with (go_at_call 179;refine Hm.mono ?_;rintro e w1 ⟨rfl,u⟩)
 have W:=hF.below u;have Y:=hN.below u;have a7:=hs.below u;go_loopw [0,13] (λs i wr=>∃(j:Nat) (z:Option Addr) (F G:Nat),j<=n/\s=.slice z F G/\i=.int .i64 (j:Int)/\Sl wr z F G (Qjm fs x l j)/\(j=0\/∀g,Xq z=some g->w.1.size<=g)/\Below w1.1.size w1 wr) (λ_ i _=>n-(intOf i).toNat)
 case atStart=>exact⟨0,B,m,d,Nat.zero_le _,rfl,rfl,a7,.inl rfl,Below.refl _ _⟩
 case round=>
  obtain⟨j,z,F,G,hj,rfl,rfl,E,X,K⟩:=hrel;by_cases J:j<n
  ·obtain⟨g,o,hA,hg,c0,c1,c2,c3⟩:=(W.below K).cell J;subst hA;obtain⟨Q,T⟩:=Y j (by rw[M.out];exact J);have b0:=hw j J;have P:=Qpw (x:=x) (l:=l) hw j hj;have D:Qgr (Qjm fs x l j) (x j) (Nk fs j).wid=Qjm fs x l (j+1):=by unfold Qgr;rw[if_pos (by omega)];rfl
   have a2:=E.len;obtain⟨f,hf⟩:∃f,Nk fs j=f:=⟨_,rfl⟩;obtain⟨y,hy⟩:∃y,x j=y:=⟨_,rfl⟩;rw[hf] at c0 c1 c2 c3 Q T b0 D;rw[hy] at T D;have a6:F<=17592186044416:=by rw[Hl.out] at P;omega
   have V:=Lib.hid D;clear hf hy D P a2;go_wp2_with fail
   have R:Below wr.1.size wr (wr.alloc (.cells #[.pointer (some ⟨f.b,f.o,none⟩),.int .i64 f.wid,.int .i64 f.lo,.int .i64 f.hi] 263)):=Ib;have U:(wr.alloc (.cells #[.pointer (some ⟨f.b,f.o,none⟩),.int .i64 f.wid,.int .i64 f.lo,.int .i64 f.hi] 263)).1[wr.1.size]?=some (.cells #[.pointer (some ⟨f.b,f.o,none⟩),.int .i64 f.wid,.int .i64 f.lo,.int .i64 f.hi] 263 (0,0)):=heap_alloc_new wr _;have zx:wr.1.size<(wr.alloc (.cells #[.pointer (some ⟨f.b,f.o,none⟩),.int .i64 f.wid,.int .i64 f.lo,.int .i64 f.hi] 263)).1.size:=by simp
   generalize wr.alloc (.cells #[.pointer (some ⟨f.b,f.o,none⟩),.int .i64 f.wid,.int .i64 f.lo,.int .i64 f.hi] 263)=H at R U zx ⊢;have q0:H.cell? ⟨wr.1.size,0,none⟩=some (.pointer (some ⟨f.b,f.o,none⟩)):=by rw[cell_of_row _ _ _ _ _ _ U];rfl
   have q1:H.cell? ⟨wr.1.size,1,none⟩=some (.int .i64 f.wid):=by rw[cell_of_row _ _ _ _ _ _ U];rfl
   have qx:H.cell? ⟨f.b,f.o,none⟩=some (.int .i64 y):=(R.cell (p:=⟨_,_,none⟩) (by have:=K.size;show f.b<_;omega)).trans ((K.cell (p:=⟨_,_,none⟩) Q).trans T);have I:=K.trans (R.mono K.size);have a8:=E.below R;clear c0 c1 c2 c3 U T E;go_still_tail 7,(by kernel_rfl)
   change wpList _ _ _ _ _ H.drew;go_wp2_with (go_at_call 180;refine (put_any z F G (Qjm fs x l j) y f.wid _ a8.drew a6).mono ?_;rintro e w3 ⟨A3,n3,c3,rfl,q,Z⟩)
   rw[V.out] at q;have O:Below H.1.size H w3:=(Below.refl _ _).drew.trans Z;exact⟨⟨j+1,A3,n3,c3,by omega,rfl,rfl,q.sl,.inr (λg hg=>by have:=Qz3 q g hg;have h1:=I.size;have h2:=u.size;have h3:H.drew.1.size=H.1.size:=rfl;omega),I.trans (O.mono I.size)⟩,by simp[intOf];omega⟩
  ·obtain rfl:j=n:=by omega
   go_wp2;go_ret2;exact⟨z,F,G,rfl,E,X.resolve_left (by omega),u.trans (K.mono u.size)⟩
theorem Qkh (i:Wh)(h:i.may=true)(w:World) :
  Calls Tryz.prog 62 #[.agg #[.string i.name,.int .i64 i.ino,.int .i64 i.kind]] w λe w'=>∃A n c,e=.returned (.tuple #[.slice A n c,.int .i64 0])/\Sl w' A n c i.bytes/\(∀g,Xq A=some g->w.1.size<=g)/\Below w.1.size w w':=by
 have p:IB (w.alloc (.cells i.vs.toArray 32)) w.1.size i.vs:=IB.new w _ _;have u:Below w.1.size w (w.alloc (.cells i.vs.toArray 32)):=Ib;go_enter Tryz.func62,Tryz.ntmps62
 go_wp2_with fail
 change Calls _ _ _ (w.alloc (.cells i.vs.toArray 32)) _;generalize w.alloc (.cells i.vs.toArray 32)=G at p u ⊢;obtain⟨hn,J⟩:=Bool.and_eq_true_iff.1 h;refine (Qb4 i.name true hn G).mono ?_;rintro e O ⟨rfl,rfl⟩;have T:i.name.size<=20:=(of_decide_eq_true hn).2;have U:=p.cell 0 rfl;clear h hn;go_wp2_with (first
  |(go_at_call 104;refine (Qf1 none 0 0 [] i.name G (Sm _) (by omega) (by omega)).mono ?_;rw[List.nil_append];rintro e O ⟨Q,K,c2,rfl,d,m⟩;have E:=p.below m p.lt;have I:K<=21:=(by have:=d.len;rw[List.length_append,Ye,Array.length_toList] at this;have R:i.name.data.size=i.name.size:=rfl;omega))
  |(go_at_call 106;refine (Qk8 w.1.size _).mono ?_;rintro e P ⟨g,rfl,hF,F,f⟩)
  |(go_at_call 105;refine (Qy0 (Nv w.1.size) i.x _ _ _ _ _ _ _ P hF (Qyh (E.below f E.lt)) (by rw[Qtr _ i _ rfl rfl];exact J) (d.sl.below f) (by omega) (by omega) (by omega) (Qtt _)).mono ?_;rw[Zce];rintro e V ⟨H,M,c4,rfl,B,z,y⟩))
 go_ret2;have D:=u.trans (m.mono u.size);have q:=D.trans (f.mono D.size);exact⟨H,M,c4,rfl,B,λg F=>by have:=z g F;have:=q.size;omega,q.trans (y.mono q.size)⟩
theorem Qhx (o:BinOp)(e:o=.eql\/o=.neq)(x y:Operand)(xs d:Array Value)(w:World):(eqGuard o 32 x y (.agg xs) (.agg d)).run Tryz.prog w=.ok () w:=by
 rcases e with rfl|rfl
 ·exact run_eqGuard_agg w .eql 32 x y xs d (by kernel_rfl)
 ·exact run_eqGuard_agg w .neq 32 x y xs d (by kernel_rfl)
theorem Zej (s:ByteArray)(y z:Int)(w:World):(binOp .eql 32 (.agg #[.string s,.int .i64 y,.int .i64 z]) (.agg #[.string s,.int .i64 y,.int .i64 z])).run Tryz.prog w=.ok (.bool true) w:=by
 rw[run_eql_struct,run_equalIn_agg w 9999 32 _ _ (by kernel_rfl) (by kernel_rfl)];unfold Program.fieldsOf;rw[Tryz.underlying32];simp[go_sem,Tryz.underlying3,Tryz.underlying9]
theorem Qr5 (s:ByteArray)(y z:Int)(w:World):(binOp .neq 32 (.agg #[.string s,.int .i64 y,.int .i64 z]) (.agg #[.string s,.int .i64 y,.int .i64 z])).run Tryz.prog w=.ok (.bool false) w:=by
 rw[run_neq_struct,run_equalIn_agg w 9999 32 _ _ (by kernel_rfl) (by kernel_rfl)];unfold Program.fieldsOf;rw[Tryz.underlying32];simp[go_sem,Tryz.underlying3,Tryz.underlying9]
theorem Zd2:Bc Tryz.prog 26 32 3 32 (.agg #[.string ⟨#[]⟩,.int .i64 0,.int .i64 0]):=⟨Tryz.underlying26,by kernel_rfl,rfl,by omega⟩
def Qcx (w:World)(A:Option Addr)(n c:Nat)(l:List Wh):Prop:=Zg w 3 A n c (l.map Wh.vs)
def Qct (w:World)(base:Nat)(A:Option Addr)(n c:Nat)(l:List Wh):Prop:=Qr w base 32 3 A n c (l.map Wh.vs)
def Qc4 (l:List Wh)(j:Nat):Wh:=l.getD j Wh.zero
theorem Qvb {l:List Wh}{j:Nat}(h:j<l.length):l[j]?=some (Qc4 l j):=by unfold Qc4;simp[List.getD,h]
theorem Qii {l:List Wh}{j:Nat}(h:j<l.length):Qc4 l j=l[j]:=by unfold Qc4;simp[List.getD,h]
theorem Qui (e:Wh):∀u∈e.vs,u.oneCell'=true:=λu d=>by
 rcases List.mem_cons.1 d with rfl|d
 ·rfl
 rcases List.mem_cons.1 d with rfl|d
 ·rfl
 ·rw[List.mem_singleton.1 d];rfl
section
variable {w w':World}{base n c:Nat}{A:Option Addr}{l:List Wh}
theorem Qcx.len (h:Qcx w A n c l):l.length=n:=by have:=Zg.len h;simpa using this
theorem Qcx.bounds (h:Qcx w A n c l):n<=c/\c<=maxLen:=⟨Zg.cap h,Zg.max h⟩
theorem Qcx.below (h:Qcx w A n c l)(hb:Below w.1.size w w'):Qcx w' A n c l:=Zg.below h hb
theorem Qcx.at_ (h:Qcx w A n c l){j:Nat}(hj:j<n):∃g o,A=some ⟨g,o,none⟩/\g<w.1.size/\w.rangeAt g (o+j*3) (Qc4 l j).vs:=by
 have m:=h.len;obtain⟨g,o,e,d,_,f⟩:=h.2.2.2 j _ (by rw[List.getElem?_map,Qvb (by omega)];rfl);exact⟨g,o,e,d,f⟩
theorem Qct.ents (h:Qct w base A n c l):Qcx w A n c l:=Qr.Hr h (by omega)
theorem Qct.below (h:Qct w base A n c l)(hb:Below w.1.size w w'):Qct w' base A n c l:=Qr.below h hb
theorem Qct.Zx (h:Qct w base A n c l):∀k,Xq A=some k->base<=k/\k<w.1.size:=Qr.Zx h
theorem Qvd (w:World)(base:Nat):Qct w base none 0 0 []:=Lp w base _ 3
theorem Qyj (w:World)(e:Wh):Qcx (w.alloc (.cells #[.string e.name,.int .i64 e.ino,.int .i64 e.kind] 32)) (some ⟨w.1.size,0,none⟩) 1 1 [e]:=
 Qct.ents (Np w _ 3 e.vs _ rfl rfl)
theorem Qm3 (ty:TypeId)(f:Qct w base A n c l)(B:Option Addr)(m d:Nat)(E:List Wh)(F:Qcx w B m d E)(z:n+m<=1000000)(g:base<=w.1.size) :
  ∃p q w',(Builtin.append_ #[26,26] ty #[.slice A n c,.slice B m d]).run Tryz.prog w=.ok (.slice p (n+m) q) w'/\Qct w' base p (n+m) q (l++E)/\Turn (λk=>Xq A=some k) w w'/\(Xq p=Xq A\/Xq p=some w.1.size):=by
 by_cases hm:m=0
 ·subst hm;obtain rfl:E=[]:=List.eq_nil_of_length_eq_zero F.len;obtain⟨i,hi,K,D,M⟩:=info_parts Zd2.info;refine⟨A,c,w,Tt (P:=Tryz.prog) base 26 ty 32 i 3 Zd2.sl hi A n c _ f.1 B d (by decide) D,?_,Turn.refl _ _,.inl rfl⟩;rw[List.append_nil];exact f
 ·obtain⟨p,q,w',h1,h2,G,H,_⟩:=Ro (P:=Tryz.prog) w Zd2 ty base A n c _ f B m d _ F (by omega) (λy J u I=>by
   obtain⟨e,_,rfl⟩:=List.mem_map.1 J;exact Qui e u I) z (by decide) g
  refine⟨p,q,w',h1,?_,G,H⟩;rw[<-List.map_append] at h2;exact h2
theorem Qqo {u:Array Oper}{e:List Oper}{o:Oper}{a:Act}{Q:Exit->Act->World->Prop}(z:o.guard=none)(F x:Operand)
  (J:o.op=.call { callee:=.builtin .append,args:=#[F,x],argTypes:=#[26,26] })
  (O:a.eval F=.slice A n c) (p:Qct w base A n c l)
  (B:Option Addr) (m d:Nat) (E:List Wh) (P:a.eval x=.slice B m d) (M:Qcx w B m d E) (D:n+m<=1000000) (f:base<=w.1.size)
  (h:∀g y w',Qct w' base g (n+m) y (l++E)->Turn (λk=>Xq A=some k) w w'->(Xq g=Xq A\/Xq g=some w.1.size)->wpList Tryz.prog u Q e (a.put o.dst (.slice g (n+m) y)) w'):wpList Tryz.prog u Q (o::e) a w:=
 wpList_plain z λK I=>by
  obtain⟨g,y,w',q,h2,G,H⟩:=Qm3 (w:=w) o.type p B m d E M D f;unfold Oper.wp execOp;simp only[J,resolve,invoke,builtin,Sem.run_bind,Sem.run_pure,Result.andThen_ok,List.map_toArray,List.map_cons,List.map_nil,O,P,q];exact I _ _ (h g y w' h2 G H)
end
