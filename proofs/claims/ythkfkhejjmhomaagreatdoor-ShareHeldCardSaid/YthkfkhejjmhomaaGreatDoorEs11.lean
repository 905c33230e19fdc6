/- The code's node: May -/
import Derived.Test.YthkfkhejjmhomaaGreatDoorEs10
namespace Go.Proofs.YthkfkhejjmhomaaGreatDoor
open Go Go.RowKit Go.Proofs
set_option maxHeartbeats 8000000
set_option maxRecDepth 100000
theorem qdo {n:Nat}{f:Nat->Bool}:(List.range n).all f=true↔∀j,j<n->f j=true:=by
 rw[List.all_eq_true];exact⟨λh j b=>h j (List.mem_range.2 b),λh j b=>h j (List.mem_range.1 b)⟩
theorem qhl (N:Nd):q68 N=true↔∀j,j<N.items.length->O0 (Qz N.items j)=true:=by
 constructor
 ·intro h j b;unfold q68 at h;exact List.all_eq_true.1 h _ (List.mem_of_getElem? (q1x b))
 ·intro h;exact qhj λj b=>of_decide_eq_true (h j b)
theorem qlt (N:Nd):Gv N=true↔∀j,j<N.kids.length->O9 (Qh N.kids j)=true:=by
 constructor
 ·intro h j b;unfold Gv at h;have:=of_decide_eq_true (List.all_eq_true.1 h _ (List.mem_of_getElem? (q11 b)));exact decide_eq_true (by omega)
 ·intro h;refine qlr λj b=>?_
  have:=of_decide_eq_true (h j b);omega
theorem qjs (N:Nd)(h:N.lvl=0)(e:N.kids.length=0):N.may=Di N.items 1 6:=by
 have d:N.keys=N.items.map (·.k):=by unfold Nd.keys;rw[List.eq_nil_of_length_eq_zero e];simp
 unfold Nd.may Di;rw[if_pos h,d,Bool.eq_iff_iff];simp only[Bool.and_eq_true,decide_eq_true_eq,qhl,rises,okI,qdo,List.length_map];constructor
 ·rintro⟨h1,h2,f⟩;exact⟨by omega,λj b=>⟨h2 j b,h1 j b⟩⟩
 ·rintro⟨h1,h2⟩;exact⟨λj b=>(h2 j b).2,λj b=>(h2 j b).1,by omega⟩
theorem qhm (N:Nd)(h:N.lvl=0)(b:¬N.kids.length=0):N.may=false:=by
 unfold Nd.may;rw[if_pos h,decide_eq_false (by omega),Bool.and_false,Bool.and_false]
theorem qf7 (N:Nd)(h:¬N.lvl=0)(m:1<=N.lvl/\N.lvl<=7)(e:N.items.length=0):N.may=Dj N.kids 2 12:=by
 have d:N.keys=N.kids.map (·.k):=by unfold Nd.keys;rw[List.eq_nil_of_length_eq_zero e];simp
 unfold Nd.may Dj;rw[if_neg h,d,Bool.eq_iff_iff];simp only[Bool.and_eq_true,decide_eq_true_eq,qlt,rises,okK,qdo,List.length_map];constructor
 ·rintro⟨h1,h2,f⟩;exact⟨by omega,λj b=>⟨h2 j b,h1 j b⟩⟩
 ·rintro⟨h1,h2⟩;exact⟨λj b=>(h2 j b).2,λj b=>(h2 j b).1,by omega⟩
theorem q8z (N:Nd)(h:¬N.lvl=0)(b:¬((1<=N.lvl/\N.lvl<=7)/\N.items.length=0)):N.may=false:=by
 unfold Nd.may;rw[if_neg h,decide_eq_false (by omega),Bool.and_false,Bool.and_false]
theorem q27 (N:Nd)(r:Bool)(I:N.may=r)(A:Option Addr)(n c:Nat)(B:Option Addr)(m d:Nat)(w:World)(P:Jd w A n c N.items)(Q:Zp w B m d N.kids)(hn:n<=1000)(hm:m<=1000) :
  Calls Tryz.prog 147 #[.agg #[.int .i64 N.lvl,.slice A n c,.slice B m d]] w λe Z=>e=.returned (.bool r)/\Below w.1.size w Z:=by
 have G:=Lib.hid P.len;have H:=Lib.hid Q.len;go_enter Tryz.func147,Tryz.ntmps147
 go_wp2_with fail
 have u:NB (w.alloc (.cells #[.int .i64 N.lvl,.slice A n c,.slice B m d] 77)) w.1.size N.lvl A n c B m d:=NB.new w _ _ _ _ _ _ _ _;have D:Below w.1.size w (w.alloc (.cells #[.int .i64 N.lvl,.slice A n c,.slice B m d] 77)):=Qn;generalize w.alloc (.cells #[.int .i64 N.lvl,.slice A n c,.slice B m d] 77)=T at u D ⊢;by_cases F:N.lvl=0
 ·refine (Rn N.lvl true (decide_eq_true F) A n c B m d T).mono ?_;rintro e U ⟨rfl,f⟩;have y:=u.below f u.lt;have p:=D.trans (f.mono D.size);have W:=y.c0;have X:=y.c1;have Y:=y.c2;clear u D f;by_cases K:m=0
  ·have b:=Lib.hid (show r=Di N.items 1 6 by rw[<-I];exact qjs N F (by rw[H.out];exact K));subst K;go_wp2_with fail
   refine (qo9 N.items A n c 1 6 U (P.below p) (by omega)).mono ?_;rintro e O ⟨rfl,E⟩;have J:=p.trans (E.mono p.size);go_wp2;go_ret;exact⟨by rw[b.out];rfl,J⟩
  ·have b:=Lib.hid (show r=false by rw[<-I];exact qhm N F (by rw[H.out];exact K));have h1:((m:Int)==0)=false:=by simp;omega
   have h2:decide ((m:Int)=0)=false:=decide_eq_false (by omega);go_wp2;go_ret;exact⟨by rw[b.out];rfl,p⟩
 ·refine (Rn N.lvl false (decide_eq_false F) A n c B m d T).mono ?_;rintro e U ⟨rfl,f⟩;have y:=u.below f u.lt;have p:=D.trans (f.mono D.size);have W:=y.c0;have X:=y.c1;have Y:=y.c2;clear u D f;go_wp2_with fail
  by_cases M:1<=N.lvl/\N.lvl<=7
  ·refine (q30 N.lvl 1 7 true (decide_eq_true M) _).mono ?_;rintro e O ⟨rfl,rfl⟩;by_cases R:n=0
   ·have b:=Lib.hid (show r=Dj N.kids 2 12 by rw[<-I];exact qf7 N F M (by rw[G.out];exact R));subst R;go_wp2_with fail
    refine (qoa N.kids B m d 2 12 _ (Q.below p) (by omega)).mono ?_;rintro e O ⟨rfl,E⟩;have J:=p.trans (E.mono p.size);go_wp2;go_ret;exact⟨by rw[b.out];rfl,J⟩
   ·have b:=Lib.hid (show r=false by rw[<-I];exact q8z N F (by rw[G.out];omega));have h1:((n:Int)==0)=false:=by simp;omega
    have h2:decide ((n:Int)=0)=false:=decide_eq_false (by omega);go_wp2;go_ret;exact⟨by rw[b.out];rfl,p⟩
  ·refine (q30 N.lvl 1 7 false (decide_eq_false M) _).mono ?_;rintro e O ⟨rfl,rfl⟩;have b:=Lib.hid (show r=false by rw[<-I];exact q8z N F (by omega));go_wp2;go_ret;exact⟨by rw[b.out];rfl,p⟩
def Nd.fit (N:Nd):Prop:=(N.lvl=0->N.kids=[])/\(¬N.lvl=0->N.items=[])
theorem q1n {N:Nd}(hm:N.may=true):N.fit:=by
 constructor
 ·intro b;refine List.eq_nil_of_length_eq_zero ?_;unfold Nd.may at hm;rw[if_pos b,Bool.and_eq_true,Bool.and_eq_true] at hm;exact (of_decide_eq_true hm.2.2).1
 ·intro b;refine List.eq_nil_of_length_eq_zero ?_;unfold Nd.may at hm;rw[if_neg b,Bool.and_eq_true,Bool.and_eq_true] at hm;exact (of_decide_eq_true hm.2.2).2.2.1
theorem qjt {N:Nd}(h:N.fit)(b:N.lvl=0):N.keys=N.items.map (·.k):=by unfold Nd.keys;rw[h.1 b];simp
theorem qf8 {N:Nd}(h:N.fit)(b:¬N.lvl=0):N.keys=N.kids.map (·.k):=by unfold Nd.keys;rw[h.2 b];simp
theorem q28 (N:Nd)(F:N.fit)(k:Kd)(t:Nat)(W:N.Zb k=t)(r:Bool)(U:Kz N.keys k t=r)(A:Option Addr)(n c:Nat)(B:Option Addr)(m d:Nat)(w:World)(hI:Jd w A n c N.items)(hK:Zp w B m d N.kids)(hn:n<=1000)(hm:m<=1000) :
  Calls Tryz.prog 97 #[.agg #[.int .i64 N.lvl,.slice A n c,.slice B m d],.agg #[.int .i64 k.obj,.int .i64 k.kind,.int .i64 k.off]] w λe w'=>e=.returned (.tuple #[.int .i64 (t:Int),.bool r])/\Below w.1.size w w':=by
 have Y:=Lib.hid hK.len;go_enter Tryz.func97,Tryz.ntmps97
 go_wp2_with fail
 have M:NB ((w.alloc (.cells #[.int .i64 N.lvl,.slice A n c,.slice B m d] 77)).alloc (.cells #[.int .i64 k.obj,.int .i64 k.kind,.int .i64 k.off] 45)) w.1.size N.lvl A n c B m d:=(NB.new w _ _ _ _ _ _ _ _).below (Qn) (by simp);have J:KB ((w.alloc (.cells #[.int .i64 N.lvl,.slice A n c,.slice B m d] 77)).alloc (.cells #[.int .i64 k.obj,.int .i64 k.kind,.int .i64 k.off] 45)) (w.1.size+1) k:=KB.new2 w _ k.obj k.kind k.off _;have O:Below w.1.size w ((w.alloc (.cells #[.int .i64 N.lvl,.slice A n c,.slice B m d] 77)).alloc (.cells #[.int .i64 k.obj,.int .i64 k.kind,.int .i64 k.off] 45)):=(Qn).alloc (by simp) _;generalize (w.alloc (.cells #[.int .i64 N.lvl,.slice A n c,.slice B m d] 77)).alloc (.cells #[.int .i64 k.obj,.int .i64 k.kind,.int .i64 k.off] 45)=w1 at M J O ⊢;by_cases G:N.lvl=0
 ·have y:=qjt F G;have u:=Lib.hid (show lead (N.items.map (·.k)) k=t by rw[<-W];unfold Nd.Zb;rw[if_pos G,y]);have b:=Lib.hid (show Kz (N.items.map (·.k)) k t=r by rw[<-U,y]);refine (Rn N.lvl true (decide_eq_true G) A n c B m d w1).mono ?_;rintro e w2 ⟨rfl,f⟩;have E:=M.below f M.lt;have D:=J.below f J.lt;have H:=O.trans (f.mono O.size);have q1:=E.c1;have Q:=D.c0;have R:=D.c1;have T:=D.c2;clear G y W U M J O f;go_wp2_with fail
  refine (qsg N.items k A n c w2 (hI.below H) (by omega)).mono ?_;rw[u.out];rintro e w3 ⟨rfl,p⟩;have Z:=E.below p E.lt;have K:=D.below p D.lt;have I:=H.trans (p.mono H.size);clear q1 Q R T;have q1:=Z.c1;have Q:=K.c0;have R:=K.c1;have T:=K.c2;clear E D p;go_wp2_with fail
  refine (qhd N.items t k r b.out A n c w3 (hI.below I) (by omega)).mono ?_;rintro e w4 ⟨rfl,P⟩;have X:=I.trans (P.mono I.size);go_wp2;go_ret2;exact⟨rfl,X⟩
 ·have y:=qf8 F G;have u:=Lib.hid (show lastTo (N.kids.map (·.k)) k m=t by rw[<-W];unfold Nd.Zb;rw[if_neg G,y,List.length_map,Y.out]);have b:=Lib.hid (show Kz (N.kids.map (·.k)) k t=r by rw[<-U,y]);refine (Rn N.lvl false (decide_eq_false G) A n c B m d w1).mono ?_;rintro e w2 ⟨rfl,f⟩;have E:=M.below f M.lt;have D:=J.below f J.lt;have H:=O.trans (f.mono O.size);have q2:=E.c2;have Q:=D.c0;have R:=D.c1;have T:=D.c2;clear G y W U M J O f;go_wp2_with fail
  refine (qsh N.kids k B m d w2 (hK.below H) (by omega)).mono ?_;rw[u.out];rintro e w3 ⟨rfl,p⟩;have Z:=E.below p E.lt;have K:=D.below p D.lt;have I:=H.trans (p.mono H.size);clear q2 Q R T;have q2:=Z.c2;have Q:=K.c0;have R:=K.c1;have T:=K.c2;clear E D p;go_wp2_with fail
  refine (qhe N.kids t k r b.out B m d w3 (hK.below I) (by omega)).mono ?_;rintro e w4 ⟨rfl,P⟩;have X:=I.trans (P.mono I.size);go_wp2;go_ret2;exact⟨rfl,X⟩
theorem qhn (xs:List Qg)(z:Kd)(u:(if (xs.map (·.k)).length=0 then ⟨0,0,0⟩ else keyAt (xs.map (·.k)) 0)=z)(A:Option Addr)(n c:Nat)(w:World)(D:Jd w A n c xs) :
  Calls Tryz.prog 275 #[.slice A n c,.func (.func 170) #[] #[]] w λe P=>e=.returned (.agg #[.int .i64 z.obj,.int .i64 z.kind,.int .i64 z.off])/\Below w.1.size w P:=by
 have b:=D.len;obtain⟨K,E⟩:=D.bounds;unfold maxLen at E;have m:KB (w.alloc (.cells #[.int .i64 0,.int .i64 0,.int .i64 0] 45)) w.1.size ⟨0,0,0⟩:=KB.new w 0 0 0 _;have p:Below w.1.size w (w.alloc (.cells #[.int .i64 0,.int .i64 0,.int .i64 0] 45)):=Qn;by_cases h0:n=0
 ·obtain rfl:(⟨0,0,0⟩:Kd)=z:=by rw[<-u,if_pos (by rw[List.length_map,b];exact h0)]
  subst h0;clear u b;go_enter Tryz.func275,Tryz.ntmps275
  go_wp2_with (first
   |(refine q1j rfl (.tmp 4) (.tmp 8) rfl w.1.size rfl ⟨0,0,0⟩ _ rfl m ?_;intro R y B)
   |fail)
  refine bodyPost_ret (Ol Tryz.results275 rfl (q2z y)) rfl ?_;exact⟨rfl,p.trans ((B.Qy m.lt).mono (Nat.le_refl _))⟩
 ·have f:keyAt (xs.map (·.k)) 0=z:=by rw[<-u,if_neg (by rw[List.length_map,b];exact h0)]
  rw[qsf] at f;obtain⟨g,o,G,O,I,J,M,c0,c1,c2,c3,_⟩:=(D.below p).cell (show 0<n by omega);subst J;rw[Nat.zero_mul,Nat.add_zero] at c0 c1 c2 c3;rw[f] at c0 c1 c2;clear u f b;have h1:((n:Int)==0)=false:=by simp;omega
  have h2:decide ((n:Int)=0)=false:=decide_eq_false (by omega);have T:(0:Int)<(n:Int):=by omega
  go_enter Tryz.func275,Tryz.ntmps275
  go_wp2_with fail
  generalize w.alloc (.cells #[.int .i64 0,.int .i64 0,.int .i64 0] 45)=Q at m p M c0 c1 c2 c3 ⊢;go_wp2_with fail
  refine (q2h z G O I Q).mono ?_;rintro e U ⟨rfl,d⟩;have F:=m.below d m.lt;have H:=p.trans (d.mono p.size);go_wp2_with (first
   |(refine q1j rfl (.tmp 4) (.tmp 13) rfl w.1.size rfl z _ rfl F ?_;intro R y B)
   |fail)
  refine bodyPost_ret (Ol Tryz.results275 rfl (q2z y)) rfl ?_;exact⟨rfl,H.trans ((B.Qy F.lt).mono (Nat.le_refl _))⟩
theorem qho (xs:List Qm)(z:Kd)(u:(if (xs.map (·.k)).length=0 then ⟨0,0,0⟩ else keyAt (xs.map (·.k)) 0)=z)(A:Option Addr)(n c:Nat)(w:World)(D:Zp w A n c xs) :
  Calls Tryz.prog 276 #[.slice A n c,.func (.func 173) #[] #[]] w λe M=>e=.returned (.agg #[.int .i64 z.obj,.int .i64 z.kind,.int .i64 z.off])/\Below w.1.size w M:=by
 have b:=D.len;obtain⟨J,E⟩:=D.bounds;unfold maxLen at E;have m:KB (w.alloc (.cells #[.int .i64 0,.int .i64 0,.int .i64 0] 45)) w.1.size ⟨0,0,0⟩:=KB.new w 0 0 0 _;have p:Below w.1.size w (w.alloc (.cells #[.int .i64 0,.int .i64 0,.int .i64 0] 45)):=Qn;by_cases h0:n=0
 ·obtain rfl:(⟨0,0,0⟩:Kd)=z:=by rw[<-u,if_pos (by rw[List.length_map,b];exact h0)]
  subst h0;clear u b;go_enter Tryz.func276,Tryz.ntmps276
  go_wp2_with (first
   |(refine q1j rfl (.tmp 4) (.tmp 8) rfl w.1.size rfl ⟨0,0,0⟩ _ rfl m ?_;intro P y B)
   |fail)
  refine bodyPost_ret (Ol Tryz.results276 rfl (q2z y)) rfl ?_;exact⟨rfl,p.trans ((B.Qy m.lt).mono (Nat.le_refl _))⟩
 ·have f:keyAt (xs.map (·.k)) 0=z:=by rw[<-u,if_neg (by rw[List.length_map,b];exact h0)]
  rw[qjf] at f;obtain⟨g,o,I,K,c0,c1,c2,c3⟩:=(D.below p).cell (show 0<n by omega);subst I;rw[Nat.zero_mul,Nat.add_zero] at c0 c1 c2 c3;obtain⟨v,G⟩:∃v,(Qh xs 0).a=v:=⟨_,rfl⟩;rw[G] at c3;clear G;rw[f] at c0 c1 c2;clear u f b;have h1:((n:Int)==0)=false:=by simp;omega
  have h2:decide ((n:Int)=0)=false:=decide_eq_false (by omega);have Q:(0:Int)<(n:Int):=by omega
  go_enter Tryz.func276,Tryz.ntmps276
  go_wp2_with fail
  generalize w.alloc (.cells #[.int .i64 0,.int .i64 0,.int .i64 0] 45)=O at m p K c0 c1 c2 c3 ⊢;go_wp2_with fail
  refine (q2i z v O).mono ?_;rintro e R ⟨rfl,d⟩;have F:=m.below d m.lt;have H:=p.trans (d.mono p.size);go_wp2_with (first
   |(refine q1j rfl (.tmp 4) (.tmp 13) rfl w.1.size rfl z _ rfl F ?_;intro P y B)
   |fail)
  refine bodyPost_ret (Ol Tryz.results276 rfl (q2z y)) rfl ?_;exact⟨rfl,H.trans ((B.Qy F.lt).mono (Nat.le_refl _))⟩
theorem qhp (N:Nd)(p:N.fit)(z:Kd)(I:N.least=z)(A:Option Addr)(n c:Nat)(B:Option Addr)(m d:Nat)(w:World)(T:Jd w A n c N.items)(U:Zp w B m d N.kids) :
  Calls Tryz.prog 253 #[.agg #[.int .i64 N.lvl,.slice A n c,.slice B m d]] w λe W=>e=.returned (.agg #[.int .i64 z.obj,.int .i64 z.kind,.int .i64 z.off])/\Below w.1.size w W:=by
 go_enter Tryz.func253,Tryz.ntmps253
 go_wp2_with fail
 have y:NB ((w.alloc (.cells #[.int .i64 N.lvl,.slice A n c,.slice B m d] 77)).alloc (.cells #[.int .i64 0,.int .i64 0,.int .i64 0] 45)) w.1.size N.lvl A n c B m d:=(NB.new w _ _ _ _ _ _ _ _).below (Qn) (by simp);have D:KB ((w.alloc (.cells #[.int .i64 N.lvl,.slice A n c,.slice B m d] 77)).alloc (.cells #[.int .i64 0,.int .i64 0,.int .i64 0] 45)) (w.1.size+1) ⟨0,0,0⟩:=KB.new2 w _ 0 0 0 _;have E:Below w.1.size w ((w.alloc (.cells #[.int .i64 N.lvl,.slice A n c,.slice B m d] 77)).alloc (.cells #[.int .i64 0,.int .i64 0,.int .i64 0] 45)):=(Qn).alloc (by simp) _;generalize (w.alloc (.cells #[.int .i64 N.lvl,.slice A n c,.slice B m d] 77)).alloc (.cells #[.int .i64 0,.int .i64 0,.int .i64 0] 45)=R at y D E ⊢;by_cases F:N.lvl=0
 ·have K:=Lib.hid (show (if (N.items.map (·.k)).length=0 then ⟨0,0,0⟩ else keyAt (N.items.map (·.k)) 0)=z by rw[<-I,<-qjt p F];rfl);refine (Rn N.lvl true (decide_eq_true F) A n c B m d R).mono ?_;rintro e Q ⟨rfl,b⟩;have M:=y.below b y.lt;have G:=D.below b D.lt;have u:=E.trans (b.mono E.size);have Z:=M.c1;clear F I y D E b;go_wp2_with fail
  refine (qhn N.items z K.out A n c Q (T.below u)).mono ?_;rintro e X ⟨rfl,f⟩;have H:=G.below f G.lt;have J:=u.trans (f.mono u.size);go_wp2_with (first
   |(refine q1j rfl (.tmp 2) (.tmp 7) rfl (w.1.size+1) rfl z _ rfl H ?_;intro Y O P)
   |fail)
  refine bodyPost_ret (Ol Tryz.results253 rfl (q2z O)) rfl ?_;exact⟨rfl,J.trans ((P.Qy H.lt).mono (by omega))⟩
 ·have K:=Lib.hid (show (if (N.kids.map (·.k)).length=0 then ⟨0,0,0⟩ else keyAt (N.kids.map (·.k)) 0)=z by rw[<-I,<-qf8 p F];rfl);refine (Rn N.lvl false (decide_eq_false F) A n c B m d R).mono ?_;rintro e Q ⟨rfl,b⟩;have M:=y.below b y.lt;have G:=D.below b D.lt;have u:=E.trans (b.mono E.size);have q2:=M.c2;clear F I y D E b;go_wp2_with fail
  refine (qho N.kids z K.out B m d Q (U.below u)).mono ?_;rintro e X ⟨rfl,f⟩;have H:=G.below f G.lt;have J:=u.trans (f.mono u.size);go_wp2_with (first
   |(refine q1j rfl (.tmp 2) (.tmp 10) rfl (w.1.size+1) rfl z _ rfl H ?_;intro Y O P)
   |fail)
  refine bodyPost_ret (Ol Tryz.results253 rfl (q2z O)) rfl ?_;exact⟨rfl,J.trans ((P.Qy H.lt).mono (by omega))⟩
theorem qt0 (v:List UInt8)(h:v.length=3):(Za ((v.drop 1).take 2):Int)=256*(Yy v 1:Int)+(Yy v 2:Int):=by
 match v,h with
 |[a,b,c],_=>simp[Za,Yy]
theorem qby (x:Qg)(r:Bool)(D:(Y4 x).isSome=r)(B:Option Addr)(m d:Nat)(w:World)(K:Sl w B m d x.v) :
  Calls Tryz.prog 150 #[.agg #[.int .i64 x.k.obj,.int .i64 x.k.kind,.int .i64 x.k.off,.slice B m d]] w λe P=>e=.returned (.bool r)/\Below w.1.size w P:=by
 have f:=K.len;have E:∀o,Below w.1.size w (w.alloc o):=λo=>(Below.refl _ _).alloc (Nat.le_refl _) o
 by_cases b:x.k.kind=3
 ·rw[b];by_cases J:m=3
  ·subst J;obtain⟨I,rfl,F,H⟩:=K.cell (k:=0) (by omega);have G:∀o,(w.alloc o).cell? I=some (.int .u8 (Yy x.v 0:Int)):=λo=>((E o).cell (p:=I) F).trans H
   by_cases u:Yy x.v 0=1
   ·obtain rfl:r=true:=by rw[<-D];unfold Y4;rw[if_pos ⟨b,f,u⟩];rfl
    rw[u] at G;clear u H D f b;go_enter Tryz.func150,Tryz.ntmps150
    go_wp2;go_ret;exact⟨rfl,E _⟩
   ·obtain rfl:r=false:=by rw[<-D];unfold Y4;rw[if_neg (λh=>u h.2.2)];rfl
    obtain⟨A,y⟩:∃A,Yy x.v 0=A:=⟨_,rfl⟩;rw[y] at G u;have M:((A:Int)==1)=false:=by simp;omega
    have O:decide ((A:Int)=1)=false:=decide_eq_false (by omega);clear y H D f b;go_enter Tryz.func150,Tryz.ntmps150
    go_wp2;go_ret;exact⟨rfl,E _⟩
  ·obtain rfl:r=false:=by rw[<-D];unfold Y4;rw[if_neg (λh=>J (by rw[<-f];exact h.2.1))];rfl
   have M:((m:Int)==3)=false:=by simp;omega
   have O:decide ((m:Int)=3)=false:=decide_eq_false (by omega);clear D f b;go_enter Tryz.func150,Tryz.ntmps150
   go_wp2;go_ret;exact⟨rfl,E _⟩
 ·obtain rfl:r=false:=by rw[<-D];unfold Y4;rw[if_neg (λh=>b h.1)];rfl
  obtain⟨A,y⟩:∃A,x.k.kind=A:=⟨_,rfl⟩;rw[y] at b ⊢;have M:(A==3)=false:=by simp;omega
  have O:decide (A=3)=false:=decide_eq_false (by omega);clear y D f;go_enter Tryz.func150,Tryz.ntmps150
  go_wp2;go_ret;exact⟨rfl,E _⟩
theorem q7t (N:Nd)(Z:N.fit)(A:Option Addr)(n c:Nat)(B:Option Addr)(m d:Nat)(w:World)(hI:Jd w A n c N.items)(hK:Zp w B m d N.kids)(hn:n<=1000)(hm:m<=1000) :
  Calls Tryz.prog 87 #[.agg #[.int .i64 N.lvl,.slice A n c,.slice B m d]] w λe w'=>∃E n' F,e=.returned (.slice E n' F)/\Qo w' w.1.size 3 1 E n' F (N.named.map iv)/\Below w.1.size w w':=by
 have a0:=Lib.hid hI.len;have a8:=Lib.hid hK.len;go_enter Tryz.func87,Tryz.ntmps87
 go_wp2_with fail
 have N1:NB (w.alloc (.cells #[.int .i64 N.lvl,.slice A n c,.slice B m d] 77)) w.1.size N.lvl A n c B m d:=NB.new w _ _ _ _ _ _ _ _;have b1:Below w.1.size w (w.alloc (.cells #[.int .i64 N.lvl,.slice A n c,.slice B m d] 77)):=Qn;generalize w.alloc (.cells #[.int .i64 N.lvl,.slice A n c,.slice B m d] 77)=w1 at N1 b1 ⊢;by_cases hl:N.lvl=0
 ·have b3:N.kids.length=0:=by rw[Z.1 hl];rfl
  have a7:=Lib.hid (show Kw N 0=Jk N 0 by have:=q8w N;rw[b3] at this;exact this);refine (Rn N.lvl true (decide_eq_true hl) A n c B m d w1).mono ?_;rintro e w2 ⟨rfl,G⟩;have N2:=N1.below G N1.lt;have B2:=b1.trans (G.mono b1.size);have q1:=N2.c1;have zN:=N2.lt;have Dn:Qo w2 (w.1.size+1) 3 1 none 0 0 (Jk N 0):=by rw[<-a7.out];exact Ir _ _ _ _
  clear hl b3 N1 b1 G a7;go_wp2_with fail
  clear q1;go_loopw [3,31] (λl i wr=>∃(j q:Nat) (E:Option Addr) (F:Nat),j<=n/\q<=j/\i=.int .i64 (j:Int)/\l=.slice E q F/\Qo wr (w.1.size+1) 3 1 E q F (Jk N j)/\Below w.1.size w wr/\w.1.size<wr.1.size) (λ_ i _=>n-(intOf i).toNat)
  case atStart=>exact⟨0,0,_,_,Nat.zero_le _,Nat.le_refl _,rfl,rfl,Dn,B2,zN⟩
  case round=>
   obtain⟨j,q,E,F,hj,hq,rfl,rfl,own,Q,hz⟩:=hrel;by_cases K:j<n
   ·obtain⟨g,o,X,W,J,hA,hg,c0,c1,c2,c3,a4⟩:=(hI.below Q).cell K;subst hA;have H:=λz h=>Lib.hid (qdg N j (by rw[a0.out];exact K) z h)
    have R:=λh=>Lib.hid (qhb N j (by rw[a0.out];exact K) h)
    obtain⟨x,hx⟩:∃x,Qz N.items j=x:=⟨_,rfl⟩;rw[hx] at c0 c1 c2 a4 H R;clear hx;have Y:Below wr.1.size wr (wr.alloc (.cells #[.int .i64 x.k.obj,.int .i64 x.k.kind,.int .i64 x.k.off,.slice X W J] 50)):=Qn;have x0:(wr.alloc (.cells #[.int .i64 x.k.obj,.int .i64 x.k.kind,.int .i64 x.k.off,.slice X W J] 50)).1[wr.1.size]?=some (.cells #[.int .i64 x.k.obj,.int .i64 x.k.kind,.int .i64 x.k.off,.slice X W J] 50 (0,0)):=heap_alloc_new wr _;have zx:wr.1.size<(wr.alloc (.cells #[.int .i64 x.k.obj,.int .i64 x.k.kind,.int .i64 x.k.off,.slice X W J] 50)).1.size:=by simp
    go_wp2_with fail
    generalize wr.alloc (.cells #[.int .i64 x.k.obj,.int .i64 x.k.kind,.int .i64 x.k.off,.slice X W J] 50)=wx at Y x0 zx ⊢;have x3:wx.cell? ⟨wr.1.size,3,none⟩=some (.slice X W J):=by rw[cell_of_row _ _ _ _ _ _ x0];rfl
    have P:=own.below Y;have I:=a4.below Y;have U:=Q.trans (Y.mono Q.size);obtain⟨c9,d0⟩:=(hI.below Q).bounds;clear c0 c1 c2 c3 x0 own a4
    cases b:Y4 x
    ·have hN:=R b;refine (qby x false (by rw[b];rfl) X W J wx I).mono ?_;rintro e w3 ⟨rfl,u⟩;have y:=P.below u;rw[<-hN.out] at y;have T:=U.trans (u.mono U.size);have b7:w.1.size<w3.1.size:=by have:=u.size;omega
     clear H R hN b;go_wp2;exact⟨⟨j+1,q,E,F,by omega,by omega,by go_num,rfl,y,T,b7⟩,by simp[intOf];omega⟩
    ·rename_i z;have hN:=H z b;refine (qby x true (by rw[b];rfl) X W J wx I).mono ?_;rintro e w3 ⟨rfl,u⟩;have y:=P.below u;have T:=U.trans (u.mono U.size);have b7:w.1.size<w3.1.size:=by have:=u.size;omega
     have y3:=(u.cell (p:=⟨wr.1.size,3,none⟩) zx).trans x3;have f:=I.below u;have b6:=f.len;have d1:=f.cap;have c8:=f.max;unfold maxLen at c8;have a5:x.v.length=3/\(Za ((x.v.drop 1).take 2):Int)=z:=by
      unfold Y4 at b;split at b
      ·rename_i h;exact⟨h.2.1,by rw[qt0 _ h.2.1];exact Option.some.inj b⟩
      ·cases b
     obtain rfl:3=W:=by rw[<-b6];exact a5.1.symm
     have b8:=Lib.hid a5.2;obtain⟨b4,o4,rfl,_,_⟩:=qkn f (by omega);have hd:=f.drop (k:=1) (by omega);rw[if_neg (by omega:¬J=1)] at hd;have b0:Sl w3 (some ⟨b4,o4+1,none⟩) 2 (J-1) (x.v.drop 1):=hd;have d3:(1:Int)<=(J:Int):=by omega
     have d2:¬J=1:=by omega
     clear hd H R b a5 b6 Y x3 P I Q hz zx;go_wp2_with fail
     refine (q5u (some ⟨b4,o4+1,none⟩) 2 (J-1) _ 2 0 w3 b0 (by omega) (by omega) (by omega) (by omega) (by decide)).mono ?_;rintro e w4 ⟨A4,c4,rfl,_,a2⟩;rw[show (2:Int).toNat=2 from rfl,b8.out];have b9:=y.below a2;have c7:=T.trans (a2.mono T.size);have d4:w.1.size<w4.1.size:=by have:=a2.size;omega
     have b5:Below w4.1.size w4 (w4.alloc (.cells #[.int .i64 z] 3)):=Qn;clear y y3 b0 f b8;go_wp2_with (first
      |(at_builtin;refine q4b _ Fp rfl _ _ rfl (w.1.size+1) E q F (Jk N j) rfl (b9.below b5) (some ⟨w4.1.size,0,none⟩) 1 1 [iv z] rfl (Oi w4 z) (by omega) (qdf z) (by omega) (by omega) (by have:=b5.size;omega) ?_)
      |fail)
     intro A5 c5 w5 D a3;have M:Below (w.1.size+1) w4 w5:=(b5.mono (by omega)).trans a3;have a1:=c7.trans (M.mono (by omega));have a6:w.1.size<w5.1.size:=by have:=M.size;omega
     rw[<-hN.out] at D;go_wp2;exact⟨⟨j+1,q+1,_,_,by omega,by omega,by go_num,rfl,D,a1,a6⟩,by simp[intOf];omega⟩
   ·obtain rfl:n=j:=by omega
    have O:Qo wr (w.1.size+1) 3 1 E q F (N.named.map iv):=by rw[<-q8x,a0.out];exact own
    go_wp2;go_ret;exact⟨_,_,_,rfl,O.less (by omega),Q⟩
 ·have b2:N.items.length=0:=by rw[Z.2 hl];rfl
  have c6:=Lib.hid (show Jk N 0=N.named.map iv by have:=q8x N;rw[b2] at this;exact this);refine (Rn N.lvl false (decide_eq_false hl) A n c B m d w1).mono ?_;rintro e w2 ⟨rfl,G⟩;have N2:=N1.below G N1.lt;have B2:=b1.trans (G.mono b1.size);have q2:=N2.c2;have zN:=N2.lt;clear hl b2 N1 b1 G;go_wp2_with fail
  clear q2;go_loopw [3,17] (λl i wr=>∃(j:Nat) (E:Option Addr) (F:Nat),j<=m/\i=.int .i64 (j:Int)/\l=.slice E j F/\Qo wr (w.1.size+1) 3 1 E j F (Kw N j)/\Below w.1.size w wr/\w.1.size<wr.1.size) (λ_ i _=>m-(intOf i).toNat)
  case atStart=>exact⟨0,_,_,Nat.zero_le _,rfl,rfl,Ir _ _ _ _,B2,zN⟩
  case round=>
   obtain⟨j,E,F,hj,rfl,rfl,own,Q,hz⟩:=hrel;by_cases K:j<m
   ·obtain⟨g,o,hA,hg,c0,c1,c2,c3⟩:=(hK.below Q).cell K;subst hA;have e2:=qbh N j (by rw[a8.out];exact K);obtain⟨x,hx⟩:∃x,Qh N.kids j=x:=⟨_,rfl⟩;rw[hx] at c0 c1 c2 c3 e2;have E2:=Lib.hid e2;clear e2 hx;have Y:Below wr.1.size wr (wr.alloc (.cells #[.int .i64 x.k.obj,.int .i64 x.k.kind,.int .i64 x.k.off,.int .i64 x.a] 148)):=Qn;have b5:Below wr.1.size wr ((wr.alloc (.cells #[.int .i64 x.k.obj,.int .i64 x.k.kind,.int .i64 x.k.off,.int .i64 x.a] 148)).alloc (.cells #[.int .i64 x.a] 3)):=Y.alloc Y.size _;have a9:Js ((wr.alloc (.cells #[.int .i64 x.k.obj,.int .i64 x.k.kind,.int .i64 x.k.off,.int .i64 x.a] 148)).alloc (.cells #[.int .i64 x.a] 3)) 1 (some ⟨wr.1.size+1,0,none⟩) 1 1 [iv x.a]:=by
     have:=Oi (wr.alloc (.cells #[.int .i64 x.k.obj,.int .i64 x.k.kind,.int .i64 x.k.off,.int .i64 x.a] 148)) x.a;rwa [World.size_alloc] at this
    go_wp2_with (first
     |(at_builtin;refine q4b _ Fp rfl _ _ rfl (w.1.size+1) E j F (Kw N j) rfl (own.below b5) (some ⟨wr.1.size+1,0,none⟩) 1 1 [iv x.a] rfl a9 (by omega) (qdf x.a) (by omega) (by omega) (by have:=b5.size;omega) ?_)
     |fail)
    intro A5 c5 w5 D a3;have M:Below (w.1.size+1) wr w5:=(b5.mono (by omega)).trans a3;have a1:=Q.trans (M.mono (by omega));have a6:w.1.size<w5.1.size:=by have:=M.size;omega
    rw[<-E2.out] at D;clear a9;go_wp2;exact⟨⟨j+1,_,_,by omega,by go_num,rfl,D,a1,a6⟩,by simp[intOf];omega⟩
   ·obtain rfl:m=j:=by omega
    have O:Qo wr (w.1.size+1) 3 1 E m F (N.named.map iv):=by
     rw[<-c6.out,<-q8w,a8.out];exact own
    go_wp2;go_ret;exact⟨_,_,_,rfl,O.less (by omega),Q⟩
