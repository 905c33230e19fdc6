/- The code's share: top; Diff of two trees without items -/
import Derived.Test.YthkfkhejjmhomaaGreatDoorEs42
namespace Go.Proofs.YthkfkhejjmhomaaGreatDoor
open Go Go.RowKit Go.Proofs
set_option maxHeartbeats 16000000
set_option maxRecDepth 100000
theorem qv8 {w:World}{b:Nat}{l:Int}{A B:Option Addr}{n c m d:Nat}(H:NB w b l A n c B m d):(loadVar 186 ⟨b,0,none⟩).run Tryz.prog w=.ok (Xo l A n c B m d) w:=
 run_loadVar_mid w b 0 186 _ _ H.range Tryz.underlying186 rfl (by kernel_rfl)
theorem qgz {ops:Array Oper}{e:List Oper}{o:Oper}{a:Act}{w:World}{Q:Exit->Act->World->Prop}(M:o.guard=none)(x y:Operand)(J:o.op=Op.store 186 x y)
  (b:Nat) (O:a.eval x=.pointer (some ⟨b,0,none⟩)) (F:Int) (f:Option Addr) (I c2:Nat) (u:Option Addr) (G E:Nat) (R:a.eval y=.agg #[.int .i64 F,.slice f I c2,.slice u G E]) {l:Int} {A B:Option Addr} {n c m d:Nat} (H:NB w b l A n c B m d)
  (K:∀w',NB w' b F f I c2 u G E->Turn (λg=>g=b) w w'->wpList Tryz.prog ops Q e (a.put o.dst undef) w'):wpList Tryz.prog ops Q (o::e) a w:=
 wpList_store_mid M _ x y J b 0 #[.int .i64 F,.slice f I c2,.slice u G E] O R H.there (by kernel_rfl) (by simp[Value.oneCell'])
  (K _ (H.stored F f I c2 u G E) (Um (S:=λg=>g=b) rfl _ 0 w))
theorem qlb {w:World}{p:Nat}{R:Int->Nd × Int}(H:Src w p R)(E:Tab w) :
  Calls Tryz.prog 114 #[.pointer (some ⟨p,0,none⟩),.int .i64 0] w λe w'=>e=.returned (.tuple #[.agg #[.int .i64 0,.slice none 0 0,.slice none 0 0],.int .i64 0])/\Below w.1.size w w':=by
 have u:Below w.1.size w (w.alloc (.cells #[.int .i64 0,.slice none 0 0,.slice none 0 0] 186)):=Qn;have A:=NB.new w 0 none 0 0 none 0 0 186;have K:Ib R 0=(0,0):=rfl;have f:=qir (H.below u) (E.below u E.1) 0;rw[K] at f;have f:=Lib.hid f;go_enter Tryz.func114,Tryz.ntmps114
 go_wp2_with fail
 generalize w.alloc (.cells #[.int .i64 0,.slice none 0 0,.slice none 0 0] 186)=O at *;refine f.out.mono ?_;rintro e Q ⟨rfl,B⟩;have G:=A.below B A.lt;have y:=u.trans (B.mono u.size);go_wp2_with (first
  |(refine qgz rfl _ _ rfl w.1.size rfl 0 none 0 0 none 0 0 rfl G ?_;intro T I J)
  |fail)
 have F:=y.trans (J.below (λk M=>by have:k=w.1.size:=M;omega) y.size);refine bodyPost_ret (Gi Tryz.results114 rfl (qv8 I)) rfl ?_;exact⟨rfl,F⟩
theorem qj7 (w:World)(B:Option Addr)(m d:Nat) :
  Calls Tryz.prog 117 #[.slice none 0 0,.slice B m d] w λe w'=>e=.returned (.slice none 0 0)/\w=w':=by
 go_enter Tryz.func117,Tryz.ntmps117
 go_wp2_with fail
 go_loopw [5,10] (λl i wr=>l=.slice none 0 0/\i=.int .i64 0/\wr=w) (λ_ _ _=>0)
 case atStart=>exact⟨rfl,rfl,rfl⟩
 case round=>
  obtain⟨rfl,rfl,rfl⟩:=hrel;go_wp2_with fail
  go_ret;exact⟨rfl,rfl⟩
theorem qrr {w:World}{p:Nat}{R:Int->Nd × Int}(H:Src w p R)(F:Tab w) :
  Calls Tryz.prog 70 #[.pointer (some ⟨p,0,none⟩),.int .i64 0,.int .i64 0] w λe w'=>e=.returned (.tuple #[.slice none 0 0,.slice none 0 0,.int .i64 0])/\Below w.1.size w w':=by
 have Z:=Lib.hid (qlb H F);go_enter Tryz.func70,Tryz.ntmps70
 go_wp2_with fail
 refine Z.out.mono ?_;rintro e A ⟨rfl,M⟩;have J:=NB.new A 0 none 0 0 none 0 0 186;have b2:Below A.1.size A (A.alloc (.cells #[.int .i64 0,.slice none 0 0,.slice none 0 0] 186)):=Qn;have B:=M.trans (b2.mono M.size);have H2:=Lib.hid (qlb (H.below B) (F.below B F.1));go_wp2_with fail
 refine H2.out.mono ?_;rintro e y ⟨rfl,O⟩;have K:=J.below O J.lt;have E:=NB.new y 0 none 0 0 none 0 0 186;have Q:Below y.1.size y (y.alloc (.cells #[.int .i64 0,.slice none 0 0,.slice none 0 0] 186)):=Qn;have f:=K.below Q K.lt;have G:=B.trans (O.mono B.size);have I:=G.trans (Q.mono G.size);have x0:=f.c0;have x1:=f.c1;have X:=f.c2;have v0:=E.c0;have v1:=E.c1;have T:=E.c2;go_wp2_with fail
 generalize y.alloc (.cells #[.int .i64 0,.slice none 0 0,.slice none 0 0] 186)=w4 at *;go_loopw [11] (λi wr=>i=.int .i64 0/\wr=w4) (λ_ _=>0)
 case atStart=>exact⟨rfl,rfl⟩
 case round=>
  obtain⟨rfl,rfl⟩:=hrel;have HL:=Lib.hid (λu:Grown wr=>qj7 u.to none 0 0);have d2:∀u:Grown wr,u.to.cell? ⟨A.1.size,2,none⟩=some (.slice none 0 0):=λu=>Grown.cell X f.lt u
  have d3:∀u:Grown wr,u.to.cell? ⟨y.1.size,2,none⟩=some (.slice none 0 0):=λu=>Grown.cell T E.lt u
  clear x0 x1 X v0 v1 T;go_wp2_with fail
  refine Ua (by kernel_rfl) (by kernel_rfl) ?_;repeat (go_big_quiet_step (first|(go_at_call 117;exact Calls.J7 (HL.out _))|fail))
  refine wpQuiet_nil ?_;rintro _ ⟨u,rfl⟩;have Y:=I.trans (u.ok.mono I.size);go_wp2;go_ret3;exact⟨rfl,Y⟩
def edX:Qg:=⟨⟨1,0,0⟩,shB⟩
theorem qv9:Y4 edX=none:=rfl
theorem qva:Zr edX:=⟨by decide,by decide⟩
theorem qd7 (w:World)(p:Option Addr) :
  Calls Tryz.prog 35 #[.pointer p,.int .i64 0] w λe w'=>e=.returned (.int .i64 0)/\w=w':=by
 go_enter Tryz.func35,Tryz.ntmps35
 go_wp2_with fail
 go_ret;exact⟨rfl,rfl⟩
section
variable {b:Nat}{w w':World}{d p:Nat}{U:Nat->Prop}{D:DM}{P P':Pl}{H H0:List Int}{m:Nat}{g:Int}{root:Int}{its:List Qg}
theorem Ed.Oq (E:Ed b w d p U D P [] m g):P.C.used=0:=by
 obtain⟨y,u,K⟩:=E.keep;have h1:=K.used (L:=[]) (X:=[]) (λx f=>by cases f) (λa e=>by cases e) (λa e=>by cases e);have h1:P.C.used<=0:=h1;omega
theorem Ed.Qcj (E:Ed b w d p U D P H m g)(hH:H.length<=30000){a:Int}(hE:P.Qd D a=0):P.C.get a<65535:=by
 obtain⟨u,f,K⟩:=E.keep;obtain⟨c,rfl,c0,y⟩:=q4j K hE;have h0:P.C.get (c:Int)≠0:=λe=>by
  unfold Pl.Qd at hE;rw[if_pos e] at hE
  cases hE
 have:=K.low hH h0;omega
theorem qrs (e:Zl (P.store D) root its):root=0↔its=[]:=by
 rcases e with⟨rfl,rfl⟩|⟨l,_,f,h1,_⟩
 ·exact⟨λ_=>rfl,λ_=>rfl⟩
 ·constructor
  ·intro h;omega
  ·rintro rfl;obtain⟨x,t,h⟩:=q60 f
   cases h
theorem Fj.tree (h:Fj b w w' d p U D P P' H m g)(hT:Zl (P.store D) root its)(hr:root≠0->root∈H):Zl (P'.store D) root its:=by
 rcases hT with h0|⟨l,h1,h2,e⟩
 ·exact .inl h0
 ·exact .inr ⟨l,h1,h.old _ _ _ (hr (by omega)) h2,e⟩
theorem Ed.Qbd (E:Ed b w d p U D P (root::H) m g)(h0:root≠0):Ed b w d p U D P (Jy root++H) m g:=by
 rw[show Jy root=[root] from if_neg h0];exact E
end
theorem q7e:(Pl.fresh 1024).C.n=1024:=Ct.Zi 1024
theorem q4k:(Pl.fresh 1024).C.first=20:=by
 unfold Ct.first
 rw[q7e];rfl
theorem q57:(Pl.fresh 1024).C.kept=0:=qrf 1024
theorem qd8 (w:World)(ht:Tab w):Calls Tryz.prog 26 #[] w λe w'=>e=.returned (.bool true)/\Below w.1.size w w':=by
 have hG:=ht.1;have hM:=Lib.hid (q8l w ht);have a4:=q7e;have a3:=q4k;have a6:=q57;obtain⟨P,hP⟩:∃P,Pl.fresh 1024=P:=⟨_,rfl⟩;rw[hP] at hM a4 a3 a6;clear hP;obtain⟨fr,a5⟩:∃x,P.C.free=x:=⟨_,rfl⟩;go_enter Tryz.func26,Tryz.ntmps26
 go_wp2_with fail
 refine hM.out.mono ?_;rintro e w2 ⟨p,d,U,D,rfl,Z,B2,hU⟩;clear hM;have HF:=Lib.hid (Z.free fr a5);go_wp2_with fail
 refine HF.out.mono ?_;rintro e E ⟨rfl,rfl⟩;have F:=Lib.hid (qrr Z.src Z.tab);clear HF;go_wp2_with fail
 refine F.out.mono ?_;rintro e E ⟨rfl,b3⟩;have E3:=Z.below b3;have G:=B2.trans (b3.mono B2.size);have a2:∀k,U k->k<E.1.size:=λk hk=>(E3.low k hk).2
 have a1:Zl (P.store D) 0 []:=.inl ⟨rfl,rfl⟩;have f:=E3.Qai (root:=0) (X:=[]) (H0:=[]) (L:=[]) (λa ha=>by cases ha) a1 (λx hx=>by cases hx) (λa ha=>by cases ha);rw[a4,a3,a6] at f;simp only[List.length_nil,List.map_nil,List.sum_nil] at f;have b5:Below E.1.size E (E.alloc (.cells #[.int .u8 97,.int .u8 98] 5 (2,3))):=Qn;have s5:Sl (E.alloc (.cells #[.int .u8 97,.int .u8 98] 5 (2,3))) (some ⟨E.1.size,0,none⟩) 2 2 shB:=qp1 E 5 (2,3) [97,98] #[.int .u8 97,.int .u8 98] rfl (by simp);have HP:=Lib.hid (Ed.put (k:=⟨1,0,0⟩) (v:=shB) (H0:=[]) (root:=0) (by rw[show nmI ⟨⟨1,0,0⟩,shB⟩=[] from rfl];exact E3.below b5) hG a1 List.Pairwise.nil (λx hx=>by cases hx) qva (qla qv9) (by simp) (by simp) _ 2 2 s5 (λ_ g hg b1=>by
  have:=a2 g b1;have hg:E.1.size=g:=Option.some.inj hg;omega))
 have kc:=λ(w:World) (C:Array Value) (n c:Nat)=>Lib.run_convert_bytes_const (P:=Tryz.prog) w 48 5 C n c Tryz.underlying48 Tryz.underlying5
 clear F Z;go_wp2_with fail
 refine HP.out.mono ?_;rintro e w6 (⟨r,P6,rfl,T⟩|⟨_,hf,_⟩)
 case inr=>omega
 clear HP kc s5;have X6:=T.turn;have T6:Zl (P6.store D) r [edX]:=T.tree;have A:r≠0:=λh=>by have:=(qrs T6).1 h;cases this
 have E6:=T.ed;have a0:=E6.Bh T6 A;have HH:=Lib.hid (E6.hold hG A a0 (E6.Qcj (by rw[show Jy r=[r] from if_neg A];simp) a0));go_wp2_with fail
 refine HH.out.mono ?_;rintro e w7 ⟨rfl,Q,_,_⟩;clear HH;have T7:=Q.tree T6 λ_=>List.mem_cons_self ..
 have E7:=Q.ed.Qbd A;have F:=Lib.hid (E7.drop hG (E7.Bh T7));go_wp2_with fail
 refine F.out.mono ?_;rintro e w8 ⟨P8,rfl,B⟩;clear F;have T8:=B.tree T7 λ_=>by rw[show Jy r=[r] from if_neg A];exact List.mem_cons_self ..
 have Hg:=Lib.hid ((B.ed.told T8 (List.pairwise_singleton ..) (by simp)).Qbr B.ed.tab ⟨1,0,0⟩ (shB,0) rfl);go_wp2_with fail
 refine Hg.out.mono ?_;rintro e w9 ⟨A9,n9,d9,rfl,s9,a8,b9⟩;clear Hg;have E9:=B.ed.below b9;have F:=Lib.hid (Ed.drop (H:=[]) E9 hG (E9.Bh T8));go_wp2_with fail
 refine F.out.mono ?_;rintro e R ⟨b0,rfl,u⟩;clear F;have O:=u.ed;have y:b0.C.free=fr:=(qgv (u.only.n.trans (B.only.n.trans (Q.only.n.trans T.n))) (((T.like.trans Q.only.like).trans B.only.like).trans u.only.like).2 E3.Oq O.Oq).trans a5;have HF:=Lib.hid (O.free fr y);have HN:=Lib.hid (qd7 R (some ⟨p,0,none⟩));have HH:=Lib.hid (qd3 R (some ⟨p,0,none⟩));have z5:=b5.size;have z6:=X6.size;have z7:=Q.turn.size;have z8:=B.turn.size;have a7:Sl R A9 n9 d9 shB:=s9.turned' u.turn λhv g hg h=>by
  have:=a8 hv g hg;have:=a2 g h;omega
 have a7:=q7h a7;have I:=(G.trans (b5.mono G.size)).trans (X6.below hU (by have:=G.size;omega));have J:=I.trans (Q.turn.below hU I.size);have K:=J.trans (B.turn.below hU J.size);have M:=K.trans (b9.mono K.size);have Y:=M.trans (u.turn.below hU M.size);clear y s9 a8 Q B u T E6 E7 E9 O T6 T7 T8 M K J I;go_wp2_with fail
 refine HH.out.mono ?_;rintro e a9 ⟨rfl,rfl⟩;go_wp2_with fail
 refine HN.out.mono ?_;rintro e a9 ⟨rfl,rfl⟩;go_wp2_with fail
 refine HF.out.mono ?_;rintro e a9 ⟨rfl,rfl⟩;go_wp2_with fail
 go_ret;exact⟨rfl,Y⟩
section
variable {b:Nat}{w W:World}{d p:Nat}{U:Nat->Prop}{D:DM}{P:Pl}{H0:List Int}{m:Nat}{g:Int}{root:Int}{row:List Qg}
theorem qrt {v:List UInt8}(h:28<v.length):Uo v=v.take 28:=by
 unfold Uo;rw[if_neg (by rw[List.length_take];omega)]
theorem qno {v:List UInt8}(h:v.length=3):Uo v=v.set 0 7:=by
 unfold Uo;rw[List.take_of_length_le (by omega),if_pos h]
theorem qnp {v:List UInt8}(h:v.length<=28)(e:v.length≠3):Uo v=v:=by
 unfold Uo;rw[List.take_of_length_le h,if_neg e]
theorem qbc {U:Nat->Prop}{w:World}{base n c:Nat}{e:TypeId}{A:Option Addr}{l:List UInt8}(h:Own w base e A n c l)(y:∀k,U k->k<base):∀g,q01 A=some g->¬U g:=λg u f=>by
 have h1:=y g f
 cases A with
 |none=>cases u
 |some ad=>
  have h2:=h.block ad rfl;have B:ad.block=g:=Option.some.inj u;omega
theorem qh0 {w:World}{base n c:Nat}{e:TypeId}{A:Option Addr}{l:List UInt8}(h:Own w base e A n c l):∀g,q01 A=some g->base<=g:=λg f=>by
 cases A with
 |none=>cases f
 |some ad=>
  have h2:=h.block ad rfl;have u:ad.block=g:=Option.some.inj f;omega
theorem qru {c:Nat}(_:c<65536):(Bz c).map bv=[.int .u8 1,.int .u8 (wrap64 ((c:Int) / 256) % 256),.int .u8 ((c:Int) % 256)]:=by
 have h1:wrap64 ((c:Int) / 256) % 256=((UInt8.ofNat (c / 256)).toNat:Int):=by
  rw[UInt8.toNat_ofNat'];simp only[wrap64];omega
 have h2:(c:Int) % 256=((UInt8.ofNat (c % 256)).toNat:Int):=by
  rw[UInt8.toNat_ofNat'];omega
 rw[h1,h2];rfl
def qrv (b:Nat)(w:World)(d p:Nat)(U:Nat->Prop)(D:DM)(P:Pl)(H0:List Int)(row:List Qg)(m:Nat)(g:Int)(e:Ending)(w':World):Prop:=
 ∃r P' f,e=.returned (.int .i64 r)/\Rf b w w' d p U D P P' r H0 f m g/\f.length<=row.length+60
theorem qet (E:Ed b w d p U D P (Jy root++H0) m g)(hb:1<b)(hT:Zl (P.store D) root row)(hr:Qk row)(hf:∀x∈row,Zr x){L:List (Nat × Int × List Qg)}(hL:Aw (P.store D) L)(d9:∀x∈L,x.2.1∈H0)(hH:∀a∈H0,∃x∈L,x.2.1=a)(a3:H0.length<=10000)(hn:P.C.n=1024)(b2:P.C.first+P.C.kept+2*(row.length+60+(L.map λx=>x.2.2.length).sum)+18<=1024)
  (A:Option Addr) (n c:Nat) (os:List U2) (hO:Au W A n c os) (hW:Below W.1.size W w) (hU:∀k,U k->W.1.size<=k) :
  Calls Tryz.prog 28 #[.pointer (some ⟨p,0,none⟩),.int .i64 root,.slice A n c] w (qrv b w d p U D P H0 row m g):=by
 have e6:=hW.size;have b7:Rf b w w d p U D P P root H0 row m g:=⟨E,hT,hr,hf,.refl _,rfl,λ_ _ _ _ h=>h,Turn.refl _ _⟩;go_enter Tryz.func28,Tryz.ntmps28
 go_wp2_with fail
 go_loopw [1,7] (λrv iv wr=>∃(j:Nat) (r:Int) (Pj:Pl) (Q:List Qg),j<=n/\j<=60/\rv=.int .i64 r/\iv=.int .i64 (j:Int)/\Rf b w wr d p U D P Pj r H0 Q m g/\Q.length<=row.length+j) (λ_ iv _=>60-(intOf iv).toNat)
 case atStart=>exact⟨0,root,P,row,Nat.zero_le _,Nat.zero_le _,rfl,rfl,b7,Nat.le_refl _⟩
 case round=>
  clear b7 E hT hr hf;obtain⟨j,r,Pj,Q,g3,f9,rfl,rfl,C,g4⟩:=hrel;by_cases e9:j<n/\j<60
  ·obtain⟨f2,g0⟩:=e9;have BW:Below W.1.size W wr:=hW.trans (C.turn.below hU e6);obtain⟨ga,o,rfl,hg,hh,hc⟩:=hO.cell f2;obtain⟨x,hx⟩:∃x,opAt os j=x:=⟨_,rfl⟩;rw[hx] at hh hc;obtain⟨c0,c1,c2,c3,c4⟩:=hc wr BW;have e0:(0:Int)<=(j:Int):=by omega
   have e1:(j:Int)<(n:Int):=by omega
   have e2:(j:Int)<60:=by omega
   have g5:=hO.1.2.1;have f3:=hO.1.2.2.1;unfold maxLen at f3;have c7:Aw (Pj.store D) L:=λy hy=>C.old _ _ _ (d9 y hy) (hL y hy)
   have e7:18<=Pj.C.free:=by
    have h1:=C.ed.Qai (X:=[]) (λa ha=>by cases ha) C.tree c7 hH;have h2:=qre C.like C.n;have h3:Pj.C.first=P.C.first:=by unfold Ct.first;rw[C.n]
    have h4:=C.n;simp only[List.length_nil] at h1;omega
   have J:Q.length<1000:=by omega
   have T:∀k,U k->k<wr.1.size:=λk Z=>(C.ed.low k Z).2
   have g2:=hh.few;have f4:=hh.z;replace hx:=Lib.hid hx;clear hc hg b2 hn c7;go_wp2_with (first
    |(refine qj0 rfl _ _ rfl wr.1.size rfl x.z x.k x.V x.q x.c rfl (RB.new wr [.int .i64 0,.int .i64 0,.int .i64 0,.int .i64 0,.slice none 0 0] 133) rfl ?_;intro w4 R4 T4
      have y0:=R4.cell 0 rfl;have y1:=R4.cell 1 rfl;have y2:=R4.cell 2 rfl;have y3:=R4.cell 3 rfl;have y4:=R4.cell 4 rfl)
    |fail)
   have a8:Below wr.1.size wr w4:=(Qn).trans (T4.below (λk Z=>by have:k=wr.1.size:=Z;omega) (by simp));have d2:=Lib.hid (λw=>qh9 x.k x.k.may rfl w);clear T4 c0 c1 c2 c3 c4;refine (d2.out w4).mono ?_;rintro e u ⟨rfl,b5⟩;have M:=R4.below b5 R4.lt;have G:Below wr.1.size wr u:=a8.trans (b5.mono a8.size);have zr:=R4.lt;have z5:=b5.size;clear y0 y1 y2 y3 y4 R4 b5 a8 d2;have y0:=M.cell 0 rfl;have y1:=M.cell 1 rfl;have y2:=M.cell 2 rfl;have y3:=M.cell 3 rfl;have y4:=M.cell 4 rfl
   cases a5:x.k.may with
   |false=>
    have C5:=C.below G;go_wp2_with fail
    exact⟨⟨j+1,r,Pj,Q,by omega,by omega,rfl,by go_num,C5,by omega⟩,by simp[intOf];omega⟩
   |true=>
    have Y:=(hh.sl.below BW).below G;have g7:x.v.length=x.q:=Y.len;have bz:Below u.1.size u (u.alloc (.cells #[] 5)):=Qn;have z4:=(M.below bz M.lt).cell 4 rfl;have hq:28<x.q\/x.q=3\/(x.q<=28/\x.q≠3):=by omega
    rcases hq with hq|hq|⟨hq,g6⟩
    case' inl=>
     have e3:(28:Int)<(x.q:Int):=by omega
     have ev:=qrt (v:=x.v) (by omega);go_wp2_with (first
      |(at_builtin;refine q3y _ Az rfl (.tmp 34) (.tmp 36) rfl u.1.size u.1.size rfl (qa1 u 5) x.V x.q x.c x.v rfl (Y.alloc _) (by omega) (by simp) ?_;intro A6 c6 O f b6
        have F:Below u.1.size u O:=bz.trans (b6.mono (by simp));have R7:=M.below F M.lt;clear y0 y1 y2 y3 y4 z4;have y0:=R7.cell 0 rfl;have c8:=f.sl.cap;have d3:=f.sl.max;unfold maxLen at d3;have f1:(28:Int)<=(c6:Int):=by omega)
      |fail)
     have a4:Sl O A6 28 c6 (Uo x.v):=by rw[ev];exact f.sl.take (by omega)
     have a2:∀k,q01 A6=some k->¬U k:=qbc f λk Z=>by have:=T k Z;have:=G.size;omega
     have b0:∀k,q01 A6=some k->u.1.size<=k:=qh0 f;clear c8 d3 f1 e3 f b6;generalize O=w7 at *
    case' inr.inl=>
     have ev:=qno (v:=x.v) (by omega);rw[hq] at Y;go_wp2_with (first
      |(at_builtin;refine q3y _ Az rfl (.tmp 34) (.tmp 36) rfl u.1.size u.1.size rfl (qa1 u 5) x.V 3 x.c x.v rfl (Y.alloc _) (by omega) (by simp) ?_;intro A6 c6 O f b6
        have b3:Below u.1.size u O:=bz.trans (b6.mono (by simp));obtain⟨gv,rfl,f0,f8⟩:=qz6 f (by omega);obtain⟨q1,q2⟩:=f.at_ 0 (by omega);have F:Below u.1.size u (O.setCell ⟨gv,0,none⟩ (.int .u8 7)):=b3.setCell f0 _;have R7:=M.below F M.lt;clear y0 y1 y2 y3 y4 z4;have y0:=R7.cell 0 rfl;have K:=f.Uj 0 7;have K:Own (O.setCell ⟨gv,0,none⟩ (.int .u8 7)) u.1.size 5 (some ⟨gv,0,none⟩) 3 c6 (x.v.set 0 7):=K)
      |fail)
     have a4:Sl (O.setCell ⟨gv,0,none⟩ (.int .u8 7)) (some ⟨gv,0,none⟩) 3 c6 (Uo x.v):=by rw[ev];exact K.sl
     have a2:∀k,q01 (some ⟨gv,0,none⟩:Option Addr)=some k->¬U k:=λk Z h=>by have:gv=k:=Option.some.inj Z;have:=T k h;have:=G.size;omega
     have b0:∀k,q01 (some ⟨gv,0,none⟩:Option Addr)=some k->u.1.size<=k:=λk Z=>by have:gv=k:=Option.some.inj Z;omega
     clear K q1 q2 f b6 b3;generalize O.setCell ⟨gv,0,none⟩ (.int .u8 7)=w7 at *
    case' inr.inr=>
     have e3:¬(28:Int)<(x.q:Int):=by omega
     have e4:¬(x.q:Int)=3:=by omega
     have ev:=qnp (v:=x.v) (by omega) (by omega);go_wp2_with (first
      |(at_builtin;refine q3y _ Az rfl (.tmp 34) (.tmp 36) rfl u.1.size u.1.size rfl (qa1 u 5) x.V x.q x.c x.v rfl (Y.alloc _) (by omega) (by simp) ?_;intro A6 c6 O f b6
        have F:Below u.1.size u O:=bz.trans (b6.mono (by simp));have R7:=M.below F M.lt;clear y0 y1 y2 y3 y4 z4;have y0:=R7.cell 0 rfl)
      |fail)
     have a4:Sl O A6 x.q c6 (Uo x.v):=by rw[ev];exact f.sl
     have a2:∀k,q01 A6=some k->¬U k:=qbc f λk Z=>by have:=T k Z;have:=G.size;omega
     have b0:∀k,q01 A6=some k->u.1.size<=k:=qh0 f;clear e3 e4 f b6;generalize O=w7 at *
    all_goals (
     have b4:Below wr.1.size wr w7:=G.trans (F.mono G.size);have z7:=F.size;have B:=C.below b4;have I:=q8m x.z 4 f4 (by omega) (by omega);have d4:=qxh x.z (show 0<4 by omega);obtain⟨s,hs⟩:∃s,md x.z 4=s:=⟨_,rfl⟩;rw[hs] at I d4;have I:=Lib.hid I;have d5:=qv3 x.v;refine (I.out w7).mono ?_;rintro e w8 ⟨rfl,rfl⟩;have y1:=R7.cell 1 rfl;have y2:=R7.cell 2 rfl;have y3:=R7.cell 3 rfl;have a0:s=2\/s=3\/s=0\/s=1:=by omega
     clear hs d4;rcases a0 with rfl|rfl|a0
     ·go_wp2_with fail
      refine (I.out w7).mono ?_;rintro e w8 ⟨rfl,rfl⟩;by_cases d0:∃y∈Q,y.k.same x.k=true
      ·have HD:=Lib.hid (B.ed.del (H0:=H0) hb B.tree B.Qk B.fine x.k J a3 d0);go_wp2_with fail
       refine HD.out.mono ?_;rintro e w9 (⟨r',P',rfl,N⟩|⟨_,hf,_⟩)
       case inr=>omega
       have C9:=B.then (N.chg (B.Qk.sublist List.filter_sublist) λy hy=>B.fine y ((List.mem_filter.1 hy).1));have d1:(Ur x.k Q).length<=Q.length:=List.length_filter_le _ _;clear HD N;go_wp2_with fail
       exact⟨⟨j+1,r',P',_,by omega,by omega,rfl,by go_num,C9,by omega⟩,by simp[intOf];omega⟩
      ·have HN:=Lib.hid (B.ed.Qcc (H0:=H0) hb B.tree B.Qk B.fine x.k J a3 d0);go_wp2_with fail
       refine HN.out.mono ?_;rintro e w9 ⟨rfl,b9⟩;have C9:=B.below b9;clear HN;go_wp2_with fail
       exact⟨⟨j+1,r,Pj,Q,by omega,by omega,rfl,by go_num,C9,by omega⟩,by simp[intOf];omega⟩
     ·have e8:=(R7.there 2 (show 2<5 by omega)).2;go_wp2_with fail
      have R8:=qxu R7 3;have b8:Below wr.1.size wr (w7.setCell ⟨wr.1.size,2,none⟩ (.int .i64 3)):=b4.setCell (Nat.le_refl _) _;have b1:=a4.turned' (Dy (S:=λk=>k=wr.1.size) (w:=w7) (a:=⟨wr.1.size,2,none⟩) (.int .i64 3) rfl) λhv g hg h=>by
       have:=b0 g hg;have h:g=wr.1.size:=h;omega
      have C8:=C.below b8;have z8:=b8.size;clear y0 y1 y2 y3 e8;generalize w7.setCell ⟨wr.1.size,2,none⟩ (.int .i64 3)=w8 at R8 b1 C8 z8 b8 ⊢;have HB:=Lib.hid (C8.ed.bytes hb C8.tree (by omega) (by omega) _ _ _ b1 a2);refine HB.out.mono ?_;rintro e w9 ⟨c9,P9,rfl,R⟩;have R9:=R8.turned R.turn (λh=>by have:=T _ h;omega);have y0:=λob=>(R9.below (w':=w9.alloc ob) Qn R9.lt).cell 0 rfl
      clear HB b1;go_wp2_with fail
      refine (I.out _).mono ?_;rintro e d6 ⟨rfl,a9⟩;have g1:=R.small;have a7:Below w9.1.size w9 d6:=by rw[<-a9];exact Qn
      have f5:Sl d6 (some ⟨w9.1.size,0,none⟩) 3 3 (Bz c9):=by
       rw[<-a9];refine qp1 w9 _ (0,0) (Bz c9) _ ?_ (by show 3<=_;omega);rw[qru (by omega)]
      have a6:=R9.below a7 R9.lt;clear y0 a9;have y1:=a6.cell 1 rfl;have y2:=a6.cell 2 rfl;have y3:=a6.cell 3 rfl;have d8:=R.ed.below a7;have z9:=R.turn.size;have a1:Zr ⟨Tv x.k,Bz c9⟩:=⟨qxv a5,by show 3<=28;omega⟩;have f7:=R.free;have HP:=Lib.hid (Ed.put (k:=Tv x.k) (v:=Bz c9) (H0:=H0) (root:=r) (by rw[qxw (by omega)];exact d8) hb R.tree C.Qk C.fine a1 (qzb (by omega) R.dat) J a3 _ _ _ f5 λ_ g hg e5=>by
       have:w9.1.size=g:=Option.some.inj hg;have:=T g e5;omega)
      go_wp2_with fail
      refine HP.out.mono ?_;rintro e f6 (⟨r',P',rfl,N⟩|⟨_,hf,_⟩)
      case inr=>omega
      have d7:Rf b w f6 d p U D P P' r' H0 (Wq (Tv x.k) (Bz c9) false Q) m g:=⟨N.ed,N.tree,q61 C.Qk,λy hy=>by
        rcases q7p C.Qk y hy with rfl|h
        ·exact a1
        ·exact C.fine y h,(C8.like.trans R.like).trans N.like,(N.n.trans R.n).trans C8.n,λl a t ha ht=>N.old l a t ha (R.old l a t (C8.old l a t ha ht)),((C8.turn.trans R.turn λ_ h=>.inl h).trans (Qu a7) λ_ h=>.inl h).trans N.turn λ_ h=>.inl h⟩
      have d1:=q9x (k:=Tv x.k) (v:=Bz c9) C.Qk;clear HP N;go_wp2_with fail
      exact⟨⟨j+1,r',P',_,by omega,by omega,rfl,by go_num,d7,by omega⟩,by simp[intOf];omega⟩
     ·have a1:Zr ⟨x.k,Uo x.v⟩:=⟨a5,d5⟩;have HP:=Lib.hid (Ed.put (k:=x.k) (v:=Uo x.v) (H0:=H0) (root:=r) (by rw[qv4 (qd5 _ _)];exact B.ed) hb B.tree B.Qk B.fine a1 (qla (qd5 _ _)) J a3 _ _ _ a4 λ_=>a2);rcases a0 with rfl|rfl
      all_goals (
       go_wp2_with fail
       refine (I.out w7).mono ?_;rintro e w8 ⟨rfl,rfl⟩;go_wp2_with fail
       refine HP.out.mono ?_;rintro e w9 (⟨r',P',rfl,N⟩|⟨_,hf,_⟩)
       case inr=>omega
       have C9:=B.then (N.chg (q61 B.Qk) λy hy=>by
        rcases q7p B.Qk y hy with rfl|h
        ·exact a1
        ·exact B.fine y h)
       have d1:=q9x (k:=x.k) (v:=Uo x.v) B.Qk;clear HP N;go_wp2_with fail
       exact⟨⟨j+1,r',P',_,by omega,by omega,rfl,by go_num,C9,by omega⟩,by simp[intOf];omega⟩))
  ·have a0:¬j<n\/(j<n/\¬j<60):=by omega
   have e0:(0:Int)<=(j:Int):=by omega
   rcases a0 with h|⟨h,h2⟩
   ·have e1:¬(j:Int)<(n:Int):=by omega
    go_wp2_with fail
    go_ret;exact⟨r,Pj,Q,rfl,C,by omega⟩
   ·have e1:(j:Int)<(n:Int):=by omega
    have e2:¬(j:Int)<60:=by omega
    go_wp2_with fail
    go_ret;exact⟨r,Pj,Q,rfl,C,by omega⟩
end
section
variable {b:Nat}{w w':World}{d p:Nat}{U:Nat->Prop}{D:DM}{P P':Pl}{H H0:List Int}{m:Nat}{g:Int}{root:Int}{its:List Qg}
theorem Ed.Qag (E:Ed b w d p U D P (H++[]) m g):Ed b w d p U D P H m g:=by
 rw[List.append_nil] at E;exact E
theorem qlc (e:Zl (P.store D) root its):0<=root:=by
 rcases e with⟨rfl,rfl⟩|⟨l,_,_,h1,_⟩
 ·omega
 ·omega
theorem Ed.Oc {W:World}(E:Ed b w d p U D P [] m g)(hb:1<b)(hn:P.C.n=1024)(hf:P.C.first=20)(hk:P.C.kept=0)(A:Option Addr)(n c:Nat)(os:List U2)(hO:Au W A n c os)(hW:Below W.1.size W w)(hU:∀k,U k->W.1.size<=k) :
  Calls Tryz.prog 28 #[.pointer (some ⟨p,0,none⟩),.int .i64 0,.slice A n c] w (qrv b w d p U D P [] [] m g):=
 qet (root:=0) (row:=[]) (L:=[]) E hb (.inl ⟨rfl,rfl⟩) List.Pairwise.nil (λx e=>by cases e) (λx e=>by cases e) (λx e=>by cases e) (λa f=>by cases f) (by simp) hn (by simp only[List.length_nil,List.map_nil,List.sum_nil];omega) A n c os hO hW hU
end
