/- The code's share: Step, Drop and Hold of what is named by nobody; the state of a pool of t -/
import Derived.Test.YthkfkhejjmhomaaGreatDoorSealIv1
import Derived.Test.YthkfkhejjmhomaaGreatDoorEs43
import Derived.Test.YthkfkhejjmhomaaGreatDoorEs44
namespace Go.Proofs.YthkfkhejjmhomaaGreatDoor
open Go Go.RowKit Go.Proofs
set_option maxHeartbeats 16000000
set_option maxRecDepth 100000
section
variable {b:Nat}{w:World}{d p:Nat}{S0 S T:Nat->Prop}{D:DM}{P:Pl}
theorem qh1 (H:Qe b w d p S0 S T D P)(I:1<b)(y:Tab w)(x:Int)(h0:P.C.get x=0) :
  Calls Tryz.prog 39 #[.pointer (some ⟨p,0,none⟩),.int .i64 x] w λe w'=>e=.returned (.tuple #[.slice none 0 0,.int .i64 1])/\Below w.1.size w w':=by
 have G:=H.low;have B:=Lib.hid (q1l H.pool x _ h0);have f:¬U9 P [x]:=λh=>by
  have:=h x (List.mem_singleton.2 rfl);rw[h0,List.count_singleton_self] at this;omega
 have O:=Oi w x;have u:Below w.1.size w (w.alloc (.cells #[.int .i64 x] 3)):=Qn;have E:=Lib.hid (q3s (P':=P) (H.below u) I (y.below u y.1) [x] (some ⟨w.1.size,0,none⟩) 1 1 O (by omega) (λk K M=>by
  have:w.1.size=k:=Option.some.inj K;have:=G k M;omega) λh=>absurd h f)
 go_enter Tryz.func39,Tryz.ntmps39
 go_wp2_with fail
 refine B.out.mono ?_;rintro e Q ⟨rfl,rfl⟩;go_wp2_with fail
 refine E.out.mono ?_;rintro e R (⟨J,_⟩|⟨_,rfl,F⟩)
 ·exact absurd J f
 ·have A:=u.trans (F.mono u.size);go_wp2;go_ret2;exact⟨rfl,A⟩
theorem qrw (H:Qe b w d p S0 S T D P)(E:1<b)(G:Tab w)(x:Int)(h0:P.C.get x=0)(A:Option Addr)(c:Nat)(F:Vw w A 1 c [x]) :
  Calls Tryz.prog 82 #[.pointer (some ⟨p,0,none⟩),.slice A 1 c] w λe w'=>e=.returned (.int .i64 1)/\Below w.1.size w w':=by
 have y:=Lib.hid (qh1 H E G x h0);obtain⟨g,o,f,u,I⟩:=q55 F (j:=0) (by omega);subst f;have u:w.cell? ⟨g,o+0,none⟩=some (.int .i64 x):=u;rw[Nat.add_zero] at u;go_enter Tryz.func82,Tryz.ntmps82
 go_wp2_with fail
 go_loopw [11] (λi wr=>i=.int .i64 0/\wr=w) (λ_ _=>0)
 case atStart=>exact⟨rfl,rfl⟩
 case round=>
  obtain⟨rfl,rfl⟩:=hrel;go_wp2_with fail
  refine y.out.mono ?_;rintro e J ⟨rfl,B⟩;go_wp2;go_ret;exact⟨rfl,B⟩
theorem qrx (H:Qe b w d p S0 S T D P)(B:1<b)(u:Tab w)(x:Int)(E:x≠0)(h0:P.C.get x=0) :
  Calls Tryz.prog 35 #[.pointer (some ⟨p,0,none⟩),.int .i64 x] w λe w'=>e=.returned (.int .i64 1)/\Below w.1.size w w':=by
 have f:Below w.1.size w (w.alloc (.cells #[.int .i64 x] 3)):=Qn;have Hd:=Lib.hid (qrw (H.below f) B (u.below f u.1) x h0 _ 1 (Oi w x));go_enter Tryz.func35,Tryz.ntmps35
 go_wp2_with fail
 refine Hd.out.mono ?_;rintro e F ⟨rfl,A⟩;have y:=f.trans (A.mono f.size);go_wp2;go_ret;exact⟨rfl,y⟩
end
section
variable {b:Nat}{w:World}{d p:Nat}{U:Nat->Prop}{D:DM}{P:Pl}{H H0:List Int}{m:Nat}{g:Int}{root:Int}{its:List Qg}
end
def Wn (Ns:List (Int × Nd)):Nat->List Int:=λb=>((Fz Ns (b:Int)).getD Zk).named
def En (out:List Int):Nat->Nat:=λb=>(nm out b).toNat
def q8o (w:World)(g most:Nat):Nat:=sumTo most λb=>match w.cell? ⟨g,b,none⟩ with|some v=>if (intOf v).toNat=0 then 1 else 0|none=>0
def Bf (v:Value):Nat:=match v with|.slice _ n _=>n|_=>0
theorem q3a {w:World}{g most:Nat}{out:List Int}(h:Je w g most most out):q8o w g most=unseen most (En out):=
 q1t λb e=>by rw[(h.at_ e).1];rfl
structure Uk (w0:World)(Ns:List (Int × Nd))(zs:List Int)(most g0 b0 bnd:Nat)(w:World)(A:Option Addr)(c:Nat)(todo out:List Int):Prop where
 row:Qo w b0 3 1 A todo.length c (todo.map iv)
 out_:Je w g0 most most out
 inv:Jv (Wn Ns) zs most (En out) todo
 pos:∀b,b<most->0<=nm out b
 few:todo.length+18*unseen most (En out)<=bnd
 low:Below w0.heap.size w0 w
 g0b:g0<b0/\w0.heap.size<=g0/\b0<=w.heap.size
theorem q4p {Q:World}{Ns:List (Int × Nd)}{zs:List Int}{most u K f:Nat}{w w':World}{A y:Option Addr}{c B L:Nat}{x:Int}{r out:List Int}(H:Uk Q Ns zs most u K f w A c (x::r) out)(Y:x<=0\/(most:Int)<=x)(E:(x::r).length=L)(F:Below w.1.size w w')(R:Qo w' w.1.size 3 1 y (0+(L-1)) B (([]++r).map iv)) :
  (∃(G:Option Addr) (M I:Nat) (e out:List Int),Value.slice y (L-1) B=.slice G I M/\e.length=I/\Uk Q Ns zs most u K f w' G M e out)/\Bf (.slice y (L-1) B)+19*q8o w' u most<Bf (.slice A L c)+19*q8o w u most:=by
 have O:r.length=L-1:=by rw[<-E];rfl
 have W:1<=L:=by rw[<-E];exact Nat.succ_pos _
 have J:Je w' u most most out:=H.out_.keep (F.block _ H.out_.lt);have X:=H.few;rw[E] at X;refine⟨⟨y,B,L-1,r,out,rfl,O,⟨?_,J,qmz H.inv Y,H.pos,by omega,H.low.trans (F.mono H.low.size),⟨H.g0b.1,H.g0b.2.1,Nat.le_trans H.g0b.2.2 F.size⟩⟩⟩,?_⟩
 ·rw[Nat.zero_add,List.nil_append] at R;rw[O];exact R.less H.g0b.2.2
 ·rw[q3a J,q3a H.out_];show L-1+_<L+_;omega
theorem qy0 {out:List Int}{q:Nat}{y:Int}(f:q<out.length)(u:nm out q=y)(h0:0<=y)(b:Nat):En (out.set q (y+1)) b=bump (En out) q b:=by
 unfold En bump;by_cases e:b=q
 ·subst e;rw[if_pos rfl];have:nm (out.set b (y+1)) b=y+1:=by unfold nm;simp[List.getD,f]
  rw[this];show (y+1).toNat=(nm out b).toNat+1;rw[u];omega
 ·rw[if_neg e];have:nm (out.set q (y+1)) b=nm out b:=by unfold nm;simp[List.getD,List.getElem?_set_ne (λh=>e h.symm)]
  rw[this]
theorem q2l {Z:World}{Ns:List (Int × Nd)}{zs:List Int}{most M b0 J:Nat}{w w':World}{A X:Option Addr}{c Y L q E:Nat}{y:Int}{r out ys:List Int}(H:Uk Z Ns zs most M b0 J w A c ((q:Int)::r) out)(a0:0<q)(I:q<most)(hy:nm out q=y)(a1:0<=y)(W:ys=if y=0 then Wn Ns q else [])(hk:(Wn Ns q).length<=18)
  (hL:((q:Int)::r).length=L) (hE:L-1+ys.length=E) (O:Je w' M most most (out.set q (y+1))) (hb:Below Z.1.size Z w') (hz:w.1.size<=w'.1.size) (R:Qo w' w.1.size 3 1 X E Y ((r++ys).map iv)) :
  (∃(A9:Option Addr) (c9 L':Nat) (G out:List Int),Value.slice X E Y=.slice A9 L' c9/\G.length=L'/\Uk Z Ns zs most M b0 J w' A9 c9 G out)/\Bf (.slice X E Y)+19*q8o w' M most<Bf (.slice A L c)+19*q8o w M most:=by
 have hr:r.length=L-1:=by rw[<-hL];rfl
 have a2:1<=L:=by rw[<-hL];exact Nat.succ_pos _
 have ho:out.length=most:=H.out_.len;have hn:=qy0 (out:=out) (q:=q) (by omega) hy a1;have hf:=H.few;rw[hL] at hf;have u:En out q=0↔y=0:=by unfold En;rw[hy];omega
 have F:ys=if En out q=0 then Wn Ns q else []:=by
  rw[W];by_cases e:y=0
  ·rw[if_pos e,if_pos (u.2 e)]
  ·rw[if_neg e,if_neg (λh=>e (u.1 h))]
 have hm:=qn0 H.inv a0 I;rw[<-F] at hm;have B:=qin (K:=Wn Ns) (todo:=r) (out:=En out) I hk;rw[<-F] at B;have f:=qat (out:=En out) I;have hu:unseen most (En (out.set q (y+1)))=unseen most (bump (En out) q):=qga λb _=>hn b
 have hl:(r++ys).length=E:=by rw[List.length_append,hr];exact hE
 refine⟨⟨X,Y,E,r++ys,out.set q (y+1),rfl,hl,⟨?_,O,hm.same (by omega) (λb _=>hn b),λb hb=>?_,?_,hb,⟨H.g0b.1,H.g0b.2.1,Nat.le_trans H.g0b.2.2 hz⟩⟩⟩,?_⟩
 ·rw[hl];exact R.less H.g0b.2.2
 ·by_cases e:b=q
  ·subst e;have:nm (out.set b (y+1)) b=y+1:=by unfold nm;simp[List.getD,show b<out.length by omega]
   rw[this];omega
  ·have:nm (out.set q (y+1)) b=nm out b:=by unfold nm;simp[List.getD,List.getElem?_set_ne (λh=>e h.symm)]
   rw[this];exact H.pos b hb
 ·rw[hu,hl];rw[List.length_append] at B;omega
 ·rw[q3a O,q3a H.out_,hu];show E+_<L+_;have Q:ys.length<=if y=0 then 18 else 0:=by
   rw[W];by_cases e:y=0
   ·rw[if_pos e,if_pos e];exact hk
   ·rw[if_neg e,if_neg e];exact Nat.le_refl _
  by_cases e:y=0
  ·rw[if_pos (u.2 e)] at f;rw[if_pos e] at Q;omega
  ·rw[if_neg (λh=>e (u.1 h))] at f;rw[if_neg e] at Q;omega
theorem qnq {Q:World->Prop}(A:Option Addr)(n c:Nat)(Ns:List (Int × Nd))(B:Option Addr)(m k:Nat)(zs:List Int)(most:Nat)(w:World)(hI:Nw Q w A n c Ns)(hQ:∀w',Below w.1.size w w'->Q w')(hZ:Vw w B m k zs)(hn:n<=100000)(hm:m<=1000)(e9:1<=most)(a9:most<=4096)(hK:∀b,(Wn Ns b).length<=18) :
  Calls Tryz.prog 80 #[.slice A n c,.slice B m k,.int .i64 (most:Int)] w λe w'=>∃g out,e=.returned (.slice (some ⟨g,0,none⟩) most most)/\Je w' g most most out/\Jv (Wn Ns) zs most (En out) []/\(∀b,b<most->0<=nm out b)/\Below w.1.size w w':=by
 have d6:zs.length=m:=by have:=hZ.len;simpa using this
 go_enter Tryz.func80,Tryz.ntmps80
 go_wp2_with (first
  |(at_make;refine qhg rfl _ _ rfl most rfl rfl (by omega) ?_;intro w1 R1 b1;have R0:=q3r w1 3 1;have z1:w.1.size<w1.1.size:=R1.lt;have Y:Below w1.1.size w1 (w1.alloc (.cells #[] 3)):=Qn;have Z1:=(Js.below hZ b1).below Y)
  |(at_builtin;refine q0k rfl _ _ rfl w1.1.size (some ⟨w1.1.size,0,none⟩) 0 0 [] rfl R0 B m k zs rfl Z1 (by omega) Y.size ?_;intro A2 c2 w2 R2 b2)
  |fail)
 have b5:∀b,nm (List.replicate most 0) b=0:=λb=>by
  unfold nm;by_cases hb:b<most
  ·simp[List.getD,hb]
  ·simp[List.getD,hb]
 rw[List.nil_append] at R2;have a7:Below w1.1.size w1 w2:=Y.trans (b2.mono (Nat.le_refl _));have F0:Uk w Ns zs most w.1.size w1.1.size (m+18*most) w2 A2 c2 zs (List.replicate most 0):=⟨by rw[d6];simpa using R2,R1.keep (a7.block _ z1),(qil _ _ _).same e9 (λb _=>by unfold En;rw[b5];rfl),λb _=>by rw[b5];exact Int.le_refl _,by
  have:=qqi most (En (List.replicate most 0));have h2:=Nat.mul_le_mul_left 18 this;omega,b1.trans (a7.mono b1.size),⟨z1,Nat.le_refl _,a7.size⟩⟩
 have g5:m<=1000:=hm;clear R0 Y Z1 R2 b2 R1 a7 b5;go_loopw [8,9,10,11] (λtv _ _ _ wr=>∃(A9:Option Addr) (c9 L:Nat) (J out:List Int),tv=.slice A9 L c9/\J.length=L/\Uk w Ns zs most w.1.size w1.1.size (m+18*most) wr A9 c9 J out) (λtv _ _ _ wr=>Bf tv+19*q8o wr w.1.size most)
 case atStart=>exact⟨A2,c2,m,zs,_,by simp,d6,F0⟩
 case round=>
  clear F0;obtain⟨A9,c9,L,J,out,rfl,hL,H⟩:=hrel;by_cases h0:L=0
  ·subst h0;obtain rfl:J=[]:=List.length_eq_zero_iff.1 hL;go_wp2_with fail
   go_ret;exact⟨w.1.size,out,rfl,H.out_,H.inv,H.pos,H.low⟩
  ·obtain⟨x,r,rfl⟩:∃x r,J=x::r:=by
    cases J with
    |nil=>exact absurd hL.symm (by simpa using h0)
    |cons x r=>exact⟨x,r,rfl⟩
   have e0:(0:Int)<(L:Int):=by omega
   have HS:=H.row.Kt (by omega);rw[hL] at HS;obtain⟨g,o,rfl,hg,_,hr⟩:=HS.at_ (j:=0) (by omega);have a0:wr.cell? ⟨g,o,none⟩=some (.int .i64 x):=by simpa using hr 0 (.int .i64 x) rfl
   have f3:=HS.cap;have f4:=HS.max;obtain⟨A5,c8⟩:∃A5,(if c9=1 then (some ⟨g,o,none⟩:Option Addr) else some ⟨g,o+1,none⟩)=A5:=⟨_,rfl⟩;have H5:Vw wr A5 (L-1) (c9-1) r:=by
    have h1:=HS.drop (k:=1) (by omega);have e1:(if c9=1 then (some ⟨g,o,none⟩:Option Addr) else (some ⟨g,o,none⟩:Option Addr).map (·.add (1*1)))=A5:=c8;rw[e1] at h1;exact h1
   have R4:=q3r wr 3 1;have Y:Below wr.1.size wr (wr.alloc (.cells #[] 3)):=Qn;have a5:Vw (wr.alloc (.cells #[] 3)) A5 (L-1) (c9-1) r:=Js.below H5 Y;have e8:=H.few;rw[hL] at e8;have a3:=Lib.hid hL;clear hL hr HS H5;have zr:w.1.size<wr.1.size:=H.out_.lt;have H0:=Lib.hid H;clear H;by_cases O:x<=0\/(most:Int)<=x
   ·have d4:=Lib.hid O;by_cases e1:x<=0
    ·clear O;go_wp2_with (first
      |(at_builtin;refine q0k rfl _ _ rfl wr.1.size (some ⟨wr.1.size,0,none⟩) 0 0 [] rfl R4 A5 (L-1) (c9-1) r rfl a5 (by omega) Y.size ?_;intro A6 c6 w6 R6 b6)
      |fail)
     exact q4p H0.out d4.out a3.out (Y.trans b6) R6
    ·have e2:(most:Int)<=x:=by omega
     clear O;go_wp2_with (first
      |(at_builtin;refine q0k rfl _ _ rfl wr.1.size (some ⟨wr.1.size,0,none⟩) 0 0 [] rfl R4 A5 (L-1) (c9-1) r rfl a5 (by omega) Y.size ?_;intro A6 c6 w6 R6 b6)
      |fail)
     exact q4p H0.out d4.out a3.out (Y.trans b6) R6
   ·obtain⟨q,rfl⟩:∃q:Nat,x=(q:Int):=⟨x.toNat,by omega⟩;have e1:¬(q:Int)<=0:=by omega
    have e2:¬(most:Int)<=(q:Int):=by omega
    have e3:(0:Int)<=(q:Int):=by omega
    have e4:(q:Int)<(most:Int):=by omega
    have M:q<most:=by omega
    have b4:0<q:=by omega
    obtain⟨y,hy⟩:∃y,nm out q=y:=⟨_,rfl⟩;have f2:0<=y/\y<=100000:=by
     have h1:=H0.out.pos q M;have h2:=qim H0.out.inv (k:=18) (λb _=>hK b) M;unfold En at h2;have h3:18*most<=18*4096:=Nat.mul_le_mul_left 18 a9;omega
    have f7:L<=1000+18*4096:=by
     have h3:18*most<=18*4096:=Nat.mul_le_mul_left 18 a9;omega
    have hw:IntKind.i64.wrap (y+1)=y+1:=IntWalk.i64_in _ (by omega);clear O;go_wp2_with (first
     |(at_builtin;refine q0k rfl _ _ rfl wr.1.size (some ⟨wr.1.size,0,none⟩) 0 0 [] rfl R4 A5 (L-1) (c9-1) r rfl a5 (by omega) Y.size ?_;intro A6 c6 w6 R6 b6;have a1:Below wr.1.size wr w6:=Y.trans b6;have O6:Je w6 w.1.size most most out:=H0.out.out_.keep (a1.block _ zr);obtain⟨o1,o2⟩:=O6.at_ M;rw[hy] at o1)
     |fail)
    have O7:=O6.Uj q (y+1);have T7:Turn (λk=>k=w.1.size) w6 (w6.setCell ⟨w.1.size,q,none⟩ (.int .i64 (y+1))):=Dy (S:=λk=>k=w.1.size) _ rfl;have R7:=R6.turned T7 (λk hk e=>by have h1:=(R6.Qc k hk).1;have e:k=w.1.size:=e;omega);generalize w6.setCell ⟨w.1.size,q,none⟩ (.int .i64 (y+1))=w7 at O7 T7 R7 ⊢;have b9:Below w.1.size w6 w7:=T7.below (λk hk=>by have h:k=w.1.size:=hk;omega) (by have:=a1.size;omega);have R:Below w.1.size w w7:=(H0.out.low.trans (a1.mono H0.out.low.size)).trans b9;have g4:=b9.size;have g3:=a1.size;rw[Nat.zero_add,List.nil_append] at R7;obtain⟨o',b3⟩:∃o',Fz Ns (q:Int)=o':=⟨_,rfl⟩;have b7:=Lib.hid (qxy A n c Ns (q:Int) w7 (hI.below R) hn);rw[b3] at b7;clear o1 o2 O6 R6 T7 b6 a1 a0 R4 Y a5 c8;refine b7.out.mono ?_;rintro e G ⟨A1,n1,c1,B1,m1,d1,rfl,f0,a9,hq,b8⟩;have N9:NB (G.alloc (.cells #[.int .i64 0,.slice none 0 0,.slice none 0 0] 77)) G.1.size 0 none 0 0 none 0 0:=NB.new G _ _ _ _ _ _ _ _;have a8:Below G.1.size G (G.alloc (.cells #[.int .i64 0,.slice none 0 0,.slice none 0 0] 77)):=Qn;have O8:=O7.keep (b8.block _ O7.lt);have f9:out.length=most:=H0.out.out_.len;by_cases d5:y=0
    ·subst d5;have W:nm (out.set q (0+1)) q=1:=by unfold nm;simp[List.getD,show q<out.length by omega]
     cases o' with
     |none=>
      go_wp2_with (first
       |(refine Ub rfl (.tmp 10) (.tmp 44) rfl G.1.size rfl 0 A1 n1 c1 B1 m1 d1 rfl N9 ?_;intro f F X;have I:Turn (λ_=>False) G f:=(Qu (S:=λ_=>False) a8).trans X (λk h=>.inr (by have h:k=G.1.size:=h;omega));have E:Below G.1.size G f:=I.below (λ_ h=>h.elim) (Nat.le_refl _);have K:Je f w.1.size most most (out.set q (0+1)):=O8.keep (E.block _ O8.lt);obtain⟨p1,p2⟩:=K.at_ M;rw[W] at p1;have q0:=F.c0;have q1:=F.c1;have q2:=F.c2)
       |fail)
      have u:Below w7.1.size w7 f:=b8.trans (E.mono b8.size);have Z:=R7.below u;have d8:=u.size;exact q2l (ys:=[]) H0.out b4 M hy (Int.le_refl _) (by unfold Wn;rw[b3,if_pos rfl];rfl) (hK q) a3.out rfl K (R.trans (u.mono R.size)) (by omega) (by rw[List.append_nil];exact Z)
     |some N=>
      go_wp2_with (first
       |(refine Ub rfl (.tmp 10) (.tmp 44) rfl G.1.size rfl N.lvl A1 n1 c1 B1 m1 d1 rfl N9 ?_;intro f F X;have I:Turn (λ_=>False) G f:=(Qu (S:=λ_=>False) a8).trans X (λk h=>.inr (by have h:k=G.1.size:=h;omega));have E:Below G.1.size G f:=I.below (λ_ h=>h.elim) (Nat.le_refl _);have K:Je f w.1.size most most (out.set q (0+1)):=O8.keep (E.block _ O8.lt);obtain⟨p1,p2⟩:=K.at_ M;rw[W] at p1;have q0:=F.c0;have q1:=F.c1;have q2:=F.c2)
       |fail)
      have u:Below w7.1.size w7 f:=b8.trans (E.mono b8.size);have Z:=R7.below u;have d8:=u.size;have a2:Below w.1.size w f:=R.trans (u.mono R.size);have a4:=hq f (hQ f a2);have Hk:=Lib.hid (qik N A1 n1 c1 B1 m1 d1 f a4.1 a4.2 f0 a9);have d3:Wn Ns q=N.named:=by unfold Wn;rw[b3];rfl
      have d0:=hK q;rw[d3] at d0;clear q0 q1 q2 p1 p2 a4 N9 a8 E I X F;refine Hk.out.mono ?_;rintro e g0 ⟨Ak,nk,ck,rfl,Ik,a6⟩;have d2:N.named.length=nk:=by have:=Ik.len;simpa using this
      have e6:=Z.below a6;have g1:=a6.size;have f1:nk<=18:=by omega
      have d9:=Lib.hid d2;clear d2 d0;go_wp2_with (first
       |(at_builtin;refine q0k rfl _ _ rfl wr.1.size A6 (L-1) c6 r rfl e6 Ak nk ck N.named rfl Ik (by omega) (by omega) ?_;intro f5 f6 d7 e7 b0)
       |fail)
      have e5:Je d7 w.1.size most most (out.set q (0+1)):=(K.keep (a6.block _ K.lt)).keep (b0.block _ zr);have g2:=b0.size;have c7:Below w.1.size w d7:=(a2.trans (a6.mono a2.size)).trans (b0.mono (by omega));exact q2l (ys:=N.named) H0.out b4 M hy (Int.le_refl _) (by rw[d3,if_pos rfl]) (hK q) a3.out (by rw[d9.out]) e5 c7 (by omega) e7
    ·have f8:¬y+1=1:=by omega
     have W:nm (out.set q (y+1)) q=y+1:=by unfold nm;simp[List.getD,show q<out.length by omega]
     go_wp2_with (first
      |(refine Ub rfl (.tmp 10) (.tmp 44) rfl G.1.size rfl (o'.getD Zk).lvl A1 n1 c1 B1 m1 d1 rfl N9 ?_;intro f F X;have I:Turn (λ_=>False) G f:=(Qu (S:=λ_=>False) a8).trans X (λk h=>.inr (by have h:k=G.1.size:=h;omega));have E:Below G.1.size G f:=I.below (λ_ h=>h.elim) (Nat.le_refl _);have K:Je f w.1.size most most (out.set q (y+1)):=O8.keep (E.block _ O8.lt);obtain⟨p1,p2⟩:=K.at_ M;rw[W] at p1;have q0:=F.c0;have q1:=F.c1;have q2:=F.c2)
      |fail)
     have u:Below w7.1.size w7 f:=b8.trans (E.mono b8.size);have Z:=R7.below u;have d8:=u.size;exact q2l (ys:=[]) H0.out b4 M hy f2.1 (by rw[if_neg d5]) (hK q) a3.out rfl K (R.trans (u.mono R.size)) (by omega) (by rw[List.append_nil];exact Z)
theorem qd9:∀n,q2y (List.replicate n false)=n
 |0=>rfl
 |n+1=>by
  have:=qd9 n;unfold q2y at this ⊢;rw[List.replicate_succ,List.countP_cons,this];rfl
theorem qvb (n:Nat):U0 (List.replicate n false)=λ_=>false:=by
 funext b
 unfold U0;rw[List.getD_eq_getElem?_getD];by_cases h:b<n
 ·rw[List.getElem?_replicate_of_lt h];rfl
 ·rw[List.getElem?_eq_none (by simp;omega)];rfl
theorem qnr {l:List Int}(h:0<l.length):∃r x,l=r++[x]/\r.length=l.length-1/\l.take (l.length-1)=r/\l[l.length-1]?=some x:=by
 refine⟨l.take (l.length-1),l[l.length-1],?_,by simp,rfl,List.getElem?_eq_getElem (by omega)⟩;have:=List.take_append_drop (l.length-1) l;rw[List.drop_eq_getElem_cons (by omega),show l.length-1+1=l.length by omega,List.drop_length] at this;exact this.symm
theorem qry {Q Q':World->Prop}{w:World}{base n c:Nat}{A:Option Addr}(h:Xt Q w base A n c []):Xt Q' w base A n c []:=by
 obtain⟨e,h1,h2,_⟩:=h;exact⟨e,h1,h2,λj r x _ f=>by simp at f⟩
def qrz (w:World)(R:Int->Nd × Int)(zs:List Int)(e:Ending)(w':World):Prop:=
 ∃O on y u f,e=.returned (.slice O on y)/\on<=2048/\Nw (λv=>Below w'.1.size w' v) w' O on y u/\Xc R zs u f []/\Below w.1.size w w'
theorem qs0 {w:World}{p:Nat}{R:Int->Nd × Int}(H:Src w p R)(ht:Tab w)(B:Option Addr)(m k:Nat)(zs:List Int)(hZ:Vw w B m k zs)(hm:m<=1000) :
  Calls Tryz.prog 81 #[.pointer (some ⟨p,0,none⟩),.slice B m k] w (qrz w R zs):=by
 have hG:=ht.1;have bo:Below w.1.size w (w.alloc (.cells #[] 218)):=Qn;have o1:=qo1 (λv=>Turn (λ_=>True) (w.alloc (.cells #[] 218)) v) w;go_enter Tryz.func81,Tryz.ntmps81
 go_wp2_with (first
  |(at_make;refine qeq rfl _ _ rfl 2048 rfl rfl (by omega) ?_;intro w2 s2 b2
    have z2:=b2.size;have B2:=bo.trans (b2.mono bo.size);have o2:=o1.below b2;have l2:=hZ.below B2;have ol:=q3r w2 3 1;have b9:Below w2.1.size w2 (w2.alloc (.cells #[] 3)):=Qn)
  |(at_builtin;refine q0k rfl _ _ rfl w2.1.size _ 0 0 [] rfl ol B m k zs rfl (Js.below l2 b9) (by omega) (by simp) ?_;intro A3 c3 w3 Z b3)
  |fail)
 rw[List.nil_append,Nat.zero_add] at Z;have d9:(w.alloc (.cells #[] 218)).1.size=w.1.size+1:=by simp
 rw[d9] at s2 z2;have a2:Below w2.1.size w2 w3:=b9.trans (b3.mono (by simp));have z3:=a2.size;have d7:=s2.lt;have N3:Yz w.1.size (w.1.size+1) w3 A3 m c3 zs (some ⟨w.1.size,0,none⟩) 0 0 [] (List.replicate 2048 false) (λ_=>False):=by
  refine⟨Z.less (by omega),λk hk=>?_,qry (o2.below a2),λk hk=>⟨?_,λh=>h⟩,s2.keep (a2.block _ d7),⟨by omega,λh=>h⟩,λk h=>h.elim,by omega⟩
  ·have h1:=(Z.Qc k hk).1;refine⟨by omega,λh=>h,λh=>?_⟩;have:w.1.size=k:=Option.some.inj h;omega
  ·have:w.1.size=k:=Option.some.inj hk;omega
 have I3:Xc R zs [] (U0 (List.replicate 2048 false)) zs:=by rw[qvb];exact qj1 R zs
 have f5:=qd9 2048;have g9:zs.length=m:=N3.len;have B3:Below w.1.size w w3:=B2.trans (a2.mono (by omega));have t3:Tab w3:=ht.below B3 hG;generalize List.replicate 2048 false=e3 at N3 I3 f5;clear o1 o2 l2 ol b9 b3 Z b2 s2 z2 B2 a2 z3 d7 bo d9 hZ;go_loopw [5,7,8,9,10,11] (λov tv _ _ _ _ wr=>∃(A O:Option Addr) (n c on oc:Nat) (W:List Int) (Ns:List (Int × Nd)) (X:List Bool) (Dt:Nat->Prop),tv=.slice A n c/\ov=.slice O on oc/\Yz w.1.size (w.1.size+1) wr A n c W O on oc Ns X Dt/\Xc R zs Ns (U0 X) W/\n+13*q2y X<=30000/\on+q2y X<=2048/\Below w.1.size w wr/\Tab wr) (λ_ tv _ _ _ _ wr=>lenV tv+13*qj6 wr (w.1.size+1))
 case atStart=>exact⟨A3,_,m,c3,0,0,zs,[],e3,_,rfl,rfl,N3,I3,by omega,by omega,B3,t3⟩
 case round=>
  obtain⟨A,O,n,c,on,oc,W,Ns,X,Dt,rfl,rfl,N,I,g6,c7,Br,tr⟩:=hrel;have y:=q1u N.Xh;by_cases hn:0<n
  ·have a4:=N.len;obtain⟨r,x,f4,j0,a1,a3⟩:=qnr (l:=W) (by omega);obtain⟨g,o,hA,hg,f8,F⟩:=N.Qau.2.2.2 (n-1) [.int .i64 x] (by rw[List.getElem?_map,<-a4,a3];rfl);subst hA;have G:=F 0 _ rfl;rw[Nat.mul_one,Nat.add_zero] at G;have e7:(0:Int)<(n:Int):=by omega
   have j8:IntKind.i64.wrap ((n:Int)-1)=((n-1:Nat):Int):=by rw[show (n:Int)-1=((n-1:Nat):Int) by omega];exact IntWalk.i64_in _ (by omega)
   have g0:=N.Qau.cap;have f1:=N.Qau.max;unfold maxLen at f1;have i3:(0:Int)<=((n-1:Nat):Int):=by omega
   have i4:((n-1:Nat):Int)<(n:Int):=by omega
   have i5:((n-1:Nat):Int)<=(c:Int):=by omega
   have j7:r.length=n-1:=by omega
   have ir:Vw wr (some ⟨g,o,none⟩) (n-1) c r:=by
    have:=Js.take N.Qau (k:=n-1) (by omega);rw[<-List.map_take,<-a4,a1] at this;rw[<-a4];exact this
   have bl:Below wr.1.size wr (wr.alloc (.cells #[] 3)):=Qn;have ol:=q3r wr 3 1;have i6:n-1<=30000:=by omega
   rw[f4] at I;replace y:=Lib.hid y;clear F f8 a3 a1;by_cases f6:x<=0
   ·have I4:=q8n I (.inl f6);go_wp2_with (first
     |(at_builtin;refine q0k rfl _ _ rfl wr.1.size _ 0 0 [] rfl ol (some ⟨g,o,none⟩) (n-1) c r rfl (Js.below ir bl) (by omega) (by simp) ?_;intro A4 c4 w4 f b4
       rw[List.nil_append,Nat.zero_add] at f;have u:Below wr.1.size wr w4:=bl.trans (b4.mono (by simp));have Y:=N.newRow u f;have B4:=Br.trans (u.mono Br.size);have t4:=tr.below u tr.1)
     |fail)
    exact⟨⟨A4,O,n-1,c4,on,oc,r,Ns,X,Dt,rfl,rfl,Y,I4,by omega,c7,B4,t4⟩,by rw[q1u Y.Xh,y.out];show n-1+13*_<n+13*_;omega⟩
   by_cases f7:2048<=x
   ·have I4:=q8n I (.inr (.inl f7));go_wp2_with (first
     |(at_builtin;refine q0k rfl _ _ rfl wr.1.size _ 0 0 [] rfl ol (some ⟨g,o,none⟩) (n-1) c r rfl (Js.below ir bl) (by omega) (by simp) ?_;intro A4 c4 w4 f b4
       rw[List.nil_append,Nat.zero_add] at f;have u:Below wr.1.size wr w4:=bl.trans (b4.mono (by simp));have Y:=N.newRow u f;have B4:=Br.trans (u.mono Br.size);have t4:=tr.below u tr.1)
     |fail)
    exact⟨⟨A4,O,n-1,c4,on,oc,r,Ns,X,Dt,rfl,rfl,Y,I4,by omega,c7,B4,t4⟩,by rw[q1u Y.Xh,y.out];show n-1+13*_<n+13*_;omega⟩
   obtain⟨q,rfl⟩:=Int.eq_ofNat_of_zero_le (show 0<=x by omega);have hq:q<2048:=by omega
   have i8:(0:Int)<=(q:Int):=by omega
   have i9:(q:Int)<2048:=by omega
   cases a5:U0 X q with
   |true=>
    have I4:=q8n I (.inr (.inr (by rw[Int.toNat_natCast];exact a5)));go_wp2_with (first
     |(at_builtin;refine q0k rfl _ _ rfl wr.1.size _ 0 0 [] rfl ol (some ⟨g,o,none⟩) (n-1) c r rfl (Js.below ir bl) (by omega) (by simp) ?_;intro A4 c4 w4 f b4
       rw[List.nil_append,Nat.zero_add] at f;have u:Below wr.1.size wr w4:=bl.trans (b4.mono (by simp));have Y:=N.newRow u f;have B4:=Br.trans (u.mono Br.size);have t4:=tr.below u tr.1;have a8:=(Y.Xh.at_ hq).1;rw[show X.getD q false=true from a5] at a8)
     |fail)
    exact⟨⟨A4,O,n-1,c4,on,oc,r,Ns,X,Dt,rfl,rfl,Y,I4,by omega,c7,B4,t4⟩,by rw[q1u Y.Xh,y.out];show n-1+13*_<n+13*_;omega⟩
   |false=>
    go_wp2_with (first
     |(at_builtin;refine q0k rfl _ _ rfl wr.1.size _ 0 0 [] rfl ol (some ⟨g,o,none⟩) (n-1) c r rfl (Js.below ir bl) (by omega) (by simp) ?_;intro A4 c4 w4 f b4
       rw[List.nil_append,Nat.zero_add] at f;have u:Below wr.1.size wr w4:=bl.trans (b4.mono (by simp));have Y:=N.newRow u f;have B4:=Br.trans (u.mono Br.size);have t4:=tr.below u tr.1;obtain⟨a8,e6⟩:=Y.Xh.at_ hq;rw[show X.getD q false=false from a5] at a8)
     |fail)
    have N5:=Y.see q;have B5:Below w.1.size w (w4.setCell ⟨w.1.size+1,q,none⟩ (.bool true)):=B4.setCell (by show w.1.size<=w.1.size+1;omega) _;have t5:Tab (w4.setCell ⟨w.1.size+1,q,none⟩ (.bool true)):=ht.below B5 hG;have i0:X.length=2048:=Y.Xh.len;have d0:=Lib.hid (qd6 (bs:=X) (q:=q) (by omega) a5);have c8:=Lib.hid (qv7 (bs:=X) (q:=q) (by omega));have HN:=Lib.hid (H.node _ B5 t5 (q:Int));clear a8 e6 N Y B4 t4 Br tr u f b4 ir bl ol G;generalize w4.setCell ⟨w.1.size+1,q,none⟩ (.bool true)=w5 at N5 B5 t5 HN ⊢;obtain⟨M,E,hR⟩:∃M E,R (q:Int)=(M,E):=⟨_,_,rfl⟩;rw[hR] at HN;dsimp only at HN;have K:=H.may (q:Int);rw[hR] at K;dsimp only at K;have b1:=B5.size;go_wp2_with fail
    refine HN.out.mono ?_;rintro e w6 ⟨A6,n6,c6,B6,Q,d6,rfl,i7,i2,d3,a7,b6⟩;have f9:=b6.size;by_cases hE:E=0
    ·subst hE;replace K:=K rfl;have g2:=qnn K;have e8:M.kids.length=Q:=by have:=Qo.len a7 (by omega);rwa [List.length_map] at this
     have d8:on<=100000:=by omega
     obtain⟨J,a9⟩:∃v,w6.alloc (.cells #[.int .i64 M.lvl,.slice A6 n6 c6,.slice B6 Q d6] 77)=v:=⟨_,rfl⟩;have ba:Below w6.1.size w6 J:=by rw[<-a9];exact Qn
     have e2:J.1.size=w6.1.size+1:=by rw[<-a9];simp
     have R6:RB J w6.1.size [.int .i64 M.lvl,.slice A6 n6 c6,.slice B6 Q d6]:=by rw[<-a9];exact⟨_,heap_alloc_new w6 _⟩
     have b7:Below w5.1.size w5 J:=b6.trans (ba.mono f9);have N6:=N5.node b7;have D6:∀v,Dq (λk=>Dt k\/(w5.1.size<=k/\k<J.1.size)) J v->Turn (λk=>k<w5.1.size) J v:=λv hv=>qit hv λk h1 h2=>.inr ⟨h1,h2⟩
     have F6:∀v,Dq (λk=>Dt k\/(w5.1.size<=k/\k<J.1.size)) J v->RB v w6.1.size [.int .i64 M.lvl,.slice A6 n6 c6,.slice B6 Q d6]/\Jt v w5.1.size A6 n6 c6 M.items/\Qo v w5.1.size 148 4 B6 Q d6 (M.kids.map Qm.vs):=λv hv=>
      ⟨R6.turned (D6 v hv) (by omega),(d3.below ba).low (D6 v hv) λk h=>h,(a7.below ba).turned (D6 v hv) λk hk h=>by have:=(a7.Qc k hk).1;have:k<w5.1.size:=h;omega⟩
     generalize g5:(λk=>Dt k\/(w5.1.size<=k/\k<J.1.size))=a0 at N6 D6 F6;have bq:Below J.1.size J (J.alloc (.cells #[.int .i64 (q:Int),.int .i64 M.lvl,.slice A6 n6 c6,.slice B6 Q d6] 218)):=Qn;have l7:=qy7 J (q:Int) M.lvl A6 n6 c6 B6 Q d6;rw[e2] at l7;have d5:Ld (Dq a0 (J.alloc (.cells #[.int .i64 (q:Int),.int .i64 M.lvl,.slice A6 n6 c6,.slice B6 Q d6] 218))) (Fv q M.lvl A6 n6 c6 B6 Q d6) ((q:Int),M):=
      ⟨A6,n6,c6,B6,Q,d6,rfl,by omega,by omega,λv hv=>⟨(F6 v (qes bq hv)).2.1.J5,(F6 v (qes bq hv)).2.2.Kt (by omega)⟩⟩
     have N7:=N6.below bq;have z7:w.1.size<=(J.alloc (.cells #[.int .i64 (q:Int),.int .i64 M.lvl,.slice A6 n6 c6,.slice B6 Q d6] 218)).1.size:=N7.Tf;have y0:=R6.cell 0 rfl;have y1:=R6.cell 1 rfl;have y2:=R6.cell 2 rfl;go_wp2_with (first
      |(at_builtin;refine qer rfl _ _ rfl w.1.size O on oc Ns rfl N7.out_ _ 1 ((q:Int),M) _ rfl l7 d5 d8 z7 ?_;intro O8 e0 w8 b5 T8 d4
        have N8:=N7.found b5 T8 d4;have Q8:Dq a0 J w8:=(Qu bq).then (T8.mono λk hk hd=>(N7.outA k hk).2 hd);clear y0 y1 y2)
      |fail)
     have B8:Below w.1.size w w8:=((B5.trans (b7.mono b1)).trans (bq.mono (by omega))).trans (T8.below (λk hk=>(N7.out_.Qc k hk).1) z7);have I8:=qnm (q:=q) I a5 hR;rw[<-c8.out] at I8;have a6:=Lib.hid d0.out;have g4:=e2;clear T8 l7 d5 N7 bq z7 N6 b7 R6 N5 d3 a7 b6 a9 ba HN B5 t5 I d0 c8 D6 b5 d4;generalize Ns++[((q:Int),M)]=d1 at N8 I8;generalize X.set q true=d2 at N8 I8 a6;go_loopw [7,11] (λtv iv wx=>∃(A:Option Addr) (n2 c2 i:Nat),i<=Q/\tv=.slice A n2 c2/\iv=.int .i64 (i:Int)/\Yz w.1.size (w.1.size+1) wx A n2 c2 (r++(M.kids.take i).map (·.a)) O8 (on+1) e0 d1 d2 a0/\Dq a0 J wx/\Below w.1.size w wx) (λ_ iv _=>Q-(intOf iv).toNat)
     case atStart=>exact⟨A4,n-1,c4,0,Nat.zero_le _,rfl,rfl,by rw[List.take_zero];simpa using N8,Q8,B8⟩
     case round=>
      obtain⟨A9,n9,c9,i,hi,rfl,rfl,N9,Q9,B9⟩:=hrel;obtain⟨R9,_,K9⟩:=F6 _ Q9;have y2:=R9.cell 2 rfl;by_cases i1:i<Q
      ·have e7:(i:Int)<(Q:Int):=by omega
       obtain⟨g1,o1,e5,g7,_,F⟩:=(K9.Kt (by omega)).2.2.2 i (M.kids[i]'(by omega)).vs (by rw[List.getElem?_map,List.getElem?_eq_getElem (by omega)];rfl);have G:=F 3 _ rfl;subst e5;obtain⟨x9,b0⟩:∃x,M.kids[i]'(by omega)=x:=⟨_,rfl⟩;rw[b0] at G;replace b0:M.kids[i]?=some x9:=by rw[List.getElem?_eq_getElem (by omega),b0]
       have f2:n9<=900000:=by have:=N9.len;simp at this;omega
       have g8:(0:Int)<=(i:Int):=by omega
       have l9:=Oi wr x9.a;have bl:Below wr.1.size wr (wr.alloc (.cells #[.int .i64 x9.a] 3)):=Qn;have L9:=N9.below bl;have z9:=L9.Tf;have j9:IntKind.i64.wrap ((i:Int)+1)=((i+1:Nat):Int):=IntWalk.i64_in _ (by omega);go_wp2_with (first
        |(at_builtin;refine qbv rfl _ _ rfl w.1.size A9 n9 c9 _ rfl L9.row _ 1 x9.a rfl l9 f2 z9 ?_;intro A1 c1 w1 e1 T1 e4
          have N1:=L9.push e1 T1 e4;have Q1:=Q9.then ((Qu (S:=λk=>¬a0 k) bl).then (T1.mono λk hk hd=>(L9.rowA k hk).2.1 hd));have B1:=(B9.trans (bl.mono N9.Tf)).trans (T1.below (λk hk=>(L9.row.Qc k hk).1) z9))
        |fail)
       have a1:r++(M.kids.take (i+1)).map (·.a)=(r++(M.kids.take i).map (·.a))++[x9.a]:=by rw[List.take_add_one,b0];simp
       exact⟨⟨A1,n9+1,c1,i+1,by omega,rfl,by go_num,by rw[a1];exact N1,Q1,B1⟩,by simp[intOf];omega⟩
      ·obtain rfl:i=Q:=by omega
       have a1:M.kids.take i=M.kids:=List.take_of_length_le (by omega);rw[a1] at N9;have f0:=N9.len;rw[List.length_append,List.length_map,e8] at f0;have g3:=a6.out;go_wp2_with fail
       exact⟨⟨A9,O8,n9,c9,on+1,e0,_,d1,d2,a0,rfl,rfl,N9,I8,by omega,by omega,B9,ht.below B9 hG⟩,by rw[q1u N9.Xh,y.out];show n9+13*_<n+13*_;omega⟩
    ·have I6:=qrp (q:=q) I (by rw[hR];exact hE);rw[<-c8.out] at I6;go_wp2_with fail
     have b8:Below w5.1.size w5 (w6.alloc (.cells #[.int .i64 M.lvl,.slice A6 n6 c6,.slice B6 Q d6] 77)):=b6.alloc b6.size _;have N6:=N5.below b8;have a6:=d0.out;exact⟨⟨A4,O,n-1,c4,on,oc,r,Ns,_,Dt,rfl,rfl,N6,I6,by omega,by omega,B5.trans (b8.mono b1),t5.below b8 t5.1⟩,by rw[q1u N6.Xh,y.out];show n-1+13*_<n+13*_;omega⟩
  ·obtain rfl:n=0:=by omega
   have e9:W=[]:=List.eq_nil_of_length_eq_zero N.len;subst e9;have f3:on<=2048:=by omega
   go_wp2_with fail
   go_ret;refine⟨O,on,oc,Ns,U0 X,rfl,f3,(N.out_.mono λv hv=>?_).anl,I,Br⟩;exact (Qu (S:=λk=>¬Dt k) hv)
theorem qj8 {zs H:List Int}{n:Nat}(f:∀a:Nat,0<a->a<n->zs.count (a:Int)=H.count (a:Int)):∀a:Nat,0<a->a<n->(a:Int)∈H->(a:Int)∈zs:=λb h1 h2 e=>List.count_pos_iff.1 (by rw[f b h1 h2];exact List.count_pos_iff.2 e)
section
variable {b:Nat}{w:World}{d p:Nat}{U:Nat->Prop}{D:DM}{P:Pl}{H:List Int}{m:Nat}{g:Int}{zs:List Int}
theorem Ed.Qbs (E:Ed b w d p U D P H m g)(hn:P.C.n=1024)(hc:∀a:Nat,0<a->a<P.C.n->zs.count (a:Int)=H.count (a:Int))(B:Option Addr)(k kc:Nat)(hZ:Vw w B k kc zs)(hk:k<=1000) :
  Calls Tryz.prog 32 #[.pointer (some ⟨p,0,none⟩),.slice B k kc] w λe w'=>e=.returned (.bool true)/\Below w.1.size w w':=by
 obtain⟨_,_,K⟩:=E.keep;have a3:=E.tab;have Hn:=Lib.hid (qs0 E.src E.tab B k kc zs hZ hk);have HC:=Lib.hid (λ(w':World) (hb:Below w.1.size w w') (a:Nat)=>(E.below hb).count (a:Int));go_enter Tryz.func32,Tryz.ntmps32
 go_wp2_with fail
 refine Hn.out.mono ?_;rintro e w2 ⟨O,on,oc,Ns,a1,rfl,a2,hI,X,Q⟩;have Hr:=Lib.hid (qnq O on oc Ns B k kc zs 1024 w2 hI (λw' h=>h) (hZ.below Q) (by omega) hk (by omega) (by omega) (qj5 K X (qj8 hc)));have y:=Lib.hid (λout (h1:Jv (Wn Ns) zs 1024 (En out) []) (h2:∀b,b<1024->0<=nm out b) a (ha:a<1024)=>show nm out a=P.C.get (a:Int) from by
  rw[<-hn] at h1 ha;have:=qj4 K X hc h1 a ha;rw[<-this];unfold En;have:=h2 a (by omega);omega)
 clear hI X;go_wp2_with fail
 refine Hr.out.mono ?_;rintro e w1 ⟨R,out,rfl,Os,HN,hp,b1⟩;have A:=Lib.hid (y.out out HN hp);have bb:=Q.trans (b1.mono Q.size);clear HN hp y Hr;go_wp2_with fail
 go_loopw [6] (λi wr=>∃j:Nat,j<=1024/\i=.int .i64 (j:Int)/\Below w1.1.size w1 wr) (λi _=>1024-(intOf i).toNat)
 case atStart=>exact⟨0,Nat.zero_le _,rfl,Below.refl _ _⟩
 case round=>
  obtain⟨j,hj,rfl,I⟩:=hrel;have J:=bb.trans (I.mono bb.size);have zr:=I.size;by_cases G:j<1024
  ·have F:R<w1.1.size:=Os.lt;obtain⟨x,Z⟩:∃x,P.C.get (j:Int)=x:=⟨_,rfl⟩;have M:=(Os.at_ G).1;rw[A.out j G,Z] at M;have d0:∀u:Grown wr,u.to.cell? ⟨R,j,none⟩=some (.int .i64 x):=λu=>Grown.cell ((I.cell (p:=⟨R,_,none⟩) F).trans M) (Nat.lt_of_lt_of_le F zr) u
   have f:=λu:Grown wr=>HC.out u.to (J.trans (u.ok.mono J.size)) j
   rw[Z] at f;have Y:=Lib.hid f;have nG:(x != x)=false:=by simp
   have e0:(0:Int)<=(j:Int):=by omega
   have e1:(j:Int)<1024:=by omega
   clear M f Z;go_wp2_with fail
   refine Ua (by kernel_rfl) (by kernel_rfl) ?_;repeat (go_big_quiet_step (first|(go_at_call 38;exact Calls.J7 (Y.out _))|fail))
   refine wpQuiet_nil ?_;rintro _ ⟨u,rfl⟩;have W:=I.trans (u.ok.mono zr);clear d0;go_wp2;exact⟨⟨j+1,by omega,by go_num,W⟩,by simp[intOf];omega⟩
  ·obtain rfl:1024=j:=by omega
   go_wp2_with fail
   go_ret;exact⟨rfl,J⟩
end
theorem qeu {root:Int}(a:Nat)(e:0<a):([root]:List Int).count (a:Int)=(Jy root).count (a:Int):=by
 unfold Jy;by_cases h:root=0
 ·subst h;rw[if_pos rfl];exact List.count_eq_zero_of_not_mem λh=>by have:=List.mem_singleton.1 h;omega
 ·rw[if_neg h]
section
variable {b:Nat}{w w':World}{d p:Nat}{U:Nat->Prop}{D:DM}{P P':Pl}{H H0:List Int}{m:Nat}{g:Int}{root:Int}{its:List Qg}
theorem Ed.Qbu (E:Ed b w d p U D P H m g)(hb:1<b)(x:Int)(hx:x≠0)(h0:P.C.get x=0) :
  Calls Tryz.prog 29 #[.pointer (some ⟨p,0,none⟩),.int .i64 x] w λe w'=>e=.returned (.int .i64 1)/\Ed b w' d p U D P H m g/\Turn U w w':=by
 obtain⟨B,F,G,J,K,A⟩:=E.sys;have u:P.C.Yg x=1:=by unfold Ct.Yg;rw[if_pos h0]
 have I:P.C.ref x=P.C:=by unfold Ct.ref;rw[u];rfl
 refine (qgx J hb E.tab x hx).mono ?_;rintro e w' ⟨rfl,f,X,M⟩;rw[I] at f;rw[u];exact⟨rfl,⟨⟨B,F,G,f,K,A⟩,λk y=>⟨(E.low k y).1,by have:=(E.low k y).2;have:=X.size;omega⟩,M,E.keep,E.Xw,E.gen⟩,X.mono A⟩
theorem Ed.Qb2 (E:Ed b w d p U D P H m g)(hb:1<b)(x:Int)(h0:P.C.get x=0) :
  Calls Tryz.prog 39 #[.pointer (some ⟨p,0,none⟩),.int .i64 x] w λe w'=>e=.returned (.tuple #[.slice none 0 0,.int .i64 1])/\Below w.1.size w w':=by
 obtain⟨u,y,A,f,B,F⟩:=E.sys;exact qh1 f hb E.tab x h0
theorem Ed.Qbq (E:Ed b w d p U D P H m g)(hb:1<b)(x:Int)(hx:x≠0)(h0:P.C.get x=0) :
  Calls Tryz.prog 35 #[.pointer (some ⟨p,0,none⟩),.int .i64 x] w λe w'=>e=.returned (.int .i64 1)/\Below w.1.size w w':=by
 obtain⟨u,y,A,f,B,F⟩:=E.sys;exact qrx f hb E.tab x hx h0
end
