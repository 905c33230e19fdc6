/- The code's edit: top -/
import Derived.Test.YthkfkhejjmhomaaGreatDoorDb33
namespace Go.Proofs.YthkfkhejjmhomaaGreatDoor
open Go Go.RowKit Go.Proofs
set_option maxHeartbeats 8000000
set_option maxRecDepth 100000
theorem qhy {S:Nat->Prop}{w:World}(y:∀k,S k->k<w.1.size){Q:World->Prop}(s:Qs){A B:Option Addr}{n c m d:Nat}(h:Jf Q s.N A n c B m d)(t:TypeId):∀u,Turn S (w.alloc (.cells #[.int .i64 s.N.lvl,.slice A n c,.slice B m d,.int .i64 s.addr,.int .i64 (s.next:Int),.bool s.held,.bool s.shared] t)) u->Ve Q u (some ⟨w.1.size,0,none⟩) 1 1 [s]:=λu F=>by
 have h0:Jq (w.alloc (.cells #[.int .i64 s.N.lvl,.slice A n c,.slice B m d,.int .i64 s.addr,.int .i64 (s.next:Int),.bool s.held,.bool s.shared] t)) 7 (some ⟨w.1.size,0,none⟩) 1 1 [Eb s A n c B m d]:=(q1i w t 7 (Eb s A n c B m d) _ rfl rfl).Uo (by omega);refine⟨_,q58 h0 F (λk e E=>by injection e with e;have e:w.1.size=k:=e;have:=y k E;omega),rfl,λj r x f G=>?_⟩
 cases j with
 |zero=>
  obtain rfl:=Option.some.inj f;obtain rfl:=Option.some.inj G;exact⟨_,_,_,_,_,_,rfl,h⟩
 |succ j=>simp at f
def Qbm (r:Option Int):Int:=match r with
 |some _=>0
 |none=>6
section
variable {b:Nat}{w:World}{d p:Nat}{S0 S T:Nat->Prop}{D:DM}{P P':Pl}
theorem quc (H:Qg b w d p S0 S T D P)(hb:1<b)(ht:Tab w)(hP:P.tidy)(s:Qs)(A:Option Addr)(n c:Nat)(B:Option Addr)(m K:Nat)(hs:Jf (Turn S w) s.N A n c B m K)(N:Nd)(R:Option Addr)(Z c2:Nat)(U:Option Addr)(X W:Nat)(hB:Jf (Turn S w) N R Z c2 U X W)(a7:N.fit)(b7:N.size<=40)(hl:0<=N.lvl/\N.lvl<8){r:Option Int}(f:P.top s N=some (P',r)) :
  Calls Tryz.prog 189 #[tv p,Vf s A n c B m K,Xw N.lvl R Z c2 U X W] w λe w'=>∃v,e=.returned (.tuple #[.int .i64 v,.int .i64 (Qbm r)])/\(∀a,r=some a->v=a)/\Qg b w' d p S0 S T D P'/\Turn S w w'/\Tab w'/\P'.tidy:=by
 obtain⟨G,E,F,hd,I⟩:=s;have hS:=H.low;have c8:=hB.hn;have c6:=hB.hm;have lm:=hB.lm;have b3:Below w.1.size w (((w.alloc (.cells #[.pointer (some ⟨p,0,none⟩)] 173)).alloc (.cells (Jb G.lvl A n c B m K E (F:Int) hd I).toArray 180)).alloc (.cells #[.int .i64 N.lvl,.slice R Z c2,.slice U X W] 178)):=((Qk).alloc (by simp) _).alloc (by simp;omega) _;have T1:RB (((w.alloc (.cells #[.pointer (some ⟨p,0,none⟩)] 173)).alloc (.cells (Jb G.lvl A n c B m K E (F:Int) hd I).toArray 180)).alloc (.cells #[.int .i64 N.lvl,.slice R Z c2,.slice U X W] 178)) w.1.size [.pointer (some ⟨p,0,none⟩)]:=(RB.new w [.pointer (some ⟨p,0,none⟩)] 173).below ((Qk).alloc (by simp) _) (by simp);have X1:RB (((w.alloc (.cells #[.pointer (some ⟨p,0,none⟩)] 173)).alloc (.cells (Jb G.lvl A n c B m K E (F:Int) hd I).toArray 180)).alloc (.cells #[.int .i64 N.lvl,.slice R Z c2,.slice U X W] 178)) (w.1.size+1) (Jb G.lvl A n c B m K E (F:Int) hd I):=by
  have:=RB.new (w.alloc (.cells #[.pointer (some ⟨p,0,none⟩)] 173)) (Jb G.lvl A n c B m K E (F:Int) hd I) 180;rw[World.size_alloc] at this;exact this.below (Qk) (by simp)
 have N1:NB (((w.alloc (.cells #[.pointer (some ⟨p,0,none⟩)] 173)).alloc (.cells (Jb G.lvl A n c B m K E (F:Int) hd I).toArray 180)).alloc (.cells #[.int .i64 N.lvl,.slice R Z c2,.slice U X W] 178)) (w.1.size+1+1) N.lvl R Z c2 U X W:=by
  have:=NB.new2 (w.alloc (.cells #[.pointer (some ⟨p,0,none⟩)] 173)) (.cells (Jb G.lvl A n c B m K E (F:Int) hd I).toArray 180) N.lvl R Z c2 U X W 178;rwa [World.size_alloc] at this
 unfold Pl.top at f;unfold tv Vf Xw;dsimp only;unfold Jb at b3 T1 X1 N1;have c0:=N1.c0;have c1:=N1.c1;have a2:=N1.c2;have y0:=T1.cell 0 rfl;have x0:=X1.cell 0 rfl;have x1:=X1.cell 1 rfl;have x2:=X1.cell 2 rfl;have x3:=X1.cell 3 rfl;have x4:=X1.cell 4 rfl;have x5:=X1.cell 5 rfl;have x6:=X1.cell 6 rfl;by_cases h1:N.kids.length=1
 ·rw[if_pos h1] at f;obtain⟨M,hv,e⟩:=Option.map_eq_some_iff.1 f;injection e with e1 e2;subst e1 e2;rw[lm] at h1;subst h1;go_enter Tryz.func189,Tryz.ntmps189
  go_wp2_with fail
  generalize (((w.alloc (.cells #[.pointer (some ⟨p,0,none⟩)] 173)).alloc (.cells #[.int .i64 G.lvl,.slice A n c,.slice B m K,.int .i64 E,.int .i64 (F:Int),.bool hd,.bool I] 180)).alloc (.cells #[.int .i64 N.lvl,.slice R Z c2,.slice U 1 W] 178))=w1 at b3 T1 X1 N1 c0 c1 a2 y0 x0 x1 x2 x3 x4 x5 x6 ⊢;refine (q57 (H.below b3) hb (ht.below b3 ht.1) ⟨G,E,F,hd,I⟩ A n c B m K hv).mono ?_;rintro e J ⟨rfl,H2,X2,t2⟩;have XX:Turn S w J:=(Qx (S:=S) b3).trans X2 λk O=>.inl O
  have N2:=N1.turned X2 (λh=>by have:=hS _ h;omega);obtain⟨g,o,rfl,hg,-,-,-,z3⟩:=(hB.Df J XX).cell (show 0<1 by omega);rw[Nat.zero_mul,Nat.add_zero] at z3;have k2:=N2.c2;obtain⟨v,a6⟩:∃v,(Qe N.kids 0).a=v:=⟨_,rfl⟩;rw[a6] at z3;go_wp2_with fail
  go_ret2;exact⟨v,rfl,(by first|exact a6.symm|(intro a e;exact a6.symm.trans (Option.some.inj e))),H2,XX,t2,hP.leave hv⟩
 ·rw[if_neg h1] at f;rw[lm] at h1;have b9:¬(X:Int)=1:=by omega
  obtain⟨M,r2,a1⟩:∃M r2,P.Y3 ⟨N,[⟨G,E,F,hd,I⟩],0,0⟩=some (M,r2):=by
   cases e:P.Y3 ⟨N,[⟨G,E,F,hd,I⟩],0,0⟩ with
   |none=>rw[e] at f;cases f
   |some q=>exact⟨q.1,q.2,rfl⟩
  rw[a1] at f;have y:=λ(u:World) (hu:Below w.1.size w u) (Y:Option Addr) (hY:∀v,Turn S u v->Ve (Turn S u) v Y 1 1 [⟨G,E,F,hd,I⟩])=>qjw (H.below hu) hb (ht.below hu ht.1) hP ⟨N,[⟨G,E,F,hd,I⟩],0,0⟩ R Z c2 U X W (hB.mono λv hv=>(Qx (S:=S) hu).trans hv λk O=>.inl O) a7 b7 hl Y 1 1 hY (by omega) a1 0 0
  unfold tv Xe Xw at y;dsimp only at y;replace y:=Lib.hid y;replace f:=Lib.hid f;clear a1;go_enter Tryz.func189,Tryz.ntmps189
  go_wp2_with fail
  have b0:(((w.alloc (.cells #[.pointer (some ⟨p,0,none⟩)] 173)).alloc (.cells #[.int .i64 G.lvl,.slice A n c,.slice B m K,.int .i64 E,.int .i64 (F:Int),.bool hd,.bool I] 180)).alloc (.cells #[.int .i64 N.lvl,.slice R Z c2,.slice U X W] 178)).1.size=w.1.size+1+1+1:=by simp
  generalize (((w.alloc (.cells #[.pointer (some ⟨p,0,none⟩)] 173)).alloc (.cells #[.int .i64 G.lvl,.slice A n c,.slice B m K,.int .i64 E,.int .i64 (F:Int),.bool hd,.bool I] 180)).alloc (.cells #[.int .i64 N.lvl,.slice R Z c2,.slice U X W] 178))=w1 at b3 T1 X1 N1 c0 c1 a2 y0 x0 x1 x2 x3 x4 x5 x6 b0 ⊢;have bA:=b3.alloc b3.size (.cells #[.int .i64 G.lvl,.slice A n c,.slice B m K,.int .i64 E,.int .i64 (F:Int),.bool hd,.bool I] 180);have b1:∀k,S k->k<w1.1.size:=λk O=>by have:=hS k O;have:=b3.size;omega
  have hY:=λu hu=>qhy b1 (Q:=Turn S (w1.alloc (.cells #[.int .i64 G.lvl,.slice A n c,.slice B m K,.int .i64 E,.int .i64 (F:Int),.bool hd,.bool I] 180))) ⟨G,E,F,hd,I⟩ (hs.mono λv hv=>(Qx (S:=S) bA).trans hv λk O=>.inl O) 180 u hu
  have HL:=y.out _ bA _ hY;rw[b0] at HL;refine HL.mono ?_;rintro e J ⟨A3,n3,c3,B3,m3,d3,l,rfl,a8,H2,X2,t2,p2⟩;have XX:Turn S w J:=(Qx (S:=S) bA).trans X2 λk O=>.inl O
  have N2:=(T1.below ((Below.refl _ _).alloc (Nat.le_refl _) (.cells #[.int .i64 G.lvl,.slice A n c,.slice B m K,.int .i64 E,.int .i64 (F:Int),.bool hd,.bool I] 180)) T1.lt).turned X2 (λh=>by have:=hS _ h;omega);clear c0 c1 a2 y0 x0 x1 x2 x3 x4 x5 x6 y HL hY;have zz:w.1.size+4<=J.1.size:=by have:=N1.lt;have:=X2.size;simp at this;omega
  replace f:=f.out
  cases r2 with
  |none=>
   dsimp only at f;obtain⟨rfl,rfl⟩:M=P'/\none=r:=by
    injection Option.some.inj f with e1 e2;exact⟨e1,e2⟩
   unfold Ru;dsimp only;go_wp2_with (first
    |(refine q1v rfl _ _ rfl J.1.size rfl l A3 n3 c3 B3 m3 d3 rfl (NB.new J 0 none 0 0 none 0 0 178) ?_;intro w3 R3 T3)
    |fail)
   have b4:Below J.1.size J w3:=(Qk).trans (T3.below (λk O=>by have:k=J.1.size:=O;omega) (by simp));go_ret2;have F1:=H2.below b4;have F2:=XX.then (Qx (S:=S) b4);have F3:=t2.below b4 t2.1;exact⟨⟨0,rfl⟩,F1,F2,F3.1,F3.2⟩
  |some ks=>
   dsimp only at f;obtain⟨el,hq⟩:=a8 ks rfl;subst el;clear a8;have b6:0=n3:=hq.ln;subst b6;have c7:ks.length=m3:=hq.lm;have b8:=hq.hm;unfold Ru;dsimp only;have b4:∀w3,Turn (λg=>g=J.1.size) (J.alloc (.cells #[.int .i64 0,.slice none 0 0,.slice none 0 0] 178)) w3->Below J.1.size J w3:=λw3 T3=>(Qk).trans (T3.below (λk O=>by have:k=J.1.size:=O;omega) (by simp))
   have HS:=λu=>q1u (N.lvl+1) A3 0 c3 B3 m3 d3 (by omega) (by omega) u
   rw[Nat.zero_add] at HS;unfold Xw at HS;replace HS:=Lib.hid HS;have y2:=N2.cell 0 rfl;go_wp2_with (first
    |(refine q1v rfl _ _ rfl J.1.size rfl (N.lvl+1) A3 0 c3 B3 m3 d3 rfl (NB.new J 0 none 0 0 none 0 0 178) ?_;intro w3 R3 T3;have r0:=R3.c0;have r1:=R3.c1;have r2:=R3.c2)
    |fail)
   refine (HS.out _).mono ?_;rintro e w4 ⟨rfl,b5⟩;have R4:=R3.below b5 R3.lt;have bb:=(b4 w3 T3).trans (b5.mono (b4 w3 T3).size);have H4:=H2.below bb;have t4:=t2.below bb t2.1;have X4:=XX.then (Qx (S:=S) bb);clear r0 r1 r2 HS;by_cases k0:ks.length=0
   ·rw[if_pos k0] at f;obtain⟨rfl,rfl⟩:M=P'/\some 0=r:=by
     injection Option.some.inj f with e1 e2;exact⟨e1,e2⟩
    obtain rfl:0=m3:=by omega
    go_wp2_with fail
    go_ret2;exact⟨0,rfl,(by first|rfl|(intro a e;exact Option.some.inj e)),H4,X4,t4,p2⟩
   ·rw[if_neg k0] at f;by_cases k1:ks.length=1
    ·rw[if_pos k1] at f;obtain⟨rfl,hr⟩:M=P'/\some (Qe ks 0).a=r:=by
      injection Option.some.inj f with e1 e2;exact⟨e1,e2⟩
     obtain rfl:1=m3:=by omega
     have b2:Turn S J w4:=Qx bb;obtain⟨g,o,rfl,hg,-,-,-,z3⟩:=(hq.Df w4 b2).cell (show 0<1 by omega);rw[Nat.zero_mul,Nat.add_zero] at z3;have k2:=R4.c2;have hE:Qbm r=0:=by rw[<-hr];rfl
     obtain⟨v,hv⟩:∃v,(Qe ks 0).a=v:=⟨_,rfl⟩;have c9:w4.cell? ⟨g,o+3,none⟩=some (.int .i64 v):=by rw[<-hv];exact z3
     clear z3;go_wp2_with fail
     go_ret2;exact⟨v,by rw[hE];rfl,λa e=>(by rw[<-hr,hv] at e;exact Option.some.inj e),H4,X4,t4,p2⟩
    ·rw[if_neg k1] at f;have g0:¬(m3:Int)=0:=by omega
     have g1:¬(m3:Int)=1:=by omega
     have r0:=R4.c0;have r1:=R4.c1;have r2:=R4.c2;have y4:=(bb.cell (p:=⟨w.1.size,0,none⟩) N2.lt).trans y2;have Hp:=qbv H4 hb t4 ⟨N.lvl+1,[],ks⟩ A3 0 c3 B3 m3 d3 (λu hu=>⟨hq.its.Yc ((Qx (S:=S) bb).then hu),hq.Df _ ((Qx (S:=S) bb).then hu)⟩) (by omega) (by omega);have p5:=p2.put ⟨N.lvl+1,[],ks⟩;have hc:(M.Jk ⟨N.lvl+1,[],ks⟩=0/\M.Jj ⟨N.lvl+1,[],ks⟩=P'/\some (M.Yz ⟨N.lvl+1,[],ks⟩)=r)\/(M.Jk ⟨N.lvl+1,[],ks⟩=6/\M.Jj ⟨N.lvl+1,[],ks⟩=P'/\none=r):=by
      by_cases e0:M.Jk ⟨N.lvl+1,[],ks⟩=0
      ·rw[if_pos e0] at f;injection Option.some.inj f with e1 e2;exact .inl ⟨e0,e1,e2⟩
      ·rw[if_neg e0] at f;by_cases e6:M.Jk ⟨N.lvl+1,[],ks⟩=6
       ·rw[if_pos e6] at f;injection Option.some.inj f with e1 e2;exact .inr ⟨e6,e1,e2⟩
       ·rw[if_neg e6] at f;cases f
     clear f;obtain⟨v,hv⟩:∃v,M.Yz ⟨N.lvl+1,[],ks⟩=v:=⟨_,rfl⟩;rw[hv] at hc Hp;rcases hc with⟨e0,rfl,rfl⟩|⟨e0,rfl,rfl⟩
     ·rw[e0] at Hp;go_wp2_with fail
      refine Hp.mono ?_;rintro e w5 ⟨rfl,H5,X5,t5⟩;go_wp2_with fail
      go_ret2;have F2:=X4.then X5;first|exact⟨v,rfl,λa e=>Option.some.inj e,H5,F2,t5,p5⟩|exact⟨rfl,H5,F2,t5,p5⟩|exact⟨v,rfl,rfl,H5,F2,t5,p5⟩
     ·rw[e0] at Hp;go_wp2_with fail
      refine Hp.mono ?_;rintro e w5 ⟨rfl,H5,X5,t5⟩;go_wp2_with fail
      go_ret2;have F2:=X4.then X5;first|exact⟨v,rfl,λa e=>(by cases e),H5,F2,t5,p5⟩|exact⟨v,rfl,H5,F2,t5,p5⟩
end
theorem TSp:Dh Tryz.prog 174 180 7 80 (.agg #[.int .i64 0,.slice none 0 0,.slice none 0 0,.int .i64 0,.int .i64 0,.bool false,.bool false]):=⟨Tryz.underlying174,by kernel_rfl,rfl,by omega⟩
theorem qxp (s:Qs)(A:Option Addr)(n c:Nat)(B:Option Addr)(m d:Nat):∀u∈Eb s A n c B m d,u.oneCell'=true:=by
 intro u e;unfold Eb Jb at e;simp at e;rcases e with rfl|rfl|rfl|rfl|rfl|rfl|rfl<;>rfl
def Ue (Q:World->Prop)(w:World)(base:Nat)(A:Option Addr)(n c:Nat)(ss:List Qs):Prop:=
 ∃e,Qr w base 180 7 A n c e/\e.length=ss.length/\∀(j:Nat) r s,e[j]?=some r->ss[j]?=some s->∃A n c B m d,r=Eb s A n c B m d/\Jf Q s.N A n c B m d
section
variable {Q Q':World->Prop}{w w':World}{base n c:Nat}{A:Option Addr}{ss:List Qs}
theorem qud (Q:World->Prop)(w:World)(base:Nat):Ue Q w base none 0 0 []:=⟨[],Lu _ _ _ _,rfl,λj r x e=>by simp at e⟩
theorem Ue.below (h:Ue Q w base A n c ss)(hb:Below w.1.size w w'):Ue Q w' base A n c ss:=by
 obtain⟨e,h1,h2⟩:=h;exact⟨e,h1.below hb,h2⟩
theorem Ue.turned {S:Nat->Prop}(h:Ue Q w base A n c ss)(T:Turn S w w')(hA:∀k,q01 A=some k->¬S k):Ue Q w' base A n c ss:=by
 obtain⟨e,h1,h2⟩:=h;exact⟨e,h1.turned T hA,h2⟩
theorem Ue.mono (h:Ue Q w base A n c ss)(hq:∀w,Q' w->Q w):Ue Q' w base A n c ss:=by
 obtain⟨f,h1,h2,u⟩:=h;refine⟨f,h1,h2,λj r s E F=>?_⟩;obtain⟨A,n,c,B,m,d,e,y⟩:=u j r s E F;exact⟨A,n,c,B,m,d,e,y.mono hq⟩
theorem Ue.spl (h:Ue Q w base A n c ss):Ve Q w A n c ss:=by
 obtain⟨e,h1,h2⟩:=h;exact⟨e,h1.Uo (by omega),h2⟩
theorem Ue.Qc (h:Ue Q w base A n c ss):∀k,q01 A=some k->base<=k/\k<w.1.size:=by
 obtain⟨e,h1,_⟩:=h;exact h1.Qc
theorem qw2 (w:World)(s:Qs)(A:Option Addr)(n c:Nat)(B:Option Addr)(m d:Nat):Jq (w.alloc (.cells #[.int .i64 s.N.lvl,.slice A n c,.slice B m d,.int .i64 s.addr,.int .i64 (s.next:Int),.bool s.held,.bool s.shared] 180)) 7 (some ⟨w.1.size,0,none⟩) 1 1 [Eb s A n c B m d]:=(q1i w 180 7 (Eb s A n c B m d) _ rfl rfl).Uo (by omega)
theorem q8f {M:Array Oper}{f:List Oper}{o:Oper}{a:Act}{Q2:Exit->Act->World->Prop}(Z:o.guard=none)(so x:Operand)
  (ho:o.op=.call { callee:=.builtin .append,args:=#[so,x],argTypes:=#[174,174] })
  (hs:a.eval so=.slice A n c) (I:Ue Q w base A n c ss) {B:Option Addr} {d:Nat} (E:a.eval x=.slice B 1 d) {s:Qs} {U:Option Addr} {n1 c1:Nat} {W:Option Addr} {m1 X:Nat}
  (e:Jq w 7 B 1 d [Eb s U n1 c1 W m1 X]) (hq:Jf Q s.N U n1 c1 W m1 X) (hn:n<=1000) (m:base<=w.1.size)
  (h:∀G R w',Ue Q w' base G (n+1) R (ss++[s])->Turn (λk=>q01 A=some k) w w'->(q01 G=q01 A\/q01 G=some w.1.size)->wpList Tryz.prog M Q2 f (a.put o.dst (.slice G (n+1) R)) w'):wpList Tryz.prog M Q2 (o::f) a w:=by
 obtain⟨F,h1,h2,h3⟩:=I;refine wpList_plain Z λK hK=>?_
 have one:∀y∈[Eb s U n1 c1 W m1 X],∀u∈y,u.oneCell'=true:=λy hy=>by
  obtain rfl:=List.mem_singleton.1 hy;exact qxp _ _ _ _ _ _ _
 obtain⟨G,R,w',J,O,T,Y,_⟩:=q23 (P:=Tryz.prog) w TSp o.type base A n c F h1 B 1 d _ e (by omega) one (by omega) (by omega) m;unfold Oper.wp execOp;simp only[ho,resolve,invoke,builtin,Sem.run_bind,Sem.run_pure,Result.andThen_ok,List.map_toArray,List.map_cons,List.map_nil,hs,E,J];refine hK _ _ (h G R w' ⟨_,O,by simp[h2],λj r' x e E=>?_⟩ T Y);by_cases hj:j<F.length
 ·rw[List.getElem?_append_left hj] at e;rw[List.getElem?_append_left (by omega)] at E;exact h3 j r' x e E
 ·rw[List.getElem?_append_right (by omega)] at e E;have H:j-F.length=0:=by
   have:=(List.getElem?_eq_some_iff.1 e).1;simp at this;omega
  rw[H] at e;rw[<-h2,H] at E;obtain rfl:=Option.some.inj e;obtain rfl:=Option.some.inj E;exact⟨_,_,_,_,_,_,rfl,hq⟩
end
def Dq (Dt:Nat->Prop)(w:World):World->Prop:=Turn (λk=>¬Dt k) w
section
variable {Dt Dt' S:Nat->Prop}{w w' v:World}
theorem qam (T:Turn S w w')(e:∀k,S k->¬Dt k)(f:Dq Dt w' v):Dq Dt w v:=(T.mono e).then f
theorem qxq (h:Dq Dt' w v)(f:∀k,Dt k->Dt' k):Dq Dt w v:=h.mono λk e hd=>e (f k hd)
theorem qq5 {lo:Nat}(h:Dq Dt w v)(hd:∀k,lo<=k->k<w.1.size->Dt k):Turn (λk=>k<lo) w v:=⟨h.os,h.tape,h.output,h.size,λk e hn=>h.block k e λf=>f (hd k (by omega) e)⟩
theorem qzc {lo:Nat}(h:Turn (λk=>k<lo) w v)(hd:∀k,Dt k->lo<=k):Dq Dt w v:=h.mono λk f e=>by have:=hd k e;have:k<lo:=f;omega
end
def slN:Value->Nat
 |.slice _ n _=>n
 |_=>0
section
variable {b:Nat}{w:World}{d p:Nat}{S0 S T:Nat->Prop}{D:DM}{P:Pl}
theorem que {w:World}{e:Nat}{N:Nd}{f:Int}{y:Nat}{hd u:Bool}{A B:Option Addr}{n c m d:Nat}(H:RB w e (Eb ⟨N,f,y,hd,u⟩ A n c B m d))(t:Nat):RB (w.setCell ⟨e,4,none⟩ (.int .i64 (t:Int))) e (Eb ⟨N,f,t,hd,u⟩ A n c B m d)/\Turn (λk=>k=e) w (w.setCell ⟨e,4,none⟩ (.int .i64 (t:Int)))/\w.frozen? ⟨e,4,none⟩=false:=by
 refine⟨?_,Ac (a:=⟨e,4,none⟩) _ rfl,(H.there 4 (show 4<7 by omega)).2⟩;obtain⟨E,H⟩:=H;exact⟨E,D7 _ H⟩
theorem qdx (H:Qg b w d p S0 S T D P)(ht:Tab w)(d6:∀a b,P.L a=some b->b.kindOk)(M:∀a,P.Qi D a=0->(P.Qd D a).fit/\0<=(P.Qd D a).lvl/\(P.Qd D a).lvl<8)(root:Int)(k:Kd){up:List Qs}{s:Qs}(E:P.way D root k=some (up,s)) :
  Calls Tryz.prog 108 #[tv p,.int .i64 root,.agg #[.int .i64 k.obj,.int .i64 k.kind,.int .i64 k.off]] w λe w'=>∃X n c,e=.returned (.tuple #[.slice X n c,.int .i64 0])/\Ve (Turn (λk=>k<w.1.size) w') w' X n c (up.reverse++[s])/\(∀g,q01 X=some g->w.1.size<=g)/\Below w.1.size w w':=by
 have hS:=H.low;have b2:Below w.1.size w ((w.alloc (.cells #[.pointer (some ⟨p,0,none⟩)] 173)).alloc (.cells #[.int .i64 k.obj,.int .i64 k.kind,.int .i64 k.off] 45)):=(Qk).alloc (by simp) _;have T1:RB ((w.alloc (.cells #[.pointer (some ⟨p,0,none⟩)] 173)).alloc (.cells #[.int .i64 k.obj,.int .i64 k.kind,.int .i64 k.off] 45)) w.1.size [.pointer (some ⟨p,0,none⟩)]:=(RB.new w [.pointer (some ⟨p,0,none⟩)] 173).below (Qk) (by simp);have K1:RB ((w.alloc (.cells #[.pointer (some ⟨p,0,none⟩)] 173)).alloc (.cells #[.int .i64 k.obj,.int .i64 k.kind,.int .i64 k.off] 45)) (w.1.size+1) [.int .i64 k.obj,.int .i64 k.kind,.int .i64 k.off]:=by
  have:=RB.new (w.alloc (.cells #[.pointer (some ⟨p,0,none⟩)] 173)) [.int .i64 k.obj,.int .i64 k.kind,.int .i64 k.off] 45;rwa [World.size_alloc] at this
 have y0:=T1.cell 0 rfl;have c9:((w.alloc (.cells #[.pointer (some ⟨p,0,none⟩)] 173)).alloc (.cells #[.int .i64 k.obj,.int .i64 k.kind,.int .i64 k.off] 45)).1.size=w.1.size+1+1:=by simp
 unfold Pl.way at E;unfold tv;by_cases h0:root=0
 ·rw[if_pos h0] at E;subst h0;injection Option.some.inj E with e1 e2;subst e1 e2;clear E;go_enter Tryz.func108,Tryz.ntmps108
  go_wp2_with fail
  generalize ((w.alloc (.cells #[.pointer (some ⟨p,0,none⟩)] 173)).alloc (.cells #[.int .i64 k.obj,.int .i64 k.kind,.int .i64 k.off] 45))=w1 at b2 T1 K1 y0 c9 ⊢;have h1:=qhy (S:=λk=>k<w.1.size) (w:=w1) (λk J=>by have J:k<w.1.size:=J;omega) (Q:=Turn (λk=>k<w.1.size) (w1.alloc (.cells #[.int .i64 0,.slice none 0 0,.slice none 0 0,.int .i64 0,.int .i64 0,.bool true,.bool true] 180))) q4e (qpv _ 0) 180 _ (Turn.refl _ _);rw[c9] at h1;go_ret2;exact⟨some ⟨w.1.size+1+1,0,none⟩,1,1,rfl,h1,λg y=>(by injection y with y;have y:w.1.size+1+1=g:=y;omega),b2.alloc b2.size _⟩
 ·rw[if_neg h0] at E;have hE:P.Qi D root=0:=by
   refine Classical.byContradiction λhh=>?_
   rw[if_neg hh] at E;cases E
  rw[if_pos hE] at E;have Hr:=λ(u:World) (hu:Below w.1.size w u)=>qfo (H.below hu) (ht.below hu ht.1) d6 root false hE
  unfold tv Vf at Hr;obtain⟨d3,d4,d5⟩:=M root hE;obtain⟨s0,e8⟩:∃s0,P.spot D root false=s0:=⟨_,rfl⟩;rw[e8] at E Hr;replace Hr:=Lib.hid Hr;replace E:=Lib.hid E;replace M:=Lib.hid M;go_enter Tryz.func108,Tryz.ntmps108
  go_wp2_with fail
  generalize ((w.alloc (.cells #[.pointer (some ⟨p,0,none⟩)] 173)).alloc (.cells #[.int .i64 k.obj,.int .i64 k.kind,.int .i64 k.off] 45))=w1 at b2 T1 K1 y0 c9 ⊢;refine (Hr.out w1 b2).mono ?_;rintro e F ⟨A,n,c,B,m,U,rfl,W,b3⟩;have eN:P.Qd D root=s0.N:=by rw[<-e8];rfl
  rw[eN] at W d3 d4 d5;go_wp2_with (first
   |(refine Nw rfl _ _ rfl F.1.size rfl s0.N.lvl A n c B m U s0.addr (s0.next:Int) s0.held s0.shared rfl (F9 F) rfl ?_;intro w3 R3 T3)
   |fail)
  have z3:=b3.size;have bA:Below F.1.size F w3:=((Below.refl _ _).alloc (Nat.le_refl _) Ud).trans (T3.below (λk J=>by have:k=F.1.size:=J;omega) (by simp));have B3:Below w1.1.size w1 w3:=b3.trans (bA.mono z3);have z4:=bA.size;have z5:=R3.lt;go_loopw [8,10] (λl e wr=>∃(f:Nat) (q:Qs) (a1:List Qs) (A:Option Addr) (n c:Nat) (B:Option Addr) (m U:Nat) (X:Option Addr) (nn cc:Nat) (Dt:Nat->Prop),l=.slice X nn cc/\e=.int .i64 0/\nn+f=8/\P.Gw D k f q a1=some (up,s)/\RB wr F.1.size (Eb q A n c B m U)/\Jf (Dq Dt wr) q.N A n c B m U/\Ue (Dq Dt wr) wr (F.1.size+1) X nn cc a1.reverse/\(∀k,Dt k->w.1.size<=k/\k<wr.1.size/\k≠F.1.size/\q01 X≠some k)/\q.N.fit/\0<=q.N.lvl/\q.N.lvl<8/\RB wr w.1.size [.pointer (some ⟨p,0,none⟩)]/\RB wr (w.1.size+1) [.int .i64 k.obj,.int .i64 k.kind,.int .i64 k.off]/\Below w.1.size w wr/\F.1.size+1<=wr.1.size) (λl _ _=>8-slN l)
  case atStart=>
   refine⟨8,s0,[],A,n,c,B,m,U,none,0,0,λk=>w1.1.size<=k/\k<F.1.size,rfl,rfl,rfl,E.out,R3,W.mono λv hv=>qq5 (w:=F) (qam (S:=λ_=>False) (Qx bA) (λ_ h=>h.elim) hv) λk h1 h2=>⟨h1,h2⟩,qud _ _ _,λk J=>⟨by omega,by omega,by omega,λh=>by cases h⟩,d3,d4,d5,T1.below B3 T1.lt,K1.below B3 K1.lt,b2.trans (B3.mono b2.size),by omega⟩
  case round=>
   clear R3 T3 W E;obtain⟨f,q,a1,A,n,c,B,m,U,X,nn,cc,Dt,rfl,rfl,i2,E,Y,W,row,I,d8,g7,d9,TT,KK,hb,i3⟩:=hrel;obtain⟨N,K,nx,hd,R⟩:=q;have e0:=Y.cell 0 rfl;have e1:=Y.cell 1 rfl;have e2:=Y.cell 2 rfl;have e3:=Y.cell 3 rfl;have e4:=Y.cell 4 rfl;have e5:=Y.cell 5 rfl;have e6:=Y.cell 6 rfl;have y0:=TT.cell 0 rfl;have k0:=KK.cell 0 rfl;have k1:=KK.cell 1 rfl;have k2:=KK.cell 2 rfl;have g6:=W.hn;have g5:=W.hm;dsimp only at d8 g7 d9 g6 g5 W;by_cases b0:N.lvl<=0
   ·have y:¬(0:Int)<N.lvl:=by omega
    obtain⟨rfl,rfl⟩:a1=up/\(⟨N,K,nx,hd,R⟩:Qs)=s:=by
     cases f with
     |zero=>unfold Pl.Gw at E;rw[if_pos b0] at E;injection Option.some.inj E with e1 e2;exact⟨e1,e2⟩
     |succ f=>unfold Pl.Gw at E;rw[if_pos b0] at E;injection Option.some.inj E with e1 e2;exact⟨e1,e2⟩
    clear E;have bL:Below wr.1.size wr (wr.alloc (.cells #[.int .i64 N.lvl,.slice A n c,.slice B m U,.int .i64 K,.int .i64 (nx:Int),.bool hd,.bool R] 180)):=Qk;have G:=row.Qc;go_wp2_with (first
     |(at_builtin;refine q8f (s:=⟨N,K,nx,hd,R⟩) rfl _ _ rfl rfl (row.below bL) rfl (qw2 wr ⟨N,K,nx,hd,R⟩ A n c B m U) W (by omega) (by have:=bL.size;omega) ?_;intro X2 f4 w4 b8 T4 _)
     |fail)
    have TW:Turn (λg=>q01 X=some g) wr w4:=(Qx (S:=λg=>q01 X=some g) bL).trans T4 λk J=>.inl J
    have bw:Below w.1.size wr w4:=TW.below (λg y=>by have:=(G g y).1;omega) (by omega);go_ret2;refine⟨X2,nn+1,f4,rfl,(b8.mono λv hv=>?_).spl,λg y=>by have:=(b8.Qc g y).1;omega,hb.trans bw⟩;exact qam TW (λg y hd=>(I g hd).2.2.2 y) (qzc hv λg y=>(I g y).1)
   ·have y:(0:Int)<N.lvl:=by omega
    cases f with
    |zero=>unfold Pl.Gw at E;rw[if_neg b0] at E;cases E
    |succ f=>
     unfold Pl.Gw at E;rw[if_neg b0] at E;dsimp only at E;obtain⟨t,c8⟩:∃t,N.Zc k=t:=⟨_,rfl⟩;rw[c8] at E;have b5:P.Wi D ⟨N,K,nx,hd,R⟩ t=true:=by
      refine Classical.byContradiction λhh=>?_
      rw[if_neg hh] at E;cases E
     rw[if_pos b5] at E;have a7:P.Wi D ⟨N,K,t,hd,R⟩ t=true:=b5;obtain⟨rr,e7⟩:∃rr,Vd N.keys k t=rr:=⟨_,rfl⟩;have HC:=q2i N d8 k t c8 rr e7 A n c B m U wr (W.its.Yc (Turn.refl _ _)) (W.Df _ (Turn.refl _ _)) (by omega) (by omega);have G:=row.Qc;obtain⟨Z,a8⟩:∃Z,P.Je D ⟨N,K,t,hd,R⟩ t=Z:=⟨_,rfl⟩;have b6:P.Je D ⟨N,K,nx,hd,R⟩ t=Z:=a8;rw[b6] at E;obtain⟨g1,g2,g3⟩:=M.out (Qe N.kids t).a (of_decide_eq_true a7).2.1;have eK:P.Qd D (Qe N.kids t).a=Z.N:=by rw[<-a8];rfl
     rw[eK] at g1 g2 g3;replace E:=Lib.hid E;replace a7:=Lib.hid a7;clear b6 c8 e7 eK;go_wp2_with fail
     refine HC.mono ?_;rintro e w4 ⟨rfl,b4⟩;obtain⟨R5,T5,i0⟩:=que (Y.below b4 Y.lt) t;have p4:=(Y.below b4 Y.lt).cell 4 rfl;have i4:=b4.size;have d0:Turn (λg=>g=F.1.size) wr (w4.setCell ⟨F.1.size,4,none⟩ (.int .i64 (t:Int))):=(Qx (S:=λg=>g=F.1.size) b4).trans T5 λk J=>.inl J
     clear e0 e1 e2 e3 e4 e5 e6 y0 k0 k1 k2;have e0:=R5.cell 0 rfl;have e1:=R5.cell 1 rfl;have e2:=R5.cell 2 rfl;have e3:=R5.cell 3 rfl;have e4:=R5.cell 4 rfl;have e5:=R5.cell 5 rfl;have e6:=R5.cell 6 rfl;have i6:=T5.size;have bL:Below (w4.setCell ⟨F.1.size,4,none⟩ (.int .i64 (t:Int))).1.size (w4.setCell ⟨F.1.size,4,none⟩ (.int .i64 (t:Int))) ((w4.setCell ⟨F.1.size,4,none⟩ (.int .i64 (t:Int))).alloc (.cells #[.int .i64 N.lvl,.slice A n c,.slice B m U,.int .i64 K,.int .i64 (t:Int),.bool hd,.bool R] 180)):=Qk;have e9:=(row.turned d0 (λg y h=>by have h:g=F.1.size:=h;have:=(G g y).1;omega)).below bL;have i5:=bL.size;have O:=qw2 (w4.setCell ⟨F.1.size,4,none⟩ (.int .i64 (t:Int))) ⟨N,K,t,hd,R⟩ A n c B m U;have c6:(w4.setCell ⟨F.1.size,4,none⟩ (.int .i64 (t:Int))).1.size=w4.1.size:=by simp[World.setCell]
     rw[c6] at O;replace O:=Lib.hid O;replace c6:=Lib.hid c6;go_wp2_with (first
      |(at_builtin;refine q8f (s:=⟨N,K,t,hd,R⟩) rfl _ _ rfl rfl e9 rfl O.out W (by omega) (by omega) ?_;intro X6 f8 w6 b9 T6 f9
        have i7:=T6.size;have R6:=(R5.below bL R5.lt).turned T6 (λh=>by have:=(G _ h).1;omega);have f2:Turn (λg=>q01 X=some g) (w4.setCell ⟨F.1.size,4,none⟩ (.int .i64 (t:Int))) w6:=(Qx (S:=λg=>q01 X=some g) bL).trans T6 λk J=>.inl J
        have a2:Turn (λg=>g=F.1.size\/q01 X=some g) wr w6:=(d0.mono λk J=>.inl J).trans f2 λk J=>.inl (.inr J)
        have g9:=TT.turned a2 (λh=>h.elim (λh=>by omega) λh=>by have:=(G _ h).1;omega);have y6:=g9.cell 0 rfl;have s0:=R6.cell 0 rfl;have s1:=R6.cell 1 rfl;have s2:=R6.cell 2 rfl;have s3:=R6.cell 3 rfl;have s4:=R6.cell 4 rfl;have s5:=R6.cell 5 rfl;have s6:=R6.cell 6 rfl)
      |fail)
     have g0:Below w.1.size wr w6:=a2.below (λg y=>y.elim (λh=>by omega) λh=>by have:=(G g h).1;omega) (by omega);have B6:=hb.trans g0;have d1:∀g,(g=F.1.size\/q01 X=some g)->¬Dt g:=λg y hd=>y.elim (I g hd).2.2.1 (I g hd).2.2.2
     have HK:=qjv (H.below B6) (ht.below B6 ht.1) d6 ⟨N,K,t,hd,R⟩ A n c B m U (λv hv=>W.Df v (qam a2 d1 (hv.mono λg y hd=>by have:=(I g hd).1;have:=hS g y;omega))) ⟨by show 1<=N.lvl;omega,d9⟩ t a7.out;unfold tv Vf at HK;rw[a8] at HK;refine HK.mono ?_;rintro e w7 ⟨A7,n7,c7,B7,m7,d7,rfl,g8,b7⟩;have i8:=b7.size;have R7:=R6.below b7 R6.lt;clear s0 s1 s2 s3 s4 s5 s6 e0 e1 e2 e3 e4 e5 e6 y6 HK;go_wp2_with (first
      |(refine Nw rfl _ _ rfl F.1.size rfl Z.N.lvl A7 n7 c7 B7 m7 d7 Z.addr (Z.next:Int) Z.held Z.shared rfl R7 rfl ?_;intro w8 R8 T8)
      |fail)
     have i9:=T8.size;have f0:=b9.below b7;have b1:=b9.Qc;have f1:=f0.turned T8 (λg y h=>by have h:g=F.1.size:=h;have:=(b1 g y).1;omega);have f3:Turn (λg=>g=F.1.size\/q01 X=some g) wr w7:=a2.then (Qx b7);have a6:Turn (λg=>g=F.1.size\/q01 X=some g) wr w8:=f3.then (T8.mono λg y=>.inl y);have g4:Below w.1.size wr w8:=a6.below (λg y=>y.elim (λh=>by omega) λh=>by have:=(G g h).1;omega) (by omega);have d2:∀g,g<=w.1.size+1->¬(g=F.1.size\/q01 X=some g):=λg y h=>h.elim (λh=>by omega) λh=>by have:=(G _ h).1;omega
     refine⟨⟨f,Z,⟨N,K,t,hd,R⟩::a1,A7,n7,c7,B7,m7,d7,X6,nn+1,f8,λg=>Dt g\/(w6.1.size<=g/\g<w7.1.size),rfl,rfl,by omega,E.out,R8,?_,?_,λg y=>?_,g1,g2,g3,TT.turned a6 (d2 _ (by omega)),KK.turned a6 (d2 _ (by omega)),hb.trans g4,by omega⟩,by show 8-(nn+1)<8-nn;omega⟩
     ·have i1:P.Je D ⟨N,K,t,hd,R⟩ t=Z:=a8;exact g8.mono λv hv=>qq5 (w:=w7) (qam T8 (λg y hd=>by
       have y:g=F.1.size:=y;exact hd.elim (λh=>(I g h).2.2.1 y) λh=>by omega) hv) λg h1 h2=>.inr ⟨h1,h2⟩
     ·rw[List.reverse_cons];exact f1.mono λv hv=>qam a6 d1 (qxq hv λg y=>.inl y)
     ·rcases y with y|y
      ·have hd:=I g y;refine⟨hd.1,by omega,hd.2.2.1,λh=>?_⟩;rcases f9 with e|e
       ·exact hd.2.2.2 (e▸h)
       ·rw[e] at h;injection h with h;omega
      ·exact⟨by omega,by omega,by omega,λh=>by have:=(b1 g h).2;omega⟩
end
structure Py (w0 w:World)(p:Nat)(s above:List Value)(l:Int)(A:Option Addr)(n c:Nat)(B:Option Addr)(m d:Nat):Prop where
 t:RB w w0.heap.size [.pointer (some ⟨p,0,none⟩)]
 s:RB w (w0.heap.size+1) s
 n:NB w (w0.heap.size+1+1) l A n c B m d
 a:RB w (w0.heap.size+1+1+1) above
 x:RB w (w0.heap.size+1+1+1+1) (Xe 0 none 0 0 none 0 0 none 0 0 0 0)
theorem Py.new (w:World)(p:Nat)(s above:List Value)(l:Int)(A:Option Addr)(n c:Nat)(B:Option Addr)(m d:Nat)(t1 t2 t3 t4 t5:TypeId) :
  Py w (((((w.alloc (.cells #[.pointer (some ⟨p,0,none⟩)] t1)).alloc (.cells s.toArray t2)).alloc (.cells #[.int .i64 l,.slice A n c,.slice B m d] t3)).alloc (.cells above.toArray t4)).alloc (.cells (Xe 0 none 0 0 none 0 0 none 0 0 0 0).toArray t5)) p s above l A n c B m d:=by
 have E:=RB.new w [.pointer (some ⟨p,0,none⟩)] t1;have e:=RB.new (w.alloc (.cells #[.pointer (some ⟨p,0,none⟩)] t1)) s t2;have f:=NB.new2 (w.alloc (.cells #[.pointer (some ⟨p,0,none⟩)] t1)) (.cells s.toArray t2) l A n c B m d t3;have u:=RB.new (((w.alloc (.cells #[.pointer (some ⟨p,0,none⟩)] t1)).alloc (.cells s.toArray t2)).alloc (.cells #[.int .i64 l,.slice A n c,.slice B m d] t3)) above t4;have y:=RB.new ((((w.alloc (.cells #[.pointer (some ⟨p,0,none⟩)] t1)).alloc (.cells s.toArray t2)).alloc (.cells #[.int .i64 l,.slice A n c,.slice B m d] t3)).alloc (.cells above.toArray t4)) (Xe 0 none 0 0 none 0 0 none 0 0 0 0) t5;simp only[World.size_alloc] at e f u y;have up:∀(v:World) (o:Obj),Below v.1.size v (v.alloc o):=λv o=>Qk
 exact⟨(((E.below (up _ _) (by simp<;>omega)).below (up _ _) (by simp<;>omega)).below (up _ _) (by simp<;>omega)).below (up _ _) (by simp<;>omega),((e.below (up _ _) (by simp<;>omega)).below (up _ _) (by simp<;>omega)).below (up _ _) (by simp<;>omega),(f.below (up _ _) (by simp<;>omega)).below (up _ _) (by simp<;>omega),u.below (up _ _) (by simp<;>omega),y⟩
theorem Py.below {w0 w w':World}{p:Nat}{s above:List Value}{l:Int}{A:Option Addr}{n c:Nat}{B:Option Addr}{m d:Nat}(h:Py w0 w p s above l A n c B m d)(hb:Below w.1.size w w'):Py w0 w' p s above l A n c B m d:=⟨h.t.below hb h.t.lt,h.s.below hb h.s.lt,h.n.below hb h.n.lt,h.a.below hb h.a.lt,h.x.below hb h.x.lt⟩
section
variable {b:Nat}{w:World}{d p:Nat}{S0 S T:Nat->Prop}{D:DM}{P P':Pl}
theorem qmd (H:Qg b w d p S0 S T D P)(_:Tab w)(s:Qs)(A:Option Addr)(n c:Nat)(B:Option Addr)(m dd:Nat)(hs:Jf (Turn S w) s.N A n c B m dd)(N:Nd)(I:Option Addr)(G c2:Nat)(J:Option Addr)(F K:Nat)(hB:Jf (Turn S w) N I G c2 J F K)(above:Qs)(A3:Option Addr)(n3 c3:Nat)(U:Option Addr)(m3 d3:Nat)(b4:above.next<=60)(a8:Qp N.lvl<=N.size) :
  Calls Tryz.prog 190 #[tv p,Vf s A n c B m dd,Xw N.lvl I G c2 J F K,Vf above A3 n3 c3 U m3 d3] w λe w'=>∃Y,e=.returned (.tuple #[.agg (Xe N.lvl I G c2 J F K Y 1 1 (above.next:Int) ((above.next+1:Nat):Int)).toArray,.int .i64 0])/\Jf (Turn S w') N I G c2 J F K/\(∀u,Turn S w' u->Ve (Turn S w') u Y 1 1 [s])/\Below w.1.size w w':=by
 obtain⟨sN,ad,nx,hd,sh⟩:=s;obtain⟨aN,Z,f,a1,a6⟩:=above;have hS:=H.low;have b8:=hB.hn;have b7:=hB.hm;have b1:=hB.size;dsimp only at b4 ⊢;obtain⟨le,E⟩:∃le,Qp N.lvl=le:=⟨_,rfl⟩;rw[E,b1] at a8;clear b1;have HL:=λu=>q2w N.lvl I G c2 J F K u
 rw[E] at HL;have HS:=λu=>q1u N.lvl I G c2 J F K (by omega) (by omega) u
 obtain⟨z,hz⟩:∃z,G+F=z:=⟨_,rfl⟩;rw[hz] at HS a8;clear hz E;have X:=Py.new w p (Jb sN.lvl A n c B m dd ad (nx:Int) hd sh) (Jb aN.lvl A3 n3 c3 U m3 d3 Z (f:Int) a1 a6) N.lvl I G c2 J F K 173 180 178 180 274;have b0:Below w.1.size w (((((w.alloc (.cells #[.pointer (some ⟨p,0,none⟩)] 173)).alloc (.cells (Jb sN.lvl A n c B m dd ad (nx:Int) hd sh).toArray 180)).alloc (.cells #[.int .i64 N.lvl,.slice I G c2,.slice J F K] 178)).alloc (.cells (Jb aN.lvl A3 n3 c3 U m3 d3 Z (f:Int) a1 a6).toArray 180)).alloc (.cells (Xe 0 none 0 0 none 0 0 none 0 0 0 0).toArray 274)):=((((Qk).alloc (by simp) _).alloc (by simp;omega) _).alloc (by simp;omega) _).alloc (by simp;omega) _;have hi:IntKind.i64.wrap ((f:Int)+1)=((f+1:Nat):Int):=by rw[show (f:Int)+1=((f+1:Nat):Int) by omega];exact IntWalk.i64_in _ (by omega)
 obtain⟨a2,W⟩:∃a2,f+1=a2:=⟨_,rfl⟩;rw[W] at hi ⊢;clear W;unfold Xw at HL HS;replace HL:=Lib.hid HL;replace HS:=Lib.hid HS;have b6:(le:Int)<=(z:Int):=by omega
 have k0:=X.n.c0;have k1:=X.n.c1;have k2:=X.n.c2;unfold tv Vf Xw;dsimp only;unfold Jb at X b0;unfold Xe at X b0;go_enter Tryz.func190,Tryz.ntmps190
 go_wp2_with fail
 generalize (((((w.alloc (.cells #[.pointer (some ⟨p,0,none⟩)] 173)).alloc (.cells #[.int .i64 sN.lvl,.slice A n c,.slice B m dd,.int .i64 ad,.int .i64 (nx:Int),.bool hd,.bool sh] 180)).alloc (.cells #[.int .i64 N.lvl,.slice I G c2,.slice J F K] 178)).alloc (.cells #[.int .i64 aN.lvl,.slice A3 n3 c3,.slice U m3 d3,.int .i64 Z,.int .i64 (f:Int),.bool a1,.bool a6] 180)).alloc (.cells #[.int .i64 0,.slice none 0 0,.slice none 0 0,.slice none 0 0,.int .i64 0,.int .i64 0] 274))=w1 at X b0 k0 k1 k2 ⊢;refine (HL.out w1).mono ?_;rintro e w2 ⟨rfl,b2⟩;have E2:=X.below b2;clear k0 k1 k2;have k0:=E2.n.c0;have k1:=E2.n.c1;have k2:=E2.n.c2;have a4:=E2.a.cell 4 rfl;go_wp2_with fail
 refine (HS.out w2).mono ?_;rintro e R ⟨rfl,b3⟩;have y:=E2.below b3;clear k0 k1 k2 a4;have k0:=y.n.c0;have k1:=y.n.c1;have k2:=y.n.c2;have s0:=y.s.cell 0 rfl;have s1:=y.s.cell 1 rfl;have s2:=y.s.cell 2 rfl;have s3:=y.s.cell 3 rfl;have s4:=y.s.cell 4 rfl;have s5:=y.s.cell 5 rfl;have s6:=y.s.cell 6 rfl;have U:=b0.trans ((b2.trans (b3.mono b2.size)).mono b0.size);have bL:Below R.1.size R (R.alloc (.cells #[.int .i64 sN.lvl,.slice A n c,.slice B m dd,.int .i64 ad,.int .i64 (nx:Int),.bool hd,.bool sh] 180)):=Qk;have E4:=y.below bL;have a7:∀k,S k->k<R.1.size:=λk M=>by have:=hS k M;have:=U.size;omega
 clear HL HS;go_wp2_with (first
  |(refine q8d rfl _ _ rfl (w.1.size+1+1+1+1) rfl N.lvl I G c2 J F K (some ⟨R.1.size,0,none⟩) 1 1 (f:Int) (a2:Int) rfl E4.x rfl ?_;intro w5 R5 T5)
  |fail)
 refine bodyPost_ret (Ak Tryz.results190 rfl (qhp R5)) rfl ?_;have BL:=U.trans (bL.mono U.size);have b5:Below w.1.size w w5:=BL.trans (T5.below (λk M=>by have M:k=w.1.size+1+1+1+1:=M;omega) (by have:=BL.size;omega));have b9:∀k,S k->k=w.1.size+1+1+1+1->False:=λk M e=>by have:=hS k M;omega
 refine⟨some ⟨R.1.size,0,none⟩,rfl,hB.mono λv hv=>(Qx (S:=S) b5).trans hv λk M=>.inl M,λu hu=>?_,b5⟩;have h1:=qhy a7 (Q:=Turn S w5) ⟨sN,ad,nx,hd,sh⟩ (hs.mono λv hv=>(Qx (S:=S) b5).trans hv λk M=>.inl M) 180 _ (Turn.refl _ _);have c6:w.1.size+1+1+1+1<R.1.size:=y.x.lt;exact (h1.turned T5 (λg O h=>by injection O with O;have O:R.1.size=g:=O;have h:g=w.1.size+1+1+1+1:=h;omega)).turned hu (λg O h=>by injection O with O;have O:R.1.size=g:=O;have:=a7 g h;omega)
end
theorem qq6 {P:Pl}{D:DM}(hm:∀a,P.Qi D a=0->(P.Qd D a).may=true):∀a,P.Qi D a=0->(P.Qd D a).fit/\0<=(P.Qd D a).lvl/\(P.Qd D a).lvl<8:=λa h=>by
 have hm:=hm a h;refine⟨Me hm,?_⟩;unfold Nd.may at hm;by_cases h0:(P.Qd D a).lvl=0
 ·omega
 ·rw[if_neg h0] at hm;simp only[Bool.and_eq_true,decide_eq_true_eq] at hm;omega
