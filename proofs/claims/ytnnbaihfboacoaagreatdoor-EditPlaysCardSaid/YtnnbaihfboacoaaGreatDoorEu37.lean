/- The code's edit: top -/
import Derived.Test.YtnnbaihfboacoaaGreatDoorHaO
import Derived.Test.YtnnbaihfboacoaaGreatDoorEu36
namespace Go.Proofs.YtnnbaihfboacoaaGreatDoor
open Go Go.RowKit Go.Proofs
set_option maxHeartbeats 8000000
set_option maxRecDepth 100000
theorem qi8 {S:Nat->Prop}{w:World}(y:∀k,S k->k<w.1.size){Q:World->Prop}(s:Qu){A B:Option Addr}{n c m d:Nat}(h:Jl Q s.N A n c B m d)(t:TypeId):∀u,Turn S (w.alloc (.cells #[.int .i64 s.N.lvl,.slice A n c,.slice B m d,.int .i64 s.addr,.int .i64 (s.next:Int),.bool s.held,.bool s.shared] t)) u->Vj Q u (some ⟨w.1.size,0,none⟩) 1 1 [s]:=λu F=>by
 have h0:Jf (w.alloc (.cells #[.int .i64 s.N.lvl,.slice A n c,.slice B m d,.int .i64 s.addr,.int .i64 (s.next:Int),.bool s.held,.bool s.shared] t)) 7 (some ⟨w.1.size,0,none⟩) 1 1 [Ef s A n c B m d]:=(q1q w t 7 (Ef s A n c B m d) _ rfl rfl).Vs (by omega);refine⟨_,q5o h0 F (λk e E=>by injection e with e;have e:w.1.size=k:=e;have:=y k E;omega),rfl,λj r x f G=>?_⟩
 cases j with
 |zero=>
  obtain rfl:=Option.some.inj f;obtain rfl:=Option.some.inj G;exact⟨_,_,_,_,_,_,rfl,h⟩
 |succ j=>simp at f
def Qbp (r:Option Int):Int:=match r with
 |some _=>0
 |none=>6
section
variable {b:Nat}{w:World}{d p:Nat}{S0 S T:Nat->Prop}{D:DM}{P P':Pl}
theorem qtl (H:Qi b w d p S0 S T D P)(hb:1<b)(ht:Tab w)(hP:P.tidy)(s:Qu)(A:Option Addr)(n c:Nat)(B:Option Addr)(m K:Nat)(hs:Jl (Turn S w) s.N A n c B m K)(N:Nd)(U:Option Addr)(n2 c2:Nat)(W:Option Addr)(Z X:Nat)(hB:Jl (Turn S w) N U n2 c2 W Z X)(a7:N.fit)(b7:N.size<=40)(hl:0<=N.lvl/\N.lvl<8){r:Option Int}(f:P.top s N=some (P',r)) :
  Calls Tryz.prog 109 #[tv p,Vh s A n c B m K,Xy N.lvl U n2 c2 W Z X] w λe w'=>∃v,e=.returned (.tuple #[.int .i64 v,.int .i64 (Qbp r)])/\(∀a,r=some a->v=a)/\Qi b w' d p S0 S T D P'/\Turn S w w'/\Tab w'/\P'.tidy:=by
 obtain⟨G,E,F,hd,I⟩:=s;have hS:=H.low;have c8:=hB.hn;have c6:=hB.hm;have lm:=hB.lm;have b3:Below w.1.size w (((w.alloc (.cells #[.pointer (some ⟨p,0,none⟩)] 122)).alloc (.cells (Ji G.lvl A n c B m K E (F:Int) hd I).toArray 129)).alloc (.cells #[.int .i64 N.lvl,.slice U n2 c2,.slice W Z X] 127)):=((Qm).alloc (by simp) _).alloc (by simp;omega) _;have T1:RB (((w.alloc (.cells #[.pointer (some ⟨p,0,none⟩)] 122)).alloc (.cells (Ji G.lvl A n c B m K E (F:Int) hd I).toArray 129)).alloc (.cells #[.int .i64 N.lvl,.slice U n2 c2,.slice W Z X] 127)) w.1.size [.pointer (some ⟨p,0,none⟩)]:=(RB.new w [.pointer (some ⟨p,0,none⟩)] 122).below ((Qm).alloc (by simp) _) (by simp);have X1:RB (((w.alloc (.cells #[.pointer (some ⟨p,0,none⟩)] 122)).alloc (.cells (Ji G.lvl A n c B m K E (F:Int) hd I).toArray 129)).alloc (.cells #[.int .i64 N.lvl,.slice U n2 c2,.slice W Z X] 127)) (w.1.size+1) (Ji G.lvl A n c B m K E (F:Int) hd I):=by
  have:=RB.new (w.alloc (.cells #[.pointer (some ⟨p,0,none⟩)] 122)) (Ji G.lvl A n c B m K E (F:Int) hd I) 129;rw[World.size_alloc] at this;exact this.below (Qm) (by simp)
 have N1:NB (((w.alloc (.cells #[.pointer (some ⟨p,0,none⟩)] 122)).alloc (.cells (Ji G.lvl A n c B m K E (F:Int) hd I).toArray 129)).alloc (.cells #[.int .i64 N.lvl,.slice U n2 c2,.slice W Z X] 127)) (w.1.size+1+1) N.lvl U n2 c2 W Z X:=by
  have:=NB.new2 (w.alloc (.cells #[.pointer (some ⟨p,0,none⟩)] 122)) (.cells (Ji G.lvl A n c B m K E (F:Int) hd I).toArray 129) N.lvl U n2 c2 W Z X 127;rwa [World.size_alloc] at this
 unfold Pl.top at f;unfold tv Vh Xy;dsimp only;unfold Ji at b3 T1 X1 N1;have c0:=N1.c0;have c1:=N1.c1;have a2:=N1.c2;have y0:=T1.cell 0 rfl;have x0:=X1.cell 0 rfl;have x1:=X1.cell 1 rfl;have x2:=X1.cell 2 rfl;have x3:=X1.cell 3 rfl;have x4:=X1.cell 4 rfl;have x5:=X1.cell 5 rfl;have x6:=X1.cell 6 rfl;by_cases h1:N.kids.length=1
 ·rw[if_pos h1] at f;obtain⟨M,hv,e⟩:=Option.map_eq_some_iff.1 f;injection e with e1 e2;subst e1 e2;rw[lm] at h1;subst h1;go_enter Tryz.func109,Tryz.ntmps109
  go_wp2_with fail
  generalize (((w.alloc (.cells #[.pointer (some ⟨p,0,none⟩)] 122)).alloc (.cells #[.int .i64 G.lvl,.slice A n c,.slice B m K,.int .i64 E,.int .i64 (F:Int),.bool hd,.bool I] 129)).alloc (.cells #[.int .i64 N.lvl,.slice U n2 c2,.slice W 1 X] 127))=w1 at b3 T1 X1 N1 c0 c1 a2 y0 x0 x1 x2 x3 x4 x5 x6 ⊢;refine (q5n (H.below b3) hb (ht.below b3 ht.1) ⟨G,E,F,hd,I⟩ A n c B m K hv).mono ?_;rintro e J ⟨rfl,H2,X2,t2⟩;have XX:Turn S w J:=(Qv (S:=S) b3).trans X2 λk R=>.inl R
  have N2:=N1.turned X2 (λh=>by have:=hS _ h;omega);obtain⟨g,o,rfl,hg,-,-,-,z3⟩:=(hB.Bo J XX).cell (show 0<1 by omega);rw[Nat.zero_mul,Nat.add_zero] at z3;have k2:=N2.c2;obtain⟨v,a6⟩:∃v,(Qg N.kids 0).a=v:=⟨_,rfl⟩;rw[a6] at z3;go_wp2_with fail
  go_ret2;exact⟨v,rfl,(by first|exact a6.symm|(intro a e;exact a6.symm.trans (Option.some.inj e))),H2,XX,t2,hP.leave hv⟩
 ·rw[if_neg h1] at f;rw[lm] at h1;have b9:¬(Z:Int)=1:=by omega
  obtain⟨M,r2,a1⟩:∃M r2,P.Y7 ⟨N,[⟨G,E,F,hd,I⟩],0,0⟩=some (M,r2):=by
   cases e:P.Y7 ⟨N,[⟨G,E,F,hd,I⟩],0,0⟩ with
   |none=>rw[e] at f;cases f
   |some q=>exact⟨q.1,q.2,rfl⟩
  rw[a1] at f;have y:=λ(u:World) (hu:Below w.1.size w u) (Y:Option Addr) (hY:∀v,Turn S u v->Vj (Turn S u) v Y 1 1 [⟨G,E,F,hd,I⟩])=>qk9 (H.below hu) hb (ht.below hu ht.1) hP ⟨N,[⟨G,E,F,hd,I⟩],0,0⟩ U n2 c2 W Z X (hB.mono λv hv=>(Qv (S:=S) hu).trans hv λk R=>.inl R) a7 b7 hl Y 1 1 hY (by omega) a1 0 0
  unfold tv Xl Xy at y;dsimp only at y;replace y:=Lib.hid y;replace f:=Lib.hid f;clear a1;go_enter Tryz.func109,Tryz.ntmps109
  go_wp2_with fail
  have b0:(((w.alloc (.cells #[.pointer (some ⟨p,0,none⟩)] 122)).alloc (.cells #[.int .i64 G.lvl,.slice A n c,.slice B m K,.int .i64 E,.int .i64 (F:Int),.bool hd,.bool I] 129)).alloc (.cells #[.int .i64 N.lvl,.slice U n2 c2,.slice W Z X] 127)).1.size=w.1.size+1+1+1:=by simp
  generalize (((w.alloc (.cells #[.pointer (some ⟨p,0,none⟩)] 122)).alloc (.cells #[.int .i64 G.lvl,.slice A n c,.slice B m K,.int .i64 E,.int .i64 (F:Int),.bool hd,.bool I] 129)).alloc (.cells #[.int .i64 N.lvl,.slice U n2 c2,.slice W Z X] 127))=w1 at b3 T1 X1 N1 c0 c1 a2 y0 x0 x1 x2 x3 x4 x5 x6 b0 ⊢;have bA:=b3.alloc b3.size (.cells #[.int .i64 G.lvl,.slice A n c,.slice B m K,.int .i64 E,.int .i64 (F:Int),.bool hd,.bool I] 129);have b1:∀k,S k->k<w1.1.size:=λk R=>by have:=hS k R;have:=b3.size;omega
  have hY:=λu hu=>qi8 b1 (Q:=Turn S (w1.alloc (.cells #[.int .i64 G.lvl,.slice A n c,.slice B m K,.int .i64 E,.int .i64 (F:Int),.bool hd,.bool I] 129))) ⟨G,E,F,hd,I⟩ (hs.mono λv hv=>(Qv (S:=S) bA).trans hv λk R=>.inl R) 129 u hu
  have HL:=y.out _ bA _ hY;rw[b0] at HL;refine HL.mono ?_;rintro e J ⟨A3,n3,c3,B3,m3,d3,l,rfl,a8,H2,X2,t2,p2⟩;have XX:Turn S w J:=(Qv (S:=S) bA).trans X2 λk R=>.inl R
  have N2:=(T1.below ((Below.refl _ _).alloc (Nat.le_refl _) (.cells #[.int .i64 G.lvl,.slice A n c,.slice B m K,.int .i64 E,.int .i64 (F:Int),.bool hd,.bool I] 129)) T1.lt).turned X2 (λh=>by have:=hS _ h;omega);clear c0 c1 a2 y0 x0 x1 x2 x3 x4 x5 x6 y HL hY;have zz:w.1.size+4<=J.1.size:=by have:=N1.lt;have:=X2.size;simp at this;omega
  replace f:=f.out
  cases r2 with
  |none=>
   dsimp only at f;obtain⟨rfl,rfl⟩:M=P'/\none=r:=by
    injection Option.some.inj f with e1 e2;exact⟨e1,e2⟩
   unfold Qaa;dsimp only;go_wp2_with (first
    |(refine q2a rfl _ _ rfl J.1.size rfl l A3 n3 c3 B3 m3 d3 rfl (NB.new J 0 none 0 0 none 0 0 127) ?_;intro w3 R3 T3)
    |fail)
   have b4:Below J.1.size J w3:=(Qm).trans (T3.below (λk R=>by have:k=J.1.size:=R;omega) (by simp));go_ret2;have F1:=H2.below b4;have F2:=XX.then (Qv (S:=S) b4);have F3:=t2.below b4 t2.1;exact⟨⟨0,rfl⟩,F1,F2,F3.1,F3.2⟩
  |some ks=>
   dsimp only at f;obtain⟨el,hq⟩:=a8 ks rfl;subst el;clear a8;have b6:0=n3:=hq.ln;subst b6;have c7:ks.length=m3:=hq.lm;have b8:=hq.hm;unfold Qaa;dsimp only;have b4:∀w3,Turn (λg=>g=J.1.size) (J.alloc (.cells #[.int .i64 0,.slice none 0 0,.slice none 0 0] 127)) w3->Below J.1.size J w3:=λw3 T3=>(Qm).trans (T3.below (λk R=>by have:k=J.1.size:=R;omega) (by simp))
   have HS:=λu=>q29 (N.lvl+1) A3 0 c3 B3 m3 d3 (by omega) (by omega) u
   rw[Nat.zero_add] at HS;unfold Xy at HS;replace HS:=Lib.hid HS;have y2:=N2.cell 0 rfl;go_wp2_with (first
    |(refine q2a rfl _ _ rfl J.1.size rfl (N.lvl+1) A3 0 c3 B3 m3 d3 rfl (NB.new J 0 none 0 0 none 0 0 127) ?_;intro w3 R3 T3;have r0:=R3.c0;have r1:=R3.c1;have r2:=R3.c2)
    |fail)
   refine (HS.out _).mono ?_;rintro e w4 ⟨rfl,b5⟩;have R4:=R3.below b5 R3.lt;have bb:=(b4 w3 T3).trans (b5.mono (b4 w3 T3).size);have H4:=H2.below bb;have t4:=t2.below bb t2.1;have X4:=XX.then (Qv (S:=S) bb);clear r0 r1 r2 HS;by_cases k0:ks.length=0
   ·rw[if_pos k0] at f;obtain⟨rfl,rfl⟩:M=P'/\some 0=r:=by
     injection Option.some.inj f with e1 e2;exact⟨e1,e2⟩
    obtain rfl:0=m3:=by omega
    go_wp2_with fail
    go_ret2;exact⟨0,rfl,(by first|rfl|(intro a e;exact Option.some.inj e)),H4,X4,t4,p2⟩
   ·rw[if_neg k0] at f;by_cases k1:ks.length=1
    ·rw[if_pos k1] at f;obtain⟨rfl,hr⟩:M=P'/\some (Qg ks 0).a=r:=by
      injection Option.some.inj f with e1 e2;exact⟨e1,e2⟩
     obtain rfl:1=m3:=by omega
     have b2:Turn S J w4:=Qv bb;obtain⟨g,o,rfl,hg,-,-,-,z3⟩:=(hq.Bo w4 b2).cell (show 0<1 by omega);rw[Nat.zero_mul,Nat.add_zero] at z3;have k2:=R4.c2;have hE:Qbp r=0:=by rw[<-hr];rfl
     obtain⟨v,hv⟩:∃v,(Qg ks 0).a=v:=⟨_,rfl⟩;have c9:w4.cell? ⟨g,o+3,none⟩=some (.int .i64 v):=by rw[<-hv];exact z3
     clear z3;go_wp2_with fail
     go_ret2;exact⟨v,by rw[hE];rfl,λa e=>(by rw[<-hr,hv] at e;exact Option.some.inj e),H4,X4,t4,p2⟩
    ·rw[if_neg k1] at f;have g0:¬(m3:Int)=0:=by omega
     have g1:¬(m3:Int)=1:=by omega
     have r0:=R4.c0;have r1:=R4.c1;have r2:=R4.c2;have y4:=(bb.cell (p:=⟨w.1.size,0,none⟩) N2.lt).trans y2;have Hp:=qcl H4 hb t4 ⟨N.lvl+1,[],ks⟩ A3 0 c3 B3 m3 d3 (λu hu=>⟨hq.its.Zq ((Qv (S:=S) bb).then hu),hq.Bo _ ((Qv (S:=S) bb).then hu)⟩) (by omega) (by omega);have p5:=p2.put ⟨N.lvl+1,[],ks⟩;have hc:(M.Jq ⟨N.lvl+1,[],ks⟩=0/\M.Zn ⟨N.lvl+1,[],ks⟩=P'/\some (M.Xg ⟨N.lvl+1,[],ks⟩)=r)\/(M.Jq ⟨N.lvl+1,[],ks⟩=6/\M.Zn ⟨N.lvl+1,[],ks⟩=P'/\none=r):=by
      by_cases e0:M.Jq ⟨N.lvl+1,[],ks⟩=0
      ·rw[if_pos e0] at f;injection Option.some.inj f with e1 e2;exact .inl ⟨e0,e1,e2⟩
      ·rw[if_neg e0] at f;by_cases e6:M.Jq ⟨N.lvl+1,[],ks⟩=6
       ·rw[if_pos e6] at f;injection Option.some.inj f with e1 e2;exact .inr ⟨e6,e1,e2⟩
       ·rw[if_neg e6] at f;cases f
     clear f;obtain⟨v,hv⟩:∃v,M.Xg ⟨N.lvl+1,[],ks⟩=v:=⟨_,rfl⟩;rw[hv] at hc Hp;rcases hc with⟨e0,rfl,rfl⟩|⟨e0,rfl,rfl⟩
     ·rw[e0] at Hp;go_wp2_with fail
      refine Hp.mono ?_;rintro e w5 ⟨rfl,H5,X5,t5⟩;go_wp2_with fail
      go_ret2;have F2:=X4.then X5;first|exact⟨v,rfl,λa e=>Option.some.inj e,H5,F2,t5,p5⟩|exact⟨rfl,H5,F2,t5,p5⟩|exact⟨v,rfl,rfl,H5,F2,t5,p5⟩
     ·rw[e0] at Hp;go_wp2_with fail
      refine Hp.mono ?_;rintro e w5 ⟨rfl,H5,X5,t5⟩;go_wp2_with fail
      go_ret2;have F2:=X4.then X5;first|exact⟨v,rfl,λa e=>(by cases e),H5,F2,t5,p5⟩|exact⟨v,rfl,H5,F2,t5,p5⟩
end
theorem TSp:Em Tryz.prog 123 129 7 80 (.agg #[.int .i64 0,.slice none 0 0,.slice none 0 0,.int .i64 0,.int .i64 0,.bool false,.bool false]):=⟨Tryz.underlying123,by kernel_rfl,rfl,by omega⟩
theorem qwk (s:Qu)(A:Option Addr)(n c:Nat)(B:Option Addr)(m d:Nat):∀u∈Ef s A n c B m d,u.oneCell'=true:=by
 intro u e;unfold Ef Ji at e;simp at e;rcases e with rfl|rfl|rfl|rfl|rfl|rfl|rfl<;>rfl
def Vk (Q:World->Prop)(w:World)(base:Nat)(A:Option Addr)(n c:Nat)(ss:List Qu):Prop:=
 ∃e,Qs w base 129 7 A n c e/\e.length=ss.length/\∀(j:Nat) r s,e[j]?=some r->ss[j]?=some s->∃A n c B m d,r=Ef s A n c B m d/\Jl Q s.N A n c B m d
section
variable {Q Q':World->Prop}{w w':World}{base n c:Nat}{A:Option Addr}{ss:List Qu}
theorem qtm (Q:World->Prop)(w:World)(base:Nat):Vk Q w base none 0 0 []:=⟨[],q10 _ _ _ _,rfl,λj r x e=>by simp at e⟩
theorem Vk.below (h:Vk Q w base A n c ss)(hb:Below w.1.size w w'):Vk Q w' base A n c ss:=by
 obtain⟨e,h1,h2⟩:=h;exact⟨e,h1.below hb,h2⟩
theorem Vk.turned {S:Nat->Prop}(h:Vk Q w base A n c ss)(T:Turn S w w')(hA:∀k,q01 A=some k->¬S k):Vk Q w' base A n c ss:=by
 obtain⟨e,h1,h2⟩:=h;exact⟨e,h1.turned T hA,h2⟩
theorem Vk.mono (h:Vk Q w base A n c ss)(hq:∀w,Q' w->Q w):Vk Q' w base A n c ss:=by
 obtain⟨f,h1,h2,u⟩:=h;refine⟨f,h1,h2,λj r s E F=>?_⟩;obtain⟨A,n,c,B,m,d,e,y⟩:=u j r s E F;exact⟨A,n,c,B,m,d,e,y.mono hq⟩
theorem Vk.spl (h:Vk Q w base A n c ss):Vj Q w A n c ss:=by
 obtain⟨e,h1,h2⟩:=h;exact⟨e,h1.Vs (by omega),h2⟩
theorem Vk.Qa (h:Vk Q w base A n c ss):∀k,q01 A=some k->base<=k/\k<w.1.size:=by
 obtain⟨e,h1,_⟩:=h;exact h1.Qa
theorem Vk.len (h:Vk Q w base A n c ss):ss.length=n:=h.spl.len
theorem qvc (w:World)(s:Qu)(A:Option Addr)(n c:Nat)(B:Option Addr)(m d:Nat):Jf (w.alloc (.cells #[.int .i64 s.N.lvl,.slice A n c,.slice B m d,.int .i64 s.addr,.int .i64 (s.next:Int),.bool s.held,.bool s.shared] 129)) 7 (some ⟨w.1.size,0,none⟩) 1 1 [Ef s A n c B m d]:=(q1q w 129 7 (Ef s A n c B m d) _ rfl rfl).Vs (by omega)
theorem q8o {ops:Array Oper}{f:List Oper}{o:Oper}{a:Act}{Q2:Exit->Act->World->Prop}(Z:o.guard=none)(so x:Operand)
  (ho:o.op=.call { callee:=.builtin .append,args:=#[so,x],argTypes:=#[123,123] })
  (hs:a.eval so=.slice A n c) (I:Vk Q w base A n c ss) {B:Option Addr} {d:Nat} (E:a.eval x=.slice B 1 d) {s:Qu} {U:Option Addr} {n1 c1:Nat} {W:Option Addr} {m1 X:Nat}
  (e:Jf w 7 B 1 d [Ef s U n1 c1 W m1 X]) (hq:Jl Q s.N U n1 c1 W m1 X) (hn:n<=1000) (m:base<=w.1.size)
  (h:∀G R w',Vk Q w' base G (n+1) R (ss++[s])->Turn (λk=>q01 A=some k) w w'->(q01 G=q01 A\/q01 G=some w.1.size)->wpList Tryz.prog ops Q2 f (a.put o.dst (.slice G (n+1) R)) w'):wpList Tryz.prog ops Q2 (o::f) a w:=by
 obtain⟨F,h1,h2,h3⟩:=I;refine wpList_plain Z λK hK=>?_
 have one:∀y∈[Ef s U n1 c1 W m1 X],∀u∈y,u.oneCell'=true:=λy hy=>by
  obtain rfl:=List.mem_singleton.1 hy;exact qwk _ _ _ _ _ _ _
 obtain⟨G,R,w',J,M,T,Y,_⟩:=q1w (P:=Tryz.prog) w TSp o.type base A n c F h1 B 1 d _ e (by omega) one (by omega) (by omega) m;unfold Oper.wp execOp;simp only[ho,resolve,invoke,builtin,Sem.run_bind,Sem.run_pure,Result.andThen_ok,List.map_toArray,List.map_cons,List.map_nil,hs,E,J];refine hK _ _ (h G R w' ⟨_,M,by simp[h2],λj r' x e E=>?_⟩ T Y);by_cases hj:j<F.length
 ·rw[List.getElem?_append_left hj] at e;rw[List.getElem?_append_left (by omega)] at E;exact h3 j r' x e E
 ·rw[List.getElem?_append_right (by omega)] at e E;have H:j-F.length=0:=by
   have:=(List.getElem?_eq_some_iff.1 e).1;simp at this;omega
  rw[H] at e;rw[<-h2,H] at E;obtain rfl:=Option.some.inj e;obtain rfl:=Option.some.inj E;exact⟨_,_,_,_,_,_,rfl,hq⟩
end
def Dq (Dt:Nat->Prop)(w:World):World->Prop:=Turn (λk=>¬Dt k) w
section
variable {Dt Dt' S:Nat->Prop}{w w' v:World}
theorem qao (T:Turn S w w')(e:∀k,S k->¬Dt k)(f:Dq Dt w' v):Dq Dt w v:=(T.mono e).then f
theorem qwl (h:Dq Dt' w v)(f:∀k,Dt k->Dt' k):Dq Dt w v:=h.mono λk e hd=>e (f k hd)
theorem qpr {lo:Nat}(h:Dq Dt w v)(hd:∀k,lo<=k->k<w.1.size->Dt k):Turn (λk=>k<lo) w v:=⟨h.os,h.tape,h.output,h.size,λk e hn=>h.block k e λf=>f (hd k (by omega) e)⟩
theorem qy3 {lo:Nat}(h:Turn (λk=>k<lo) w v)(hd:∀k,Dt k->lo<=k):Dq Dt w v:=h.mono λk f e=>by have:=hd k e;have:k<lo:=f;omega
end
def slN:Value->Nat
 |.slice _ n _=>n
 |_=>0
section
variable {b:Nat}{w:World}{d p:Nat}{S0 S T:Nat->Prop}{D:DM}{P:Pl}
theorem qtn {w:World}{e:Nat}{N:Nd}{f:Int}{y:Nat}{hd u:Bool}{A B:Option Addr}{n c m d:Nat}(H:RB w e (Ef ⟨N,f,y,hd,u⟩ A n c B m d))(t:Nat):RB (w.setCell ⟨e,4,none⟩ (.int .i64 (t:Int))) e (Ef ⟨N,f,t,hd,u⟩ A n c B m d)/\Turn (λk=>k=e) w (w.setCell ⟨e,4,none⟩ (.int .i64 (t:Int)))/\w.frozen? ⟨e,4,none⟩=false:=by
 refine⟨?_,Ez (a:=⟨e,4,none⟩) _ rfl,(H.there 4 (show 4<7 by omega)).2⟩;obtain⟨E,H⟩:=H;exact⟨E,Fa _ H⟩
theorem q95 (H:Qi b w d p S0 S T D P)(ht:Tab w)(d6:∀a b,P.L a=some b->b.kindOk)(M:∀a,P.Zh D a=0->(P.Qh D a).fit/\0<=(P.Qh D a).lvl/\(P.Qh D a).lvl<8)(root:Int)(k:Kd){up:List Qu}{s:Qu}(E:P.way D root k=some (up,s)) :
  Calls Tryz.prog 63 #[tv p,.int .i64 root,.agg #[.int .i64 k.obj,.int .i64 k.kind,.int .i64 k.off]] w λe w'=>∃X n c,e=.returned (.tuple #[.slice X n c,.int .i64 0])/\Vj (Turn (λk=>k<w.1.size) w') w' X n c (up.reverse++[s])/\(∀g,q01 X=some g->w.1.size<=g)/\Below w.1.size w w':=by
 have hS:=H.low;have b2:Below w.1.size w ((w.alloc (.cells #[.pointer (some ⟨p,0,none⟩)] 122)).alloc (.cells #[.int .i64 k.obj,.int .i64 k.kind,.int .i64 k.off] 30)):=(Qm).alloc (by simp) _;have T1:RB ((w.alloc (.cells #[.pointer (some ⟨p,0,none⟩)] 122)).alloc (.cells #[.int .i64 k.obj,.int .i64 k.kind,.int .i64 k.off] 30)) w.1.size [.pointer (some ⟨p,0,none⟩)]:=(RB.new w [.pointer (some ⟨p,0,none⟩)] 122).below (Qm) (by simp);have K1:RB ((w.alloc (.cells #[.pointer (some ⟨p,0,none⟩)] 122)).alloc (.cells #[.int .i64 k.obj,.int .i64 k.kind,.int .i64 k.off] 30)) (w.1.size+1) [.int .i64 k.obj,.int .i64 k.kind,.int .i64 k.off]:=by
  have:=RB.new (w.alloc (.cells #[.pointer (some ⟨p,0,none⟩)] 122)) [.int .i64 k.obj,.int .i64 k.kind,.int .i64 k.off] 30;rwa [World.size_alloc] at this
 have y0:=T1.cell 0 rfl;have c9:((w.alloc (.cells #[.pointer (some ⟨p,0,none⟩)] 122)).alloc (.cells #[.int .i64 k.obj,.int .i64 k.kind,.int .i64 k.off] 30)).1.size=w.1.size+1+1:=by simp
 unfold Pl.way at E;unfold tv;by_cases h0:root=0
 ·rw[if_pos h0] at E;subst h0;injection Option.some.inj E with e1 e2;subst e1 e2;clear E;go_enter Tryz.func63,Tryz.ntmps63
  go_wp2_with fail
  generalize ((w.alloc (.cells #[.pointer (some ⟨p,0,none⟩)] 122)).alloc (.cells #[.int .i64 k.obj,.int .i64 k.kind,.int .i64 k.off] 30))=w1 at b2 T1 K1 y0 c9 ⊢;have h1:=qi8 (S:=λk=>k<w.1.size) (w:=w1) (λk J=>by have J:k<w.1.size:=J;omega) (Q:=Turn (λk=>k<w.1.size) (w1.alloc (.cells #[.int .i64 0,.slice none 0 0,.slice none 0 0,.int .i64 0,.int .i64 0,.bool true,.bool true] 129))) q46 (qph _ 0) 129 _ (Turn.refl _ _);rw[c9] at h1;go_ret2;exact⟨some ⟨w.1.size+1+1,0,none⟩,1,1,rfl,h1,λg y=>(by injection y with y;have y:w.1.size+1+1=g:=y;omega),b2.alloc b2.size _⟩
 ·rw[if_neg h0] at E;have hE:P.Zh D root=0:=by
   refine Classical.byContradiction λhh=>?_
   rw[if_neg hh] at E;cases E
  rw[if_pos hE] at E;have Hr:=λ(u:World) (hu:Below w.1.size w u)=>qg5 (H.below hu) (ht.below hu ht.1) d6 root false hE
  unfold tv Vh at Hr;obtain⟨d3,d4,d5⟩:=M root hE;obtain⟨s0,e8⟩:∃s0,P.spot D root false=s0:=⟨_,rfl⟩;rw[e8] at E Hr;replace Hr:=Lib.hid Hr;replace E:=Lib.hid E;replace M:=Lib.hid M;go_enter Tryz.func63,Tryz.ntmps63
  go_wp2_with fail
  generalize ((w.alloc (.cells #[.pointer (some ⟨p,0,none⟩)] 122)).alloc (.cells #[.int .i64 k.obj,.int .i64 k.kind,.int .i64 k.off] 30))=w1 at b2 T1 K1 y0 c9 ⊢;refine (Hr.out w1 b2).mono ?_;rintro e F ⟨A,n,c,B,m,W,rfl,Y,b3⟩;have eN:P.Qh D root=s0.N:=by rw[<-e8];rfl
  rw[eN] at Y d3 d4 d5;go_wp2_with (first
   |(refine Oe rfl _ _ rfl F.1.size rfl s0.N.lvl A n c B m W s0.addr (s0.next:Int) s0.held s0.shared rfl (Ih F) rfl ?_;intro w3 R3 T3)
   |fail)
  have z3:=b3.size;have bA:Below F.1.size F w3:=((Below.refl _ _).alloc (Nat.le_refl _) Ud).trans (T3.below (λk J=>by have:k=F.1.size:=J;omega) (by simp));have B3:Below w1.1.size w1 w3:=b3.trans (bA.mono z3);have z4:=bA.size;have z5:=R3.lt;go_loopw [8,10] (λl e wr=>∃(f:Nat) (q:Qu) (a1:List Qu) (A:Option Addr) (n c:Nat) (B:Option Addr) (m W:Nat) (X:Option Addr) (nn cc:Nat) (Dt:Nat->Prop),l=.slice X nn cc/\e=.int .i64 0/\nn+f=8/\P.Gx D k f q a1=some (up,s)/\RB wr F.1.size (Ef q A n c B m W)/\Jl (Dq Dt wr) q.N A n c B m W/\Vk (Dq Dt wr) wr (F.1.size+1) X nn cc a1.reverse/\(∀k,Dt k->w.1.size<=k/\k<wr.1.size/\k≠F.1.size/\q01 X≠some k)/\q.N.fit/\0<=q.N.lvl/\q.N.lvl<8/\RB wr w.1.size [.pointer (some ⟨p,0,none⟩)]/\RB wr (w.1.size+1) [.int .i64 k.obj,.int .i64 k.kind,.int .i64 k.off]/\Below w.1.size w wr/\F.1.size+1<=wr.1.size) (λl _ _=>8-slN l)
  case atStart=>
   refine⟨8,s0,[],A,n,c,B,m,W,none,0,0,λk=>w1.1.size<=k/\k<F.1.size,rfl,rfl,rfl,E.out,R3,Y.mono λv hv=>qpr (w:=F) (qao (S:=λ_=>False) (Qv bA) (λ_ h=>h.elim) hv) λk h1 h2=>⟨h1,h2⟩,qtm _ _ _,λk J=>⟨by omega,by omega,by omega,λh=>by cases h⟩,d3,d4,d5,T1.below B3 T1.lt,K1.below B3 K1.lt,b2.trans (B3.mono b2.size),by omega⟩
  case round=>
   clear R3 T3 Y E;obtain⟨f,q,a1,A,n,c,B,m,W,X,nn,cc,Dt,rfl,rfl,i3,E,Z,Y,row,I,d8,g8,d9,TT,KK,hb,i4⟩:=hrel;obtain⟨N,K,nx,hd,U⟩:=q;have e0:=Z.cell 0 rfl;have e1:=Z.cell 1 rfl;have e2:=Z.cell 2 rfl;have e3:=Z.cell 3 rfl;have e4:=Z.cell 4 rfl;have e5:=Z.cell 5 rfl;have e6:=Z.cell 6 rfl;have y0:=TT.cell 0 rfl;have k0:=KK.cell 0 rfl;have k1:=KK.cell 1 rfl;have k2:=KK.cell 2 rfl;have g7:=Y.hn;have g6:=Y.hm;dsimp only at d8 g8 d9 g7 g6 Y;by_cases b0:N.lvl<=0
   ·have y:¬(0:Int)<N.lvl:=by omega
    obtain⟨rfl,rfl⟩:a1=up/\(⟨N,K,nx,hd,U⟩:Qu)=s:=by
     cases f with
     |zero=>unfold Pl.Gx at E;rw[if_pos b0] at E;injection Option.some.inj E with e1 e2;exact⟨e1,e2⟩
     |succ f=>unfold Pl.Gx at E;rw[if_pos b0] at E;injection Option.some.inj E with e1 e2;exact⟨e1,e2⟩
    clear E;have bL:Below wr.1.size wr (wr.alloc (.cells #[.int .i64 N.lvl,.slice A n c,.slice B m W,.int .i64 K,.int .i64 (nx:Int),.bool hd,.bool U] 129)):=Qm;have G:=row.Qa;go_wp2_with (first
     |(at_builtin;refine q8o (s:=⟨N,K,nx,hd,U⟩) rfl _ _ rfl rfl (row.below bL) rfl (qvc wr ⟨N,K,nx,hd,U⟩ A n c B m W) Y (by omega) (by have:=bL.size;omega) ?_;intro X2 f4 w4 b8 T4 _)
     |fail)
    have TW:Turn (λg=>q01 X=some g) wr w4:=(Qv (S:=λg=>q01 X=some g) bL).trans T4 λk J=>.inl J
    have bw:Below w.1.size wr w4:=TW.below (λg y=>by have:=(G g y).1;omega) (by omega);go_ret2;refine⟨X2,nn+1,f4,rfl,(b8.mono λv hv=>?_).spl,λg y=>by have:=(b8.Qa g y).1;omega,hb.trans bw⟩;exact qao TW (λg y hd=>(I g hd).2.2.2 y) (qy3 hv λg y=>(I g y).1)
   ·have y:(0:Int)<N.lvl:=by omega
    cases f with
    |zero=>unfold Pl.Gx at E;rw[if_neg b0] at E;cases E
    |succ f=>
     unfold Pl.Gx at E;rw[if_neg b0] at E;dsimp only at E;obtain⟨t,c8⟩:∃t,N.Za k=t:=⟨_,rfl⟩;rw[c8] at E;have b5:P.Wn D ⟨N,K,nx,hd,U⟩ t=true:=by
      refine Classical.byContradiction λhh=>?_
      rw[if_neg hh] at E;cases E
     rw[if_pos b5] at E;have a7:P.Wn D ⟨N,K,t,hd,U⟩ t=true:=b5;obtain⟨rr,e7⟩:∃rr,Vb N.keys k t=rr:=⟨_,rfl⟩;have HC:=q22 N d8 k t c8 rr e7 A n c B m W wr (Y.its.Zq (Turn.refl _ _)) (Y.Bo _ (Turn.refl _ _)) (by omega) (by omega);have G:=row.Qa;obtain⟨ks,a8⟩:∃ks,P.Jj D ⟨N,K,t,hd,U⟩ t=ks:=⟨_,rfl⟩;have b6:P.Jj D ⟨N,K,nx,hd,U⟩ t=ks:=a8;rw[b6] at E;obtain⟨g1,g2,g3⟩:=M.out (Qg N.kids t).a (of_decide_eq_true a7).2.1;have eK:P.Qh D (Qg N.kids t).a=ks.N:=by rw[<-a8];rfl
     rw[eK] at g1 g2 g3;replace E:=Lib.hid E;replace a7:=Lib.hid a7;clear b6 c8 e7 eK;go_wp2_with fail
     refine HC.mono ?_;rintro e w4 ⟨rfl,b4⟩;obtain⟨R5,T5,i1⟩:=qtn (Z.below b4 Z.lt) t;have p4:=(Z.below b4 Z.lt).cell 4 rfl;have i5:=b4.size;have d0:Turn (λg=>g=F.1.size) wr (w4.setCell ⟨F.1.size,4,none⟩ (.int .i64 (t:Int))):=(Qv (S:=λg=>g=F.1.size) b4).trans T5 λk J=>.inl J
     clear e0 e1 e2 e3 e4 e5 e6 y0 k0 k1 k2;have e0:=R5.cell 0 rfl;have e1:=R5.cell 1 rfl;have e2:=R5.cell 2 rfl;have e3:=R5.cell 3 rfl;have e4:=R5.cell 4 rfl;have e5:=R5.cell 5 rfl;have e6:=R5.cell 6 rfl;have i7:=T5.size;have bL:Below (w4.setCell ⟨F.1.size,4,none⟩ (.int .i64 (t:Int))).1.size (w4.setCell ⟨F.1.size,4,none⟩ (.int .i64 (t:Int))) ((w4.setCell ⟨F.1.size,4,none⟩ (.int .i64 (t:Int))).alloc (.cells #[.int .i64 N.lvl,.slice A n c,.slice B m W,.int .i64 K,.int .i64 (t:Int),.bool hd,.bool U] 129)):=Qm;have e9:=(row.turned d0 (λg y h=>by have h:g=F.1.size:=h;have:=(G g y).1;omega)).below bL;have i6:=bL.size;have R:=qvc (w4.setCell ⟨F.1.size,4,none⟩ (.int .i64 (t:Int))) ⟨N,K,t,hd,U⟩ A n c B m W;have c6:(w4.setCell ⟨F.1.size,4,none⟩ (.int .i64 (t:Int))).1.size=w4.1.size:=by simp[World.setCell]
     rw[c6] at R;replace R:=Lib.hid R;replace c6:=Lib.hid c6;go_wp2_with (first
      |(at_builtin;refine q8o (s:=⟨N,K,t,hd,U⟩) rfl _ _ rfl rfl e9 rfl R.out Y (by omega) (by omega) ?_;intro X6 f9 w6 b9 T6 g0
        have i8:=T6.size;have R6:=(R5.below bL R5.lt).turned T6 (λh=>by have:=(G _ h).1;omega);have f2:Turn (λg=>q01 X=some g) (w4.setCell ⟨F.1.size,4,none⟩ (.int .i64 (t:Int))) w6:=(Qv (S:=λg=>q01 X=some g) bL).trans T6 λk J=>.inl J
        have a2:Turn (λg=>g=F.1.size\/q01 X=some g) wr w6:=(d0.mono λk J=>.inl J).trans f2 λk J=>.inl (.inr J)
        have i0:=TT.turned a2 (λh=>h.elim (λh=>by omega) λh=>by have:=(G _ h).1;omega);have y6:=i0.cell 0 rfl;have s0:=R6.cell 0 rfl;have s1:=R6.cell 1 rfl;have s2:=R6.cell 2 rfl;have s3:=R6.cell 3 rfl;have s4:=R6.cell 4 rfl;have s5:=R6.cell 5 rfl;have s6:=R6.cell 6 rfl)
      |fail)
     have g4:Below w.1.size wr w6:=a2.below (λg y=>y.elim (λh=>by omega) λh=>by have:=(G g h).1;omega) (by omega);have B6:=hb.trans g4;have d1:∀g,(g=F.1.size\/q01 X=some g)->¬Dt g:=λg y hd=>y.elim (I g hd).2.2.1 (I g hd).2.2.2
     have HK:=qk4 (H.below B6) (ht.below B6 ht.1) d6 ⟨N,K,t,hd,U⟩ A n c B m W (λv hv=>Y.Bo v (qao a2 d1 (hv.mono λg y hd=>by have:=(I g hd).1;have:=hS g y;omega))) ⟨by show 1<=N.lvl;omega,d9⟩ t a7.out;unfold tv Vh at HK;rw[a8] at HK;refine HK.mono ?_;rintro e w7 ⟨A7,n7,c7,B7,m7,d7,rfl,g9,b7⟩;have i9:=b7.size;have R7:=R6.below b7 R6.lt;clear s0 s1 s2 s3 s4 s5 s6 e0 e1 e2 e3 e4 e5 e6 y6 HK;go_wp2_with (first
      |(refine Oe rfl _ _ rfl F.1.size rfl ks.N.lvl A7 n7 c7 B7 m7 d7 ks.addr (ks.next:Int) ks.held ks.shared rfl R7 rfl ?_;intro w8 R8 T8)
      |fail)
     have j0:=T8.size;have f0:=b9.below b7;have b1:=b9.Qa;have f1:=f0.turned T8 (λg y h=>by have h:g=F.1.size:=h;have:=(b1 g y).1;omega);have f3:Turn (λg=>g=F.1.size\/q01 X=some g) wr w7:=a2.then (Qv b7);have a6:Turn (λg=>g=F.1.size\/q01 X=some g) wr w8:=f3.then (T8.mono λg y=>.inl y);have g5:Below w.1.size wr w8:=a6.below (λg y=>y.elim (λh=>by omega) λh=>by have:=(G g h).1;omega) (by omega);have d2:∀g,g<=w.1.size+1->¬(g=F.1.size\/q01 X=some g):=λg y h=>h.elim (λh=>by omega) λh=>by have:=(G _ h).1;omega
     refine⟨⟨f,ks,⟨N,K,t,hd,U⟩::a1,A7,n7,c7,B7,m7,d7,X6,nn+1,f9,λg=>Dt g\/(w6.1.size<=g/\g<w7.1.size),rfl,rfl,by omega,E.out,R8,?_,?_,λg y=>?_,g1,g2,g3,TT.turned a6 (d2 _ (by omega)),KK.turned a6 (d2 _ (by omega)),hb.trans g5,by omega⟩,by show 8-(nn+1)<8-nn;omega⟩
     ·have i2:P.Jj D ⟨N,K,t,hd,U⟩ t=ks:=a8;exact g9.mono λv hv=>qpr (w:=w7) (qao T8 (λg y hd=>by
       have y:g=F.1.size:=y;exact hd.elim (λh=>(I g h).2.2.1 y) λh=>by omega) hv) λg h1 h2=>.inr ⟨h1,h2⟩
     ·rw[List.reverse_cons];exact f1.mono λv hv=>qao a6 d1 (qwl hv λg y=>.inl y)
     ·rcases y with y|y
      ·have hd:=I g y;refine⟨hd.1,by omega,hd.2.2.1,λh=>?_⟩;rcases g0 with e|e
       ·exact hd.2.2.2 (e▸h)
       ·rw[e] at h;injection h with h;omega
      ·exact⟨by omega,by omega,by omega,λh=>by have:=(b1 g h).2;omega⟩
end
structure Ro (w0 w:World)(p:Nat)(s above:List Value)(l:Int)(A:Option Addr)(n c:Nat)(B:Option Addr)(m d:Nat):Prop where
 t:RB w w0.heap.size [.pointer (some ⟨p,0,none⟩)]
 s:RB w (w0.heap.size+1) s
 n:NB w (w0.heap.size+1+1) l A n c B m d
 a:RB w (w0.heap.size+1+1+1) above
 x:RB w (w0.heap.size+1+1+1+1) (Xl 0 none 0 0 none 0 0 none 0 0 0 0)
theorem Ro.new (w:World)(p:Nat)(s above:List Value)(l:Int)(A:Option Addr)(n c:Nat)(B:Option Addr)(m d:Nat)(t1 t2 t3 t4 t5:TypeId) :
  Ro w (((((w.alloc (.cells #[.pointer (some ⟨p,0,none⟩)] t1)).alloc (.cells s.toArray t2)).alloc (.cells #[.int .i64 l,.slice A n c,.slice B m d] t3)).alloc (.cells above.toArray t4)).alloc (.cells (Xl 0 none 0 0 none 0 0 none 0 0 0 0).toArray t5)) p s above l A n c B m d:=by
 have E:=RB.new w [.pointer (some ⟨p,0,none⟩)] t1;have e:=RB.new (w.alloc (.cells #[.pointer (some ⟨p,0,none⟩)] t1)) s t2;have f:=NB.new2 (w.alloc (.cells #[.pointer (some ⟨p,0,none⟩)] t1)) (.cells s.toArray t2) l A n c B m d t3;have u:=RB.new (((w.alloc (.cells #[.pointer (some ⟨p,0,none⟩)] t1)).alloc (.cells s.toArray t2)).alloc (.cells #[.int .i64 l,.slice A n c,.slice B m d] t3)) above t4;have y:=RB.new ((((w.alloc (.cells #[.pointer (some ⟨p,0,none⟩)] t1)).alloc (.cells s.toArray t2)).alloc (.cells #[.int .i64 l,.slice A n c,.slice B m d] t3)).alloc (.cells above.toArray t4)) (Xl 0 none 0 0 none 0 0 none 0 0 0 0) t5;simp only[World.size_alloc] at e f u y;have up:∀(v:World) (o:Obj),Below v.1.size v (v.alloc o):=λv o=>Qm
 exact⟨(((E.below (up _ _) (by simp<;>omega)).below (up _ _) (by simp<;>omega)).below (up _ _) (by simp<;>omega)).below (up _ _) (by simp<;>omega),((e.below (up _ _) (by simp<;>omega)).below (up _ _) (by simp<;>omega)).below (up _ _) (by simp<;>omega),(f.below (up _ _) (by simp<;>omega)).below (up _ _) (by simp<;>omega),u.below (up _ _) (by simp<;>omega),y⟩
theorem Ro.below {w0 w w':World}{p:Nat}{s above:List Value}{l:Int}{A:Option Addr}{n c:Nat}{B:Option Addr}{m d:Nat}(h:Ro w0 w p s above l A n c B m d)(hb:Below w.1.size w w'):Ro w0 w' p s above l A n c B m d:=⟨h.t.below hb h.t.lt,h.s.below hb h.s.lt,h.n.below hb h.n.lt,h.a.below hb h.a.lt,h.x.below hb h.x.lt⟩
section
variable {b:Nat}{w:World}{d p:Nat}{S0 S T:Nat->Prop}{D:DM}{P P':Pl}
theorem qmf (H:Qi b w d p S0 S T D P)(_:Tab w)(s:Qu)(A:Option Addr)(n c:Nat)(B:Option Addr)(m dd:Nat)(hs:Jl (Turn S w) s.N A n c B m dd)(N:Nd)(I:Option Addr)(G c2:Nat)(J:Option Addr)(F K:Nat)(hB:Jl (Turn S w) N I G c2 J F K)(above:Qu)(A3:Option Addr)(n3 c3:Nat)(W:Option Addr)(m3 d3:Nat)(b6:above.next<=60)(b1:Qr N.lvl<=N.size) :
  Calls Tryz.prog 110 #[tv p,Vh s A n c B m dd,Xy N.lvl I G c2 J F K,Vh above A3 n3 c3 W m3 d3] w λe w'=>∃Y,e=.returned (.tuple #[.agg (Xl N.lvl I G c2 J F K Y 1 1 (above.next:Int) ((above.next+1:Nat):Int)).toArray,.int .i64 0])/\Jl (Turn S w') N I G c2 J F K/\(∀u,Turn S w' u->Vj (Turn S w') u Y 1 1 [s])/\Below w.1.size w w':=by
 obtain⟨sN,ad,nx,hd,sh⟩:=s;obtain⟨aN,a1,f,a2,a7⟩:=above;have hS:=H.low;have b9:=hB.hn;have b8:=hB.hm;have b4:=hB.size;dsimp only at b6 ⊢;obtain⟨le,E⟩:∃le,Qr N.lvl=le:=⟨_,rfl⟩;rw[E,b4] at b1;clear b4;have HL:=λu=>q3d N.lvl I G c2 J F K u
 rw[E] at HL;have HS:=λu=>q29 N.lvl I G c2 J F K (by omega) (by omega) u
 obtain⟨z,hz⟩:∃z,G+F=z:=⟨_,rfl⟩;rw[hz] at HS b1;clear hz E;have Z:=Ro.new w p (Ji sN.lvl A n c B m dd ad (nx:Int) hd sh) (Ji aN.lvl A3 n3 c3 W m3 d3 a1 (f:Int) a2 a7) N.lvl I G c2 J F K 122 129 127 129 183;have b0:Below w.1.size w (((((w.alloc (.cells #[.pointer (some ⟨p,0,none⟩)] 122)).alloc (.cells (Ji sN.lvl A n c B m dd ad (nx:Int) hd sh).toArray 129)).alloc (.cells #[.int .i64 N.lvl,.slice I G c2,.slice J F K] 127)).alloc (.cells (Ji aN.lvl A3 n3 c3 W m3 d3 a1 (f:Int) a2 a7).toArray 129)).alloc (.cells (Xl 0 none 0 0 none 0 0 none 0 0 0 0).toArray 183)):=((((Qm).alloc (by simp) _).alloc (by simp;omega) _).alloc (by simp;omega) _).alloc (by simp;omega) _;have hi:IntKind.i64.wrap ((f:Int)+1)=((f+1:Nat):Int):=by rw[show (f:Int)+1=((f+1:Nat):Int) by omega];exact IntWalk.i64_in _ (by omega)
 obtain⟨a6,X⟩:∃a6,f+1=a6:=⟨_,rfl⟩;rw[X] at hi ⊢;clear X;unfold Xy at HL HS;replace HL:=Lib.hid HL;replace HS:=Lib.hid HS;have b7:(le:Int)<=(z:Int):=by omega
 have k0:=Z.n.c0;have k1:=Z.n.c1;have k2:=Z.n.c2;unfold tv Vh Xy;dsimp only;unfold Ji at Z b0;unfold Xl at Z b0;go_enter Tryz.func110,Tryz.ntmps110
 go_wp2_with fail
 generalize (((((w.alloc (.cells #[.pointer (some ⟨p,0,none⟩)] 122)).alloc (.cells #[.int .i64 sN.lvl,.slice A n c,.slice B m dd,.int .i64 ad,.int .i64 (nx:Int),.bool hd,.bool sh] 129)).alloc (.cells #[.int .i64 N.lvl,.slice I G c2,.slice J F K] 127)).alloc (.cells #[.int .i64 aN.lvl,.slice A3 n3 c3,.slice W m3 d3,.int .i64 a1,.int .i64 (f:Int),.bool a2,.bool a7] 129)).alloc (.cells #[.int .i64 0,.slice none 0 0,.slice none 0 0,.slice none 0 0,.int .i64 0,.int .i64 0] 183))=w1 at Z b0 k0 k1 k2 ⊢;refine (HL.out w1).mono ?_;rintro e w2 ⟨rfl,b2⟩;have E2:=Z.below b2;clear k0 k1 k2;have k0:=E2.n.c0;have k1:=E2.n.c1;have k2:=E2.n.c2;have a4:=E2.a.cell 4 rfl;go_wp2_with fail
 refine (HS.out w2).mono ?_;rintro e U ⟨rfl,b3⟩;have y:=E2.below b3;clear k0 k1 k2 a4;have k0:=y.n.c0;have k1:=y.n.c1;have k2:=y.n.c2;have s0:=y.s.cell 0 rfl;have s1:=y.s.cell 1 rfl;have s2:=y.s.cell 2 rfl;have s3:=y.s.cell 3 rfl;have s4:=y.s.cell 4 rfl;have s5:=y.s.cell 5 rfl;have s6:=y.s.cell 6 rfl;have W:=b0.trans ((b2.trans (b3.mono b2.size)).mono b0.size);have bL:Below U.1.size U (U.alloc (.cells #[.int .i64 sN.lvl,.slice A n c,.slice B m dd,.int .i64 ad,.int .i64 (nx:Int),.bool hd,.bool sh] 129)):=Qm;have E4:=y.below bL;have a8:∀k,S k->k<U.1.size:=λk M=>by have:=hS k M;have:=W.size;omega
 clear HL HS;go_wp2_with (first
  |(refine q8l rfl _ _ rfl (w.1.size+1+1+1+1) rfl N.lvl I G c2 J F K (some ⟨U.1.size,0,none⟩) 1 1 (f:Int) (a6:Int) rfl E4.x rfl ?_;intro w5 R5 T5)
  |fail)
 refine bodyPost_ret (q16 Tryz.results110 rfl (qhz R5)) rfl ?_;have BL:=W.trans (bL.mono W.size);have b5:Below w.1.size w w5:=BL.trans (T5.below (λk M=>by have M:k=w.1.size+1+1+1+1:=M;omega) (by have:=BL.size;omega));have c6:∀k,S k->k=w.1.size+1+1+1+1->False:=λk M e=>by have:=hS k M;omega
 refine⟨some ⟨U.1.size,0,none⟩,rfl,hB.mono λv hv=>(Qv (S:=S) b5).trans hv λk M=>.inl M,λu hu=>?_,b5⟩;have h1:=qi8 a8 (Q:=Turn S w5) ⟨sN,ad,nx,hd,sh⟩ (hs.mono λv hv=>(Qv (S:=S) b5).trans hv λk M=>.inl M) 129 _ (Turn.refl _ _);have c7:w.1.size+1+1+1+1<U.1.size:=y.x.lt;exact (h1.turned T5 (λg R h=>by injection R with R;have R:U.1.size=g:=R;have h:g=w.1.size+1+1+1+1:=h;omega)).turned hu (λg R h=>by injection R with R;have R:U.1.size=g:=R;have:=a8 g h;omega)
end
theorem qi9 {P:Pl}{D:DM}(hm:∀a,P.Zh D a=0->(P.Qh D a).may=true):∀a,P.Zh D a=0->(P.Qh D a).fit/\0<=(P.Qh D a).lvl/\(P.Qh D a).lvl<8:=λa h=>by
 have hm:=hm a h;refine⟨Nj hm,?_⟩;unfold Nd.may at hm;by_cases h0:(P.Qh D a).lvl=0
 ·omega
 ·rw[if_neg h0] at hm;simp only[Bool.and_eq_true,decide_eq_true_eq] at hm;omega
def Qdo (w:World)(g n c:Nat)(l:List Bool):Prop:=w.ownsRow 0 4 1 (.slice (some ⟨g,0,none⟩) n c) n (l.map Value.bool)
section
variable {w w':World}{g n c:Nat}{l:List Bool}
theorem Qdo.len (h:Qdo w g n c l):l.length=n:=by have:=h.1;simpa using this
theorem Qdo.lt (h:Qdo w g n c l):g<w.1.size:=by
 rcases h.2 with⟨f,_⟩|⟨y,cap,m,f,_,u,_⟩
 ·injection f with e;cases e
 ·injection f with e;injection e with e;injection e with e;subst e;exact (Array.getElem?_eq_some_iff.1 u).1
theorem Qdo.keep (h:Qdo w g n c l)(hk:w'.1[g]?=w.1[g]?):Qdo w' g n c l:=q30 h λq e=>by
 have:q=g:=by
  have:(Value.slice (some ⟨g,0,none⟩) n c).ownBlock=some g:=rfl;rw[this] at e;exact (Option.some.inj e).symm
 rw[this];exact hk
theorem Qdo.at_ (h:Qdo w g n c l){j:Nat}(hj:j<n):w.cell? ⟨g,j,none⟩=some (.bool (l.getD j false))/\w.frozen? ⟨g,j,none⟩=false:=by
 have e:=h.len;refine⟨?_,World.ownsRow.frozenAt h j⟩;rw[World.ownsRow.cellAt h j (by omega),List.getElem?_map,List.getElem?_eq_getElem (by omega),List.getD_eq_getElem?_getD,List.getElem?_eq_getElem (by omega)];rfl
theorem Qdo.Vr (h:Qdo w g n c l)(j:Nat)(x:Bool):Qdo (w.setCell ⟨g,j,none⟩ (.bool x)) g n c (l.set j x):=by
 unfold Qdo;rw[List.map_set];exact (World.ownsRow.stored h j (.bool x)).1
end
theorem Qf8:Em Tryz.prog 72 4 1 1 (.bool false):=⟨Tryz.underlying72,by kernel_rfl,rfl,by omega⟩
theorem Qfp (n:Nat):(madeCells (Value.bool false).cells (n*1)).toList=(List.replicate n false).map Value.bool:=by
 rw[show (Value.bool false).cells=#[.bool false] from rfl,Nat.mul_one,toList_madeCells_one];simp
theorem Qel {w:World}{ops:Array Oper}{e:List Oper}{o:Oper}{a:Act}{Q:Exit->Act->World->Prop}
  (I:o.guard=none) (l c:Operand) (u:o.op=Op.makeSlice 72 l c) (n:Nat) (M:a.eval l=.int .i64 (n:Int)) (H:a.eval c=.int .i64 (n:Int)) (U:n<=1000000)
  (G:∀w',Qdo w' w.1.size n n (List.replicate n false)->Below w.1.size w w'->wpList Tryz.prog ops Q e (a.put o.dst (.slice (some ⟨w.1.size,0,none⟩) n n)) w'):wpList Tryz.prog ops Q (o::e) a w:=
 wpList_plain I λK m=>by
  obtain⟨i,J,y,B,E⟩:=info_parts Qf8.info;obtain⟨w',f,F,R⟩:=run_make_full (P:=Tryz.prog) w w.1.size 72 4 i _ 1 Qf8.sl J y B .i64 .i64 n (by rw[E];omega) (by unfold maxLen;omega) (Nat.le_refl _);rw[Qfp] at F;unfold Oper.wp;simp[execOp,u,M,H,f,Result.andThen];exact m _ _ (G w' (qr6 F (Nat.zero_le _)) ((Below.refl _ _).grown R (Nat.le_refl _) (by simp)))
def Qdw (bs:List Bool):Nat->Bool:=λb=>bs.getD b false
def Qdj (bs:List Bool):Nat:=bs.countP λb=>!b
theorem Qf0 {bs:List Bool}{q:Nat}(f:q<bs.length):Qdw (bs.set q true)=see (Qdw bs) q:=by
 funext b
 unfold Qdw see;by_cases e:b=q
 ·subst e;rw[if_pos rfl,List.getD_eq_getElem?_getD,List.getElem?_set_self f];rfl
 ·rw[if_neg e,List.getD_eq_getElem?_getD,List.getElem?_set_ne (λh=>e h.symm)];exact (List.getD_eq_getElem?_getD ..).symm
theorem Qef:∀{bs:List Bool} {q:Nat},q<bs.length->Qdw bs q=false->Qdj (bs.set q true)+1=Qdj bs
 |[],q,hq,_=>absurd hq (Nat.not_lt_zero _)
 |b::bs,0,_,h=>by
  have h:b=false:=h;subst h;unfold Qdj;simp
 |b::bs,q+1,hq,h=>by
  have e:=Qef (bs:=bs) (q:=q) (Nat.lt_of_succ_lt_succ hq) h;unfold Qdj at e ⊢;rw[List.set_cons_succ,List.countP_cons,List.countP_cons];omega
def Qet (w:World)(g:Nat):Nat:=(List.range 2048).countP λb=>match w.cell? ⟨g,b,none⟩ with
 |some (.bool false)=>true
 |_=>false
theorem count_range:∀(bs:List Bool),(List.range bs.length).countP (λb=>!(bs.getD b false))=Qdj bs
 |[]=>rfl
 |b::bs=>by
  have e:=count_range bs;rw[List.length_cons,List.range_succ_eq_map,List.countP_cons,List.countP_map];unfold Qdj at e ⊢;rw[List.countP_cons,<-e];rfl
theorem Qdi {w:World}{g c:Nat}{bs:List Bool}(h:Qdo w g 2048 c bs):Qet w g=Qdj bs:=by
 rw[<-count_range,h.len];unfold Qet;refine List.countP_congr λb e=>?_
 have e:=List.mem_range.1 e;rw[(h.at_ e).1]
 cases bs.getD b false<;>simp
theorem Dy.turned {Q:World->Prop}{w w':World}{base n c:Nat}{A:Option Addr}{Ns:List (Int × Nd)}(h:Dy Q w base A n c Ns){S:Nat->Prop}(T:Turn S w w')(hA:∀k,q01 A=some k->¬S k):Dy Q w' base A n c Ns:=by
 obtain⟨e,h1,h2,f⟩:=h;exact⟨e,h1.turned T hA,h2,f⟩
theorem Dy.Qa {Q:World->Prop}{w:World}{base n c:Nat}{A:Option Addr}{Ns:List (Int × Nd)}(h:Dy Q w base A n c Ns):∀k,q01 A=some k->base<=k/\k<w.1.size:=by
 obtain⟨e,h1,_⟩:=h;exact h1.Qa
theorem Qek {Q:World->Prop}{w:World}{ops:Array Oper}{m:List Oper}{o:Oper}{a:Act}{Y:Exit->Act->World->Prop}(W:o.guard=none)(X x:Operand)
  (ho:o.op=.call { callee:=.builtin .append,args:=#[X,x],argTypes:=#[34,34] })
  (base:Nat) (A:Option Addr) (n c:Nat) (Ns:List (Int × Nd)) (hs:a.eval X=.slice A n c) (K:Dy Q w base A n c Ns)
  (B:Option Addr) (d:Nat) (N:Int × Nd) (r:List Value) (F:a.eval x=.slice B 1 d) (f:Jf w 4 B 1 d [r]) (Z:Rl Q r N) (hn:n<=100000) (E:base<=w.1.size)
  (h:∀H R w',Dy Q w' base H (n+1) R (Ns++[N])->Turn (λk=>q01 A=some k) w w'->(q01 H=q01 A\/q01 H=some w.1.size)->wpList Tryz.prog ops Y m (a.put o.dst (.slice H (n+1) R)) w'):wpList Tryz.prog ops Y (o::m) a w:=by
 obtain⟨G,h1,h2,h3⟩:=K;have J:∀y∈[r],∀u∈y,u.oneCell'=true:=by
  obtain⟨A1,n1,c1,B1,m1,d1,e,_⟩:=Z;subst e;exact Qfu _ _ _ _ _ _ _ _
 refine qa4 w TAn W X x ho base A n c G hs h1 B 1 d [r] F f (by omega) J (by omega) (by omega) E ?_;intro H R w' M T U _;refine h H R w' ⟨_,M,by simp[h2],λj r' x f F=>?_⟩ T U;by_cases hj:j<G.length
 ·rw[List.getElem?_append_left hj] at f;rw[List.getElem?_append_left (by omega)] at F;exact h3 j r' x f F
 ·rw[List.getElem?_append_right (by omega)] at f F;have I:j-G.length=0:=by
   have:=(List.getElem?_eq_some_iff.1 f).1;simp at this;omega
  rw[I] at f;rw[<-h2,I] at F;obtain rfl:r=r':=by simpa using f
  obtain rfl:N=x:=by simpa using F
  exact Z
theorem Qeg {w:World}{ops:Array Oper}{f:List Oper}{o:Oper}{a:Act}{Q:Exit->Act->World->Prop}(I:o.guard=none)(J x:Operand)
  (M:o.op=.call { callee:=.builtin .append,args:=#[J,x],argTypes:=#[36,36] })
  (base:Nat) (A:Option Addr) (n c:Nat) (zs:List Int) (U:a.eval J=.slice A n c) (F:Qs w base 3 1 A n c (zs.map iv))
  (B:Option Addr) (d:Nat) (y:Int) (X:a.eval x=.slice B 1 d) (R:Rt w B 1 d [y]) (hn:n<=900000) (m:base<=w.1.size)
  (h:∀E G w',Qs w' base 3 1 E (n+1) G ((zs++[y]).map iv)->Turn (λk=>q01 A=some k) w w'->(q01 E=q01 A\/q01 E=some w.1.size)->wpList Tryz.prog ops Q f (a.put o.dst (.slice E (n+1) G)) w'):wpList Tryz.prog ops Q (o::f) a w:=by
 refine qa4 w Qbu I J x M base A n c (zs.map iv) U F B 1 d ([y].map iv) X R (by omega) (λz Y u W=>?_) (by omega) (by decide) m ?_
 ·obtain⟨K,_,rfl⟩:=List.mem_map.1 Y;exact qv2 K (iv K) (List.mem_cons_self ..) u W
 ·intro E G w' e T H _;rw[<-List.map_append] at e;exact h E G w' e T H
theorem Qd9 {Dt:Nat->Prop}{w w' v:World}(e:Below w.1.size w w')(f:Dq Dt w' v):Dq Dt w v:=qao (Qv (S:=λ_=>False) e) (λ_ h=>h.elim) f
structure Qdl (base gs:Nat)(w:World)(A:Option Addr)(n c:Nat)(todo:List Int)(O:Option Addr)(on oc:Nat)(Ns:List (Int × Nd))(bs:List Bool)(Dt:Nat->Prop):Prop where
 row:Qs w base 3 1 A n c (todo.map iv)
 rowA:∀k,q01 A=some k->k≠gs/\¬Dt k/\q01 O≠some k
 out_:Dy (Dq Dt w) w base O on oc Ns
 outA:∀k,q01 O=some k->k≠gs/\¬Dt k
 Qdh:Qdo w gs 2048 2048 bs
 gsA:base<=gs/\¬Dt gs
 dt:∀k,Dt k->base<=k/\k<w.heap.size
 bsz:base<=w.heap.size
section
variable {base gs:Nat}{w w':World}{A O:Option Addr}{n c on oc:Nat}{todo:List Int}{Ns:List (Int × Nd)}{bs:List Bool}{Dt:Nat->Prop}
theorem Qdl.below (h:Qdl base gs w A n c todo O on oc Ns bs Dt)(hb:Below w.1.size w w'):Qdl base gs w' A n c todo O on oc Ns bs Dt:=
 ⟨h.row.below hb,h.rowA,(h.out_.below hb).mono λv f=>Qd9 hb f,h.outA,h.Qdh.keep (hb.block gs h.Qdh.lt),h.gsA,λk e=>⟨(h.dt k e).1,by have:=(h.dt k e).2;have:=hb.size;omega⟩,Nat.le_trans h.bsz hb.size⟩
theorem Qdl.len (h:Qdl base gs w A n c todo O on oc Ns bs Dt):todo.length=n:=by have:=h.row.len (by omega);rwa [List.length_map] at this
theorem Qdl.Qf4 (h:Qdl base gs w A n c todo O on oc Ns bs Dt):Rt w A n c todo:=h.row.Vs (by omega)
theorem Qdl.newRow (h:Qdl base gs w A n c todo O on oc Ns bs Dt)(hb:Below w.1.size w w'){A':Option Addr}{n' c':Nat}{todo':List Int}(own:Qs w' w.1.size 3 1 A' n' c' (todo'.map iv)):Qdl base gs w' A' n' c' todo' O on oc Ns bs Dt:=by
 have h2:=h.below hb;refine⟨own.less h.bsz,λk e=>?_,h2.out_,h2.outA,h2.Qdh,h2.gsA,h2.dt,h2.bsz⟩;have h1:=(own.Qa k e).1;exact⟨by have:=h.Qdh.lt;omega,λhd=>by have:=(h.dt k hd).2;omega,λf=>by have:=(h.out_.Qa k f).2;omega⟩
theorem Qdl.see (h:Qdl base gs w A n c todo O on oc Ns bs Dt)(q:Nat):Qdl base gs (w.setCell ⟨gs,q,none⟩ (.bool true)) A n c todo O on oc Ns (bs.set q true) Dt:=by
 have T:Turn (λk=>k=gs) w (w.setCell ⟨gs,q,none⟩ (.bool true)):=Ez _ rfl;refine⟨h.row.turned T λk f e=>(h.rowA k f).1 e,h.rowA,(h.out_.turned T λk f e=>(h.outA k f).1 e).mono λv m=>qao T (λk e hd=>h.gsA.2 (e▸hd)) m,h.outA,h.Qdh.Vr q true,h.gsA,λk f=>⟨(h.dt k f).1,by have:=(h.dt k f).2;have:=T.size;omega⟩,Nat.le_trans h.bsz T.size⟩
theorem Qdl.node (h:Qdl base gs w A n c todo O on oc Ns bs Dt)(hb:Below w.1.size w w'):Qdl base gs w' A n c todo O on oc Ns bs (λk=>Dt k\/(w.1.size<=k/\k<w'.1.size)):=by
 have h2:=h.below hb;have u:=h.Qdh.lt;refine⟨h2.row,λk e=>⟨(h.rowA k e).1,λhd=>hd.elim (h.rowA k e).2.1 λf=>by have:=(h.row.Qa k e).2;omega,(h.rowA k e).2.2⟩,h2.out_.mono λv m=>qwl m λk e=>.inl e,λk e=>⟨(h.outA k e).1,λhd=>hd.elim (h.outA k e).2 λf=>by have:=(h.out_.Qa k e).2;omega⟩,h2.Qdh,⟨h.gsA.1,λhd=>hd.elim h.gsA.2 λf=>by omega⟩,λk e=>?_,h2.bsz⟩;rcases e with e|e
 ·exact h2.dt k e
 ·exact⟨by have:=h.bsz;omega,e.2⟩
theorem Qdl.found (h:Qdl base gs w A n c todo O on oc Ns bs Dt){O':Option Addr}{on' oc':Nat}{N:Int × Nd}(own:Dy (Dq Dt w) w' base O' on' oc' (Ns++[N]))(T:Turn (λk=>q01 O=some k) w w')(hO:q01 O'=q01 O\/q01 O'=some w.1.size):Qdl base gs w' A n c todo O' on' oc' (Ns++[N]) bs Dt:=by
 have y:=T.size;have m:∀k,q01 O'=some k->(q01 O=some k\/k=w.1.size):=λk f=>by
  rcases hO with e|e
  ·exact .inl (e▸f)
  ·rw[e] at f;exact .inr (Option.some.inj f).symm
 refine⟨h.row.turned T λk f e=>(h.rowA k f).2.2 e,λk f=>⟨(h.rowA k f).1,(h.rowA k f).2.1,λe=>?_⟩,own.mono λv u=>qao T (λk f=>(h.outA k f).2) u,λk f=>?_,h.Qdh.keep (T.block gs h.Qdh.lt λe=>(h.outA gs e).1 rfl),h.gsA,λk f=>⟨(h.dt k f).1,by have:=(h.dt k f).2;omega⟩,Nat.le_trans h.bsz y⟩
 ·rcases m k e with e|e
  ·exact (h.rowA k f).2.2 e
  ·have:=(h.row.Qa k f).2;omega
 ·rcases m k f with e|e
  ·exact h.outA k e
  ·subst e;exact⟨by have:=h.Qdh.lt;omega,λhd=>by have:=(h.dt _ hd).2;omega⟩
theorem Qdl.push (h:Qdl base gs w A n c todo O on oc Ns bs Dt){A':Option Addr}{n' c':Nat}{todo':List Int}(own:Qs w' base 3 1 A' n' c' (todo'.map iv))(T:Turn (λk=>q01 A=some k) w w')(hA:q01 A'=q01 A\/q01 A'=some w.1.size):Qdl base gs w' A' n' c' todo' O on oc Ns bs Dt:=by
 have B:=T.size;have m:∀k,q01 A'=some k->(q01 A=some k\/k=w.1.size):=λk f=>by
  rcases hA with e|e
  ·exact .inl (e▸f)
  ·rw[e] at f;exact .inr (Option.some.inj f).symm
 refine⟨own,λk f=>?_,(h.out_.turned T λk f e=>(h.rowA k e).2.2 f).mono λv y=>qao T (λk f=>(h.rowA k f).2.1) y,h.outA,h.Qdh.keep (T.block gs h.Qdh.lt λe=>(h.rowA gs e).1 rfl),h.gsA,λk f=>⟨(h.dt k f).1,by have:=(h.dt k f).2;omega⟩,Nat.le_trans h.bsz B⟩;rcases m k f with e|e
 ·exact h.rowA k e
 ·subst e;exact⟨by have:=h.Qdh.lt;omega,λhd=>by have:=(h.dt _ hd).2;omega,λu=>by have:=(h.out_.Qa _ u).2;omega⟩
end
theorem Qfh {N:Nd}(h:N.may=true):N.kids.length<=12:=(q36 h).2.1
