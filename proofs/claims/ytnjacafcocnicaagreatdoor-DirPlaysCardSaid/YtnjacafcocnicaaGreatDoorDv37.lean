/- The code's edit: top -/
import Derived.Test.YtnjacafcocnicaaGreatDoorDv36
namespace Go.Proofs.YtnjacafcocnicaaGreatDoor
open Go Go.RowKit Go.Proofs Tryz
set_option maxHeartbeats 8000000
set_option maxRecDepth 100000
theorem qk9 {S:NP}{w:WD}(q:∀k,S k->k<w.1.size){Q:WD->Prop}(s:Qy){A B:OA}{n c m d:Nat}(h:Jm Q s.N A n c B m d)(t:TypeId):∀u,Turn S (w.alloc (.cells #[.int .i64 s.N.lvl,.slice A n c,.slice B m d,.int .i64 s.addr,.int .i64 (s.next:Int),.bool s.held,.bool s.shared] t)) u->Vr Q u (some ⟨w.1.size,0,none⟩) 1 1 [s]:=λu E=>by
 have h0:Jp (w.alloc (.cells #[.int .i64 s.N.lvl,.slice A n c,.slice B m d,.int .i64 s.addr,.int .i64 (s.next:Int),.bool s.held,.bool s.shared] t)) 7 (some ⟨w.1.size,0,none⟩) 1 1 [F7 s A n c B m d]:=(q1n w t 7 (F7 s A n c B m d) _ rfl rfl).Gn (by omega);refine⟨_,q5t h0 E (λk e y=>by injection e with e;have e:w.1.size=k:=e;have:=q k y;omega),rfl,λj r x f F=>?_⟩
 cases j with
 |zero=>
  obtain rfl:=OI f;obtain rfl:=OI F;exact⟨_,_,_,_,_,_,rfl,h⟩
 |succ j=>simp at f
def Qcb (r:Option Int):Int:=match r with
 |some _=>0
 |none=>6
section
variable {b:Nat}{w:WD}{d p:Nat}{S0 S T:NP}{D:DM}{P P':Pl}
theorem qx2 (H:Ql b w d p S0 S T D P)(hb:1<b)(ht:Tab w)(hP:P.tidy)(s:Qy)(A:OA)(n c:Nat)(B:OA)(m K:Nat)(hs:Jm (Turn S w) s.N A n c B m K)(N:Nd)(R:OA)(X c2:Nat)(U:OA)(W V:Nat)(hB:Jm (Turn S w) N R X c2 U W V)(a7:N.fit)(b7:N.size<=40)(hl:0<=N.lvl/\N.lvl<8){r:Option Int}(f:P.top s N=some (P',r)) :
  Calls prog 135 #[tv p,Vs s A n c B m K,Ym N.lvl R X c2 U W V] w λe w'=>∃v,e=.returned (.tuple #[.int .i64 v,.int .i64 (Qcb r)])/\(∀a,r=some a->v=a)/\Ql b w' d p S0 S T D P'/\Turn S w w'/\Tab w'/\P'.tidy:=by
 obtain⟨G,E,F,hd,I⟩:=s;have hS:=H.low;have c8:=hB.hn;have c6:=hB.hm;have lm:=hB.lm;have b3:Below w.1.size w (((w.alloc (.cells #[.pointer (some ⟨p,0,none⟩)] 137)).alloc (.cells (Jf G.lvl A n c B m K E (F:Int) hd I).toArray 144)).alloc (.cells #[.int .i64 N.lvl,.slice R X c2,.slice U W V] 142)):=((Qi).alloc (by simp) _).alloc (by simp;omega) _;have T1:RB (((w.alloc (.cells #[.pointer (some ⟨p,0,none⟩)] 137)).alloc (.cells (Jf G.lvl A n c B m K E (F:Int) hd I).toArray 144)).alloc (.cells #[.int .i64 N.lvl,.slice R X c2,.slice U W V] 142)) w.1.size [.pointer (some ⟨p,0,none⟩)]:=(RB.new w [.pointer (some ⟨p,0,none⟩)] 137).below ((Qi).alloc (by simp) _) (by simp);have X1:RB (((w.alloc (.cells #[.pointer (some ⟨p,0,none⟩)] 137)).alloc (.cells (Jf G.lvl A n c B m K E (F:Int) hd I).toArray 144)).alloc (.cells #[.int .i64 N.lvl,.slice R X c2,.slice U W V] 142)) (w.1.size+1) (Jf G.lvl A n c B m K E (F:Int) hd I):=by
  have:=RB.new (w.alloc (.cells #[.pointer (some ⟨p,0,none⟩)] 137)) (Jf G.lvl A n c B m K E (F:Int) hd I) 144;rw[BH] at this;exact this.below (Qi) (by simp)
 have N1:NB (((w.alloc (.cells #[.pointer (some ⟨p,0,none⟩)] 137)).alloc (.cells (Jf G.lvl A n c B m K E (F:Int) hd I).toArray 144)).alloc (.cells #[.int .i64 N.lvl,.slice R X c2,.slice U W V] 142)) (w.1.size+1+1) N.lvl R X c2 U W V:=by
  have:=NB.new2 (w.alloc (.cells #[.pointer (some ⟨p,0,none⟩)] 137)) (.cells (Jf G.lvl A n c B m K E (F:Int) hd I).toArray 144) N.lvl R X c2 U W V 142;rwa [BH] at this
 unfold Pl.top at f;unfold tv Vs Ym;dsimp only;unfold Jf at b3 T1 X1 N1;have c0:=N1.c0;have c1:=N1.c1;have a2:=N1.c2;have y0:=T1.cell 0 rfl;have x0:=X1.cell 0 rfl;have x1:=X1.cell 1 rfl;have x2:=X1.cell 2 rfl;have x3:=X1.cell 3 rfl;have x4:=X1.cell 4 rfl;have x5:=X1.cell 5 rfl;have x6:=X1.cell 6 rfl;by_cases h1:N.kids.length=1
 ·rw[AA h1] at f;obtain⟨M,hv,e⟩:=Option.map_eq_some_iff.1 f;injection e with Z e2;subst Z e2;rw[lm] at h1;subst h1;go_enter func135,ntmps135
  go_wp2_with fail
  generalize (((w.alloc (.cells #[.pointer (some ⟨p,0,none⟩)] 137)).alloc (.cells #[.int .i64 G.lvl,.slice A n c,.slice B m K,.int .i64 E,.int .i64 (F:Int),.bool hd,.bool I] 144)).alloc (.cells #[.int .i64 N.lvl,.slice R X c2,.slice U 1 V] 142))=w1 at b3 T1 X1 N1 c0 c1 a2 y0 x0 x1 x2 x3 x4 x5 x6 ⊢;refine (q5s (H.below b3) hb (ht.below b3 ht.1) ⟨G,E,F,hd,I⟩ A n c B m K hv).mono ?_;rintro e J ⟨rfl,H2,X2,t2⟩;have XX:Turn S w J:=(Qz (S:=S) b3).trans X2 λk O=>.inl O
  have N2:=N1.turned X2 (λh=>by have:=hS _ h;omega);obtain⟨g,o,rfl,hg,-,-,-,z3⟩:=(hB.Ef J XX).cell (show 0<1 by omega);rw[Nat.zero_mul,Nat.add_zero] at z3;have k2:=N2.c2;obtain⟨v,a6⟩:∃v,(Qk N.kids 0).a=v:=⟨_,rfl⟩;rw[a6] at z3;go_wp2_with fail
  go_ret2;exact⟨v,rfl,(by first|exact a6.symm|(intro a e;exact a6.symm.trans (OI e))),H2,XX,t2,hP.leave hv⟩
 ·rw[AB h1] at f;rw[lm] at h1;have b9:¬(W:Int)=1:=by omega
  obtain⟨M,r2,a1⟩:∃M r2,P.Wl ⟨N,[⟨G,E,F,hd,I⟩],0,0⟩=some (M,r2):=by
   cases e:P.Wl ⟨N,[⟨G,E,F,hd,I⟩],0,0⟩ with
   |none=>rw[e] at f;cases f
   |some q=>exact⟨q.1,q.2,rfl⟩
  rw[a1] at f;have y:=λ(u:WD) (hu:Below w.1.size w u) (Y:OA) (hY:∀v,Turn S u v->Vr (Turn S u) v Y 1 1 [⟨G,E,F,hd,I⟩])=>qmp (H.below hu) hb (ht.below hu ht.1) hP ⟨N,[⟨G,E,F,hd,I⟩],0,0⟩ R X c2 U W V (hB.mono λv hv=>(Qz (S:=S) hu).trans hv λk O=>.inl O) a7 b7 hl Y 1 1 hY (by omega) a1 0 0
  unfold tv Xt Ym at y;dsimp only at y;replace y:=HI y;replace f:=HI f;clear a1;go_enter func135,ntmps135
  go_wp2_with fail
  have b0:(((w.alloc (.cells #[.pointer (some ⟨p,0,none⟩)] 137)).alloc (.cells #[.int .i64 G.lvl,.slice A n c,.slice B m K,.int .i64 E,.int .i64 (F:Int),.bool hd,.bool I] 144)).alloc (.cells #[.int .i64 N.lvl,.slice R X c2,.slice U W V] 142)).1.size=w.1.size+1+1+1:=by simp
  generalize (((w.alloc (.cells #[.pointer (some ⟨p,0,none⟩)] 137)).alloc (.cells #[.int .i64 G.lvl,.slice A n c,.slice B m K,.int .i64 E,.int .i64 (F:Int),.bool hd,.bool I] 144)).alloc (.cells #[.int .i64 N.lvl,.slice R X c2,.slice U W V] 142))=w1 at b3 T1 X1 N1 c0 c1 a2 y0 x0 x1 x2 x3 x4 x5 x6 b0 ⊢;have bA:=b3.alloc b3.size (.cells #[.int .i64 G.lvl,.slice A n c,.slice B m K,.int .i64 E,.int .i64 (F:Int),.bool hd,.bool I] 144);have b1:∀k,S k->k<w1.1.size:=λk O=>by have:=hS k O;have:=b3.size;omega
  have hY:=λu hu=>qk9 b1 (Q:=Turn S (w1.alloc (.cells #[.int .i64 G.lvl,.slice A n c,.slice B m K,.int .i64 E,.int .i64 (F:Int),.bool hd,.bool I] 144))) ⟨G,E,F,hd,I⟩ (hs.mono λv hv=>(Qz (S:=S) bA).trans hv λk O=>.inl O) 144 u hu
  have HL:=y.out _ bA _ hY;rw[b0] at HL;refine HL.mono ?_;rintro e J ⟨A3,n3,c3,B3,m3,d3,l,rfl,a8,H2,X2,t2,p2⟩;have XX:Turn S w J:=(Qz (S:=S) bA).trans X2 λk O=>.inl O
  have N2:=(T1.below ((AI _ _).alloc (AE _) (.cells #[.int .i64 G.lvl,.slice A n c,.slice B m K,.int .i64 E,.int .i64 (F:Int),.bool hd,.bool I] 144)) T1.lt).turned X2 (λh=>by have:=hS _ h;omega);clear c0 c1 a2 y0 x0 x1 x2 x3 x4 x5 x6 y HL hY;have zz:w.1.size+4<=J.1.size:=by have:=N1.lt;have:=X2.size;simp at this;omega
  replace f:=f.out
  cases r2 with
  |none=>
   dsimp only at f;obtain⟨rfl,rfl⟩:M=P'/\none=r:=by
    injection OI f with Z e2;exact⟨Z,e2⟩
   unfold Qap;dsimp only;go_wp2_with (first
    |(refine q29 rfl _ _ rfl J.1.size rfl l A3 n3 c3 B3 m3 d3 rfl (NB.new J 0 none 0 0 none 0 0 142) ?_;intro w3 R3 T3)
    |fail)
   have b4:Below J.1.size J w3:=(Qi).trans (T3.below (λk O=>by have:k=J.1.size:=O;omega) (by simp));go_ret2;have F1:=H2.below b4;have F2:=XX.then (Qz (S:=S) b4);have F3:=t2.below b4 t2.1;exact⟨⟨0,rfl⟩,F1,F2,F3.1,F3.2⟩
  |some ks=>
   dsimp only at f;obtain⟨el,hq⟩:=a8 ks rfl;subst el;clear a8;have b6:0=n3:=hq.ln;subst b6;have c7:ks.length=m3:=hq.lm;have b8:=hq.hm;unfold Qap;dsimp only;have b4:∀w3,Turn (λg=>g=J.1.size) (J.alloc (.cells #[.int .i64 0,.slice none 0 0,.slice none 0 0] 142)) w3->Below J.1.size J w3:=λw3 T3=>(Qi).trans (T3.below (λk O=>by have:k=J.1.size:=O;omega) (by simp))
   have HS:=λu=>q26 (N.lvl+1) A3 0 c3 B3 m3 d3 (by omega) (by omega) u
   rw[AT] at HS;unfold Ym at HS;replace HS:=HI HS;have y2:=N2.cell 0 rfl;go_wp2_with (first
    |(refine q29 rfl _ _ rfl J.1.size rfl (N.lvl+1) A3 0 c3 B3 m3 d3 rfl (NB.new J 0 none 0 0 none 0 0 142) ?_;intro w3 R3 T3;have r0:=R3.c0;have r1:=R3.c1;have r2:=R3.c2)
    |fail)
   refine (HS.out _).mono ?_;rintro e w4 ⟨rfl,b5⟩;have R4:=R3.below b5 R3.lt;have bb:=(b4 w3 T3).trans (b5.mono (b4 w3 T3).size);have H4:=H2.below bb;have t4:=t2.below bb t2.1;have X4:=XX.then (Qz (S:=S) bb);clear r0 r1 r2 HS;by_cases k0:ks.length=0
   ·rw[AA k0] at f;obtain⟨rfl,rfl⟩:M=P'/\some 0=r:=by
     injection OI f with Z e2;exact⟨Z,e2⟩
    obtain rfl:0=m3:=by omega
    go_wp2_with fail
    go_ret2;exact⟨0,rfl,(by first|rfl|(intro a e;exact OI e)),H4,X4,t4,p2⟩
   ·rw[AB k0] at f;by_cases k1:ks.length=1
    ·rw[AA k1] at f;obtain⟨rfl,hr⟩:M=P'/\some (Qk ks 0).a=r:=by
      injection OI f with Z e2;exact⟨Z,e2⟩
     obtain rfl:1=m3:=by omega
     have b2:Turn S J w4:=Qz bb;obtain⟨g,o,rfl,hg,-,-,-,z3⟩:=(hq.Ef w4 b2).cell (show 0<1 by omega);rw[Nat.zero_mul,Nat.add_zero] at z3;have k2:=R4.c2;have hE:Qcb r=0:=by rw[<-hr];rfl
     obtain⟨v,hv⟩:∃v,(Qk ks 0).a=v:=⟨_,rfl⟩;have c9:w4.cell? ⟨g,o+3,none⟩=some (.int .i64 v):=by rw[<-hv];exact z3
     clear z3;go_wp2_with fail
     go_ret2;exact⟨v,by rw[hE];rfl,λa e=>(by rw[<-hr,hv] at e;exact OI e),H4,X4,t4,p2⟩
    ·rw[AB k1] at f;have g0:¬(m3:Int)=0:=by omega
     have g1:¬(m3:Int)=1:=by omega
     have r0:=R4.c0;have r1:=R4.c1;have r2:=R4.c2;have y4:=(bb.cell (p:=⟨w.1.size,0,none⟩) N2.lt).trans y2;have Hp:=qdb H4 hb t4 ⟨N.lvl+1,[],ks⟩ A3 0 c3 B3 m3 d3 (λu hu=>⟨hq.its.Y3 ((Qz (S:=S) bb).then hu),hq.Ef _ ((Qz (S:=S) bb).then hu)⟩) (by omega) (by omega);have p5:=p2.put ⟨N.lvl+1,[],ks⟩;have hc:(M.Jt ⟨N.lvl+1,[],ks⟩=0/\M.Js ⟨N.lvl+1,[],ks⟩=P'/\some (M.Wi ⟨N.lvl+1,[],ks⟩)=r)\/(M.Jt ⟨N.lvl+1,[],ks⟩=6/\M.Js ⟨N.lvl+1,[],ks⟩=P'/\none=r):=by
      by_cases e0:M.Jt ⟨N.lvl+1,[],ks⟩=0
      ·rw[AA e0] at f;injection OI f with Z e2;exact .inl ⟨e0,Z,e2⟩
      ·rw[AB e0] at f;by_cases e6:M.Jt ⟨N.lvl+1,[],ks⟩=6
       ·rw[AA e6] at f;injection OI f with Z e2;exact .inr ⟨e6,Z,e2⟩
       ·rw[AB e6] at f;cases f
     clear f;obtain⟨v,hv⟩:∃v,M.Wi ⟨N.lvl+1,[],ks⟩=v:=⟨_,rfl⟩;rw[hv] at hc Hp;rcases hc with⟨e0,rfl,rfl⟩|⟨e0,rfl,rfl⟩
     ·rw[e0] at Hp;go_wp2_with fail
      refine Hp.mono ?_;rintro e w5 ⟨rfl,H5,X5,t5⟩;go_wp2_with fail
      go_ret2;have F2:=X4.then X5;first|exact⟨v,rfl,λa e=>OI e,H5,F2,t5,p5⟩|exact⟨rfl,H5,F2,t5,p5⟩|exact⟨v,rfl,rfl,H5,F2,t5,p5⟩
     ·rw[e0] at Hp;go_wp2_with fail
      refine Hp.mono ?_;rintro e w5 ⟨rfl,H5,X5,t5⟩;go_wp2_with fail
      go_ret2;have F2:=X4.then X5;first|exact⟨v,rfl,λa e=>(by cases e),H5,F2,t5,p5⟩|exact⟨v,rfl,H5,F2,t5,p5⟩
end
theorem TSp:Eh prog 138 144 7 80 (.agg #[.int .i64 0,.slice none 0 0,.slice none 0 0,.int .i64 0,.int .i64 0,.bool false,.bool false]):=⟨underlying138,by kernel_rfl,rfl,by omega⟩
theorem qAr (s:Qy)(A:OA)(n c:Nat)(B:OA)(m d:Nat):∀u∈F7 s A n c B m d,u.oneCell'=true:=by
 intro u e;unfold F7 Jf at e;simp at e;rcases e with rfl|rfl|rfl|rfl|rfl|rfl|rfl<;>rfl
def Uz (Q:WD->Prop)(w:WD)(base:Nat)(A:OA)(n c:Nat)(ss:List Qy):Prop:=
 ∃e,Q8 w base 144 7 A n c e/\e.length=ss.length/\∀(j:Nat) r s,e[j]?=some r->ss[j]?=some s->∃A n c B m d,r=F7 s A n c B m d/\Jm Q s.N A n c B m d
section
variable {Q Q':WD->Prop}{w w':WD}{base n c:Nat}{A:OA}{ss:List Qy}
theorem qx3 (Q:WD->Prop)(w:WD)(base:Nat):Uz Q w base none 0 0 []:=⟨[],q0z _ _ _ _,rfl,λj r x e=>by simp at e⟩
theorem Uz.below (h:Uz Q w base A n c ss)(hb:Below w.1.size w w'):Uz Q w' base A n c ss:=by
 obtain⟨e,h1,h2⟩:=h;exact⟨e,h1.below hb,h2⟩
theorem Uz.turned {S:NP}(h:Uz Q w base A n c ss)(T:Turn S w w')(hA:∀k,q01 A=some k->¬S k):Uz Q w' base A n c ss:=by
 obtain⟨e,h1,h2⟩:=h;exact⟨e,h1.turned T hA,h2⟩
theorem Uz.mono (h:Uz Q w base A n c ss)(hq:∀w,Q' w->Q w):Uz Q' w base A n c ss:=by
 obtain⟨f,h1,h2,q⟩:=h;refine⟨f,h1,h2,λj r s y E=>?_⟩;obtain⟨A,n,c,B,m,d,e,u⟩:=q j r s y E;exact⟨A,n,c,B,m,d,e,u.mono hq⟩
theorem Uz.spl (h:Uz Q w base A n c ss):Vr Q w A n c ss:=by
 obtain⟨e,h1,h2⟩:=h;exact⟨e,h1.Gn (by omega),h2⟩
theorem Uz.Qa (h:Uz Q w base A n c ss):∀k,q01 A=some k->base<=k/\k<w.1.size:=by
 obtain⟨e,h1,_⟩:=h;exact h1.Qa
theorem qz0 (w:WD)(s:Qy)(A:OA)(n c:Nat)(B:OA)(m d:Nat):Jp (w.alloc (.cells #[.int .i64 s.N.lvl,.slice A n c,.slice B m d,.int .i64 s.addr,.int .i64 (s.next:Int),.bool s.held,.bool s.shared] 144)) 7 (some ⟨w.1.size,0,none⟩) 1 1 [F7 s A n c B m d]:=(q1n w 144 7 (F7 s A n c B m d) _ rfl rfl).Gn (by omega)
theorem q9g {J:Array Oper}{f:List Oper}{o:Oper}{a:Act}{Q2:Exit->Act->WD->Prop}(X:o.guard=none)(so x:Operand)
  (ho:o.op=.call { callee:=.builtin .append,args:=#[so,x],argTypes:=#[138,138] })
  (hs:a.eval so=.slice A n c) (H:Uz Q w base A n c ss) {B:OA} {d:Nat} (q:a.eval x=.slice B 1 d) {s:Qy} {R:OA} {Z c1:Nat} {U:OA} {Y V:Nat}
  (e:Jp w 7 B 1 d [F7 s R Z c1 U Y V]) (hq:Jm Q s.N R Z c1 U Y V) (hn:n<=1000) (m:base<=w.1.size)
  (h:∀F O w',Uz Q w' base F (n+1) O (ss++[s])->Turn (λk=>q01 A=some k) w w'->(q01 F=q01 A\/q01 F=some w.1.size)->wpList prog J Q2 f (a.put o.dst (.slice F (n+1) O)) w'):wpList prog J Q2 (o::f) a w:=by
 obtain⟨E,h1,h2,h3⟩:=H;refine wpList_plain X λK hK=>?_
 have one:∀y∈[F7 s R Z c1 U Y V],∀u∈y,u.oneCell'=true:=λy hy=>by
  obtain rfl:=List.mem_singleton.1 hy;exact qAr _ _ _ _ _ _ _
 obtain⟨F,O,w',I,M,T,W,_⟩:=q2m (P:=prog) w TSp o.type base A n c E h1 B 1 d _ e (by omega) one (by omega) (by omega) m;unfold Oper.wp execOp;simp only[ho,resolve,invoke,builtin,Sem.run_bind,Sem.run_pure,Result.andThen_ok,List.map_toArray,BJ,List.map_nil,hs,q,I];refine hK _ _ (h F O w' ⟨_,M,by simp[h2],λj r' x e q=>?_⟩ T W);by_cases hj:j<E.length
 ·rw[List.getElem?_append_left hj] at e;rw[List.getElem?_append_left (by omega)] at q;exact h3 j r' x e q
 ·rw[List.getElem?_append_right (by omega)] at e q;have G:j-E.length=0:=by
   have:=(List.getElem?_eq_some_iff.1 e).1;simp at this;omega
  rw[G] at e;rw[<-h2,G] at q;obtain rfl:=OI e;obtain rfl:=OI q;exact⟨_,_,_,_,_,_,rfl,hq⟩
end
def Dq (Dt:NP)(w:WD):WD->Prop:=Turn (λk=>¬Dt k) w
section
variable {Dt Dt' S:NP}{w w' v:WD}
theorem qbh (T:Turn S w w')(e:∀k,S k->¬Dt k)(f:Dq Dt w' v):Dq Dt w v:=(T.mono e).then f
theorem qAs (h:Dq Dt' w v)(f:∀k,Dt k->Dt' k):Dq Dt w v:=h.mono λk e hd=>e (f k hd)
theorem qsx {lo:Nat}(h:Dq Dt w v)(hd:∀k,lo<=k->k<w.1.size->Dt k):Turn (λk=>k<lo) w v:=⟨h.os,h.tape,h.output,h.size,λk e hn=>h.block k e λf=>f (hd k (by omega) e)⟩
theorem qCg {lo:Nat}(h:Turn (λk=>k<lo) w v)(hd:∀k,Dt k->lo<=k):Dq Dt w v:=h.mono λk f e=>by have:=hd k e;have:k<lo:=f;omega
end
def slN:Value->Nat
 |.slice _ n _=>n
 |_=>0
section
variable {b:Nat}{w:WD}{d p:Nat}{S0 S T:NP}{D:DM}{P:Pl}
theorem qx4 {w:WD}{e:Nat}{N:Nd}{f:Int}{u:Nat}{hd q:Bool}{A B:OA}{n c m d:Nat}(H:RB w e (F7 ⟨N,f,u,hd,q⟩ A n c B m d))(t:Nat):RB (w.setCell ⟨e,4,none⟩ (.int .i64 (t:Int))) e (F7 ⟨N,f,t,hd,q⟩ A n c B m d)/\Turn (λk=>k=e) w (w.setCell ⟨e,4,none⟩ (.int .i64 (t:Int)))/\w.frozen? ⟨e,4,none⟩=false:=by
 refine⟨?_,Gw (a:=⟨e,4,none⟩) _ rfl,(H.there 4 (show 4<7 by omega)).2⟩;obtain⟨y,H⟩:=H;exact⟨y,Fv _ H⟩
theorem qfd (H:Ql b w d p S0 S T D P)(ht:Tab w)(d6:∀a b,P.L a=some b->b.kindOk)(M:∀a,P.Qh D a=0->(P.Qd D a).fit/\0<=(P.Qd D a).lvl/\(P.Qd D a).lvl<8)(root:Int)(k:Kd){up:List Qy}{s:Qy}(E:P.way D root k=some (up,s)) :
  Calls prog 70 #[tv p,.int .i64 root,.agg #[.int .i64 k.obj,.int .i64 k.kind,.int .i64 k.off]] w λe w'=>∃X n c,e=.returned (.tuple #[.slice X n c,.int .i64 0])/\Vr (Turn (λk=>k<w.1.size) w') w' X n c (up.reverse++[s])/\(∀g,q01 X=some g->w.1.size<=g)/\Below w.1.size w w':=by
 have hS:=H.low;have b2:Below w.1.size w ((w.alloc (.cells #[.pointer (some ⟨p,0,none⟩)] 137)).alloc (.cells #[.int .i64 k.obj,.int .i64 k.kind,.int .i64 k.off] 45)):=(Qi).alloc (by simp) _;have T1:RB ((w.alloc (.cells #[.pointer (some ⟨p,0,none⟩)] 137)).alloc (.cells #[.int .i64 k.obj,.int .i64 k.kind,.int .i64 k.off] 45)) w.1.size [.pointer (some ⟨p,0,none⟩)]:=(RB.new w [.pointer (some ⟨p,0,none⟩)] 137).below (Qi) (by simp);have K1:RB ((w.alloc (.cells #[.pointer (some ⟨p,0,none⟩)] 137)).alloc (.cells #[.int .i64 k.obj,.int .i64 k.kind,.int .i64 k.off] 45)) (w.1.size+1) [.int .i64 k.obj,.int .i64 k.kind,.int .i64 k.off]:=by
  have:=RB.new (w.alloc (.cells #[.pointer (some ⟨p,0,none⟩)] 137)) [.int .i64 k.obj,.int .i64 k.kind,.int .i64 k.off] 45;rwa [BH] at this
 have y0:=T1.cell 0 rfl;have c9:((w.alloc (.cells #[.pointer (some ⟨p,0,none⟩)] 137)).alloc (.cells #[.int .i64 k.obj,.int .i64 k.kind,.int .i64 k.off] 45)).1.size=w.1.size+1+1:=by simp
 unfold Pl.way at E;unfold tv;by_cases h0:root=0
 ·rw[AA h0] at E;subst h0;injection OI E with e1 e2;subst e1 e2;clear E;go_enter func70,ntmps70
  go_wp2_with fail
  generalize ((w.alloc (.cells #[.pointer (some ⟨p,0,none⟩)] 137)).alloc (.cells #[.int .i64 k.obj,.int .i64 k.kind,.int .i64 k.off] 45))=w1 at b2 T1 K1 y0 c9 ⊢;have h1:=qk9 (S:=λk=>k<w.1.size) (w:=w1) (λk J=>by have J:k<w.1.size:=J;omega) (Q:=Turn (λk=>k<w.1.size) (w1.alloc (.cells #[.int .i64 0,.slice none 0 0,.slice none 0 0,.int .i64 0,.int .i64 0,.bool true,.bool true] 144))) q4u (qs2 _ 0) 144 _ (Turn.refl _ _);rw[c9] at h1;go_ret2;exact⟨some ⟨w.1.size+1+1,0,none⟩,1,1,rfl,h1,λg y=>(by injection y with y;have y:w.1.size+1+1=g:=y;omega),b2.alloc b2.size _⟩
 ·rw[AB h0] at E;have hE:P.Qh D root=0:=by
   refine Classical.byContradiction λhh=>?_
   rw[AB hh] at E;cases E
  rw[AA hE] at E;have Hr:=λ(u:WD) (hu:Below w.1.size w u)=>qht (H.below hu) (ht.below hu ht.1) d6 root false hE
  unfold tv Vs at Hr;obtain⟨d3,d4,d5⟩:=M root hE;obtain⟨Z,e8⟩:∃Z,P.spot D root false=Z:=⟨_,rfl⟩;rw[e8] at E Hr;replace Hr:=HI Hr;replace E:=HI E;replace M:=HI M;go_enter func70,ntmps70
  go_wp2_with fail
  generalize ((w.alloc (.cells #[.pointer (some ⟨p,0,none⟩)] 137)).alloc (.cells #[.int .i64 k.obj,.int .i64 k.kind,.int .i64 k.off] 45))=w1 at b2 T1 K1 y0 c9 ⊢;refine (Hr.out w1 b2).mono ?_;rintro e F ⟨A,n,c,B,m,U,rfl,V,b3⟩;have eN:P.Qd D root=Z.N:=by rw[<-e8];rfl
  rw[eN] at V d3 d4 d5;go_wp2_with (first
   |(refine Rf rfl _ _ rfl F.1.size rfl Z.N.lvl A n c B m U Z.addr (Z.next:Int) Z.held Z.shared rfl (Nc F) rfl ?_;intro w3 R3 T3)
   |fail)
  have z3:=b3.size;have bA:Below F.1.size F w3:=((AI _ _).alloc (AE _) Uy).trans (T3.below (λk J=>by have:k=F.1.size:=J;omega) (by simp));have B3:Below w1.1.size w1 w3:=b3.trans (bA.mono z3);have z4:=bA.size;have z5:=R3.lt;go_loopw [8,10] (λl e wr=>∃(f:Nat) (q:Qy) (a1:List Qy) (A:OA) (n c:Nat) (B:OA) (m U:Nat) (X:OA) (nn cc:Nat) (Dt:NP),l=.slice X nn cc/\e=.int .i64 0/\nn+f=8/\P.Ai D k f q a1=some (up,s)/\RB wr F.1.size (F7 q A n c B m U)/\Jm (Dq Dt wr) q.N A n c B m U/\Uz (Dq Dt wr) wr (F.1.size+1) X nn cc a1.reverse/\(∀k,Dt k->w.1.size<=k/\k<wr.1.size/\k≠F.1.size/\q01 X≠some k)/\q.N.fit/\0<=q.N.lvl/\q.N.lvl<8/\RB wr w.1.size [.pointer (some ⟨p,0,none⟩)]/\RB wr (w.1.size+1) [.int .i64 k.obj,.int .i64 k.kind,.int .i64 k.off]/\Below w.1.size w wr/\F.1.size+1<=wr.1.size) (λl _ _=>8-slN l)
  case atStart=>
   refine⟨8,Z,[],A,n,c,B,m,U,none,0,0,λk=>w1.1.size<=k/\k<F.1.size,rfl,rfl,rfl,E.out,R3,V.mono λv hv=>qsx (w:=F) (qbh (S:=λ_=>False) (Qz bA) (λ_ h=>h.elim) hv) λk h1 h2=>⟨h1,h2⟩,qx3 _ _ _,λk J=>⟨by omega,by omega,by omega,λh=>by cases h⟩,d3,d4,d5,T1.below B3 T1.lt,K1.below B3 K1.lt,b2.trans (B3.mono b2.size),by omega⟩
  case round=>
   clear R3 T3 V E;obtain⟨f,q,a1,A,n,c,B,m,U,X,nn,cc,Dt,rfl,rfl,i3,E,W,V,row,I,d8,g8,d9,TT,KK,hb,i4⟩:=hrel;obtain⟨N,K,nx,hd,R⟩:=q;have e0:=W.cell 0 rfl;have e1:=W.cell 1 rfl;have e2:=W.cell 2 rfl;have e3:=W.cell 3 rfl;have e4:=W.cell 4 rfl;have e5:=W.cell 5 rfl;have e6:=W.cell 6 rfl;have y0:=TT.cell 0 rfl;have k0:=KK.cell 0 rfl;have k1:=KK.cell 1 rfl;have k2:=KK.cell 2 rfl;have g7:=V.hn;have g6:=V.hm;dsimp only at d8 g8 d9 g7 g6 V;by_cases b0:N.lvl<=0
   ·have y:¬(0:Int)<N.lvl:=by omega
    obtain⟨rfl,rfl⟩:a1=up/\(⟨N,K,nx,hd,R⟩:Qy)=s:=by
     cases f with
     |zero=>unfold Pl.Ai at E;rw[AA b0] at E;injection OI E with e1 e2;exact⟨e1,e2⟩
     |succ f=>unfold Pl.Ai at E;rw[AA b0] at E;injection OI E with e1 e2;exact⟨e1,e2⟩
    clear E;have bL:Below wr.1.size wr (wr.alloc (.cells #[.int .i64 N.lvl,.slice A n c,.slice B m U,.int .i64 K,.int .i64 (nx:Int),.bool hd,.bool R] 144)):=Qi;have G:=row.Qa;go_wp2_with (first
     |(at_builtin;refine q9g (s:=⟨N,K,nx,hd,R⟩) rfl _ _ rfl rfl (row.below bL) rfl (qz0 wr ⟨N,K,nx,hd,R⟩ A n c B m U) V (by omega) (by have:=bL.size;omega) ?_;intro X2 f4 w4 b8 T4 _)
     |fail)
    have TW:Turn (λg=>q01 X=some g) wr w4:=(Qz (S:=λg=>q01 X=some g) bL).trans T4 λk J=>.inl J
    have bw:Below w.1.size wr w4:=TW.below (λg y=>by have:=(G g y).1;omega) (by omega);go_ret2;refine⟨X2,nn+1,f4,rfl,(b8.mono λv hv=>?_).spl,λg y=>by have:=(b8.Qa g y).1;omega,hb.trans bw⟩;exact qbh TW (λg y hd=>(I g hd).2.2.2 y) (qCg hv λg y=>(I g y).1)
   ·have y:(0:Int)<N.lvl:=by omega
    cases f with
    |zero=>unfold Pl.Ai at E;rw[AB b0] at E;cases E
    |succ f=>
     unfold Pl.Ai at E;rw[AB b0] at E;dsimp only at E;obtain⟨t,c8⟩:∃t,N.Zw k=t:=⟨_,rfl⟩;rw[c8] at E;have b5:P.Kq D ⟨N,K,nx,hd,R⟩ t=true:=by
      refine Classical.byContradiction λhh=>?_
      rw[AB hh] at E;cases E
     rw[AA b5] at E;have a7:P.Kq D ⟨N,K,t,hd,R⟩ t=true:=b5;obtain⟨rr,e7⟩:∃rr,U6 N.keys k t=rr:=⟨_,rfl⟩;have HC:=q4r N d8 k t c8 rr e7 A n c B m U wr (V.its.Y3 (Turn.refl _ _)) (V.Ef _ (Turn.refl _ _)) (by omega) (by omega);have G:=row.Qa;obtain⟨Y,a8⟩:∃Y,P.Jk D ⟨N,K,t,hd,R⟩ t=Y:=⟨_,rfl⟩;have b6:P.Jk D ⟨N,K,nx,hd,R⟩ t=Y:=a8;rw[b6] at E;obtain⟨g1,g2,g3⟩:=M.out (Qk N.kids t).a (AK a7).2.1;have eK:P.Qd D (Qk N.kids t).a=Y.N:=by rw[<-a8];rfl
     rw[eK] at g1 g2 g3;replace E:=HI E;replace a7:=HI a7;clear b6 c8 e7 eK;go_wp2_with fail
     refine HC.mono ?_;rintro e w4 ⟨rfl,b4⟩;obtain⟨R5,T5,i1⟩:=qx4 (W.below b4 W.lt) t;have p4:=(W.below b4 W.lt).cell 4 rfl;have i5:=b4.size;have d0:Turn (λg=>g=F.1.size) wr (w4.setCell ⟨F.1.size,4,none⟩ (.int .i64 (t:Int))):=(Qz (S:=λg=>g=F.1.size) b4).trans T5 λk J=>.inl J
     clear e0 e1 e2 e3 e4 e5 e6 y0 k0 k1 k2;have e0:=R5.cell 0 rfl;have e1:=R5.cell 1 rfl;have e2:=R5.cell 2 rfl;have e3:=R5.cell 3 rfl;have e4:=R5.cell 4 rfl;have e5:=R5.cell 5 rfl;have e6:=R5.cell 6 rfl;have i7:=T5.size;have bL:Below (w4.setCell ⟨F.1.size,4,none⟩ (.int .i64 (t:Int))).1.size (w4.setCell ⟨F.1.size,4,none⟩ (.int .i64 (t:Int))) ((w4.setCell ⟨F.1.size,4,none⟩ (.int .i64 (t:Int))).alloc (.cells #[.int .i64 N.lvl,.slice A n c,.slice B m U,.int .i64 K,.int .i64 (t:Int),.bool hd,.bool R] 144)):=Qi;have e9:=(row.turned d0 (λg y h=>by have h:g=F.1.size:=h;have:=(G g y).1;omega)).below bL;have i6:=bL.size;have O:=qz0 (w4.setCell ⟨F.1.size,4,none⟩ (.int .i64 (t:Int))) ⟨N,K,t,hd,R⟩ A n c B m U;have c6:(w4.setCell ⟨F.1.size,4,none⟩ (.int .i64 (t:Int))).1.size=w4.1.size:=by simp[World.setCell]
     rw[c6] at O;replace O:=HI O;replace c6:=HI c6;go_wp2_with (first
      |(at_builtin;refine q9g (s:=⟨N,K,t,hd,R⟩) rfl _ _ rfl rfl e9 rfl O.out V (by omega) (by omega) ?_;intro X6 f9 w6 b9 T6 g0
        have i8:=T6.size;have R6:=(R5.below bL R5.lt).turned T6 (λh=>by have:=(G _ h).1;omega);have f2:Turn (λg=>q01 X=some g) (w4.setCell ⟨F.1.size,4,none⟩ (.int .i64 (t:Int))) w6:=(Qz (S:=λg=>q01 X=some g) bL).trans T6 λk J=>.inl J
        have a2:Turn (λg=>g=F.1.size\/q01 X=some g) wr w6:=(d0.mono λk J=>.inl J).trans f2 λk J=>.inl (.inr J)
        have i0:=TT.turned a2 (λh=>h.elim (λh=>by omega) λh=>by have:=(G _ h).1;omega);have y6:=i0.cell 0 rfl;have Z:=R6.cell 0 rfl;have s1:=R6.cell 1 rfl;have s2:=R6.cell 2 rfl;have s3:=R6.cell 3 rfl;have s4:=R6.cell 4 rfl;have s5:=R6.cell 5 rfl;have s6:=R6.cell 6 rfl)
      |fail)
     have g4:Below w.1.size wr w6:=a2.below (λg y=>y.elim (λh=>by omega) λh=>by have:=(G g h).1;omega) (by omega);have B6:=hb.trans g4;have d1:∀g,(g=F.1.size\/q01 X=some g)->¬Dt g:=λg y hd=>y.elim (I g hd).2.2.1 (I g hd).2.2.2
     have HK:=qmo (H.below B6) (ht.below B6 ht.1) d6 ⟨N,K,t,hd,R⟩ A n c B m U (λv hv=>V.Ef v (qbh a2 d1 (hv.mono λg y hd=>by have:=(I g hd).1;have:=hS g y;omega))) ⟨by show 1<=N.lvl;omega,d9⟩ t a7.out;unfold tv Vs at HK;rw[a8] at HK;refine HK.mono ?_;rintro e w7 ⟨A7,n7,c7,B7,m7,d7,rfl,g9,b7⟩;have i9:=b7.size;have R7:=R6.below b7 R6.lt;clear Z s1 s2 s3 s4 s5 s6 e0 e1 e2 e3 e4 e5 e6 y6 HK;go_wp2_with (first
      |(refine Rf rfl _ _ rfl F.1.size rfl Y.N.lvl A7 n7 c7 B7 m7 d7 Y.addr (Y.next:Int) Y.held Y.shared rfl R7 rfl ?_;intro w8 R8 T8)
      |fail)
     have j0:=T8.size;have f0:=b9.below b7;have b1:=b9.Qa;have f1:=f0.turned T8 (λg y h=>by have h:g=F.1.size:=h;have:=(b1 g y).1;omega);have f3:Turn (λg=>g=F.1.size\/q01 X=some g) wr w7:=a2.then (Qz b7);have a6:Turn (λg=>g=F.1.size\/q01 X=some g) wr w8:=f3.then (T8.mono λg y=>.inl y);have g5:Below w.1.size wr w8:=a6.below (λg y=>y.elim (λh=>by omega) λh=>by have:=(G g h).1;omega) (by omega);have d2:∀g,g<=w.1.size+1->¬(g=F.1.size\/q01 X=some g):=λg y h=>h.elim (λh=>by omega) λh=>by have:=(G _ h).1;omega
     refine⟨⟨f,Y,⟨N,K,t,hd,R⟩::a1,A7,n7,c7,B7,m7,d7,X6,nn+1,f9,λg=>Dt g\/(w6.1.size<=g/\g<w7.1.size),rfl,rfl,by omega,E.out,R8,?_,?_,λg y=>?_,g1,g2,g3,TT.turned a6 (d2 _ (by omega)),KK.turned a6 (d2 _ (by omega)),hb.trans g5,by omega⟩,by show 8-(nn+1)<8-nn;omega⟩
     ·have i2:P.Jk D ⟨N,K,t,hd,R⟩ t=Y:=a8;exact g9.mono λv hv=>qsx (w:=w7) (qbh T8 (λg y hd=>by
       have y:g=F.1.size:=y;exact hd.elim (λh=>(I g h).2.2.1 y) λh=>by omega) hv) λg h1 h2=>.inr ⟨h1,h2⟩
     ·rw[List.reverse_cons];exact f1.mono λv hv=>qbh a6 d1 (qAs hv λg y=>.inl y)
     ·rcases y with y|y
      ·have hd:=I g y;refine⟨hd.1,by omega,hd.2.2.1,λh=>?_⟩;rcases g0 with e|e
       ·exact hd.2.2.2 (e▸h)
       ·rw[e] at h;injection h with h;omega
      ·exact⟨by omega,by omega,by omega,λh=>by have:=(b1 g h).2;omega⟩
end
structure EnB (w0 w:WD)(p:Nat)(s above:LV)(l:Int)(A:OA)(n c:Nat)(B:OA)(m d:Nat):Prop where
 t:RB w w0.heap.size [.pointer (some ⟨p,0,none⟩)]
 s:RB w (w0.heap.size+1) s
 n:NB w (w0.heap.size+1+1) l A n c B m d
 a:RB w (w0.heap.size+1+1+1) above
 x:RB w (w0.heap.size+1+1+1+1) (Xt 0 none 0 0 none 0 0 none 0 0 0 0)
theorem EnB.new (w:WD)(p:Nat)(s above:LV)(l:Int)(A:OA)(n c:Nat)(B:OA)(m d:Nat)(t1 t2 t3 t4 t5:TypeId) :
  EnB w (((((w.alloc (.cells #[.pointer (some ⟨p,0,none⟩)] t1)).alloc (.cells s.toArray t2)).alloc (.cells #[.int .i64 l,.slice A n c,.slice B m d] t3)).alloc (.cells above.toArray t4)).alloc (.cells (Xt 0 none 0 0 none 0 0 none 0 0 0 0).toArray t5)) p s above l A n c B m d:=by
 have y:=RB.new w [.pointer (some ⟨p,0,none⟩)] t1;have e:=RB.new (w.alloc (.cells #[.pointer (some ⟨p,0,none⟩)] t1)) s t2;have f:=NB.new2 (w.alloc (.cells #[.pointer (some ⟨p,0,none⟩)] t1)) (.cells s.toArray t2) l A n c B m d t3;have q:=RB.new (((w.alloc (.cells #[.pointer (some ⟨p,0,none⟩)] t1)).alloc (.cells s.toArray t2)).alloc (.cells #[.int .i64 l,.slice A n c,.slice B m d] t3)) above t4;have u:=RB.new ((((w.alloc (.cells #[.pointer (some ⟨p,0,none⟩)] t1)).alloc (.cells s.toArray t2)).alloc (.cells #[.int .i64 l,.slice A n c,.slice B m d] t3)).alloc (.cells above.toArray t4)) (Xt 0 none 0 0 none 0 0 none 0 0 0 0) t5;simp only[BH] at e f q u;have up:∀(v:WD) (o:Obj),Below v.1.size v (v.alloc o):=λv o=>Qi
 exact⟨(((y.below (up _ _) (by simp<;>omega)).below (up _ _) (by simp<;>omega)).below (up _ _) (by simp<;>omega)).below (up _ _) (by simp<;>omega),((e.below (up _ _) (by simp<;>omega)).below (up _ _) (by simp<;>omega)).below (up _ _) (by simp<;>omega),(f.below (up _ _) (by simp<;>omega)).below (up _ _) (by simp<;>omega),q.below (up _ _) (by simp<;>omega),u⟩
theorem EnB.below {w0 w w':WD}{p:Nat}{s above:LV}{l:Int}{A:OA}{n c:Nat}{B:OA}{m d:Nat}(h:EnB w0 w p s above l A n c B m d)(hb:Below w.1.size w w'):EnB w0 w' p s above l A n c B m d:=⟨h.t.below hb h.t.lt,h.s.below hb h.s.lt,h.n.below hb h.n.lt,h.a.below hb h.a.lt,h.x.below hb h.x.lt⟩
section
variable {b:Nat}{w:WD}{d p:Nat}{S0 S T:NP}{D:DM}{P P':Pl}
theorem qp1 (H:Ql b w d p S0 S T D P)(_:Tab w)(s:Qy)(A:OA)(n c:Nat)(B:OA)(m dd:Nat)(hs:Jm (Turn S w) s.N A n c B m dd)(N:Nd)(G:OA)(F c2:Nat)(I:OA)(E J:Nat)(hB:Jm (Turn S w) N G F c2 I E J)(above:Qy)(A3:OA)(n3 c3:Nat)(R:OA)(m3 d3:Nat)(a8:above.next<=60)(a6:Qv N.lvl<=N.size) :
  Calls prog 136 #[tv p,Vs s A n c B m dd,Ym N.lvl G F c2 I E J,Vs above A3 n3 c3 R m3 d3] w λe w'=>∃Y,e=.returned (.tuple #[.agg (Xt N.lvl G F c2 I E J Y 1 1 (above.next:Int) ((above.next+1:Nat):Int)).toArray,.int .i64 0])/\Jm (Turn S w') N G F c2 I E J/\(∀u,Turn S w' u->Vr (Turn S w') u Y 1 1 [s])/\Below w.1.size w w':=by
 obtain⟨sN,ad,nx,hd,sh⟩:=s;obtain⟨aN,W,f,X,a1⟩:=above;have hS:=H.low;have b6:=hB.hn;have b4:=hB.hm;have a7:=hB.size;dsimp only at a8 ⊢;obtain⟨le,y⟩:∃le,Qv N.lvl=le:=⟨_,rfl⟩;rw[y,a7] at a6;clear a7;have HL:=λu=>q3k N.lvl G F c2 I E J u
 rw[y] at HL;have HS:=λu=>q26 N.lvl G F c2 I E J (by omega) (by omega) u
 obtain⟨z,hz⟩:∃z,F+E=z:=⟨_,rfl⟩;rw[hz] at HS a6;clear hz y;have V:=EnB.new w p (Jf sN.lvl A n c B m dd ad (nx:Int) hd sh) (Jf aN.lvl A3 n3 c3 R m3 d3 W (f:Int) X a1) N.lvl G F c2 I E J 137 144 142 144 217;have b0:Below w.1.size w (((((w.alloc (.cells #[.pointer (some ⟨p,0,none⟩)] 137)).alloc (.cells (Jf sN.lvl A n c B m dd ad (nx:Int) hd sh).toArray 144)).alloc (.cells #[.int .i64 N.lvl,.slice G F c2,.slice I E J] 142)).alloc (.cells (Jf aN.lvl A3 n3 c3 R m3 d3 W (f:Int) X a1).toArray 144)).alloc (.cells (Xt 0 none 0 0 none 0 0 none 0 0 0 0).toArray 217)):=((((Qi).alloc (by simp) _).alloc (by simp;omega) _).alloc (by simp;omega) _).alloc (by simp;omega) _;have hi:IntKind.i64.wrap ((f:Int)+1)=((f+1:Nat):Int):=by rw[show (f:Int)+1=((f+1:Nat):Int) by omega];exact IntWalk.i64_in _ (by omega)
 obtain⟨Z,U⟩:∃Z,f+1=Z:=⟨_,rfl⟩;rw[U] at hi ⊢;clear U;unfold Ym at HL HS;replace HL:=HI HL;replace HS:=HI HS;have b1:(le:Int)<=(z:Int):=by omega
 have k0:=V.n.c0;have k1:=V.n.c1;have k2:=V.n.c2;unfold tv Vs Ym;dsimp only;unfold Jf at V b0;unfold Xt at V b0;go_enter func136,ntmps136
 go_wp2_with fail
 generalize (((((w.alloc (.cells #[.pointer (some ⟨p,0,none⟩)] 137)).alloc (.cells #[.int .i64 sN.lvl,.slice A n c,.slice B m dd,.int .i64 ad,.int .i64 (nx:Int),.bool hd,.bool sh] 144)).alloc (.cells #[.int .i64 N.lvl,.slice G F c2,.slice I E J] 142)).alloc (.cells #[.int .i64 aN.lvl,.slice A3 n3 c3,.slice R m3 d3,.int .i64 W,.int .i64 (f:Int),.bool X,.bool a1] 144)).alloc (.cells #[.int .i64 0,.slice none 0 0,.slice none 0 0,.slice none 0 0,.int .i64 0,.int .i64 0] 217))=w1 at V b0 k0 k1 k2 ⊢;refine (HL.out w1).mono ?_;rintro e w2 ⟨rfl,b2⟩;have E2:=V.below b2;clear k0 k1 k2;have k0:=E2.n.c0;have k1:=E2.n.c1;have k2:=E2.n.c2;have a4:=E2.a.cell 4 rfl;go_wp2_with fail
 refine (HS.out w2).mono ?_;rintro e O ⟨rfl,b3⟩;have q:=E2.below b3;clear k0 k1 k2 a4;have k0:=q.n.c0;have k1:=q.n.c1;have k2:=q.n.c2;have s0:=q.s.cell 0 rfl;have s1:=q.s.cell 1 rfl;have s2:=q.s.cell 2 rfl;have s3:=q.s.cell 3 rfl;have s4:=q.s.cell 4 rfl;have s5:=q.s.cell 5 rfl;have s6:=q.s.cell 6 rfl;have R:=b0.trans ((b2.trans (b3.mono b2.size)).mono b0.size);have bL:Below O.1.size O (O.alloc (.cells #[.int .i64 sN.lvl,.slice A n c,.slice B m dd,.int .i64 ad,.int .i64 (nx:Int),.bool hd,.bool sh] 144)):=Qi;have E4:=q.below bL;have a2:∀k,S k->k<O.1.size:=λk K=>by have:=hS k K;have:=R.size;omega
 clear HL HS;go_wp2_with (first
  |(refine q9e rfl _ _ rfl (w.1.size+1+1+1+1) rfl N.lvl G F c2 I E J (some ⟨O.1.size,0,none⟩) 1 1 (f:Int) (Z:Int) rfl E4.x rfl ?_;intro w5 R5 T5)
  |fail)
 refine bodyPost_ret (Bl Tryz.results136 rfl (qk0 R5)) rfl ?_;have BL:=R.trans (bL.mono R.size);have b5:Below w.1.size w w5:=BL.trans (T5.below (λk K=>by have K:k=w.1.size+1+1+1+1:=K;omega) (by have:=BL.size;omega));have b7:∀k,S k->k=w.1.size+1+1+1+1->False:=λk K e=>by have:=hS k K;omega
 refine⟨some ⟨O.1.size,0,none⟩,rfl,hB.mono λv hv=>(Qz (S:=S) b5).trans hv λk K=>.inl K,λu hu=>?_,b5⟩;have h1:=qk9 a2 (Q:=Turn S w5) ⟨sN,ad,nx,hd,sh⟩ (hs.mono λv hv=>(Qz (S:=S) b5).trans hv λk K=>.inl K) 144 _ (Turn.refl _ _);have b8:w.1.size+1+1+1+1<O.1.size:=q.x.lt;exact (h1.turned T5 (λg M h=>by injection M with M;have M:O.1.size=g:=M;have h:g=w.1.size+1+1+1+1:=h;omega)).turned hu (λg M h=>by injection M with M;have M:O.1.size=g:=M;have:=a2 g h;omega)
end
theorem qsy {P:Pl}{D:DM}(hm:∀a,P.Qh D a=0->(P.Qd D a).may=true):∀a,P.Qh D a=0->(P.Qd D a).fit/\0<=(P.Qd D a).lvl/\(P.Qd D a).lvl<8:=λa h=>by
 have hm:=hm a h;refine⟨Tc hm,?_⟩;unfold Nd.may at hm;by_cases h0:(P.Qd D a).lvl=0
 ·omega
 ·rw[AB h0] at hm;simp only[BN,decide_eq_true_eq] at hm;omega
