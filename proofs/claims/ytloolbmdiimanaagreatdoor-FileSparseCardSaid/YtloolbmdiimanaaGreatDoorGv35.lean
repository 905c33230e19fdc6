/- The code's edit: top -/
import Derived.Test.YtloolbmdiimanaaGreatDoorGvHaO
import Derived.Test.YtloolbmdiimanaaGreatDoorGv34
namespace Go.Proofs.YtloolbmdiimanaaGreatDoor
open Go Go.RowKit Go.Proofs Tryz
set_option maxHeartbeats 8000000
set_option maxRecDepth 100000
theorem qin {S:NP}{w:WD}(y:∀k,S k->k<w.1.size){Q:WD->Prop}(s:Qr){A B:OA}{n c m d:Nat}(h:Je Q s.N A n c B m d)(t:TypeId):∀u,Turn S (w.alloc (.cells #[.int .i64 s.N.lvl,.slice A n c,.slice B m d,.int .i64 s.addr,.int .i64 (s.next:Int),.bool s.held,.bool s.shared] t)) u->Vo Q u (some ⟨w.1.size,0,none⟩) 1 1 [s]:=λu F=>by
 have h0:Jy (w.alloc (.cells #[.int .i64 s.N.lvl,.slice A n c,.slice B m d,.int .i64 s.addr,.int .i64 (s.next:Int),.bool s.held,.bool s.shared] t)) 7 (some ⟨w.1.size,0,none⟩) 1 1 [Ea s A n c B m d]:=(q1n w t 7 (Ea s A n c B m d) _ rfl rfl).Um (by omega);refine⟨_,q5j h0 F (λk e E=>by injection e with e;have e:w.1.size=k:=e;have:=y k E;omega),rfl,λj r x f G=>?_⟩
 cases j with
 |zero=>
  obtain rfl:=OI f;obtain rfl:=OI G;exact⟨_,_,_,_,_,_,rfl,h⟩
 |succ j=>simp at f
def Qbp (r:Option Int):Int:=match r with
 |some _=>0
 |none=>6
section
variable {b:Nat}{w:WD}{d p:Nat}{S0 S T:NP}{D:DM}{P P':Pl}
theorem quf (H:Qh b w d p S0 S T D P)(hb:1<b)(ht:Tab w)(hP:P.tidy)(s:Qr)(A:OA)(n c:Nat)(B:OA)(m K:Nat)(hs:Je (Turn S w) s.N A n c B m K)(N:Nd)(U:OA)(n2 c2:Nat)(W:OA)(Z X:Nat)(hB:Je (Turn S w) N U n2 c2 W Z X)(a3:N.fit)(a9:N.size<=40)(hl:0<=N.lvl/\N.lvl<8){r:Option Int}(f:P.top s N=some (P',r)) :
  Calls prog 145 #[tv p,Vm s A n c B m K,Xx N.lvl U n2 c2 W Z X] w λe w'=>∃v,e=.returned (.tuple #[.int .i64 v,.int .i64 (Qbp r)])/\(∀a,r=some a->v=a)/\Qh b w' d p S0 S T D P'/\Turn S w w'/\Tab w'/\P'.tidy:=by
 obtain⟨G,E,F,hd,I⟩:=s;have hS:=H.low;have b7:=hB.hn;have b2:=hB.hm;have lm:=hB.lm;have b3:Below w.1.size w (((w.alloc (.cells #[.pointer (some ⟨p,0,none⟩)] 188)).alloc (.cells (Ja G.lvl A n c B m K E (F:Int) hd I).toArray 195)).alloc (.cells #[.int .i64 N.lvl,.slice U n2 c2,.slice W Z X] 193)):=((Ql).alloc (by simp) _).alloc (by simp;omega) _;have T1:RB (((w.alloc (.cells #[.pointer (some ⟨p,0,none⟩)] 188)).alloc (.cells (Ja G.lvl A n c B m K E (F:Int) hd I).toArray 195)).alloc (.cells #[.int .i64 N.lvl,.slice U n2 c2,.slice W Z X] 193)) w.1.size [.pointer (some ⟨p,0,none⟩)]:=(RB.new w [.pointer (some ⟨p,0,none⟩)] 188).below ((Ql).alloc (by simp) _) (by simp);have X1:RB (((w.alloc (.cells #[.pointer (some ⟨p,0,none⟩)] 188)).alloc (.cells (Ja G.lvl A n c B m K E (F:Int) hd I).toArray 195)).alloc (.cells #[.int .i64 N.lvl,.slice U n2 c2,.slice W Z X] 193)) (w.1.size+1) (Ja G.lvl A n c B m K E (F:Int) hd I):=by
  have:=RB.new (w.alloc (.cells #[.pointer (some ⟨p,0,none⟩)] 188)) (Ja G.lvl A n c B m K E (F:Int) hd I) 195;rw[BH] at this;exact this.below (Ql) (by simp)
 have N1:NB (((w.alloc (.cells #[.pointer (some ⟨p,0,none⟩)] 188)).alloc (.cells (Ja G.lvl A n c B m K E (F:Int) hd I).toArray 195)).alloc (.cells #[.int .i64 N.lvl,.slice U n2 c2,.slice W Z X] 193)) (w.1.size+1+1) N.lvl U n2 c2 W Z X:=by
  have:=NB.new2 (w.alloc (.cells #[.pointer (some ⟨p,0,none⟩)] 188)) (.cells (Ja G.lvl A n c B m K E (F:Int) hd I).toArray 195) N.lvl U n2 c2 W Z X 193;rwa [BH] at this
 unfold Pl.top at f;unfold tv Vm Xx;dsimp only;unfold Ja at b3 T1 X1 N1;have c0:=N1.c0;have c1:=N1.c1;have a1:=N1.c2;have y0:=T1.cell 0 rfl;have x0:=X1.cell 0 rfl;have x1:=X1.cell 1 rfl;have x2:=X1.cell 2 rfl;have x3:=X1.cell 3 rfl;have x4:=X1.cell 4 rfl;have x5:=X1.cell 5 rfl;have x6:=X1.cell 6 rfl;by_cases h1:N.kids.length=1
 ·rw[AA h1] at f;obtain⟨M,hv,e⟩:=Option.map_eq_some_iff.1 f;injection e with e1 e2;subst e1 e2;rw[lm] at h1;subst h1;go_enter func145,ntmps145
  go_wp2_with fail
  generalize (((w.alloc (.cells #[.pointer (some ⟨p,0,none⟩)] 188)).alloc (.cells #[.int .i64 G.lvl,.slice A n c,.slice B m K,.int .i64 E,.int .i64 (F:Int),.bool hd,.bool I] 195)).alloc (.cells #[.int .i64 N.lvl,.slice U n2 c2,.slice W 1 X] 193))=w1 at b3 T1 X1 N1 c0 c1 a1 y0 x0 x1 x2 x3 x4 x5 x6 ⊢;refine (q5h (H.below b3) hb (ht.below b3 ht.1) ⟨G,E,F,hd,I⟩ A n c B m K hv).mono ?_;rintro e J ⟨rfl,H2,X2,t2⟩;have XX:Turn S w J:=(Zb (S:=S) b3).trans X2 λk O=>.inl O
  have N2:=N1.turned X2 (λh=>by have:=hS _ h;omega);obtain⟨g,o,rfl,hg,-,-,-,z3⟩:=(hB.Bg J XX).cell (show 0<1 by omega);rw[Nat.zero_mul,Nat.add_zero] at z3;have k2:=N2.c2;obtain⟨v,a2⟩:∃v,(Qi N.kids 0).a=v:=⟨_,rfl⟩;rw[a2] at z3;go_wp2_with fail
  go_ret2;exact⟨v,rfl,(by first|exact a2.symm|(intro a e;exact a2.symm.trans (OI e))),H2,XX,t2,hP.leave hv⟩
 ·rw[AB h1] at f;rw[lm] at h1;have b1:¬(Z:Int)=1:=by omega
  obtain⟨M,r2,a0⟩:∃M r2,P.Yo ⟨N,[⟨G,E,F,hd,I⟩],0,0⟩=some (M,r2):=by
   cases e:P.Yo ⟨N,[⟨G,E,F,hd,I⟩],0,0⟩ with
   |none=>rw[e] at f;cases f
   |some q=>exact⟨q.1,q.2,rfl⟩
  rw[a0] at f;have y:=λ(u:WD) (hu:Below w.1.size w u) (Y:OA) (hY:∀v,Turn S u v->Vo (Turn S u) v Y 1 1 [⟨G,E,F,hd,I⟩])=>qli (H.below hu) hb (ht.below hu ht.1) hP ⟨N,[⟨G,E,F,hd,I⟩],0,0⟩ U n2 c2 W Z X (hB.mono λv hv=>(Zb (S:=S) hu).trans hv λk O=>.inl O) a3 a9 hl Y 1 1 hY (by omega) a0 0 0
  unfold tv Xf Xx at y;dsimp only at y;replace y:=HI y;replace f:=HI f;clear a0;go_enter func145,ntmps145
  go_wp2_with fail
  have a5:(((w.alloc (.cells #[.pointer (some ⟨p,0,none⟩)] 188)).alloc (.cells #[.int .i64 G.lvl,.slice A n c,.slice B m K,.int .i64 E,.int .i64 (F:Int),.bool hd,.bool I] 195)).alloc (.cells #[.int .i64 N.lvl,.slice U n2 c2,.slice W Z X] 193)).1.size=w.1.size+1+1+1:=by simp
  generalize (((w.alloc (.cells #[.pointer (some ⟨p,0,none⟩)] 188)).alloc (.cells #[.int .i64 G.lvl,.slice A n c,.slice B m K,.int .i64 E,.int .i64 (F:Int),.bool hd,.bool I] 195)).alloc (.cells #[.int .i64 N.lvl,.slice U n2 c2,.slice W Z X] 193))=w1 at b3 T1 X1 N1 c0 c1 a1 y0 x0 x1 x2 x3 x4 x5 x6 a5 ⊢;have bA:=b3.alloc b3.size (.cells #[.int .i64 G.lvl,.slice A n c,.slice B m K,.int .i64 E,.int .i64 (F:Int),.bool hd,.bool I] 195);have a6:∀k,S k->k<w1.1.size:=λk O=>by have:=hS k O;have:=b3.size;omega
  have hY:=λu hu=>qin a6 (Q:=Turn S (w1.alloc (.cells #[.int .i64 G.lvl,.slice A n c,.slice B m K,.int .i64 E,.int .i64 (F:Int),.bool hd,.bool I] 195))) ⟨G,E,F,hd,I⟩ (hs.mono λv hv=>(Zb (S:=S) bA).trans hv λk O=>.inl O) 195 u hu
  have HL:=y.out _ bA _ hY;rw[a5] at HL;refine HL.mono ?_;rintro e J ⟨A3,n3,c3,B3,m3,d3,l,rfl,a4,H2,X2,t2,p2⟩;have XX:Turn S w J:=(Zb (S:=S) bA).trans X2 λk O=>.inl O
  have N2:=(T1.below ((AI _ _).alloc (AE _) (.cells #[.int .i64 G.lvl,.slice A n c,.slice B m K,.int .i64 E,.int .i64 (F:Int),.bool hd,.bool I] 195)) T1.lt).turned X2 (λh=>by have:=hS _ h;omega);clear c0 c1 a1 y0 x0 x1 x2 x3 x4 x5 x6 y HL hY;have zz:w.1.size+4<=J.1.size:=by have:=N1.lt;have:=X2.size;simp at this;omega
  replace f:=f.out
  cases r2 with
  |none=>
   dsimp only at f;obtain⟨rfl,rfl⟩:M=P'/\none=r:=by
    injection OI f with e1 e2;exact⟨e1,e2⟩
   unfold Td;dsimp only;go_wp2_with (first
    |(refine q22 rfl _ _ rfl J.1.size rfl l A3 n3 c3 B3 m3 d3 rfl (NB.new J 0 none 0 0 none 0 0 193) ?_;intro w3 R3 T3)
    |fail)
   have b4:Below J.1.size J w3:=(Ql).trans (T3.below (λk O=>by have:k=J.1.size:=O;omega) (by simp));go_ret2;have F1:=H2.below b4;have F2:=XX.then (Zb (S:=S) b4);have F3:=t2.below b4 t2.1;exact⟨⟨0,rfl⟩,F1,F2,F3.1,F3.2⟩
  |some ks=>
   dsimp only at f;obtain⟨el,hq⟩:=a4 ks rfl;subst el;clear a4;have a8:0=n3:=hq.ln;subst a8;have b6:ks.length=m3:=hq.lm;have b0:=hq.hm;unfold Td;dsimp only;have b4:∀w3,Turn (λg=>g=J.1.size) (J.alloc (.cells #[.int .i64 0,.slice none 0 0,.slice none 0 0] 193)) w3->Below J.1.size J w3:=λw3 T3=>(Ql).trans (T3.below (λk O=>by have:k=J.1.size:=O;omega) (by simp))
   have HS:=λu=>q21 (N.lvl+1) A3 0 c3 B3 m3 d3 (by omega) (by omega) u
   rw[AT] at HS;unfold Xx at HS;replace HS:=HI HS;have y2:=N2.cell 0 rfl;go_wp2_with (first
    |(refine q22 rfl _ _ rfl J.1.size rfl (N.lvl+1) A3 0 c3 B3 m3 d3 rfl (NB.new J 0 none 0 0 none 0 0 193) ?_;intro w3 R3 T3;have r0:=R3.c0;have r1:=R3.c1;have r2:=R3.c2)
    |fail)
   refine (HS.out _).mono ?_;rintro e w4 ⟨rfl,b5⟩;have R4:=R3.below b5 R3.lt;have bb:=(b4 w3 T3).trans (b5.mono (b4 w3 T3).size);have H4:=H2.below bb;have t4:=t2.below bb t2.1;have X4:=XX.then (Zb (S:=S) bb);clear r0 r1 r2 HS;by_cases k0:ks.length=0
   ·rw[AA k0] at f;obtain⟨rfl,rfl⟩:M=P'/\some 0=r:=by
     injection OI f with e1 e2;exact⟨e1,e2⟩
    obtain rfl:0=m3:=by omega
    go_wp2_with fail
    go_ret2;exact⟨0,rfl,(by first|rfl|(intro a e;exact OI e)),H4,X4,t4,p2⟩
   ·rw[AB k0] at f;by_cases k1:ks.length=1
    ·rw[AA k1] at f;obtain⟨rfl,hr⟩:M=P'/\some (Qi ks 0).a=r:=by
      injection OI f with e1 e2;exact⟨e1,e2⟩
     obtain rfl:1=m3:=by omega
     have a7:Turn S J w4:=Zb bb;obtain⟨g,o,rfl,hg,-,-,-,z3⟩:=(hq.Bg w4 a7).cell (show 0<1 by omega);rw[Nat.zero_mul,Nat.add_zero] at z3;have k2:=R4.c2;have hE:Qbp r=0:=by rw[<-hr];rfl
     obtain⟨v,hv⟩:∃v,(Qi ks 0).a=v:=⟨_,rfl⟩;have b8:w4.cell? ⟨g,o+3,none⟩=some (.int .i64 v):=by rw[<-hv];exact z3
     clear z3;go_wp2_with fail
     go_ret2;exact⟨v,by rw[hE];rfl,λa e=>(by rw[<-hr,hv] at e;exact OI e),H4,X4,t4,p2⟩
    ·rw[AB k1] at f;have g0:¬(m3:Int)=0:=by omega
     have g1:¬(m3:Int)=1:=by omega
     have r0:=R4.c0;have r1:=R4.c1;have r2:=R4.c2;have y4:=(bb.cell (p:=⟨w.1.size,0,none⟩) N2.lt).trans y2;have Hp:=qck H4 hb t4 ⟨N.lvl+1,[],ks⟩ A3 0 c3 B3 m3 d3 (λu hu=>⟨hq.its.Y6 ((Zb (S:=S) bb).then hu),hq.Bg _ ((Zb (S:=S) bb).then hu)⟩) (by omega) (by omega);have p5:=p2.put ⟨N.lvl+1,[],ks⟩;have hc:(M.Jm ⟨N.lvl+1,[],ks⟩=0/\M.Jg ⟨N.lvl+1,[],ks⟩=P'/\some (M.Yz ⟨N.lvl+1,[],ks⟩)=r)\/(M.Jm ⟨N.lvl+1,[],ks⟩=6/\M.Jg ⟨N.lvl+1,[],ks⟩=P'/\none=r):=by
      by_cases e0:M.Jm ⟨N.lvl+1,[],ks⟩=0
      ·rw[AA e0] at f;injection OI f with e1 e2;exact .inl ⟨e0,e1,e2⟩
      ·rw[AB e0] at f;by_cases e6:M.Jm ⟨N.lvl+1,[],ks⟩=6
       ·rw[AA e6] at f;injection OI f with e1 e2;exact .inr ⟨e6,e1,e2⟩
       ·rw[AB e6] at f;cases f
     clear f;obtain⟨v,hv⟩:∃v,M.Yz ⟨N.lvl+1,[],ks⟩=v:=⟨_,rfl⟩;rw[hv] at hc Hp;rcases hc with⟨e0,rfl,rfl⟩|⟨e0,rfl,rfl⟩
     ·rw[e0] at Hp;go_wp2_with fail
      refine Hp.mono ?_;rintro e w5 ⟨rfl,H5,X5,t5⟩;go_wp2_with fail
      go_ret2;have F2:=X4.then X5;first|exact⟨v,rfl,λa e=>OI e,H5,F2,t5,p5⟩|exact⟨rfl,H5,F2,t5,p5⟩|exact⟨v,rfl,rfl,H5,F2,t5,p5⟩
     ·rw[e0] at Hp;go_wp2_with fail
      refine Hp.mono ?_;rintro e w5 ⟨rfl,H5,X5,t5⟩;go_wp2_with fail
      go_ret2;have F2:=X4.then X5;first|exact⟨v,rfl,λa e=>(by cases e),H5,F2,t5,p5⟩|exact⟨v,rfl,H5,F2,t5,p5⟩
end
theorem TSp:Az prog 189 195 7 80 (.agg #[.int .i64 0,.slice none 0 0,.slice none 0 0,.int .i64 0,.int .i64 0,.bool false,.bool false]):=⟨underlying189,by kernel_rfl,rfl,by omega⟩
theorem qxf (s:Qr)(A:OA)(n c:Nat)(B:OA)(m d:Nat):∀u∈Ea s A n c B m d,u.oneCell'=true:=by
 intro u e;unfold Ea Ja at e;simp at e;rcases e with rfl|rfl|rfl|rfl|rfl|rfl|rfl<;>rfl
def Uj (Q:WD->Prop)(w:WD)(base:Nat)(A:OA)(n c:Nat)(ss:List Qr):Prop:=
 ∃e,Qz w base 195 7 A n c e/\e.length=ss.length/\∀(j:Nat) r s,e[j]?=some r->ss[j]?=some s->∃A n c B m d,r=Ea s A n c B m d/\Je Q s.N A n c B m d
section
variable {Q Q':WD->Prop}{w w':WD}{base n c:Nat}{A:OA}{ss:List Qr}
theorem qug (Q:WD->Prop)(w:WD)(base:Nat):Uj Q w base none 0 0 []:=⟨[],I5 _ _ _ _,rfl,λj r x e=>by simp at e⟩
theorem Uj.below (h:Uj Q w base A n c ss)(hb:Below w.1.size w w'):Uj Q w' base A n c ss:=by
 obtain⟨e,h1,h2⟩:=h;exact⟨e,h1.below hb,h2⟩
theorem Uj.turned {S:NP}(h:Uj Q w base A n c ss)(T:Turn S w w')(hA:∀k,q01 A=some k->¬S k):Uj Q w' base A n c ss:=by
 obtain⟨e,h1,h2⟩:=h;exact⟨e,h1.turned T hA,h2⟩
theorem Uj.mono (h:Uj Q w base A n c ss)(hq:∀w,Q' w->Q w):Uj Q' w base A n c ss:=by
 obtain⟨f,h1,h2,u⟩:=h;refine⟨f,h1,h2,λj r s E F=>?_⟩;obtain⟨A,n,c,B,m,d,e,y⟩:=u j r s E F;exact⟨A,n,c,B,m,d,e,y.mono hq⟩
theorem Uj.spl (h:Uj Q w base A n c ss):Vo Q w A n c ss:=by
 obtain⟨e,h1,h2⟩:=h;exact⟨e,h1.Um (by omega),h2⟩
theorem Uj.Qc (h:Uj Q w base A n c ss):∀k,q01 A=some k->base<=k/\k<w.1.size:=by
 obtain⟨e,h1,_⟩:=h;exact h1.Qc
theorem qvu (w:WD)(s:Qr)(A:OA)(n c:Nat)(B:OA)(m d:Nat):Jy (w.alloc (.cells #[.int .i64 s.N.lvl,.slice A n c,.slice B m d,.int .i64 s.addr,.int .i64 (s.next:Int),.bool s.held,.bool s.shared] 195)) 7 (some ⟨w.1.size,0,none⟩) 1 1 [Ea s A n c B m d]:=(q1n w 195 7 (Ea s A n c B m d) _ rfl rfl).Um (by omega)
theorem q8r {O:Array Oper}{f:List Oper}{o:Oper}{a:Act}{Q2:Exit->Act->WD->Prop}(a1:o.guard=none)(so x:Operand)
  (ho:o.op=.call { callee:=.builtin .append,args:=#[so,x],argTypes:=#[189,189] })
  (hs:a.eval so=.slice A n c) (J:Uj Q w base A n c ss) {B:OA} {d:Nat} (E:a.eval x=.slice B 1 d) {s:Qr} {X:OA} {n1 c1:Nat} {Y:OA} {m1 Z:Nat}
  (e:Jy w 7 B 1 d [Ea s X n1 c1 Y m1 Z]) (hq:Je Q s.N X n1 c1 Y m1 Z) (hn:n<=1000) (m:base<=w.1.size)
  (h:∀G W w',Uj Q w' base G (n+1) W (ss++[s])->Turn (λk=>q01 A=some k) w w'->(q01 G=q01 A\/q01 G=some w.1.size)->wpList prog O Q2 f (a.put o.dst (.slice G (n+1) W)) w'):wpList prog O Q2 (o::f) a w:=by
 obtain⟨F,h1,h2,h3⟩:=J;refine wpList_plain a1 λK hK=>?_
 have one:∀y∈[Ea s X n1 c1 Y m1 Z],∀u∈y,u.oneCell'=true:=λy hy=>by
  obtain rfl:=List.mem_singleton.1 hy;exact qxf _ _ _ _ _ _ _
 obtain⟨G,W,w',M,U,T,a0,_⟩:=q36 (P:=prog) w TSp o.type base A n c F h1 B 1 d _ e (by omega) one (by omega) (by omega) m;unfold Oper.wp execOp;simp only[ho,resolve,invoke,builtin,Sem.run_bind,Sem.run_pure,Result.andThen_ok,List.map_toArray,BJ,List.map_nil,hs,E,M];refine hK _ _ (h G W w' ⟨_,U,by simp[h2],λj r' x e E=>?_⟩ T a0);by_cases hj:j<F.length
 ·rw[List.getElem?_append_left hj] at e;rw[List.getElem?_append_left (by omega)] at E;exact h3 j r' x e E
 ·rw[List.getElem?_append_right (by omega)] at e E;have I:j-F.length=0:=by
   have:=(List.getElem?_eq_some_iff.1 e).1;simp at this;omega
  rw[I] at e;rw[<-h2,I] at E;obtain rfl:=OI e;obtain rfl:=OI E;exact⟨_,_,_,_,_,_,rfl,hq⟩
end
def Dq (Dt:NP)(w:WD):WD->Prop:=Turn (λk=>¬Dt k) w
section
variable {Dt Dt' S:NP}{w w' v:WD}
theorem qb1 (T:Turn S w w')(e:∀k,S k->¬Dt k)(f:Dq Dt w' v):Dq Dt w v:=(T.mono e).then f
theorem qxg (h:Dq Dt' w v)(f:∀k,Dt k->Dt' k):Dq Dt w v:=h.mono λk e hd=>e (f k hd)
theorem qqm {lo:Nat}(h:Dq Dt w v)(hd:∀k,lo<=k->k<w.1.size->Dt k):Turn (λk=>k<lo) w v:=⟨h.os,h.tape,h.output,h.size,λk e hn=>h.block k e λf=>f (hd k (by omega) e)⟩
theorem qz4 {lo:Nat}(h:Turn (λk=>k<lo) w v)(hd:∀k,Dt k->lo<=k):Dq Dt w v:=h.mono λk f e=>by have:=hd k e;have:k<lo:=f;omega
end
structure Qcl (R:Int->Nd × Int)(roots:LI)(Ns:List (Int × Nd))(seen:Nat->Bool)(todo:LI):Prop where
 got:∀x∈Ns,R x.1=(x.2,0)/\∃c:Nat,x.1=(c:Int)/\seen c=true
 all:∀c:Nat,seen c=true->(R (c:Int)).2=0->((c:Int),(R (c:Int)).1)∈Ns
 one:Ns.Pairwise λx y=>x.1≠y.1
 root:∀a:Nat,0<a->a<2048->(a:Int)∈roots->seen a=true\/(a:Int)∈todo
 kid:∀x∈Ns,∀y∈x.2.kids,∀a:Nat,y.a=(a:Int)->0<a->a<2048->seen a=true\/(a:Int)∈todo
section
variable {R:Int->Nd × Int}{roots:LI}{Ns:List (Int × Nd)}{seen:Nat->Bool}{r:LI}{x:Int}
end
theorem quh (n:Nat)(a:Int):(Ct.zero n).get a=0:=by
 unfold Ct.get Ct.zero nm;split
 ·show (List.replicate n (0:Int)).getD a.toNat 0=0;rw[AG,List.getElem?_replicate];split<;>rfl
 ·rfl
theorem O9 (P:Pl)(D:DM):P.hide D []=P.tell D:=by
 funext a
 exact AB (by simp)
theorem qmv (P:Pl)(D:DM)(a:Int):(P.tell D a).1.named=(P.Qd D a).named:=by
 by_cases e:P.Qe D a=0
 ·rw[I4 e];rfl
 ·rw[qah e];by_cases h0:P.C.get a=0
  ·rw[q2q h0]
  ·rw[q9o h0 e];rfl
theorem q6c {P:Pl}{D:DM}:∀{l:Nat} {a:Int} {its:List Qb},Qm (P.tell D) l a its↔Qm (P.store D) l a its
 |0,a,its=>by
  constructor
  ·intro h;have e:P.Qe D a=0:=qds (by rw[h.1]) (by rw[h.1];exact Int.le_refl 0);exact⟨by rw[<-I4 e];exact h.1,h.2⟩
  ·intro h;have e:P.Qe D a=0:=congrArg Prod.snd h.1;exact⟨by rw[I4 e];exact h.1,h.2⟩
 |l+1,a,its=>by
  constructor
  ·rintro⟨kids,parts,h1,h2,u,y,f⟩;have e:P.Qe D a=0:=qds (by rw[h1]) (by rw[h1];exact Int.natCast_nonneg (l+1));exact⟨kids,parts,by rw[<-I4 e];exact h1,h2,u,y,λj m=>⟨q6c.1 (f j m).1,(f j m).2⟩⟩
  ·rintro⟨kids,parts,h1,h2,u,y,f⟩;have e:P.Qe D a=0:=congrArg Prod.snd h1;exact⟨kids,parts,by rw[I4 e];exact h1,h2,u,y,λj m=>⟨q6c.2 (f j m).1,(f j m).2⟩⟩
theorem q2e {P:Pl}{D:DM}{l:Nat}{a:Int}{its:List Qb}:Qm (P.hide D []) l a its↔Qm (P.store D) l a its:=by rw[O9];exact q6c
theorem q9c {P:Pl}{D:DM}{root:Int}{its:List Qb}:Xk (P.hide D []) root its↔Xk (P.store D) root its:=by
 unfold Xk;constructor
 ·rintro (h|⟨l,h1,h2,e⟩)
  ·exact .inl h
  ·exact .inr ⟨l,h1,q2e.1 h2,e⟩
 ·rintro (h|⟨l,h1,h2,e⟩)
  ·exact .inl h
  ·exact .inr ⟨l,h1,q2e.2 h2,e⟩
theorem qmw {n:Nat}(h1:32<=n)(h2:n<=2048):Keep ((DM.mk0 n).Qy (Xu n)) (fmtS n) (Ct.zero n) [] [] (Pl.fresh n):=by
 obtain⟨_,h,_⟩:=qju (D:=DM.mk0 n) h1 h2 rfl ⟨rfl,rfl⟩;have e:∀a:Int,(Pl.fresh n).C.get a=0:=quh n;refine⟨⟨qtd h1 h2,h,λa b u=>(by cases u)⟩,λa m=>absurd (e a) (q2s m),⟨λa _ _=>?_⟩,λx y=>(by cases y),λa _ h0=>absurd (e a) h0⟩;have f:∀b,(Pl.fresh n).cnt b=0:=λb=>by unfold Pl.cnt;rw[e];rfl
 rw[f];have:refs (λb=>((Pl.fresh n).hide ((DM.mk0 n).Qy (Xu n)) [] (b:Int)).1.named) (Pl.fresh n).C.n (Pl.fresh n).cnt a=0:=qdm λb _=>by rw[f];rfl
 rw[this];rfl
section
variable {D:DM}{S0:Sp}{C0:Ct}{H:LI}{P:Pl}
theorem Keep.Qa1 (K:Keep D S0 C0 [] H P):P.Gi D H:=J3.same K.Gi (λ_ _=>rfl) λb _ _=>by rw[O9,qmv];rfl
theorem Keep.Vr (K:Keep D S0 C0 [] H P):P.Vr D:=by
 have L:=λ{a:Nat} (f:P.Qe D (a:Int)=0)=>by
  have e:=I4 f;have hm:=q8z K.Zl f;have:=K.Qa2 (x:=(a:Int)) (by rw[O9,e];exact f) (by rw[O9,e];exact (q7t hm).1);rw[O9] at this;exact this
 refine⟨λa _ _ f=>q8z K.Zl f,λa _ _ f x B c E=>?_,λa _ _ f x B=>?_⟩
 ·have h1:=(L f).data x (by rw[I4 f];exact B) c E;exact (q53 K.Zl h1).2
 ·obtain⟨I,F,J,_⟩:=(L f).kids x (by rw[I4 f];exact B);have y:=q8z K.Zl f;have G:(P.tell D (a:Int)).1.lvl=(P.Qd D (a:Int)).lvl:=by rw[I4 f];rfl
  have M:1<=(P.Qd D (a:Int)).lvl:=by
   refine Classical.byContradiction λE=>?_
   have h0:(P.Qd D (a:Int)).lvl=0:=by have:=(q7t y).1;omega
   have e:(P.Qd D (a:Int)).kids=[]:=congrArg Nd.kids (q1c y h0).1;rw[e] at B
   cases B
  rw[G] at F;have m:=qds I (by omega);obtain⟨c,e,E⟩:=Uh (q9p I);have u:P.C.get (c:Int)≠0:=by rw[<-e];exact q9p I
  obtain⟨c0,_⟩:=K.first u
  rw[I4 m] at F J;rw[e] at F J m;exact⟨c,e,c0,E,u,m,F,J⟩
end
theorem qgo {α:Type}:∀{l l':List α},l.Nodup->(∀x∈l,x∈l')->l.length<=l'.length
 |[],_,_,_=>AW _
 |x::t,l',hn,hs=>by
  obtain⟨h1,h2⟩:=List.nodup_cons.1 hn;obtain⟨s,u,rfl⟩:=List.append_of_mem (hs x (AP ..));have:=qgo (l':=s++u) h2 λy e=>by
   have f:=hs y (AO _ e);rcases List.mem_append.1 f with h|h
   ·exact List.mem_append_left _ h
   ·rcases List.mem_cons.1 h with h|h
    ·exact absurd (h▸e) h1
    ·exact AU _ h
  rw[AD,AX] at *;simp only[AX];omega
theorem qky {α:Type}{p a b c d:α->Bool}:∀(l:List α),(∀x∈l,p x=true->a x=true\/b x=true\/c x=true\/d x=true)->l.countP p<=l.countP a+(l.countP b+(l.countP c+l.countP d))
 |[],_=>by simp
 |x::t,h=>by
  have u:=qky t λy m=>h y (AO _ m)
  have f:=h x (AP ..);simp only[List.countP_cons];by_cases e:p x=true
  ·rcases f e with h|h|h|h<;>rw[AA h,AA e]<;>split<;>omega
  ·rw[AB e];omega
def J9 (R:Int->Nd × Int):Nat->Int->LI
 |0,a=>[a]
 |l+1,a=>a::(R a).1.kids.flatMap λx=>J9 R l x.a
theorem qcy (R:Int->Nd × Int):∀(l:Nat) (a:Int),a∈J9 R l a
 |0,_a=>AP ..
 |_l+1,_a=>AP ..
theorem q8s {R:Int->Nd × Int}:∀{l:Nat} {r b:Int} {its:List Qb},Qm R l r its->b∈J9 R l r->∀x∈(R b).1.kids,x.a∈J9 R l r
 |0,r,b,its,h,f,x,hx=>by
  obtain rfl:b=r:=List.mem_singleton.1 f;rw[h.1] at hx
  cases hx
 |l+1,r,b,its,h,f,x,hx=>by
  rcases List.mem_cons.1 f with rfl|f
  ·exact AO _ (List.mem_flatMap.2 ⟨x,hx,qcy R l x.a⟩)
  ·obtain⟨k,u,f⟩:=List.mem_flatMap.1 f;obtain⟨kids,parts,e,G,I,J,F⟩:=h;rw[e] at u;obtain⟨j,m,E⟩:=List.getElem_of_mem u;have B:Qi kids j=k:=by
    have:=q16 m;rw[AC m,E] at this;exact (OI this).symm
   have y:=(F j m).1;rw[B] at y;have:=q8s y f x hx;refine AO _ (List.mem_flatMap.2 ⟨k,?_,this⟩);rw[e];exact u
theorem qb2 {R:Int->Nd × Int}{l:Nat}(h:∀y:Zx,good1 R l y->(J9 R l y.1).length+2<=y.2.length):∀(G:List Zx),(∀x∈G,good1 R l x)->(G.flatMap λx=>J9 R l x.1).length+2*G.length<=(G.map (·.2)).flatten.length
 |[],_=>by simp
 |y::G,hg=>by
  have h1:=h y (hg y (AP ..));have h2:=qb2 h G λx e=>hg x (AO _ e)
  simp only[BC,BJ,List.flatten_cons,AD,AX];omega
section
variable {D:DM}{S0:Sp}{C0:Ct}{H:LI}{P:Pl}
theorem qcz (R:Int->Nd × Int)(l:Nat)(G:List Zx):((G.map Qn).flatMap λx=>J9 R l x.a)=G.flatMap λx=>J9 R l x.1:=by
 induction G with
 |nil=>rfl
 |cons y G ih=>rw[BJ,BC,BC,ih];rfl
theorem Keep.few (K:Keep D S0 C0 [] H P):∀(l:Nat) (y:Zx),good1 (P.hide D []) l y->(J9 (P.hide D []) l y.1).length+2<=y.2.length
 |0,y,h=>by
  have:=K.long 0 y h;show 1+2<=_;omega
 |l+1,y,h=>by
  obtain⟨M,f,B,_,_⟩:=K.Fa h.1;have u:=(q3o f).1 h.2.1;obtain⟨G,e,rfl,E⟩:=f;have m:Qs ((l+1:Nat):Int)=6:=AB (by omega);rw[m,AF] at u;have h2:=qb2 (λy F=>K.few l y F) G E;show (y.1::_).length+2<=_;rw[AX,e,qcz,<-B];omega
theorem Keep.Qaa (K:Keep D S0 C0 [] H P){l:Nat}{a:Int}{its:List Qb}(h:Qm (P.hide D []) l a its):(J9 (P.hide D []) l a).length<=its.length:=by
 obtain⟨M,m,B,u,F⟩:=K.Fa h
 cases l with
 |zero=>
  have:=h.2;show 1<=_;exact List.length_pos_iff.2 this
 |succ l=>
  obtain⟨G,e,rfl,E⟩:=m;have h2:=qb2 (λy I=>K.few l y I) G E;have f:=(q0o u.may (by rw[e];show ¬((l+1:Nat):Int)=0;omega)).2.2.2.1;rw[e] at f;have f:2<=(G.map Qn).length:=f;rw[AF] at f;show (a::_).length<=_;rw[AX,e,qcz,<-B];omega
def Ct.used (C:Ct):Nat:=(List.range C.n).countP λa=>decide (nm C.now a≠0)
def Ct.kept (C:Ct):Nat:=(List.range C.n).countP λa=>decide (nm C.done a≠0)
theorem qqn (C:Ct):C.n<=C.free+(C.first+(C.used+C.kept)):=by
 have h:=qky (p:=λ_=>true) (a:=λj=>C.may j) (b:=λj=>decide (j<C.first)) (c:=λa=>decide (nm C.now a≠0)) (d:=λa=>decide (nm C.done a≠0)) (List.range C.n) λx B _=>by
  by_cases h1:x<C.first
  ·exact .inr (.inl (AL h1))
  ·by_cases h2:nm C.now x=0
   ·by_cases e:nm C.done x=0
    ·left
     unfold Ct.may Ct.Gv;simp[h2,e];omega
    ·exact .inr (.inr (.inr (AL e)))
   ·exact .inr (.inr (.inl (AL h2)))
 have m:(List.range C.n).countP (λ_=>true)=C.n:=by
  rw[List.countP_eq_length.2 λ_ _=>rfl,List.length_range]
 have y:(List.range C.n).countP (λj=>decide (j<C.first))<=C.first:=by
  generalize C.n=n;generalize C.first=f
  induction n with
  |zero=>simp
  |succ n ih=>
   rw[List.range_succ,List.countP_append];by_cases hn:n<f
   ·have:(List.range n).countP (λj=>decide (j<f))<=n:=by
     have:=List.countP_le_length (p:=λj=>decide (j<f)) (l:=List.range n);rw[List.length_range] at this;exact this
    simp[hn];omega
   ·simp[hn];omega
 have u:(List.range C.n).countP (λj=>C.may j)=C.free:=by unfold Ct.free Ct.Vs;rfl
 rw[m,u] at h;unfold Ct.used Ct.kept;omega
def Fg (R:Int->Nd × Int)(L:List (Nat × Int × List Qb)):Prop:=∀x∈L,Qm R x.1 x.2.1 x.2.2
theorem qb3 {R:Int->Nd × Int}:∀{l:Nat} {r b:Int} {its:List Qb},Qm R l r its->b∈J9 R l r->∀x∈(R b).1.items,x∈its
 |0,r,b,its,h,f,x,hx=>by
  obtain rfl:b=r:=List.mem_singleton.1 f;rw[h.1] at hx;exact hx
 |l+1,r,b,its,h,f,x,hx=>by
  obtain⟨kids,parts,e,I,J,F,G⟩:=h;rcases List.mem_cons.1 f with rfl|f
  ·rw[e] at hx;cases hx
  ·obtain⟨k,y,f⟩:=List.mem_flatMap.1 f;rw[e] at y;obtain⟨j,m,E⟩:=List.getElem_of_mem y;have B:Qi kids j=k:=by
    have:=q16 m;rw[AC m,E] at this;exact (OI this).symm
   have u:=(G j m).1;rw[B] at u;have m:j<kids.length:=m;have h1:=qb3 u f x hx;rw[F];rw[AG,AC (by omega)] at h1;exact List.mem_flatten.2 ⟨_,List.getElem_mem (by omega),h1⟩
theorem Keep.used (K:Keep D S0 C0 [] H P){L:List (Nat × Int × List Qb)}{X:LI}(hL:Fg (P.hide D []) L)(hH:∀a∈H,(∃x∈L,x.2.1=a)\/a∈X)(hX:∀a∈X,P.Qe D a≠0):P.C.used<=(L.map λx=>x.2.2.length).sum+((L.map λx=>(x.2.2.filterMap Ky).length).sum+X.length):=by
 have E:∀a:Nat,(a:Int)∈H->P.Qe D (a:Int)=0->∀x∈L,x.2.1=(a:Int)->(a:Int)∈L.flatMap λx=>J9 (P.hide D []) x.1 x.2.1:=λa _ _ x m e=>List.mem_flatMap.2 ⟨x,m,e▸qcy _ _ _⟩
 have h1:∀a:Nat,a<P.C.n->P.Qe D (a:Int)=0->(a:Int)∈L.flatMap λx=>J9 (P.hide D []) x.1 x.2.1:=λa J I=>
  qbw K.Qa1 K.Vr K.c K.Zl.ok.res (S:=λa:Nat=>(a:Int)∈L.flatMap λx=>J9 (P.hide D []) x.1 x.2.1) (λb W M O f=>by
   rcases hH _ O with⟨x,m,e⟩|h
   ·exact E b O f x m e
   ·exact absurd f (hX _ h)) (λb c W M a2 hc f Y ⟨y,F,e⟩=>by
   obtain⟨x,m,B⟩:=List.mem_flatMap.1 Y;refine List.mem_flatMap.2 ⟨x,m,?_⟩;rw[<-e];refine q8s (hL x m) B y ?_;rw[O9,I4 f];exact F) a J I
 have h2:∀a:Nat,a<P.C.n->P.C.get (a:Int)≠0->(a:Int)∈(L.flatMap λx=>J9 (P.hide D []) x.1 x.2.1)++((L.flatMap λx=>x.2.2.filterMap Ky)++X):=λa J h0=>by
  by_cases I:P.Qe D (a:Int)=0
  ·exact List.mem_append_left _ (h1 a J I)
  ·refine AU _ ?_;obtain⟨Z,_⟩:=K.first h0
   rcases K.Qa1.by_ Z J ((qib K.c).2 h0) with hm|⟨b,M,a1,hm⟩
   ·rcases hH _ hm with⟨x,m,e⟩|h
    ·have:=(q3f (hL x m)).2;rw[e] at this;exact absurd this I
    ·exact AU _ h
   ·have f:=q2t hm;refine List.mem_append_left _ ?_;obtain⟨x,m,B⟩:=List.mem_flatMap.1 (h1 b M f);rcases q7u K.Vr M hm with⟨_,_,_,_,k,_⟩|_
    ·exact absurd k I
    ·have U:(a:Int)∈(P.Qd D (b:Int)).named:=hm;unfold Nd.named at U;rcases List.mem_append.1 U with h|h
     ·obtain⟨y,F,e⟩:=List.mem_map.1 h;obtain⟨c,u,_,_,_,G,_⟩:=K.Vr.kids b M (q5d f) f y F;rw[u] at e;rw[e] at G;exact absurd G I
     ·obtain⟨y,F,e⟩:=List.mem_filterMap.1 h;refine List.mem_flatMap.2 ⟨x,m,List.mem_filterMap.2 ⟨y,?_,e⟩⟩;refine qb3 (hL x m) B y ?_;rw[O9,I4 f];exact F
 have u:(((List.range P.C.n).filter λa=>decide (nm P.C.now a≠0)).map λa:Nat=>(a:Int)).length<=((L.flatMap λx=>J9 (P.hide D []) x.1 x.2.1)++((L.flatMap λx=>x.2.2.filterMap Ky)++X)).length:=by
  refine qgo ?_ λx m=>?_
  ·refine List.Pairwise.map _ (R:=λa b:Nat=>a≠b) (λa b h (e:(a:Int)=(b:Int))=>h (by omega)) ?_;exact List.nodup_range.filter _
  ·obtain⟨a,J,rfl⟩:=List.mem_map.1 m;obtain⟨u,G⟩:=List.mem_filter.1 J;have u:=List.mem_range.1 u;refine h2 a u λe=>AK G ?_
   unfold Ct.get at e;rw[AA (by omega),AJ] at e;exact e
 rw[AF,<-List.countP_eq_length_filter,AD,AD] at u;have G:∀(L:List (Nat × Int × List Qb)),Fg (P.hide D []) L->(L.flatMap λx=>J9 (P.hide D []) x.1 x.2.1).length<=(L.map λx=>x.2.2.length).sum:=by
  intro L;induction L with
  |nil=>intro _;simp
  |cons x t ih=>
   intro h;have i1:=K.Qaa (h x (AP ..));have i2:=ih λy F=>h y (AO _ F)
   rw[BC,AD,BJ,List.sum_cons];omega
 have h5:(L.flatMap λx=>x.2.2.filterMap Ky).length=(L.map λx=>(x.2.2.filterMap Ky).length).sum:=by
  generalize L=L;induction L with
  |nil=>rfl
  |cons x t ih=>rw[BC,AD,BJ,List.sum_cons,ih]
 have h6:=G L hL;have h7:P.C.used=(List.range P.C.n).countP λa=>decide (nm P.C.now a≠0):=rfl
 omega
end
section
variable {w w':WD}{g n c:Nat}{l:List Bool}
end
theorem qby {w:WD}{G:Array Oper}{f:List Oper}{o:Oper}{a:Act}{Q:Exit->Act->WD->Prop}(K:o.guard=none)(M x:Operand)
  (U:o.op=.call { callee:=.builtin .append,args:=#[M,x],argTypes:=#[30,30] })
  (base:Nat) (A:OA) (n c:Nat) (zs:LI) (X:a.eval M=.slice A n c) (F:Qz w base 3 1 A n c (zs.map iv))
  (B:OA) (d:Nat) (y:Int) (Z:a.eval x=.slice B 1 d) (W:Qco w B 1 d [y]) (hn:n<=900000) (m:base<=w.1.size)
  (h:∀E I w',Qz w' base 3 1 E (n+1) I ((zs++[y]).map iv)->Turn (λk=>q01 A=some k) w w'->(q01 E=q01 A\/q01 E=some w.1.size)->wpList prog G Q f (a.put o.dst (.slice E (n+1) I)) w'):wpList prog G Q (o::f) a w:=by
 refine q47 w Qa8 K M x U base A n c (zs.map iv) X F B 1 d ([y].map iv) Z W (by omega) (λz hz u Y=>?_) (by omega) (by decide) m ?_
 ·obtain⟨O,_,rfl⟩:=List.mem_map.1 hz;exact qrz O (iv O) (AP ..) u Y
 ·intro E I w' e T J _;rw[<-List.map_append] at e;exact h E I w' e T J
