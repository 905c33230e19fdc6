/- The code's edit: top -/
import Derived.Test.YthkfkhejjmhomaaGreatDoorHaO
namespace Go.Proofs.YthkfkhejjmhomaaGreatDoor
open Go Go.RowKit Go.Proofs
set_option maxHeartbeats 8000000
set_option maxRecDepth 100000
theorem Qm9 {S:Nat->Prop}{w:World}(g:∀k,S k->k<w.1.size){Q:World->Prop}(s:Zz){A B:Option Addr}{n c m d:Nat}(h:U6 Q s.N A n c B m d)(t:TypeId):∀u,Turn S (w.alloc (.cells #[.int .i64 s.N.lvl,.slice A n c,.slice B m d,.int .i64 s.addr,.int .i64 (s.next:Int),.bool s.held,.bool s.shared] t)) u->Spl Q u (some ⟨w.1.size,0,none⟩) 1 1 [s]:=λu y=>by
 have h0:Zg (w.alloc (.cells #[.int .i64 s.N.lvl,.slice A n c,.slice B m d,.int .i64 s.addr,.int .i64 (s.next:Int),.bool s.held,.bool s.shared] t)) 7 (some ⟨w.1.size,0,none⟩) 1 1 [spV s A n c B m d]:=(Np w t 7 (spV s A n c B m d) _ rfl rfl).Hr (by omega);refine⟨_,Qci h0 y (λk e q=>by injection e with e;have e:w.1.size=k:=e;have:=g k q;omega),rfl,λj r x f z=>?_⟩
 cases j with
 |zero=>
  obtain rfl:=Option.some.inj f;obtain rfl:=Option.some.inj z;exact⟨_,_,_,_,_,_,rfl,h⟩
 |succ j=>simp at f
def Zfb (r:Option Int):Int:=match r with
 |some _=>0
 |none=>6
section
variable {b:Nat}{w:World}{d p:Nat}{S0 S T:Nat->Prop}{D:DM}{P P':Pl}
theorem Qyp (H:Zb b w d p S0 S T D P)(hb:1<b)(ht:Tab w)(hP:P.tidy)(s:Zz)(A:Option Addr)(n c:Nat)(B:Option Addr)(m J:Nat)(hs:U6 (Turn S w) s.N A n c B m J)(N:Nd)(O:Option Addr)(W c2:Nat)(R:Option Addr)(V U:Nat)(hB:U6 (Turn S w) N O W c2 R V U)(a7:N.fit)(b7:N.size<=40)(hl:0<=N.lvl/\N.lvl<8){r:Option Int}(f:P.top s N=some (P',r)) :
  Calls Tryz.prog 189 #[tv p,spA s A n c B m J,Px N.lvl O W c2 R V U] w λe w'=>∃v,e=.returned (.tuple #[.int .i64 v,.int .i64 (Zfb r)])/\(∀a,r=some a->v=a)/\Zb b w' d p S0 S T D P'/\Turn S w w'/\Tab w'/\P'.tidy:=by
 obtain⟨F,z,E,hd,G⟩:=s;have hS:=H.low;have c8:=hB.hn;have c6:=hB.hm;have lm:=hB.lm;have b3:Below w.1.size w (((w.alloc (.cells #[.pointer (some ⟨p,0,none⟩)] 173)).alloc (.cells (Nh F.lvl A n c B m J z (E:Int) hd G).toArray 180)).alloc (.cells #[.int .i64 N.lvl,.slice O W c2,.slice R V U] 178)):=((Ib).alloc (by simp) _).alloc (by simp;omega) _;have T1:RB (((w.alloc (.cells #[.pointer (some ⟨p,0,none⟩)] 173)).alloc (.cells (Nh F.lvl A n c B m J z (E:Int) hd G).toArray 180)).alloc (.cells #[.int .i64 N.lvl,.slice O W c2,.slice R V U] 178)) w.1.size [.pointer (some ⟨p,0,none⟩)]:=(RB.new w [.pointer (some ⟨p,0,none⟩)] 173).below ((Ib).alloc (by simp) _) (by simp);have X1:RB (((w.alloc (.cells #[.pointer (some ⟨p,0,none⟩)] 173)).alloc (.cells (Nh F.lvl A n c B m J z (E:Int) hd G).toArray 180)).alloc (.cells #[.int .i64 N.lvl,.slice O W c2,.slice R V U] 178)) (w.1.size+1) (Nh F.lvl A n c B m J z (E:Int) hd G):=by
  have:=RB.new (w.alloc (.cells #[.pointer (some ⟨p,0,none⟩)] 173)) (Nh F.lvl A n c B m J z (E:Int) hd G) 180;rw[World.size_alloc] at this;exact this.below (Ib) (by simp)
 have N1:NB (((w.alloc (.cells #[.pointer (some ⟨p,0,none⟩)] 173)).alloc (.cells (Nh F.lvl A n c B m J z (E:Int) hd G).toArray 180)).alloc (.cells #[.int .i64 N.lvl,.slice O W c2,.slice R V U] 178)) (w.1.size+1+1) N.lvl O W c2 R V U:=by
  have:=NB.new2 (w.alloc (.cells #[.pointer (some ⟨p,0,none⟩)] 173)) (.cells (Nh F.lvl A n c B m J z (E:Int) hd G).toArray 180) N.lvl O W c2 R V U 178;rwa [World.size_alloc] at this
 unfold Pl.top at f;unfold tv spA Px;dsimp only;unfold Nh at b3 T1 X1 N1;have c0:=N1.c0;have c1:=N1.c1;have a2:=N1.c2;have y0:=T1.cell 0 rfl;have x0:=X1.cell 0 rfl;have x1:=X1.cell 1 rfl;have x2:=X1.cell 2 rfl;have x3:=X1.cell 3 rfl;have x4:=X1.cell 4 rfl;have x5:=X1.cell 5 rfl;have x6:=X1.cell 6 rfl;by_cases h1:N.kids.length=1
 ·rw[if_pos h1] at f;obtain⟨K,hv,e⟩:=Option.map_eq_some_iff.1 f;injection e with X Z;subst X Z;rw[lm] at h1;subst h1;go_enter Tryz.func189,Tryz.ntmps189
  go_wp2_with fail
  generalize (((w.alloc (.cells #[.pointer (some ⟨p,0,none⟩)] 173)).alloc (.cells #[.int .i64 F.lvl,.slice A n c,.slice B m J,.int .i64 z,.int .i64 (E:Int),.bool hd,.bool G] 180)).alloc (.cells #[.int .i64 N.lvl,.slice O W c2,.slice R 1 U] 178))=w1 at b3 T1 X1 N1 c0 c1 a2 y0 x0 x1 x2 x3 x4 x5 x6 ⊢;refine (Qb2 (H.below b3) hb (ht.below b3 ht.1) ⟨F,z,E,hd,G⟩ A n c B m J hv).mono ?_;rintro e I ⟨rfl,H2,X2,t2⟩;have XX:Turn S w I:=(Uk (S:=S) b3).trans X2 λk M=>.inl M
  have N2:=N1.turned X2 (λh=>by have:=hS _ h;omega);obtain⟨g,o,rfl,hg,-,-,-,z3⟩:=(hB.Ic I XX).cell (show 0<1 by omega);rw[Nat.zero_mul,Nat.add_zero] at z3;have k2:=N2.c2;obtain⟨v,a6⟩:∃v,(Ql N.kids 0).a=v:=⟨_,rfl⟩;rw[a6] at z3;go_wp2_with fail
  go_ret2;exact⟨v,rfl,(by first|exact a6.symm|(intro a e;exact a6.symm.trans (Option.some.inj e))),H2,XX,t2,hP.leave hv⟩
 ·rw[if_neg h1] at f;rw[lm] at h1;have b9:¬(V:Int)=1:=by omega
  obtain⟨K,r2,a1⟩:∃K r2,P.Tq ⟨N,[⟨F,z,E,hd,G⟩],0,0⟩=some (K,r2):=by
   cases e:P.Tq ⟨N,[⟨F,z,E,hd,G⟩],0,0⟩ with
   |none=>rw[e] at f;cases f
   |some q=>exact⟨q.1,q.2,rfl⟩
  rw[a1] at f;have y:=λ(u:World) (hu:Below w.1.size w u) (Y:Option Addr) (hY:∀v,Turn S u v->Spl (Turn S u) v Y 1 1 [⟨F,z,E,hd,G⟩])=>Qoj (H.below hu) hb (ht.below hu ht.1) hP ⟨N,[⟨F,z,E,hd,G⟩],0,0⟩ O W c2 R V U (hB.mono λv hv=>(Uk (S:=S) hu).trans hv λk M=>.inl M) a7 b7 hl Y 1 1 hY (by omega) a1 0 0
  unfold tv Ou Px at y;dsimp only at y;replace y:=Lib.hid y;replace f:=Lib.hid f;clear a1;go_enter Tryz.func189,Tryz.ntmps189
  go_wp2_with fail
  have b0:(((w.alloc (.cells #[.pointer (some ⟨p,0,none⟩)] 173)).alloc (.cells #[.int .i64 F.lvl,.slice A n c,.slice B m J,.int .i64 z,.int .i64 (E:Int),.bool hd,.bool G] 180)).alloc (.cells #[.int .i64 N.lvl,.slice O W c2,.slice R V U] 178)).1.size=w.1.size+1+1+1:=by simp
  generalize (((w.alloc (.cells #[.pointer (some ⟨p,0,none⟩)] 173)).alloc (.cells #[.int .i64 F.lvl,.slice A n c,.slice B m J,.int .i64 z,.int .i64 (E:Int),.bool hd,.bool G] 180)).alloc (.cells #[.int .i64 N.lvl,.slice O W c2,.slice R V U] 178))=w1 at b3 T1 X1 N1 c0 c1 a2 y0 x0 x1 x2 x3 x4 x5 x6 b0 ⊢;have bA:=b3.alloc b3.size (.cells #[.int .i64 F.lvl,.slice A n c,.slice B m J,.int .i64 z,.int .i64 (E:Int),.bool hd,.bool G] 180);have b1:∀k,S k->k<w1.1.size:=λk M=>by have:=hS k M;have:=b3.size;omega
  have hY:=λu hu=>Qm9 b1 (Q:=Turn S (w1.alloc (.cells #[.int .i64 F.lvl,.slice A n c,.slice B m J,.int .i64 z,.int .i64 (E:Int),.bool hd,.bool G] 180))) ⟨F,z,E,hd,G⟩ (hs.mono λv hv=>(Uk (S:=S) bA).trans hv λk M=>.inl M) 180 u hu
  have HL:=y.out _ bA _ hY;rw[b0] at HL;refine HL.mono ?_;rintro e I ⟨A3,n3,c3,B3,m3,d3,l,rfl,a8,H2,X2,t2,p2⟩;have XX:Turn S w I:=(Uk (S:=S) bA).trans X2 λk M=>.inl M
  have N2:=(T1.below ((Below.refl _ _).alloc (Nat.le_refl _) (.cells #[.int .i64 F.lvl,.slice A n c,.slice B m J,.int .i64 z,.int .i64 (E:Int),.bool hd,.bool G] 180)) T1.lt).turned X2 (λh=>by have:=hS _ h;omega);clear c0 c1 a2 y0 x0 x1 x2 x3 x4 x5 x6 y HL hY;have zz:w.1.size+4<=I.1.size:=by have:=N1.lt;have:=X2.size;simp at this;omega
  replace f:=f.out
  cases r2 with
  |none=>
   dsimp only at f;obtain⟨rfl,rfl⟩:K=P'/\none=r:=by
    injection Option.some.inj f with X Z;exact⟨X,Z⟩
   unfold Qzd;dsimp only;go_wp2_with (first
    |(refine P6 rfl _ _ rfl I.1.size rfl l A3 n3 c3 B3 m3 d3 rfl (NB.new I 0 none 0 0 none 0 0 178) ?_;intro w3 R3 T3)
    |fail)
   have b4:Below I.1.size I w3:=(Ib).trans (T3.below (λk M=>by have:k=I.1.size:=M;omega) (by simp));go_ret2;have F1:=H2.below b4;have F2:=XX.then (Uk (S:=S) b4);have F3:=t2.below b4 t2.1;exact⟨⟨0,rfl⟩,F1,F2,F3.1,F3.2⟩
  |some ks=>
   dsimp only at f;obtain⟨el,hq⟩:=a8 ks rfl;subst el;clear a8;have b6:0=n3:=hq.ln;subst b6;have c7:ks.length=m3:=hq.lm;have b8:=hq.hm;unfold Qzd;dsimp only;have b4:∀w3,Turn (λg=>g=I.1.size) (I.alloc (.cells #[.int .i64 0,.slice none 0 0,.slice none 0 0] 178)) w3->Below I.1.size I w3:=λw3 T3=>(Ib).trans (T3.below (λk M=>by have:k=I.1.size:=M;omega) (by simp))
   have HS:=λu=>O0 (N.lvl+1) A3 0 c3 B3 m3 d3 (by omega) (by omega) u
   rw[Nat.zero_add] at HS;unfold Px at HS;replace HS:=Lib.hid HS;have y2:=N2.cell 0 rfl;go_wp2_with (first
    |(refine P6 rfl _ _ rfl I.1.size rfl (N.lvl+1) A3 0 c3 B3 m3 d3 rfl (NB.new I 0 none 0 0 none 0 0 178) ?_;intro w3 R3 T3;have r0:=R3.c0;have r1:=R3.c1;have r2:=R3.c2)
    |fail)
   refine (HS.out _).mono ?_;rintro e w4 ⟨rfl,b5⟩;have R4:=R3.below b5 R3.lt;have bb:=(b4 w3 T3).trans (b5.mono (b4 w3 T3).size);have H4:=H2.below bb;have t4:=t2.below bb t2.1;have X4:=XX.then (Uk (S:=S) bb);clear r0 r1 r2 HS;by_cases k0:ks.length=0
   ·rw[if_pos k0] at f;obtain⟨rfl,rfl⟩:K=P'/\some 0=r:=by
     injection Option.some.inj f with X Z;exact⟨X,Z⟩
    obtain rfl:0=m3:=by omega
    go_wp2_with fail
    go_ret2;exact⟨0,rfl,(by first|rfl|(intro a e;exact Option.some.inj e)),H4,X4,t4,p2⟩
   ·rw[if_neg k0] at f;by_cases k1:ks.length=1
    ·rw[if_pos k1] at f;obtain⟨rfl,hr⟩:K=P'/\some (Ql ks 0).a=r:=by
      injection Option.some.inj f with X Z;exact⟨X,Z⟩
     obtain rfl:1=m3:=by omega
     have b2:Turn S I w4:=Uk bb;obtain⟨g,o,rfl,hg,-,-,-,z3⟩:=(hq.Ic w4 b2).cell (show 0<1 by omega);rw[Nat.zero_mul,Nat.add_zero] at z3;have k2:=R4.c2;have hE:Zfb r=0:=by rw[<-hr];rfl
     obtain⟨v,hv⟩:∃v,(Ql ks 0).a=v:=⟨_,rfl⟩;have c9:w4.cell? ⟨g,o+3,none⟩=some (.int .i64 v):=by rw[<-hv];exact z3
     clear z3;go_wp2_with fail
     go_ret2;exact⟨v,by rw[hE];rfl,λa e=>(by rw[<-hr,hv] at e;exact Option.some.inj e),H4,X4,t4,p2⟩
    ·rw[if_neg k1] at f;have g0:¬(m3:Int)=0:=by omega
     have g1:¬(m3:Int)=1:=by omega
     have r0:=R4.c0;have r1:=R4.c1;have r2:=R4.c2;have y4:=(bb.cell (p:=⟨w.1.size,0,none⟩) N2.lt).trans y2;have Hp:=Qh5 H4 hb t4 ⟨N.lvl+1,[],ks⟩ A3 0 c3 B3 m3 d3 (λu hu=>⟨hq.its.Qaf ((Uk (S:=S) bb).then hu),hq.Ic _ ((Uk (S:=S) bb).then hu)⟩) (by omega) (by omega);have p5:=p2.put ⟨N.lvl+1,[],ks⟩;have hc:(K.Xo ⟨N.lvl+1,[],ks⟩=0/\K.Xb ⟨N.lvl+1,[],ks⟩=P'/\some (K.Yd ⟨N.lvl+1,[],ks⟩)=r)\/(K.Xo ⟨N.lvl+1,[],ks⟩=6/\K.Xb ⟨N.lvl+1,[],ks⟩=P'/\none=r):=by
      by_cases e0:K.Xo ⟨N.lvl+1,[],ks⟩=0
      ·rw[if_pos e0] at f;injection Option.some.inj f with X Z;exact .inl ⟨e0,X,Z⟩
      ·rw[if_neg e0] at f;by_cases e6:K.Xo ⟨N.lvl+1,[],ks⟩=6
       ·rw[if_pos e6] at f;injection Option.some.inj f with X Z;exact .inr ⟨e6,X,Z⟩
       ·rw[if_neg e6] at f;cases f
     clear f;obtain⟨v,hv⟩:∃v,K.Yd ⟨N.lvl+1,[],ks⟩=v:=⟨_,rfl⟩;rw[hv] at hc Hp;rcases hc with⟨e0,rfl,rfl⟩|⟨e0,rfl,rfl⟩
     ·rw[e0] at Hp;go_wp2_with fail
      refine Hp.mono ?_;rintro e w5 ⟨rfl,H5,X5,t5⟩;go_wp2_with fail
      go_ret2;have F2:=X4.then X5;first|exact⟨v,rfl,λa e=>Option.some.inj e,H5,F2,t5,p5⟩|exact⟨rfl,H5,F2,t5,p5⟩|exact⟨v,rfl,rfl,H5,F2,t5,p5⟩
     ·rw[e0] at Hp;go_wp2_with fail
      refine Hp.mono ?_;rintro e w5 ⟨rfl,H5,X5,t5⟩;go_wp2_with fail
      go_ret2;have F2:=X4.then X5;first|exact⟨v,rfl,λa e=>(by cases e),H5,F2,t5,p5⟩|exact⟨v,rfl,H5,F2,t5,p5⟩
end
theorem TSp:Bc Tryz.prog 174 180 7 80 (.agg #[.int .i64 0,.slice none 0 0,.slice none 0 0,.int .i64 0,.int .i64 0,.bool false,.bool false]):=⟨Tryz.underlying174,by kernel_rfl,rfl,by omega⟩
theorem Zdf (s:Zz)(A:Option Addr)(n c:Nat)(B:Option Addr)(m d:Nat):∀u∈spV s A n c B m d,u.oneCell'=true:=by
 intro u e;unfold spV Nh at e;simp at e;rcases e with rfl|rfl|rfl|rfl|rfl|rfl|rfl<;>rfl
def Qcz (Q:World->Prop)(w:World)(base:Nat)(A:Option Addr)(n c:Nat)(ss:List Zz):Prop:=
 ∃e,Qr w base 180 7 A n c e/\e.length=ss.length/\∀(j:Nat) r s,e[j]?=some r->ss[j]?=some s->∃A n c B m d,r=spV s A n c B m d/\U6 Q s.N A n c B m d
section
variable {Q Q':World->Prop}{w w':World}{base n c:Nat}{A:Option Addr}{ss:List Zz}
theorem Za1 (Q:World->Prop)(w:World)(base:Nat):Qcz Q w base none 0 0 []:=⟨[],Lp _ _ _ _,rfl,λj r x e=>by simp at e⟩
theorem Qcz.below (h:Qcz Q w base A n c ss)(hb:Below w.1.size w w'):Qcz Q w' base A n c ss:=by
 obtain⟨e,h1,h2⟩:=h;exact⟨e,h1.below hb,h2⟩
theorem Qcz.turned {S:Nat->Prop}(h:Qcz Q w base A n c ss)(T:Turn S w w')(hA:∀k,Xq A=some k->¬S k):Qcz Q w' base A n c ss:=by
 obtain⟨e,h1,h2⟩:=h;exact⟨e,h1.turned T hA,h2⟩
theorem Qcz.mono (h:Qcz Q w base A n c ss)(hq:∀w,Q' w->Q w):Qcz Q' w base A n c ss:=by
 obtain⟨f,h1,h2,g⟩:=h;refine⟨f,h1,h2,λj r s u y=>?_⟩;obtain⟨A,n,c,B,m,d,e,q⟩:=g j r s u y;exact⟨A,n,c,B,m,d,e,q.mono hq⟩
theorem Qcz.spl (h:Qcz Q w base A n c ss):Spl Q w A n c ss:=by
 obtain⟨e,h1,h2⟩:=h;exact⟨e,h1.Hr (by omega),h2⟩
theorem Qcz.Zx (h:Qcz Q w base A n c ss):∀k,Xq A=some k->base<=k/\k<w.1.size:=by
 obtain⟨e,h1,_⟩:=h;exact h1.Zx
theorem Zaw (w:World)(s:Zz)(A:Option Addr)(n c:Nat)(B:Option Addr)(m d:Nat):Zg (w.alloc (.cells #[.int .i64 s.N.lvl,.slice A n c,.slice B m d,.int .i64 s.addr,.int .i64 (s.next:Int),.bool s.held,.bool s.shared] 180)) 7 (some ⟨w.1.size,0,none⟩) 1 1 [spV s A n c B m d]:=(Np w 180 7 (spV s A n c B m d) _ rfl rfl).Hr (by omega)
theorem Qf6 {H:Array Oper}{f:List Oper}{o:Oper}{a:Act}{Y:Exit->Act->World->Prop}(V:o.guard=none)(Z x:Operand)
  (ho:o.op=.call { callee:=.builtin .append,args:=#[Z,x],argTypes:=#[174,174] })
  (hs:a.eval Z=.slice A n c) (F:Qcz Q w base A n c ss) {B:Option Addr} {d:Nat} (m:a.eval x=.slice B 1 d) {s:Zz} {M:Option Addr} {X c1:Nat} {O:Option Addr} {W R:Nat}
  (e:Zg w 7 B 1 d [spV s M X c1 O W R]) (hq:U6 Q s.N M X c1 O W R) (hn:n<=1000) (g:base<=w.1.size)
  (h:∀z J w',Qcz Q w' base z (n+1) J (ss++[s])->Turn (λk=>Xq A=some k) w w'->(Xq z=Xq A\/Xq z=some w.1.size)->wpList Tryz.prog H Y f (a.put o.dst (.slice z (n+1) J)) w'):wpList Tryz.prog H Y (o::f) a w:=by
 obtain⟨q,h1,h2,h3⟩:=F;refine wpList_plain V λK hK=>?_
 have one:∀y∈[spV s M X c1 O W R],∀u∈y,u.oneCell'=true:=λy hy=>by
  obtain rfl:=List.mem_singleton.1 hy;exact Zdf _ _ _ _ _ _ _
 obtain⟨z,J,w',G,I,T,U,_⟩:=Ro (P:=Tryz.prog) w TSp o.type base A n c q h1 B 1 d _ e (by omega) one (by omega) (by omega) g;unfold Oper.wp execOp;simp only[ho,resolve,invoke,builtin,Sem.run_bind,Sem.run_pure,Result.andThen_ok,List.map_toArray,List.map_cons,List.map_nil,hs,m,G];refine hK _ _ (h z J w' ⟨_,I,by simp[h2],λj r' x e m=>?_⟩ T U);by_cases hj:j<q.length
 ·rw[List.getElem?_append_left hj] at e;rw[List.getElem?_append_left (by omega)] at m;exact h3 j r' x e m
 ·rw[List.getElem?_append_right (by omega)] at e m;have E:j-q.length=0:=by
   have:=(List.getElem?_eq_some_iff.1 e).1;simp at this;omega
  rw[E] at e;rw[<-h2,E] at m;obtain rfl:=Option.some.inj e;obtain rfl:=Option.some.inj m;exact⟨_,_,_,_,_,_,rfl,hq⟩
end
def Wq7 (Dt:Nat->Prop)(w:World):World->Prop:=Turn (λk=>¬Dt k) w
section
variable {Dt Dt' S:Nat->Prop}{w w' v:World}
theorem Qe8 (T:Turn S w w')(e:∀k,S k->¬Dt k)(f:Wq7 Dt w' v):Wq7 Dt w v:=(T.mono e).then f
theorem Zca (h:Wq7 Dt' w v)(f:∀k,Dt k->Dt' k):Wq7 Dt w v:=h.mono λk e hd=>e (f k hd)
theorem Qtq {lo:Nat}(h:Wq7 Dt w v)(hd:∀k,lo<=k->k<w.1.size->Dt k):Turn (λk=>k<lo) w v:=⟨h.os,h.tape,h.output,h.size,λk e hn=>h.block k e λf=>f (hd k (by omega) e)⟩
theorem Zef {lo:Nat}(h:Turn (λk=>k<lo) w v)(hd:∀k,Dt k->lo<=k):Wq7 Dt w v:=h.mono λk f e=>by have:=hd k e;have:k<lo:=f;omega
end
def slN:Value->Nat
 |.slice _ n _=>n
 |_=>0
section
variable {b:Nat}{w:World}{d p:Nat}{S0 S T:Nat->Prop}{D:DM}{P:Pl}
theorem Zay {w:World}{e:Nat}{N:Nd}{f:Int}{q:Nat}{hd g:Bool}{A B:Option Addr}{n c m d:Nat}(H:RB w e (spV ⟨N,f,q,hd,g⟩ A n c B m d))(t:Nat):RB (w.setCell ⟨e,4,none⟩ (.int .i64 (t:Int))) e (spV ⟨N,f,t,hd,g⟩ A n c B m d)/\Turn (λk=>k=e) w (w.setCell ⟨e,4,none⟩ (.int .i64 (t:Int)))/\w.frozen? ⟨e,4,none⟩=false:=by
 refine⟨?_,Gi (a:=⟨e,4,none⟩) _ rfl,(H.there 4 (show 4<7 by omega)).2⟩;obtain⟨u,H⟩:=H;exact⟨u,setCell_at _ H⟩
theorem Qoo (H:Zb b w d p S0 S T D P)(ht:Tab w)(d5:∀a b,P.L a=some b->b.kindOk)(K:∀a,P.Qj D a=0->(P.Qb D a).fit/\0<=(P.Qb D a).lvl/\(P.Qb D a).lvl<8)(root:Int)(k:Kd){up:List Zz}{s:Zz}(z:P.way D root k=some (up,s)) :
  Calls Tryz.prog 108 #[tv p,.int .i64 root,.agg #[.int .i64 k.obj,.int .i64 k.kind,.int .i64 k.off]] w λe w'=>∃X n c,e=.returned (.tuple #[.slice X n c,.int .i64 0])/\Spl (Turn (λk=>k<w.1.size) w') w' X n c (up.reverse++[s])/\(∀g,Xq X=some g->w.1.size<=g)/\Below w.1.size w w':=by
 have hS:=H.low;have b2:Below w.1.size w ((w.alloc (.cells #[.pointer (some ⟨p,0,none⟩)] 173)).alloc (.cells #[.int .i64 k.obj,.int .i64 k.kind,.int .i64 k.off] 45)):=(Ib).alloc (by simp) _;have T1:RB ((w.alloc (.cells #[.pointer (some ⟨p,0,none⟩)] 173)).alloc (.cells #[.int .i64 k.obj,.int .i64 k.kind,.int .i64 k.off] 45)) w.1.size [.pointer (some ⟨p,0,none⟩)]:=(RB.new w [.pointer (some ⟨p,0,none⟩)] 173).below (Ib) (by simp);have K1:RB ((w.alloc (.cells #[.pointer (some ⟨p,0,none⟩)] 173)).alloc (.cells #[.int .i64 k.obj,.int .i64 k.kind,.int .i64 k.off] 45)) (w.1.size+1) [.int .i64 k.obj,.int .i64 k.kind,.int .i64 k.off]:=by
  have:=RB.new (w.alloc (.cells #[.pointer (some ⟨p,0,none⟩)] 173)) [.int .i64 k.obj,.int .i64 k.kind,.int .i64 k.off] 45;rwa [World.size_alloc] at this
 have y0:=T1.cell 0 rfl;have c8:((w.alloc (.cells #[.pointer (some ⟨p,0,none⟩)] 173)).alloc (.cells #[.int .i64 k.obj,.int .i64 k.kind,.int .i64 k.off] 45)).1.size=w.1.size+1+1:=by simp
 unfold Pl.way at z;unfold tv;by_cases h0:root=0
 ·rw[if_pos h0] at z;subst h0;injection Option.some.inj z with e1 e2;subst e1 e2;clear z;go_enter Tryz.func108,Tryz.ntmps108
  go_wp2_with fail
  generalize ((w.alloc (.cells #[.pointer (some ⟨p,0,none⟩)] 173)).alloc (.cells #[.int .i64 k.obj,.int .i64 k.kind,.int .i64 k.off] 45))=w1 at b2 T1 K1 y0 c8 ⊢;have h1:=Qm9 (S:=λk=>k<w.1.size) (w:=w1) (λk I=>by have I:k<w.1.size:=I;omega) (Q:=Turn (λk=>k<w.1.size) (w1.alloc (.cells #[.int .i64 0,.slice none 0 0,.slice none 0 0,.int .i64 0,.int .i64 0,.bool true,.bool true] 180))) Fh (Qth _ 0) 180 _ (Turn.refl _ _);rw[c8] at h1;go_ret2;exact⟨some ⟨w.1.size+1+1,0,none⟩,1,1,rfl,h1,λg y=>(by injection y with y;have y:w.1.size+1+1=g:=y;omega),b2.alloc b2.size _⟩
 ·rw[if_neg h0] at z;have hE:P.Qj D root=0:=by
   refine Classical.byContradiction λhh=>?_
   rw[if_neg hh] at z;cases z
  rw[if_pos hE] at z;have Hr:=λ(u:World) (hu:Below w.1.size w u)=>Qk9 (H.below hu) (ht.below hu ht.1) d5 root false hE
  unfold tv spA at Hr;obtain⟨d2,d3,d4⟩:=K root hE;obtain⟨Y,e7⟩:∃Y,P.spot D root false=Y:=⟨_,rfl⟩;rw[e7] at z Hr;replace Hr:=Lib.hid Hr;replace z:=Lib.hid z;replace K:=Lib.hid K;go_enter Tryz.func108,Tryz.ntmps108
  go_wp2_with fail
  generalize ((w.alloc (.cells #[.pointer (some ⟨p,0,none⟩)] 173)).alloc (.cells #[.int .i64 k.obj,.int .i64 k.kind,.int .i64 k.off] 45))=w1 at b2 T1 K1 y0 c8 ⊢;refine (Hr.out w1 b2).mono ?_;rintro e E ⟨A,n,c,B,m,R,rfl,U,b3⟩;have eN:P.Qb D root=Y.N:=by rw[<-e7];rfl
  rw[eN] at U d2 d3 d4;go_wp2_with (first
   |(refine Le rfl _ _ rfl E.1.size rfl Y.N.lvl A n c B m R Y.addr (Y.next:Int) Y.held Y.shared rfl (Nu E) rfl ?_;intro w3 R3 T3)
   |fail)
  have z3:=b3.size;have bA:Below E.1.size E w3:=((Below.refl _ _).alloc (Nat.le_refl _) zsp).trans (T3.below (λk I=>by have:k=E.1.size:=I;omega) (by simp));have B3:Below w1.1.size w1 w3:=b3.trans (bA.mono z3);have z4:=bA.size;have z5:=R3.lt;go_loopw [8,10] (λl e wr=>∃(f:Nat) (q:Zz) (Z:List Zz) (A:Option Addr) (n c:Nat) (B:Option Addr) (m R:Nat) (X:Option Addr) (nn cc:Nat) (Dt:Nat->Prop),l=.slice X nn cc/\e=.int .i64 0/\nn+f=8/\P.Vd D k f q Z=some (up,s)/\RB wr E.1.size (spV q A n c B m R)/\U6 (Wq7 Dt wr) q.N A n c B m R/\Qcz (Wq7 Dt wr) wr (E.1.size+1) X nn cc Z.reverse/\(∀k,Dt k->w.1.size<=k/\k<wr.1.size/\k≠E.1.size/\Xq X≠some k)/\q.N.fit/\0<=q.N.lvl/\q.N.lvl<8/\RB wr w.1.size [.pointer (some ⟨p,0,none⟩)]/\RB wr (w.1.size+1) [.int .i64 k.obj,.int .i64 k.kind,.int .i64 k.off]/\Below w.1.size w wr/\E.1.size+1<=wr.1.size) (λl _ _=>8-slN l)
  case atStart=>
   refine⟨8,Y,[],A,n,c,B,m,R,none,0,0,λk=>w1.1.size<=k/\k<E.1.size,rfl,rfl,rfl,z.out,R3,U.mono λv hv=>Qtq (w:=E) (Qe8 (S:=λ_=>False) (Uk bA) (λ_ h=>h.elim) hv) λk h1 h2=>⟨h1,h2⟩,Za1 _ _ _,λk I=>⟨by omega,by omega,by omega,λh=>by cases h⟩,d2,d3,d4,T1.below B3 T1.lt,K1.below B3 K1.lt,b2.trans (B3.mono b2.size),by omega⟩
  case round=>
   clear R3 T3 U z;obtain⟨f,q,Z,A,n,c,B,m,R,X,nn,cc,Dt,rfl,rfl,g9,z,V,U,row,G,d6,g4,d8,TT,KK,hb,i0⟩:=hrel;obtain⟨N,J,nx,hd,O⟩:=q;have e0:=V.cell 0 rfl;have e1:=V.cell 1 rfl;have e2:=V.cell 2 rfl;have e3:=V.cell 3 rfl;have e4:=V.cell 4 rfl;have e5:=V.cell 5 rfl;have e6:=V.cell 6 rfl;have y0:=TT.cell 0 rfl;have k0:=KK.cell 0 rfl;have k1:=KK.cell 1 rfl;have k2:=KK.cell 2 rfl;have g0:=U.hn;have f9:=U.hm;dsimp only at d6 g4 d8 g0 f9 U;by_cases a8:N.lvl<=0
   ·have y:¬(0:Int)<N.lvl:=by omega
    obtain⟨rfl,rfl⟩:Z=up/\(⟨N,J,nx,hd,O⟩:Zz)=s:=by
     cases f with
     |zero=>unfold Pl.Vd at z;rw[if_pos a8] at z;injection Option.some.inj z with e1 e2;exact⟨e1,e2⟩
     |succ f=>unfold Pl.Vd at z;rw[if_pos a8] at z;injection Option.some.inj z with e1 e2;exact⟨e1,e2⟩
    clear z;have bL:Below wr.1.size wr (wr.alloc (.cells #[.int .i64 N.lvl,.slice A n c,.slice B m R,.int .i64 J,.int .i64 (nx:Int),.bool hd,.bool O] 180)):=Ib;have F:=row.Zx;go_wp2_with (first
     |(at_builtin;refine Qf6 (s:=⟨N,J,nx,hd,O⟩) rfl _ _ rfl rfl (row.below bL) rfl (Zaw wr ⟨N,J,nx,hd,O⟩ A n c B m R) U (by omega) (by have:=bL.size;omega) ?_;intro X2 f3 w4 b6 T4 _)
     |fail)
    have TW:Turn (λg=>Xq X=some g) wr w4:=(Uk (S:=λg=>Xq X=some g) bL).trans T4 λk I=>.inl I
    have bw:Below w.1.size wr w4:=TW.below (λg y=>by have:=(F g y).1;omega) (by omega);go_ret2;refine⟨X2,nn+1,f3,rfl,(b6.mono λv hv=>?_).spl,λg y=>by have:=(b6.Zx g y).1;omega,hb.trans bw⟩;exact Qe8 TW (λg y hd=>(G g hd).2.2.2 y) (Zef hv λg y=>(G g y).1)
   ·have y:(0:Int)<N.lvl:=by omega
    cases f with
    |zero=>unfold Pl.Vd at z;rw[if_neg a8] at z;cases z
    |succ f=>
     unfold Pl.Vd at z;rw[if_neg a8] at z;dsimp only at z;obtain⟨t,c6⟩:∃t,N.Xv k=t:=⟨_,rfl⟩;rw[c6] at z;have b1:P.Yc D ⟨N,J,nx,hd,O⟩ t=true:=by
      refine Classical.byContradiction λhh=>?_
      rw[if_neg hh] at z;cases z
     rw[if_pos b1] at z;have a6:P.Yc D ⟨N,J,t,hd,O⟩ t=true:=b1;obtain⟨rr,d9⟩:∃rr,foundAt N.keys k t=rr:=⟨_,rfl⟩;have HC:=Qbn N d6 k t c6 rr d9 A n c B m R wr (U.its.Qaf (Turn.refl _ _)) (U.Ic _ (Turn.refl _ _)) (by omega) (by omega);have F:=row.Zx;obtain⟨W,a7⟩:∃W,P.W9 D ⟨N,J,t,hd,O⟩ t=W:=⟨_,rfl⟩;have b5:P.W9 D ⟨N,J,nx,hd,O⟩ t=W:=a7;rw[b5] at z;obtain⟨g1,g2,g3⟩:=K.out (Ql N.kids t).a (of_decide_eq_true a6).2.1;have eK:P.Qb D (Ql N.kids t).a=W.N:=by rw[<-a7];rfl
     rw[eK] at g1 g2 g3;replace z:=Lib.hid z;replace a6:=Lib.hid a6;clear b5 c6 d9 eK;go_wp2_with fail
     refine HC.mono ?_;rintro e w4 ⟨rfl,b4⟩;obtain⟨R5,T5,g7⟩:=Zay (V.below b4 V.lt) t;have p4:=(V.below b4 V.lt).cell 4 rfl;have i1:=b4.size;have c9:Turn (λg=>g=E.1.size) wr (w4.setCell ⟨E.1.size,4,none⟩ (.int .i64 (t:Int))):=(Uk (S:=λg=>g=E.1.size) b4).trans T5 λk I=>.inl I
     clear e0 e1 e2 e3 e4 e5 e6 y0 k0 k1 k2;have e0:=R5.cell 0 rfl;have e1:=R5.cell 1 rfl;have e2:=R5.cell 2 rfl;have e3:=R5.cell 3 rfl;have e4:=R5.cell 4 rfl;have e5:=R5.cell 5 rfl;have e6:=R5.cell 6 rfl;have i3:=T5.size;have bL:Below (w4.setCell ⟨E.1.size,4,none⟩ (.int .i64 (t:Int))).1.size (w4.setCell ⟨E.1.size,4,none⟩ (.int .i64 (t:Int))) ((w4.setCell ⟨E.1.size,4,none⟩ (.int .i64 (t:Int))).alloc (.cells #[.int .i64 N.lvl,.slice A n c,.slice B m R,.int .i64 J,.int .i64 (t:Int),.bool hd,.bool O] 180)):=Ib;have e8:=(row.turned c9 (λg y h=>by have h:g=E.1.size:=h;have:=(F g y).1;omega)).below bL;have i2:=bL.size;have M:=Zaw (w4.setCell ⟨E.1.size,4,none⟩ (.int .i64 (t:Int))) ⟨N,J,t,hd,O⟩ A n c B m R;have b9:(w4.setCell ⟨E.1.size,4,none⟩ (.int .i64 (t:Int))).1.size=w4.1.size:=by simp[World.setCell]
     rw[b9] at M;replace M:=Lib.hid M;replace b9:=Lib.hid b9;go_wp2_with (first
      |(at_builtin;refine Qf6 (s:=⟨N,J,t,hd,O⟩) rfl _ _ rfl rfl e8 rfl M.out U (by omega) (by omega) ?_;intro X6 f4 w6 b8 T6 f5
        have i4:=T6.size;have R6:=(R5.below bL R5.lt).turned T6 (λh=>by have:=(F _ h).1;omega);have f1:Turn (λg=>Xq X=some g) (w4.setCell ⟨E.1.size,4,none⟩ (.int .i64 (t:Int))) w6:=(Uk (S:=λg=>Xq X=some g) bL).trans T6 λk I=>.inl I
        have a1:Turn (λg=>g=E.1.size\/Xq X=some g) wr w6:=(c9.mono λk I=>.inl I).trans f1 λk I=>.inl (.inr I)
        have g6:=TT.turned a1 (λh=>h.elim (λh=>by omega) λh=>by have:=(F _ h).1;omega);have y6:=g6.cell 0 rfl;have Y:=R6.cell 0 rfl;have s1:=R6.cell 1 rfl;have s2:=R6.cell 2 rfl;have s3:=R6.cell 3 rfl;have s4:=R6.cell 4 rfl;have s5:=R6.cell 5 rfl;have s6:=R6.cell 6 rfl)
      |fail)
     have f7:Below w.1.size wr w6:=a1.below (λg y=>y.elim (λh=>by omega) λh=>by have:=(F g h).1;omega) (by omega);have B6:=hb.trans f7;have d0:∀g,(g=E.1.size\/Xq X=some g)->¬Dt g:=λg y hd=>y.elim (G g hd).2.2.1 (G g hd).2.2.2
     have HK:=Qoh (H.below B6) (ht.below B6 ht.1) d5 ⟨N,J,t,hd,O⟩ A n c B m R (λv hv=>U.Ic v (Qe8 a1 d0 (hv.mono λg y hd=>by have:=(G g hd).1;have:=hS g y;omega))) ⟨by show 1<=N.lvl;omega,d8⟩ t a6.out;unfold tv spA at HK;rw[a7] at HK;refine HK.mono ?_;rintro e w7 ⟨A7,n7,c7,B7,m7,d7,rfl,g5,b7⟩;have i5:=b7.size;have R7:=R6.below b7 R6.lt;clear Y s1 s2 s3 s4 s5 s6 e0 e1 e2 e3 e4 e5 e6 y6 HK;go_wp2_with (first
      |(refine Le rfl _ _ rfl E.1.size rfl W.N.lvl A7 n7 c7 B7 m7 d7 W.addr (W.next:Int) W.held W.shared rfl R7 rfl ?_;intro w8 R8 T8)
      |fail)
     have i6:=T8.size;have e9:=b8.below b7;have b0:=b8.Zx;have f0:=e9.turned T8 (λg y h=>by have h:g=E.1.size:=h;have:=(b0 g y).1;omega);have f2:Turn (λg=>g=E.1.size\/Xq X=some g) wr w7:=a1.then (Uk b7);have a2:Turn (λg=>g=E.1.size\/Xq X=some g) wr w8:=f2.then (T8.mono λg y=>.inl y);have f8:Below w.1.size wr w8:=a2.below (λg y=>y.elim (λh=>by omega) λh=>by have:=(F g h).1;omega) (by omega);have d1:∀g,g<=w.1.size+1->¬(g=E.1.size\/Xq X=some g):=λg y h=>h.elim (λh=>by omega) λh=>by have:=(F _ h).1;omega
     refine⟨⟨f,W,⟨N,J,t,hd,O⟩::Z,A7,n7,c7,B7,m7,d7,X6,nn+1,f4,λg=>Dt g\/(w6.1.size<=g/\g<w7.1.size),rfl,rfl,by omega,z.out,R8,?_,?_,λg y=>?_,g1,g2,g3,TT.turned a2 (d1 _ (by omega)),KK.turned a2 (d1 _ (by omega)),hb.trans f8,by omega⟩,by show 8-(nn+1)<8-nn;omega⟩
     ·have g8:P.W9 D ⟨N,J,t,hd,O⟩ t=W:=a7;exact g5.mono λv hv=>Qtq (w:=w7) (Qe8 T8 (λg y hd=>by
       have y:g=E.1.size:=y;exact hd.elim (λh=>(G g h).2.2.1 y) λh=>by omega) hv) λg h1 h2=>.inr ⟨h1,h2⟩
     ·rw[List.reverse_cons];exact f0.mono λv hv=>Qe8 a2 d0 (Zca hv λg y=>.inl y)
     ·rcases y with y|y
      ·have hd:=G g y;refine⟨hd.1,by omega,hd.2.2.1,λh=>?_⟩;rcases f5 with e|e
       ·exact hd.2.2.2 (e▸h)
       ·rw[e] at h;injection h with h;omega
      ·exact⟨by omega,by omega,by omega,λh=>by have:=(b0 g h).2;omega⟩
end
structure EnB (w0 w:World)(p:Nat)(s above:List Value)(l:Int)(A:Option Addr)(n c:Nat)(B:Option Addr)(m d:Nat):Prop where
 t:RB w w0.heap.size [.pointer (some ⟨p,0,none⟩)]
 s:RB w (w0.heap.size+1) s
 n:NB w (w0.heap.size+1+1) l A n c B m d
 a:RB w (w0.heap.size+1+1+1) above
 x:RB w (w0.heap.size+1+1+1+1) (Ou 0 none 0 0 none 0 0 none 0 0 0 0)
theorem EnB.new (w:World)(p:Nat)(s above:List Value)(l:Int)(A:Option Addr)(n c:Nat)(B:Option Addr)(m d:Nat)(t1 t2 t3 t4 t5:TypeId) :
  EnB w (((((w.alloc (.cells #[.pointer (some ⟨p,0,none⟩)] t1)).alloc (.cells s.toArray t2)).alloc (.cells #[.int .i64 l,.slice A n c,.slice B m d] t3)).alloc (.cells above.toArray t4)).alloc (.cells (Ou 0 none 0 0 none 0 0 none 0 0 0 0).toArray t5)) p s above l A n c B m d:=by
 have u:=RB.new w [.pointer (some ⟨p,0,none⟩)] t1;have e:=RB.new (w.alloc (.cells #[.pointer (some ⟨p,0,none⟩)] t1)) s t2;have f:=NB.new2 (w.alloc (.cells #[.pointer (some ⟨p,0,none⟩)] t1)) (.cells s.toArray t2) l A n c B m d t3;have g:=RB.new (((w.alloc (.cells #[.pointer (some ⟨p,0,none⟩)] t1)).alloc (.cells s.toArray t2)).alloc (.cells #[.int .i64 l,.slice A n c,.slice B m d] t3)) above t4;have q:=RB.new ((((w.alloc (.cells #[.pointer (some ⟨p,0,none⟩)] t1)).alloc (.cells s.toArray t2)).alloc (.cells #[.int .i64 l,.slice A n c,.slice B m d] t3)).alloc (.cells above.toArray t4)) (Ou 0 none 0 0 none 0 0 none 0 0 0 0) t5;simp only[World.size_alloc] at e f g q;have up:∀(v:World) (o:Obj),Below v.1.size v (v.alloc o):=λv o=>Ib
 exact⟨(((u.below (up _ _) (by simp<;>omega)).below (up _ _) (by simp<;>omega)).below (up _ _) (by simp<;>omega)).below (up _ _) (by simp<;>omega),((e.below (up _ _) (by simp<;>omega)).below (up _ _) (by simp<;>omega)).below (up _ _) (by simp<;>omega),(f.below (up _ _) (by simp<;>omega)).below (up _ _) (by simp<;>omega),g.below (up _ _) (by simp<;>omega),q⟩
theorem EnB.below {w0 w w':World}{p:Nat}{s above:List Value}{l:Int}{A:Option Addr}{n c:Nat}{B:Option Addr}{m d:Nat}(h:EnB w0 w p s above l A n c B m d)(hb:Below w.1.size w w'):EnB w0 w' p s above l A n c B m d:=⟨h.t.below hb h.t.lt,h.s.below hb h.s.lt,h.n.below hb h.n.lt,h.a.below hb h.a.lt,h.x.below hb h.x.lt⟩
section
variable {b:Nat}{w:World}{d p:Nat}{S0 S T:Nat->Prop}{D:DM}{P P':Pl}
theorem Qrj (H:Zb b w d p S0 S T D P)(_:Tab w)(s:Zz)(A:Option Addr)(n c:Nat)(B:Option Addr)(m dd:Nat)(hs:U6 (Turn S w) s.N A n c B m dd)(N:Nd)(G:Option Addr)(F c2:Nat)(I:Option Addr)(E J:Nat)(hB:U6 (Turn S w) N G F c2 I E J)(above:Zz)(A3:Option Addr)(n3 c3:Nat)(R:Option Addr)(m3 d3:Nat)(a8:above.next<=60)(a6:Iy N.lvl<=N.size) :
  Calls Tryz.prog 190 #[tv p,spA s A n c B m dd,Px N.lvl G F c2 I E J,spA above A3 n3 c3 R m3 d3] w λe w'=>∃Y,e=.returned (.tuple #[.agg (Ou N.lvl G F c2 I E J Y 1 1 (above.next:Int) ((above.next+1:Nat):Int)).toArray,.int .i64 0])/\U6 (Turn S w') N G F c2 I E J/\(∀u,Turn S w' u->Spl (Turn S w') u Y 1 1 [s])/\Below w.1.size w w':=by
 obtain⟨sN,ad,nx,hd,sh⟩:=s;obtain⟨aN,W,f,X,a1⟩:=above;have hS:=H.low;have b6:=hB.hn;have b4:=hB.hm;have a7:=hB.size;dsimp only at a8 ⊢;obtain⟨le,y⟩:∃le,Iy N.lvl=le:=⟨_,rfl⟩;rw[y,a7] at a6;clear a7;have HL:=λu=>Qae N.lvl G F c2 I E J u
 rw[y] at HL;have HS:=λu=>O0 N.lvl G F c2 I E J (by omega) (by omega) u
 obtain⟨z,hz⟩:∃z,F+E=z:=⟨_,rfl⟩;rw[hz] at HS a6;clear hz y;have V:=EnB.new w p (Nh sN.lvl A n c B m dd ad (nx:Int) hd sh) (Nh aN.lvl A3 n3 c3 R m3 d3 W (f:Int) X a1) N.lvl G F c2 I E J 173 180 178 180 274;have b0:Below w.1.size w (((((w.alloc (.cells #[.pointer (some ⟨p,0,none⟩)] 173)).alloc (.cells (Nh sN.lvl A n c B m dd ad (nx:Int) hd sh).toArray 180)).alloc (.cells #[.int .i64 N.lvl,.slice G F c2,.slice I E J] 178)).alloc (.cells (Nh aN.lvl A3 n3 c3 R m3 d3 W (f:Int) X a1).toArray 180)).alloc (.cells (Ou 0 none 0 0 none 0 0 none 0 0 0 0).toArray 274)):=((((Ib).alloc (by simp) _).alloc (by simp;omega) _).alloc (by simp;omega) _).alloc (by simp;omega) _;have hi:IntKind.i64.wrap ((f:Int)+1)=((f+1:Nat):Int):=by rw[show (f:Int)+1=((f+1:Nat):Int) by omega];exact IntWalk.i64_in _ (by omega)
 obtain⟨Z,U⟩:∃Z,f+1=Z:=⟨_,rfl⟩;rw[U] at hi ⊢;clear U;unfold Px at HL HS;replace HL:=Lib.hid HL;replace HS:=Lib.hid HS;have b1:(le:Int)<=(z:Int):=by omega
 have k0:=V.n.c0;have k1:=V.n.c1;have k2:=V.n.c2;unfold tv spA Px;dsimp only;unfold Nh at V b0;unfold Ou at V b0;go_enter Tryz.func190,Tryz.ntmps190
 go_wp2_with fail
 generalize (((((w.alloc (.cells #[.pointer (some ⟨p,0,none⟩)] 173)).alloc (.cells #[.int .i64 sN.lvl,.slice A n c,.slice B m dd,.int .i64 ad,.int .i64 (nx:Int),.bool hd,.bool sh] 180)).alloc (.cells #[.int .i64 N.lvl,.slice G F c2,.slice I E J] 178)).alloc (.cells #[.int .i64 aN.lvl,.slice A3 n3 c3,.slice R m3 d3,.int .i64 W,.int .i64 (f:Int),.bool X,.bool a1] 180)).alloc (.cells #[.int .i64 0,.slice none 0 0,.slice none 0 0,.slice none 0 0,.int .i64 0,.int .i64 0] 274))=w1 at V b0 k0 k1 k2 ⊢;refine (HL.out w1).mono ?_;rintro e w2 ⟨rfl,b2⟩;have E2:=V.below b2;clear k0 k1 k2;have k0:=E2.n.c0;have k1:=E2.n.c1;have k2:=E2.n.c2;have a4:=E2.a.cell 4 rfl;go_wp2_with fail
 refine (HS.out w2).mono ?_;rintro e O ⟨rfl,b3⟩;have q:=E2.below b3;clear k0 k1 k2 a4;have k0:=q.n.c0;have k1:=q.n.c1;have k2:=q.n.c2;have s0:=q.s.cell 0 rfl;have s1:=q.s.cell 1 rfl;have s2:=q.s.cell 2 rfl;have s3:=q.s.cell 3 rfl;have s4:=q.s.cell 4 rfl;have s5:=q.s.cell 5 rfl;have s6:=q.s.cell 6 rfl;have R:=b0.trans ((b2.trans (b3.mono b2.size)).mono b0.size);have bL:Below O.1.size O (O.alloc (.cells #[.int .i64 sN.lvl,.slice A n c,.slice B m dd,.int .i64 ad,.int .i64 (nx:Int),.bool hd,.bool sh] 180)):=Ib;have E4:=q.below bL;have a2:∀k,S k->k<O.1.size:=λk K=>by have:=hS k K;have:=R.size;omega
 clear HL HS;go_wp2_with (first
  |(refine Qf8 rfl _ _ rfl (w.1.size+1+1+1+1) rfl N.lvl G F c2 I E J (some ⟨O.1.size,0,none⟩) 1 1 (f:Int) (Z:Int) rfl E4.x rfl ?_;intro w5 R5 T5)
  |fail)
 refine bodyPost_ret (Md Tryz.results190 rfl (Qmy R5)) rfl ?_;have BL:=R.trans (bL.mono R.size);have b5:Below w.1.size w w5:=BL.trans (T5.below (λk K=>by have K:k=w.1.size+1+1+1+1:=K;omega) (by have:=BL.size;omega));have b7:∀k,S k->k=w.1.size+1+1+1+1->False:=λk K e=>by have:=hS k K;omega
 refine⟨some ⟨O.1.size,0,none⟩,rfl,hB.mono λv hv=>(Uk (S:=S) b5).trans hv λk K=>.inl K,λu hu=>?_,b5⟩;have h1:=Qm9 a2 (Q:=Turn S w5) ⟨sN,ad,nx,hd,sh⟩ (hs.mono λv hv=>(Uk (S:=S) b5).trans hv λk K=>.inl K) 180 _ (Turn.refl _ _);have b8:w.1.size+1+1+1+1<O.1.size:=q.x.lt;exact (h1.turned T5 (λg M h=>by injection M with M;have M:O.1.size=g:=M;have h:g=w.1.size+1+1+1+1:=h;omega)).turned hu (λg M h=>by injection M with M;have M:O.1.size=g:=M;have:=a2 g h;omega)
end
theorem Quj {P:Pl}{D:DM}(hm:∀a,P.Qj D a=0->(P.Qb D a).may=true):∀a,P.Qj D a=0->(P.Qb D a).fit/\0<=(P.Qb D a).lvl/\(P.Qb D a).lvl<8:=λa h=>by
 have hm:=hm a h;refine⟨U0 hm,?_⟩;unfold Nd.may at hm;by_cases h0:(P.Qb D a).lvl=0
 ·omega
 ·rw[if_neg h0] at hm;simp only[Bool.and_eq_true,decide_eq_true_eq] at hm;omega
