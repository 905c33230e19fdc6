/- The code's edit: enough, of any node; plain facts of an exchange -/
import Derived.Test.YthkfkhejjmhomaaGreatDoorHaT
namespace Go.Proofs.YthkfkhejjmhomaaGreatDoor
open Go Go.RowKit Go.Proofs
set_option maxHeartbeats 8000000
set_option maxRecDepth 100000
section
variable {b:Nat}{w:World}{d p:Nat}{S0 S T:Nat->Prop}{D:DM}{P P':Pl}
theorem Qva (H:Zb b w d p S0 S T D P)(hb:1<b)(ht:Tab w)(hP:P.tidy)(s:Zz)(A:Option Addr)(n c:Nat)(B:Option Addr)(m X:Nat)(hs:U6 (Turn S w) s.N A n c B m X)(N:Nd)(F:Option Addr)(R c2:Nat)(I:Option Addr)(O K:Nat)(hB:U6 (Turn S w) N F R c2 I O K)(above:Zz)(A3:Option Addr)(n3 c3:Nat)(V:Option Addr)(m3 W:Nat)(hA:Vf (Turn S w) V m3 W above.N.kids)(hl:1<=above.N.lvl/\above.N.lvl<8)(E:above.next<=60)(a1:N.size<=20){x:Ia}(y:P.have_ D s N above=some (x,P')) :
  Calls Tryz.prog 190 #[tv p,spA s A n c B m X,Px N.lvl F R c2 I O K,spA above A3 n3 c3 V m3 W] w λe q=>∃G U c5 J Q M Y k,e=.returned (.tuple #[.agg (Ou x.N.lvl G U c5 J Q M Y k k (x.i:Int) (x.j:Int)).toArray,.int .i64 0])/\U6 (Turn S q) x.N G U c5 J Q M/\(∀u,Turn S q u->Spl (Turn S q) u Y k k x.olds)/\k<=2/\Zb b q d p S0 S T D P'/\Turn S w q/\Tab q:=by
 unfold Pl.have_ at y;by_cases f:Iy N.lvl<=N.size
 ·rw[if_pos f] at y;injection Option.some.inj y with Z e2;subst Z e2;refine (Qrj H ht s A n c B m X hs N F R c2 I O K hB above A3 n3 c3 V m3 W E f).mono ?_;rintro e q ⟨Y,rfl,h1,h2,z⟩;exact⟨F,R,c2,I,O,K,Y,1,rfl,h1,h2,by omega,H.below z,Uk z,ht.below z ht.1⟩
 ·rw[if_neg f] at y;by_cases h0:0<above.next
  ·rw[if_pos h0] at y;obtain⟨P2,g,e⟩:=Option.map_eq_some_iff.1 y;injection e with Z e2;subst Z e2;unfold Pl.near at g;split at g
   ·rename_i hk;refine (Qrk H hb ht hP s A n c B m X hs N F R c2 I O K hB above A3 n3 c3 V m3 W hA hl E f a1 h0 hk g).mono ?_;rintro e q ⟨G,U,c5,J,Q,M,Y,rfl,h1,h2,z,h4,h5⟩;exact⟨G,U,c5,J,Q,M,Y,2,rfl,h1,h2,by omega,z,h4,h5⟩
   ·cases g
  ·rw[if_neg h0] at y;obtain⟨P2,g,e⟩:=Option.map_eq_some_iff.1 y;injection e with Z e2;subst Z e2;unfold Pl.near at g;split at g
   ·rename_i hk;refine (Qrl H hb ht hP s A n c B m X hs N F R c2 I O K hB above A3 n3 c3 V m3 W hA hl E f a1 h0 hk g).mono ?_;rintro e q ⟨G,U,c5,J,Q,M,Y,rfl,h1,h2,z,h4,h5⟩;exact⟨G,U,c5,J,Q,M,Y,2,rfl,h1,h2,by omega,z,h4,h5⟩
   ·cases g
theorem Qxa {s above:Zz}{N:Nd}{x:Ia}(h:P.tidy)(g:P.have_ D s N above=some (x,P')):P'.tidy:=by
 have near:∀{i:Nat} {m:Pl},P.near D above i=some m->m.tidy:=λ{i m} f=>by
  unfold Pl.near at f;split at f
  ·exact h.X7 f
  ·cases f
 unfold Pl.have_ at g;split at g
 ·injection Option.some.inj g with u q;subst q;exact h
 ·split at g
  ·obtain⟨m,f,e⟩:=Option.map_eq_some_iff.1 g;injection e with u q;subst q;exact near f
  ·obtain⟨m,f,e⟩:=Option.map_eq_some_iff.1 g;injection e with u q;subst q;exact near f
end
def Qcn:Zz->List Zz->Prop
 |_,[]=>True
 |s,t::way=>t.N.fit/\t.N.size<=12/\t.N.lvl=s.N.lvl+1/\t.N.lvl<8/\t.next+1<=t.N.size/\Qcn t way
theorem Qu3 {N:Nd}(h:N.fit){i j:Nat}(e:i<=j):(N.cut 0 i).size+(N.cut j N.size).size<=N.size:=by
 obtain⟨h1,h2⟩:=h;unfold Nd.cut;by_cases h0:N.lvl=0
 ·rw[if_pos h0,if_pos h0];unfold Nd.size;simp only[h1 h0,List.length_nil,List.length_take,List.length_drop];omega
 ·rw[if_neg h0,if_neg h0];unfold Nd.size;simp only[h2 h0,List.length_nil,List.length_take,List.length_drop];omega
theorem Qhw {l:Int}{N M:Nd}(h:N.fit)(hm:M.fit)(g:N.lvl=l)(f:M.lvl=l):(⟨l,N.items++M.items,N.kids++M.kids⟩:Nd).fit:=by
 refine⟨λh0=>?_,λh0=>?_⟩
 ·have h0:l=0:=h0;show N.kids++M.kids=[];rw[h.1 (g.trans h0),hm.1 (f.trans h0)];rfl
 ·have h0:¬l=0:=h0;show N.items++M.items=[];rw[h.2 (λe=>h0 (g.symm.trans e)),hm.2 (λe=>h0 (f.symm.trans e))];rfl
theorem Qfe {l:Int}{N M:Nd}:Wv l [N,M]=⟨l,N.items++M.items,N.kids++M.kids⟩:=by unfold Wv;simp
theorem Qto (N:Nd)(i j:Nat):(N.cut i j).lvl=N.lvl:=by unfold Nd.cut;split<;>rfl
theorem Zc1 {s:Zz}{f:Nd}{i j:Nat}(h:s.N.fit)(u:f.fit)(y:f.lvl=s.N.lvl)(g:i<=j):(Pe s i j f).fit/\(Pe s i j f).lvl=s.N.lvl/\(Pe s i j f).size<=s.N.size+f.size:=by
 have h1:=Qu3 h g;have m:=Qdk h 0 i;have q:=Qdk h j s.N.size;have z:=Qto s.N 0 i;have A:=Qto s.N j s.N.size;have e:Pe s i j f=⟨s.N.lvl,(s.N.cut 0 i).items++(f.items++(s.N.cut j s.N.size).items),(s.N.cut 0 i).kids++(f.kids++(s.N.cut j s.N.size).kids)⟩:=by unfold Pe Wv;simp
 rw[e];refine⟨Qhw m (Qhw u q y A) z rfl,rfl,?_⟩;unfold Nd.size at h1 ⊢;simp only[List.length_append];omega
structure Zfk (x:Ia)(b:Nd)(above:Zz):Prop where
 fit:x.N.fit
 size:x.N.size<=b.size+12
 lvl:x.N.lvl=b.lvl
 ij:x.i<=x.j
 j:x.j<=above.N.size
theorem Qyw {P P':Pl}{D:DM}{s above:Zz}{b:Nd}{x:Ia}(F:∀a b,P.L a=some b->b.good)(z:b.fit)(_:above.N.fit)(H:above.N.lvl=b.lvl+1)(_:0<=b.lvl)(hn:above.next+1<=above.N.size)(h:P.have_ D s b above=some (x,P')):Zfk x b above:=by
 have kid:∀i,P.Yc D above i=true->(P.W9 D above i).N.fit/\(P.W9 D above i).N.size<=12/\(P.W9 D above i).N.lvl=b.lvl/\i<above.N.size:=λi m=>by
  obtain⟨I,G,J⟩:=of_decide_eq_true m;have hm:=Qpu F _ G;refine⟨U0 hm,Qbs hm,?_,by unfold Nd.size;omega⟩;show (P.Qb D (Ql above.N.kids i).a).lvl=_;omega
 unfold Pl.have_ at h;split at h
 ·injection Option.some.inj h with g A;subst g;exact⟨z,Nat.le_add_right _ _,rfl,Nat.le_succ _,hn⟩
 ·split at h
  ·rename_i h0;obtain⟨E,f,e⟩:=Option.map_eq_some_iff.1 h;injection e with g A;subst g;unfold Pl.near at f;split at f
   ·rename_i m;obtain⟨u,y,q,B⟩:=kid _ m;refine⟨?_,?_,q,?_,hn⟩
    ·dsimp only;rw[Qfe];exact Qhw u z rfl q.symm
    ·dsimp only;rw[Qfe];unfold Nd.size at y ⊢;simp only[List.length_append];omega
    ·dsimp only;omega
   ·cases f
  ·obtain⟨E,f,e⟩:=Option.map_eq_some_iff.1 h;injection e with g A;subst g;unfold Pl.near at f;split at f
   ·rename_i m;obtain⟨u,y,q,B⟩:=kid _ m;refine⟨?_,?_,rfl,?_,B⟩
    ·dsimp only;rw[Qfe];exact Qhw z u rfl q
    ·dsimp only;rw[Qfe];unfold Nd.size at y ⊢;simp only[List.length_append];omega
    ·dsimp only;omega
   ·cases f
theorem Qa6:∀(olds:List Zz) (P:Pl) (g:List Nd) (q:List Qk) {P':Pl} {f:List Nd} {m:List Qk},Ld olds P g q=some (P',f,m)->m.length+f.length=q.length+g.length
 |[],P,g,q,P',f,m,h=>by
  injection Option.some.inj h with E y;injection y with y A;rw[<-y,<-A]
 |s::olds,P,[],q,P',f,m,h=>by
  obtain⟨u,_,h2⟩:=Qg9 h;exact Qa6 olds u [] q h2
 |s::olds,P,b::g,q,P',f,m,h=>by
  by_cases z:s.shared=true\/P.C.fresh s.addr=false
  ·obtain⟨u,_,h2⟩:=Qbk z h;exact Qa6 olds u (b::g) q h2
  ·have h1:s.shared=false:=by
    cases e:s.shared with
    |false=>rfl
    |true=>exact absurd (.inl e) z
   have h2:P.C.fresh s.addr=true:=by
    cases e:P.C.fresh s.addr with
    |true=>rfl
    |false=>exact absurd (.inr e) z
   obtain⟨_,B⟩:=Qha h1 h2 h;have:=Qa6 olds _ g _ B;rw[List.length_append] at this;simp at this ⊢;omega
theorem Qiu:∀(e:List Nd) (P:Pl) (g:List Qk) {P':Pl} {f:List Qk},Oi e P g=some (P',some f)->f.length=g.length+e.length
 |[],P,g,P',f,h=>by
  injection Option.some.inj h with q m;rw[<-Option.some.inj m];rfl
 |b::e,P,g,P',f,h=>by
  rcases Qg7 h with⟨_,h2⟩|⟨_,h2⟩
  ·have:=Qiu e _ _ h2;rw[List.length_append] at this;simp at this ⊢;omega
  ·injection h2 with _ h2
   cases h2
theorem pieces_len {N:Nd}(h:N.size<=31):(pieces N).length<=7:=by
 unfold pieces;rw[List.length_map,List.length_range];unfold parts;have h1:6<=Iw N.lvl:=by unfold Iw;split<;>omega
 have h2:N.size+Iw N.lvl-1<8*Iw N.lvl:=by omega
 have:=Nat.div_lt_of_lt_mul (m:=N.size+Iw N.lvl-1) (n:=Iw N.lvl) (k:=8) (by rw[Nat.mul_comm];exact h2);omega
theorem Zcq {P P':Pl}{x:Ia}{ks:List Qk}(h:P.Tq x=some (P',some ks)):ks.length=(pieces x.N).length:=by
 unfold Pl.Tq at h;split at h
 ·rename_i m f g e;have h1:=Qa6 _ _ _ _ e;have h2:=Qiu _ _ _ h;simp at h1;omega
 ·cases h
theorem Qla {D:DM}{above:Zz}{way:List Zz}{P P':Pl}{s:Zz}{i j:Nat}{e:Nd}{r:Option Int}(h:Qas D (above::way) P s i j e=some (P',r)) :
  ∃g x m f y,P.X7 s i j=some g/\g.have_ D s (Pe s i j e) above=some (x,m)/\m.Tq x=some (f,y)/\((y=none/\f=P'/\r=none)\/∃u,y=some u/\Qas D way f above x.i x.j ⟨x.N.lvl+1,[],u⟩=some (P',r)):=by
 have h:(match P.X7 s i j with
  |some g=>match g.have_ D s (Pe s i j e) above with
   |some (x,m)=>match m.Tq x with
    |some (f,some u)=>Qas D way f above x.i x.j ⟨x.N.lvl+1,[],u⟩
    |some (f,none)=>some (f,none)
    |none=>none
   |none=>none
  |none=>none)=some (P',r):=h
 cases h1:P.X7 s i j with
 |none=>rw[h1] at h;cases h
 |some g=>
  rw[h1] at h;dsimp only at h
  cases h2:g.have_ D s (Pe s i j e) above with
  |none=>rw[h2] at h;cases h
  |some q=>
   obtain⟨x,m⟩:=q;rw[h2] at h;dsimp only at h
   cases z:m.Tq x with
   |none=>rw[z] at h;cases h
   |some q=>
    obtain⟨f,y⟩:=q;rw[z] at h;refine⟨g,x,m,f,y,rfl,h2,z,?_⟩
    cases y with
    |none=>
     injection Option.some.inj h with A B;exact .inl ⟨rfl,A,B.symm⟩
    |some u=>exact .inr ⟨u,rfl,h⟩
theorem Qop {D:DM}{P P':Pl}{s:Zz}{i j:Nat}{e:Nd}{r:Option Int}(h:Qas D [] P s i j e=some (P',r)):∃f,P.X7 s i j=some f/\f.top s (Pe s i j e)=some (P',r):=by
 have h:(match P.X7 s i j with|some f=>f.top s (Pe s i j e)|none=>none)=some (P',r):=h
 cases h1:P.X7 s i j with
 |none=>rw[h1] at h;cases h
 |some f=>rw[h1] at h;exact⟨f,rfl,h⟩
theorem Qcj (l:List Zz)(s:Zz):Qaa (l++[s]) l.length=s:=by simp[Qaa]
section
def stB (p v:Value):Sem Unit:=Instr.storeAt 178 p v
theorem Za4 (p v:Value):Instr.storeAt 178 p v=stB p v:=rfl
theorem Qnd {w:World}{b:Nat}{l:Int}{A:Option Addr}{n c:Nat}{B:Option Addr}{m d:Nat}(H:NB w b l A n c B m d)(q:Int)(e:Option Addr)(y c2:Nat)(f:Option Addr)(u g:Nat) :
  (stB (.pointer (some ⟨b,0,none⟩)) (.agg #[.int .i64 q,.slice e y c2,.slice f u g])).run Tryz.prog w=.ok () (w.setCells b 0 [.int .i64 q,.slice e y c2,.slice f u g]):=
 run_storeAt_mid w b 0 178 #[.int .i64 q,.slice e y c2,.slice f u g] H.there (by kernel_rfl) (by simp[Value.oneCell'])
abbrev zbn:Obj:=.cells #[.int .i64 0,.slice none 0 0,.slice none 0 0] 178
theorem Qbj (w:World):NB (w.alloc zbn) w.1.size 0 none 0 0 none 0 0:=NB.new w 0 none 0 0 none 0 0 178
attribute [local go_sem ↓] Qj2
attribute [local go_sem ↓] Za4
section
variable {b:Nat}{d p:Nat}{S0 S:Nat->Prop}{D:DM}
def Qf9 (b:Nat)(d p:Nat)(S0 S T:Nat->Prop)(D:DM)(w:World)(P':Pl)(r:Option Int)(e:Ending)(w':World):Prop:=∃v,e=.returned (.tuple #[.int .i64 v,.int .i64 (Zfb r)])/\(∀a,r=some a->v=a)/\Zb b w' d p S0 S T D P'/\Turn S w w'/\Tab w'/\P'.tidy
theorem H9.good {b:Nat}{w0 w:World}{d p:Nat}{S0 S T T':Nat->Prop}{D:DM}{P:Pl}(h:H9 b w0 w d p S0 S T T' D P):∀a b,P.L a=some b->b.good:=by
 obtain⟨m,c,l,k,v,e,L⟩:=h.sys.pool;exact L.good
theorem Qig {w:World}{T:Nat->Prop}{P P1:Pl}(H:Zb b w d p S0 S T D P)(hb:1<b)(ht:Tab w)(hP:P.tidy)(s:Zz)(way:List Zz)(i2:s.N.fit)(p4:s.N.size<=12)(k7:0<=s.N.lvl/\s.N.lvl<8)(X:Option Addr)(n c:Nat)(hX:∀u,Turn S w u->Spl (Turn S w) u X n c (way.reverse++[s]))(hn:n<=20)
  (g:Nd) (r9:g.fit) (r8:g.size<=7) (i0:g.lvl=s.N.lvl) (A2:Option Addr) (n2 c2:Nat) (B2:Option Addr) (m2 d2:Nat) (hB:U6 (Turn S w) g A2 n2 c2 B2 m2 d2) (i j:Nat) (hi:i<=j) (hj:j<=s.N.size) {P':Pl} {r:Option Int} (i1:Qas D way P s i j g=some (P',r)) (b0:P.X7 s i j=some P1) (s7:Hid (Qcn s way))
  (a8:∀(t:Zz) (f9:List Zz),way=t::f9->∀{T2:Nat->Prop} {w2:World} {P3:Pl} (_:Zb b w2 d p S0 S T2 D P3) (_:Tab w2) (_:P3.tidy) (_:t.N.fit) (_:t.N.size<=12) (_:0<=t.N.lvl/\t.N.lvl<8) (_:Hid (Qcn t f9)) (_:∀u,Turn S w2 u->Spl (Turn S w2) u X (n-1) c (f9.reverse++[t])) (a1:Nd) (_:a1.fit) (_:a1.size<=7) (_:a1.lvl=t.N.lvl) (A:Option Addr) (n' c':Nat) (B:Option Addr) (m' d':Nat) (_:U6 (Turn S w2) a1 A n' c' B m' d') (i j:Nat) (_:i<=j) (_:j<=t.N.size) (_:Qas D f9 P3 t i j a1=some (P',r)),Calls Tryz.prog 110 #[tv p,.slice X (n-1) c,.int .i64 (i:Int),.int .i64 (j:Int),Px a1.lvl A n' c' B m' d'] w2 (Qf9 b d p S0 S T2 D w2 P' r)) :
  Calls Tryz.prog 110 #[tv p,.slice X n c,.int .i64 (i:Int),.int .i64 (j:Int),Px g.lvl A2 n2 c2 B2 m2 d2] w (Qf9 b d p S0 S T D w P' r):=by
 rw[i0];replace i0:=Lib.hid i0;replace i1:=Lib.hid i1;have hS:=H.low;have f8:=(hX w (Turn.refl _ _)).len;have u0:=(hX w (Turn.refl _ _)).cap;rw[List.length_append,List.length_reverse] at f8;have f8:way.length+1=n:=f8;obtain⟨m,hm⟩:∃m,n-1=m:=⟨_,rfl⟩;rw[hm] at a8;replace a8:=Lib.hid a8;have k4:way.length=m:=by omega
 have U:=λ(u:World) (Z:Turn S w u)=>Qk6 (hX u Z) (by omega) (by omega)
 have b5:Qaa (way.reverse++[s]) (n-1)=s:=by
  have:=Qcj way.reverse s;rw[List.length_reverse,k4] at this;rw[hm];exact this
 rw[b5] at U;have j0:∀u,Below w.1.size w u->Turn S w u:=λu Z=>Uk Z
 obtain⟨f,ad,nx,hd,sh⟩:=s;unfold spA at U;dsimp only at i2 p4 k7 i0 hj U ⊢;replace U:=Lib.hid U;have b1:Below w.1.size w ((w.alloc (.cells #[.pointer (some ⟨p,0,none⟩)] 173)).alloc (.cells #[.int .i64 f.lvl,.slice A2 n2 c2,.slice B2 m2 d2] 178)):=(Ib).alloc (by simp) _;have T1:RB ((w.alloc (.cells #[.pointer (some ⟨p,0,none⟩)] 173)).alloc (.cells #[.int .i64 f.lvl,.slice A2 n2 c2,.slice B2 m2 d2] 178)) w.1.size [.pointer (some ⟨p,0,none⟩)]:=(RB.new w [.pointer (some ⟨p,0,none⟩)] 173).below (Ib) (by simp);have N1:NB ((w.alloc (.cells #[.pointer (some ⟨p,0,none⟩)] 173)).alloc (.cells #[.int .i64 f.lvl,.slice A2 n2 c2,.slice B2 m2 d2] 178)) (w.1.size+1) f.lvl A2 n2 c2 B2 m2 d2:=NB.new2 w _ _ _ _ _ _ _ _ _;have hw:IntKind.i64.wrap ((n:Int)-1)=(m:Int):=by rw[show (n:Int)-1=(m:Int) by omega];exact IntWalk.i64_in _ (by omega)
 have u5:(0:Int)<=(m:Int):=by omega
 have u6:(m:Int)<=(c:Int):=by omega
 clear hm f8 b5;unfold tv Px;go_enter Tryz.func110,Tryz.ntmps110
 go_wp2_with fail
 generalize ((w.alloc (.cells #[.pointer (some ⟨p,0,none⟩)] 173)).alloc (.cells #[.int .i64 f.lvl,.slice A2 n2 c2,.slice B2 m2 d2] 178))=w1 at b1 T1 N1 ⊢;have z1:=N1.lt;have z0:=b1.size;have bD:Below w1.1.size w1 w1.drew:=(Below.refl _ _).drew;have bA:Below w1.1.size w1 (w1.alloc zsp).drew:=(Ib).drew;have QA:RB (w1.alloc zsp).drew w1.1.size (Nh 0 none 0 0 none 0 0 0 0 false false):=Nu w1;have hK:∀u:World,Below w1.1.size w1 u->True:=λ_ _=>trivial
 replace j0:=Lib.hid j0;go_cut [1,12] from 19 to 25 (λx q wx=>∃(qb:Nat) (A:Option Addr) (n' c':Nat) (B:Option Addr) (mm dd:Nat),x=.slice X m c/\q=.pointer (some ⟨qb,0,none⟩)/\w1.1.size<=qb/\RB wx qb (Nh f.lvl A n' c' B mm dd ad (nx:Int) hd sh)/\U6 (Turn S wx) f A n' c' B mm dd/\Below w1.1.size w1 wx)
 case first=>
  go_region_held3 (λ_=>True)
   (first|(with_reducible assumption)|exact trivial)
   (first
    |(go_at_call 109;(with_reducible refine (U.out w1.drew (j0.out _ (b1.trans (bD.mono b1.size)))).mono ?_);rintro e w3 ⟨A3,n3,c3,B3,m3,d3,rfl,m1,g9⟩;have b2:Below w1.1.size w1 w3:=bD.trans g9;have i9:=b2.alloc b2.size zsp;obtain⟨b5,RQ,TQ,BQ⟩:=Qh2 i9 b2.size (Nu w3) rfl f.lvl A3 n3 c3 B3 m3 d3 ad (nx:Int) hd sh;have HX:=Lib.hid (And.intro RQ (And.intro TQ (And.intro BQ (And.intro i9 b2))));clear RQ TQ BQ i9 g9)
    |(go_at_call 109;(with_reducible refine (U.out (w1.alloc zsp).drew (j0.out _ (b1.trans (bA.mono b1.size)))).mono ?_);rintro e w3 ⟨A3,n3,c3,B3,m3,d3,rfl,m1,g9⟩;have b2:Below w1.1.size w1 w3:=bA.trans (g9.mono bA.size);obtain⟨b5,RQ,TQ,BQ⟩:=Qh2 b2 (Nat.le_refl _) (QA.below g9 QA.lt) rfl f.lvl A3 n3 c3 B3 m3 d3 ad (nx:Int) hd sh;have HX:=Lib.hid (And.intro RQ (And.intro TQ (And.intro BQ (And.intro b2 b2))));clear RQ TQ BQ g9)
    |fail)
  ·obtain⟨RQ,TQ,BQ,i9,_⟩:=HX.out;go_wp2_with fail
   go_meet
   exact⟨w3.1.size,A3,n3,c3,B3,m3,d3,rfl,rfl,b2.size,RQ,m1.mono λv V=>(Uk (S:=S) (b1.trans (BQ.mono b1.size))).trans V λk W=>.inl W,BQ⟩
  ·obtain⟨RQ,TQ,BQ,i9,_⟩:=HX.out;go_wp2_with fail
   go_meet
   exact⟨w1.1.size,A3,n3,c3,B3,m3,d3,rfl,rfl,Nat.le_refl _,RQ,m1.mono λv V=>(Uk (S:=S) (b1.trans (BQ.mono b1.size))).trans V λk W=>.inl W,BQ⟩
 case rest=>
  obtain⟨qb,A,n',c',B,mm,dd,rfl,rfl,u8,RQ,e7,BQ⟩:=hcut;have k3:f.size<=20:=by omega
  have k6:=e7.hn;have k5:=e7.hm;have j9:=e7.size;have s0:=Qeg e7 i2 hj;have L0:=((H9.start H hb ht hP).below b1).below BQ;have TC:=T1.below BQ T1.lt;have NC:=N1.below BQ N1.lt;have zq:=BQ.size;have Hr:=Qfa L0.sys hb L0.tab ⟨f,ad,nx,hd,sh⟩ i2 A n' c' B mm dd e7 i j hi hj k3 b0;unfold tv spA at Hr;dsimp only at Hr;replace Hr:=Lib.hid Hr;have y0:=TC.cell 0 rfl;have f0:=RQ.cell 0 rfl;have f1:=RQ.cell 1 rfl;have f2:=RQ.cell 2 rfl;have f3:=RQ.cell 3 rfl;have f4:=RQ.cell 4 rfl;have f5:=RQ.cell 5 rfl;have f6:=RQ.cell 6 rfl;clear j0 hK QA bA bD U;go_wp2_with fail
  refine Hr.out.mono ?_;rintro e F ⟨rfl,H4,X4,t4⟩;have L4:=L0.step H4 X4 t4 (hP.X7 b0);have z4:=X4.size;have R4:=RQ.turned X4 (λh=>by have:=hS _ h;omega);have T4:=TC.turned X4 (λh=>by have:=hS _ h;omega);have N4:=NC.turned X4 (λh=>by have:=hS _ h;omega);have TW:Turn S w F:=(Uk (S:=S) (b1.trans (BQ.mono b1.size))).then X4;have o8:U6 (Turn S F) g A2 n2 c2 B2 m2 d2:=hB.mono λv V=>TW.then V
  have i3:U6 (Turn S F) f A n' c' B mm dd:=e7.mono λv V=>X4.then V
  clear y0 f0 f1 f2 f3 f4 f5 f6 Hr TC NC RQ e7;go_wp2_with fail
  obtain⟨A6,n6,c6,B6,m6,d6,e1,q1,l1⟩:=Qdj i3 (i:=0) (j:=i) (Nat.zero_le _) (by omega);obtain⟨A7,n7,c7,B7,m7,d7,e2,q2,l2⟩:=Qdj i3 (i:=j) (j:=f.size) (by omega) (Qeg i3 i2 (Nat.le_refl _));have b8:=λu=>Qak f.lvl A n' c' B mm dd 0 i (Nat.zero_le _) (by omega) ⟨k6.2.1,k6.2.2⟩ ⟨k5.2.1,k5.2.2⟩ u
  have g5:=λu=>Qak f.lvl A n' c' B mm dd j f.size (by omega) (Qeg i3 i2 (Nat.le_refl _)) ⟨k6.2.1,k6.2.2⟩ ⟨k5.2.1,k5.2.2⟩ u
  have HS:=λu=>O0 f.lvl A n' c' B mm dd (by omega) (by omega) u
  rw[e1] at b8;rw[show ((0:Nat):Int)=0 from rfl] at b8;rw[e2] at g5;rw[<-j9] at HS;unfold Px at b8 g5 HS;replace b8:=Lib.hid b8;replace g5:=Lib.hid g5;replace HS:=Lib.hid HS;clear e1 e2 s0 j9;have b4:=λu=>Qum (Q:=Turn S F) u 178 q1 o8 q2
  rw[l1,l2,i0.out] at b4;have f7:∀u:World,Bnl (Turn S F) ((u.alloc zbn).alloc (.cells #[.int .i64 f.lvl,.slice A6 n6 c6,.slice B6 m6 d6,.int .i64 f.lvl,.slice A2 n2 c2,.slice B2 m2 d2,.int .i64 f.lvl,.slice A7 n7 c7,.slice B7 m7 d7] 178)) (some ⟨u.1.size+1,0,none⟩) 3 3 [f.cut 0 i,g,f.cut j f.size]:=λu=>by
   have:=b4 (u.alloc zbn);rwa [World.size_alloc] at this
  replace b4:=Lib.hid b4;replace f7:=Lib.hid f7;have u1:g.items.length<=7/\g.kids.length<=7:=by unfold Nd.size at r8;omega
  have u3:f.items.length<=12/\f.kids.length<=12:=by unfold Nd.size at p4;omega
  have l0:∀k,S k->k<F.1.size:=λk W=>by have:=hS k W;omega
  have Hj:∀(S':Nat->Prop) (_:∀k,S' k->S k\/F.1.size<=k) (u:World) (_:∀k,S' k->k<u.1.size) (_:Below F.1.size F u) (X:Option Addr) (_:Bnl (Turn S F) u X 3 3 [f.cut 0 i,g,f.cut j f.size]),Calls Tryz.prog 186 #[.slice X 3 3] u λe R=>∃A n c B m d,e=.returned (Px f.lvl A n c B m d)/\U6 (Turn S' R) (Pe ⟨f,ad,nx,hd,sh⟩ i j g) A n c B m d/\Below u.1.size u R:=λS' r4 u r5 Z X hX=>
   Qa4 (S:=S') (w:=u) r5 [f.cut 0 i,g,f.cut j f.size] f.lvl l1 X 3 3 (by
    obtain⟨s9,r1,r2,r3⟩:=hX;exact⟨s9,r1,r2,λj r M hr hM=>by
     obtain⟨A',n',c',B',m',d',e',hq⟩:=r3 j r M hr hM;exact⟨A',n',c',B',m',d',e',hq.mono λv V=>(Uk (S:=S) Z).trans V r4⟩⟩) (by omega) (by omega)
    (by have h1:=Pn f 0 i;have h2:=Pn f j f.size;simp only[List.flatMap_cons,List.flatMap_nil,List.length_append,List.length_nil];omega)
    (by have h1:=Pn f 0 i;have h2:=Pn f j f.size;simp only[List.flatMap_cons,List.flatMap_nil,List.length_append,List.length_nil];omega)
  have v7:=R4.lt;have zn:=N4.lt;have cB:∀u,Below F.1.size F u->u.cell? ⟨qb,0,none⟩=some (.int .i64 f.lvl)/\u.cell? ⟨qb,1,none⟩=some (.slice A n' c')/\u.cell? ⟨qb,2,none⟩=some (.slice B mm dd)/\u.cell? ⟨w.1.size+1,0,none⟩=some (.int .i64 f.lvl)/\u.cell? ⟨w.1.size+1,1,none⟩=some (.slice A2 n2 c2)/\u.cell? ⟨w.1.size+1,2,none⟩=some (.slice B2 m2 d2):=λu Z=>
   have s1:=R4.below Z R4.lt;have n1:=N4.below Z N4.lt;⟨s1.cell 0 rfl,s1.cell 1 rfl,s1.cell 2 rfl,n1.c0,n1.c1,n1.c2⟩
  have g6:∀(u:World) (_:Below F.1.size F u) (q:Nat) (_:F.1.size<=q/\NB u q 0 none 0 0 none 0 0) (X:Option Addr) (_:Bnl (Turn S F) u X 3 3 [f.cut 0 i,g,f.cut j f.size]),Calls Tryz.prog 186 #[.slice X 3 3] u λe R=>∃G O c5 I K J,e=.returned (.agg #[.int .i64 f.lvl,.slice G O c5,.slice I K J])/\Below F.1.size F R/\(stB (.pointer (some ⟨q,0,none⟩)) (.agg #[.int .i64 f.lvl,.slice G O c5,.slice I K J])).run Tryz.prog R=.ok () (R.setCells q 0 [.int .i64 f.lvl,.slice G O c5,.slice I K J])/\(NB (R.setCells q 0 [.int .i64 f.lvl,.slice G O c5,.slice I K J]) (q) f.lvl G O c5 I K J/\U6 (Turn S (R.setCells q 0 [.int .i64 f.lvl,.slice G O c5,.slice I K J])) (Pe ⟨f,ad,nx,hd,sh⟩ i j g) G O c5 I K J/\Below F.1.size F (R.setCells q 0 [.int .i64 f.lvl,.slice G O c5,.slice I K J])):=by
   intro u Z q hq X hX;refine (Hj (λk=>S k\/k=q) (λk W=>W.elim .inl λh=>.inr (by omega)) u (λk W=>W.elim (λh=>by have:=l0 k h;have:=Z.size;omega) λh=>by rw[h];exact hq.2.lt) Z X hX).mono ?_;rintro e R ⟨G,O,c5,I,K,J,rfl,h1,h2⟩;have hz:=hq.2.below h2 hq.2.lt;have d4:=Z.trans (h2.mono Z.size);have T8:Turn (λk=>k=q) R (R.setCells q 0 [.int .i64 f.lvl,.slice G O c5,.slice I K J]):=Gg (S:=λk=>k=q) rfl _ 0 R;exact⟨G,O,c5,I,K,J,rfl,d4,Qnd hz f.lvl G O c5 I K J,hz.stored f.lvl G O c5 I K J,h1.mono λv V=>(T8.mono λk W=>.inr W).then (V.mono λk W=>.inl W),d4.trans (T8.below (λk W=>by have:k=q:=W;omega) d4.size)⟩
  have k0:∀(u:World) (_:Below F.1.size F u) (X:Option Addr) (_:Bnl (Turn S F) u X 3 3 [f.cut 0 i,g,f.cut j f.size]),Calls Tryz.prog 186 #[.slice X 3 3] u λe R=>∃G O c5 I K J,e=.returned (.agg #[.int .i64 f.lvl,.slice G O c5,.slice I K J])/\Below F.1.size F R/\(stB (.pointer (some ⟨R.1.size,0,none⟩)) (.agg #[.int .i64 f.lvl,.slice G O c5,.slice I K J])).run Tryz.prog (R.alloc zbn)=.ok () ((R.alloc zbn).setCells R.1.size 0 [.int .i64 f.lvl,.slice G O c5,.slice I K J])/\(NB ((R.alloc zbn).setCells R.1.size 0 [.int .i64 f.lvl,.slice G O c5,.slice I K J]) (R.1.size) f.lvl G O c5 I K J/\U6 (Turn S ((R.alloc zbn).setCells R.1.size 0 [.int .i64 f.lvl,.slice G O c5,.slice I K J])) (Pe ⟨f,ad,nx,hd,sh⟩ i j g) G O c5 I K J/\Below F.1.size F ((R.alloc zbn).setCells R.1.size 0 [.int .i64 f.lvl,.slice G O c5,.slice I K J])):=by
   intro u Z X hX;refine (Hj S (λk W=>.inl W) u (λk W=>by have:=l0 k W;have:=Z.size;omega) Z X hX).mono ?_;rintro e R ⟨G,O,c5,I,K,J,rfl,h1,h2⟩;have hz:=Qbj R;have d4:=Z.trans (h2.mono Z.size);have T8:Turn (λk=>k=R.1.size) (R.alloc zbn) ((R.alloc zbn).setCells R.1.size 0 [.int .i64 f.lvl,.slice G O c5,.slice I K J]):=Gg (S:=λk=>k=R.1.size) rfl _ 0 _;have p0:Below R.1.size R ((R.alloc zbn).setCells R.1.size 0 [.int .i64 f.lvl,.slice G O c5,.slice I K J]):=((Below.refl _ _).alloc (Nat.le_refl _) zbn).trans (T8.below (λk W=>by have:k=R.1.size:=W;omega) (by simp));exact⟨G,O,c5,I,K,J,rfl,d4,Qnd hz f.lvl G O c5 I K J,hz.stored f.lvl G O c5 I K J,h1.mono λv V=>(Uk (S:=S) p0).then V,d4.trans (p0.mono d4.size)⟩
  have y:Below F.1.size F F.drew:=(Below.refl _ _).drew;have bA:Below F.1.size F (F.alloc zbn).drew:=(Ib).drew;have zA:NB (F.alloc zbn).drew F.1.size 0 none 0 0 none 0 0:=Qbj F;replace cB:=Lib.hid cB;replace g6:=Lib.hid g6;replace k0:=Lib.hid k0;replace zA:=Lib.hid zA;have o3:=Lib.hid L4;have l5:=Lib.hid i3;clear Hj hB o8 i3 q1 q2 L0 L4;go_cut [14] from 34 to 47 (λq wx=>∃(qz:Nat) (G:Option Addr) (O c5:Nat) (I:Option Addr) (K J:Nat),q=.pointer (some ⟨qz,0,none⟩)/\F.1.size<=qz/\NB wx qz f.lvl G O c5 I K J/\U6 (Turn S wx) (Pe ⟨f,ad,nx,hd,sh⟩ i j g) G O c5 I K J/\Below F.1.size F wx)
  case first=>
   go_region_held3 (λu=>u.cell? ⟨qb,0,none⟩=some (.int .i64 f.lvl)/\u.cell? ⟨qb,1,none⟩=some (.slice A n' c')/\u.cell? ⟨qb,2,none⟩=some (.slice B mm dd)/\u.cell? ⟨w.1.size+1,0,none⟩=some (.int .i64 f.lvl)/\u.cell? ⟨w.1.size+1,1,none⟩=some (.slice A2 n2 c2)/\u.cell? ⟨w.1.size+1,2,none⟩=some (.slice B2 m2 d2))
    (first|(with_reducible assumption)|(with_reducible exact cB.out _ y)|(with_reducible exact cB.out _ bA)|(with_reducible exact cB.out _ (y.alloc y.size _))|(with_reducible exact cB.out _ ((y.alloc y.size _).alloc (y.alloc y.size _).size _))|(with_reducible exact cB.out _ hF.out.2.2.2))
    (first
     |(go_at_call 187;(with_reducible refine (b8.out _).mono ?_);rintro e wX ⟨rfl,E⟩;(first|(have z:=a6.out;replace a6:=Lib.hid (And.intro z.1 (z.2.below E z.2.lt));clear z;replace y:=y.trans (E.mono y.size))|(have a6:=Lib.hid (And.intro y.size ((Qbj _).below E (by simp)));replace y:=(y.alloc y.size zbn).trans (E.mono (y.alloc y.size zbn).size))|(have a6:=Lib.hid (And.intro (Nat.le_refl F.1.size) (zA.out.below E zA.out.lt));replace y:=bA.trans (E.mono bA.size))|(replace y:=y.trans (E.mono y.size)));clear E)
     |(go_at_call 187;(with_reducible refine (g5.out _).mono ?_);rintro e wX ⟨rfl,E⟩;(first|(have z:=a6.out;replace a6:=Lib.hid (And.intro z.1 (z.2.below E z.2.lt));clear z;replace y:=y.trans (E.mono y.size))|(have a6:=Lib.hid (And.intro y.size ((Qbj _).below E (by simp)));replace y:=(y.alloc y.size zbn).trans (E.mono (y.alloc y.size zbn).size))|(have a6:=Lib.hid (And.intro (Nat.le_refl F.1.size) (zA.out.below E zA.out.lt));replace y:=bA.trans (E.mono bA.size))|(replace y:=y.trans (E.mono y.size)));clear E)
     |(go_at_call 188;(with_reducible refine (HS.out _).mono ?_);rintro e wX ⟨rfl,E⟩;(first|(have z:=a6.out;replace a6:=Lib.hid (And.intro z.1 (z.2.below E z.2.lt));clear z;replace y:=y.trans (E.mono y.size))|(have a6:=Lib.hid (And.intro y.size ((Qbj _).below E (by simp)));replace y:=(y.alloc y.size zbn).trans (E.mono (y.alloc y.size zbn).size))|(have a6:=Lib.hid (And.intro (Nat.le_refl F.1.size) (zA.out.below E zA.out.lt));replace y:=bA.trans (E.mono bA.size))|(replace y:=y.trans (E.mono y.size)));clear E)
     |(go_at_call 186;have z:=a6.out;(with_reducible refine (g6.out _ (y.alloc y.size _) _ (And.intro z.1 (z.2.below (Ib) z.2.lt)) _ (b4.out _)).mono ?_);rintro e wJ ⟨G,O,c5,I,K,J,rfl,bJ,b5,hF⟩;replace y:=bJ;replace hF:=Lib.hid (And.intro z.1 hF);clear bJ)
     |(go_at_call 186;(with_reducible refine (k0.out _ (y.alloc y.size _) _ (b4.out _)).mono ?_);rintro e wJ ⟨G,O,c5,I,K,J,rfl,bJ,b5,hF⟩;replace y:=bJ;replace hF:=Lib.hid (And.intro bJ.size hF);clear bJ)
     |(go_at_call 186;(with_reducible refine (g6.out _ ((y.alloc y.size _).alloc (y.alloc y.size _).size _) _ (And.intro (Nat.le_succ_of_le y.size) (NB.new2 _ _ 0 none 0 0 none 0 0 178)) _ ((b4.out _).below (Ib))).mono ?_);rintro e wJ ⟨G,O,c5,I,K,J,rfl,bJ,b5,hF⟩;have hz:=y.size;replace hF:=Lib.hid (And.intro (Nat.le_succ_of_le hz) hF);replace y:=bJ;clear bJ)
     |(go_at_call 186;(with_reducible refine (g6.out _ ((y.alloc y.size _).alloc (y.alloc y.size _).size _) _ (And.intro y.size ((Qbj _).below (Ib) (by simp))) _ (f7.out _)).mono ?_);rintro e wJ ⟨G,O,c5,I,K,J,rfl,bJ,b5,hF⟩;have hz:=y.size;replace hF:=Lib.hid (And.intro hz hF);replace y:=bJ;clear bJ)
     |fail)
   all_goals (go_wp2_with fail;go_meet;exact⟨_,_,_,_,_,_,_,rfl,hF.out.1,hF.out.2.1,hF.out.2.2.1,hF.out.2.2.2⟩)
  case rest=>
   obtain⟨qz,G,O,c5,I,K,J,rfl,u9,NZ,p2,BZ⟩:=hcut;have L5:=o3.out.below BZ;have T5:=T4.below BZ T4.lt;have R5:=R4.below BZ R4.lt;have p3:U6 (Turn S wc) f A n' c' B mm dd:=l5.out.mono λv V=>(Uk (S:=S) BZ).then V
   have TZ:Turn S w wc:=TW.trans (Uk (S:=S) BZ) λk W=>.inl W
   have zz:=BZ.size;have v8:=NZ.lt;obtain⟨p7,b3,p8⟩:=Zc1 (s:=⟨f,ad,nx,hd,sh⟩) i2 r9 i0.out hi;have p8:(Pe ⟨f,ad,nx,hd,sh⟩ i j g).size<=f.size+g.size:=p8;have b3:(Pe ⟨f,ad,nx,hd,sh⟩ i j g).lvl=f.lvl:=b3;have y0:=T5.cell 0 rfl;have f0:=R5.cell 0 rfl;have f1:=R5.cell 1 rfl;have f2:=R5.cell 2 rfl;have f3:=R5.cell 3 rfl;have f4:=R5.cell 4 rfl;have f5:=R5.cell 5 rfl;have f6:=R5.cell 6 rfl;have g0:=NZ.c0;have g1:=NZ.c1;have g2:=NZ.c2;clear y bA zA b8 g5 HS b4 f7 g6 k0 cB o3 l5
   cases way with
   |nil=>
    obtain⟨m0,j8,l8⟩:=Qop i1.out;obtain rfl:P1=m0:=Option.some.inj (b0.symm.trans j8);have Ht:=Qyp L5.sys hb L5.tab L5.tidy ⟨f,ad,nx,hd,sh⟩ A n' c' B mm dd p3 (Pe ⟨f,ad,nx,hd,sh⟩ i j g) G O c5 I K J p2 p7 (by omega) (by rw[b3];exact k7) l8;rw[b3] at Ht;unfold tv spA Px at Ht;dsimp only at Ht;replace Ht:=Lib.hid Ht;obtain rfl:m=0:=k4.symm;clear l8 j8 b0 i1;go_wp2_with fail
    refine Ht.out.mono ?_;rintro e w6 ⟨v,rfl,V,H6,X6,t6,p6⟩;have L6:=L5.step H6 X6 t6 p6;have TF:=TZ.then X6;go_wp2_with fail
    go_ret2;exact⟨v,rfl,V,L6.done,TF,t6,p6⟩
   |cons t way=>
    obtain⟨m0,x,P2,P3,r2,j8,d9,l3,m4⟩:=Qla i1.out;obtain rfl:P1=m0:=Option.some.inj (b0.symm.trans j8);obtain⟨n4,q3,k9,n9,q4,t7⟩:=s7.out;have o9:∀u,Turn S w u->Spl (Turn S w) u X m c (way.reverse++[t]):=λu Z=>by
     have:=(hX u Z).take (show m<=n by omega);have e:((t::way).reverse++[(⟨f,ad,nx,hd,sh⟩:Zz)]).take m=way.reverse++[t]:=by
      have p1:(way.reverse++[t]).length=m:=by rw[<-k4];simp
      rw[List.reverse_cons,<-p1,List.take_left]
     rwa [e] at this
    have u2:way.length+1=m:=k4;have l7:Qaa (way.reverse++[t]) (m-1)=t:=by
     have:=Qcj way.reverse t;rw[List.length_reverse] at this;rw[show m-1=way.length by omega];exact this
    have c9:=Qk6 (o9 wc TZ) (by omega) (by omega);rw[l7] at c9;have j7:=Qyw L5.good p7 n4 (by rw[b3];exact k9) (by rw[b3];exact k7.1) q4 d9;have a8:=λ{T2:Nat->Prop} {w2:World} {P3:Pl} (h:Zb b w2 d p S0 S T2 D P3)=>a8.out t way rfl h
    obtain⟨tN,i6,e9,i7,i8⟩:=t;unfold spA at c9;dsimp only at n4 q3 k9 n9 q4 c9;have xl:x.N.lvl=f.lvl:=j7.lvl.trans b3;have gm:¬(m:Int)=0:=by omega
    have o0:=k9;replace o0:=Lib.hid o0;have d0:=λ(u:World) (Z:Below wc.1.size wc u) (A6:Option Addr) (n6 c6:Nat) (B6:Option Addr) (m6 d6:Nat) (hA:Vf (Turn S u) B6 m6 d6 tN.kids)=>Qva (L5.below Z).sys hb (L5.below Z).tab L5.tidy ⟨f,ad,nx,hd,sh⟩ A n' c' B mm dd (p3.mono λv V=>(Uk (S:=S) Z).then V) (Pe ⟨f,ad,nx,hd,sh⟩ i j g) G O c5 I K J (p2.mono λv V=>(Uk (S:=S) Z).then V) ⟨tN,i6,e9,i7,i8⟩ A6 n6 c6 B6 m6 d6 hA ⟨by show 1<=tN.lvl;omega,n9⟩ (by show e9<=60;omega) (by omega) d9
    rw[b3,xl] at d0;unfold tv spA Ou Px at d0;dsimp only at d0;replace d0:=Lib.hid d0;replace c9:=Lib.hid c9;have t2:1<=tN.lvl/\tN.lvl<8:=by omega
    have o1:=Lib.hid xl;clear j8 b0 i1 hX l7 k9 n9 xl b3;go_wp2_with fail
    refine c9.out.mono ?_;rintro e w6 ⟨A6,n6,c6,B6,m6,d6,rfl,s3,b6⟩;obtain⟨w7,p5,Q7,b7⟩:∃w7,(stS (.pointer (some ⟨w6.1.size,0,none⟩)) (.agg #[.int .i64 tN.lvl,.slice A6 n6 c6,.slice B6 m6 d6,.int .i64 i6,.int .i64 (e9:Int),.bool i7,.bool i8])).run Tryz.prog (w6.alloc zsp)=.ok () w7/\RB w7 w6.1.size (Nh tN.lvl A6 n6 c6 B6 m6 d6 i6 (e9:Int) i7 i8)/\Below w6.1.size w6 w7:=by
     have T7:Turn (λk=>k=w6.1.size) (w6.alloc zsp) ((w6.alloc zsp).setCells w6.1.size 0 (Nh tN.lvl A6 n6 c6 B6 m6 d6 i6 (e9:Int) i7 i8)):=Gg (S:=λk=>k=w6.1.size) rfl _ 0 _;exact⟨_,Qne (Nu w6) rfl tN.lvl A6 n6 c6 B6 m6 d6 i6 (e9:Int) i7 i8,(Nu w6).stored (Nh tN.lvl A6 n6 c6 B6 m6 d6 i6 (e9:Int) i7 i8) rfl,((Below.refl _ _).alloc (Nat.le_refl _) zsp).trans (T7.below (λk W=>by have:k=w6.1.size:=W;omega) (by simp))⟩
    have d1:=b6.trans (b7.mono b6.size);have z7:=d1.size;have z6:=b6.size;have v6:=Q7.lt;have L7:=L5.below d1;have T7:=T5.below d1 T5.lt;have R7:=R5.below d1 R5.lt;have N7:=NZ.below d1 NZ.lt;have o7:Vf (Turn S w7) B6 m6 d6 tN.kids:=λv V=>s3.Ic v ((TZ.trans (Uk (S:=S) d1) λk W=>.inl W).then V)
    clear y0 f0 f1 f2 f3 f4 f5 f6 g0 g1 g2;have y0:=T7.cell 0 rfl;have f0:=R7.cell 0 rfl;have f1:=R7.cell 1 rfl;have f2:=R7.cell 2 rfl;have f3:=R7.cell 3 rfl;have f4:=R7.cell 4 rfl;have f5:=R7.cell 5 rfl;have f6:=R7.cell 6 rfl;have g0:=N7.c0;have g1:=N7.c1;have g2:=N7.c2;have e0:=Q7.cell 0 rfl;have e1:=Q7.cell 1 rfl;have e2:=Q7.cell 2 rfl;have e3:=Q7.cell 3 rfl;have e4:=Q7.cell 4 rfl;have e5:=Q7.cell 5 rfl;have e6:=Q7.cell 6 rfl;go_wp2_with fail
    refine (d0.out w7 d1 A6 n6 c6 B6 m6 d6 o7).mono ?_;rintro e w8 ⟨A8,n8,c8,B8,m8,d8,Y,k,rfl,s4,r6,u4,H8,X8,t8⟩;have L8:=L7.step H8 X8 t8 (Qxa L5.tidy d9);have T8:=T7.turned X8 (λh=>by have:=hS _ h;omega);have z8:=X8.size;clear p5 y0 f0 f1 f2 f3 f4 f5 f6 g0 g1 g2 e0 e1 e2 e3 e4 e5 e6 d0 c9 o7;obtain⟨xi,m9⟩:∃xi,x.i=xi:=⟨_,rfl⟩;obtain⟨xj,n0⟩:∃xj,x.j=xj:=⟨_,rfl⟩;rw[m9,n0];go_wp2_with (first
     |(refine Qf8 rfl (.tmp 16) _ rfl w8.1.size rfl f.lvl A8 n8 c8 B8 m8 d8 Y k k (xi:Int) (xj:Int) rfl (RB.new w8 (Ou 0 none 0 0 none 0 0 none 0 0 0 0) 274) rfl ?_;intro w9 R9 q9;have b9:Below w8.1.size w8 w9:=(Ib).trans (q9.below (λk W=>by have:k=w8.1.size:=W;omega) (by simp));have T9:=T8.below b9 T8.lt;have y0:=T9.cell 0 rfl;have f0:=R9.cell 0 rfl;have f1:=R9.cell 1 rfl;have f2:=R9.cell 2 rfl;have f3:=R9.cell 3 rfl;have f4:=R9.cell 4 rfl;have f5:=R9.cell 5 rfl)
     |fail)
    have L9:=L8.below b9;have z9:=b9.size;have x0:=R9.lt;have s5:U6 (Turn S w9) x.N A8 n8 c8 B8 m8 d8:=s4.mono λv V=>(Uk (S:=S) b9).then V
    have r7:∀u,Turn S w9 u->Spl (Turn S w9) u Y k k x.olds:=λu Z=>(r6 u ((Uk (S:=S) b9).then Z)).mono λv V=>(Uk (S:=S) b9).then V
    have u7:=j7.size;have Hl:=Qoj L9.sys hb L9.tab L9.tidy x A8 n8 c8 B8 m8 d8 s5 j7.fit (by omega) (by rw[o1.out];exact k7) Y k k r7 (by omega) l3 (xi:Int) (xj:Int);rw[o1.out] at Hl;unfold tv Ou Px at Hl;replace Hl:=Lib.hid Hl;refine Hl.out.mono ?_;rintro e a2 ⟨g3,i5,g7,g4,i4,g8,l,rfl,l4,q5,k1,t1,s8⟩;have q7:=L9.step q5 k1 t1 s8;have o6:=T9.turned k1 (λh=>by have:=hS _ h;omega);have o4:=R9.turned k1 (λh=>by have:=hS _ h;omega);have v2:=k1.size;clear y0 f0 f1 f2 f3 f4 f5 Hl;obtain⟨k8,s6,l9,k2⟩:∃k8,(stB (.pointer (some ⟨a2.1.size,0,none⟩)) (.agg #[.int .i64 l,.slice g3 i5 g7,.slice g4 i4 g8])).run Tryz.prog (a2.alloc zbn)=.ok () k8/\NB k8 a2.1.size l g3 i5 g7 g4 i4 g8/\Below a2.1.size a2 k8:=by
     have TT:Turn (λk=>k=a2.1.size) (a2.alloc zbn) ((a2.alloc zbn).setCells a2.1.size 0 [.int .i64 l,.slice g3 i5 g7,.slice g4 i4 g8]):=Gg (S:=λk=>k=a2.1.size) rfl _ 0 _;exact⟨_,Qnd (Qbj a2) l g3 i5 g7 g4 i4 g8,(Qbj a2).stored l g3 i5 g7 g4 i4 g8,((Below.refl _ _).alloc (Nat.le_refl _) zbn).trans (TT.below (λk W=>by have:k=a2.1.size:=W;omega) (by simp))⟩
    have a7:=q7.below k2;have q8:=o6.below k2 o6.lt;have o5:=o4.below k2 o4.lt;rcases m4 with⟨rfl,rfl,rfl⟩|⟨ks,rfl,e8⟩
    ·unfold Qzd;dsimp only;go_wp2_with fail
     go_ret2;exact⟨0,rfl,λa e=>(by cases e),a7.done,a7.turn,a7.tab,a7.tidy⟩
    ·obtain⟨hl,l6⟩:=l4 ks rfl;have s2:ks.length<=7:=by
      rw[Zcq l3];exact pieces_len (by omega)
     rw[o1.out] at e8;have HR:=a8 a7.sys a7.tab a7.tidy n4 q3 ⟨by show 0<=tN.lvl;omega,t2.2⟩ (Lib.hid t7) (λu Z=>(o9 u (a7.turn.then Z)).mono λv V=>a7.turn.then V) ⟨f.lvl+1,[],ks⟩ ⟨λh=>by
       have h:f.lvl+1=0:=h;omega,λ_=>rfl⟩ (by unfold Nd.size;simp;exact s2) o0.out.symm g3 i5 g7 g4 i4 g8 (l6.mono λv V=>(Uk (S:=S) k2).then V) x.i x.j j7.ij j7.j e8
     dsimp only at HR;rw[<-hl,m9,n0] at HR;unfold tv Px at HR;replace HR:=Lib.hid HR;have y0:=q8.cell 0 rfl;have f4:=o5.cell 4 rfl;have f5:=o5.cell 5 rfl;have g0:=l9.c0;have g1:=l9.c1;have g2:=l9.c2;clear hl l4 l6 e8 m9 n0;unfold Qzd;dsimp only;go_wp2_with fail
     refine HR.out.mono ?_;rintro e v1 ⟨v,rfl,V,q6,r0,q0,p9⟩;have o2:=a7.step q6 r0 q0 p9;go_wp2_with fail
     go_ret2;exact⟨v,rfl,V,o2.done,o2.turn,q0,p9⟩
end
end
