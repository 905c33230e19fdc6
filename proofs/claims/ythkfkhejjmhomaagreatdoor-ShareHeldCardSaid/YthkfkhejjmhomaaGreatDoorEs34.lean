/- The code's edit: enough, of any node; plain facts of an exchange -/
import Derived.Test.YthkfkhejjmhomaaGreatDoorHaT
namespace Go.Proofs.YthkfkhejjmhomaaGreatDoor
open Go Go.RowKit Go.Proofs
set_option maxHeartbeats 8000000
set_option maxRecDepth 100000
section
variable {b:Nat}{w:World}{d p:Nat}{S0 S T:Nat->Prop}{D:DM}{P P':Pl}
theorem qqo (H:Qe b w d p S0 S T D P)(hb:1<b)(ht:Tab w)(hP:P.tidy)(s:Qs)(A:Option Addr)(n c:Nat)(B:Option Addr)(m dd:Nat)(hs:Jg (Turn S w) s.N A n c B m dd)(N:Nd)(J:Option Addr)(X c2:Nat)(M:Option Addr)(U Q:Nat)(hB:Jg (Turn S w) N J X c2 M U Q)(above:Qs)(A3:Option Addr)(n3 c3:Nat)(B3:Option Addr)(m3 d3:Nat)(hA:Ry (Turn S w) B3 m3 d3 above.N.kids)(hl:1<=above.N.lvl/\above.N.lvl<8)(I:above.next<=60)(a0:N.size<=20){x:Ri}(F:P.have_ D s N above=some (x,P')) :
  Calls Tryz.prog 190 #[tv p,Vb s A n c B m dd,Xo N.lvl J X c2 M U Q,Vb above A3 n3 c3 B3 m3 d3] w λe E=>∃K Z c5 O W R Y k,e=.returned (.tuple #[.agg (Xe x.N.lvl K Z c5 O W R Y k k (x.i:Int) (x.j:Int)).toArray,.int .i64 0])/\Jg (Turn S E) x.N K Z c5 O W R/\(∀u,Turn S E u->Vd (Turn S E) u Y k k x.olds)/\k<=2/\Qe b E d p S0 S T D P'/\Turn S w E/\Tab E:=by
 unfold Pl.have_ at F;by_cases f:Qr N.lvl<=N.size
 ·rw[if_pos f] at F;injection Option.some.inj F with e1 e2;subst e1 e2;refine (qn4 H ht s A n c B m dd hs N J X c2 M U Q hB above A3 n3 c3 B3 m3 d3 I f).mono ?_;rintro e E ⟨Y,rfl,h1,h2,G⟩;exact⟨J,X,c2,M,U,Q,Y,1,rfl,h1,h2,by omega,H.below G,Qu G,ht.below G ht.1⟩
 ·rw[if_neg f] at F;by_cases h0:0<above.next
  ·rw[if_pos h0] at F;obtain⟨P2,y,e⟩:=Option.map_eq_some_iff.1 F;injection e with e1 e2;subst e1 e2;unfold Pl.near at y;split at y
   ·rename_i hk;refine (qo2 H hb ht hP s A n c B m dd hs N J X c2 M U Q hB above A3 n3 c3 B3 m3 d3 hA hl I f a0 h0 hk y).mono ?_;rintro e E ⟨K,Z,c5,O,W,R,Y,rfl,h1,h2,G,h4,h5⟩;exact⟨K,Z,c5,O,W,R,Y,2,rfl,h1,h2,by omega,G,h4,h5⟩
   ·cases y
  ·rw[if_neg h0] at F;obtain⟨P2,y,e⟩:=Option.map_eq_some_iff.1 F;injection e with e1 e2;subst e1 e2;unfold Pl.near at y;split at y
   ·rename_i hk;refine (qo3 H hb ht hP s A n c B m dd hs N J X c2 M U Q hB above A3 n3 c3 B3 m3 d3 hA hl I f a0 h0 hk y).mono ?_;rintro e E ⟨K,Z,c5,O,W,R,Y,rfl,h1,h2,G,h4,h5⟩;exact⟨K,Z,c5,O,W,R,Y,2,rfl,h1,h2,by omega,G,h4,h5⟩
   ·cases y
theorem qqp {s above:Qs}{N:Nd}{x:Ri}(h:P.tidy)(m:P.have_ D s N above=some (x,P')):P'.tidy:=by
 have near:∀{i:Nat} {u:Pl},P.near D above i=some u->u.tidy:=λ{i u} f=>by
  unfold Pl.near at f;split at f
  ·exact h.Qv f
  ·cases f
 unfold Pl.have_ at m;split at m
 ·injection Option.some.inj m with A y;subst y;exact h
 ·split at m
  ·obtain⟨u,f,e⟩:=Option.map_eq_some_iff.1 m;injection e with A y;subst y;exact near f
  ·obtain⟨u,f,e⟩:=Option.map_eq_some_iff.1 m;injection e with A y;subst y;exact near f
end
def Vo:Qs->List Qs->Prop
 |_,[]=>True
 |s,t::way=>t.N.fit/\t.N.size<=12/\t.N.lvl=s.N.lvl+1/\t.N.lvl<8/\t.next+1<=t.N.size/\Vo t way
theorem qqq {N:Nd}(h:N.fit){i j:Nat}(e:i<=j):(N.cut 0 i).size+(N.cut j N.size).size<=N.size:=by
 obtain⟨h1,h2⟩:=h;unfold Nd.cut;by_cases h0:N.lvl=0
 ·rw[if_pos h0,if_pos h0];unfold Nd.size;simp only[h1 h0,List.length_nil,List.length_take,List.length_drop];omega
 ·rw[if_neg h0,if_neg h0];unfold Nd.size;simp only[h2 h0,List.length_nil,List.length_take,List.length_drop];omega
theorem qee {l:Int}{N M:Nd}(h:N.fit)(hm:M.fit)(m:N.lvl=l)(f:M.lvl=l):(⟨l,N.items++M.items,N.kids++M.kids⟩:Nd).fit:=by
 refine⟨λh0=>?_,λh0=>?_⟩
 ·have h0:l=0:=h0;show N.kids++M.kids=[];rw[h.1 (m.trans h0),hm.1 (f.trans h0)];rfl
 ·have h0:¬l=0:=h0;show N.items++M.items=[];rw[h.2 (λe=>h0 (m.symm.trans e)),hm.2 (λe=>h0 (f.symm.trans e))];rfl
theorem q9p {l:Int}{N M:Nd}:Zz l [N,M]=⟨l,N.items++M.items,N.kids++M.kids⟩:=by unfold Zz;simp
theorem qqr (N:Nd)(i j:Nat):(N.cut i j).lvl=N.lvl:=by unfold Nd.cut;split<;>rfl
theorem qxl {s:Qs}{f:Nd}{i j:Nat}(h:s.N.fit)(A:f.fit)(B:f.lvl=s.N.lvl)(m:i<=j):(Xr s i j f).fit/\(Xr s i j f).lvl=s.N.lvl/\(Xr s i j f).size<=s.N.size+f.size:=by
 have h1:=qqq h m;have u:=q8c h 0 i;have y:=q8c h j s.N.size;have E:=qqr s.N 0 i;have F:=qqr s.N j s.N.size;have e:Xr s i j f=⟨s.N.lvl,(s.N.cut 0 i).items++(f.items++(s.N.cut j s.N.size).items),(s.N.cut 0 i).kids++(f.kids++(s.N.cut j s.N.size).kids)⟩:=by unfold Xr Zz;simp
 rw[e];refine⟨qee u (qee A y B F) E rfl,rfl,?_⟩;unfold Nd.size at h1 ⊢;simp only[List.length_append];omega
structure Qb8 (x:Ri)(b:Nd)(above:Qs):Prop where
 fit:x.N.fit
 size:x.N.size<=b.size+12
 lvl:x.N.lvl=b.lvl
 ij:x.i<=x.j
 j:x.j<=above.N.size
theorem quj {P P':Pl}{D:DM}{s above:Qs}{b:Nd}{x:Ri}(I:∀a b,P.L a=some b->b.good)(E:b.fit)(_:above.N.fit)(K:above.N.lvl=b.lvl+1)(_:0<=b.lvl)(hn:above.next+1<=above.N.size)(h:P.have_ D s b above=some (x,P')):Qb8 x b above:=by
 have kid:∀i,P.Wi D above i=true->(P.Jf D above i).N.fit/\(P.Jf D above i).N.size<=12/\(P.Jf D above i).N.lvl=b.lvl/\i<above.N.size:=λi u=>by
  obtain⟨M,J,O⟩:=of_decide_eq_true u;have hm:=qln I _ J;refine⟨q1n hm,q62 hm,?_,by unfold Nd.size;omega⟩;show (P.Qa D (Qh above.N.kids i).a).lvl=_;omega
 unfold Pl.have_ at h;split at h
 ·injection Option.some.inj h with m F;subst m;exact⟨E,Nat.le_add_right _ _,rfl,Nat.le_succ _,hn⟩
 ·split at h
  ·rename_i h0;obtain⟨H,f,e⟩:=Option.map_eq_some_iff.1 h;injection e with m F;subst m;unfold Pl.near at f;split at f
   ·rename_i u;obtain⟨A,B,y,G⟩:=kid _ u;refine⟨?_,?_,y,?_,hn⟩
    ·dsimp only;rw[q9p];exact qee A E rfl y.symm
    ·dsimp only;rw[q9p];unfold Nd.size at B ⊢;simp only[List.length_append];omega
    ·dsimp only;omega
   ·cases f
  ·obtain⟨H,f,e⟩:=Option.map_eq_some_iff.1 h;injection e with m F;subst m;unfold Pl.near at f;split at f
   ·rename_i u;obtain⟨A,B,y,G⟩:=kid _ u;refine⟨?_,?_,rfl,?_,G⟩
    ·dsimp only;rw[q9p];exact qee E A rfl y
    ·dsimp only;rw[q9p];unfold Nd.size at B ⊢;simp only[List.length_append];omega
    ·dsimp only;omega
   ·cases f
theorem q4g:∀(olds:List Qs) (P:Pl) (m:List Nd) (y:List Qm) {P':Pl} {f:List Nd} {u:List Qm},Gh olds P m y=some (P',f,u)->u.length+f.length=y.length+m.length
 |[],P,m,y,P',f,u,h=>by
  injection Option.some.inj h with H B;injection B with B F;rw[<-B,<-F]
 |s::olds,P,[],y,P',f,u,h=>by
  obtain⟨A,_,h2⟩:=qaw h;exact q4g olds A [] y h2
 |s::olds,P,b::m,y,P',f,u,h=>by
  by_cases E:s.shared=true\/P.C.fresh s.addr=false
  ·obtain⟨A,_,h2⟩:=q4e E h;exact q4g olds A (b::m) y h2
  ·have h1:s.shared=false:=by
    cases e:s.shared with
    |false=>rfl
    |true=>exact absurd (.inl e) E
   have h2:P.C.fresh s.addr=true:=by
    cases e:P.C.fresh s.addr with
    |true=>rfl
    |false=>exact absurd (.inr e) E
   obtain⟨_,G⟩:=qax h1 h2 h;have:=q4g olds _ m _ G;rw[List.length_append] at this;simp at this ⊢;omega
theorem qcs:∀(e:List Nd) (P:Pl) (m:List Qm) {P':Pl} {f:List Qm},J8 e P m=some (P',some f)->f.length=m.length+e.length
 |[],P,m,P',f,h=>by
  injection Option.some.inj h with y u;rw[<-Option.some.inj u];rfl
 |b::e,P,m,P',f,h=>by
  rcases qay h with⟨_,h2⟩|⟨_,h2⟩
  ·have:=qcs e _ _ h2;rw[List.length_append] at this;simp at this ⊢;omega
  ·injection h2 with _ h2
   cases h2
theorem qn5 {N:Nd}(h:N.size<=31):(pieces N).length<=7:=by
 unfold pieces;rw[List.length_map,List.length_range];unfold parts;have h1:6<=Qq N.lvl:=by unfold Qq;split<;>omega
 have h2:N.size+Qq N.lvl-1<8*Qq N.lvl:=by omega
 have:=Nat.div_lt_of_lt_mul (m:=N.size+Qq N.lvl-1) (n:=Qq N.lvl) (k:=8) (by rw[Nat.mul_comm];exact h2);omega
theorem qxm {P P':Pl}{x:Ri}{ks:List Qm}(h:P.Y1 x=some (P',some ks)):ks.length=(pieces x.N).length:=by
 unfold Pl.Y1 at h;split at h
 ·rename_i u f m e;have h1:=q4g _ _ _ _ e;have h2:=qcs _ _ _ h;simp at h1;omega
 ·cases h
theorem qgd {D:DM}{above:Qs}{way:List Qs}{P P':Pl}{s:Qs}{i j:Nat}{e:Nd}{r:Option Int}(h:Y8 D (above::way) P s i j e=some (P',r)) :
  ∃m x u f A,P.Qv s i j=some m/\m.have_ D s (Xr s i j e) above=some (x,u)/\u.Y1 x=some (f,A)/\((A=none/\f=P'/\r=none)\/∃y,A=some y/\Y8 D way f above x.i x.j ⟨x.N.lvl+1,[],y⟩=some (P',r)):=by
 have h:(match P.Qv s i j with
  |some m=>match m.have_ D s (Xr s i j e) above with
   |some (x,u)=>match u.Y1 x with
    |some (f,some y)=>Y8 D way f above x.i x.j ⟨x.N.lvl+1,[],y⟩
    |some (f,none)=>some (f,none)
    |none=>none
   |none=>none
  |none=>none)=some (P',r):=h
 cases h1:P.Qv s i j with
 |none=>rw[h1] at h;cases h
 |some m=>
  rw[h1] at h;dsimp only at h
  cases h2:m.have_ D s (Xr s i j e) above with
  |none=>rw[h2] at h;cases h
  |some q=>
   obtain⟨x,u⟩:=q;rw[h2] at h;dsimp only at h
   cases B:u.Y1 x with
   |none=>rw[B] at h;cases h
   |some q=>
    obtain⟨f,A⟩:=q;rw[B] at h;refine⟨m,x,u,f,A,rfl,h2,B,?_⟩
    cases A with
    |none=>
     injection Option.some.inj h with E F;exact .inl ⟨rfl,E,F.symm⟩
    |some y=>exact .inr ⟨y,rfl,h⟩
theorem qkr {D:DM}{P P':Pl}{s:Qs}{i j:Nat}{e:Nd}{r:Option Int}(h:Y8 D [] P s i j e=some (P',r)):∃f,P.Qv s i j=some f/\f.top s (Xr s i j e)=some (P',r):=by
 have h:(match P.Qv s i j with|some f=>f.top s (Xr s i j e)|none=>none)=some (P',r):=h
 cases h1:P.Qv s i j with
 |none=>rw[h1] at h;cases h
 |some f=>rw[h1] at h;exact⟨f,rfl,h⟩
theorem q3o (l:List Qs)(s:Qs):Yx (l++[s]) l.length=s:=by simp[Yx]
section
def stB (p v:Value):Sem Unit:=Instr.storeAt 178 p v
theorem quk (p v:Value):Instr.storeAt 178 p v=stB p v:=rfl
theorem qiv {w:World}{b:Nat}{l:Int}{A:Option Addr}{n c:Nat}{B:Option Addr}{m d:Nat}(H:NB w b l A n c B m d)(y:Int)(e:Option Addr)(F c2:Nat)(f:Option Addr)(E u:Nat) :
  (stB (.pointer (some ⟨b,0,none⟩)) (.agg #[.int .i64 y,.slice e F c2,.slice f E u])).run Tryz.prog w=.ok () (w.setCells b 0 [.int .i64 y,.slice e F c2,.slice f E u]):=
 run_storeAt_mid w b 0 178 #[.int .i64 y,.slice e F c2,.slice f E u] H.there (by kernel_rfl) (by simp[Value.oneCell'])
abbrev Ai:Obj:=.cells #[.int .i64 0,.slice none 0 0,.slice none 0 0] 178
theorem q50 (w:World):NB (w.alloc Ai) w.1.size 0 none 0 0 none 0 0:=NB.new w 0 none 0 0 none 0 0 178
attribute [local go_sem ↓] qe5
attribute [local go_sem ↓] quk
section
variable {b:Nat}{d p:Nat}{S0 S:Nat->Prop}{D:DM}
def Gq (b:Nat)(d p:Nat)(S0 S T:Nat->Prop)(D:DM)(w:World)(P':Pl)(r:Option Int)(e:Ending)(w':World):Prop:=∃v,e=.returned (.tuple #[.int .i64 v,.int .i64 (Qb3 r)])/\(∀a,r=some a->v=a)/\Qe b w' d p S0 S T D P'/\Turn S w w'/\Tab w'/\P'.tidy
theorem Ar.good {b:Nat}{w0 w:World}{d p:Nat}{S0 S T T':Nat->Prop}{D:DM}{P:Pl}(h:Ar b w0 w d p S0 S T T' D P):∀a b,P.L a=some b->b.good:=by
 obtain⟨m,c,l,k,v,e,L⟩:=h.sys.pool;exact L.good
theorem qct {w:World}{T:Nat->Prop}{P P1:Pl}(H:Qe b w d p S0 S T D P)(hb:1<b)(ht:Tab w)(hP:P.tidy)(s:Qs)(way:List Qs)(g7:s.N.fit)(o9:s.N.size<=12)(k2:0<=s.N.lvl/\s.N.lvl<8)(X:Option Addr)(n c:Nat)(hX:∀u,Turn S w u->Vd (Turn S w) u X n c (way.reverse++[s]))(hn:n<=20)
  (y:Nd) (r4:y.fit) (r0:y.size<=7) (g5:y.lvl=s.N.lvl) (A2:Option Addr) (n2 c2:Nat) (B2:Option Addr) (m2 d2:Nat) (hB:Jg (Turn S w) y A2 n2 c2 B2 m2 d2) (i j:Nat) (hi:i<=j) (hj:j<=s.N.size) {P':Pl} {r:Option Int} (g6:Y8 D way P s i j y=some (P',r)) (a5:P.Qv s i j=some P1) (s2:Hid (Vo s way))
  (a4:∀(t:Qs) (e7:List Qs),way=t::e7->∀{T2:Nat->Prop} {w2:World} {P3:Pl} (_:Qe b w2 d p S0 S T2 D P3) (_:Tab w2) (_:P3.tidy) (_:t.N.fit) (_:t.N.size<=12) (_:0<=t.N.lvl/\t.N.lvl<8) (_:Hid (Vo t e7)) (_:∀u,Turn S w2 u->Vd (Turn S w2) u X (n-1) c (e7.reverse++[t])) (a0:Nd) (_:a0.fit) (_:a0.size<=7) (_:a0.lvl=t.N.lvl) (A:Option Addr) (n' c':Nat) (B:Option Addr) (m' d':Nat) (_:Jg (Turn S w2) a0 A n' c' B m' d') (i j:Nat) (_:i<=j) (_:j<=t.N.size) (_:Y8 D e7 P3 t i j a0=some (P',r)),Calls Tryz.prog 110 #[tv p,.slice X (n-1) c,.int .i64 (i:Int),.int .i64 (j:Int),Xo a0.lvl A n' c' B m' d'] w2 (Gq b d p S0 S T2 D w2 P' r)) :
  Calls Tryz.prog 110 #[tv p,.slice X n c,.int .i64 (i:Int),.int .i64 (j:Int),Xo y.lvl A2 n2 c2 B2 m2 d2] w (Gq b d p S0 S T D w P' r):=by
 rw[g5];replace g5:=Lib.hid g5;replace g6:=Lib.hid g6;have hS:=H.low;have d9:=(hX w (Turn.refl _ _)).len;have s8:=(hX w (Turn.refl _ _)).cap;rw[List.length_append,List.length_reverse] at d9;have d9:way.length+1=n:=d9;obtain⟨m,hm⟩:∃m,n-1=m:=⟨_,rfl⟩;rw[hm] at a4;replace a4:=Lib.hid a4;have j9:way.length=m:=by omega
 have Z:=λ(u:World) (hu:Turn S w u)=>qg7 (hX u hu) (by omega) (by omega)
 have a9:Yx (way.reverse++[s]) (n-1)=s:=by
  have:=q3o way.reverse s;rw[List.length_reverse,j9] at this;rw[hm];exact this
 rw[a9] at Z;have i5:∀u,Below w.1.size w u->Turn S w u:=λu hu=>Qu hu
 obtain⟨f,ad,nx,hd,sh⟩:=s;unfold Vb at Z;dsimp only at g7 o9 k2 g5 hj Z ⊢;replace Z:=Lib.hid Z;have b1:Below w.1.size w ((w.alloc (.cells #[.pointer (some ⟨p,0,none⟩)] 173)).alloc (.cells #[.int .i64 f.lvl,.slice A2 n2 c2,.slice B2 m2 d2] 178)):=(Qn).alloc (by simp) _;have T1:RB ((w.alloc (.cells #[.pointer (some ⟨p,0,none⟩)] 173)).alloc (.cells #[.int .i64 f.lvl,.slice A2 n2 c2,.slice B2 m2 d2] 178)) w.1.size [.pointer (some ⟨p,0,none⟩)]:=(RB.new w [.pointer (some ⟨p,0,none⟩)] 173).below (Qn) (by simp);have N1:NB ((w.alloc (.cells #[.pointer (some ⟨p,0,none⟩)] 173)).alloc (.cells #[.int .i64 f.lvl,.slice A2 n2 c2,.slice B2 m2 d2] 178)) (w.1.size+1) f.lvl A2 n2 c2 B2 m2 d2:=NB.new2 w _ _ _ _ _ _ _ _ _;have hw:IntKind.i64.wrap ((n:Int)-1)=(m:Int):=by rw[show (n:Int)-1=(m:Int) by omega];exact IntWalk.i64_in _ (by omega)
 have t3:(0:Int)<=(m:Int):=by omega
 have t5:(m:Int)<=(c:Int):=by omega
 clear hm d9 a9;unfold tv Xo;go_enter Tryz.func110,Tryz.ntmps110
 go_wp2_with fail
 generalize ((w.alloc (.cells #[.pointer (some ⟨p,0,none⟩)] 173)).alloc (.cells #[.int .i64 f.lvl,.slice A2 n2 c2,.slice B2 m2 d2] 178))=w1 at b1 T1 N1 ⊢;have z1:=N1.lt;have z0:=b1.size;have bD:Below w1.1.size w1 w1.drew:=(Below.refl _ _).drew;have bA:Below w1.1.size w1 (w1.alloc Ud).drew:=(Qn).drew;have QA:RB (w1.alloc Ud).drew w1.1.size (Jc 0 none 0 0 none 0 0 0 0 false false):=Ig w1;have hK:∀u:World,Below w1.1.size w1 u->True:=λ_ _=>trivial
 replace i5:=Lib.hid i5;go_cut [1,12] from 19 to 25 (λx q wx=>∃(qb:Nat) (A:Option Addr) (n' c':Nat) (B:Option Addr) (mm dd:Nat),x=.slice X m c/\q=.pointer (some ⟨qb,0,none⟩)/\w1.1.size<=qb/\RB wx qb (Jc f.lvl A n' c' B mm dd ad (nx:Int) hd sh)/\Jg (Turn S wx) f A n' c' B mm dd/\Below w1.1.size w1 wx)
 case first=>
  go_region_held3 (λ_=>True)
   (first|(with_reducible assumption)|exact trivial)
   (first
    |(go_at_call 109;(with_reducible refine (Z.out w1.drew (i5.out _ (b1.trans (bD.mono b1.size)))).mono ?_);rintro e w3 ⟨A3,n3,c3,B3,m3,d3,rfl,l6,g4⟩;have a6:Below w1.1.size w1 w3:=bD.trans g4;have i4:=a6.alloc a6.size Ud;obtain⟨a9,RQ,TQ,BQ⟩:=qe6 i4 a6.size (Ig w3) rfl f.lvl A3 n3 c3 B3 m3 d3 ad (nx:Int) hd sh;have HX:=Lib.hid (And.intro RQ (And.intro TQ (And.intro BQ (And.intro i4 a6))));clear RQ TQ BQ i4 g4)
    |(go_at_call 109;(with_reducible refine (Z.out (w1.alloc Ud).drew (i5.out _ (b1.trans (bA.mono b1.size)))).mono ?_);rintro e w3 ⟨A3,n3,c3,B3,m3,d3,rfl,l6,g4⟩;have a6:Below w1.1.size w1 w3:=bA.trans (g4.mono bA.size);obtain⟨a9,RQ,TQ,BQ⟩:=qe6 a6 (Nat.le_refl _) (QA.below g4 QA.lt) rfl f.lvl A3 n3 c3 B3 m3 d3 ad (nx:Int) hd sh;have HX:=Lib.hid (And.intro RQ (And.intro TQ (And.intro BQ (And.intro a6 a6))));clear RQ TQ BQ g4)
    |fail)
  ·obtain⟨RQ,TQ,BQ,i4,_⟩:=HX.out;go_wp2_with fail
   go_meet
   exact⟨w3.1.size,A3,n3,c3,B3,m3,d3,rfl,rfl,a6.size,RQ,l6.mono λv hv=>(Qu (S:=S) (b1.trans (BQ.mono b1.size))).trans hv λk hk=>.inl hk,BQ⟩
  ·obtain⟨RQ,TQ,BQ,i4,_⟩:=HX.out;go_wp2_with fail
   go_meet
   exact⟨w1.1.size,A3,n3,c3,B3,m3,d3,rfl,rfl,Nat.le_refl _,RQ,l6.mono λv hv=>(Qu (S:=S) (b1.trans (BQ.mono b1.size))).trans hv λk hk=>.inl hk,BQ⟩
 case rest=>
  obtain⟨qb,A,n',c',B,mm,dd,rfl,rfl,t9,RQ,c9,BQ⟩:=hcut;have j8:f.size<=20:=by omega
  have k1:=c9.hn;have k0:=c9.hm;have i8:=c9.size;have r5:=qau c9 g7 hj;have L0:=((Ar.start H hb ht hP).below b1).below BQ;have TC:=T1.below BQ T1.lt;have NC:=N1.below BQ N1.lt;have zq:=BQ.size;have Hr:=q94 L0.sys hb L0.tab ⟨f,ad,nx,hd,sh⟩ g7 A n' c' B mm dd c9 i j hi hj j8 a5;unfold tv Vb at Hr;dsimp only at Hr;replace Hr:=Lib.hid Hr;have y0:=TC.cell 0 rfl;have f0:=RQ.cell 0 rfl;have f1:=RQ.cell 1 rfl;have f2:=RQ.cell 2 rfl;have f3:=RQ.cell 3 rfl;have f4:=RQ.cell 4 rfl;have f5:=RQ.cell 5 rfl;have f6:=RQ.cell 6 rfl;clear i5 hK QA bA bD Z;go_wp2_with fail
  refine Hr.out.mono ?_;rintro e I ⟨rfl,H4,X4,t4⟩;have L4:=L0.step H4 X4 t4 (hP.Qv a5);have z4:=X4.size;have R4:=RQ.turned X4 (λh=>by have:=hS _ h;omega);have T4:=TC.turned X4 (λh=>by have:=hS _ h;omega);have N4:=NC.turned X4 (λh=>by have:=hS _ h;omega);have TW:Turn S w I:=(Qu (S:=S) (b1.trans (BQ.mono b1.size))).then X4;have o3:Jg (Turn S I) y A2 n2 c2 B2 m2 d2:=hB.mono λv hv=>TW.then hv
  have g8:Jg (Turn S I) f A n' c' B mm dd:=c9.mono λv hv=>X4.then hv
  clear y0 f0 f1 f2 f3 f4 f5 f6 Hr TC NC RQ c9;go_wp2_with fail
  obtain⟨A6,n6,c6,B6,m6,d6,e1,q1,l1⟩:=q89 g8 (i:=0) (j:=i) (Nat.zero_le _) (by omega);obtain⟨A7,n7,c7,B7,m7,d7,e2,q2,l2⟩:=q89 g8 (i:=j) (j:=f.size) (by omega) (qau g8 g7 (Nat.le_refl _));have b0:=λu=>q3n f.lvl A n' c' B mm dd 0 i (Nat.zero_le _) (by omega) ⟨k1.2.1,k1.2.2⟩ ⟨k0.2.1,k0.2.2⟩ u
  have f7:=λu=>q3n f.lvl A n' c' B mm dd j f.size (by omega) (qau g8 g7 (Nat.le_refl _)) ⟨k1.2.1,k1.2.2⟩ ⟨k0.2.1,k0.2.2⟩ u
  have HS:=λu=>q1z f.lvl A n' c' B mm dd (by omega) (by omega) u
  rw[e1] at b0;rw[show ((0:Nat):Int)=0 from rfl] at b0;rw[e2] at f7;rw[<-i8] at HS;unfold Xo at b0 f7 HS;replace b0:=Lib.hid b0;replace f7:=Lib.hid f7;replace HS:=Lib.hid HS;clear e1 e2 r5 i8;have a8:=λu=>qqa (Q:=Turn S I) u 178 q1 o3 q2
  rw[l1,l2,g5.out] at a8;have d4:∀u:World,G5 (Turn S I) ((u.alloc Ai).alloc (.cells #[.int .i64 f.lvl,.slice A6 n6 c6,.slice B6 m6 d6,.int .i64 f.lvl,.slice A2 n2 c2,.slice B2 m2 d2,.int .i64 f.lvl,.slice A7 n7 c7,.slice B7 m7 d7] 178)) (some ⟨u.1.size+1,0,none⟩) 3 3 [f.cut 0 i,y,f.cut j f.size]:=λu=>by
   have:=a8 (u.alloc Ai);rwa [World.size_alloc] at this
  replace a8:=Lib.hid a8;replace d4:=Lib.hid d4;have s9:y.items.length<=7/\y.kids.length<=7:=by unfold Nd.size at r0;omega
  have t1:f.items.length<=12/\f.kids.length<=12:=by unfold Nd.size at o9;omega
  have k5:∀k,S k->k<I.1.size:=λk hk=>by have:=hS k hk;omega
  have Hj:∀(S':Nat->Prop) (_:∀k,S' k->S k\/I.1.size<=k) (u:World) (_:∀k,S' k->k<u.1.size) (_:Below I.1.size I u) (X:Option Addr) (_:G5 (Turn S I) u X 3 3 [f.cut 0 i,y,f.cut j f.size]),Calls Tryz.prog 186 #[.slice X 3 3] u λe W=>∃A n c B m d,e=.returned (Xo f.lvl A n c B m d)/\Jg (Turn S' W) (Xr ⟨f,ad,nx,hd,sh⟩ i j y) A n c B m d/\Below u.1.size u W:=λS' q6 u q7 hu X hX=>
   q4a (S:=S') (w:=u) q7 [f.cut 0 i,y,f.cut j f.size] f.lvl l1 X 3 3 (by
    obtain⟨s4,r1,r2,r3⟩:=hX;exact⟨s4,r1,r2,λj r M hr hM=>by
     obtain⟨A',n',c',B',m',d',e',hq⟩:=r3 j r M hr hM;exact⟨A',n',c',B',m',d',e',hq.mono λv hv=>(Qu (S:=S) hu).trans hv q6⟩⟩) (by omega) (by omega)
    (by have h1:=q2d f 0 i;have h2:=q2d f j f.size;simp only[List.flatMap_cons,List.flatMap_nil,List.length_append,List.length_nil];omega)
    (by have h1:=q2d f 0 i;have h2:=q2d f j f.size;simp only[List.flatMap_cons,List.flatMap_nil,List.length_append,List.length_nil];omega)
  have u4:=R4.lt;have zn:=N4.lt;have cB:∀u,Below I.1.size I u->u.cell? ⟨qb,0,none⟩=some (.int .i64 f.lvl)/\u.cell? ⟨qb,1,none⟩=some (.slice A n' c')/\u.cell? ⟨qb,2,none⟩=some (.slice B mm dd)/\u.cell? ⟨w.1.size+1,0,none⟩=some (.int .i64 f.lvl)/\u.cell? ⟨w.1.size+1,1,none⟩=some (.slice A2 n2 c2)/\u.cell? ⟨w.1.size+1,2,none⟩=some (.slice B2 m2 d2):=λu hu=>
   have s1:=R4.below hu R4.lt;have n1:=N4.below hu N4.lt;⟨s1.cell 0 rfl,s1.cell 1 rfl,s1.cell 2 rfl,n1.c0,n1.c1,n1.c2⟩
  have f8:∀(u:World) (_:Below I.1.size I u) (q:Nat) (_:I.1.size<=q/\NB u q 0 none 0 0 none 0 0) (X:Option Addr) (_:G5 (Turn S I) u X 3 3 [f.cut 0 i,y,f.cut j f.size]),Calls Tryz.prog 186 #[.slice X 3 3] u λe W=>∃J U c5 K R O,e=.returned (.agg #[.int .i64 f.lvl,.slice J U c5,.slice K R O])/\Below I.1.size I W/\(stB (.pointer (some ⟨q,0,none⟩)) (.agg #[.int .i64 f.lvl,.slice J U c5,.slice K R O])).run Tryz.prog W=.ok () (W.setCells q 0 [.int .i64 f.lvl,.slice J U c5,.slice K R O])/\(NB (W.setCells q 0 [.int .i64 f.lvl,.slice J U c5,.slice K R O]) (q) f.lvl J U c5 K R O/\Jg (Turn S (W.setCells q 0 [.int .i64 f.lvl,.slice J U c5,.slice K R O])) (Xr ⟨f,ad,nx,hd,sh⟩ i j y) J U c5 K R O/\Below I.1.size I (W.setCells q 0 [.int .i64 f.lvl,.slice J U c5,.slice K R O])):=by
   intro u hu q hq X hX;refine (Hj (λk=>S k\/k=q) (λk hk=>hk.elim .inl λh=>.inr (by omega)) u (λk hk=>hk.elim (λh=>by have:=k5 k h;have:=hu.size;omega) λh=>by rw[h];exact hq.2.lt) hu X hX).mono ?_;rintro e W ⟨J,U,c5,K,R,O,rfl,h1,h2⟩;have hz:=hq.2.below h2 hq.2.lt;have b5:=hu.trans (h2.mono hu.size);have T8:Turn (λk=>k=q) W (W.setCells q 0 [.int .i64 f.lvl,.slice J U c5,.slice K R O]):=Um (S:=λk=>k=q) rfl _ 0 W;exact⟨J,U,c5,K,R,O,rfl,b5,qiv hz f.lvl J U c5 K R O,hz.stored f.lvl J U c5 K R O,h1.mono λv hv=>(T8.mono λk hk=>.inr hk).then (hv.mono λk hk=>.inl hk),b5.trans (T8.below (λk hk=>by have:k=q:=hk;omega) b5.size)⟩
  have i9:∀(u:World) (_:Below I.1.size I u) (X:Option Addr) (_:G5 (Turn S I) u X 3 3 [f.cut 0 i,y,f.cut j f.size]),Calls Tryz.prog 186 #[.slice X 3 3] u λe W=>∃J U c5 K R O,e=.returned (.agg #[.int .i64 f.lvl,.slice J U c5,.slice K R O])/\Below I.1.size I W/\(stB (.pointer (some ⟨W.1.size,0,none⟩)) (.agg #[.int .i64 f.lvl,.slice J U c5,.slice K R O])).run Tryz.prog (W.alloc Ai)=.ok () ((W.alloc Ai).setCells W.1.size 0 [.int .i64 f.lvl,.slice J U c5,.slice K R O])/\(NB ((W.alloc Ai).setCells W.1.size 0 [.int .i64 f.lvl,.slice J U c5,.slice K R O]) (W.1.size) f.lvl J U c5 K R O/\Jg (Turn S ((W.alloc Ai).setCells W.1.size 0 [.int .i64 f.lvl,.slice J U c5,.slice K R O])) (Xr ⟨f,ad,nx,hd,sh⟩ i j y) J U c5 K R O/\Below I.1.size I ((W.alloc Ai).setCells W.1.size 0 [.int .i64 f.lvl,.slice J U c5,.slice K R O])):=by
   intro u hu X hX;refine (Hj S (λk hk=>.inl hk) u (λk hk=>by have:=k5 k hk;have:=hu.size;omega) hu X hX).mono ?_;rintro e W ⟨J,U,c5,K,R,O,rfl,h1,h2⟩;have hz:=q50 W;have b5:=hu.trans (h2.mono hu.size);have T8:Turn (λk=>k=W.1.size) (W.alloc Ai) ((W.alloc Ai).setCells W.1.size 0 [.int .i64 f.lvl,.slice J U c5,.slice K R O]):=Um (S:=λk=>k=W.1.size) rfl _ 0 _;have o5:Below W.1.size W ((W.alloc Ai).setCells W.1.size 0 [.int .i64 f.lvl,.slice J U c5,.slice K R O]):=((Below.refl _ _).alloc (Nat.le_refl _) Ai).trans (T8.below (λk hk=>by have:k=W.1.size:=hk;omega) (by simp));exact⟨J,U,c5,K,R,O,rfl,b5,qiv hz f.lvl J U c5 K R O,hz.stored f.lvl J U c5 K R O,h1.mono λv hv=>(Qu (S:=S) o5).then hv,b5.trans (o5.mono b5.size)⟩
  have E:Below I.1.size I I.drew:=(Below.refl _ _).drew;have bA:Below I.1.size I (I.alloc Ai).drew:=(Qn).drew;have zA:NB (I.alloc Ai).drew I.1.size 0 none 0 0 none 0 0:=q50 I;replace cB:=Lib.hid cB;replace f8:=Lib.hid f8;replace i9:=Lib.hid i9;replace zA:=Lib.hid zA;have n4:=Lib.hid L4;have k8:=Lib.hid g8;clear Hj hB o3 g8 q1 q2 L0 L4;go_cut [14] from 34 to 47 (λq wx=>∃(qz:Nat) (J:Option Addr) (U c5:Nat) (K:Option Addr) (R O:Nat),q=.pointer (some ⟨qz,0,none⟩)/\I.1.size<=qz/\NB wx qz f.lvl J U c5 K R O/\Jg (Turn S wx) (Xr ⟨f,ad,nx,hd,sh⟩ i j y) J U c5 K R O/\Below I.1.size I wx)
  case first=>
   go_region_held3 (λu=>u.cell? ⟨qb,0,none⟩=some (.int .i64 f.lvl)/\u.cell? ⟨qb,1,none⟩=some (.slice A n' c')/\u.cell? ⟨qb,2,none⟩=some (.slice B mm dd)/\u.cell? ⟨w.1.size+1,0,none⟩=some (.int .i64 f.lvl)/\u.cell? ⟨w.1.size+1,1,none⟩=some (.slice A2 n2 c2)/\u.cell? ⟨w.1.size+1,2,none⟩=some (.slice B2 m2 d2))
    (first|(with_reducible assumption)|(with_reducible exact cB.out _ E)|(with_reducible exact cB.out _ bA)|(with_reducible exact cB.out _ (E.alloc E.size _))|(with_reducible exact cB.out _ ((E.alloc E.size _).alloc (E.alloc E.size _).size _))|(with_reducible exact cB.out _ hF.out.2.2.2))
    (first
     |(go_at_call 187;(with_reducible refine (b0.out _).mono ?_);rintro e wX ⟨rfl,G⟩;(first|(have F:=a2.out;replace a2:=Lib.hid (And.intro F.1 (F.2.below G F.2.lt));clear F;replace E:=E.trans (G.mono E.size))|(have a2:=Lib.hid (And.intro E.size ((q50 _).below G (by simp)));replace E:=(E.alloc E.size Ai).trans (G.mono (E.alloc E.size Ai).size))|(have a2:=Lib.hid (And.intro (Nat.le_refl I.1.size) (zA.out.below G zA.out.lt));replace E:=bA.trans (G.mono bA.size))|(replace E:=E.trans (G.mono E.size)));clear G)
     |(go_at_call 187;(with_reducible refine (f7.out _).mono ?_);rintro e wX ⟨rfl,G⟩;(first|(have F:=a2.out;replace a2:=Lib.hid (And.intro F.1 (F.2.below G F.2.lt));clear F;replace E:=E.trans (G.mono E.size))|(have a2:=Lib.hid (And.intro E.size ((q50 _).below G (by simp)));replace E:=(E.alloc E.size Ai).trans (G.mono (E.alloc E.size Ai).size))|(have a2:=Lib.hid (And.intro (Nat.le_refl I.1.size) (zA.out.below G zA.out.lt));replace E:=bA.trans (G.mono bA.size))|(replace E:=E.trans (G.mono E.size)));clear G)
     |(go_at_call 188;(with_reducible refine (HS.out _).mono ?_);rintro e wX ⟨rfl,G⟩;(first|(have F:=a2.out;replace a2:=Lib.hid (And.intro F.1 (F.2.below G F.2.lt));clear F;replace E:=E.trans (G.mono E.size))|(have a2:=Lib.hid (And.intro E.size ((q50 _).below G (by simp)));replace E:=(E.alloc E.size Ai).trans (G.mono (E.alloc E.size Ai).size))|(have a2:=Lib.hid (And.intro (Nat.le_refl I.1.size) (zA.out.below G zA.out.lt));replace E:=bA.trans (G.mono bA.size))|(replace E:=E.trans (G.mono E.size)));clear G)
     |(go_at_call 186;have F:=a2.out;(with_reducible refine (f8.out _ (E.alloc E.size _) _ (And.intro F.1 (F.2.below (Qn) F.2.lt)) _ (a8.out _)).mono ?_);rintro e wJ ⟨J,U,c5,K,R,O,rfl,bJ,a9,hF⟩;replace E:=bJ;replace hF:=Lib.hid (And.intro F.1 hF);clear bJ)
     |(go_at_call 186;(with_reducible refine (i9.out _ (E.alloc E.size _) _ (a8.out _)).mono ?_);rintro e wJ ⟨J,U,c5,K,R,O,rfl,bJ,a9,hF⟩;replace E:=bJ;replace hF:=Lib.hid (And.intro bJ.size hF);clear bJ)
     |(go_at_call 186;(with_reducible refine (f8.out _ ((E.alloc E.size _).alloc (E.alloc E.size _).size _) _ (And.intro (Nat.le_succ_of_le E.size) (NB.new2 _ _ 0 none 0 0 none 0 0 178)) _ ((a8.out _).below (Qn))).mono ?_);rintro e wJ ⟨J,U,c5,K,R,O,rfl,bJ,a9,hF⟩;have hz:=E.size;replace hF:=Lib.hid (And.intro (Nat.le_succ_of_le hz) hF);replace E:=bJ;clear bJ)
     |(go_at_call 186;(with_reducible refine (f8.out _ ((E.alloc E.size _).alloc (E.alloc E.size _).size _) _ (And.intro E.size ((q50 _).below (Qn) (by simp))) _ (d4.out _)).mono ?_);rintro e wJ ⟨J,U,c5,K,R,O,rfl,bJ,a9,hF⟩;have hz:=E.size;replace hF:=Lib.hid (And.intro hz hF);replace E:=bJ;clear bJ)
     |fail)
   all_goals (go_wp2_with fail;go_meet;exact⟨_,_,_,_,_,_,_,rfl,hF.out.1,hF.out.2.1,hF.out.2.2.1,hF.out.2.2.2⟩)
  case rest=>
   obtain⟨qz,J,U,c5,K,R,O,rfl,u0,NZ,o7,BZ⟩:=hcut;have L5:=n4.out.below BZ;have T5:=T4.below BZ T4.lt;have R5:=R4.below BZ R4.lt;have o8:Jg (Turn S wc) f A n' c' B mm dd:=k8.out.mono λv hv=>(Qu (S:=S) BZ).then hv
   have TZ:Turn S w wc:=TW.trans (Qu (S:=S) BZ) λk hk=>.inl hk
   have zz:=BZ.size;have u5:=NZ.lt;obtain⟨p1,a7,p2⟩:=qxl (s:=⟨f,ad,nx,hd,sh⟩) g7 r4 g5.out hi;have p2:(Xr ⟨f,ad,nx,hd,sh⟩ i j y).size<=f.size+y.size:=p2;have a7:(Xr ⟨f,ad,nx,hd,sh⟩ i j y).lvl=f.lvl:=a7;have y0:=T5.cell 0 rfl;have f0:=R5.cell 0 rfl;have f1:=R5.cell 1 rfl;have f2:=R5.cell 2 rfl;have f3:=R5.cell 3 rfl;have f4:=R5.cell 4 rfl;have f5:=R5.cell 5 rfl;have f6:=R5.cell 6 rfl;have g0:=NZ.c0;have g1:=NZ.c1;have g2:=NZ.c2;clear E bA zA b0 f7 HS a8 d4 f8 i9 cB n4 k8
   cases way with
   |nil=>
    obtain⟨l5,i7,l3⟩:=qkr g6.out;obtain rfl:P1=l5:=Option.some.inj (a5.symm.trans i7);have Ht:=qug L5.sys hb L5.tab L5.tidy ⟨f,ad,nx,hd,sh⟩ A n' c' B mm dd o8 (Xr ⟨f,ad,nx,hd,sh⟩ i j y) J U c5 K R O o7 p1 (by omega) (by rw[a7];exact k2) l3;rw[a7] at Ht;unfold tv Vb Xo at Ht;dsimp only at Ht;replace Ht:=Lib.hid Ht;obtain rfl:m=0:=j9.symm;clear l3 i7 a5 g6;go_wp2_with fail
    refine Ht.out.mono ?_;rintro e w6 ⟨v,rfl,hv,H6,X6,t6,p6⟩;have L6:=L5.step H6 X6 t6 p6;have TF:=TZ.then X6;go_wp2_with fail
    go_ret2;exact⟨v,rfl,hv,L6.done,TF,t6,p6⟩
   |cons t way=>
    obtain⟨l5,x,P2,P3,r2,i7,b8,k6,l7⟩:=qgd g6.out;obtain rfl:P1=l5:=Option.some.inj (a5.symm.trans i7);obtain⟨m0,p5,k4,m1,p7,s7⟩:=s2.out;have o4:∀u,Turn S w u->Vd (Turn S w) u X m c (way.reverse++[t]):=λu hu=>by
     have:=(hX u hu).take (show m<=n by omega);have e:((t::way).reverse++[(⟨f,ad,nx,hd,sh⟩:Qs)]).take m=way.reverse++[t]:=by
      have o6:(way.reverse++[t]).length=m:=by rw[<-j9];simp
      rw[List.reverse_cons,<-o6,List.take_left]
     rwa [e] at this
    have t0:way.length+1=m:=j9;have l0:Yx (way.reverse++[t]) (m-1)=t:=by
     have:=q3o way.reverse t;rw[List.length_reverse] at this;rw[show m-1=way.length by omega];exact this
    have b2:=qg7 (o4 wc TZ) (by omega) (by omega);rw[l0] at b2;have i6:=quj L5.good p1 m0 (by rw[a7];exact k4) (by rw[a7];exact k2.1) p7 b8;have a4:=λ{T2:Nat->Prop} {w2:World} {P3:Pl} (h:Qe b w2 d p S0 S T2 D P3)=>a4.out t way rfl h
    obtain⟨tN,i1,d1,i2,i3⟩:=t;unfold Vb at b2;dsimp only at m0 p5 k4 m1 p7 b2;have xl:x.N.lvl=f.lvl:=i6.lvl.trans a7;have gm:¬(m:Int)=0:=by omega
    have m4:=k4;replace m4:=Lib.hid m4;have b3:=λ(u:World) (hu:Below wc.1.size wc u) (A6:Option Addr) (n6 c6:Nat) (B6:Option Addr) (m6 d6:Nat) (hA:Ry (Turn S u) B6 m6 d6 tN.kids)=>qqo (L5.below hu).sys hb (L5.below hu).tab L5.tidy ⟨f,ad,nx,hd,sh⟩ A n' c' B mm dd (o8.mono λv hv=>(Qu (S:=S) hu).then hv) (Xr ⟨f,ad,nx,hd,sh⟩ i j y) J U c5 K R O (o7.mono λv hv=>(Qu (S:=S) hu).then hv) ⟨tN,i1,d1,i2,i3⟩ A6 n6 c6 B6 m6 d6 hA ⟨by show 1<=tN.lvl;omega,m1⟩ (by show d1<=60;omega) (by omega) b8
    rw[a7,xl] at b3;unfold tv Vb Xe Xo at b3;dsimp only at b3;replace b3:=Lib.hid b3;replace b2:=Lib.hid b2;have s6:1<=tN.lvl/\tN.lvl<8:=by omega
    have m9:=Lib.hid xl;clear i7 a5 g6 hX l0 k4 m1 xl a7;go_wp2_with fail
    refine b2.out.mono ?_;rintro e w6 ⟨A6,n6,c6,B6,m6,d6,rfl,r7,b6⟩;obtain⟨w7,p0,Q7,b7⟩:∃w7,(stS (.pointer (some ⟨w6.1.size,0,none⟩)) (.agg #[.int .i64 tN.lvl,.slice A6 n6 c6,.slice B6 m6 d6,.int .i64 i1,.int .i64 (d1:Int),.bool i2,.bool i3])).run Tryz.prog (w6.alloc Ud)=.ok () w7/\RB w7 w6.1.size (Jc tN.lvl A6 n6 c6 B6 m6 d6 i1 (d1:Int) i2 i3)/\Below w6.1.size w6 w7:=by
     have T7:Turn (λk=>k=w6.1.size) (w6.alloc Ud) ((w6.alloc Ud).setCells w6.1.size 0 (Jc tN.lvl A6 n6 c6 B6 m6 d6 i1 (d1:Int) i2 i3)):=Um (S:=λk=>k=w6.1.size) rfl _ 0 _;exact⟨_,qig (Ig w6) rfl tN.lvl A6 n6 c6 B6 m6 d6 i1 (d1:Int) i2 i3,(Ig w6).stored (Jc tN.lvl A6 n6 c6 B6 m6 d6 i1 (d1:Int) i2 i3) rfl,((Below.refl _ _).alloc (Nat.le_refl _) Ud).trans (T7.below (λk hk=>by have:k=w6.1.size:=hk;omega) (by simp))⟩
    have b4:=b6.trans (b7.mono b6.size);have z7:=b4.size;have z6:=b6.size;have u3:=Q7.lt;have L7:=L5.below b4;have T7:=T5.below b4 T5.lt;have R7:=R5.below b4 R5.lt;have N7:=NZ.below b4 NZ.lt;have o2:Ry (Turn S w7) B6 m6 d6 tN.kids:=λv hv=>r7.Bd v ((TZ.trans (Qu (S:=S) b4) λk hk=>.inl hk).then hv)
    clear y0 f0 f1 f2 f3 f4 f5 f6 g0 g1 g2;have y0:=T7.cell 0 rfl;have f0:=R7.cell 0 rfl;have f1:=R7.cell 1 rfl;have f2:=R7.cell 2 rfl;have f3:=R7.cell 3 rfl;have f4:=R7.cell 4 rfl;have f5:=R7.cell 5 rfl;have f6:=R7.cell 6 rfl;have g0:=N7.c0;have g1:=N7.c1;have g2:=N7.c2;have e0:=Q7.cell 0 rfl;have e1:=Q7.cell 1 rfl;have e2:=Q7.cell 2 rfl;have e3:=Q7.cell 3 rfl;have e4:=Q7.cell 4 rfl;have e5:=Q7.cell 5 rfl;have e6:=Q7.cell 6 rfl;go_wp2_with fail
    refine (b3.out w7 b4 A6 n6 c6 B6 m6 d6 o2).mono ?_;rintro e w8 ⟨A8,n8,c8,B8,m8,d8,Y,k,rfl,r8,q8,t2,H8,X8,t8⟩;have L8:=L7.step H8 X8 t8 (qqp L5.tidy b8);have T8:=T7.turned X8 (λh=>by have:=hS _ h;omega);have z8:=X8.size;clear p0 y0 f0 f1 f2 f3 f4 f5 f6 g0 g1 g2 e0 e1 e2 e3 e4 e5 e6 b3 b2 o2;obtain⟨xi,l8⟩:∃xi,x.i=xi:=⟨_,rfl⟩;obtain⟨xj,l9⟩:∃xj,x.j=xj:=⟨_,rfl⟩;rw[l8,l9];go_wp2_with (first
     |(refine q93 rfl (.tmp 16) _ rfl w8.1.size rfl f.lvl A8 n8 c8 B8 m8 d8 Y k k (xi:Int) (xj:Int) rfl (RB.new w8 (Xe 0 none 0 0 none 0 0 none 0 0 0 0) 274) rfl ?_;intro w9 R9 q4;have b9:Below w8.1.size w8 w9:=(Qn).trans (q4.below (λk hk=>by have:k=w8.1.size:=hk;omega) (by simp));have T9:=T8.below b9 T8.lt;have y0:=T9.cell 0 rfl;have f0:=R9.cell 0 rfl;have f1:=R9.cell 1 rfl;have f2:=R9.cell 2 rfl;have f3:=R9.cell 3 rfl;have f4:=R9.cell 4 rfl;have f5:=R9.cell 5 rfl)
     |fail)
    have L9:=L8.below b9;have z9:=b9.size;have u6:=R9.lt;have r9:Jg (Turn S w9) x.N A8 n8 c8 B8 m8 d8:=r8.mono λv hv=>(Qu (S:=S) b9).then hv
    have q9:∀u,Turn S w9 u->Vd (Turn S w9) u Y k k x.olds:=λu hu=>(q8 u ((Qu (S:=S) b9).then hu)).mono λv hv=>(Qu (S:=S) b9).then hv
    have t7:=i6.size;have Hl:=qlm L9.sys hb L9.tab L9.tidy x A8 n8 c8 B8 m8 d8 r9 i6.fit (by omega) (by rw[m9.out];exact k2) Y k k q9 (by omega) k6 (xi:Int) (xj:Int);rw[m9.out] at Hl;unfold tv Xe Xo at Hl;replace Hl:=Lib.hid Hl;refine Hl.out.mono ?_;rintro e a1 ⟨e8,i0,f9,e9,g9,g3,l,rfl,k7,p8,j0,s5,s3⟩;have q0:=L9.step p8 j0 s5 s3;have o1:=T9.turned j0 (λh=>by have:=hS _ h;omega);have n9:=R9.turned j0 (λh=>by have:=hS _ h;omega);have u2:=j0.size;clear y0 f0 f1 f2 f3 f4 f5 Hl;obtain⟨k3,s0,l4,j7⟩:∃k3,(stB (.pointer (some ⟨a1.1.size,0,none⟩)) (.agg #[.int .i64 l,.slice e8 i0 f9,.slice e9 g9 g3])).run Tryz.prog (a1.alloc Ai)=.ok () k3/\NB k3 a1.1.size l e8 i0 f9 e9 g9 g3/\Below a1.1.size a1 k3:=by
     have TT:Turn (λk=>k=a1.1.size) (a1.alloc Ai) ((a1.alloc Ai).setCells a1.1.size 0 [.int .i64 l,.slice e8 i0 f9,.slice e9 g9 g3]):=Um (S:=λk=>k=a1.1.size) rfl _ 0 _;exact⟨_,qiv (q50 a1) l e8 i0 f9 e9 g9 g3,(q50 a1).stored l e8 i0 f9 e9 g9 g3,((Below.refl _ _).alloc (Nat.le_refl _) Ai).trans (TT.below (λk hk=>by have:k=a1.1.size:=hk;omega) (by simp))⟩
    have a3:=q0.below j7;have q3:=o1.below j7 o1.lt;have o0:=n9.below j7 n9.lt;rcases l7 with⟨rfl,rfl,rfl⟩|⟨ks,rfl,d0⟩
    ·unfold Qab;dsimp only;go_wp2_with fail
     go_ret2;exact⟨0,rfl,λa e=>(by cases e),a3.done,a3.turn,a3.tab,a3.tidy⟩
    ·obtain⟨hl,k9⟩:=k7 ks rfl;have r6:ks.length<=7:=by
      rw[qxm k6];exact qn5 (by omega)
     rw[m9.out] at d0;have HR:=a4 a3.sys a3.tab a3.tidy m0 p5 ⟨by show 0<=tN.lvl;omega,s6.2⟩ (Lib.hid s7) (λu hu=>(o4 u (a3.turn.then hu)).mono λv hv=>a3.turn.then hv) ⟨f.lvl+1,[],ks⟩ ⟨λh=>by
       have h:f.lvl+1=0:=h;omega,λ_=>rfl⟩ (by unfold Nd.size;simp;exact r6) m4.out.symm e8 i0 f9 e9 g9 g3 (k9.mono λv hv=>(Qu (S:=S) j7).then hv) x.i x.j i6.ij i6.j d0
     dsimp only at HR;rw[<-hl,l8,l9] at HR;unfold tv Xo at HR;replace HR:=Lib.hid HR;have y0:=q3.cell 0 rfl;have f4:=o0.cell 4 rfl;have f5:=o0.cell 5 rfl;have g0:=l4.c0;have g1:=l4.c1;have g2:=l4.c2;clear hl k7 k9 d0 l8 l9;unfold Qab;dsimp only;go_wp2_with fail
     refine HR.out.mono ?_;rintro e u1 ⟨v,rfl,hv,p9,q5,p4,p3⟩;have n0:=a3.step p9 q5 p4 p3;go_wp2_with fail
     go_ret2;exact⟨v,rfl,hv,n0.done,n0.turn,p4,p3⟩
end
end
