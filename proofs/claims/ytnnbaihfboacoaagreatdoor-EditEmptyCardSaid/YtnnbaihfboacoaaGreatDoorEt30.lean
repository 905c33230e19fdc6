/- The code's edit: enough, of any node; plain facts of an exchange -/
import Derived.Test.YtnnbaihfboacoaaGreatDoorHaT
namespace Go.Proofs.YtnnbaihfboacoaaGreatDoor
open Go Go.RowKit Go.Proofs
set_option maxHeartbeats 8000000
set_option maxRecDepth 100000
section
variable {b:Nat}{w:World}{d p:Nat}{S0 S T:Nat->Prop}{D:DM}{P P':Pl}
theorem qpw (H:Qi b w d p S0 S T D P)(hb:1<b)(ht:Tab w)(hP:P.tidy)(s:Qu)(A:Option Addr)(n c:Nat)(B:Option Addr)(m dd:Nat)(hs:Jl (Turn S w) s.N A n c B m dd)(N:Nd)(R:Option Addr)(Q c2:Nat)(U:Option Addr)(M W:Nat)(hB:Jl (Turn S w) N R Q c2 U M W)(above:Qu)(A3:Option Addr)(n3 c3:Nat)(B3:Option Addr)(m3 d3:Nat)(hA:Rw (Turn S w) B3 m3 d3 above.N.kids)(hl:1<=above.N.lvl/\above.N.lvl<8)(G:above.next<=60)(a1:N.size<=20){x:Px}(F:P.have_ D s N above=some (x,P')) :
  Calls Tryz.prog 110 #[tv p,Vh s A n c B m dd,Xy N.lvl R Q c2 U M W,Vh above A3 n3 c3 B3 m3 d3] w λe E=>∃O Z c5 K X J Y k,e=.returned (.tuple #[.agg (Xl x.N.lvl O Z c5 K X J Y k k (x.i:Int) (x.j:Int)).toArray,.int .i64 0])/\Jl (Turn S E) x.N O Z c5 K X J/\(∀u,Turn S E u->Vj (Turn S E) u Y k k x.olds)/\k<=2/\Qi b E d p S0 S T D P'/\Turn S w E/\Tab E:=by
 unfold Pl.have_ at F;by_cases f:Qr N.lvl<=N.size
 ·rw[if_pos f] at F;injection Option.some.inj F with e1 e2;subst e1 e2;refine (qmf H ht s A n c B m dd hs N R Q c2 U M W hB above A3 n3 c3 B3 m3 d3 G f).mono ?_;rintro e E ⟨Y,rfl,h1,h2,I⟩;exact⟨R,Q,c2,U,M,W,Y,1,rfl,h1,h2,by omega,H.below I,Qv I,ht.below I ht.1⟩
 ·rw[if_neg f] at F;by_cases h0:0<above.next
  ·rw[if_pos h0] at F;obtain⟨P2,y,e⟩:=Option.map_eq_some_iff.1 F;injection e with e1 e2;subst e1 e2;unfold Pl.near at y;split at y
   ·rename_i hk;refine (qnc H hb ht hP s A n c B m dd hs N R Q c2 U M W hB above A3 n3 c3 B3 m3 d3 hA hl G f a1 h0 hk y).mono ?_;rintro e E ⟨O,Z,c5,K,X,J,Y,rfl,h1,h2,I,h4,h5⟩;exact⟨O,Z,c5,K,X,J,Y,2,rfl,h1,h2,by omega,I,h4,h5⟩
   ·cases y
  ·rw[if_neg h0] at F;obtain⟨P2,y,e⟩:=Option.map_eq_some_iff.1 F;injection e with e1 e2;subst e1 e2;unfold Pl.near at y;split at y
   ·rename_i hk;refine (qnd H hb ht hP s A n c B m dd hs N R Q c2 U M W hB above A3 n3 c3 B3 m3 d3 hA hl G f a1 h0 hk y).mono ?_;rintro e E ⟨O,Z,c5,K,X,J,Y,rfl,h1,h2,I,h4,h5⟩;exact⟨O,Z,c5,K,X,J,Y,2,rfl,h1,h2,by omega,I,h4,h5⟩
   ·cases y
theorem qpx {s above:Qu}{N:Nd}{x:Px}(h:P.tidy)(m:P.have_ D s N above=some (x,P')):P'.tidy:=by
 have near:∀{i:Nat} {y:Pl},P.near D above i=some y->y.tidy:=λ{i y} f=>by
  unfold Pl.near at f;split at f
  ·exact h.Qx f
  ·cases f
 unfold Pl.have_ at m;split at m
 ·injection Option.some.inj m with A u;subst u;exact h
 ·split at m
  ·obtain⟨y,f,e⟩:=Option.map_eq_some_iff.1 m;injection e with A u;subst u;exact near f
  ·obtain⟨y,f,e⟩:=Option.map_eq_some_iff.1 m;injection e with A u;subst u;exact near f
end
def Vt:Qu->List Qu->Prop
 |_,[]=>True
 |s,t::way=>t.N.fit/\t.N.size<=12/\t.N.lvl=s.N.lvl+1/\t.N.lvl<8/\t.next+1<=t.N.size/\Vt t way
theorem qpy {N:Nd}(h:N.fit){i j:Nat}(e:i<=j):(N.cut 0 i).size+(N.cut j N.size).size<=N.size:=by
 obtain⟨h1,h2⟩:=h;unfold Nd.cut;by_cases h0:N.lvl=0
 ·rw[if_pos h0,if_pos h0];unfold Nd.size;simp only[h1 h0,List.length_nil,List.length_take,List.length_drop];omega
 ·rw[if_neg h0,if_neg h0];unfold Nd.size;simp only[h2 h0,List.length_nil,List.length_take,List.length_drop];omega
theorem qeg {l:Int}{N M:Nd}(h:N.fit)(hm:M.fit)(m:N.lvl=l)(f:M.lvl=l):(⟨l,N.items++M.items,N.kids++M.kids⟩:Nd).fit:=by
 refine⟨λh0=>?_,λh0=>?_⟩
 ·have h0:l=0:=h0;show N.kids++M.kids=[];rw[h.1 (m.trans h0),hm.1 (f.trans h0)];rfl
 ·have h0:¬l=0:=h0;show N.items++M.items=[];rw[h.2 (λe=>h0 (m.symm.trans e)),hm.2 (λe=>h0 (f.symm.trans e))];rfl
theorem q96 {l:Int}{N M:Nd}:Jd l [N,M]=⟨l,N.items++M.items,N.kids++M.kids⟩:=by unfold Jd;simp
theorem qpz (N:Nd)(i j:Nat):(N.cut i j).lvl=N.lvl:=by unfold Nd.cut;split<;>rfl
theorem qwm {s:Qu}{f:Nd}{i j:Nat}(h:s.N.fit)(E:f.fit)(F:f.lvl=s.N.lvl)(m:i<=j):(Ye s i j f).fit/\(Ye s i j f).lvl=s.N.lvl/\(Ye s i j f).size<=s.N.size+f.size:=by
 have h1:=qpy h m;have A:=q7u h 0 i;have B:=q7u h j s.N.size;have u:=qpz s.N 0 i;have y:=qpz s.N j s.N.size;have e:Ye s i j f=⟨s.N.lvl,(s.N.cut 0 i).items++(f.items++(s.N.cut j s.N.size).items),(s.N.cut 0 i).kids++(f.kids++(s.N.cut j s.N.size).kids)⟩:=by unfold Ye Jd;simp
 rw[e];refine⟨qeg A (qeg E B F y) u rfl,rfl,?_⟩;unfold Nd.size at h1 ⊢;simp only[List.length_append];omega
structure Qbt (x:Px)(b:Nd)(above:Qu):Prop where
 fit:x.N.fit
 size:x.N.size<=b.size+12
 lvl:x.N.lvl=b.lvl
 ij:x.i<=x.j
 j:x.j<=above.N.size
theorem qtq {P P':Pl}{D:DM}{s above:Qu}{b:Nd}{x:Px}(H:∀a b,P.L a=some b->b.good)(A:b.fit)(_:above.N.fit)(O:above.N.lvl=b.lvl+1)(_:0<=b.lvl)(hn:above.next+1<=above.N.size)(h:P.have_ D s b above=some (x,P')):Qbt x b above:=by
 have kid:∀i,P.Wn D above i=true->(P.Jj D above i).N.fit/\(P.Jj D above i).N.size<=12/\(P.Jj D above i).N.lvl=b.lvl/\i<above.N.size:=λi m=>by
  obtain⟨K,I,M⟩:=of_decide_eq_true m;have hm:=qlc H _ I;refine⟨Nj hm,q5y hm,?_,by unfold Nd.size;omega⟩;show (P.Qh D (Qg above.N.kids i).a).lvl=_;omega
 unfold Pl.have_ at h;split at h
 ·injection Option.some.inj h with u G;subst u;exact⟨A,Nat.le_add_right _ _,rfl,Nat.le_succ _,hn⟩
 ·split at h
  ·rename_i h0;obtain⟨J,f,e⟩:=Option.map_eq_some_iff.1 h;injection e with u G;subst u;unfold Pl.near at f;split at f
   ·rename_i m;obtain⟨B,E,y,F⟩:=kid _ m;refine⟨?_,?_,y,?_,hn⟩
    ·dsimp only;rw[q96];exact qeg B A rfl y.symm
    ·dsimp only;rw[q96];unfold Nd.size at E ⊢;simp only[List.length_append];omega
    ·dsimp only;omega
   ·cases f
  ·obtain⟨J,f,e⟩:=Option.map_eq_some_iff.1 h;injection e with u G;subst u;unfold Pl.near at f;split at f
   ·rename_i m;obtain⟨B,E,y,F⟩:=kid _ m;refine⟨?_,?_,rfl,?_,F⟩
    ·dsimp only;rw[q96];exact qeg A B rfl y
    ·dsimp only;rw[q96];unfold Nd.size at E ⊢;simp only[List.length_append];omega
    ·dsimp only;omega
   ·cases f
theorem q49:∀(olds:List Qu) (P:Pl) (m:List Nd) (y:List Ql) {P':Pl} {f:List Nd} {u:List Ql},Gu olds P m y=some (P',f,u)->u.length+f.length=y.length+m.length
 |[],P,m,y,P',f,u,h=>by
  injection Option.some.inj h with H A;injection A with A F;rw[<-A,<-F]
 |s::olds,P,[],y,P',f,u,h=>by
  obtain⟨B,_,h2⟩:=qal h;exact q49 olds B [] y h2
 |s::olds,P,b::m,y,P',f,u,h=>by
  by_cases E:s.shared=true\/P.C.fresh s.addr=false
  ·obtain⟨B,_,h2⟩:=q48 E h;exact q49 olds B (b::m) y h2
  ·have h1:s.shared=false:=by
    cases e:s.shared with
    |false=>rfl
    |true=>exact absurd (.inl e) E
   have h2:P.C.fresh s.addr=true:=by
    cases e:P.C.fresh s.addr with
    |true=>rfl
    |false=>exact absurd (.inr e) E
   obtain⟨_,G⟩:=qam h1 h2 h;have:=q49 olds _ m _ G;rw[List.length_append] at this;simp at this ⊢;omega
theorem qco:∀(e:List Nd) (P:Pl) (m:List Ql) {P':Pl} {f:List Ql},Xe e P m=some (P',some f)->f.length=m.length+e.length
 |[],P,m,P',f,h=>by
  injection Option.some.inj h with y u;rw[<-Option.some.inj u];rfl
 |b::e,P,m,P',f,h=>by
  rcases qan h with⟨_,h2⟩|⟨_,h2⟩
  ·have:=qco e _ _ h2;rw[List.length_append] at this;simp at this ⊢;omega
  ·injection h2 with _ h2
   cases h2
theorem qmh {N:Nd}(h:N.size<=31):(pieces N).length<=7:=by
 unfold pieces;rw[List.length_map,List.length_range];unfold parts;have h1:6<=Qq N.lvl:=by unfold Qq;split<;>omega
 have h2:N.size+Qq N.lvl-1<8*Qq N.lvl:=by omega
 have:=Nat.div_lt_of_lt_mul (m:=N.size+Qq N.lvl-1) (n:=Qq N.lvl) (k:=8) (by rw[Nat.mul_comm];exact h2);omega
theorem qwn {P P':Pl}{x:Px}{ks:List Ql}(h:P.Y7 x=some (P',some ks)):ks.length=(pieces x.N).length:=by
 unfold Pl.Y7 at h;split at h
 ·rename_i u f m e;have h1:=q49 _ _ _ _ e;have h2:=qco _ _ _ h;simp at h1;omega
 ·cases h
theorem qgc {D:DM}{above:Qu}{way:List Qu}{P P':Pl}{s:Qu}{i j:Nat}{e:Nd}{r:Option Int}(h:Wj D (above::way) P s i j e=some (P',r)) :
  ∃m x u f A,P.Qx s i j=some m/\m.have_ D s (Ye s i j e) above=some (x,u)/\u.Y7 x=some (f,A)/\((A=none/\f=P'/\r=none)\/∃y,A=some y/\Wj D way f above x.i x.j ⟨x.N.lvl+1,[],y⟩=some (P',r)):=by
 have h:(match P.Qx s i j with
  |some m=>match m.have_ D s (Ye s i j e) above with
   |some (x,u)=>match u.Y7 x with
    |some (f,some y)=>Wj D way f above x.i x.j ⟨x.N.lvl+1,[],y⟩
    |some (f,none)=>some (f,none)
    |none=>none
   |none=>none
  |none=>none)=some (P',r):=h
 cases h1:P.Qx s i j with
 |none=>rw[h1] at h;cases h
 |some m=>
  rw[h1] at h;dsimp only at h
  cases h2:m.have_ D s (Ye s i j e) above with
  |none=>rw[h2] at h;cases h
  |some q=>
   obtain⟨x,u⟩:=q;rw[h2] at h;dsimp only at h
   cases B:u.Y7 x with
   |none=>rw[B] at h;cases h
   |some q=>
    obtain⟨f,A⟩:=q;rw[B] at h;refine⟨m,x,u,f,A,rfl,h2,B,?_⟩
    cases A with
    |none=>
     injection Option.some.inj h with F E;exact .inl ⟨rfl,F,E.symm⟩
    |some y=>exact .inr ⟨y,rfl,h⟩
theorem qkb {D:DM}{P P':Pl}{s:Qu}{i j:Nat}{e:Nd}{r:Option Int}(h:Wj D [] P s i j e=some (P',r)):∃f,P.Qx s i j=some f/\f.top s (Ye s i j e)=some (P',r):=by
 have h:(match P.Qx s i j with|some f=>f.top s (Ye s i j e)|none=>none)=some (P',r):=h
 cases h1:P.Qx s i j with
 |none=>rw[h1] at h;cases h
 |some f=>rw[h1] at h;exact⟨f,rfl,h⟩
theorem q3p (l:List Qu)(s:Qu):Y5 (l++[s]) l.length=s:=by simp[Y5]
section
def stB (p v:Value):Sem Unit:=Instr.storeAt 127 p v
theorem qtr (p v:Value):Instr.storeAt 127 p v=stB p v:=rfl
theorem qib {w:World}{b:Nat}{l:Int}{A:Option Addr}{n c:Nat}{B:Option Addr}{m d:Nat}(H:NB w b l A n c B m d)(e:Int)(f:Option Addr)(E c2:Nat)(F:Option Addr)(u y:Nat) :
  (stB (.pointer (some ⟨b,0,none⟩)) (.agg #[.int .i64 e,.slice f E c2,.slice F u y])).run Tryz.prog w=.ok () (w.setCells b 0 [.int .i64 e,.slice f E c2,.slice F u y]):=
 run_storeAt_mid w b 0 127 #[.int .i64 e,.slice f E c2,.slice F u y] H.there (by kernel_rfl) (by simp[Value.oneCell'])
abbrev Az:Obj:=.cells #[.int .i64 0,.slice none 0 0,.slice none 0 0] 127
theorem q4v (w:World):NB (w.alloc Az) w.1.size 0 none 0 0 none 0 0:=NB.new w 0 none 0 0 none 0 0 127
attribute [local go_sem ↓] qe9
attribute [local go_sem ↓] qtr
section
variable {b:Nat}{d p:Nat}{S0 S:Nat->Prop}{D:DM}
def Gz (b:Nat)(d p:Nat)(S0 S T:Nat->Prop)(D:DM)(w:World)(P':Pl)(r:Option Int)(e:Ending)(w':World):Prop:=∃v,e=.returned (.tuple #[.int .i64 v,.int .i64 (Qbp r)])/\(∀a,r=some a->v=a)/\Qi b w' d p S0 S T D P'/\Turn S w w'/\Tab w'/\P'.tidy
theorem Bf.good {b:Nat}{w0 w:World}{d p:Nat}{S0 S T T':Nat->Prop}{D:DM}{P:Pl}(h:Bf b w0 w d p S0 S T T' D P):∀a b,P.L a=some b->b.good:=by
 obtain⟨m,c,l,k,v,e,L⟩:=h.sys.pool;exact L.good
theorem qcp {w:World}{T:Nat->Prop}{P P1:Pl}(H:Qi b w d p S0 S T D P)(hb:1<b)(ht:Tab w)(hP:P.tidy)(s:Qu)(way:List Qu)(i5:s.N.fit)(q3:s.N.size<=12)(k2:0<=s.N.lvl/\s.N.lvl<8)(X:Option Addr)(n c:Nat)(hX:∀u,Turn S w u->Vj (Turn S w) u X n c (way.reverse++[s]))(hn:n<=20)
  (y:Nd) (s8:y.fit) (t1:y.size<=7) (i1:y.lvl=s.N.lvl) (A2:Option Addr) (n2 c2:Nat) (B2:Option Addr) (m2 d2:Nat) (hB:Jl (Turn S w) y A2 n2 c2 B2 m2 d2) (i j:Nat) (hi:i<=j) (hj:j<=s.N.size) {P':Pl} {r:Option Int} (i2:Wj D way P s i j y=some (P',r)) (b0:P.Qx s i j=some P1) (q7:Hid (Vt s way))
  (a8:∀(t:Qu) (g3:List Qu),way=t::g3->∀{T2:Nat->Prop} {w2:World} {P3:Pl} (_:Qi b w2 d p S0 S T2 D P3) (_:Tab w2) (_:P3.tidy) (_:t.N.fit) (_:t.N.size<=12) (_:0<=t.N.lvl/\t.N.lvl<8) (_:Hid (Vt t g3)) (_:∀u,Turn S w2 u->Vj (Turn S w2) u X (n-1) c (g3.reverse++[t])) (a1:Nd) (_:a1.fit) (_:a1.size<=7) (_:a1.lvl=t.N.lvl) (A:Option Addr) (n' c':Nat) (B:Option Addr) (m' d':Nat) (_:Jl (Turn S w2) a1 A n' c' B m' d') (i j:Nat) (_:i<=j) (_:j<=t.N.size) (_:Wj D g3 P3 t i j a1=some (P',r)),Calls Tryz.prog 65 #[tv p,.slice X (n-1) c,.int .i64 (i:Int),.int .i64 (j:Int),Xy a1.lvl A n' c' B m' d'] w2 (Gz b d p S0 S T2 D w2 P' r)) :
  Calls Tryz.prog 65 #[tv p,.slice X n c,.int .i64 (i:Int),.int .i64 (j:Int),Xy y.lvl A2 n2 c2 B2 m2 d2] w (Gz b d p S0 S T D w P' r):=by
 rw[i1];replace i1:=Lib.hid i1;replace i2:=Lib.hid i2;have hS:=H.low;have f9:=(hX w (Turn.refl _ _)).len;have u2:=(hX w (Turn.refl _ _)).cap;rw[List.length_append,List.length_reverse] at f9;have f9:way.length+1=n:=f9;obtain⟨m,hm⟩:∃m,n-1=m:=⟨_,rfl⟩;rw[hm] at a8;replace a8:=Lib.hid a8;have l0:way.length=m:=by omega
 have Z:=λ(u:World) (hu:Turn S w u)=>qg6 (hX u hu) (by omega) (by omega)
 have b4:Y5 (way.reverse++[s]) (n-1)=s:=by
  have:=q3p way.reverse s;rw[List.length_reverse,l0] at this;rw[hm];exact this
 rw[b4] at Z;have j8:∀u,Below w.1.size w u->Turn S w u:=λu hu=>Qv hu
 obtain⟨f,ad,nx,hd,sh⟩:=s;unfold Vh at Z;dsimp only at i5 q3 k2 i1 hj Z ⊢;replace Z:=Lib.hid Z;have b1:Below w.1.size w ((w.alloc (.cells #[.pointer (some ⟨p,0,none⟩)] 122)).alloc (.cells #[.int .i64 f.lvl,.slice A2 n2 c2,.slice B2 m2 d2] 127)):=(Qm).alloc (by simp) _;have T1:RB ((w.alloc (.cells #[.pointer (some ⟨p,0,none⟩)] 122)).alloc (.cells #[.int .i64 f.lvl,.slice A2 n2 c2,.slice B2 m2 d2] 127)) w.1.size [.pointer (some ⟨p,0,none⟩)]:=(RB.new w [.pointer (some ⟨p,0,none⟩)] 122).below (Qm) (by simp);have N1:NB ((w.alloc (.cells #[.pointer (some ⟨p,0,none⟩)] 122)).alloc (.cells #[.int .i64 f.lvl,.slice A2 n2 c2,.slice B2 m2 d2] 127)) (w.1.size+1) f.lvl A2 n2 c2 B2 m2 d2:=NB.new2 w _ _ _ _ _ _ _ _ _;have hw:IntKind.i64.wrap ((n:Int)-1)=(m:Int):=by rw[show (n:Int)-1=(m:Int) by omega];exact IntWalk.i64_in _ (by omega)
 have v8:(0:Int)<=(m:Int):=by omega
 have v7:(m:Int)<=(c:Int):=by omega
 clear hm f9 b4;unfold tv Xy;go_enter Tryz.func65,Tryz.ntmps65
 go_wp2_with fail
 generalize ((w.alloc (.cells #[.pointer (some ⟨p,0,none⟩)] 122)).alloc (.cells #[.int .i64 f.lvl,.slice A2 n2 c2,.slice B2 m2 d2] 127))=w1 at b1 T1 N1 ⊢;have z1:=N1.lt;have z0:=b1.size;have bD:Below w1.1.size w1 w1.drew:=(Below.refl _ _).drew;have bA:Below w1.1.size w1 (w1.alloc Ud).drew:=(Qm).drew;have QA:RB (w1.alloc Ud).drew w1.1.size (Ji 0 none 0 0 none 0 0 0 0 false false):=Ih w1;have hK:∀u:World,Below w1.1.size w1 u->True:=λ_ _=>trivial
 replace j8:=Lib.hid j8;go_cut [1,12] from 19 to 25 (λx q wx=>∃(qb:Nat) (A:Option Addr) (n' c':Nat) (B:Option Addr) (mm dd:Nat),x=.slice X m c/\q=.pointer (some ⟨qb,0,none⟩)/\w1.1.size<=qb/\RB wx qb (Ji f.lvl A n' c' B mm dd ad (nx:Int) hd sh)/\Jl (Turn S wx) f A n' c' B mm dd/\Below w1.1.size w1 wx)
 case first=>
  go_region_held3 (λ_=>True)
   (first|(with_reducible assumption)|exact trivial)
   (first
    |(go_at_call 64;(with_reducible refine (Z.out w1.drew (j8.out _ (b1.trans (bD.mono b1.size)))).mono ?_);rintro e w3 ⟨A3,n3,c3,B3,m3,d3,rfl,o3,i0⟩;have b3:Below w1.1.size w1 w3:=bD.trans i0;have j7:=b3.alloc b3.size Ud;obtain⟨b4,RQ,TQ,BQ⟩:=qea j7 b3.size (Ih w3) rfl f.lvl A3 n3 c3 B3 m3 d3 ad (nx:Int) hd sh;have HX:=Lib.hid (And.intro RQ (And.intro TQ (And.intro BQ (And.intro j7 b3))));clear RQ TQ BQ j7 i0)
    |(go_at_call 64;(with_reducible refine (Z.out (w1.alloc Ud).drew (j8.out _ (b1.trans (bA.mono b1.size)))).mono ?_);rintro e w3 ⟨A3,n3,c3,B3,m3,d3,rfl,o3,i0⟩;have b3:Below w1.1.size w1 w3:=bA.trans (i0.mono bA.size);obtain⟨b4,RQ,TQ,BQ⟩:=qea b3 (Nat.le_refl _) (QA.below i0 QA.lt) rfl f.lvl A3 n3 c3 B3 m3 d3 ad (nx:Int) hd sh;have HX:=Lib.hid (And.intro RQ (And.intro TQ (And.intro BQ (And.intro b3 b3))));clear RQ TQ BQ i0)
    |fail)
  ·obtain⟨RQ,TQ,BQ,j7,_⟩:=HX.out;go_wp2_with fail
   go_meet
   exact⟨w3.1.size,A3,n3,c3,B3,m3,d3,rfl,rfl,b3.size,RQ,o3.mono λv hv=>(Qv (S:=S) (b1.trans (BQ.mono b1.size))).trans hv λk hk=>.inl hk,BQ⟩
  ·obtain⟨RQ,TQ,BQ,j7,_⟩:=HX.out;go_wp2_with fail
   go_meet
   exact⟨w1.1.size,A3,n3,c3,B3,m3,d3,rfl,rfl,Nat.le_refl _,RQ,o3.mono λv hv=>(Qv (S:=S) (b1.trans (BQ.mono b1.size))).trans hv λk hk=>.inl hk,BQ⟩
 case rest=>
  obtain⟨qb,A,n',c',B,mm,dd,rfl,rfl,v6,RQ,d0,BQ⟩:=hcut;have k8:f.size<=20:=by omega
  have k5:=d0.hn;have k3:=d0.hm;have j9:=d0.size;have s7:=qai d0 i5 hj;have L0:=((Bf.start H hb ht hP).below b1).below BQ;have TC:=T1.below BQ T1.lt;have NC:=N1.below BQ N1.lt;have zq:=BQ.size;have Hr:=q8n L0.sys hb L0.tab ⟨f,ad,nx,hd,sh⟩ i5 A n' c' B mm dd d0 i j hi hj k8 b0;unfold tv Vh at Hr;dsimp only at Hr;replace Hr:=Lib.hid Hr;have y0:=TC.cell 0 rfl;have f0:=RQ.cell 0 rfl;have f1:=RQ.cell 1 rfl;have f2:=RQ.cell 2 rfl;have f3:=RQ.cell 3 rfl;have f4:=RQ.cell 4 rfl;have f5:=RQ.cell 5 rfl;have f6:=RQ.cell 6 rfl;clear j8 hK QA bA bD Z;go_wp2_with fail
  refine Hr.out.mono ?_;rintro e I ⟨rfl,H4,X4,t4⟩;have L4:=L0.step H4 X4 t4 (hP.Qx b0);have z4:=X4.size;have R4:=RQ.turned X4 (λh=>by have:=hS _ h;omega);have T4:=TC.turned X4 (λh=>by have:=hS _ h;omega);have N4:=NC.turned X4 (λh=>by have:=hS _ h;omega);have TW:Turn S w I:=(Qv (S:=S) (b1.trans (BQ.mono b1.size))).then X4;have o8:Jl (Turn S I) y A2 n2 c2 B2 m2 d2:=hB.mono λv hv=>TW.then hv
  have i9:Jl (Turn S I) f A n' c' B mm dd:=d0.mono λv hv=>X4.then hv
  clear y0 f0 f1 f2 f3 f4 f5 f6 Hr TC NC RQ d0;go_wp2_with fail
  obtain⟨A6,n6,c6,B6,m6,d6,e1,q1,l1⟩:=q7t i9 (i:=0) (j:=i) (Nat.zero_le _) (by omega);obtain⟨A7,n7,c7,B7,m7,d7,e2,q2,l2⟩:=q7t i9 (i:=j) (j:=f.size) (by omega) (qai i9 i5 (Nat.le_refl _));have e9:=λu=>q3o f.lvl A n' c' B mm dd 0 i (Nat.zero_le _) (by omega) ⟨k5.2.1,k5.2.2⟩ ⟨k3.2.1,k3.2.2⟩ u
  have g8:=λu=>q3o f.lvl A n' c' B mm dd j f.size (by omega) (qai i9 i5 (Nat.le_refl _)) ⟨k5.2.1,k5.2.2⟩ ⟨k3.2.1,k3.2.2⟩ u
  have HS:=λu=>q29 f.lvl A n' c' B mm dd (by omega) (by omega) u
  rw[e1] at e9;rw[show ((0:Nat):Int)=0 from rfl] at e9;rw[e2] at g8;rw[<-j9] at HS;unfold Xy at e9 g8 HS;replace e9:=Lib.hid e9;replace g8:=Lib.hid g8;replace HS:=Lib.hid HS;clear e1 e2 s7 j9;have b5:=λu=>qpm (Q:=Turn S I) u 127 q1 o8 q2
  rw[l1,l2,i1.out] at b5;have g4:∀u:World,Ac (Turn S I) ((u.alloc Az).alloc (.cells #[.int .i64 f.lvl,.slice A6 n6 c6,.slice B6 m6 d6,.int .i64 f.lvl,.slice A2 n2 c2,.slice B2 m2 d2,.int .i64 f.lvl,.slice A7 n7 c7,.slice B7 m7 d7] 127)) (some ⟨u.1.size+1,0,none⟩) 3 3 [f.cut 0 i,y,f.cut j f.size]:=λu=>by
   have:=b5 (u.alloc Az);rwa [World.size_alloc] at this
  replace b5:=Lib.hid b5;replace g4:=Lib.hid g4;have u4:y.items.length<=7/\y.kids.length<=7:=by unfold Nd.size at t1;omega
  have u3:f.items.length<=12/\f.kids.length<=12:=by unfold Nd.size at q3;omega
  have l6:∀k,S k->k<I.1.size:=λk hk=>by have:=hS k hk;omega
  have Hj:∀(S':Nat->Prop) (_:∀k,S' k->S k\/I.1.size<=k) (u:World) (_:∀k,S' k->k<u.1.size) (_:Below I.1.size I u) (X:Option Addr) (_:Ac (Turn S I) u X 3 3 [f.cut 0 i,y,f.cut j f.size]),Calls Tryz.prog 106 #[.slice X 3 3] u λe K=>∃A n c B m d,e=.returned (Xy f.lvl A n c B m d)/\Jl (Turn S' K) (Ye ⟨f,ad,nx,hd,sh⟩ i j y) A n c B m d/\Below u.1.size u K:=λS' t7 u r5 hu X hX=>
   q47 (S:=S') (w:=u) r5 [f.cut 0 i,y,f.cut j f.size] f.lvl l1 X 3 3 (by
    obtain⟨u0,r1,r2,r3⟩:=hX;exact⟨u0,r1,r2,λj r M hr hM=>by
     obtain⟨A',n',c',B',m',d',e',hq⟩:=r3 j r M hr hM;exact⟨A',n',c',B',m',d',e',hq.mono λv hv=>(Qv (S:=S) hu).trans hv t7⟩⟩) (by omega) (by omega)
    (by have h1:=q2h f 0 i;have h2:=q2h f j f.size;simp only[List.flatMap_cons,List.flatMap_nil,List.length_append,List.length_nil];omega)
    (by have h1:=q2h f 0 i;have h2:=q2h f j f.size;simp only[List.flatMap_cons,List.flatMap_nil,List.length_append,List.length_nil];omega)
  have u6:=R4.lt;have zn:=N4.lt;have cB:∀u,Below I.1.size I u->u.cell? ⟨qb,0,none⟩=some (.int .i64 f.lvl)/\u.cell? ⟨qb,1,none⟩=some (.slice A n' c')/\u.cell? ⟨qb,2,none⟩=some (.slice B mm dd)/\u.cell? ⟨w.1.size+1,0,none⟩=some (.int .i64 f.lvl)/\u.cell? ⟨w.1.size+1,1,none⟩=some (.slice A2 n2 c2)/\u.cell? ⟨w.1.size+1,2,none⟩=some (.slice B2 m2 d2):=λu hu=>
   have s1:=R4.below hu R4.lt;have n1:=N4.below hu N4.lt;⟨s1.cell 0 rfl,s1.cell 1 rfl,s1.cell 2 rfl,n1.c0,n1.c1,n1.c2⟩
  have g6:∀(u:World) (_:Below I.1.size I u) (q:Nat) (_:I.1.size<=q/\NB u q 0 none 0 0 none 0 0) (X:Option Addr) (_:Ac (Turn S I) u X 3 3 [f.cut 0 i,y,f.cut j f.size]),Calls Tryz.prog 106 #[.slice X 3 3] u λe K=>∃J R c5 U W O,e=.returned (.agg #[.int .i64 f.lvl,.slice J R c5,.slice U W O])/\Below I.1.size I K/\(stB (.pointer (some ⟨q,0,none⟩)) (.agg #[.int .i64 f.lvl,.slice J R c5,.slice U W O])).run Tryz.prog K=.ok () (K.setCells q 0 [.int .i64 f.lvl,.slice J R c5,.slice U W O])/\(NB (K.setCells q 0 [.int .i64 f.lvl,.slice J R c5,.slice U W O]) (q) f.lvl J R c5 U W O/\Jl (Turn S (K.setCells q 0 [.int .i64 f.lvl,.slice J R c5,.slice U W O])) (Ye ⟨f,ad,nx,hd,sh⟩ i j y) J R c5 U W O/\Below I.1.size I (K.setCells q 0 [.int .i64 f.lvl,.slice J R c5,.slice U W O])):=by
   intro u hu q hq X hX;refine (Hj (λk=>S k\/k=q) (λk hk=>hk.elim .inl λh=>.inr (by omega)) u (λk hk=>hk.elim (λh=>by have:=l6 k h;have:=hu.size;omega) λh=>by rw[h];exact hq.2.lt) hu X hX).mono ?_;rintro e K ⟨J,R,c5,U,W,O,rfl,h1,h2⟩;have hz:=hq.2.below h2 hq.2.lt;have e8:=hu.trans (h2.mono hu.size);have T8:Turn (λk=>k=q) K (K.setCells q 0 [.int .i64 f.lvl,.slice J R c5,.slice U W O]):=Us (S:=λk=>k=q) rfl _ 0 K;exact⟨J,R,c5,U,W,O,rfl,e8,qib hz f.lvl J R c5 U W O,hz.stored f.lvl J R c5 U W O,h1.mono λv hv=>(T8.mono λk hk=>.inr hk).then (hv.mono λk hk=>.inl hk),e8.trans (T8.below (λk hk=>by have:k=q:=hk;omega) e8.size)⟩
  have k4:∀(u:World) (_:Below I.1.size I u) (X:Option Addr) (_:Ac (Turn S I) u X 3 3 [f.cut 0 i,y,f.cut j f.size]),Calls Tryz.prog 106 #[.slice X 3 3] u λe K=>∃J R c5 U W O,e=.returned (.agg #[.int .i64 f.lvl,.slice J R c5,.slice U W O])/\Below I.1.size I K/\(stB (.pointer (some ⟨K.1.size,0,none⟩)) (.agg #[.int .i64 f.lvl,.slice J R c5,.slice U W O])).run Tryz.prog (K.alloc Az)=.ok () ((K.alloc Az).setCells K.1.size 0 [.int .i64 f.lvl,.slice J R c5,.slice U W O])/\(NB ((K.alloc Az).setCells K.1.size 0 [.int .i64 f.lvl,.slice J R c5,.slice U W O]) (K.1.size) f.lvl J R c5 U W O/\Jl (Turn S ((K.alloc Az).setCells K.1.size 0 [.int .i64 f.lvl,.slice J R c5,.slice U W O])) (Ye ⟨f,ad,nx,hd,sh⟩ i j y) J R c5 U W O/\Below I.1.size I ((K.alloc Az).setCells K.1.size 0 [.int .i64 f.lvl,.slice J R c5,.slice U W O])):=by
   intro u hu X hX;refine (Hj S (λk hk=>.inl hk) u (λk hk=>by have:=l6 k hk;have:=hu.size;omega) hu X hX).mono ?_;rintro e K ⟨J,R,c5,U,W,O,rfl,h1,h2⟩;have hz:=q4v K;have e8:=hu.trans (h2.mono hu.size);have T8:Turn (λk=>k=K.1.size) (K.alloc Az) ((K.alloc Az).setCells K.1.size 0 [.int .i64 f.lvl,.slice J R c5,.slice U W O]):=Us (S:=λk=>k=K.1.size) rfl _ 0 _;have p5:Below K.1.size K ((K.alloc Az).setCells K.1.size 0 [.int .i64 f.lvl,.slice J R c5,.slice U W O]):=((Below.refl _ _).alloc (Nat.le_refl _) Az).trans (T8.below (λk hk=>by have:k=K.1.size:=hk;omega) (by simp));exact⟨J,R,c5,U,W,O,rfl,e8,qib hz f.lvl J R c5 U W O,hz.stored f.lvl J R c5 U W O,h1.mono λv hv=>(Qv (S:=S) p5).then hv,e8.trans (p5.mono e8.size)⟩
  have E:Below I.1.size I I.drew:=(Below.refl _ _).drew;have bA:Below I.1.size I (I.alloc Az).drew:=(Qm).drew;have zA:NB (I.alloc Az).drew I.1.size 0 none 0 0 none 0 0:=q4v I;replace cB:=Lib.hid cB;replace g6:=Lib.hid g6;replace k4:=Lib.hid k4;replace zA:=Lib.hid zA;have q5:=Lib.hid L4;have l9:=Lib.hid i9;clear Hj hB o8 i9 q1 q2 L0 L4;go_cut [14] from 34 to 47 (λq wx=>∃(qz:Nat) (J:Option Addr) (R c5:Nat) (U:Option Addr) (W O:Nat),q=.pointer (some ⟨qz,0,none⟩)/\I.1.size<=qz/\NB wx qz f.lvl J R c5 U W O/\Jl (Turn S wx) (Ye ⟨f,ad,nx,hd,sh⟩ i j y) J R c5 U W O/\Below I.1.size I wx)
  case first=>
   go_region_held3 (λu=>u.cell? ⟨qb,0,none⟩=some (.int .i64 f.lvl)/\u.cell? ⟨qb,1,none⟩=some (.slice A n' c')/\u.cell? ⟨qb,2,none⟩=some (.slice B mm dd)/\u.cell? ⟨w.1.size+1,0,none⟩=some (.int .i64 f.lvl)/\u.cell? ⟨w.1.size+1,1,none⟩=some (.slice A2 n2 c2)/\u.cell? ⟨w.1.size+1,2,none⟩=some (.slice B2 m2 d2))
    (first|(with_reducible assumption)|(with_reducible exact cB.out _ E)|(with_reducible exact cB.out _ bA)|(with_reducible exact cB.out _ (E.alloc E.size _))|(with_reducible exact cB.out _ ((E.alloc E.size _).alloc (E.alloc E.size _).size _))|(with_reducible exact cB.out _ hF.out.2.2.2))
    (first
     |(go_at_call 107;(with_reducible refine (e9.out _).mono ?_);rintro e wX ⟨rfl,G⟩;(first|(have F:=a6.out;replace a6:=Lib.hid (And.intro F.1 (F.2.below G F.2.lt));clear F;replace E:=E.trans (G.mono E.size))|(have a6:=Lib.hid (And.intro E.size ((q4v _).below G (by simp)));replace E:=(E.alloc E.size Az).trans (G.mono (E.alloc E.size Az).size))|(have a6:=Lib.hid (And.intro (Nat.le_refl I.1.size) (zA.out.below G zA.out.lt));replace E:=bA.trans (G.mono bA.size))|(replace E:=E.trans (G.mono E.size)));clear G)
     |(go_at_call 107;(with_reducible refine (g8.out _).mono ?_);rintro e wX ⟨rfl,G⟩;(first|(have F:=a6.out;replace a6:=Lib.hid (And.intro F.1 (F.2.below G F.2.lt));clear F;replace E:=E.trans (G.mono E.size))|(have a6:=Lib.hid (And.intro E.size ((q4v _).below G (by simp)));replace E:=(E.alloc E.size Az).trans (G.mono (E.alloc E.size Az).size))|(have a6:=Lib.hid (And.intro (Nat.le_refl I.1.size) (zA.out.below G zA.out.lt));replace E:=bA.trans (G.mono bA.size))|(replace E:=E.trans (G.mono E.size)));clear G)
     |(go_at_call 108;(with_reducible refine (HS.out _).mono ?_);rintro e wX ⟨rfl,G⟩;(first|(have F:=a6.out;replace a6:=Lib.hid (And.intro F.1 (F.2.below G F.2.lt));clear F;replace E:=E.trans (G.mono E.size))|(have a6:=Lib.hid (And.intro E.size ((q4v _).below G (by simp)));replace E:=(E.alloc E.size Az).trans (G.mono (E.alloc E.size Az).size))|(have a6:=Lib.hid (And.intro (Nat.le_refl I.1.size) (zA.out.below G zA.out.lt));replace E:=bA.trans (G.mono bA.size))|(replace E:=E.trans (G.mono E.size)));clear G)
     |(go_at_call 106;have F:=a6.out;(with_reducible refine (g6.out _ (E.alloc E.size _) _ (And.intro F.1 (F.2.below (Qm) F.2.lt)) _ (b5.out _)).mono ?_);rintro e wJ ⟨J,R,c5,U,W,O,rfl,bJ,b4,hF⟩;replace E:=bJ;replace hF:=Lib.hid (And.intro F.1 hF);clear bJ)
     |(go_at_call 106;(with_reducible refine (k4.out _ (E.alloc E.size _) _ (b5.out _)).mono ?_);rintro e wJ ⟨J,R,c5,U,W,O,rfl,bJ,b4,hF⟩;replace E:=bJ;replace hF:=Lib.hid (And.intro bJ.size hF);clear bJ)
     |(go_at_call 106;(with_reducible refine (g6.out _ ((E.alloc E.size _).alloc (E.alloc E.size _).size _) _ (And.intro (Nat.le_succ_of_le E.size) (NB.new2 _ _ 0 none 0 0 none 0 0 127)) _ ((b5.out _).below (Qm))).mono ?_);rintro e wJ ⟨J,R,c5,U,W,O,rfl,bJ,b4,hF⟩;have hz:=E.size;replace hF:=Lib.hid (And.intro (Nat.le_succ_of_le hz) hF);replace E:=bJ;clear bJ)
     |(go_at_call 106;(with_reducible refine (g6.out _ ((E.alloc E.size _).alloc (E.alloc E.size _).size _) _ (And.intro E.size ((q4v _).below (Qm) (by simp))) _ (g4.out _)).mono ?_);rintro e wJ ⟨J,R,c5,U,W,O,rfl,bJ,b4,hF⟩;have hz:=E.size;replace hF:=Lib.hid (And.intro hz hF);replace E:=bJ;clear bJ)
     |fail)
   all_goals (go_wp2_with fail;go_meet;exact⟨_,_,_,_,_,_,_,rfl,hF.out.1,hF.out.2.1,hF.out.2.2.1,hF.out.2.2.2⟩)
  case rest=>
   obtain⟨qz,J,R,c5,U,W,O,rfl,v1,NZ,o5,BZ⟩:=hcut;have L5:=q5.out.below BZ;have T5:=T4.below BZ T4.lt;have R5:=R4.below BZ R4.lt;have o6:Jl (Turn S wc) f A n' c' B mm dd:=l9.out.mono λv hv=>(Qv (S:=S) BZ).then hv
   have TZ:Turn S w wc:=TW.trans (Qv (S:=S) BZ) λk hk=>.inl hk
   have zz:=BZ.size;have u7:=NZ.lt;obtain⟨p4,b2,q0⟩:=qwm (s:=⟨f,ad,nx,hd,sh⟩) i5 s8 i1.out hi;have q0:(Ye ⟨f,ad,nx,hd,sh⟩ i j y).size<=f.size+y.size:=q0;have b2:(Ye ⟨f,ad,nx,hd,sh⟩ i j y).lvl=f.lvl:=b2;have y0:=T5.cell 0 rfl;have f0:=R5.cell 0 rfl;have f1:=R5.cell 1 rfl;have f2:=R5.cell 2 rfl;have f3:=R5.cell 3 rfl;have f4:=R5.cell 4 rfl;have f5:=R5.cell 5 rfl;have f6:=R5.cell 6 rfl;have g0:=NZ.c0;have g1:=NZ.c1;have g2:=NZ.c2;clear E bA zA e9 g8 HS b5 g4 g6 k4 cB q5 l9
   cases way with
   |nil=>
    obtain⟨n4,k0,l5⟩:=qkb i2.out;obtain rfl:P1=n4:=Option.some.inj (b0.symm.trans k0);have Ht:=qtl L5.sys hb L5.tab L5.tidy ⟨f,ad,nx,hd,sh⟩ A n' c' B mm dd o6 (Ye ⟨f,ad,nx,hd,sh⟩ i j y) J R c5 U W O o5 p4 (by omega) (by rw[b2];exact k2) l5;rw[b2] at Ht;unfold tv Vh Xy at Ht;dsimp only at Ht;replace Ht:=Lib.hid Ht;obtain rfl:m=0:=l0.symm;clear l5 k0 b0 i2;go_wp2_with fail
    refine Ht.out.mono ?_;rintro e w6 ⟨v,rfl,hv,H6,X6,t6,p6⟩;have L6:=L5.step H6 X6 t6 p6;have TF:=TZ.then X6;go_wp2_with fail
    go_ret2;exact⟨v,rfl,hv,L6.done,TF,t6,p6⟩
   |cons t way=>
    obtain⟨n4,x,P2,P3,r2,k0,e7,m0,n9⟩:=qgc i2.out;obtain rfl:P1=n4:=Option.some.inj (b0.symm.trans k0);obtain⟨m9,p9,l3,o2,p7,s4⟩:=q7.out;have q6:∀u,Turn S w u->Vj (Turn S w) u X m c (way.reverse++[t]):=λu hu=>by
     have:=(hX u hu).take (show m<=n by omega);have e:((t::way).reverse++[(⟨f,ad,nx,hd,sh⟩:Qu)]).take m=way.reverse++[t]:=by
      have o7:(way.reverse++[t]).length=m:=by rw[<-l0];simp
      rw[List.reverse_cons,<-o7,List.take_left]
     rwa [e] at this
    have u5:way.length+1=m:=l0;have l8:Y5 (way.reverse++[t]) (m-1)=t:=by
     have:=q3p way.reverse t;rw[List.length_reverse] at this;rw[show m-1=way.length by omega];exact this
    have d4:=qg6 (q6 wc TZ) (by omega) (by omega);rw[l8] at d4;have k1:=qtq L5.good p4 m9 (by rw[b2];exact l3) (by rw[b2];exact k2.1) p7 e7;have a8:=λ{T2:Nat->Prop} {w2:World} {P3:Pl} (h:Qi b w2 d p S0 S T2 D P3)=>a8.out t way rfl h
    obtain⟨tN,i4,b8,g5,i8⟩:=t;unfold Vh at d4;dsimp only at m9 p9 l3 o2 p7 d4;have xl:x.N.lvl=f.lvl:=k1.lvl.trans b2;have gm:¬(m:Int)=0:=by omega
    have m1:=l3;replace m1:=Lib.hid m1;have d9:=λ(u:World) (hu:Below wc.1.size wc u) (A6:Option Addr) (n6 c6:Nat) (B6:Option Addr) (m6 d6:Nat) (hA:Rw (Turn S u) B6 m6 d6 tN.kids)=>qpw (L5.below hu).sys hb (L5.below hu).tab L5.tidy ⟨f,ad,nx,hd,sh⟩ A n' c' B mm dd (o6.mono λv hv=>(Qv (S:=S) hu).then hv) (Ye ⟨f,ad,nx,hd,sh⟩ i j y) J R c5 U W O (o5.mono λv hv=>(Qv (S:=S) hu).then hv) ⟨tN,i4,b8,g5,i8⟩ A6 n6 c6 B6 m6 d6 hA ⟨by show 1<=tN.lvl;omega,o2⟩ (by show b8<=60;omega) (by omega) e7
    rw[b2,xl] at d9;unfold tv Vh Xl Xy at d9;dsimp only at d9;replace d9:=Lib.hid d9;replace d4:=Lib.hid d4;have u1:1<=tN.lvl/\tN.lvl<8:=by omega
    have o1:=Lib.hid xl;clear k0 b0 i2 hX l8 l3 o2 xl b2;go_wp2_with fail
    refine d4.out.mono ?_;rintro e w6 ⟨A6,n6,c6,B6,m6,d6,rfl,s9,b6⟩;obtain⟨w7,o9,Q7,b7⟩:∃w7,(stS (.pointer (some ⟨w6.1.size,0,none⟩)) (.agg #[.int .i64 tN.lvl,.slice A6 n6 c6,.slice B6 m6 d6,.int .i64 i4,.int .i64 (b8:Int),.bool g5,.bool i8])).run Tryz.prog (w6.alloc Ud)=.ok () w7/\RB w7 w6.1.size (Ji tN.lvl A6 n6 c6 B6 m6 d6 i4 (b8:Int) g5 i8)/\Below w6.1.size w6 w7:=by
     have T7:Turn (λk=>k=w6.1.size) (w6.alloc Ud) ((w6.alloc Ud).setCells w6.1.size 0 (Ji tN.lvl A6 n6 c6 B6 m6 d6 i4 (b8:Int) g5 i8)):=Us (S:=λk=>k=w6.1.size) rfl _ 0 _;exact⟨_,qi3 (Ih w6) rfl tN.lvl A6 n6 c6 B6 m6 d6 i4 (b8:Int) g5 i8,(Ih w6).stored (Ji tN.lvl A6 n6 c6 B6 m6 d6 i4 (b8:Int) g5 i8) rfl,((Below.refl _ _).alloc (Nat.le_refl _) Ud).trans (T7.below (λk hk=>by have:k=w6.1.size:=hk;omega) (by simp))⟩
    have c9:=b6.trans (b7.mono b6.size);have z7:=c9.size;have z6:=b6.size;have x0:=Q7.lt;have L7:=L5.below c9;have T7:=T5.below c9 T5.lt;have R7:=R5.below c9 R5.lt;have N7:=NZ.below c9 NZ.lt;have q4:Rw (Turn S w7) B6 m6 d6 tN.kids:=λv hv=>s9.Bo v ((TZ.trans (Qv (S:=S) c9) λk hk=>.inl hk).then hv)
    clear y0 f0 f1 f2 f3 f4 f5 f6 g0 g1 g2;have y0:=T7.cell 0 rfl;have f0:=R7.cell 0 rfl;have f1:=R7.cell 1 rfl;have f2:=R7.cell 2 rfl;have f3:=R7.cell 3 rfl;have f4:=R7.cell 4 rfl;have f5:=R7.cell 5 rfl;have f6:=R7.cell 6 rfl;have g0:=N7.c0;have g1:=N7.c1;have g2:=N7.c2;have e0:=Q7.cell 0 rfl;have e1:=Q7.cell 1 rfl;have e2:=Q7.cell 2 rfl;have e3:=Q7.cell 3 rfl;have e4:=Q7.cell 4 rfl;have e5:=Q7.cell 5 rfl;have e6:=Q7.cell 6 rfl;go_wp2_with fail
    refine (d9.out w7 c9 A6 n6 c6 B6 m6 d6 q4).mono ?_;rintro e w8 ⟨A8,n8,c8,B8,m8,d8,Y,k,rfl,t2,s2,x2,H8,X8,t8⟩;have L8:=L7.step H8 X8 t8 (qpx L5.tidy e7);have T8:=T7.turned X8 (λh=>by have:=hS _ h;omega);have z8:=X8.size;clear o9 y0 f0 f1 f2 f3 f4 f5 f6 g0 g1 g2 e0 e1 e2 e3 e4 e5 e6 d9 d4 q4;obtain⟨xi,n0⟩:∃xi,x.i=xi:=⟨_,rfl⟩;obtain⟨xj,o0⟩:∃xj,x.j=xj:=⟨_,rfl⟩;rw[n0,o0];go_wp2_with (first
     |(refine q8l rfl (.tmp 16) _ rfl w8.1.size rfl f.lvl A8 n8 c8 B8 m8 d8 Y k k (xi:Int) (xj:Int) rfl (RB.new w8 (Xl 0 none 0 0 none 0 0 none 0 0 0 0) 183) rfl ?_;intro w9 R9 r6;have b9:Below w8.1.size w8 w9:=(Qm).trans (r6.below (λk hk=>by have:k=w8.1.size:=hk;omega) (by simp));have T9:=T8.below b9 T8.lt;have y0:=T9.cell 0 rfl;have f0:=R9.cell 0 rfl;have f1:=R9.cell 1 rfl;have f2:=R9.cell 2 rfl;have f3:=R9.cell 3 rfl;have f4:=R9.cell 4 rfl;have f5:=R9.cell 5 rfl)
     |fail)
    have L9:=L8.below b9;have z9:=b9.size;have u8:=R9.lt;have r0:Jl (Turn S w9) x.N A8 n8 c8 B8 m8 d8:=t2.mono λv hv=>(Qv (S:=S) b9).then hv
    have s6:∀u,Turn S w9 u->Vj (Turn S w9) u Y k k x.olds:=λu hu=>(s2 u ((Qv (S:=S) b9).then hu)).mono λv hv=>(Qv (S:=S) b9).then hv
    have x1:=k1.size;have Hl:=qk9 L9.sys hb L9.tab L9.tidy x A8 n8 c8 B8 m8 d8 r0 k1.fit (by omega) (by rw[o1.out];exact k2) Y k k s6 (by omega) m0 (xi:Int) (xj:Int);rw[o1.out] at Hl;unfold tv Xl Xy at Hl;replace Hl:=Lib.hid Hl;refine Hl.out.mono ?_;rintro e a2 ⟨i6,i7,g9,i3,j0,g7,l,rfl,l4,s5,k9,q8,r7⟩;have s3:=L9.step s5 k9 q8 r7;have p1:=T9.turned k9 (λh=>by have:=hS _ h;omega);have o4:=R9.turned k9 (λh=>by have:=hS _ h;omega);have v2:=k9.size;clear y0 f0 f1 f2 f3 f4 f5 Hl;obtain⟨k6,r4,m4,k7⟩:∃k6,(stB (.pointer (some ⟨a2.1.size,0,none⟩)) (.agg #[.int .i64 l,.slice i6 i7 g9,.slice i3 j0 g7])).run Tryz.prog (a2.alloc Az)=.ok () k6/\NB k6 a2.1.size l i6 i7 g9 i3 j0 g7/\Below a2.1.size a2 k6:=by
     have TT:Turn (λk=>k=a2.1.size) (a2.alloc Az) ((a2.alloc Az).setCells a2.1.size 0 [.int .i64 l,.slice i6 i7 g9,.slice i3 j0 g7]):=Us (S:=λk=>k=a2.1.size) rfl _ 0 _;exact⟨_,qib (q4v a2) l i6 i7 g9 i3 j0 g7,(q4v a2).stored l i6 i7 g9 i3 j0 g7,((Below.refl _ _).alloc (Nat.le_refl _) Az).trans (TT.below (λk hk=>by have:k=a2.1.size:=hk;omega) (by simp))⟩
    have a7:=s3.below k7;have q9:=p1.below k7 p1.lt;have p8:=o4.below k7 o4.lt;rcases n9 with⟨rfl,rfl,rfl⟩|⟨ks,rfl,d1⟩
    ·unfold Qaa;dsimp only;go_wp2_with fail
     go_ret2;exact⟨0,rfl,λa e=>(by cases e),a7.done,a7.turn,a7.tab,a7.tidy⟩
    ·obtain⟨hl,l7⟩:=l4 ks rfl;have r9:ks.length<=7:=by
      rw[qwn m0];exact qmh (by omega)
     rw[o1.out] at d1;have HR:=a8 a7.sys a7.tab a7.tidy m9 p9 ⟨by show 0<=tN.lvl;omega,u1.2⟩ (Lib.hid s4) (λu hu=>(q6 u (a7.turn.then hu)).mono λv hv=>a7.turn.then hv) ⟨f.lvl+1,[],ks⟩ ⟨λh=>by
       have h:f.lvl+1=0:=h;omega,λ_=>rfl⟩ (by unfold Nd.size;simp;exact r9) m1.out.symm i6 i7 g9 i3 j0 g7 (l7.mono λv hv=>(Qv (S:=S) k7).then hv) x.i x.j k1.ij k1.j d1
     dsimp only at HR;rw[<-hl,n0,o0] at HR;unfold tv Xy at HR;replace HR:=Lib.hid HR;have y0:=q9.cell 0 rfl;have f4:=p8.cell 4 rfl;have f5:=p8.cell 5 rfl;have g0:=m4.c0;have g1:=m4.c1;have g2:=m4.c2;clear hl l4 l7 d1 n0 o0;unfold Qaa;dsimp only;go_wp2_with fail
     refine HR.out.mono ?_;rintro e u9 ⟨v,rfl,hv,s0,r8,p0,p2⟩;have p3:=a7.step s0 r8 p0 p2;go_wp2_with fail
     go_ret2;exact⟨v,rfl,hv,p3.done,p3.turn,p0,p2⟩
end
end
