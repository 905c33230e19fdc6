/- The code's edit: enough, of any node; plain facts of an exchange -/
import Derived.Test.YtnnbaihfboacoaaGreatDoorHaT
namespace Go.Proofs.YtnnbaihfboacoaaGreatDoor
open Go Go.RowKit Go.Proofs
set_option maxHeartbeats 8000000
set_option maxRecDepth 100000
section
variable {b:Nat}{w:World}{d p:Nat}{S0 S T:Nat->Prop}{D:DM}{P P':Pl}
theorem qpw (H:Qi b w d p S0 S T D P)(hb:1<b)(ht:Tab w)(hP:P.tidy)(s:Qu)(A:Option Addr)(n c:Nat)(B:Option Addr)(m dd:Nat)(hs:Jl (Turn S w) s.N A n c B m dd)(N:Nd)(J:Option Addr)(X c2:Nat)(M:Option Addr)(U Q:Nat)(hB:Jl (Turn S w) N J X c2 M U Q)(above:Qu)(A3:Option Addr)(n3 c3:Nat)(B3:Option Addr)(m3 d3:Nat)(hA:Rw (Turn S w) B3 m3 d3 above.N.kids)(hl:1<=above.N.lvl/\above.N.lvl<8)(I:above.next<=60)(a1:N.size<=20){x:Px}(F:P.have_ D s N above=some (x,P')) :
  Calls Tryz.prog 110 #[tv p,Vh s A n c B m dd,Xy N.lvl J X c2 M U Q,Vh above A3 n3 c3 B3 m3 d3] w λe E=>∃K Z c5 O W R Y k,e=.returned (.tuple #[.agg (Xl x.N.lvl K Z c5 O W R Y k k (x.i:Int) (x.j:Int)).toArray,.int .i64 0])/\Jl (Turn S E) x.N K Z c5 O W R/\(∀u,Turn S E u->Vj (Turn S E) u Y k k x.olds)/\k<=2/\Qi b E d p S0 S T D P'/\Turn S w E/\Tab E:=by
 unfold Pl.have_ at F;by_cases f:Qr N.lvl<=N.size
 ·rw[if_pos f] at F;injection Option.some.inj F with e1 e2;subst e1 e2;refine (qmf H ht s A n c B m dd hs N J X c2 M U Q hB above A3 n3 c3 B3 m3 d3 I f).mono ?_;rintro e E ⟨Y,rfl,h1,h2,G⟩;exact⟨J,X,c2,M,U,Q,Y,1,rfl,h1,h2,by omega,H.below G,Qv G,ht.below G ht.1⟩
 ·rw[if_neg f] at F;by_cases h0:0<above.next
  ·rw[if_pos h0] at F;obtain⟨P2,y,e⟩:=Option.map_eq_some_iff.1 F;injection e with e1 e2;subst e1 e2;unfold Pl.near at y;split at y
   ·rename_i hk;refine (qnc H hb ht hP s A n c B m dd hs N J X c2 M U Q hB above A3 n3 c3 B3 m3 d3 hA hl I f a1 h0 hk y).mono ?_;rintro e E ⟨K,Z,c5,O,W,R,Y,rfl,h1,h2,G,h4,h5⟩;exact⟨K,Z,c5,O,W,R,Y,2,rfl,h1,h2,by omega,G,h4,h5⟩
   ·cases y
  ·rw[if_neg h0] at F;obtain⟨P2,y,e⟩:=Option.map_eq_some_iff.1 F;injection e with e1 e2;subst e1 e2;unfold Pl.near at y;split at y
   ·rename_i hk;refine (qnd H hb ht hP s A n c B m dd hs N J X c2 M U Q hB above A3 n3 c3 B3 m3 d3 hA hl I f a1 h0 hk y).mono ?_;rintro e E ⟨K,Z,c5,O,W,R,Y,rfl,h1,h2,G,h4,h5⟩;exact⟨K,Z,c5,O,W,R,Y,2,rfl,h1,h2,by omega,G,h4,h5⟩
   ·cases y
theorem qpx {s above:Qu}{N:Nd}{x:Px}(h:P.tidy)(m:P.have_ D s N above=some (x,P')):P'.tidy:=by
 have near:∀{i:Nat} {u:Pl},P.near D above i=some u->u.tidy:=λ{i u} f=>by
  unfold Pl.near at f;split at f
  ·exact h.Qx f
  ·cases f
 unfold Pl.have_ at m;split at m
 ·injection Option.some.inj m with A y;subst y;exact h
 ·split at m
  ·obtain⟨u,f,e⟩:=Option.map_eq_some_iff.1 m;injection e with A y;subst y;exact near f
  ·obtain⟨u,f,e⟩:=Option.map_eq_some_iff.1 m;injection e with A y;subst y;exact near f
end
def Vt:Qu->List Qu->Prop
 |_,[]=>True
 |s,t::way=>t.N.fit/\t.N.size<=12/\t.N.lvl=s.N.lvl+1/\t.N.lvl<8/\t.next+1<=t.N.size/\Vt t way
theorem qpy {N:Nd}(h:N.fit){i j:Nat}(e:i<=j):(N.cut 0 i).size+(N.cut j N.size).size<=N.size:=by
 obtain⟨h1,h2⟩:=h;unfold Nd.cut;by_cases h0:N.lvl=0
 ·rw[if_pos h0,if_pos h0];unfold Nd.size;simp only[h1 h0,List.length_nil,List.length_take,List.length_drop];omega
 ·rw[if_neg h0,if_neg h0];unfold Nd.size;simp only[h2 h0,List.length_nil,List.length_take,List.length_drop];omega
theorem qeg {l:Int}{N M:Nd}(h:N.fit)(hm:M.fit)(m:N.lvl=l)(f:M.lvl=l):(⟨l,N.items++M.items,N.kids++M.kids⟩:Nd).fit:=by
 refine⟨λh0=>?_,λh0=>?_⟩
 ·have h0:l=0:=h0;show N.kids++M.kids=[];rw[h.1 (m.trans h0),hm.1 (f.trans h0)];rfl
 ·have h0:¬l=0:=h0;show N.items++M.items=[];rw[h.2 (λe=>h0 (m.symm.trans e)),hm.2 (λe=>h0 (f.symm.trans e))];rfl
theorem q96 {l:Int}{N M:Nd}:Jd l [N,M]=⟨l,N.items++M.items,N.kids++M.kids⟩:=by unfold Jd;simp
theorem qpz (N:Nd)(i j:Nat):(N.cut i j).lvl=N.lvl:=by unfold Nd.cut;split<;>rfl
theorem qwm {s:Qu}{f:Nd}{i j:Nat}(h:s.N.fit)(A:f.fit)(B:f.lvl=s.N.lvl)(m:i<=j):(Ye s i j f).fit/\(Ye s i j f).lvl=s.N.lvl/\(Ye s i j f).size<=s.N.size+f.size:=by
 have h1:=qpy h m;have u:=q7u h 0 i;have y:=q7u h j s.N.size;have E:=qpz s.N 0 i;have F:=qpz s.N j s.N.size;have e:Ye s i j f=⟨s.N.lvl,(s.N.cut 0 i).items++(f.items++(s.N.cut j s.N.size).items),(s.N.cut 0 i).kids++(f.kids++(s.N.cut j s.N.size).kids)⟩:=by unfold Ye Jd;simp
 rw[e];refine⟨qeg u (qeg A y B F) E rfl,rfl,?_⟩;unfold Nd.size at h1 ⊢;simp only[List.length_append];omega
structure Qbt (x:Px)(b:Nd)(above:Qu):Prop where
 fit:x.N.fit
 size:x.N.size<=b.size+12
 lvl:x.N.lvl=b.lvl
 ij:x.i<=x.j
 j:x.j<=above.N.size
theorem qtq {P P':Pl}{D:DM}{s above:Qu}{b:Nd}{x:Px}(I:∀a b,P.L a=some b->b.good)(E:b.fit)(_:above.N.fit)(K:above.N.lvl=b.lvl+1)(_:0<=b.lvl)(hn:above.next+1<=above.N.size)(h:P.have_ D s b above=some (x,P')):Qbt x b above:=by
 have kid:∀i,P.Wn D above i=true->(P.Jj D above i).N.fit/\(P.Jj D above i).N.size<=12/\(P.Jj D above i).N.lvl=b.lvl/\i<above.N.size:=λi u=>by
  obtain⟨M,J,O⟩:=of_decide_eq_true u;have hm:=qlc I _ J;refine⟨Nj hm,q5y hm,?_,by unfold Nd.size;omega⟩;show (P.Qh D (Qg above.N.kids i).a).lvl=_;omega
 unfold Pl.have_ at h;split at h
 ·injection Option.some.inj h with m F;subst m;exact⟨E,Nat.le_add_right _ _,rfl,Nat.le_succ _,hn⟩
 ·split at h
  ·rename_i h0;obtain⟨H,f,e⟩:=Option.map_eq_some_iff.1 h;injection e with m F;subst m;unfold Pl.near at f;split at f
   ·rename_i u;obtain⟨A,B,y,G⟩:=kid _ u;refine⟨?_,?_,y,?_,hn⟩
    ·dsimp only;rw[q96];exact qeg A E rfl y.symm
    ·dsimp only;rw[q96];unfold Nd.size at B ⊢;simp only[List.length_append];omega
    ·dsimp only;omega
   ·cases f
  ·obtain⟨H,f,e⟩:=Option.map_eq_some_iff.1 h;injection e with m F;subst m;unfold Pl.near at f;split at f
   ·rename_i u;obtain⟨A,B,y,G⟩:=kid _ u;refine⟨?_,?_,rfl,?_,G⟩
    ·dsimp only;rw[q96];exact qeg E A rfl y
    ·dsimp only;rw[q96];unfold Nd.size at B ⊢;simp only[List.length_append];omega
    ·dsimp only;omega
   ·cases f
theorem q49:∀(olds:List Qu) (P:Pl) (m:List Nd) (y:List Ql) {P':Pl} {f:List Nd} {u:List Ql},Gu olds P m y=some (P',f,u)->u.length+f.length=y.length+m.length
 |[],P,m,y,P',f,u,h=>by
  injection Option.some.inj h with H B;injection B with B F;rw[<-B,<-F]
 |s::olds,P,[],y,P',f,u,h=>by
  obtain⟨A,_,h2⟩:=qal h;exact q49 olds A [] y h2
 |s::olds,P,b::m,y,P',f,u,h=>by
  by_cases E:s.shared=true\/P.C.fresh s.addr=false
  ·obtain⟨A,_,h2⟩:=q48 E h;exact q49 olds A (b::m) y h2
  ·have h1:s.shared=false:=by
    cases e:s.shared with
    |false=>rfl
    |true=>exact absurd (.inl e) E
   have h2:P.C.fresh s.addr=true:=by
    cases e:P.C.fresh s.addr with
    |true=>rfl
    |false=>exact absurd (.inr e) E
   obtain⟨_,G⟩:=qam h1 h2 h;have:=q49 olds _ m _ G;rw[List.length_append] at this;simp at this ⊢;omega
theorem qco:∀(e:List Nd) (P:Pl) (m:List Ql) {P':Pl} {f:List Ql},Xe e P m=some (P',some f)->f.length=m.length+e.length
 |[],P,m,P',f,h=>by
  injection Option.some.inj h with y u;rw[<-Option.some.inj u];rfl
 |b::e,P,m,P',f,h=>by
  rcases qan h with⟨_,h2⟩|⟨_,h2⟩
  ·have:=qco e _ _ h2;rw[List.length_append] at this;simp at this ⊢;omega
  ·injection h2 with _ h2
   cases h2
theorem qmh {N:Nd}(h:N.size<=31):(pieces N).length<=7:=by
 unfold pieces;rw[List.length_map,List.length_range];unfold parts;have h1:6<=Qq N.lvl:=by unfold Qq;split<;>omega
 have h2:N.size+Qq N.lvl-1<8*Qq N.lvl:=by omega
 have:=Nat.div_lt_of_lt_mul (m:=N.size+Qq N.lvl-1) (n:=Qq N.lvl) (k:=8) (by rw[Nat.mul_comm];exact h2);omega
theorem qwn {P P':Pl}{x:Px}{ks:List Ql}(h:P.Y7 x=some (P',some ks)):ks.length=(pieces x.N).length:=by
 unfold Pl.Y7 at h;split at h
 ·rename_i u f m e;have h1:=q49 _ _ _ _ e;have h2:=qco _ _ _ h;simp at h1;omega
 ·cases h
theorem qgc {D:DM}{above:Qu}{way:List Qu}{P P':Pl}{s:Qu}{i j:Nat}{e:Nd}{r:Option Int}(h:Wj D (above::way) P s i j e=some (P',r)) :
  ∃m x u f A,P.Qx s i j=some m/\m.have_ D s (Ye s i j e) above=some (x,u)/\u.Y7 x=some (f,A)/\((A=none/\f=P'/\r=none)\/∃y,A=some y/\Wj D way f above x.i x.j ⟨x.N.lvl+1,[],y⟩=some (P',r)):=by
 have h:(match P.Qx s i j with
  |some m=>match m.have_ D s (Ye s i j e) above with
   |some (x,u)=>match u.Y7 x with
    |some (f,some y)=>Wj D way f above x.i x.j ⟨x.N.lvl+1,[],y⟩
    |some (f,none)=>some (f,none)
    |none=>none
   |none=>none
  |none=>none)=some (P',r):=h
 cases h1:P.Qx s i j with
 |none=>rw[h1] at h;cases h
 |some m=>
  rw[h1] at h;dsimp only at h
  cases h2:m.have_ D s (Ye s i j e) above with
  |none=>rw[h2] at h;cases h
  |some q=>
   obtain⟨x,u⟩:=q;rw[h2] at h;dsimp only at h
   cases B:u.Y7 x with
   |none=>rw[B] at h;cases h
   |some q=>
    obtain⟨f,A⟩:=q;rw[B] at h;refine⟨m,x,u,f,A,rfl,h2,B,?_⟩
    cases A with
    |none=>
     injection Option.some.inj h with E F;exact .inl ⟨rfl,E,F.symm⟩
    |some y=>exact .inr ⟨y,rfl,h⟩
theorem qkb {D:DM}{P P':Pl}{s:Qu}{i j:Nat}{e:Nd}{r:Option Int}(h:Wj D [] P s i j e=some (P',r)):∃f,P.Qx s i j=some f/\f.top s (Ye s i j e)=some (P',r):=by
 have h:(match P.Qx s i j with|some f=>f.top s (Ye s i j e)|none=>none)=some (P',r):=h
 cases h1:P.Qx s i j with
 |none=>rw[h1] at h;cases h
 |some f=>rw[h1] at h;exact⟨f,rfl,h⟩
theorem q3p (l:List Qu)(s:Qu):Y5 (l++[s]) l.length=s:=by simp[Y5]
section
def stB (p v:Value):Sem Unit:=Instr.storeAt 127 p v
theorem qtr (p v:Value):Instr.storeAt 127 p v=stB p v:=rfl
theorem qib {w:World}{b:Nat}{l:Int}{A:Option Addr}{n c:Nat}{B:Option Addr}{m d:Nat}(H:NB w b l A n c B m d)(y:Int)(e:Option Addr)(F c2:Nat)(f:Option Addr)(E u:Nat) :
  (stB (.pointer (some ⟨b,0,none⟩)) (.agg #[.int .i64 y,.slice e F c2,.slice f E u])).run Tryz.prog w=.ok () (w.setCells b 0 [.int .i64 y,.slice e F c2,.slice f E u]):=
 run_storeAt_mid w b 0 127 #[.int .i64 y,.slice e F c2,.slice f E u] H.there (by kernel_rfl) (by simp[Value.oneCell'])
abbrev Az:Obj:=.cells #[.int .i64 0,.slice none 0 0,.slice none 0 0] 127
theorem q4v (w:World):NB (w.alloc Az) w.1.size 0 none 0 0 none 0 0:=NB.new w 0 none 0 0 none 0 0 127
attribute [local go_sem ↓] qe9
attribute [local go_sem ↓] qtr
section
variable {b:Nat}{d p:Nat}{S0 S:Nat->Prop}{D:DM}
def Gz (b:Nat)(d p:Nat)(S0 S T:Nat->Prop)(D:DM)(w:World)(P':Pl)(r:Option Int)(e:Ending)(w':World):Prop:=∃v,e=.returned (.tuple #[.int .i64 v,.int .i64 (Qbp r)])/\(∀a,r=some a->v=a)/\Qi b w' d p S0 S T D P'/\Turn S w w'/\Tab w'/\P'.tidy
theorem Bf.good {b:Nat}{w0 w:World}{d p:Nat}{S0 S T T':Nat->Prop}{D:DM}{P:Pl}(h:Bf b w0 w d p S0 S T T' D P):∀a b,P.L a=some b->b.good:=by
 obtain⟨m,c,l,k,v,e,L⟩:=h.sys.pool;exact L.good
theorem qcp {w:World}{T:Nat->Prop}{P P1:Pl}(H:Qi b w d p S0 S T D P)(hb:1<b)(ht:Tab w)(hP:P.tidy)(s:Qu)(way:List Qu)(i4:s.N.fit)(p7:s.N.size<=12)(k9:0<=s.N.lvl/\s.N.lvl<8)(X:Option Addr)(n c:Nat)(hX:∀u,Turn S w u->Vj (Turn S w) u X n c (way.reverse++[s]))(hn:n<=20)
  (y:Nd) (s2:y.fit) (s0:y.size<=7) (i2:y.lvl=s.N.lvl) (A2:Option Addr) (n2 c2:Nat) (B2:Option Addr) (m2 d2:Nat) (hB:Jl (Turn S w) y A2 n2 c2 B2 m2 d2) (i j:Nat) (hi:i<=j) (hj:j<=s.N.size) {P':Pl} {r:Option Int} (i3:Wj D way P s i j y=some (P',r)) (b0:P.Qx s i j=some P1) (s9:Hid (Vt s way))
  (a8:∀(t:Qu) (g4:List Qu),way=t::g4->∀{T2:Nat->Prop} {w2:World} {P3:Pl} (_:Qi b w2 d p S0 S T2 D P3) (_:Tab w2) (_:P3.tidy) (_:t.N.fit) (_:t.N.size<=12) (_:0<=t.N.lvl/\t.N.lvl<8) (_:Hid (Vt t g4)) (_:∀u,Turn S w2 u->Vj (Turn S w2) u X (n-1) c (g4.reverse++[t])) (a1:Nd) (_:a1.fit) (_:a1.size<=7) (_:a1.lvl=t.N.lvl) (A:Option Addr) (n' c':Nat) (B:Option Addr) (m' d':Nat) (_:Jl (Turn S w2) a1 A n' c' B m' d') (i j:Nat) (_:i<=j) (_:j<=t.N.size) (_:Wj D g4 P3 t i j a1=some (P',r)),Calls Tryz.prog 65 #[tv p,.slice X (n-1) c,.int .i64 (i:Int),.int .i64 (j:Int),Xy a1.lvl A n' c' B m' d'] w2 (Gz b d p S0 S T2 D w2 P' r)) :
  Calls Tryz.prog 65 #[tv p,.slice X n c,.int .i64 (i:Int),.int .i64 (j:Int),Xy y.lvl A2 n2 c2 B2 m2 d2] w (Gz b d p S0 S T D w P' r):=by
 rw[i2];replace i2:=Lib.hid i2;replace i3:=Lib.hid i3;have hS:=H.low;have g3:=(hX w (Turn.refl _ _)).len;have u2:=(hX w (Turn.refl _ _)).cap;rw[List.length_append,List.length_reverse] at g3;have g3:way.length+1=n:=g3;obtain⟨m,hm⟩:∃m,n-1=m:=⟨_,rfl⟩;rw[hm] at a8;replace a8:=Lib.hid a8;have k6:way.length=m:=by omega
 have Z:=λ(u:World) (hu:Turn S w u)=>qg6 (hX u hu) (by omega) (by omega)
 have b5:Y5 (way.reverse++[s]) (n-1)=s:=by
  have:=q3p way.reverse s;rw[List.length_reverse,k6] at this;rw[hm];exact this
 rw[b5] at Z;have j8:∀u,Below w.1.size w u->Turn S w u:=λu hu=>Qv hu
 obtain⟨f,ad,nx,hd,sh⟩:=s;unfold Vh at Z;dsimp only at i4 p7 k9 i2 hj Z ⊢;replace Z:=Lib.hid Z;have b1:Below w.1.size w ((w.alloc (.cells #[.pointer (some ⟨p,0,none⟩)] 122)).alloc (.cells #[.int .i64 f.lvl,.slice A2 n2 c2,.slice B2 m2 d2] 127)):=(Qm).alloc (by simp) _;have T1:RB ((w.alloc (.cells #[.pointer (some ⟨p,0,none⟩)] 122)).alloc (.cells #[.int .i64 f.lvl,.slice A2 n2 c2,.slice B2 m2 d2] 127)) w.1.size [.pointer (some ⟨p,0,none⟩)]:=(RB.new w [.pointer (some ⟨p,0,none⟩)] 122).below (Qm) (by simp);have N1:NB ((w.alloc (.cells #[.pointer (some ⟨p,0,none⟩)] 122)).alloc (.cells #[.int .i64 f.lvl,.slice A2 n2 c2,.slice B2 m2 d2] 127)) (w.1.size+1) f.lvl A2 n2 c2 B2 m2 d2:=NB.new2 w _ _ _ _ _ _ _ _ _;have hw:IntKind.i64.wrap ((n:Int)-1)=(m:Int):=by rw[show (n:Int)-1=(m:Int) by omega];exact IntWalk.i64_in _ (by omega)
 have u7:(0:Int)<=(m:Int):=by omega
 have u8:(m:Int)<=(c:Int):=by omega
 clear hm g3 b5;unfold tv Xy;go_enter Tryz.func65,Tryz.ntmps65
 go_wp2_with fail
 generalize ((w.alloc (.cells #[.pointer (some ⟨p,0,none⟩)] 122)).alloc (.cells #[.int .i64 f.lvl,.slice A2 n2 c2,.slice B2 m2 d2] 127))=w1 at b1 T1 N1 ⊢;have z1:=N1.lt;have z0:=b1.size;have bD:Below w1.1.size w1 w1.drew:=(Below.refl _ _).drew;have bA:Below w1.1.size w1 (w1.alloc Ud).drew:=(Qm).drew;have QA:RB (w1.alloc Ud).drew w1.1.size (Ji 0 none 0 0 none 0 0 0 0 false false):=Ih w1;have hK:∀u:World,Below w1.1.size w1 u->True:=λ_ _=>trivial
 replace j8:=Lib.hid j8;go_cut [1,12] from 19 to 25 (λx q wx=>∃(qb:Nat) (A:Option Addr) (n' c':Nat) (B:Option Addr) (mm dd:Nat),x=.slice X m c/\q=.pointer (some ⟨qb,0,none⟩)/\w1.1.size<=qb/\RB wx qb (Ji f.lvl A n' c' B mm dd ad (nx:Int) hd sh)/\Jl (Turn S wx) f A n' c' B mm dd/\Below w1.1.size w1 wx)
 case first=>
  go_region_held3 (λ_=>True)
   (first|(with_reducible assumption)|exact trivial)
   (first
    |(go_at_call 64;(with_reducible refine (Z.out w1.drew (j8.out _ (b1.trans (bD.mono b1.size)))).mono ?_);rintro e w3 ⟨A3,n3,c3,B3,m3,d3,rfl,m9,i1⟩;have b2:Below w1.1.size w1 w3:=bD.trans i1;have j7:=b2.alloc b2.size Ud;obtain⟨b5,RQ,TQ,BQ⟩:=qea j7 b2.size (Ih w3) rfl f.lvl A3 n3 c3 B3 m3 d3 ad (nx:Int) hd sh;have HX:=Lib.hid (And.intro RQ (And.intro TQ (And.intro BQ (And.intro j7 b2))));clear RQ TQ BQ j7 i1)
    |(go_at_call 64;(with_reducible refine (Z.out (w1.alloc Ud).drew (j8.out _ (b1.trans (bA.mono b1.size)))).mono ?_);rintro e w3 ⟨A3,n3,c3,B3,m3,d3,rfl,m9,i1⟩;have b2:Below w1.1.size w1 w3:=bA.trans (i1.mono bA.size);obtain⟨b5,RQ,TQ,BQ⟩:=qea b2 (Nat.le_refl _) (QA.below i1 QA.lt) rfl f.lvl A3 n3 c3 B3 m3 d3 ad (nx:Int) hd sh;have HX:=Lib.hid (And.intro RQ (And.intro TQ (And.intro BQ (And.intro b2 b2))));clear RQ TQ BQ i1)
    |fail)
  ·obtain⟨RQ,TQ,BQ,j7,_⟩:=HX.out;go_wp2_with fail
   go_meet
   exact⟨w3.1.size,A3,n3,c3,B3,m3,d3,rfl,rfl,b2.size,RQ,m9.mono λv hv=>(Qv (S:=S) (b1.trans (BQ.mono b1.size))).trans hv λk hk=>.inl hk,BQ⟩
  ·obtain⟨RQ,TQ,BQ,j7,_⟩:=HX.out;go_wp2_with fail
   go_meet
   exact⟨w1.1.size,A3,n3,c3,B3,m3,d3,rfl,rfl,Nat.le_refl _,RQ,m9.mono λv hv=>(Qv (S:=S) (b1.trans (BQ.mono b1.size))).trans hv λk hk=>.inl hk,BQ⟩
 case rest=>
  obtain⟨qb,A,n',c',B,mm,dd,rfl,rfl,v1,RQ,e7,BQ⟩:=hcut;have k5:f.size<=20:=by omega
  have k8:=e7.hn;have k7:=e7.hm;have k1:=e7.size;have s3:=qai e7 i4 hj;have L0:=((Bf.start H hb ht hP).below b1).below BQ;have TC:=T1.below BQ T1.lt;have NC:=N1.below BQ N1.lt;have zq:=BQ.size;have Hr:=q8n L0.sys hb L0.tab ⟨f,ad,nx,hd,sh⟩ i4 A n' c' B mm dd e7 i j hi hj k5 b0;unfold tv Vh at Hr;dsimp only at Hr;replace Hr:=Lib.hid Hr;have y0:=TC.cell 0 rfl;have f0:=RQ.cell 0 rfl;have f1:=RQ.cell 1 rfl;have f2:=RQ.cell 2 rfl;have f3:=RQ.cell 3 rfl;have f4:=RQ.cell 4 rfl;have f5:=RQ.cell 5 rfl;have f6:=RQ.cell 6 rfl;clear j8 hK QA bA bD Z;go_wp2_with fail
  refine Hr.out.mono ?_;rintro e I ⟨rfl,H4,X4,t4⟩;have L4:=L0.step H4 X4 t4 (hP.Qx b0);have z4:=X4.size;have R4:=RQ.turned X4 (λh=>by have:=hS _ h;omega);have T4:=TC.turned X4 (λh=>by have:=hS _ h;omega);have N4:=NC.turned X4 (λh=>by have:=hS _ h;omega);have TW:Turn S w I:=(Qv (S:=S) (b1.trans (BQ.mono b1.size))).then X4;have p0:Jl (Turn S I) y A2 n2 c2 B2 m2 d2:=hB.mono λv hv=>TW.then hv
  have i5:Jl (Turn S I) f A n' c' B mm dd:=e7.mono λv hv=>X4.then hv
  clear y0 f0 f1 f2 f3 f4 f5 f6 Hr TC NC RQ e7;go_wp2_with fail
  obtain⟨A6,n6,c6,B6,m6,d6,e1,q1,l1⟩:=q7t i5 (i:=0) (j:=i) (Nat.zero_le _) (by omega);obtain⟨A7,n7,c7,B7,m7,d7,e2,q2,l2⟩:=q7t i5 (i:=j) (j:=f.size) (by omega) (qai i5 i4 (Nat.le_refl _));have b8:=λu=>q3o f.lvl A n' c' B mm dd 0 i (Nat.zero_le _) (by omega) ⟨k8.2.1,k8.2.2⟩ ⟨k7.2.1,k7.2.2⟩ u
  have g7:=λu=>q3o f.lvl A n' c' B mm dd j f.size (by omega) (qai i5 i4 (Nat.le_refl _)) ⟨k8.2.1,k8.2.2⟩ ⟨k7.2.1,k7.2.2⟩ u
  have HS:=λu=>q29 f.lvl A n' c' B mm dd (by omega) (by omega) u
  rw[e1] at b8;rw[show ((0:Nat):Int)=0 from rfl] at b8;rw[e2] at g7;rw[<-k1] at HS;unfold Xy at b8 g7 HS;replace b8:=Lib.hid b8;replace g7:=Lib.hid g7;replace HS:=Lib.hid HS;clear e1 e2 s3 k1;have b4:=λu=>qpm (Q:=Turn S I) u 127 q1 p0 q2
  rw[l1,l2,i2.out] at b4;have f9:∀u:World,Ac (Turn S I) ((u.alloc Az).alloc (.cells #[.int .i64 f.lvl,.slice A6 n6 c6,.slice B6 m6 d6,.int .i64 f.lvl,.slice A2 n2 c2,.slice B2 m2 d2,.int .i64 f.lvl,.slice A7 n7 c7,.slice B7 m7 d7] 127)) (some ⟨u.1.size+1,0,none⟩) 3 3 [f.cut 0 i,y,f.cut j f.size]:=λu=>by
   have:=b4 (u.alloc Az);rwa [World.size_alloc] at this
  replace b4:=Lib.hid b4;replace f9:=Lib.hid f9;have u3:y.items.length<=7/\y.kids.length<=7:=by unfold Nd.size at s0;omega
  have u5:f.items.length<=12/\f.kids.length<=12:=by unfold Nd.size at p7;omega
  have l4:∀k,S k->k<I.1.size:=λk hk=>by have:=hS k hk;omega
  have Hj:∀(S':Nat->Prop) (_:∀k,S' k->S k\/I.1.size<=k) (u:World) (_:∀k,S' k->k<u.1.size) (_:Below I.1.size I u) (X:Option Addr) (_:Ac (Turn S I) u X 3 3 [f.cut 0 i,y,f.cut j f.size]),Calls Tryz.prog 106 #[.slice X 3 3] u λe W=>∃A n c B m d,e=.returned (Xy f.lvl A n c B m d)/\Jl (Turn S' W) (Ye ⟨f,ad,nx,hd,sh⟩ i j y) A n c B m d/\Below u.1.size u W:=λS' r6 u r7 hu X hX=>
   q47 (S:=S') (w:=u) r7 [f.cut 0 i,y,f.cut j f.size] f.lvl l1 X 3 3 (by
    obtain⟨t2,r1,r2,r3⟩:=hX;exact⟨t2,r1,r2,λj r M hr hM=>by
     obtain⟨A',n',c',B',m',d',e',hq⟩:=r3 j r M hr hM;exact⟨A',n',c',B',m',d',e',hq.mono λv hv=>(Qv (S:=S) hu).trans hv r6⟩⟩) (by omega) (by omega)
    (by have h1:=q2h f 0 i;have h2:=q2h f j f.size;simp only[List.flatMap_cons,List.flatMap_nil,List.length_append,List.length_nil];omega)
    (by have h1:=q2h f 0 i;have h2:=q2h f j f.size;simp only[List.flatMap_cons,List.flatMap_nil,List.length_append,List.length_nil];omega)
  have x0:=R4.lt;have zn:=N4.lt;have cB:∀u,Below I.1.size I u->u.cell? ⟨qb,0,none⟩=some (.int .i64 f.lvl)/\u.cell? ⟨qb,1,none⟩=some (.slice A n' c')/\u.cell? ⟨qb,2,none⟩=some (.slice B mm dd)/\u.cell? ⟨w.1.size+1,0,none⟩=some (.int .i64 f.lvl)/\u.cell? ⟨w.1.size+1,1,none⟩=some (.slice A2 n2 c2)/\u.cell? ⟨w.1.size+1,2,none⟩=some (.slice B2 m2 d2):=λu hu=>
   have s1:=R4.below hu R4.lt;have n1:=N4.below hu N4.lt;⟨s1.cell 0 rfl,s1.cell 1 rfl,s1.cell 2 rfl,n1.c0,n1.c1,n1.c2⟩
  have g8:∀(u:World) (_:Below I.1.size I u) (q:Nat) (_:I.1.size<=q/\NB u q 0 none 0 0 none 0 0) (X:Option Addr) (_:Ac (Turn S I) u X 3 3 [f.cut 0 i,y,f.cut j f.size]),Calls Tryz.prog 106 #[.slice X 3 3] u λe W=>∃J U c5 K R O,e=.returned (.agg #[.int .i64 f.lvl,.slice J U c5,.slice K R O])/\Below I.1.size I W/\(stB (.pointer (some ⟨q,0,none⟩)) (.agg #[.int .i64 f.lvl,.slice J U c5,.slice K R O])).run Tryz.prog W=.ok () (W.setCells q 0 [.int .i64 f.lvl,.slice J U c5,.slice K R O])/\(NB (W.setCells q 0 [.int .i64 f.lvl,.slice J U c5,.slice K R O]) (q) f.lvl J U c5 K R O/\Jl (Turn S (W.setCells q 0 [.int .i64 f.lvl,.slice J U c5,.slice K R O])) (Ye ⟨f,ad,nx,hd,sh⟩ i j y) J U c5 K R O/\Below I.1.size I (W.setCells q 0 [.int .i64 f.lvl,.slice J U c5,.slice K R O])):=by
   intro u hu q hq X hX;refine (Hj (λk=>S k\/k=q) (λk hk=>hk.elim .inl λh=>.inr (by omega)) u (λk hk=>hk.elim (λh=>by have:=l4 k h;have:=hu.size;omega) λh=>by rw[h];exact hq.2.lt) hu X hX).mono ?_;rintro e W ⟨J,U,c5,K,R,O,rfl,h1,h2⟩;have hz:=hq.2.below h2 hq.2.lt;have d4:=hu.trans (h2.mono hu.size);have T8:Turn (λk=>k=q) W (W.setCells q 0 [.int .i64 f.lvl,.slice J U c5,.slice K R O]):=Us (S:=λk=>k=q) rfl _ 0 W;exact⟨J,U,c5,K,R,O,rfl,d4,qib hz f.lvl J U c5 K R O,hz.stored f.lvl J U c5 K R O,h1.mono λv hv=>(T8.mono λk hk=>.inr hk).then (hv.mono λk hk=>.inl hk),d4.trans (T8.below (λk hk=>by have:k=q:=hk;omega) d4.size)⟩
  have k2:∀(u:World) (_:Below I.1.size I u) (X:Option Addr) (_:Ac (Turn S I) u X 3 3 [f.cut 0 i,y,f.cut j f.size]),Calls Tryz.prog 106 #[.slice X 3 3] u λe W=>∃J U c5 K R O,e=.returned (.agg #[.int .i64 f.lvl,.slice J U c5,.slice K R O])/\Below I.1.size I W/\(stB (.pointer (some ⟨W.1.size,0,none⟩)) (.agg #[.int .i64 f.lvl,.slice J U c5,.slice K R O])).run Tryz.prog (W.alloc Az)=.ok () ((W.alloc Az).setCells W.1.size 0 [.int .i64 f.lvl,.slice J U c5,.slice K R O])/\(NB ((W.alloc Az).setCells W.1.size 0 [.int .i64 f.lvl,.slice J U c5,.slice K R O]) (W.1.size) f.lvl J U c5 K R O/\Jl (Turn S ((W.alloc Az).setCells W.1.size 0 [.int .i64 f.lvl,.slice J U c5,.slice K R O])) (Ye ⟨f,ad,nx,hd,sh⟩ i j y) J U c5 K R O/\Below I.1.size I ((W.alloc Az).setCells W.1.size 0 [.int .i64 f.lvl,.slice J U c5,.slice K R O])):=by
   intro u hu X hX;refine (Hj S (λk hk=>.inl hk) u (λk hk=>by have:=l4 k hk;have:=hu.size;omega) hu X hX).mono ?_;rintro e W ⟨J,U,c5,K,R,O,rfl,h1,h2⟩;have hz:=q4v W;have d4:=hu.trans (h2.mono hu.size);have T8:Turn (λk=>k=W.1.size) (W.alloc Az) ((W.alloc Az).setCells W.1.size 0 [.int .i64 f.lvl,.slice J U c5,.slice K R O]):=Us (S:=λk=>k=W.1.size) rfl _ 0 _;have p2:Below W.1.size W ((W.alloc Az).setCells W.1.size 0 [.int .i64 f.lvl,.slice J U c5,.slice K R O]):=((Below.refl _ _).alloc (Nat.le_refl _) Az).trans (T8.below (λk hk=>by have:k=W.1.size:=hk;omega) (by simp));exact⟨J,U,c5,K,R,O,rfl,d4,qib hz f.lvl J U c5 K R O,hz.stored f.lvl J U c5 K R O,h1.mono λv hv=>(Qv (S:=S) p2).then hv,d4.trans (p2.mono d4.size)⟩
  have E:Below I.1.size I I.drew:=(Below.refl _ _).drew;have bA:Below I.1.size I (I.alloc Az).drew:=(Qm).drew;have zA:NB (I.alloc Az).drew I.1.size 0 none 0 0 none 0 0:=q4v I;replace cB:=Lib.hid cB;replace g8:=Lib.hid g8;replace k2:=Lib.hid k2;replace zA:=Lib.hid zA;have o5:=Lib.hid L4;have l7:=Lib.hid i5;clear Hj hB p0 i5 q1 q2 L0 L4;go_cut [14] from 34 to 47 (λq wx=>∃(qz:Nat) (J:Option Addr) (U c5:Nat) (K:Option Addr) (R O:Nat),q=.pointer (some ⟨qz,0,none⟩)/\I.1.size<=qz/\NB wx qz f.lvl J U c5 K R O/\Jl (Turn S wx) (Ye ⟨f,ad,nx,hd,sh⟩ i j y) J U c5 K R O/\Below I.1.size I wx)
  case first=>
   go_region_held3 (λu=>u.cell? ⟨qb,0,none⟩=some (.int .i64 f.lvl)/\u.cell? ⟨qb,1,none⟩=some (.slice A n' c')/\u.cell? ⟨qb,2,none⟩=some (.slice B mm dd)/\u.cell? ⟨w.1.size+1,0,none⟩=some (.int .i64 f.lvl)/\u.cell? ⟨w.1.size+1,1,none⟩=some (.slice A2 n2 c2)/\u.cell? ⟨w.1.size+1,2,none⟩=some (.slice B2 m2 d2))
    (first|(with_reducible assumption)|(with_reducible exact cB.out _ E)|(with_reducible exact cB.out _ bA)|(with_reducible exact cB.out _ (E.alloc E.size _))|(with_reducible exact cB.out _ ((E.alloc E.size _).alloc (E.alloc E.size _).size _))|(with_reducible exact cB.out _ hF.out.2.2.2))
    (first
     |(go_at_call 107;(with_reducible refine (b8.out _).mono ?_);rintro e wX ⟨rfl,G⟩;(first|(have F:=a6.out;replace a6:=Lib.hid (And.intro F.1 (F.2.below G F.2.lt));clear F;replace E:=E.trans (G.mono E.size))|(have a6:=Lib.hid (And.intro E.size ((q4v _).below G (by simp)));replace E:=(E.alloc E.size Az).trans (G.mono (E.alloc E.size Az).size))|(have a6:=Lib.hid (And.intro (Nat.le_refl I.1.size) (zA.out.below G zA.out.lt));replace E:=bA.trans (G.mono bA.size))|(replace E:=E.trans (G.mono E.size)));clear G)
     |(go_at_call 107;(with_reducible refine (g7.out _).mono ?_);rintro e wX ⟨rfl,G⟩;(first|(have F:=a6.out;replace a6:=Lib.hid (And.intro F.1 (F.2.below G F.2.lt));clear F;replace E:=E.trans (G.mono E.size))|(have a6:=Lib.hid (And.intro E.size ((q4v _).below G (by simp)));replace E:=(E.alloc E.size Az).trans (G.mono (E.alloc E.size Az).size))|(have a6:=Lib.hid (And.intro (Nat.le_refl I.1.size) (zA.out.below G zA.out.lt));replace E:=bA.trans (G.mono bA.size))|(replace E:=E.trans (G.mono E.size)));clear G)
     |(go_at_call 108;(with_reducible refine (HS.out _).mono ?_);rintro e wX ⟨rfl,G⟩;(first|(have F:=a6.out;replace a6:=Lib.hid (And.intro F.1 (F.2.below G F.2.lt));clear F;replace E:=E.trans (G.mono E.size))|(have a6:=Lib.hid (And.intro E.size ((q4v _).below G (by simp)));replace E:=(E.alloc E.size Az).trans (G.mono (E.alloc E.size Az).size))|(have a6:=Lib.hid (And.intro (Nat.le_refl I.1.size) (zA.out.below G zA.out.lt));replace E:=bA.trans (G.mono bA.size))|(replace E:=E.trans (G.mono E.size)));clear G)
     |(go_at_call 106;have F:=a6.out;(with_reducible refine (g8.out _ (E.alloc E.size _) _ (And.intro F.1 (F.2.below (Qm) F.2.lt)) _ (b4.out _)).mono ?_);rintro e wJ ⟨J,U,c5,K,R,O,rfl,bJ,b5,hF⟩;replace E:=bJ;replace hF:=Lib.hid (And.intro F.1 hF);clear bJ)
     |(go_at_call 106;(with_reducible refine (k2.out _ (E.alloc E.size _) _ (b4.out _)).mono ?_);rintro e wJ ⟨J,U,c5,K,R,O,rfl,bJ,b5,hF⟩;replace E:=bJ;replace hF:=Lib.hid (And.intro bJ.size hF);clear bJ)
     |(go_at_call 106;(with_reducible refine (g8.out _ ((E.alloc E.size _).alloc (E.alloc E.size _).size _) _ (And.intro (Nat.le_succ_of_le E.size) (NB.new2 _ _ 0 none 0 0 none 0 0 127)) _ ((b4.out _).below (Qm))).mono ?_);rintro e wJ ⟨J,U,c5,K,R,O,rfl,bJ,b5,hF⟩;have hz:=E.size;replace hF:=Lib.hid (And.intro (Nat.le_succ_of_le hz) hF);replace E:=bJ;clear bJ)
     |(go_at_call 106;(with_reducible refine (g8.out _ ((E.alloc E.size _).alloc (E.alloc E.size _).size _) _ (And.intro E.size ((q4v _).below (Qm) (by simp))) _ (f9.out _)).mono ?_);rintro e wJ ⟨J,U,c5,K,R,O,rfl,bJ,b5,hF⟩;have hz:=E.size;replace hF:=Lib.hid (And.intro hz hF);replace E:=bJ;clear bJ)
     |fail)
   all_goals (go_wp2_with fail;go_meet;exact⟨_,_,_,_,_,_,_,rfl,hF.out.1,hF.out.2.1,hF.out.2.2.1,hF.out.2.2.2⟩)
  case rest=>
   obtain⟨qz,J,U,c5,K,R,O,rfl,v2,NZ,p4,BZ⟩:=hcut;have L5:=o5.out.below BZ;have T5:=T4.below BZ T4.lt;have R5:=R4.below BZ R4.lt;have p5:Jl (Turn S wc) f A n' c' B mm dd:=l7.out.mono λv hv=>(Qv (S:=S) BZ).then hv
   have TZ:Turn S w wc:=TW.trans (Qv (S:=S) BZ) λk hk=>.inl hk
   have zz:=BZ.size;have x1:=NZ.lt;obtain⟨p9,b3,q0⟩:=qwm (s:=⟨f,ad,nx,hd,sh⟩) i4 s2 i2.out hi;have q0:(Ye ⟨f,ad,nx,hd,sh⟩ i j y).size<=f.size+y.size:=q0;have b3:(Ye ⟨f,ad,nx,hd,sh⟩ i j y).lvl=f.lvl:=b3;have y0:=T5.cell 0 rfl;have f0:=R5.cell 0 rfl;have f1:=R5.cell 1 rfl;have f2:=R5.cell 2 rfl;have f3:=R5.cell 3 rfl;have f4:=R5.cell 4 rfl;have f5:=R5.cell 5 rfl;have f6:=R5.cell 6 rfl;have g0:=NZ.c0;have g1:=NZ.c1;have g2:=NZ.c2;clear E bA zA b8 g7 HS b4 f9 g8 k2 cB o5 l7
   cases way with
   |nil=>
    obtain⟨m4,k0,m0⟩:=qkb i3.out;obtain rfl:P1=m4:=Option.some.inj (b0.symm.trans k0);have Ht:=qtl L5.sys hb L5.tab L5.tidy ⟨f,ad,nx,hd,sh⟩ A n' c' B mm dd p5 (Ye ⟨f,ad,nx,hd,sh⟩ i j y) J U c5 K R O p4 p9 (by omega) (by rw[b3];exact k9) m0;rw[b3] at Ht;unfold tv Vh Xy at Ht;dsimp only at Ht;replace Ht:=Lib.hid Ht;obtain rfl:m=0:=k6.symm;clear m0 k0 b0 i3;go_wp2_with fail
    refine Ht.out.mono ?_;rintro e w6 ⟨v,rfl,hv,H6,X6,t6,p6⟩;have L6:=L5.step H6 X6 t6 p6;have TF:=TZ.then X6;go_wp2_with fail
    go_ret2;exact⟨v,rfl,hv,L6.done,TF,t6,p6⟩
   |cons t way=>
    obtain⟨m4,x,P2,P3,r2,k0,d9,l5,n0⟩:=qgc i3.out;obtain rfl:P1=m4:=Option.some.inj (b0.symm.trans k0);obtain⟨o0,q5,l3,o1,q6,u1⟩:=s9.out;have p1:∀u,Turn S w u->Vj (Turn S w) u X m c (way.reverse++[t]):=λu hu=>by
     have:=(hX u hu).take (show m<=n by omega);have e:((t::way).reverse++[(⟨f,ad,nx,hd,sh⟩:Qu)]).take m=way.reverse++[t]:=by
      have p3:(way.reverse++[t]).length=m:=by rw[<-k6];simp
      rw[List.reverse_cons,<-p3,List.take_left]
     rwa [e] at this
    have u4:way.length+1=m:=k6;have l9:Y5 (way.reverse++[t]) (m-1)=t:=by
     have:=q3p way.reverse t;rw[List.length_reverse] at this;rw[show m-1=way.length by omega];exact this
    have c9:=qg6 (p1 wc TZ) (by omega) (by omega);rw[l9] at c9;have j9:=qtq L5.good p9 o0 (by rw[b3];exact l3) (by rw[b3];exact k9.1) q6 d9;have a8:=λ{T2:Nat->Prop} {w2:World} {P3:Pl} (h:Qi b w2 d p S0 S T2 D P3)=>a8.out t way rfl h
    obtain⟨tN,i8,e9,i9,j0⟩:=t;unfold Vh at c9;dsimp only at o0 q5 l3 o1 q6 c9;have xl:x.N.lvl=f.lvl:=j9.lvl.trans b3;have gm:¬(m:Int)=0:=by omega
    have o2:=l3;replace o2:=Lib.hid o2;have d0:=λ(u:World) (hu:Below wc.1.size wc u) (A6:Option Addr) (n6 c6:Nat) (B6:Option Addr) (m6 d6:Nat) (hA:Rw (Turn S u) B6 m6 d6 tN.kids)=>qpw (L5.below hu).sys hb (L5.below hu).tab L5.tidy ⟨f,ad,nx,hd,sh⟩ A n' c' B mm dd (p5.mono λv hv=>(Qv (S:=S) hu).then hv) (Ye ⟨f,ad,nx,hd,sh⟩ i j y) J U c5 K R O (p4.mono λv hv=>(Qv (S:=S) hu).then hv) ⟨tN,i8,e9,i9,j0⟩ A6 n6 c6 B6 m6 d6 hA ⟨by show 1<=tN.lvl;omega,o1⟩ (by show e9<=60;omega) (by omega) d9
    rw[b3,xl] at d0;unfold tv Vh Xl Xy at d0;dsimp only at d0;replace d0:=Lib.hid d0;replace c9:=Lib.hid c9;have u0:1<=tN.lvl/\tN.lvl<8:=by omega
    have o3:=Lib.hid xl;clear k0 b0 i3 hX l9 l3 o1 xl b3;go_wp2_with fail
    refine c9.out.mono ?_;rintro e w6 ⟨A6,n6,c6,B6,m6,d6,rfl,s5,b6⟩;obtain⟨w7,p8,Q7,b7⟩:∃w7,(stS (.pointer (some ⟨w6.1.size,0,none⟩)) (.agg #[.int .i64 tN.lvl,.slice A6 n6 c6,.slice B6 m6 d6,.int .i64 i8,.int .i64 (e9:Int),.bool i9,.bool j0])).run Tryz.prog (w6.alloc Ud)=.ok () w7/\RB w7 w6.1.size (Ji tN.lvl A6 n6 c6 B6 m6 d6 i8 (e9:Int) i9 j0)/\Below w6.1.size w6 w7:=by
     have T7:Turn (λk=>k=w6.1.size) (w6.alloc Ud) ((w6.alloc Ud).setCells w6.1.size 0 (Ji tN.lvl A6 n6 c6 B6 m6 d6 i8 (e9:Int) i9 j0)):=Us (S:=λk=>k=w6.1.size) rfl _ 0 _;exact⟨_,qi3 (Ih w6) rfl tN.lvl A6 n6 c6 B6 m6 d6 i8 (e9:Int) i9 j0,(Ih w6).stored (Ji tN.lvl A6 n6 c6 B6 m6 d6 i8 (e9:Int) i9 j0) rfl,((Below.refl _ _).alloc (Nat.le_refl _) Ud).trans (T7.below (λk hk=>by have:k=w6.1.size:=hk;omega) (by simp))⟩
    have d1:=b6.trans (b7.mono b6.size);have z7:=d1.size;have z6:=b6.size;have v8:=Q7.lt;have L7:=L5.below d1;have T7:=T5.below d1 T5.lt;have R7:=R5.below d1 R5.lt;have N7:=NZ.below d1 NZ.lt;have o9:Rw (Turn S w7) B6 m6 d6 tN.kids:=λv hv=>s5.Bo v ((TZ.trans (Qv (S:=S) d1) λk hk=>.inl hk).then hv)
    clear y0 f0 f1 f2 f3 f4 f5 f6 g0 g1 g2;have y0:=T7.cell 0 rfl;have f0:=R7.cell 0 rfl;have f1:=R7.cell 1 rfl;have f2:=R7.cell 2 rfl;have f3:=R7.cell 3 rfl;have f4:=R7.cell 4 rfl;have f5:=R7.cell 5 rfl;have f6:=R7.cell 6 rfl;have g0:=N7.c0;have g1:=N7.c1;have g2:=N7.c2;have e0:=Q7.cell 0 rfl;have e1:=Q7.cell 1 rfl;have e2:=Q7.cell 2 rfl;have e3:=Q7.cell 3 rfl;have e4:=Q7.cell 4 rfl;have e5:=Q7.cell 5 rfl;have e6:=Q7.cell 6 rfl;go_wp2_with fail
    refine (d0.out w7 d1 A6 n6 c6 B6 m6 d6 o9).mono ?_;rintro e w8 ⟨A8,n8,c8,B8,m8,d8,Y,k,rfl,s6,r8,u6,H8,X8,t8⟩;have L8:=L7.step H8 X8 t8 (qpx L5.tidy d9);have T8:=T7.turned X8 (λh=>by have:=hS _ h;omega);have z8:=X8.size;clear p8 y0 f0 f1 f2 f3 f4 f5 f6 g0 g1 g2 e0 e1 e2 e3 e4 e5 e6 d0 c9 o9;obtain⟨xi,n4⟩:∃xi,x.i=xi:=⟨_,rfl⟩;obtain⟨xj,n9⟩:∃xj,x.j=xj:=⟨_,rfl⟩;rw[n4,n9];go_wp2_with (first
     |(refine q8l rfl (.tmp 16) _ rfl w8.1.size rfl f.lvl A8 n8 c8 B8 m8 d8 Y k k (xi:Int) (xj:Int) rfl (RB.new w8 (Xl 0 none 0 0 none 0 0 none 0 0 0 0) 183) rfl ?_;intro w9 R9 r4;have b9:Below w8.1.size w8 w9:=(Qm).trans (r4.below (λk hk=>by have:k=w8.1.size:=hk;omega) (by simp));have T9:=T8.below b9 T8.lt;have y0:=T9.cell 0 rfl;have f0:=R9.cell 0 rfl;have f1:=R9.cell 1 rfl;have f2:=R9.cell 2 rfl;have f3:=R9.cell 3 rfl;have f4:=R9.cell 4 rfl;have f5:=R9.cell 5 rfl)
     |fail)
    have L9:=L8.below b9;have z9:=b9.size;have x2:=R9.lt;have s7:Jl (Turn S w9) x.N A8 n8 c8 B8 m8 d8:=s6.mono λv hv=>(Qv (S:=S) b9).then hv
    have r9:∀u,Turn S w9 u->Vj (Turn S w9) u Y k k x.olds:=λu hu=>(r8 u ((Qv (S:=S) b9).then hu)).mono λv hv=>(Qv (S:=S) b9).then hv
    have u9:=j9.size;have Hl:=qk9 L9.sys hb L9.tab L9.tidy x A8 n8 c8 B8 m8 d8 s7 j9.fit (by omega) (by rw[o3.out];exact k9) Y k k r9 (by omega) l5 (xi:Int) (xj:Int);rw[o3.out] at Hl;unfold tv Xl Xy at Hl;replace Hl:=Lib.hid Hl;refine Hl.out.mono ?_;rintro e a2 ⟨g5,i7,g9,g6,i6,i0,l,rfl,l6,q7,k3,t7,t1⟩;have q9:=L9.step q7 k3 t7 t1;have o8:=T9.turned k3 (λh=>by have:=hS _ h;omega);have o6:=R9.turned k3 (λh=>by have:=hS _ h;omega);have v7:=k3.size;clear y0 f0 f1 f2 f3 f4 f5 Hl;obtain⟨l0,s8,m1,k4⟩:∃l0,(stB (.pointer (some ⟨a2.1.size,0,none⟩)) (.agg #[.int .i64 l,.slice g5 i7 g9,.slice g6 i6 i0])).run Tryz.prog (a2.alloc Az)=.ok () l0/\NB l0 a2.1.size l g5 i7 g9 g6 i6 i0/\Below a2.1.size a2 l0:=by
     have TT:Turn (λk=>k=a2.1.size) (a2.alloc Az) ((a2.alloc Az).setCells a2.1.size 0 [.int .i64 l,.slice g5 i7 g9,.slice g6 i6 i0]):=Us (S:=λk=>k=a2.1.size) rfl _ 0 _;exact⟨_,qib (q4v a2) l g5 i7 g9 g6 i6 i0,(q4v a2).stored l g5 i7 g9 g6 i6 i0,((Below.refl _ _).alloc (Nat.le_refl _) Az).trans (TT.below (λk hk=>by have:k=a2.1.size:=hk;omega) (by simp))⟩
    have a7:=q9.below k4;have r0:=o8.below k4 o8.lt;have o7:=o6.below k4 o6.lt;rcases n0 with⟨rfl,rfl,rfl⟩|⟨ks,rfl,e8⟩
    ·unfold Qaa;dsimp only;go_wp2_with fail
     go_ret2;exact⟨0,rfl,λa e=>(by cases e),a7.done,a7.turn,a7.tab,a7.tidy⟩
    ·obtain⟨hl,l8⟩:=l6 ks rfl;have s4:ks.length<=7:=by
      rw[qwn l5];exact qmh (by omega)
     rw[o3.out] at e8;have HR:=a8 a7.sys a7.tab a7.tidy o0 q5 ⟨by show 0<=tN.lvl;omega,u0.2⟩ (Lib.hid u1) (λu hu=>(p1 u (a7.turn.then hu)).mono λv hv=>a7.turn.then hv) ⟨f.lvl+1,[],ks⟩ ⟨λh=>by
       have h:f.lvl+1=0:=h;omega,λ_=>rfl⟩ (by unfold Nd.size;simp;exact s4) o2.out.symm g5 i7 g9 g6 i6 i0 (l8.mono λv hv=>(Qv (S:=S) k4).then hv) x.i x.j j9.ij j9.j e8
     dsimp only at HR;rw[<-hl,n4,n9] at HR;unfold tv Xy at HR;replace HR:=Lib.hid HR;have y0:=r0.cell 0 rfl;have f4:=o7.cell 4 rfl;have f5:=o7.cell 5 rfl;have g0:=m1.c0;have g1:=m1.c1;have g2:=m1.c2;clear hl l6 l8 e8 n4 n9;unfold Qaa;dsimp only;go_wp2_with fail
     refine HR.out.mono ?_;rintro e v6 ⟨v,rfl,hv,q8,r5,q4,q3⟩;have o4:=a7.step q8 r5 q4 q3;go_wp2_with fail
     go_ret2;exact⟨v,rfl,hv,o4.done,o4.turn,q4,q3⟩
end
end
