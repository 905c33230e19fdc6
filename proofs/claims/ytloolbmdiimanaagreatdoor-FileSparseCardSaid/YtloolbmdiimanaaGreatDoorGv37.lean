/- The code's edit: enough, of any node; plain facts of an exchange -/
import Derived.Test.YtloolbmdiimanaaGreatDoorGvHaT
namespace Go.Proofs.YtloolbmdiimanaaGreatDoor
open Go Go.RowKit Go.Proofs Tryz
set_option maxHeartbeats 8000000
set_option maxRecDepth 100000
section
variable {b:Nat}{w:WD}{d p:Nat}{S0 S T:NP}{D:DM}{P P':Pl}
theorem qqo (H:Qh b w d p S0 S T D P)(hb:1<b)(ht:Tab w)(hP:P.tidy)(s:Qr)(A:OA)(n c:Nat)(B:OA)(m dd:Nat)(hs:Je (Turn S w) s.N A n c B m dd)(N:Nd)(I:OA)(W c2:Nat)(K:OA)(R O:Nat)(hB:Je (Turn S w) N I W c2 K R O)(above:Qr)(A3:OA)(n3 c3:Nat)(Z:OA)(m3 d3:Nat)(hA:Ro (Turn S w) Z m3 d3 above.N.kids)(hl:1<=above.N.lvl/\above.N.lvl<8)(G:above.next<=60)(a0:N.size<=20){x:Nl}(E:P.have_ D s N above=some (x,P')) :
  Calls prog 146 #[tv p,Vm s A n c B m dd,Xx N.lvl I W c2 K R O,Vm above A3 n3 c3 Z m3 d3] w λe y=>∃J X c5 M U Q Y k,e=.returned (.tuple #[.agg (Xf x.N.lvl J X c5 M U Q Y k k (x.i:Int) (x.j:Int)).toArray,.int .i64 0])/\Je (Turn S y) x.N J X c5 M U Q/\(∀u,Turn S y u->Vo (Turn S y) u Y k k x.olds)/\k<=2/\Qh b y d p S0 S T D P'/\Turn S w y/\Tab y:=by
 unfold Pl.have_ at E;by_cases f:Qs N.lvl<=N.size
 ·rw[AA f] at E;injection OI E with e1 e2;subst e1 e2;refine (qmx H ht s A n c B m dd hs N I W c2 K R O hB above A3 n3 c3 Z m3 d3 G f).mono ?_;rintro e y ⟨Y,rfl,h1,h2,F⟩;exact⟨I,W,c2,K,R,O,Y,1,rfl,h1,h2,by omega,H.below F,Zb F,ht.below F ht.1⟩
 ·rw[AB f] at E;by_cases h0:0<above.next
  ·rw[AA h0] at E;obtain⟨P2,g,e⟩:=Option.map_eq_some_iff.1 E;injection e with e1 e2;subst e1 e2;unfold Pl.near at g;split at g
   ·rename_i hk;refine (qnq H hb ht hP s A n c B m dd hs N I W c2 K R O hB above A3 n3 c3 Z m3 d3 hA hl G f a0 h0 hk g).mono ?_;rintro e y ⟨J,X,c5,M,U,Q,Y,rfl,h1,h2,F,h4,h5⟩;exact⟨J,X,c5,M,U,Q,Y,2,rfl,h1,h2,by omega,F,h4,h5⟩
   ·cases g
  ·rw[AB h0] at E;obtain⟨P2,g,e⟩:=Option.map_eq_some_iff.1 E;injection e with e1 e2;subst e1 e2;unfold Pl.near at g;split at g
   ·rename_i hk;refine (qnr H hb ht hP s A n c B m dd hs N I W c2 K R O hB above A3 n3 c3 Z m3 d3 hA hl G f a0 h0 hk g).mono ?_;rintro e y ⟨J,X,c5,M,U,Q,Y,rfl,h1,h2,F,h4,h5⟩;exact⟨J,X,c5,M,U,Q,Y,2,rfl,h1,h2,by omega,F,h4,h5⟩
   ·cases g
theorem qqp {s above:Qr}{N:Nd}{x:Nl}(h:P.tidy)(g:P.have_ D s N above=some (x,P')):P'.tidy:=by
 have near:∀{i:Nat} {m:Pl},P.near D above i=some m->m.tidy:=λ{i m} f=>by
  unfold Pl.near at f;split at f
  ·exact h.Qw f
  ·cases f
 unfold Pl.have_ at g;split at g
 ·injection OI g with y u;subst u;exact h
 ·split at g
  ·obtain⟨m,f,e⟩:=Option.map_eq_some_iff.1 g;injection e with y u;subst u;exact near f
  ·obtain⟨m,f,e⟩:=Option.map_eq_some_iff.1 g;injection e with y u;subst u;exact near f
end
def Vw:Qr->List Qr->Prop
 |_,[]=>True
 |s,t::way=>t.N.fit/\t.N.size<=12/\t.N.lvl=s.N.lvl+1/\t.N.lvl<8/\t.next+1<=t.N.size/\Vw t way
theorem qqq {N:Nd}(h:N.fit){i j:Nat}(e:i<=j):(N.cut 0 i).size+(N.cut j N.size).size<=N.size:=by
 obtain⟨h1,h2⟩:=h;unfold Nd.cut;by_cases h0:N.lvl=0
 ·rw[AA h0,AA h0];unfold Nd.size;simp only[h1 h0,List.length_nil,AR,AS];omega
 ·rw[AB h0,AB h0];unfold Nd.size;simp only[h2 h0,List.length_nil,AR,AS];omega
theorem qem {l:Int}{N M:Nd}(h:N.fit)(hm:M.fit)(g:N.lvl=l)(f:M.lvl=l):(⟨l,N.items++M.items,N.kids++M.kids⟩:Nd).fit:=by
 refine⟨λh0=>?_,λh0=>?_⟩
 ·have h0:l=0:=h0;show N.kids++M.kids=[];rw[h.1 (g.trans h0),hm.1 (f.trans h0)];rfl
 ·have h0:¬l=0:=h0;show N.items++M.items=[];rw[h.2 (λe=>h0 (g.symm.trans e)),hm.2 (λe=>h0 (f.symm.trans e))];rfl
theorem q9e {l:Int}{N M:Nd}:Zw l [N,M]=⟨l,N.items++M.items,N.kids++M.kids⟩:=by unfold Zw;simp
theorem qqr (N:Nd)(i j:Nat):(N.cut i j).lvl=N.lvl:=by unfold Nd.cut;split<;>rfl
theorem qxh {s:Qr}{f:Nd}{i j:Nat}(h:s.N.fit)(y:f.fit)(A:f.lvl=s.N.lvl)(g:i<=j):(Xy s i j f).fit/\(Xy s i j f).lvl=s.N.lvl/\(Xy s i j f).size<=s.N.size+f.size:=by
 have h1:=qqq h g;have m:=q7x h 0 i;have u:=q7x h j s.N.size;have B:=qqr s.N 0 i;have E:=qqr s.N j s.N.size;have e:Xy s i j f=⟨s.N.lvl,(s.N.cut 0 i).items++(f.items++(s.N.cut j s.N.size).items),(s.N.cut 0 i).kids++(f.kids++(s.N.cut j s.N.size).kids)⟩:=by unfold Xy Zw;simp
 rw[e];refine⟨qem m (qem y u A E) B rfl,rfl,?_⟩;unfold Nd.size at h1 ⊢;simp only[AD];omega
structure Qbx (x:Nl)(b:Nd)(above:Qr):Prop where
 fit:x.N.fit
 size:x.N.size<=b.size+12
 lvl:x.N.lvl=b.lvl
 ij:x.i<=x.j
 j:x.j<=above.N.size
theorem quj {P P':Pl}{D:DM}{s above:Qr}{b:Nd}{x:Nl}(H:∀a b,P.L a=some b->b.good)(B:b.fit)(_:above.N.fit)(J:above.N.lvl=b.lvl+1)(_:0<=b.lvl)(hn:above.next+1<=above.N.size)(h:P.have_ D s b above=some (x,P')):Qbx x b above:=by
 have kid:∀i,P.Wj D above i=true->(P.Jd D above i).N.fit/\(P.Jd D above i).N.size<=12/\(P.Jd D above i).N.lvl=b.lvl/\i<above.N.size:=λi m=>by
  obtain⟨K,I,M⟩:=AK m;have hm:=qlj H _ I;refine⟨Pe hm,q5u hm,?_,by unfold Nd.size;omega⟩;show (P.Qd D (Qi above.N.kids i).a).lvl=_;omega
 unfold Pl.have_ at h;split at h
 ·injection OI h with g E;subst g;exact⟨B,Nat.le_add_right _ _,rfl,Nat.le_succ _,hn⟩
 ·split at h
  ·rename_i h0;obtain⟨G,f,e⟩:=Option.map_eq_some_iff.1 h;injection e with g E;subst g;unfold Pl.near at f;split at f
   ·rename_i m;obtain⟨y,A,u,F⟩:=kid _ m;refine⟨?_,?_,u,?_,hn⟩
    ·dsimp only;rw[q9e];exact qem y B rfl u.symm
    ·dsimp only;rw[q9e];unfold Nd.size at A ⊢;simp only[AD];omega
    ·dsimp only;omega
   ·cases f
  ·obtain⟨G,f,e⟩:=Option.map_eq_some_iff.1 h;injection e with g E;subst g;unfold Pl.near at f;split at f
   ·rename_i m;obtain⟨y,A,u,F⟩:=kid _ m;refine⟨?_,?_,rfl,?_,F⟩
    ·dsimp only;rw[q9e];exact qem B y rfl u
    ·dsimp only;rw[q9e];unfold Nd.size at A ⊢;simp only[AD];omega
    ·dsimp only;omega
   ·cases f
theorem q49:∀(olds:List Qr) (P:Pl) (g:List Nd) (u:List Qk) {P':Pl} {f:List Nd} {m:List Qk},Ut olds P g u=some (P',f,m)->m.length+f.length=u.length+g.length
 |[],P,g,u,P',f,m,h=>by
  injection OI h with G A;injection A with A E;rw[<-A,<-E]
 |s::olds,P,[],u,P',f,m,h=>by
  obtain⟨y,_,h2⟩:=qau h;exact q49 olds y [] u h2
 |s::olds,P,b::g,u,P',f,m,h=>by
  by_cases B:s.shared=true\/P.C.fresh s.addr=false
  ·obtain⟨y,_,h2⟩:=q48 B h;exact q49 olds y (b::g) u h2
  ·have h1:s.shared=false:=by
    cases e:s.shared with
    |false=>rfl
    |true=>exact absurd (.inl e) B
   have h2:P.C.fresh s.addr=true:=by
    cases e:P.C.fresh s.addr with
    |true=>rfl
    |false=>exact absurd (.inr e) B
   obtain⟨_,F⟩:=qav h1 h2 h;have:=q49 olds _ g _ F;rw[AD] at this;simp at this ⊢;omega
theorem qd0:∀(e:List Nd) (P:Pl) (g:List Qk) {P':Pl} {f:List Qk},Jl e P g=some (P',some f)->f.length=g.length+e.length
 |[],P,g,P',f,h=>by
  injection OI h with u m;rw[<-OI m];rfl
 |b::e,P,g,P',f,h=>by
  rcases qaw h with⟨_,h2⟩|⟨_,h2⟩
  ·have:=qd0 e _ _ h2;rw[AD] at this;simp at this ⊢;omega
  ·injection h2 with _ h2
   cases h2
theorem qmy {N:Nd}(h:N.size<=31):(pieces N).length<=7:=by
 unfold pieces;rw[AF,List.length_range];unfold parts;have h1:6<=Qo N.lvl:=by unfold Qo;split<;>omega
 have h2:N.size+Qo N.lvl-1<8*Qo N.lvl:=by omega
 have:=Nat.div_lt_of_lt_mul (m:=N.size+Qo N.lvl-1) (n:=Qo N.lvl) (k:=8) (by rw[Nat.mul_comm];exact h2);omega
theorem qxi {P P':Pl}{x:Nl}{ks:List Qk}(h:P.Yo x=some (P',some ks)):ks.length=(pieces x.N).length:=by
 unfold Pl.Yo at h;split at h
 ·rename_i m f g e;have h1:=q49 _ _ _ _ e;have h2:=qd0 _ _ _ h;simp at h1;omega
 ·cases h
theorem qgp {D:DM}{above:Qr}{way:List Qr}{P P':Pl}{s:Qr}{i j:Nat}{e:Nd}{r:Option Int}(h:Yy D (above::way) P s i j e=some (P',r)) :
  ∃g x m f y,P.Qw s i j=some g/\g.have_ D s (Xy s i j e) above=some (x,m)/\m.Yo x=some (f,y)/\((y=none/\f=P'/\r=none)\/∃u,y=some u/\Yy D way f above x.i x.j ⟨x.N.lvl+1,[],u⟩=some (P',r)):=by
 have h:(match P.Qw s i j with
  |some g=>match g.have_ D s (Xy s i j e) above with
   |some (x,m)=>match m.Yo x with
    |some (f,some u)=>Yy D way f above x.i x.j ⟨x.N.lvl+1,[],u⟩
    |some (f,none)=>some (f,none)
    |none=>none
   |none=>none
  |none=>none)=some (P',r):=h
 cases h1:P.Qw s i j with
 |none=>rw[h1] at h;cases h
 |some g=>
  rw[h1] at h;dsimp only at h
  cases h2:g.have_ D s (Xy s i j e) above with
  |none=>rw[h2] at h;cases h
  |some q=>
   obtain⟨x,m⟩:=q;rw[h2] at h;dsimp only at h
   cases A:m.Yo x with
   |none=>rw[A] at h;cases h
   |some q=>
    obtain⟨f,y⟩:=q;rw[A] at h;refine⟨g,x,m,f,y,rfl,h2,A,?_⟩
    cases y with
    |none=>
     injection OI h with B E;exact .inl ⟨rfl,B,E.symm⟩
    |some u=>exact .inr ⟨u,rfl,h⟩
theorem qkz {D:DM}{P P':Pl}{s:Qr}{i j:Nat}{e:Nd}{r:Option Int}(h:Yy D [] P s i j e=some (P',r)):∃f,P.Qw s i j=some f/\f.top s (Xy s i j e)=some (P',r):=by
 have h:(match P.Qw s i j with|some f=>f.top s (Xy s i j e)|none=>none)=some (P',r):=h
 cases h1:P.Qw s i j with
 |none=>rw[h1] at h;cases h
 |some f=>rw[h1] at h;exact⟨f,rfl,h⟩
theorem q3r (l:List Qr)(s:Qr):Y1 (l++[s]) l.length=s:=by simp[Y1]
section
def stB (p v:Value):Sem Unit:=Instr.storeAt 193 p v
theorem quk (p v:Value):Instr.storeAt 193 p v=stB p v:=rfl
theorem qip {w:WD}{b:Nat}{l:Int}{A:OA}{n c:Nat}{B:OA}{m d:Nat}(H:NB w b l A n c B m d)(u:Int)(e:OA)(E c2:Nat)(f:OA)(y g:Nat) :
  (stB (.pointer (some ⟨b,0,none⟩)) (.agg #[.int .i64 u,.slice e E c2,.slice f y g])).run prog w=.ok () (w.setCells b 0 [.int .i64 u,.slice e E c2,.slice f y g]):=
 run_storeAt_mid w b 0 193 #[.int .i64 u,.slice e E c2,.slice f y g] H.there (by kernel_rfl) (by simp[Value.oneCell'])
abbrev Ap:Obj:=.cells #[.int .i64 0,.slice none 0 0,.slice none 0 0] 193
theorem q4u (w:WD):NB (w.alloc Ap) w.1.size 0 none 0 0 none 0 0:=NB.new w 0 none 0 0 none 0 0 193
attribute [local go_sem ↓] qee
attribute [local go_sem ↓] quk
section
variable {b:Nat}{d p:Nat}{S0 S:NP}{D:DM}
def Gs (b:Nat)(d p:Nat)(S0 S T:NP)(D:DM)(w:WD)(P':Pl)(r:Option Int)(e:Ending)(w':WD):Prop:=∃v,e=.returned (.tuple #[.int .i64 v,.int .i64 (Qbp r)])/\(∀a,r=some a->v=a)/\Qh b w' d p S0 S T D P'/\Turn S w w'/\Tab w'/\P'.tidy
theorem Aw.good {b:Nat}{w0 w:WD}{d p:Nat}{S0 S T T':NP}{D:DM}{P:Pl}(h:Aw b w0 w d p S0 S T T' D P):∀a b,P.L a=some b->b.good:=by
 obtain⟨m,c,l,k,v,e,L⟩:=h.sys.pool;exact L.good
theorem qd1 {w:WD}{T:NP}{P P1:Pl}(H:Qh b w d p S0 S T D P)(hb:1<b)(ht:Tab w)(hP:P.tidy)(s:Qr)(way:List Qr)(g7:s.N.fit)(o9:s.N.size<=12)(k2:0<=s.N.lvl/\s.N.lvl<8)(X:OA)(n c:Nat)(hX:∀u,Turn S w u->Vo (Turn S w) u X n c (way.reverse++[s]))(hn:n<=20)
  (g:Nd) (r4:g.fit) (r0:g.size<=7) (g5:g.lvl=s.N.lvl) (A2:OA) (n2 c2:Nat) (B2:OA) (m2 d2:Nat) (hB:Je (Turn S w) g A2 n2 c2 B2 m2 d2) (i j:Nat) (hi:i<=j) (hj:j<=s.N.size) {P':Pl} {r:Option Int} (g6:Yy D way P s i j g=some (P',r)) (a5:P.Qw s i j=some P1) (s2:Hid (Vw s way))
  (a4:∀(t:Qr) (e7:List Qr),way=t::e7->∀{T2:NP} {w2:WD} {P3:Pl} (_:Qh b w2 d p S0 S T2 D P3) (_:Tab w2) (_:P3.tidy) (_:t.N.fit) (_:t.N.size<=12) (_:0<=t.N.lvl/\t.N.lvl<8) (_:Hid (Vw t e7)) (_:∀u,Turn S w2 u->Vo (Turn S w2) u X (n-1) c (e7.reverse++[t])) (a0:Nd) (_:a0.fit) (_:a0.size<=7) (_:a0.lvl=t.N.lvl) (A:OA) (n' c':Nat) (B:OA) (m' d':Nat) (_:Je (Turn S w2) a0 A n' c' B m' d') (i j:Nat) (_:i<=j) (_:j<=t.N.size) (_:Yy D e7 P3 t i j a0=some (P',r)),Calls prog 114 #[tv p,.slice X (n-1) c,.int .i64 (i:Int),.int .i64 (j:Int),Xx a0.lvl A n' c' B m' d'] w2 (Gs b d p S0 S T2 D w2 P' r)) :
  Calls prog 114 #[tv p,.slice X n c,.int .i64 (i:Int),.int .i64 (j:Int),Xx g.lvl A2 n2 c2 B2 m2 d2] w (Gs b d p S0 S T D w P' r):=by
 rw[g5];replace g5:=HI g5;replace g6:=HI g6;have hS:=H.low;have d9:=(hX w (Turn.refl _ _)).len;have s8:=(hX w (Turn.refl _ _)).cap;rw[AD,List.length_reverse] at d9;have d9:way.length+1=n:=d9;obtain⟨m,hm⟩:∃m,n-1=m:=⟨_,rfl⟩;rw[hm] at a4;replace a4:=HI a4;have j9:way.length=m:=by omega
 have W:=λ(u:WD) (hu:Turn S w u)=>qgd (hX u hu) (by omega) (by omega)
 have a9:Y1 (way.reverse++[s]) (n-1)=s:=by
  have:=q3r way.reverse s;rw[List.length_reverse,j9] at this;rw[hm];exact this
 rw[a9] at W;have i5:∀u,Below w.1.size w u->Turn S w u:=λu hu=>Zb hu
 obtain⟨f,ad,nx,hd,sh⟩:=s;unfold Vm at W;dsimp only at g7 o9 k2 g5 hj W ⊢;replace W:=HI W;have b1:Below w.1.size w ((w.alloc (.cells #[.pointer (some ⟨p,0,none⟩)] 188)).alloc (.cells #[.int .i64 f.lvl,.slice A2 n2 c2,.slice B2 m2 d2] 193)):=(Ql).alloc (by simp) _;have T1:RB ((w.alloc (.cells #[.pointer (some ⟨p,0,none⟩)] 188)).alloc (.cells #[.int .i64 f.lvl,.slice A2 n2 c2,.slice B2 m2 d2] 193)) w.1.size [.pointer (some ⟨p,0,none⟩)]:=(RB.new w [.pointer (some ⟨p,0,none⟩)] 188).below (Ql) (by simp);have N1:NB ((w.alloc (.cells #[.pointer (some ⟨p,0,none⟩)] 188)).alloc (.cells #[.int .i64 f.lvl,.slice A2 n2 c2,.slice B2 m2 d2] 193)) (w.1.size+1) f.lvl A2 n2 c2 B2 m2 d2:=NB.new2 w _ _ _ _ _ _ _ _ _;have hw:IntKind.i64.wrap ((n:Int)-1)=(m:Int):=by rw[show (n:Int)-1=(m:Int) by omega];exact IntWalk.i64_in _ (by omega)
 have t3:(0:Int)<=(m:Int):=by omega
 have t5:(m:Int)<=(c:Int):=by omega
 clear hm d9 a9;unfold tv Xx;go_enter func114,ntmps114
 go_wp2_with fail
 generalize ((w.alloc (.cells #[.pointer (some ⟨p,0,none⟩)] 188)).alloc (.cells #[.int .i64 f.lvl,.slice A2 n2 c2,.slice B2 m2 d2] 193))=w1 at b1 T1 N1 ⊢;have z1:=N1.lt;have z0:=b1.size;have bD:Below w1.1.size w1 w1.drew:=(AI _ _).drew;have bA:Below w1.1.size w1 (w1.alloc Ui).drew:=(Ql).drew;have QA:RB (w1.alloc Ui).drew w1.1.size (Ja 0 none 0 0 none 0 0 0 0 false false):=Ii w1;have hK:∀u:WD,Below w1.1.size w1 u->True:=λ_ _=>trivial
 replace i5:=HI i5;go_cut [1,12] from 19 to 25 (λx q wx=>∃(qb:Nat) (A:OA) (n' c':Nat) (B:OA) (mm dd:Nat),x=.slice X m c/\q=.pointer (some ⟨qb,0,none⟩)/\w1.1.size<=qb/\RB wx qb (Ja f.lvl A n' c' B mm dd ad (nx:Int) hd sh)/\Je (Turn S wx) f A n' c' B mm dd/\Below w1.1.size w1 wx)
 case first=>
  go_region_held3 (λ_=>True)
   (first|(with_reducible assumption)|exact trivial)
   (first
    |(go_at_call 113;(with_reducible refine (W.out w1.drew (i5.out _ (b1.trans (bD.mono b1.size)))).mono ?_);rintro e w3 ⟨A3,n3,c3,B3,m3,d3,rfl,l6,g4⟩;have a6:Below w1.1.size w1 w3:=bD.trans g4;have i4:=a6.alloc a6.size Ui;obtain⟨a9,RQ,TQ,BQ⟩:=qef i4 a6.size (Ii w3) rfl f.lvl A3 n3 c3 B3 m3 d3 ad (nx:Int) hd sh;have HX:=HI (And.intro RQ (And.intro TQ (And.intro BQ (And.intro i4 a6))));clear RQ TQ BQ i4 g4)
    |(go_at_call 113;(with_reducible refine (W.out (w1.alloc Ui).drew (i5.out _ (b1.trans (bA.mono b1.size)))).mono ?_);rintro e w3 ⟨A3,n3,c3,B3,m3,d3,rfl,l6,g4⟩;have a6:Below w1.1.size w1 w3:=bA.trans (g4.mono bA.size);obtain⟨a9,RQ,TQ,BQ⟩:=qef a6 (AE _) (QA.below g4 QA.lt) rfl f.lvl A3 n3 c3 B3 m3 d3 ad (nx:Int) hd sh;have HX:=HI (And.intro RQ (And.intro TQ (And.intro BQ (And.intro a6 a6))));clear RQ TQ BQ g4)
    |fail)
  ·obtain⟨RQ,TQ,BQ,i4,_⟩:=HX.out;go_wp2_with fail
   go_meet
   exact⟨w3.1.size,A3,n3,c3,B3,m3,d3,rfl,rfl,a6.size,RQ,l6.mono λv Z=>(Zb (S:=S) (b1.trans (BQ.mono b1.size))).trans Z λk hk=>.inl hk,BQ⟩
  ·obtain⟨RQ,TQ,BQ,i4,_⟩:=HX.out;go_wp2_with fail
   go_meet
   exact⟨w1.1.size,A3,n3,c3,B3,m3,d3,rfl,rfl,AE _,RQ,l6.mono λv Z=>(Zb (S:=S) (b1.trans (BQ.mono b1.size))).trans Z λk hk=>.inl hk,BQ⟩
 case rest=>
  obtain⟨qb,A,n',c',B,mm,dd,rfl,rfl,t9,RQ,c9,BQ⟩:=hcut;have j8:f.size<=20:=by omega
  have k1:=c9.hn;have k0:=c9.hm;have i8:=c9.size;have r5:=qas c9 g7 hj;have L0:=((Aw.start H hb ht hP).below b1).below BQ;have TC:=T1.below BQ T1.lt;have NC:=N1.below BQ N1.lt;have zq:=BQ.size;have Hr:=q8p L0.sys hb L0.tab ⟨f,ad,nx,hd,sh⟩ g7 A n' c' B mm dd c9 i j hi hj j8 a5;unfold tv Vm at Hr;dsimp only at Hr;replace Hr:=HI Hr;have y0:=TC.cell 0 rfl;have f0:=RQ.cell 0 rfl;have f1:=RQ.cell 1 rfl;have f2:=RQ.cell 2 rfl;have f3:=RQ.cell 3 rfl;have f4:=RQ.cell 4 rfl;have f5:=RQ.cell 5 rfl;have f6:=RQ.cell 6 rfl;clear i5 hK QA bA bD W;go_wp2_with fail
  refine Hr.out.mono ?_;rintro e G ⟨rfl,H4,X4,t4⟩;have L4:=L0.step H4 X4 t4 (hP.Qw a5);have z4:=X4.size;have R4:=RQ.turned X4 (λh=>by have:=hS _ h;omega);have T4:=TC.turned X4 (λh=>by have:=hS _ h;omega);have N4:=NC.turned X4 (λh=>by have:=hS _ h;omega);have TW:Turn S w G:=(Zb (S:=S) (b1.trans (BQ.mono b1.size))).then X4;have o3:Je (Turn S G) g A2 n2 c2 B2 m2 d2:=hB.mono λv Z=>TW.then Z
  have g8:Je (Turn S G) f A n' c' B mm dd:=c9.mono λv Z=>X4.then Z
  clear y0 f0 f1 f2 f3 f4 f5 f6 Hr TC NC RQ c9;go_wp2_with fail
  obtain⟨A6,n6,c6,B6,m6,d6,e1,q1,l1⟩:=q7v g8 (i:=0) (j:=i) (AW _) (by omega);obtain⟨A7,n7,c7,B7,m7,d7,e2,q2,l2⟩:=q7v g8 (i:=j) (j:=f.size) (by omega) (qas g8 g7 (AE _));have b0:=λu=>q3p f.lvl A n' c' B mm dd 0 i (AW _) (by omega) ⟨k1.2.1,k1.2.2⟩ ⟨k0.2.1,k0.2.2⟩ u
  have f7:=λu=>q3p f.lvl A n' c' B mm dd j f.size (by omega) (qas g8 g7 (AE _)) ⟨k1.2.1,k1.2.2⟩ ⟨k0.2.1,k0.2.2⟩ u
  have HS:=λu=>q21 f.lvl A n' c' B mm dd (by omega) (by omega) u
  rw[e1] at b0;rw[show ((0:Nat):Int)=0 from rfl] at b0;rw[e2] at f7;rw[<-i8] at HS;unfold Xx at b0 f7 HS;replace b0:=HI b0;replace f7:=HI f7;replace HS:=HI HS;clear e1 e2 r5 i8;have a8:=λu=>qq8 (Q:=Turn S G) u 193 q1 o3 q2
  rw[l1,l2,g5.out] at a8;have d4:∀u:WD,G9 (Turn S G) ((u.alloc Ap).alloc (.cells #[.int .i64 f.lvl,.slice A6 n6 c6,.slice B6 m6 d6,.int .i64 f.lvl,.slice A2 n2 c2,.slice B2 m2 d2,.int .i64 f.lvl,.slice A7 n7 c7,.slice B7 m7 d7] 193)) (some ⟨u.1.size+1,0,none⟩) 3 3 [f.cut 0 i,g,f.cut j f.size]:=λu=>by
   have:=a8 (u.alloc Ap);rwa [BH] at this
  replace a8:=HI a8;replace d4:=HI d4;have s9:g.items.length<=7/\g.kids.length<=7:=by unfold Nd.size at r0;omega
  have t1:f.items.length<=12/\f.kids.length<=12:=by unfold Nd.size at o9;omega
  have k5:∀k,S k->k<G.1.size:=λk hk=>by have:=hS k hk;omega
  have Hj:∀(S':NP) (_:∀k,S' k->S k\/G.1.size<=k) (u:WD) (_:∀k,S' k->k<u.1.size) (_:Below G.1.size G u) (X:OA) (_:G9 (Turn S G) u X 3 3 [f.cut 0 i,g,f.cut j f.size]),Calls prog 142 #[.slice X 3 3] u λe U=>∃A n c B m d,e=.returned (Xx f.lvl A n c B m d)/\Je (Turn S' U) (Xy ⟨f,ad,nx,hd,sh⟩ i j g) A n c B m d/\Below u.1.size u U:=λS' q6 u q7 hu X hX=>
   q45 (S:=S') (w:=u) q7 [f.cut 0 i,g,f.cut j f.size] f.lvl l1 X 3 3 (by
    obtain⟨s4,r1,r2,r3⟩:=hX;exact⟨s4,r1,r2,λj r M hr hM=>by
     obtain⟨A',n',c',B',m',d',e',hq⟩:=r3 j r M hr hM;exact⟨A',n',c',B',m',d',e',hq.mono λv Z=>(Zb (S:=S) hu).trans Z q6⟩⟩) (by omega) (by omega)
    (by have h1:=q2b f 0 i;have h2:=q2b f j f.size;simp only[BC,List.flatMap_nil,AD,List.length_nil];omega)
    (by have h1:=q2b f 0 i;have h2:=q2b f j f.size;simp only[BC,List.flatMap_nil,AD,List.length_nil];omega)
  have u4:=R4.lt;have zn:=N4.lt;have cB:∀u,Below G.1.size G u->u.cell? ⟨qb,0,none⟩=some (.int .i64 f.lvl)/\u.cell? ⟨qb,1,none⟩=some (.slice A n' c')/\u.cell? ⟨qb,2,none⟩=some (.slice B mm dd)/\u.cell? ⟨w.1.size+1,0,none⟩=some (.int .i64 f.lvl)/\u.cell? ⟨w.1.size+1,1,none⟩=some (.slice A2 n2 c2)/\u.cell? ⟨w.1.size+1,2,none⟩=some (.slice B2 m2 d2):=λu hu=>
   have s1:=R4.below hu R4.lt;have n1:=N4.below hu N4.lt;⟨s1.cell 0 rfl,s1.cell 1 rfl,s1.cell 2 rfl,n1.c0,n1.c1,n1.c2⟩
  have f8:∀(u:WD) (_:Below G.1.size G u) (q:Nat) (_:G.1.size<=q/\NB u q 0 none 0 0 none 0 0) (X:OA) (_:G9 (Turn S G) u X 3 3 [f.cut 0 i,g,f.cut j f.size]),Calls prog 142 #[.slice X 3 3] u λe U=>∃I R c5 J O K,e=.returned (.agg #[.int .i64 f.lvl,.slice I R c5,.slice J O K])/\Below G.1.size G U/\(stB (.pointer (some ⟨q,0,none⟩)) (.agg #[.int .i64 f.lvl,.slice I R c5,.slice J O K])).run prog U=.ok () (U.setCells q 0 [.int .i64 f.lvl,.slice I R c5,.slice J O K])/\(NB (U.setCells q 0 [.int .i64 f.lvl,.slice I R c5,.slice J O K]) (q) f.lvl I R c5 J O K/\Je (Turn S (U.setCells q 0 [.int .i64 f.lvl,.slice I R c5,.slice J O K])) (Xy ⟨f,ad,nx,hd,sh⟩ i j g) I R c5 J O K/\Below G.1.size G (U.setCells q 0 [.int .i64 f.lvl,.slice I R c5,.slice J O K])):=by
   intro u hu q hq X hX;refine (Hj (λk=>S k\/k=q) (λk hk=>hk.elim .inl λh=>.inr (by omega)) u (λk hk=>hk.elim (λh=>by have:=k5 k h;have:=hu.size;omega) λh=>by rw[h];exact hq.2.lt) hu X hX).mono ?_;rintro e U ⟨I,R,c5,J,O,K,rfl,h1,h2⟩;have hz:=hq.2.below h2 hq.2.lt;have b5:=hu.trans (h2.mono hu.size);have T8:Turn (λk=>k=q) U (U.setCells q 0 [.int .i64 f.lvl,.slice I R c5,.slice J O K]):=Us (S:=λk=>k=q) rfl _ 0 U;exact⟨I,R,c5,J,O,K,rfl,b5,qip hz f.lvl I R c5 J O K,hz.stored f.lvl I R c5 J O K,h1.mono λv Z=>(T8.mono λk hk=>.inr hk).then (Z.mono λk hk=>.inl hk),b5.trans (T8.below (λk hk=>by have:k=q:=hk;omega) b5.size)⟩
  have i9:∀(u:WD) (_:Below G.1.size G u) (X:OA) (_:G9 (Turn S G) u X 3 3 [f.cut 0 i,g,f.cut j f.size]),Calls prog 142 #[.slice X 3 3] u λe U=>∃I R c5 J O K,e=.returned (.agg #[.int .i64 f.lvl,.slice I R c5,.slice J O K])/\Below G.1.size G U/\(stB (.pointer (some ⟨U.1.size,0,none⟩)) (.agg #[.int .i64 f.lvl,.slice I R c5,.slice J O K])).run prog (U.alloc Ap)=.ok () ((U.alloc Ap).setCells U.1.size 0 [.int .i64 f.lvl,.slice I R c5,.slice J O K])/\(NB ((U.alloc Ap).setCells U.1.size 0 [.int .i64 f.lvl,.slice I R c5,.slice J O K]) (U.1.size) f.lvl I R c5 J O K/\Je (Turn S ((U.alloc Ap).setCells U.1.size 0 [.int .i64 f.lvl,.slice I R c5,.slice J O K])) (Xy ⟨f,ad,nx,hd,sh⟩ i j g) I R c5 J O K/\Below G.1.size G ((U.alloc Ap).setCells U.1.size 0 [.int .i64 f.lvl,.slice I R c5,.slice J O K])):=by
   intro u hu X hX;refine (Hj S (λk hk=>.inl hk) u (λk hk=>by have:=k5 k hk;have:=hu.size;omega) hu X hX).mono ?_;rintro e U ⟨I,R,c5,J,O,K,rfl,h1,h2⟩;have hz:=q4u U;have b5:=hu.trans (h2.mono hu.size);have T8:Turn (λk=>k=U.1.size) (U.alloc Ap) ((U.alloc Ap).setCells U.1.size 0 [.int .i64 f.lvl,.slice I R c5,.slice J O K]):=Us (S:=λk=>k=U.1.size) rfl _ 0 _;have o5:Below U.1.size U ((U.alloc Ap).setCells U.1.size 0 [.int .i64 f.lvl,.slice I R c5,.slice J O K]):=((AI _ _).alloc (AE _) Ap).trans (T8.below (λk hk=>by have:k=U.1.size:=hk;omega) (by simp));exact⟨I,R,c5,J,O,K,rfl,b5,qip hz f.lvl I R c5 J O K,hz.stored f.lvl I R c5 J O K,h1.mono λv Z=>(Zb (S:=S) o5).then Z,b5.trans (o5.mono b5.size)⟩
  have y:Below G.1.size G G.drew:=(AI _ _).drew;have bA:Below G.1.size G (G.alloc Ap).drew:=(Ql).drew;have zA:NB (G.alloc Ap).drew G.1.size 0 none 0 0 none 0 0:=q4u G;replace cB:=HI cB;replace f8:=HI f8;replace i9:=HI i9;replace zA:=HI zA;have n4:=HI L4;have k8:=HI g8;clear Hj hB o3 g8 q1 q2 L0 L4;go_cut [14] from 34 to 47 (λq wx=>∃(qz:Nat) (I:OA) (R c5:Nat) (J:OA) (O K:Nat),q=.pointer (some ⟨qz,0,none⟩)/\G.1.size<=qz/\NB wx qz f.lvl I R c5 J O K/\Je (Turn S wx) (Xy ⟨f,ad,nx,hd,sh⟩ i j g) I R c5 J O K/\Below G.1.size G wx)
  case first=>
   go_region_held3 (λu=>u.cell? ⟨qb,0,none⟩=some (.int .i64 f.lvl)/\u.cell? ⟨qb,1,none⟩=some (.slice A n' c')/\u.cell? ⟨qb,2,none⟩=some (.slice B mm dd)/\u.cell? ⟨w.1.size+1,0,none⟩=some (.int .i64 f.lvl)/\u.cell? ⟨w.1.size+1,1,none⟩=some (.slice A2 n2 c2)/\u.cell? ⟨w.1.size+1,2,none⟩=some (.slice B2 m2 d2))
    (first|(with_reducible assumption)|(with_reducible exact cB.out _ y)|(with_reducible exact cB.out _ bA)|(with_reducible exact cB.out _ (y.alloc y.size _))|(with_reducible exact cB.out _ ((y.alloc y.size _).alloc (y.alloc y.size _).size _))|(with_reducible exact cB.out _ hF.out.2.2.2))
    (first
     |(go_at_call 143;(with_reducible refine (b0.out _).mono ?_);rintro e wX ⟨rfl,F⟩;(first|(have E:=a2.out;replace a2:=HI (And.intro E.1 (E.2.below F E.2.lt));clear E;replace y:=y.trans (F.mono y.size))|(have a2:=HI (And.intro y.size ((q4u _).below F (by simp)));replace y:=(y.alloc y.size Ap).trans (F.mono (y.alloc y.size Ap).size))|(have a2:=HI (And.intro (AE G.1.size) (zA.out.below F zA.out.lt));replace y:=bA.trans (F.mono bA.size))|(replace y:=y.trans (F.mono y.size)));clear F)
     |(go_at_call 143;(with_reducible refine (f7.out _).mono ?_);rintro e wX ⟨rfl,F⟩;(first|(have E:=a2.out;replace a2:=HI (And.intro E.1 (E.2.below F E.2.lt));clear E;replace y:=y.trans (F.mono y.size))|(have a2:=HI (And.intro y.size ((q4u _).below F (by simp)));replace y:=(y.alloc y.size Ap).trans (F.mono (y.alloc y.size Ap).size))|(have a2:=HI (And.intro (AE G.1.size) (zA.out.below F zA.out.lt));replace y:=bA.trans (F.mono bA.size))|(replace y:=y.trans (F.mono y.size)));clear F)
     |(go_at_call 144;(with_reducible refine (HS.out _).mono ?_);rintro e wX ⟨rfl,F⟩;(first|(have E:=a2.out;replace a2:=HI (And.intro E.1 (E.2.below F E.2.lt));clear E;replace y:=y.trans (F.mono y.size))|(have a2:=HI (And.intro y.size ((q4u _).below F (by simp)));replace y:=(y.alloc y.size Ap).trans (F.mono (y.alloc y.size Ap).size))|(have a2:=HI (And.intro (AE G.1.size) (zA.out.below F zA.out.lt));replace y:=bA.trans (F.mono bA.size))|(replace y:=y.trans (F.mono y.size)));clear F)
     |(go_at_call 142;have E:=a2.out;(with_reducible refine (f8.out _ (y.alloc y.size _) _ (And.intro E.1 (E.2.below (Ql) E.2.lt)) _ (a8.out _)).mono ?_);rintro e wJ ⟨I,R,c5,J,O,K,rfl,bJ,a9,hF⟩;replace y:=bJ;replace hF:=HI (And.intro E.1 hF);clear bJ)
     |(go_at_call 142;(with_reducible refine (i9.out _ (y.alloc y.size _) _ (a8.out _)).mono ?_);rintro e wJ ⟨I,R,c5,J,O,K,rfl,bJ,a9,hF⟩;replace y:=bJ;replace hF:=HI (And.intro bJ.size hF);clear bJ)
     |(go_at_call 142;(with_reducible refine (f8.out _ ((y.alloc y.size _).alloc (y.alloc y.size _).size _) _ (And.intro (Nat.le_succ_of_le y.size) (NB.new2 _ _ 0 none 0 0 none 0 0 193)) _ ((a8.out _).below (Ql))).mono ?_);rintro e wJ ⟨I,R,c5,J,O,K,rfl,bJ,a9,hF⟩;have hz:=y.size;replace hF:=HI (And.intro (Nat.le_succ_of_le hz) hF);replace y:=bJ;clear bJ)
     |(go_at_call 142;(with_reducible refine (f8.out _ ((y.alloc y.size _).alloc (y.alloc y.size _).size _) _ (And.intro y.size ((q4u _).below (Ql) (by simp))) _ (d4.out _)).mono ?_);rintro e wJ ⟨I,R,c5,J,O,K,rfl,bJ,a9,hF⟩;have hz:=y.size;replace hF:=HI (And.intro hz hF);replace y:=bJ;clear bJ)
     |fail)
   all_goals (go_wp2_with fail;go_meet;exact⟨_,_,_,_,_,_,_,rfl,hF.out.1,hF.out.2.1,hF.out.2.2.1,hF.out.2.2.2⟩)
  case rest=>
   obtain⟨qz,I,R,c5,J,O,K,rfl,u0,NZ,o7,BZ⟩:=hcut;have L5:=n4.out.below BZ;have T5:=T4.below BZ T4.lt;have R5:=R4.below BZ R4.lt;have o8:Je (Turn S wc) f A n' c' B mm dd:=k8.out.mono λv Z=>(Zb (S:=S) BZ).then Z
   have TZ:Turn S w wc:=TW.trans (Zb (S:=S) BZ) λk hk=>.inl hk
   have zz:=BZ.size;have u5:=NZ.lt;obtain⟨p1,a7,p2⟩:=qxh (s:=⟨f,ad,nx,hd,sh⟩) g7 r4 g5.out hi;have p2:(Xy ⟨f,ad,nx,hd,sh⟩ i j g).size<=f.size+g.size:=p2;have a7:(Xy ⟨f,ad,nx,hd,sh⟩ i j g).lvl=f.lvl:=a7;have y0:=T5.cell 0 rfl;have f0:=R5.cell 0 rfl;have f1:=R5.cell 1 rfl;have f2:=R5.cell 2 rfl;have f3:=R5.cell 3 rfl;have f4:=R5.cell 4 rfl;have f5:=R5.cell 5 rfl;have f6:=R5.cell 6 rfl;have g0:=NZ.c0;have g1:=NZ.c1;have g2:=NZ.c2;clear y bA zA b0 f7 HS a8 d4 f8 i9 cB n4 k8
   cases way with
   |nil=>
    obtain⟨l5,i7,l3⟩:=qkz g6.out;obtain rfl:P1=l5:=OI (a5.symm.trans i7);have Ht:=quf L5.sys hb L5.tab L5.tidy ⟨f,ad,nx,hd,sh⟩ A n' c' B mm dd o8 (Xy ⟨f,ad,nx,hd,sh⟩ i j g) I R c5 J O K o7 p1 (by omega) (by rw[a7];exact k2) l3;rw[a7] at Ht;unfold tv Vm Xx at Ht;dsimp only at Ht;replace Ht:=HI Ht;obtain rfl:m=0:=j9.symm;clear l3 i7 a5 g6;go_wp2_with fail
    refine Ht.out.mono ?_;rintro e w6 ⟨v,rfl,Z,H6,X6,t6,p6⟩;have L6:=L5.step H6 X6 t6 p6;have TF:=TZ.then X6;go_wp2_with fail
    go_ret2;exact⟨v,rfl,Z,L6.done,TF,t6,p6⟩
   |cons t way=>
    obtain⟨l5,x,P2,P3,r2,i7,b8,k6,l7⟩:=qgp g6.out;obtain rfl:P1=l5:=OI (a5.symm.trans i7);obtain⟨m0,p5,k4,m1,p7,s7⟩:=s2.out;have o4:∀u,Turn S w u->Vo (Turn S w) u X m c (way.reverse++[t]):=λu hu=>by
     have:=(hX u hu).take (show m<=n by omega);have e:((t::way).reverse++[(⟨f,ad,nx,hd,sh⟩:Qr)]).take m=way.reverse++[t]:=by
      have o6:(way.reverse++[t]).length=m:=by rw[<-j9];simp
      rw[List.reverse_cons,<-o6,List.take_left]
     rwa [e] at this
    have t0:way.length+1=m:=j9;have l0:Y1 (way.reverse++[t]) (m-1)=t:=by
     have:=q3r way.reverse t;rw[List.length_reverse] at this;rw[show m-1=way.length by omega];exact this
    have b2:=qgd (o4 wc TZ) (by omega) (by omega);rw[l0] at b2;have i6:=quj L5.good p1 m0 (by rw[a7];exact k4) (by rw[a7];exact k2.1) p7 b8;have a4:=λ{T2:NP} {w2:WD} {P3:Pl} (h:Qh b w2 d p S0 S T2 D P3)=>a4.out t way rfl h
    obtain⟨tN,i1,d1,i2,i3⟩:=t;unfold Vm at b2;dsimp only at m0 p5 k4 m1 p7 b2;have xl:x.N.lvl=f.lvl:=i6.lvl.trans a7;have gm:¬(m:Int)=0:=by omega
    have m4:=k4;replace m4:=HI m4;have b3:=λ(u:WD) (hu:Below wc.1.size wc u) (A6:OA) (n6 c6:Nat) (B6:OA) (m6 d6:Nat) (hA:Ro (Turn S u) B6 m6 d6 tN.kids)=>qqo (L5.below hu).sys hb (L5.below hu).tab L5.tidy ⟨f,ad,nx,hd,sh⟩ A n' c' B mm dd (o8.mono λv Z=>(Zb (S:=S) hu).then Z) (Xy ⟨f,ad,nx,hd,sh⟩ i j g) I R c5 J O K (o7.mono λv Z=>(Zb (S:=S) hu).then Z) ⟨tN,i1,d1,i2,i3⟩ A6 n6 c6 B6 m6 d6 hA ⟨by show 1<=tN.lvl;omega,m1⟩ (by show d1<=60;omega) (by omega) b8
    rw[a7,xl] at b3;unfold tv Vm Xf Xx at b3;dsimp only at b3;replace b3:=HI b3;replace b2:=HI b2;have s6:1<=tN.lvl/\tN.lvl<8:=by omega
    have m9:=HI xl;clear i7 a5 g6 hX l0 k4 m1 xl a7;go_wp2_with fail
    refine b2.out.mono ?_;rintro e w6 ⟨A6,n6,c6,B6,m6,d6,rfl,r7,b6⟩;obtain⟨w7,p0,Q7,b7⟩:∃w7,(stS (.pointer (some ⟨w6.1.size,0,none⟩)) (.agg #[.int .i64 tN.lvl,.slice A6 n6 c6,.slice B6 m6 d6,.int .i64 i1,.int .i64 (d1:Int),.bool i2,.bool i3])).run prog (w6.alloc Ui)=.ok () w7/\RB w7 w6.1.size (Ja tN.lvl A6 n6 c6 B6 m6 d6 i1 (d1:Int) i2 i3)/\Below w6.1.size w6 w7:=by
     have T7:Turn (λk=>k=w6.1.size) (w6.alloc Ui) ((w6.alloc Ui).setCells w6.1.size 0 (Ja tN.lvl A6 n6 c6 B6 m6 d6 i1 (d1:Int) i2 i3)):=Us (S:=λk=>k=w6.1.size) rfl _ 0 _;exact⟨_,qih (Ii w6) rfl tN.lvl A6 n6 c6 B6 m6 d6 i1 (d1:Int) i2 i3,(Ii w6).stored (Ja tN.lvl A6 n6 c6 B6 m6 d6 i1 (d1:Int) i2 i3) rfl,((AI _ _).alloc (AE _) Ui).trans (T7.below (λk hk=>by have:k=w6.1.size:=hk;omega) (by simp))⟩
    have b4:=b6.trans (b7.mono b6.size);have z7:=b4.size;have z6:=b6.size;have u3:=Q7.lt;have L7:=L5.below b4;have T7:=T5.below b4 T5.lt;have R7:=R5.below b4 R5.lt;have N7:=NZ.below b4 NZ.lt;have o2:Ro (Turn S w7) B6 m6 d6 tN.kids:=λv Z=>r7.Bg v ((TZ.trans (Zb (S:=S) b4) λk hk=>.inl hk).then Z)
    clear y0 f0 f1 f2 f3 f4 f5 f6 g0 g1 g2;have y0:=T7.cell 0 rfl;have f0:=R7.cell 0 rfl;have f1:=R7.cell 1 rfl;have f2:=R7.cell 2 rfl;have f3:=R7.cell 3 rfl;have f4:=R7.cell 4 rfl;have f5:=R7.cell 5 rfl;have f6:=R7.cell 6 rfl;have g0:=N7.c0;have g1:=N7.c1;have g2:=N7.c2;have e0:=Q7.cell 0 rfl;have e1:=Q7.cell 1 rfl;have e2:=Q7.cell 2 rfl;have e3:=Q7.cell 3 rfl;have e4:=Q7.cell 4 rfl;have e5:=Q7.cell 5 rfl;have e6:=Q7.cell 6 rfl;go_wp2_with fail
    refine (b3.out w7 b4 A6 n6 c6 B6 m6 d6 o2).mono ?_;rintro e w8 ⟨A8,n8,c8,B8,m8,d8,Y,k,rfl,r8,q8,t2,H8,X8,t8⟩;have L8:=L7.step H8 X8 t8 (qqp L5.tidy b8);have T8:=T7.turned X8 (λh=>by have:=hS _ h;omega);have z8:=X8.size;clear p0 y0 f0 f1 f2 f3 f4 f5 f6 g0 g1 g2 e0 e1 e2 e3 e4 e5 e6 b3 b2 o2;obtain⟨xi,l8⟩:∃xi,x.i=xi:=⟨_,rfl⟩;obtain⟨xj,l9⟩:∃xj,x.j=xj:=⟨_,rfl⟩;rw[l8,l9];go_wp2_with (first
     |(refine q8n rfl (.tmp 16) _ rfl w8.1.size rfl f.lvl A8 n8 c8 B8 m8 d8 Y k k (xi:Int) (xj:Int) rfl (RB.new w8 (Xf 0 none 0 0 none 0 0 none 0 0 0 0) 228) rfl ?_;intro w9 R9 q4;have b9:Below w8.1.size w8 w9:=(Ql).trans (q4.below (λk hk=>by have:k=w8.1.size:=hk;omega) (by simp));have T9:=T8.below b9 T8.lt;have y0:=T9.cell 0 rfl;have f0:=R9.cell 0 rfl;have f1:=R9.cell 1 rfl;have f2:=R9.cell 2 rfl;have f3:=R9.cell 3 rfl;have f4:=R9.cell 4 rfl;have f5:=R9.cell 5 rfl)
     |fail)
    have L9:=L8.below b9;have z9:=b9.size;have u6:=R9.lt;have r9:Je (Turn S w9) x.N A8 n8 c8 B8 m8 d8:=r8.mono λv Z=>(Zb (S:=S) b9).then Z
    have q9:∀u,Turn S w9 u->Vo (Turn S w9) u Y k k x.olds:=λu hu=>(q8 u ((Zb (S:=S) b9).then hu)).mono λv Z=>(Zb (S:=S) b9).then Z
    have t7:=i6.size;have Hl:=qli L9.sys hb L9.tab L9.tidy x A8 n8 c8 B8 m8 d8 r9 i6.fit (by omega) (by rw[m9.out];exact k2) Y k k q9 (by omega) k6 (xi:Int) (xj:Int);rw[m9.out] at Hl;unfold tv Xf Xx at Hl;replace Hl:=HI Hl;refine Hl.out.mono ?_;rintro e a1 ⟨e8,i0,f9,e9,g9,g3,l,rfl,k7,p8,j0,s5,s3⟩;have q0:=L9.step p8 j0 s5 s3;have o1:=T9.turned j0 (λh=>by have:=hS _ h;omega);have n9:=R9.turned j0 (λh=>by have:=hS _ h;omega);have u2:=j0.size;clear y0 f0 f1 f2 f3 f4 f5 Hl;obtain⟨k3,s0,l4,j7⟩:∃k3,(stB (.pointer (some ⟨a1.1.size,0,none⟩)) (.agg #[.int .i64 l,.slice e8 i0 f9,.slice e9 g9 g3])).run prog (a1.alloc Ap)=.ok () k3/\NB k3 a1.1.size l e8 i0 f9 e9 g9 g3/\Below a1.1.size a1 k3:=by
     have TT:Turn (λk=>k=a1.1.size) (a1.alloc Ap) ((a1.alloc Ap).setCells a1.1.size 0 [.int .i64 l,.slice e8 i0 f9,.slice e9 g9 g3]):=Us (S:=λk=>k=a1.1.size) rfl _ 0 _;exact⟨_,qip (q4u a1) l e8 i0 f9 e9 g9 g3,(q4u a1).stored l e8 i0 f9 e9 g9 g3,((AI _ _).alloc (AE _) Ap).trans (TT.below (λk hk=>by have:k=a1.1.size:=hk;omega) (by simp))⟩
    have a3:=q0.below j7;have q3:=o1.below j7 o1.lt;have o0:=n9.below j7 n9.lt;rcases l7 with⟨rfl,rfl,rfl⟩|⟨ks,rfl,d0⟩
    ·unfold Td;dsimp only;go_wp2_with fail
     go_ret2;exact⟨0,rfl,λa e=>(by cases e),a3.done,a3.turn,a3.tab,a3.tidy⟩
    ·obtain⟨hl,k9⟩:=k7 ks rfl;have r6:ks.length<=7:=by
      rw[qxi k6];exact qmy (by omega)
     rw[m9.out] at d0;have HR:=a4 a3.sys a3.tab a3.tidy m0 p5 ⟨by show 0<=tN.lvl;omega,s6.2⟩ (HI s7) (λu hu=>(o4 u (a3.turn.then hu)).mono λv Z=>a3.turn.then Z) ⟨f.lvl+1,[],ks⟩ ⟨λh=>by
       have h:f.lvl+1=0:=h;omega,λ_=>rfl⟩ (by unfold Nd.size;simp;exact r6) m4.out.symm e8 i0 f9 e9 g9 g3 (k9.mono λv Z=>(Zb (S:=S) j7).then Z) x.i x.j i6.ij i6.j d0
     dsimp only at HR;rw[<-hl,l8,l9] at HR;unfold tv Xx at HR;replace HR:=HI HR;have y0:=q3.cell 0 rfl;have f4:=o0.cell 4 rfl;have f5:=o0.cell 5 rfl;have g0:=l4.c0;have g1:=l4.c1;have g2:=l4.c2;clear hl k7 k9 d0 l8 l9;unfold Td;dsimp only;go_wp2_with fail
     refine HR.out.mono ?_;rintro e u1 ⟨v,rfl,Z,p9,q5,p4,p3⟩;have n0:=a3.step p9 q5 p4 p3;go_wp2_with fail
     go_ret2;exact⟨v,rfl,Z,n0.done,n0.turn,p4,p3⟩
end
end
