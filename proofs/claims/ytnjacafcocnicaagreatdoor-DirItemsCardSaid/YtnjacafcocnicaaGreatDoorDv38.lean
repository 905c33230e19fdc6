/- The code's edit: enough, of any node; plain facts of an exchange -/
import Derived.Test.YtnjacafcocnicaaGreatDoorHaT
namespace Go.Proofs.YtnjacafcocnicaaGreatDoor
open Go Go.RowKit Go.Proofs Tryz
set_option maxHeartbeats 8000000
set_option maxRecDepth 100000
section
variable {b:Nat}{w:WD}{d p:Nat}{S0 S T:NP}{D:DM}{P P':Pl}
theorem qsz (H:Ql b w d p S0 S T D P)(hb:1<b)(ht:Tab w)(hP:P.tidy)(s:Qy)(A:OA)(n c:Nat)(B:OA)(m dd:Nat)(hs:Jm (Turn S w) s.N A n c B m dd)(N:Nd)(I:OA)(V c2:Nat)(K:OA)(R O:Nat)(hB:Jm (Turn S w) N I V c2 K R O)(above:Qy)(A3:OA)(n3 c3:Nat)(X:OA)(m3 Z:Nat)(hA:KdQ (Turn S w) X m3 Z above.N.kids)(hl:1<=above.N.lvl/\above.N.lvl<8)(G:above.next<=60)(a1:N.size<=20){x:Tv}(E:P.have_ D s N above=some (x,P')) :
  Calls prog 136 #[tv p,Vs s A n c B m dd,Ym N.lvl I V c2 K R O,Vs above A3 n3 c3 X m3 Z] w λe y=>∃J W c5 M U Q Y k,e=.returned (.tuple #[.agg (Xt x.N.lvl J W c5 M U Q Y k k (x.i:Int) (x.j:Int)).toArray,.int .i64 0])/\Jm (Turn S y) x.N J W c5 M U Q/\(∀u,Turn S y u->Vr (Turn S y) u Y k k x.olds)/\k<=2/\Ql b y d p S0 S T D P'/\Turn S w y/\Tab y:=by
 unfold Pl.have_ at E;by_cases f:Qv N.lvl<=N.size
 ·rw[AA f] at E;injection OI E with e1 e2;subst e1 e2;refine (qp1 H ht s A n c B m dd hs N I V c2 K R O hB above A3 n3 c3 X m3 Z G f).mono ?_;rintro e y ⟨Y,rfl,h1,h2,F⟩;exact⟨I,V,c2,K,R,O,Y,1,rfl,h1,h2,by omega,H.below F,Qz F,ht.below F ht.1⟩
 ·rw[AB f] at E;by_cases h0:0<above.next
  ·rw[AA h0] at E;obtain⟨P2,q,e⟩:=Option.map_eq_some_iff.1 E;injection e with e1 e2;subst e1 e2;unfold Pl.near at q;split at q
   ·rename_i hk;refine (qpp H hb ht hP s A n c B m dd hs N I V c2 K R O hB above A3 n3 c3 X m3 Z hA hl G f a1 h0 hk q).mono ?_;rintro e y ⟨J,W,c5,M,U,Q,Y,rfl,h1,h2,F,h4,h5⟩;exact⟨J,W,c5,M,U,Q,Y,2,rfl,h1,h2,by omega,F,h4,h5⟩
   ·cases q
  ·rw[AB h0] at E;obtain⟨P2,q,e⟩:=Option.map_eq_some_iff.1 E;injection e with e1 e2;subst e1 e2;unfold Pl.near at q;split at q
   ·rename_i hk;refine (qpq H hb ht hP s A n c B m dd hs N I V c2 K R O hB above A3 n3 c3 X m3 Z hA hl G f a1 h0 hk q).mono ?_;rintro e y ⟨J,W,c5,M,U,Q,Y,rfl,h1,h2,F,h4,h5⟩;exact⟨J,W,c5,M,U,Q,Y,2,rfl,h1,h2,by omega,F,h4,h5⟩
   ·cases q
theorem qt0 {s above:Qy}{N:Nd}{x:Tv}(h:P.tidy)(m:P.have_ D s N above=some (x,P')):P'.tidy:=by
 have near:∀{i:Nat} {q:Pl},P.near D above i=some q->q.tidy:=λ{i q} f=>by
  unfold Pl.near at f;split at f
  ·exact h.Q9 f
  ·cases f
 unfold Pl.have_ at m;split at m
 ·injection OI m with y u;subst u;exact h
 ·split at m
  ·obtain⟨q,f,e⟩:=Option.map_eq_some_iff.1 m;injection e with y u;subst u;exact near f
  ·obtain⟨q,f,e⟩:=Option.map_eq_some_iff.1 m;injection e with y u;subst u;exact near f
end
def Ud:Qy->List Qy->Prop
 |_,[]=>True
 |s,t::way=>t.N.fit/\t.N.size<=12/\t.N.lvl=s.N.lvl+1/\t.N.lvl<8/\t.next+1<=t.N.size/\Ud t way
theorem qt1 {N:Nd}(h:N.fit){i j:Nat}(e:i<=j):(N.cut 0 i).size+(N.cut j N.size).size<=N.size:=by
 obtain⟨h1,h2⟩:=h;unfold Nd.cut;by_cases h0:N.lvl=0
 ·rw[AA h0,AA h0];unfold Nd.size;simp only[h1 h0,List.length_nil,AR,AS];omega
 ·rw[AB h0,AB h0];unfold Nd.size;simp only[h2 h0,List.length_nil,AR,AS];omega
theorem qfe {l:Int}{N M:Nd}(h:N.fit)(hm:M.fit)(m:N.lvl=l)(f:M.lvl=l):(⟨l,N.items++M.items,N.kids++M.kids⟩:Nd).fit:=by
 refine⟨λh0=>?_,λh0=>?_⟩
 ·have h0:l=0:=h0;show N.kids++M.kids=[];rw[h.1 (m.trans h0),hm.1 (f.trans h0)];rfl
 ·have h0:¬l=0:=h0;show N.items++M.items=[];rw[h.2 (λe=>h0 (m.symm.trans e)),hm.2 (λe=>h0 (f.symm.trans e))];rfl
theorem q9z {l:Int}{N M:Nd}:Jb l [N,M]=⟨l,N.items++M.items,N.kids++M.kids⟩:=by unfold Jb;simp
theorem qt2 (N:Nd)(i j:Nat):(N.cut i j).lvl=N.lvl:=by unfold Nd.cut;split<;>rfl
theorem qAt {s:Qy}{f:Nd}{i j:Nat}(h:s.N.fit)(y:f.fit)(A:f.lvl=s.N.lvl)(m:i<=j):(Yg s i j f).fit/\(Yg s i j f).lvl=s.N.lvl/\(Yg s i j f).size<=s.N.size+f.size:=by
 have h1:=qt1 h m;have q:=q8i h 0 i;have u:=q8i h j s.N.size;have B:=qt2 s.N 0 i;have E:=qt2 s.N j s.N.size;have e:Yg s i j f=⟨s.N.lvl,(s.N.cut 0 i).items++(f.items++(s.N.cut j s.N.size).items),(s.N.cut 0 i).kids++(f.kids++(s.N.cut j s.N.size).kids)⟩:=by unfold Yg Jb;simp
 rw[e];refine⟨qfe q (qfe y u A E) B rfl,rfl,?_⟩;unfold Nd.size at h1 ⊢;simp only[AD];omega
structure Qcg (x:Tv)(b:Nd)(above:Qy):Prop where
 fit:x.N.fit
 size:x.N.size<=b.size+12
 lvl:x.N.lvl=b.lvl
 ij:x.i<=x.j
 j:x.j<=above.N.size
theorem qx5 {P P':Pl}{D:DM}{s above:Qy}{b:Nd}{x:Tv}(H:∀a b,P.L a=some b->b.good)(B:b.fit)(_:above.N.fit)(J:above.N.lvl=b.lvl+1)(_:0<=b.lvl)(hn:above.next+1<=above.N.size)(h:P.have_ D s b above=some (x,P')):Qcg x b above:=by
 have kid:∀i,P.Kq D above i=true->(P.Jk D above i).N.fit/\(P.Jk D above i).N.size<=12/\(P.Jk D above i).N.lvl=b.lvl/\i<above.N.size:=λi q=>by
  obtain⟨K,I,M⟩:=AK q;have hm:=qnf H _ I;refine⟨Tc hm,q62 hm,?_,by unfold Nd.size;omega⟩;show (P.Qd D (Qk above.N.kids i).a).lvl=_;omega
 unfold Pl.have_ at h;split at h
 ·injection OI h with m E;subst m;exact⟨B,Nat.le_add_right _ _,rfl,Nat.le_succ _,hn⟩
 ·split at h
  ·rename_i h0;obtain⟨G,f,e⟩:=Option.map_eq_some_iff.1 h;injection e with m E;subst m;unfold Pl.near at f;split at f
   ·rename_i q;obtain⟨y,A,u,F⟩:=kid _ q;refine⟨?_,?_,u,?_,hn⟩
    ·dsimp only;rw[q9z];exact qfe y B rfl u.symm
    ·dsimp only;rw[q9z];unfold Nd.size at A ⊢;simp only[AD];omega
    ·dsimp only;omega
   ·cases f
  ·obtain⟨G,f,e⟩:=Option.map_eq_some_iff.1 h;injection e with m E;subst m;unfold Pl.near at f;split at f
   ·rename_i q;obtain⟨y,A,u,F⟩:=kid _ q;refine⟨?_,?_,rfl,?_,F⟩
    ·dsimp only;rw[q9z];exact qfe B y rfl u
    ·dsimp only;rw[q9z];unfold Nd.size at A ⊢;simp only[AD];omega
    ·dsimp only;omega
   ·cases f
theorem q4g:∀(olds:List Qy) (P:Pl) (m:List Nd) (u:List Qn) {P':Pl} {f:List Nd} {q:List Qn},Ae olds P m u=some (P',f,q)->q.length+f.length=u.length+m.length
 |[],P,m,u,P',f,q,h=>by
  injection OI h with G A;injection A with A E;rw[<-A,<-E]
 |s::olds,P,[],u,P',f,q,h=>by
  obtain⟨y,_,h2⟩:=qbe h;exact q4g olds y [] u h2
 |s::olds,P,b::m,u,P',f,q,h=>by
  by_cases B:s.shared=true\/P.C.fresh s.addr=false
  ·obtain⟨y,_,h2⟩:=q4f B h;exact q4g olds y (b::m) u h2
  ·have h1:s.shared=false:=by
    cases e:s.shared with
    |false=>rfl
    |true=>exact absurd (.inl e) B
   have h2:P.C.fresh s.addr=true:=by
    cases e:P.C.fresh s.addr with
    |true=>rfl
    |false=>exact absurd (.inr e) B
   obtain⟨_,F⟩:=qbf h1 h2 h;have:=q4g olds _ m _ F;rw[AD] at this;simp at this ⊢;omega
theorem qdp:∀(e:List Nd) (P:Pl) (m:List Qn) {P':Pl} {f:List Qn},Xk e P m=some (P',some f)->f.length=m.length+e.length
 |[],P,m,P',f,h=>by
  injection OI h with u q;rw[<-OI q];rfl
 |b::e,P,m,P',f,h=>by
  rcases qbg h with⟨_,h2⟩|⟨_,h2⟩
  ·have:=qdp e _ _ h2;rw[AD] at this;simp at this ⊢;omega
  ·injection h2 with _ h2
   cases h2
theorem qp2 {N:Nd}(h:N.size<=31):(pieces N).length<=7:=by
 unfold pieces;rw[AF,List.length_range];unfold parts;have h1:6<=Qu N.lvl:=by unfold Qu;split<;>omega
 have h2:N.size+Qu N.lvl-1<8*Qu N.lvl:=by omega
 have:=Nat.div_lt_of_lt_mul (m:=N.size+Qu N.lvl-1) (n:=Qu N.lvl) (k:=8) (by rw[Nat.mul_comm];exact h2);omega
theorem qAu {P P':Pl}{x:Tv}{ks:List Qn}(h:P.Wl x=some (P',some ks)):ks.length=(pieces x.N).length:=by
 unfold Pl.Wl at h;split at h
 ·rename_i q f m e;have h1:=q4g _ _ _ _ e;have h2:=qdp _ _ _ h;simp at h1;omega
 ·cases h
theorem qhx {D:DM}{above:Qy}{way:List Qy}{P P':Pl}{s:Qy}{i j:Nat}{e:Nd}{r:Option Int}(h:Wu D (above::way) P s i j e=some (P',r)) :
  ∃m x u f A,P.Q9 s i j=some m/\m.have_ D s (Yg s i j e) above=some (x,u)/\u.Wl x=some (f,A)/\((A=none/\f=P'/\r=none)\/∃y,A=some y/\Wu D way f above x.i x.j ⟨x.N.lvl+1,[],y⟩=some (P',r)):=by
 have h:(match P.Q9 s i j with
  |some m=>match m.have_ D s (Yg s i j e) above with
   |some (x,u)=>match u.Wl x with
    |some (f,some y)=>Wu D way f above x.i x.j ⟨x.N.lvl+1,[],y⟩
    |some (f,none)=>some (f,none)
    |none=>none
   |none=>none
  |none=>none)=some (P',r):=h
 cases h1:P.Q9 s i j with
 |none=>rw[h1] at h;cases h
 |some m=>
  rw[h1] at h;dsimp only at h
  cases h2:m.have_ D s (Yg s i j e) above with
  |none=>rw[h2] at h;cases h
  |some q=>
   obtain⟨x,u⟩:=q;rw[h2] at h;dsimp only at h
   cases B:u.Wl x with
   |none=>rw[B] at h;cases h
   |some q=>
    obtain⟨f,A⟩:=q;rw[B] at h;refine⟨m,x,u,f,A,rfl,h2,B,?_⟩
    cases A with
    |none=>
     injection OI h with E F;exact .inl ⟨rfl,E,F.symm⟩
    |some y=>exact .inr ⟨y,rfl,h⟩
theorem qmq {D:DM}{P P':Pl}{s:Qy}{i j:Nat}{e:Nd}{r:Option Int}(h:Wu D [] P s i j e=some (P',r)):∃f,P.Q9 s i j=some f/\f.top s (Yg s i j e)=some (P',r):=by
 have h:(match P.Q9 s i j with|some f=>f.top s (Yg s i j e)|none=>none)=some (P',r):=h
 cases h1:P.Q9 s i j with
 |none=>rw[h1] at h;cases h
 |some f=>rw[h1] at h;exact⟨f,rfl,h⟩
theorem q5u (l:List Qy)(s:Qy):Wq (l++[s]) l.length=s:=by simp[Wq]
section
def stB (p v:Value):Sem Unit:=Instr.storeAt 142 p v
theorem qx6 (p v:Value):Instr.storeAt 142 p v=stB p v:=rfl
theorem qka {w:WD}{b:Nat}{l:Int}{A:OA}{n c:Nat}{B:OA}{m d:Nat}(H:NB w b l A n c B m d)(u:Int)(e:OA)(E c2:Nat)(f:OA)(y q:Nat) :
  (stB (.pointer (some ⟨b,0,none⟩)) (.agg #[.int .i64 u,.slice e E c2,.slice f y q])).run prog w=.ok () (w.setCells b 0 [.int .i64 u,.slice e E c2,.slice f y q]):=
 run_storeAt_mid w b 0 142 #[.int .i64 u,.slice e E c2,.slice f y q] H.there (by kernel_rfl) (by simp[Value.oneCell'])
abbrev Cj:Obj:=.cells #[.int .i64 0,.slice none 0 0,.slice none 0 0] 142
theorem q50 (w:WD):NB (w.alloc Cj) w.1.size 0 none 0 0 none 0 0:=NB.new w 0 none 0 0 none 0 0 142
attribute [local go_sem ↓] qf9
attribute [local go_sem ↓] qx6
section
variable {b:Nat}{d p:Nat}{S0 S:NP}{D:DM}
def Ak (b:Nat)(d p:Nat)(S0 S T:NP)(D:DM)(w:WD)(P':Pl)(r:Option Int)(e:Ending)(w':WD):Prop:=∃v,e=.returned (.tuple #[.int .i64 v,.int .i64 (Qcb r)])/\(∀a,r=some a->v=a)/\Ql b w' d p S0 S T D P'/\Turn S w w'/\Tab w'/\P'.tidy
theorem Df.good {b:Nat}{w0 w:WD}{d p:Nat}{S0 S T T':NP}{D:DM}{P:Pl}(h:Df b w0 w d p S0 S T T' D P):∀a b,P.L a=some b->b.good:=by
 obtain⟨m,c,l,k,v,e,L⟩:=h.sys.pool;exact L.good
theorem qdq {w:WD}{T:NP}{P P1:Pl}(H:Ql b w d p S0 S T D P)(hb:1<b)(ht:Tab w)(hP:P.tidy)(s:Qy)(way:List Qy)(i4:s.N.fit)(p7:s.N.size<=12)(k9:0<=s.N.lvl/\s.N.lvl<8)(X:OA)(n c:Nat)(hX:∀u,Turn S w u->Vr (Turn S w) u X n c (way.reverse++[s]))(hn:n<=20)
  (y:Nd) (s2:y.fit) (s0:y.size<=7) (i2:y.lvl=s.N.lvl) (A2:OA) (n2 c2:Nat) (B2:OA) (m2 d2:Nat) (hB:Jm (Turn S w) y A2 n2 c2 B2 m2 d2) (i j:Nat) (hi:i<=j) (hj:j<=s.N.size) {P':Pl} {r:Option Int} (i3:Wu D way P s i j y=some (P',r)) (b0:P.Q9 s i j=some P1) (s9:Hid (Ud s way))
  (a8:∀(t:Qy) (g4:List Qy),way=t::g4->∀{T2:NP} {w2:WD} {P3:Pl} (_:Ql b w2 d p S0 S T2 D P3) (_:Tab w2) (_:P3.tidy) (_:t.N.fit) (_:t.N.size<=12) (_:0<=t.N.lvl/\t.N.lvl<8) (_:Hid (Ud t g4)) (_:∀u,Turn S w2 u->Vr (Turn S w2) u X (n-1) c (g4.reverse++[t])) (a1:Nd) (_:a1.fit) (_:a1.size<=7) (_:a1.lvl=t.N.lvl) (A:OA) (n' c':Nat) (B:OA) (m' d':Nat) (_:Jm (Turn S w2) a1 A n' c' B m' d') (i j:Nat) (_:i<=j) (_:j<=t.N.size) (_:Wu D g4 P3 t i j a1=some (P',r)),Calls prog 72 #[tv p,.slice X (n-1) c,.int .i64 (i:Int),.int .i64 (j:Int),Ym a1.lvl A n' c' B m' d'] w2 (Ak b d p S0 S T2 D w2 P' r)) :
  Calls prog 72 #[tv p,.slice X n c,.int .i64 (i:Int),.int .i64 (j:Int),Ym y.lvl A2 n2 c2 B2 m2 d2] w (Ak b d p S0 S T D w P' r):=by
 rw[i2];replace i2:=HI i2;replace i3:=HI i3;have hS:=H.low;have g3:=(hX w (Turn.refl _ _)).len;have u2:=(hX w (Turn.refl _ _)).cap;rw[AD,List.length_reverse] at g3;have g3:way.length+1=n:=g3;obtain⟨m,hm⟩:∃m,n-1=m:=⟨_,rfl⟩;rw[hm] at a8;replace a8:=HI a8;have k6:way.length=m:=by omega
 have W:=λ(u:WD) (hu:Turn S w u)=>qhu (hX u hu) (by omega) (by omega)
 have b5:Wq (way.reverse++[s]) (n-1)=s:=by
  have:=q5u way.reverse s;rw[List.length_reverse,k6] at this;rw[hm];exact this
 rw[b5] at W;have j8:∀u,Below w.1.size w u->Turn S w u:=λu hu=>Qz hu
 obtain⟨f,ad,nx,hd,sh⟩:=s;unfold Vs at W;dsimp only at i4 p7 k9 i2 hj W ⊢;replace W:=HI W;have b1:Below w.1.size w ((w.alloc (.cells #[.pointer (some ⟨p,0,none⟩)] 137)).alloc (.cells #[.int .i64 f.lvl,.slice A2 n2 c2,.slice B2 m2 d2] 142)):=(Qi).alloc (by simp) _;have T1:RB ((w.alloc (.cells #[.pointer (some ⟨p,0,none⟩)] 137)).alloc (.cells #[.int .i64 f.lvl,.slice A2 n2 c2,.slice B2 m2 d2] 142)) w.1.size [.pointer (some ⟨p,0,none⟩)]:=(RB.new w [.pointer (some ⟨p,0,none⟩)] 137).below (Qi) (by simp);have N1:NB ((w.alloc (.cells #[.pointer (some ⟨p,0,none⟩)] 137)).alloc (.cells #[.int .i64 f.lvl,.slice A2 n2 c2,.slice B2 m2 d2] 142)) (w.1.size+1) f.lvl A2 n2 c2 B2 m2 d2:=NB.new2 w _ _ _ _ _ _ _ _ _;have hw:IntKind.i64.wrap ((n:Int)-1)=(m:Int):=by rw[show (n:Int)-1=(m:Int) by omega];exact IntWalk.i64_in _ (by omega)
 have u7:(0:Int)<=(m:Int):=by omega
 have u8:(m:Int)<=(c:Int):=by omega
 clear hm g3 b5;unfold tv Ym;go_enter func72,ntmps72
 go_wp2_with fail
 generalize ((w.alloc (.cells #[.pointer (some ⟨p,0,none⟩)] 137)).alloc (.cells #[.int .i64 f.lvl,.slice A2 n2 c2,.slice B2 m2 d2] 142))=w1 at b1 T1 N1 ⊢;have z1:=N1.lt;have z0:=b1.size;have bD:Below w1.1.size w1 w1.drew:=(AI _ _).drew;have bA:Below w1.1.size w1 (w1.alloc Uy).drew:=(Qi).drew;have QA:RB (w1.alloc Uy).drew w1.1.size (Jf 0 none 0 0 none 0 0 0 0 false false):=Nc w1;have hK:∀u:WD,Below w1.1.size w1 u->True:=λ_ _=>trivial
 replace j8:=HI j8;go_cut [1,12] from 19 to 25 (λx q wx=>∃(qb:Nat) (A:OA) (n' c':Nat) (B:OA) (mm dd:Nat),x=.slice X m c/\q=.pointer (some ⟨qb,0,none⟩)/\w1.1.size<=qb/\RB wx qb (Jf f.lvl A n' c' B mm dd ad (nx:Int) hd sh)/\Jm (Turn S wx) f A n' c' B mm dd/\Below w1.1.size w1 wx)
 case first=>
  go_region_held3 (λ_=>True)
   (first|(with_reducible assumption)|exact trivial)
   (first
    |(go_at_call 71;(with_reducible refine (W.out w1.drew (j8.out _ (b1.trans (bD.mono b1.size)))).mono ?_);rintro e w3 ⟨A3,n3,c3,B3,m3,d3,rfl,m9,i1⟩;have b2:Below w1.1.size w1 w3:=bD.trans i1;have j7:=b2.alloc b2.size Uy;obtain⟨b5,RQ,TQ,BQ⟩:=qfa j7 b2.size (Nc w3) rfl f.lvl A3 n3 c3 B3 m3 d3 ad (nx:Int) hd sh;have HX:=HI (And.intro RQ (And.intro TQ (And.intro BQ (And.intro j7 b2))));clear RQ TQ BQ j7 i1)
    |(go_at_call 71;(with_reducible refine (W.out (w1.alloc Uy).drew (j8.out _ (b1.trans (bA.mono b1.size)))).mono ?_);rintro e w3 ⟨A3,n3,c3,B3,m3,d3,rfl,m9,i1⟩;have b2:Below w1.1.size w1 w3:=bA.trans (i1.mono bA.size);obtain⟨b5,RQ,TQ,BQ⟩:=qfa b2 (AE _) (QA.below i1 QA.lt) rfl f.lvl A3 n3 c3 B3 m3 d3 ad (nx:Int) hd sh;have HX:=HI (And.intro RQ (And.intro TQ (And.intro BQ (And.intro b2 b2))));clear RQ TQ BQ i1)
    |fail)
  ·obtain⟨RQ,TQ,BQ,j7,_⟩:=HX.out;go_wp2_with fail
   go_meet
   exact⟨w3.1.size,A3,n3,c3,B3,m3,d3,rfl,rfl,b2.size,RQ,m9.mono λv Z=>(Qz (S:=S) (b1.trans (BQ.mono b1.size))).trans Z λk hk=>.inl hk,BQ⟩
  ·obtain⟨RQ,TQ,BQ,j7,_⟩:=HX.out;go_wp2_with fail
   go_meet
   exact⟨w1.1.size,A3,n3,c3,B3,m3,d3,rfl,rfl,AE _,RQ,m9.mono λv Z=>(Qz (S:=S) (b1.trans (BQ.mono b1.size))).trans Z λk hk=>.inl hk,BQ⟩
 case rest=>
  obtain⟨qb,A,n',c',B,mm,dd,rfl,rfl,v1,RQ,e7,BQ⟩:=hcut;have k5:f.size<=20:=by omega
  have k8:=e7.hn;have k7:=e7.hm;have k1:=e7.size;have s3:=qbc e7 i4 hj;have L0:=((Df.start H hb ht hP).below b1).below BQ;have TC:=T1.below BQ T1.lt;have NC:=N1.below BQ N1.lt;have zq:=BQ.size;have Hr:=q9f L0.sys hb L0.tab ⟨f,ad,nx,hd,sh⟩ i4 A n' c' B mm dd e7 i j hi hj k5 b0;unfold tv Vs at Hr;dsimp only at Hr;replace Hr:=HI Hr;have y0:=TC.cell 0 rfl;have f0:=RQ.cell 0 rfl;have f1:=RQ.cell 1 rfl;have f2:=RQ.cell 2 rfl;have f3:=RQ.cell 3 rfl;have f4:=RQ.cell 4 rfl;have f5:=RQ.cell 5 rfl;have f6:=RQ.cell 6 rfl;clear j8 hK QA bA bD W;go_wp2_with fail
  refine Hr.out.mono ?_;rintro e I ⟨rfl,H4,X4,t4⟩;have L4:=L0.step H4 X4 t4 (hP.Q9 b0);have z4:=X4.size;have R4:=RQ.turned X4 (λh=>by have:=hS _ h;omega);have T4:=TC.turned X4 (λh=>by have:=hS _ h;omega);have N4:=NC.turned X4 (λh=>by have:=hS _ h;omega);have TW:Turn S w I:=(Qz (S:=S) (b1.trans (BQ.mono b1.size))).then X4;have p0:Jm (Turn S I) y A2 n2 c2 B2 m2 d2:=hB.mono λv Z=>TW.then Z
  have i5:Jm (Turn S I) f A n' c' B mm dd:=e7.mono λv Z=>X4.then Z
  clear y0 f0 f1 f2 f3 f4 f5 f6 Hr TC NC RQ e7;go_wp2_with fail
  obtain⟨A6,n6,c6,B6,m6,d6,e1,q1,l1⟩:=q8h i5 (i:=0) (j:=i) (AW _) (by omega);obtain⟨A7,n7,c7,B7,m7,d7,e2,q2,l2⟩:=q8h i5 (i:=j) (j:=f.size) (by omega) (qbc i5 i4 (AE _));have b8:=λu=>q3w f.lvl A n' c' B mm dd 0 i (AW _) (by omega) ⟨k8.2.1,k8.2.2⟩ ⟨k7.2.1,k7.2.2⟩ u
  have g7:=λu=>q3w f.lvl A n' c' B mm dd j f.size (by omega) (qbc i5 i4 (AE _)) ⟨k8.2.1,k8.2.2⟩ ⟨k7.2.1,k7.2.2⟩ u
  have HS:=λu=>q26 f.lvl A n' c' B mm dd (by omega) (by omega) u
  rw[e1] at b8;rw[show ((0:Nat):Int)=0 from rfl] at b8;rw[e2] at g7;rw[<-k1] at HS;unfold Ym at b8 g7 HS;replace b8:=HI b8;replace g7:=HI g7;replace HS:=HI HS;clear e1 e2 s3 k1;have b4:=λu=>qsu (Q:=Turn S I) u 142 q1 p0 q2
  rw[l1,l2,i2.out] at b4;have f9:∀u:WD,Bf (Turn S I) ((u.alloc Cj).alloc (.cells #[.int .i64 f.lvl,.slice A6 n6 c6,.slice B6 m6 d6,.int .i64 f.lvl,.slice A2 n2 c2,.slice B2 m2 d2,.int .i64 f.lvl,.slice A7 n7 c7,.slice B7 m7 d7] 142)) (some ⟨u.1.size+1,0,none⟩) 3 3 [f.cut 0 i,y,f.cut j f.size]:=λu=>by
   have:=b4 (u.alloc Cj);rwa [BH] at this
  replace b4:=HI b4;replace f9:=HI f9;have u3:y.items.length<=7/\y.kids.length<=7:=by unfold Nd.size at s0;omega
  have u5:f.items.length<=12/\f.kids.length<=12:=by unfold Nd.size at p7;omega
  have l4:∀k,S k->k<I.1.size:=λk hk=>by have:=hS k hk;omega
  have Hj:∀(S':NP) (_:∀k,S' k->S k\/I.1.size<=k) (u:WD) (_:∀k,S' k->k<u.1.size) (_:Below I.1.size I u) (X:OA) (_:Bf (Turn S I) u X 3 3 [f.cut 0 i,y,f.cut j f.size]),Calls prog 132 #[.slice X 3 3] u λe V=>∃A n c B m d,e=.returned (Ym f.lvl A n c B m d)/\Jm (Turn S' V) (Yg ⟨f,ad,nx,hd,sh⟩ i j y) A n c B m d/\Below u.1.size u V:=λS' r6 u r7 hu X hX=>
   q4e (S:=S') (w:=u) r7 [f.cut 0 i,y,f.cut j f.size] f.lvl l1 X 3 3 (by
    obtain⟨t2,r1,r2,r3⟩:=hX;exact⟨t2,r1,r2,λj r M hr hM=>by
     obtain⟨A',n',c',B',m',d',e',hq⟩:=r3 j r M hr hM;exact⟨A',n',c',B',m',d',e',hq.mono λv Z=>(Qz (S:=S) hu).trans Z r6⟩⟩) (by omega) (by omega)
    (by have h1:=q2l f 0 i;have h2:=q2l f j f.size;simp only[BC,List.flatMap_nil,AD,List.length_nil];omega)
    (by have h1:=q2l f 0 i;have h2:=q2l f j f.size;simp only[BC,List.flatMap_nil,AD,List.length_nil];omega)
  have x0:=R4.lt;have zn:=N4.lt;have cB:∀u,Below I.1.size I u->u.cell? ⟨qb,0,none⟩=some (.int .i64 f.lvl)/\u.cell? ⟨qb,1,none⟩=some (.slice A n' c')/\u.cell? ⟨qb,2,none⟩=some (.slice B mm dd)/\u.cell? ⟨w.1.size+1,0,none⟩=some (.int .i64 f.lvl)/\u.cell? ⟨w.1.size+1,1,none⟩=some (.slice A2 n2 c2)/\u.cell? ⟨w.1.size+1,2,none⟩=some (.slice B2 m2 d2):=λu hu=>
   have s1:=R4.below hu R4.lt;have n1:=N4.below hu N4.lt;⟨s1.cell 0 rfl,s1.cell 1 rfl,s1.cell 2 rfl,n1.c0,n1.c1,n1.c2⟩
  have g8:∀(u:WD) (_:Below I.1.size I u) (q:Nat) (_:I.1.size<=q/\NB u q 0 none 0 0 none 0 0) (X:OA) (_:Bf (Turn S I) u X 3 3 [f.cut 0 i,y,f.cut j f.size]),Calls prog 132 #[.slice X 3 3] u λe V=>∃J U c5 K R O,e=.returned (.agg #[.int .i64 f.lvl,.slice J U c5,.slice K R O])/\Below I.1.size I V/\(stB (.pointer (some ⟨q,0,none⟩)) (.agg #[.int .i64 f.lvl,.slice J U c5,.slice K R O])).run prog V=.ok () (V.setCells q 0 [.int .i64 f.lvl,.slice J U c5,.slice K R O])/\(NB (V.setCells q 0 [.int .i64 f.lvl,.slice J U c5,.slice K R O]) (q) f.lvl J U c5 K R O/\Jm (Turn S (V.setCells q 0 [.int .i64 f.lvl,.slice J U c5,.slice K R O])) (Yg ⟨f,ad,nx,hd,sh⟩ i j y) J U c5 K R O/\Below I.1.size I (V.setCells q 0 [.int .i64 f.lvl,.slice J U c5,.slice K R O])):=by
   intro u hu q hq X hX;refine (Hj (λk=>S k\/k=q) (λk hk=>hk.elim .inl λh=>.inr (by omega)) u (λk hk=>hk.elim (λh=>by have:=l4 k h;have:=hu.size;omega) λh=>by rw[h];exact hq.2.lt) hu X hX).mono ?_;rintro e V ⟨J,U,c5,K,R,O,rfl,h1,h2⟩;have hz:=hq.2.below h2 hq.2.lt;have d4:=hu.trans (h2.mono hu.size);have T8:Turn (λk=>k=q) V (V.setCells q 0 [.int .i64 f.lvl,.slice J U c5,.slice K R O]):=Vp (S:=λk=>k=q) rfl _ 0 V;exact⟨J,U,c5,K,R,O,rfl,d4,qka hz f.lvl J U c5 K R O,hz.stored f.lvl J U c5 K R O,h1.mono λv Z=>(T8.mono λk hk=>.inr hk).then (Z.mono λk hk=>.inl hk),d4.trans (T8.below (λk hk=>by have:k=q:=hk;omega) d4.size)⟩
  have k2:∀(u:WD) (_:Below I.1.size I u) (X:OA) (_:Bf (Turn S I) u X 3 3 [f.cut 0 i,y,f.cut j f.size]),Calls prog 132 #[.slice X 3 3] u λe V=>∃J U c5 K R O,e=.returned (.agg #[.int .i64 f.lvl,.slice J U c5,.slice K R O])/\Below I.1.size I V/\(stB (.pointer (some ⟨V.1.size,0,none⟩)) (.agg #[.int .i64 f.lvl,.slice J U c5,.slice K R O])).run prog (V.alloc Cj)=.ok () ((V.alloc Cj).setCells V.1.size 0 [.int .i64 f.lvl,.slice J U c5,.slice K R O])/\(NB ((V.alloc Cj).setCells V.1.size 0 [.int .i64 f.lvl,.slice J U c5,.slice K R O]) (V.1.size) f.lvl J U c5 K R O/\Jm (Turn S ((V.alloc Cj).setCells V.1.size 0 [.int .i64 f.lvl,.slice J U c5,.slice K R O])) (Yg ⟨f,ad,nx,hd,sh⟩ i j y) J U c5 K R O/\Below I.1.size I ((V.alloc Cj).setCells V.1.size 0 [.int .i64 f.lvl,.slice J U c5,.slice K R O])):=by
   intro u hu X hX;refine (Hj S (λk hk=>.inl hk) u (λk hk=>by have:=l4 k hk;have:=hu.size;omega) hu X hX).mono ?_;rintro e V ⟨J,U,c5,K,R,O,rfl,h1,h2⟩;have hz:=q50 V;have d4:=hu.trans (h2.mono hu.size);have T8:Turn (λk=>k=V.1.size) (V.alloc Cj) ((V.alloc Cj).setCells V.1.size 0 [.int .i64 f.lvl,.slice J U c5,.slice K R O]):=Vp (S:=λk=>k=V.1.size) rfl _ 0 _;have p2:Below V.1.size V ((V.alloc Cj).setCells V.1.size 0 [.int .i64 f.lvl,.slice J U c5,.slice K R O]):=((AI _ _).alloc (AE _) Cj).trans (T8.below (λk hk=>by have:k=V.1.size:=hk;omega) (by simp));exact⟨J,U,c5,K,R,O,rfl,d4,qka hz f.lvl J U c5 K R O,hz.stored f.lvl J U c5 K R O,h1.mono λv Z=>(Qz (S:=S) p2).then Z,d4.trans (p2.mono d4.size)⟩
  have E:Below I.1.size I I.drew:=(AI _ _).drew;have bA:Below I.1.size I (I.alloc Cj).drew:=(Qi).drew;have zA:NB (I.alloc Cj).drew I.1.size 0 none 0 0 none 0 0:=q50 I;replace cB:=HI cB;replace g8:=HI g8;replace k2:=HI k2;replace zA:=HI zA;have o5:=HI L4;have l7:=HI i5;clear Hj hB p0 i5 q1 q2 L0 L4;go_cut [14] from 34 to 47 (λq wx=>∃(qz:Nat) (J:OA) (U c5:Nat) (K:OA) (R O:Nat),q=.pointer (some ⟨qz,0,none⟩)/\I.1.size<=qz/\NB wx qz f.lvl J U c5 K R O/\Jm (Turn S wx) (Yg ⟨f,ad,nx,hd,sh⟩ i j y) J U c5 K R O/\Below I.1.size I wx)
  case first=>
   go_region_held3 (λu=>u.cell? ⟨qb,0,none⟩=some (.int .i64 f.lvl)/\u.cell? ⟨qb,1,none⟩=some (.slice A n' c')/\u.cell? ⟨qb,2,none⟩=some (.slice B mm dd)/\u.cell? ⟨w.1.size+1,0,none⟩=some (.int .i64 f.lvl)/\u.cell? ⟨w.1.size+1,1,none⟩=some (.slice A2 n2 c2)/\u.cell? ⟨w.1.size+1,2,none⟩=some (.slice B2 m2 d2))
    (first|(with_reducible assumption)|(with_reducible exact cB.out _ E)|(with_reducible exact cB.out _ bA)|(with_reducible exact cB.out _ (E.alloc E.size _))|(with_reducible exact cB.out _ ((E.alloc E.size _).alloc (E.alloc E.size _).size _))|(with_reducible exact cB.out _ hF.out.2.2.2))
    (first
     |(go_at_call 133;(with_reducible refine (b8.out _).mono ?_);rintro e wX ⟨rfl,G⟩;(first|(have F:=a6.out;replace a6:=HI (And.intro F.1 (F.2.below G F.2.lt));clear F;replace E:=E.trans (G.mono E.size))|(have a6:=HI (And.intro E.size ((q50 _).below G (by simp)));replace E:=(E.alloc E.size Cj).trans (G.mono (E.alloc E.size Cj).size))|(have a6:=HI (And.intro (AE I.1.size) (zA.out.below G zA.out.lt));replace E:=bA.trans (G.mono bA.size))|(replace E:=E.trans (G.mono E.size)));clear G)
     |(go_at_call 133;(with_reducible refine (g7.out _).mono ?_);rintro e wX ⟨rfl,G⟩;(first|(have F:=a6.out;replace a6:=HI (And.intro F.1 (F.2.below G F.2.lt));clear F;replace E:=E.trans (G.mono E.size))|(have a6:=HI (And.intro E.size ((q50 _).below G (by simp)));replace E:=(E.alloc E.size Cj).trans (G.mono (E.alloc E.size Cj).size))|(have a6:=HI (And.intro (AE I.1.size) (zA.out.below G zA.out.lt));replace E:=bA.trans (G.mono bA.size))|(replace E:=E.trans (G.mono E.size)));clear G)
     |(go_at_call 134;(with_reducible refine (HS.out _).mono ?_);rintro e wX ⟨rfl,G⟩;(first|(have F:=a6.out;replace a6:=HI (And.intro F.1 (F.2.below G F.2.lt));clear F;replace E:=E.trans (G.mono E.size))|(have a6:=HI (And.intro E.size ((q50 _).below G (by simp)));replace E:=(E.alloc E.size Cj).trans (G.mono (E.alloc E.size Cj).size))|(have a6:=HI (And.intro (AE I.1.size) (zA.out.below G zA.out.lt));replace E:=bA.trans (G.mono bA.size))|(replace E:=E.trans (G.mono E.size)));clear G)
     |(go_at_call 132;have F:=a6.out;(with_reducible refine (g8.out _ (E.alloc E.size _) _ (And.intro F.1 (F.2.below (Qi) F.2.lt)) _ (b4.out _)).mono ?_);rintro e wJ ⟨J,U,c5,K,R,O,rfl,bJ,b5,hF⟩;replace E:=bJ;replace hF:=HI (And.intro F.1 hF);clear bJ)
     |(go_at_call 132;(with_reducible refine (k2.out _ (E.alloc E.size _) _ (b4.out _)).mono ?_);rintro e wJ ⟨J,U,c5,K,R,O,rfl,bJ,b5,hF⟩;replace E:=bJ;replace hF:=HI (And.intro bJ.size hF);clear bJ)
     |(go_at_call 132;(with_reducible refine (g8.out _ ((E.alloc E.size _).alloc (E.alloc E.size _).size _) _ (And.intro (Nat.le_succ_of_le E.size) (NB.new2 _ _ 0 none 0 0 none 0 0 142)) _ ((b4.out _).below (Qi))).mono ?_);rintro e wJ ⟨J,U,c5,K,R,O,rfl,bJ,b5,hF⟩;have hz:=E.size;replace hF:=HI (And.intro (Nat.le_succ_of_le hz) hF);replace E:=bJ;clear bJ)
     |(go_at_call 132;(with_reducible refine (g8.out _ ((E.alloc E.size _).alloc (E.alloc E.size _).size _) _ (And.intro E.size ((q50 _).below (Qi) (by simp))) _ (f9.out _)).mono ?_);rintro e wJ ⟨J,U,c5,K,R,O,rfl,bJ,b5,hF⟩;have hz:=E.size;replace hF:=HI (And.intro hz hF);replace E:=bJ;clear bJ)
     |fail)
   all_goals (go_wp2_with fail;go_meet;exact⟨_,_,_,_,_,_,_,rfl,hF.out.1,hF.out.2.1,hF.out.2.2.1,hF.out.2.2.2⟩)
  case rest=>
   obtain⟨qz,J,U,c5,K,R,O,rfl,v2,NZ,p4,BZ⟩:=hcut;have L5:=o5.out.below BZ;have T5:=T4.below BZ T4.lt;have R5:=R4.below BZ R4.lt;have p5:Jm (Turn S wc) f A n' c' B mm dd:=l7.out.mono λv Z=>(Qz (S:=S) BZ).then Z
   have TZ:Turn S w wc:=TW.trans (Qz (S:=S) BZ) λk hk=>.inl hk
   have zz:=BZ.size;have x1:=NZ.lt;obtain⟨p9,b3,q0⟩:=qAt (s:=⟨f,ad,nx,hd,sh⟩) i4 s2 i2.out hi;have q0:(Yg ⟨f,ad,nx,hd,sh⟩ i j y).size<=f.size+y.size:=q0;have b3:(Yg ⟨f,ad,nx,hd,sh⟩ i j y).lvl=f.lvl:=b3;have y0:=T5.cell 0 rfl;have f0:=R5.cell 0 rfl;have f1:=R5.cell 1 rfl;have f2:=R5.cell 2 rfl;have f3:=R5.cell 3 rfl;have f4:=R5.cell 4 rfl;have f5:=R5.cell 5 rfl;have f6:=R5.cell 6 rfl;have g0:=NZ.c0;have g1:=NZ.c1;have g2:=NZ.c2;clear E bA zA b8 g7 HS b4 f9 g8 k2 cB o5 l7
   cases way with
   |nil=>
    obtain⟨m4,k0,m0⟩:=qmq i3.out;obtain rfl:P1=m4:=OI (b0.symm.trans k0);have Ht:=qx2 L5.sys hb L5.tab L5.tidy ⟨f,ad,nx,hd,sh⟩ A n' c' B mm dd p5 (Yg ⟨f,ad,nx,hd,sh⟩ i j y) J U c5 K R O p4 p9 (by omega) (by rw[b3];exact k9) m0;rw[b3] at Ht;unfold tv Vs Ym at Ht;dsimp only at Ht;replace Ht:=HI Ht;obtain rfl:m=0:=k6.symm;clear m0 k0 b0 i3;go_wp2_with fail
    refine Ht.out.mono ?_;rintro e w6 ⟨v,rfl,Z,H6,X6,t6,p6⟩;have L6:=L5.step H6 X6 t6 p6;have TF:=TZ.then X6;go_wp2_with fail
    go_ret2;exact⟨v,rfl,Z,L6.done,TF,t6,p6⟩
   |cons t way=>
    obtain⟨m4,x,P2,P3,r2,k0,d9,l5,n0⟩:=qhx i3.out;obtain rfl:P1=m4:=OI (b0.symm.trans k0);obtain⟨o0,q5,l3,o1,q6,u1⟩:=s9.out;have p1:∀u,Turn S w u->Vr (Turn S w) u X m c (way.reverse++[t]):=λu hu=>by
     have:=(hX u hu).take (show m<=n by omega);have e:((t::way).reverse++[(⟨f,ad,nx,hd,sh⟩:Qy)]).take m=way.reverse++[t]:=by
      have p3:(way.reverse++[t]).length=m:=by rw[<-k6];simp
      rw[List.reverse_cons,<-p3,List.take_left]
     rwa [e] at this
    have u4:way.length+1=m:=k6;have l9:Wq (way.reverse++[t]) (m-1)=t:=by
     have:=q5u way.reverse t;rw[List.length_reverse] at this;rw[show m-1=way.length by omega];exact this
    have c9:=qhu (p1 wc TZ) (by omega) (by omega);rw[l9] at c9;have j9:=qx5 L5.good p9 o0 (by rw[b3];exact l3) (by rw[b3];exact k9.1) q6 d9;have a8:=λ{T2:NP} {w2:WD} {P3:Pl} (h:Ql b w2 d p S0 S T2 D P3)=>a8.out t way rfl h
    obtain⟨tN,i8,e9,i9,j0⟩:=t;unfold Vs at c9;dsimp only at o0 q5 l3 o1 q6 c9;have xl:x.N.lvl=f.lvl:=j9.lvl.trans b3;have gm:¬(m:Int)=0:=by omega
    have o2:=l3;replace o2:=HI o2;have d0:=λ(u:WD) (hu:Below wc.1.size wc u) (A6:OA) (n6 c6:Nat) (B6:OA) (m6 d6:Nat) (hA:KdQ (Turn S u) B6 m6 d6 tN.kids)=>qsz (L5.below hu).sys hb (L5.below hu).tab L5.tidy ⟨f,ad,nx,hd,sh⟩ A n' c' B mm dd (p5.mono λv Z=>(Qz (S:=S) hu).then Z) (Yg ⟨f,ad,nx,hd,sh⟩ i j y) J U c5 K R O (p4.mono λv Z=>(Qz (S:=S) hu).then Z) ⟨tN,i8,e9,i9,j0⟩ A6 n6 c6 B6 m6 d6 hA ⟨by show 1<=tN.lvl;omega,o1⟩ (by show e9<=60;omega) (by omega) d9
    rw[b3,xl] at d0;unfold tv Vs Xt Ym at d0;dsimp only at d0;replace d0:=HI d0;replace c9:=HI c9;have u0:1<=tN.lvl/\tN.lvl<8:=by omega
    have o3:=HI xl;clear k0 b0 i3 hX l9 l3 o1 xl b3;go_wp2_with fail
    refine c9.out.mono ?_;rintro e w6 ⟨A6,n6,c6,B6,m6,d6,rfl,s5,b6⟩;obtain⟨w7,p8,Q7,b7⟩:∃w7,(stS (.pointer (some ⟨w6.1.size,0,none⟩)) (.agg #[.int .i64 tN.lvl,.slice A6 n6 c6,.slice B6 m6 d6,.int .i64 i8,.int .i64 (e9:Int),.bool i9,.bool j0])).run prog (w6.alloc Uy)=.ok () w7/\RB w7 w6.1.size (Jf tN.lvl A6 n6 c6 B6 m6 d6 i8 (e9:Int) i9 j0)/\Below w6.1.size w6 w7:=by
     have T7:Turn (λk=>k=w6.1.size) (w6.alloc Uy) ((w6.alloc Uy).setCells w6.1.size 0 (Jf tN.lvl A6 n6 c6 B6 m6 d6 i8 (e9:Int) i9 j0)):=Vp (S:=λk=>k=w6.1.size) rfl _ 0 _;exact⟨_,qk4 (Nc w6) rfl tN.lvl A6 n6 c6 B6 m6 d6 i8 (e9:Int) i9 j0,(Nc w6).stored (Jf tN.lvl A6 n6 c6 B6 m6 d6 i8 (e9:Int) i9 j0) rfl,((AI _ _).alloc (AE _) Uy).trans (T7.below (λk hk=>by have:k=w6.1.size:=hk;omega) (by simp))⟩
    have d1:=b6.trans (b7.mono b6.size);have z7:=d1.size;have z6:=b6.size;have v8:=Q7.lt;have L7:=L5.below d1;have T7:=T5.below d1 T5.lt;have R7:=R5.below d1 R5.lt;have N7:=NZ.below d1 NZ.lt;have o9:KdQ (Turn S w7) B6 m6 d6 tN.kids:=λv Z=>s5.Ef v ((TZ.trans (Qz (S:=S) d1) λk hk=>.inl hk).then Z)
    clear y0 f0 f1 f2 f3 f4 f5 f6 g0 g1 g2;have y0:=T7.cell 0 rfl;have f0:=R7.cell 0 rfl;have f1:=R7.cell 1 rfl;have f2:=R7.cell 2 rfl;have f3:=R7.cell 3 rfl;have f4:=R7.cell 4 rfl;have f5:=R7.cell 5 rfl;have f6:=R7.cell 6 rfl;have g0:=N7.c0;have g1:=N7.c1;have g2:=N7.c2;have e0:=Q7.cell 0 rfl;have e1:=Q7.cell 1 rfl;have e2:=Q7.cell 2 rfl;have e3:=Q7.cell 3 rfl;have e4:=Q7.cell 4 rfl;have e5:=Q7.cell 5 rfl;have e6:=Q7.cell 6 rfl;go_wp2_with fail
    refine (d0.out w7 d1 A6 n6 c6 B6 m6 d6 o9).mono ?_;rintro e w8 ⟨A8,n8,c8,B8,m8,d8,Y,k,rfl,s6,r8,u6,H8,X8,t8⟩;have L8:=L7.step H8 X8 t8 (qt0 L5.tidy d9);have T8:=T7.turned X8 (λh=>by have:=hS _ h;omega);have z8:=X8.size;clear p8 y0 f0 f1 f2 f3 f4 f5 f6 g0 g1 g2 e0 e1 e2 e3 e4 e5 e6 d0 c9 o9;obtain⟨xi,n4⟩:∃xi,x.i=xi:=⟨_,rfl⟩;obtain⟨xj,n9⟩:∃xj,x.j=xj:=⟨_,rfl⟩;rw[n4,n9];go_wp2_with (first
     |(refine q9e rfl (.tmp 16) _ rfl w8.1.size rfl f.lvl A8 n8 c8 B8 m8 d8 Y k k (xi:Int) (xj:Int) rfl (RB.new w8 (Xt 0 none 0 0 none 0 0 none 0 0 0 0) 217) rfl ?_;intro w9 R9 r4;have b9:Below w8.1.size w8 w9:=(Qi).trans (r4.below (λk hk=>by have:k=w8.1.size:=hk;omega) (by simp));have T9:=T8.below b9 T8.lt;have y0:=T9.cell 0 rfl;have f0:=R9.cell 0 rfl;have f1:=R9.cell 1 rfl;have f2:=R9.cell 2 rfl;have f3:=R9.cell 3 rfl;have f4:=R9.cell 4 rfl;have f5:=R9.cell 5 rfl)
     |fail)
    have L9:=L8.below b9;have z9:=b9.size;have x2:=R9.lt;have s7:Jm (Turn S w9) x.N A8 n8 c8 B8 m8 d8:=s6.mono λv Z=>(Qz (S:=S) b9).then Z
    have r9:∀u,Turn S w9 u->Vr (Turn S w9) u Y k k x.olds:=λu hu=>(r8 u ((Qz (S:=S) b9).then hu)).mono λv Z=>(Qz (S:=S) b9).then Z
    have u9:=j9.size;have Hl:=qmp L9.sys hb L9.tab L9.tidy x A8 n8 c8 B8 m8 d8 s7 j9.fit (by omega) (by rw[o3.out];exact k9) Y k k r9 (by omega) l5 (xi:Int) (xj:Int);rw[o3.out] at Hl;unfold tv Xt Ym at Hl;replace Hl:=HI Hl;refine Hl.out.mono ?_;rintro e a2 ⟨g5,i7,g9,g6,i6,i0,l,rfl,l6,q7,k3,t7,t1⟩;have q9:=L9.step q7 k3 t7 t1;have o8:=T9.turned k3 (λh=>by have:=hS _ h;omega);have o6:=R9.turned k3 (λh=>by have:=hS _ h;omega);have v7:=k3.size;clear y0 f0 f1 f2 f3 f4 f5 Hl;obtain⟨l0,s8,m1,k4⟩:∃l0,(stB (.pointer (some ⟨a2.1.size,0,none⟩)) (.agg #[.int .i64 l,.slice g5 i7 g9,.slice g6 i6 i0])).run prog (a2.alloc Cj)=.ok () l0/\NB l0 a2.1.size l g5 i7 g9 g6 i6 i0/\Below a2.1.size a2 l0:=by
     have TT:Turn (λk=>k=a2.1.size) (a2.alloc Cj) ((a2.alloc Cj).setCells a2.1.size 0 [.int .i64 l,.slice g5 i7 g9,.slice g6 i6 i0]):=Vp (S:=λk=>k=a2.1.size) rfl _ 0 _;exact⟨_,qka (q50 a2) l g5 i7 g9 g6 i6 i0,(q50 a2).stored l g5 i7 g9 g6 i6 i0,((AI _ _).alloc (AE _) Cj).trans (TT.below (λk hk=>by have:k=a2.1.size:=hk;omega) (by simp))⟩
    have a7:=q9.below k4;have r0:=o8.below k4 o8.lt;have o7:=o6.below k4 o6.lt;rcases n0 with⟨rfl,rfl,rfl⟩|⟨ks,rfl,e8⟩
    ·unfold Qap;dsimp only;go_wp2_with fail
     go_ret2;exact⟨0,rfl,λa e=>(by cases e),a7.done,a7.turn,a7.tab,a7.tidy⟩
    ·obtain⟨hl,l8⟩:=l6 ks rfl;have s4:ks.length<=7:=by
      rw[qAu l5];exact qp2 (by omega)
     rw[o3.out] at e8;have HR:=a8 a7.sys a7.tab a7.tidy o0 q5 ⟨by show 0<=tN.lvl;omega,u0.2⟩ (HI u1) (λu hu=>(p1 u (a7.turn.then hu)).mono λv Z=>a7.turn.then Z) ⟨f.lvl+1,[],ks⟩ ⟨λh=>by
       have h:f.lvl+1=0:=h;omega,λ_=>rfl⟩ (by unfold Nd.size;simp;exact s4) o2.out.symm g5 i7 g9 g6 i6 i0 (l8.mono λv Z=>(Qz (S:=S) k4).then Z) x.i x.j j9.ij j9.j e8
     dsimp only at HR;rw[<-hl,n4,n9] at HR;unfold tv Ym at HR;replace HR:=HI HR;have y0:=r0.cell 0 rfl;have f4:=o7.cell 4 rfl;have f5:=o7.cell 5 rfl;have g0:=m1.c0;have g1:=m1.c1;have g2:=m1.c2;clear hl l6 l8 e8 n4 n9;unfold Qap;dsimp only;go_wp2_with fail
     refine HR.out.mono ?_;rintro e v6 ⟨v,rfl,Z,q8,r5,q4,q3⟩;have o4:=a7.step q8 r5 q4 q3;go_wp2_with fail
     go_ret2;exact⟨v,rfl,Z,o4.done,o4.turn,q4,q3⟩
end
end
